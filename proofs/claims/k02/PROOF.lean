import PyProof.Rows.All
import Wide.All
import OpenK.AllK
import Wide.FinOn
import HandS.Base
import HandS.Call
import HandS.List
import HandS.Set
import HandS.SetKeys
import HandS.TupSets
import KE.KDictWalk
import HandS.Iter
import HandS.Walk
import HandS.Strs
import HandS.SetFor
import HandS.Comp
import HandS.Ends
import HandS.Dict
import HandS.Text
import HandS.Words
import HandS.WordsList
import HandS.IsInst
import HandS.Codes
import HandS.TupLen
import PySem.Challenge.RW_twonests_k02_seats_small
set_option Elab.async false
set_option linter.all false
set_option maxRecDepth 100000
set_option maxHeartbeats 4000000
namespace TS2
open PySem PySem.Spec PyProof.Rows L2
section
variable {P : Program} {w : World} {A : Around} {E : Value → Shared → Prop} {s : Shared} {a : Addr} {L : List (Addr × List Int)} {es : Array (Int × Value)} {ep : Nat} {t : SetTable}
abbrev start0 (t : SetTable) (h : Int) : SetTable.Probe := runAt t.mask (SetTable.bits h % (t.mask + 1)) (SetTable.bits h)
theorem nodummy (m : Nat) : ∀ (n : Nat) (p : SetTable.Probe), p.dummy = none → (nth m p n).dummy = none
  | 0, _, h => h
  | n + 1, p, h => nodummy m n (adv m p) (by unfold adv; split <;> exact h)
/-- looking for a tuple, from the c-th step on; K is the first empty slot on its way -/
theorem look_from (R : SetTR P w s.heap a L es ep t) {x : Addr} {k : List Int} (hx : IsT P w s.heap k x) (hu : A.units < cLine) {K : Nat} (hKf : K < 10 * SetTable.turns t.mask)
    (hK : way t.mask (thash P w k) K ∉ t.place.toList) (hKb : ∀ c, c < K → way t.mask (thash P w k) c ∈ t.place.toList) {Q : SetFound → Shared → Prop}
    (hin : k ∈ L.map (·.2) → ∀ i, Q (.there (some i)) s) (hout : k ∉ L.map (·.2) → Q (.free (way t.mask (thash P w k) K) false) s) :
    ∀ (f c : Nat) (stand : Option SetTable.Probe), stand.getD (t.probeStart (thash P w k)) = nth t.mask (start0 t (thash P w k)) c → c ≤ K → K - c < f →
      (∀ (i : Nat) p, L[i]? = some p → p.2 = k → ∃ c', c ≤ c' ∧ c' < K ∧ t.place.toList[i]? = some (way t.mask (thash P w k) c')) →
      wpAny (model P w) A (setSearchFrom a (.ref x) (thash P w k) false f stand) Q E s := by
  intro f
  induction f with
  | zero => intro c _ _ _ h _; exact absurd h (Nat.not_lt_zero _)
  | succ f ih =>
    intro c stand hst hc hf hre
    obtain ⟨o, ho, hex, hd⟩ := R.ob
    rw [setSearchFrom_succ]
    refine wpAny_bind (wpAny_setState_of ho hd R.fits ?_)
    dsimp only
    refine wp_if_neg R.gw ?_
    try refine wpAny_bind (wpAny_pure ?_)
    have jq : ∀ q, (nth t.mask (nth t.mask (start0 t (thash P w k)) c) q).j = way t.mask (thash P w k) (c + q) := fun q => congrArg SetTable.Probe.j (nth_add t.mask c _ q).symm
    have hat : ∀ (i : Nat) p, L[i]? = some p → (fun i => (es[i]?.map (·.1)).getD 0) i = thash P w p.2 := fun i p hp => by
      show (es[i]?.map (·.1)).getD 0 = _
      rw [R.entry hp] <;> rfl
    rcases go_spec t R.tab.ris R.tab.dm (fun i => (es[i]?.map (·.1)).getD 0) (thash P w k) (10 * SetTable.turns t.mask) (K - c) (nth t.mask (start0 t (thash P w k)) c) (nodummy _ _ _ rfl) (by omega)
      (fun q hq => by rw [jq]; exact hKb (c + q) (by omega)) (by rw [jq, show c + (K - c) = K by omega]; exact hK) with ⟨q, i, hq, hi, hh, hno, hpr⟩ | ⟨hno, hpr⟩
    · have hpr2 : t.probe (fun i => (es[i]?.map (·.1)).getD 0) (thash P w k) (stand.getD (t.probeStart (thash P w k))) = some (.candidate (way t.mask (thash P w k) (c + q)) i (nth t.mask (start0 t (thash P w k)) (c + (q + 1)))) := by
        rw [hst, ← jq, nth_add t.mask c _ (q + 1)]
        exact hpr
      rw [hpr2]
      dsimp only
      rw [jq] at hi
      have hil : i < L.length := by
        have h1 := (List.getElem?_eq_some_iff.mp hi).1
        have h2 := R.tab.sz
        rw [List.length_map] at h2
        rw [Array.length_toList] at h1
        omega
      obtain ⟨p, hp⟩ : ∃ p, L[i]? = some p := ⟨_, List.getElem?_eq_getElem hil⟩
      have hpm : p ∈ L := List.mem_of_getElem? hp
      have hsl : t.slot (way t.mask (thash P w k) (c + q)) = .live i := slot_live R.tab.ris hi
      have tail : wpAny (model P w) A (searchRest a (.ref x) (thash P w k) false f es t (way t.mask (thash P w k) (c + q)) i (nth t.mask (start0 t (thash P w k)) (c + (q + 1)))) Q E s := by
        unfold searchRest
        rw [R.entry hp]
        dsimp only
        refine wpAny_bind (wpAny_holding (wpAny_eqBool_tuple hu (R.tup p hpm) hx ?_))
        refine wpAny_bind (wpAny_setState_of ho hd R.fits ?_)
        dsimp only
        refine wp_if_neg (by simp) ?_
        try refine wpAny_bind (wpAny_pure ?_)
        rw [sameMem]
        dsimp only
        simp only [if_true, hsl, R.entry hp]
        refine wpAny_bind (wpAny_isSame_ref_self (wpAny_bind (wpAny_pure ?_)))
        simp only [if_true]
        by_cases hkk : p.2 = k
        · refine wp_if_pos (by simp [hkk]) ?_
          exact wpAny_pure (hin (List.mem_map.mpr ⟨p, hpm, hkk⟩) _)
        · refine wp_if_neg (by simp [hkk]) ?_
          refine ih (c + (q + 1)) _ rfl (by omega) (by omega) fun i0 p0 h0 hk0 => ?_
          obtain ⟨c', a1, a2, a3⟩ := hre i0 p0 h0 hk0
          refine ⟨c', ?_, a2, a3⟩
          by_cases z : c' < c + q
          · exfalso
            refine hno (c' - c) i0 (by omega) (by rw [jq, show c + (c' - c) = c' by omega]; exact a3) ?_
            exact (hat i0 p0 h0).trans (congrArg (thash P w) hk0)
          · by_cases y : c' = c + q
            · exfalso
              rw [y] at a3
              have s0 := slot_live R.tab.ris a3
              rw [hsl] at s0
              injection s0 with s0
              rw [← s0, hp] at h0
              exact hkk ((congrArg Prod.snd (Option.some.inj h0)).trans hk0)
            · omega
      by_cases hl : t.led = true
      · refine wp_if_neg (by simp [hl]) ?_
        try refine wpAny_bind (wpAny_pure ?_)
        exact tail
      · refine wp_if_pos (by simp [hl]) ?_
        refine wpAny_bind (seen_tup hx (fun y hy => ?_) ?_)
        · obtain ⟨e, he, ee⟩ := List.mem_map.mp hy
          have he1 : e ∈ es ∧ e.1 = thash P w k := by simpa using he
          have he2 : e ∈ es.toList := by simpa using he1.1
          rw [R.rows] at he2
          obtain ⟨p2, hp2, e2⟩ := List.mem_map.mp he2
          exact ⟨p2.2, p2.1, by rw [← ee, ← e2], R.tup p2 hp2⟩
        · refine wp_if_neg (by decide) ?_
          try refine wpAny_bind (wpAny_pure ?_)
          exact tail
    · have hpr2 : t.probe (fun i => (es[i]?.map (·.1)).getD 0) (thash P w k) (stand.getD (t.probeStart (thash P w k))) = some (.empty (way t.mask (thash P w k) K) none) := by
        rw [hst, show way t.mask (thash P w k) K = way t.mask (thash P w k) (c + (K - c)) by rw [show c + (K - c) = K by omega], ← jq]
        exact hpr
      rw [hpr2]
      dsimp only
      refine wpAny_pure (hout fun hm => ?_)
      obtain ⟨p0, h0, hk0⟩ := List.mem_map.mp hm
      obtain ⟨i0, hi0, e0⟩ := List.getElem_of_mem h0
      have h00 : L[i0]? = some p0 := by rw [List.getElem?_eq_getElem hi0, e0]
      obtain ⟨c', a1, a2, a3⟩ := hre i0 p0 h00 hk0
      exact hno (c' - c) i0 (by omega) (by rw [jq, show c + (c' - c) = c' by omega]; exact a3) ((hat i0 p0 h00).trans (congrArg (thash P w) hk0))
theorem look_at (R : SetTR P w s.heap a L es ep t) {x : Addr} {k : List Int} (hx : IsT P w s.heap k x) (hu : A.units < cLine) {Q : Option Nat → Shared → Prop}
    (h : ∀ r : Option Nat, r.isSome = decide (k ∈ L.map (·.2)) → Q r s) : wpAny (model P w) A (setFind a (.ref x) (thash P w k)) Q E s := by
  obtain ⟨o, ho, hex, hd⟩ := R.ob
  have hroom := R.room
  obtain ⟨K, hKf, hK, hKb⟩ := R.tab.first (by rw [List.length_map]; omega) (thash P w k)
  have hbig : K < 100000 := by
    have : 10 * SetTable.turns t.mask ≤ 1420 := by
      unfold SetTable.turns
      rcases R.tab.mok with e | e | e <;> omega
    omega
  unfold setFind
  rw [show (100000 : Nat) = 99999 + 1 from rfl]
  unfold setFindIn
  refine wpAny_bind (wpAny_setState_of ho hd R.fits ?_)
  dsimp only
  refine wp_if_neg (by simp [byScan, Value.scannable]) ?_
  try refine wpAny_bind (wpAny_pure ?_)
  refine wpAny_bind ?_
  unfold setSearch
  refine look_from R hx hu hKf hK hKb (fun hn i => ?_) (fun hn => ?_) 100000 0 none rfl (Nat.zero_le _) (by omega) fun i p hp hk => ?_
  · dsimp only
    exact wpAny_pure (h (some i) (by rw [decide_eq_true hn]; rfl))
  · dsimp only
    exact wpAny_pure (h none (by rw [decide_eq_false hn]; rfl))
  · have hi : (L.map fun p => thash P w p.2)[i]? = some (thash P w k) := by rw [List.getElem?_map, hp, ← hk] <;> rfl
    have hil : i < t.place.toList.length := by
      have h1 := (List.getElem?_eq_some_iff.mp hp).1
      have h2 := R.tab.sz
      rw [List.length_map] at h2
      rw [Array.length_toList]
      omega
    have hj := List.getElem?_eq_getElem hil
    obtain ⟨c, hc, e⟩ := R.tab.before hK hi hj
    exact ⟨c, Nat.zero_le _, hc, by rw [hj, e]⟩
theorem rtyp (R : SetTR P w s.heap a L es ep t) : s.TypeIs (.ref a) "set" := by
  obtain ⟨o, ho, hex, _⟩ := R.ob
  exact ⟨o, ho, hex.1⟩
theorem rnoD (R : SetTR P w s.heap a L es ep t) : ∀ b, Value.ref a = .ref b → ∃ ob, s.heap.get? b = some ob ∧ ob.dict = none := by
  obtain ⟨o, ho, hex, _⟩ := R.ob
  intro b e
  injection e with e
  subst e
  exact ⟨o, ho, hex.2.1⟩
theorem in_tup (R : SetTR P w s.heap a L es ep t) {x : Addr} {k : List Int} (hx : IsT P w s.heap k x) (hu : A.units + 8 < cLine) {Q : Value → Shared → Prop}
    (h : ∀ tk, Q (.bool (decide (k ∈ L.map (·.2)))) { s with toks := tk }) : wpAny (model P w) A (compareOp .In (.ref x) (.ref a)) Q E s := by
  show wpAny _ _ (do return .bool (← contains (.ref a) (.ref x))) Q E s
  refine wpAny_bind ?_
  unfold contains
  try with_reducible refine wpAny_holding ?_
  refine wpAny_bind (wpAny_specialOf (rtyp R) F.slot_set_contains.lookup ?_)
  show wpAny _ _ (if (some (Value.builtin "set.__contains__") == some Value.none) = true then _ else _) _ E s
  rw [if_neg (by rw [beq_builtin_none]; exact Bool.false_ne_true)]
  refine wpAny_bind (wpAny_callSpecialUnlessNone?_slot (name := Str.ofString "__contains__") (rtyp R) F.slot_set_contains
    (wpAny_call_entry F.slot_set_contains (rtyp R) entry_set_contains ?_ (F.args_set_contains_2 _ _)))
  unfold Builtin.«frozenset.__contains__» Builtin.Frozenset.oneOther
  simp only [List.isEmpty_nil, bind_assoc]
  unfold Builtin.Frozenset.addrOf Builtin.Frozenset.withSetAsKey setContains
  refine wpAny_bind (wpAny_pure ?_)
  try dsimp only
  refine wpAny_bind (wpAny_pure ?_)
  try dsimp only
  refine wpAny_bind (wpAny_tryCatch ?_)
  refine wpAny_holding ?_
  refine wpAny_bind (wpAny_pyHash_tuple (by show A.units + 1 < cLine; omega) hx ?_)
  refine wpAny_bind (look_at (s := { s with toks := s.toks + (k.length + 1) }) R hx (by show A.units + 1 < cLine; omega) fun r hr => ?_)
  refine wpAny_pure ?_
  show wpAny _ _ (ret (Value.bool r.isSome)) _ _ _
  rw [hr]
  exact wpAny_pure ⟨_, rfl, wpAny_truthy_bool (wpAny_pure (h _))⟩
theorem notin_tup (R : SetTR P w s.heap a L es ep t) {x : Addr} {k : List Int} (hx : IsT P w s.heap k x) (hu : A.units + 8 < cLine) {Q : Value → Shared → Prop}
    (h : ∀ tk, Q (.bool (!decide (k ∈ L.map (·.2)))) { s with toks := tk }) : wpAny (model P w) A (compareOp .NotIn (.ref x) (.ref a)) Q E s := by
  show wpAny _ _ (do return .bool (!(← contains (.ref a) (.ref x)))) Q E s
  refine wpAny_bind ?_
  unfold contains
  try with_reducible refine wpAny_holding ?_
  refine wpAny_bind (wpAny_specialOf (rtyp R) F.slot_set_contains.lookup ?_)
  show wpAny _ _ (if (some (Value.builtin "set.__contains__") == some Value.none) = true then _ else _) _ E s
  rw [if_neg (by rw [beq_builtin_none]; exact Bool.false_ne_true)]
  refine wpAny_bind (wpAny_callSpecialUnlessNone?_slot (name := Str.ofString "__contains__") (rtyp R) F.slot_set_contains
    (wpAny_call_entry F.slot_set_contains (rtyp R) entry_set_contains ?_ (F.args_set_contains_2 _ _)))
  unfold Builtin.«frozenset.__contains__» Builtin.Frozenset.oneOther
  simp only [List.isEmpty_nil, bind_assoc]
  unfold Builtin.Frozenset.addrOf Builtin.Frozenset.withSetAsKey setContains
  refine wpAny_bind (wpAny_pure ?_)
  try dsimp only
  refine wpAny_bind (wpAny_pure ?_)
  try dsimp only
  refine wpAny_bind (wpAny_tryCatch ?_)
  refine wpAny_holding ?_
  refine wpAny_bind (wpAny_pyHash_tuple (by show A.units + 1 < cLine; omega) hx ?_)
  refine wpAny_bind (look_at (s := { s with toks := s.toks + (k.length + 1) }) R hx (by show A.units + 1 < cLine; omega) fun r hr => ?_)
  refine wpAny_pure ?_
  show wpAny _ _ (ret (Value.bool r.isSome)) _ _ _
  rw [hr]
  exact wpAny_pure ⟨_, rfl, wpAny_truthy_bool (wpAny_pure (h _))⟩
/-- a set that bears how it was led -/
theorem newSet_led {Q : Value → Shared → Prop}
    (h : Q (.ref s.heap.objs.size) { s with heap := s.heap.push { cls := .type "set", dict := none, data := .set #[] 0 (.fresh 0 0 (!w.params.followText "set-order")) } }) : wpAny (model P w) A (newSet (.type "set")) Q E s := by
  unfold newSet setsByText
  refine wpAny_bind (wpAny_bind (wpAny_askSetting (wpAny_pure ?_)))
  dsimp only
  simp only [newObj]
  exact wpAny_bind (wpAny_alloc (wpAny_pure h))
/-- set.add of a tuple, at the model's own word -/
theorem add_tup (R : SetTR P w s.heap a L es ep t) {x : Addr} {k : List Int} (hx : IsT P w s.heap k x) (hu : A.units + 1 < cLine) (hfew : L.length + 1 < 64) {Q : Bool → Shared → Prop}
    (hQ : ∀ b tk h' L' es' ep' t', Heap.SameBut a s.heap h' → SetTR P w h' a L' es' ep' t' → (k ∈ L.map (·.2) → L' = L) → (k ∉ L.map (·.2) → L'.Perm ((x, k) :: L)) → Q b { s with heap := h', toks := tk }) :
    wpAny (model P w) A (setAdd a (.ref x)) Q E s := by
  unfold setAdd
  refine wpAny_holding ?_
  refine wpAny_bind (wpAny_pyHash_tuple (by omega) hx ?_)
  exact add_at (s := { s with toks := s.toks + (k.length + 1) }) R hx (by omega) hfew fun b h' L' es' ep' t' sb r c1 c2 => hQ b _ h' L' es' ep' t' sb r c1 c2
end
/-! ### the rules of the layer -/
/-- the set at a holds the tuples of L (address, ints), each tuple tracked -/
def TSet (K : PySem.W.Frag) (P : Program) (w : World) (H : Hp) (a : Addr) (L : List (Addr × List Int)) : Prop := H a = some (SetTO P w a L) ∧ (∀ p ∈ L, SqT K H p.1 (p.2.map V.int))
section
variable {X : Cx} {pins : List (Addr × Obj)} {σ : L2.St} {H : Hp} {s : Shared}
theorem full_of (I : Inv X pins σ H s) {a : Addr} {L : List (Addr × List Int)} (T : TSet X.K X.prog X.w H a L) : ∃ es ep t, SetTR X.prog X.w s.heap a L es ep t :=
  (show SetT0 X.prog X.w s.heap a L from (I.hok a _ T.1).1).full fun p hp => I.isT (T.2 p hp)
def rTIn (K : PySem.W.Frag) (P : Program) (w : World) (neg : Bool) : R2 := fun x y H Q => ∃ (b a : Addr) (k : List Int) (L : List (Addr × List Int)), x = .ref b ∧ y = .ref a ∧ SqT K H b (k.map V.int) ∧ TSet K P w H a L ∧ Q (.bl (if neg then !decide (k ∈ L.map (·.2)) else decide (k ∈ L.map (·.2)))) H
theorem or_tin (hu : X.A.units + 8 < cLine) : OpR X (compareOp .In) (rTIn X.K X.prog X.w false) := by
  intro pins s σ H x y v u Q I rx ry h
  obtain ⟨b, a, k, L, rfl, rfl, hb, ha, q⟩ := h
  cases rx
  cases ry
  obtain ⟨es, ep, t, R⟩ := full_of I ha
  exact in_tup R (I.isT hb) hu fun tk => ⟨.bl _, H, I.tok _, rfl, q⟩
theorem or_tnotin (hu : X.A.units + 8 < cLine) : OpR X (compareOp .NotIn) (rTIn X.K X.prog X.w true) := by
  intro pins s σ H x y v u Q I rx ry h
  obtain ⟨b, a, k, L, rfl, rfl, hb, ha, q⟩ := h
  cases rx
  cases ry
  obtain ⟨es, ep, t, R⟩ := full_of I ha
  exact notin_tup R (I.isT hb) hu fun tk => ⟨.bl _, H, I.tok _, rfl, q⟩
/-- s.add(t) -/
def rTAdd (K : PySem.W.Frag) (P : Program) (w : World) : V → List V → Hp → VK → Prop := fun x xs H Q => ∃ (b a : Addr) (k : List Int) (L : List (Addr × List Int)), x = .ref a ∧ xs = [.ref b] ∧ SqT K H b (k.map V.int) ∧ TSet K P w H a L ∧ L.length + 1 < 64 ∧
  ∀ L', (k ∈ L.map (·.2) → L' = L) → (k ∉ L.map (·.2) → L'.Perm ((b, k) :: L)) → Q .non (upd H a (SetTO P w a L'))
theorem mt_tadd (hu : X.A.units + 8 < cLine) : MtR X "set.add" (rTAdd X.K X.prog X.w) := by
  intro pins s σ H x xs v us Q I rx rxs h
  obtain ⟨b, a, k, L, rfl, rfl, hb, ha, few, q⟩ := h
  cases rx
  cases rxs with
  | cons ry rt =>
    cases rt
    cases ry
    obtain ⟨es, ep, t, R⟩ := full_of I ha
    refine wpAny_call_entry F.slot_set_add (rtyp R) F.entry_set_add ?_ (F.args_set_add_2 _ _)
    unfold Builtin.«set.add» Builtin.Frozenset.oneOther
    simp only [List.isEmpty_nil, bind_assoc]
    unfold Builtin.Frozenset.addrOf
    refine wpAny_bind (wpAny_pure ?_)
    try dsimp only
    refine wpAny_bind (wpAny_pure ?_)
    try dsimp only
    refine wpAny_bind ?_
    refine add_tup R (I.isT hb) (by show X.A.units + 1 + 1 < cLine; omega) few fun r tk h' L' es' ep' t' sb R' c1 c2 => ?_
    show wpAny _ _ (ret Value.none) _ _ _
    have he : ∃ u, h'.get? a = some u := by
      obtain ⟨o, ho, _⟩ := R'.ob
      exact ⟨o, ho⟩
    refine wpAny_pure ⟨_, rfl, .non, upd H a (SetTO X.prog X.w a L'), I.write (e := a) (t' := tk) (by rw [ha.1]; trivial) (.inl rfl) (fun b u hb hu => (sb.2 b hb).trans hu) he (setTO_new R'.t0), rfl, q L' c1 c2⟩
def tTAdd (K : PySem.W.Frag) (P : Program) (w : World) (to : TE) (t : TA) : TE := fun σ H Q => to σ H fun x H1 => (∃ a L, x = V.ref a ∧ TSet K P w H1 a L) ∧ t σ H1 fun xs H2 => rTAdd K P w x xs H2 Q
variable {o e : Expr} {es : List Expr} {to te : TE} {t : TA} {apos cpos : Pos}
theorem pe_tadd (hu : X.A.units + 8 < cLine) (ho : PE X o to) (ha : PA X (e :: es) t)
    (hbase : attributeBase o "add" X.env (eval o X.env) = eval o X.env := by rfl)
    (hfew : ((backTo cpos (starEach (e :: es) X.env)).all (fun x => !x.1) && (backToKw cpos (keywordEach [] X.env)).all (fun x => x.1.isSome)
      && decide ((e :: es).length + ([] : List Keyword).length + (if ([] : List Keyword).isEmpty then 0 else 1) < 30)) = true := by rfl)
    (hline : (apos.endLine == cpos.line) = true := by rfl) (hs : starEach (e :: es) X.env = (false, eval e X.env) :: starEach es X.env := by rfl) (hplain : (backTo cpos (starEach es X.env)).any (·.1) = false := by rfl) :
    PE X (.Call (.Attribute o "add" apos) (e :: es) [] cpos) (tTAdd X.K X.prog X.w to t) := by
  refine ⟨fun pins s σ H Q I h => ?_⟩
  refine wpAny_Call_method_late hbase hfew hline rfl (thn (ho.run pins s σ H _ I h) fun v s1 ⟨x, H1, I1, r1, ty, q1⟩ => ?_)
  obtain ⟨a, L, rfl, hka⟩ := ty
  obtain ⟨es0, ep0, t0, R⟩ := full_of I1 hka
  cases r1
  refine ⟨"set", "set.add", F.plainAttrs_set, F.slot_set_add, F.type_set_add, rtyp R, rnoD R, ?_⟩
  have hA := ha.run cpos pins s1 σ H1 _ I1 q1
  rw [hs] at hA ⊢
  refine Calls.callWith_builtin (by show (false || (backTo cpos (starEach es X.env)).any (·.1)) = false; rw [hplain] <;> rfl) (Calls.evalArgs_plain ?_)
  exact thn hA fun us s2 ⟨vs, H2, I2, r2, q2⟩ => mt_tadd hu pins s2 σ H2 (.ref a) vs (.ref a) us Q I2 rfl r2 q2
/-- {t}, a set display of one tuple -/
def tSet1 (K : PySem.W.Frag) (P : Program) (w : World) (te : TE) : TE := fun σ H Q => ∀ p, H p = none → te σ (upd H p (SetTO P w p [])) fun x H1 => H1 p = some (SetTO P w p []) ∧ ∃ (b : Addr) (k : List Int), x = .ref b ∧ SqT K H1 b (k.map V.int) ∧ Q (.ref p) (upd H1 p (SetTO P w p [(b, k)]))
theorem code_of {K : PySem.W.Frag} {cd : Value} {q : Str} (h : PySem.W.codeIn K cd q = true) : PySem.W.kdsCode K cd = true := by
  unfold PySem.W.codeIn at h
  unfold PySem.W.kdsCode
  cases cd with
  | ref c =>
    dsimp only at h ⊢
    cases e : K.lookup c with
    | none => rw [e] at h; cases h
    | some o =>
      rw [e] at h
      obtain ⟨oc, od, dt, sl⟩ := o
      cases dt <;> first | rfl | cases h
  | _ => cases h
theorem pe_set1 {pos : Pos} (hu : X.A.units + 8 < cLine) (hcd : PySem.W.kdsCode X.K X.env.code = true) (he : PE X e te) (hp : PySem.W.kdsPlain e = true := by rfl) : PE X (.Set [e] 0 pos) (tSet1 X.K X.prog X.w te) := by
  refine ⟨fun pins s σ H Q I h => ?_⟩
  rw [arm_eval_Set]
  refine wpAny_bind (wpAny_standAt ?_)
  refine wpAny_bind (PySem.W.kds_main I.kIn hcd fun b => ?_)
  rw [PySem.W.kds_star [e] (by rw [List.all_cons, hp]; rfl), List.map_map]
  have hroad : (displayRoad 0 [e] == DisplayRoad.constants) = false := by
    unfold displayRoad
    rfl
  have hroad2 : (displayRoad 0 [e] == DisplayRoad.unsure) = false := by
    unfold displayRoad
    rfl
  unfold setDisplay
  rw [hroad, hroad2]
  simp only [Bool.false_eq_true, if_false]
  refine wpAny_bind (newSet_led ?_)
  dsimp only
  rw [arm_evalEach_cons, arm_evalEach_nil]
  simp only [List.map_cons, List.map_nil, List.length_cons, List.length_nil, Function.comp, List.findIdx?_cons, List.findIdx?_nil, Option.map_none, Option.getD_none, Nat.zero_add, gt_iff_lt, Nat.not_lt, show ¬ (30 < 1) by decide, if_false, List.take_succ_cons, List.take_zero, List.drop_succ_cons, List.drop_zero, List.forIn_nil, Bool.false_eq_true, List.take_nil, List.drop_nil]
  have hget : (s.heap.push { cls := .type "set", dict := none, data := .set #[] 0 (.fresh 0 0 (!X.w.params.followText "set-order")) }).get? s.heap.objs.size = some { cls := .type "set", dict := none, data := .set #[] 0 (.fresh 0 0 (!X.w.params.followText "set-order")) } := Heap.get?_push_size _ rfl
  have R0 : SetTR X.prog X.w (s.heap.push { cls := .type "set", dict := none, data := .set #[] 0 (.fresh 0 0 (!X.w.params.followText "set-order")) }) s.heap.objs.size [] #[] 0 (.fresh 0 0 (!X.w.params.followText "set-order")) := setTR_fresh hget
  have I0 := I.laid (a := s.heap.objs.size) (t' := s.toks) (fun b u e => Heap.get?_push_of_some _ e) (Nat.le_refl _) (setTO_new (H := upd H s.heap.objs.size (SetTO X.prog X.w s.heap.objs.size [])) R0.t0)
  refine wpAny_bind (wpAny_holding ?_)
  refine wpAny_bind (wpAny_evalAll_cons ?_)
  refine wpAny_bind (thn (he.run pins _ σ _ _ I0 (h s.heap.objs.size (I.hok.fresh (Nat.le_refl _)))) fun v s1 ⟨x, H1, I1, r1, hp1, b, k, ex, hb, q⟩ => ?_)
  subst ex
  cases r1
  refine wpAny_bind (wpAny_standAt (wpAny_pure ?_))
  refine wpAny_evalAll_nil ?_
  refine wpAny_bind (wpAny_holding ?_)
  rw [List.forIn_cons]
  obtain ⟨es1, ep1, t1, R1⟩ := full_of I1 (L := []) ⟨hp1, fun p hp => by cases hp⟩
  refine wpAny_bind (wpAny_bind (wpAny_bind (add_tup R1 (I1.isT hb) (by omega) (by decide) fun r tk h' L' es' ep' t' sb R' c1 c2 => ?_)))
  refine wpAny_pure ?_
  dsimp only
  rw [List.forIn_nil]
  have eL : L' = [(b, k)] := List.perm_singleton.mp (c2 (by simp))
  subst eL
  have hex : ∃ u, h'.get? s.heap.objs.size = some u := by
    obtain ⟨o, ho, _⟩ := R'.ob
    exact ⟨o, ho⟩
  have I2 := I1.write (e := s.heap.objs.size) (t' := tk) (by rw [hp1]; trivial) (.inl rfl) (fun b u hb hu => (sb.2 b hb).trans hu) hex (setTO_new R'.t0)
  refine wpAny_pure ?_
  refine wpAny_pure ?_
  refine wpAny_bind (wpAny_pure ?_)
  refine wpAny_pure ?_
  exact wpAny_pure ⟨.ref s.heap.objs.size, _, I2, rfl, q⟩
end
end TS2

namespace TS2
open PySem PySem.Spec PyProof.Rows L2
/-! ### for k, v in d.items(), the keys of d tuples: each turn a new pair of the key's own tuple and the value -/
def ItiT (d : Addr) (o : Obj) (kvs : List (List Key × V)) : It :=
  ⟨fun i H => H d = some (.frz o (.dT kvs)) ∧ i < kvs.length,
   fun i H x H' => ∃ (T : Addr) (k : List Key) (v : V) (q : Addr), kvs[i]? = some (k, v) ∧ x = .ref T ∧ H T = none ∧ H q = some (.tup (k.map kV)) ∧ H' = upd H T (.tup [.ref q, v]),
   fun i H => H d = some (.frz o (.dT kvs)) ∧ kvs.length ≤ i⟩
section
variable {P : Program} {w : World} {K : PySem.W.Frag} {d : Addr} {o : Obj}
theorem frzV {X : Cx} {pins : List (Addr × Obj)} {σ : L2.St} {H : Hp} {s : Shared} {kvs : List (List Key × V)} (I : L2.Inv X pins σ H s) (h : H d = some (.frz o (.dT kvs))) :
    (d == sysModules) = false ∧ ∃ (es : Array DictEntry) (ep : Nat), s.heap.DictRaw d es ep ∧ o.data = .dict es ep ∧ es.size = kvs.length ∧
      ∀ (i : Nat) (k : List Key) (v : V), kvs[i]? = some (k, v) → ∃ (en : DictEntry) (q : Addr), es[i]? = some en ∧ en.key = .ref q ∧ RelV v en.val ∧ H q = some (.tup (k.map kV)) := by
  obtain ⟨hd, z, hs, xs, pr, o', es, ep, ho, hx, hdt, he, _⟩ := I.hok d _ h
  rw [hd] at ho
  cases ho
  refine ⟨hs, es, ep, ⟨o, hd, hx, hdt⟩, hdt, (size_of_entries he).trans (Paired.length pr).symm, fun i k v e => ?_⟩
  obtain ⟨b, hb, e1, e2, e3⟩ := L2.paired_get pr e
  have q := entry_at he i
  rw [hb] at q
  exact ⟨_, b.2.1, q, rfl, e3, e2⟩
theorem turn_itemsT {es : Array DictEntry} {ep : Nat} {kvs : List (List Key × V)} {elts : List Expr} {kk : Nat} {tpos : Pos} (it : Addr) (hod : o.data = .dict es ep) :
    Turn P w K (.Tuple elts kk tpos) (ItiT d o kvs) [it] it (fun i h => ∃ ok ov, IsItemIter h it d i kvs.length ep ok ov) where
  mem := List.mem_singleton.mpr rfl
  obj := fun i h ⟨ok, ov, e⟩ b hb => by
    cases List.mem_singleton.mp hb
    exact ⟨_, e, fun v z => nomatch z⟩
  keep := fun i h h' ⟨ok, ov, e⟩ k => ⟨ok, ov, k it (List.mem_singleton.mpr rfl) _ e⟩
  item := by
    intro X hP hw hK hc i pins s σ H E I hf ⟨ok, ov, he⟩ ⟨hd, hi⟩
    subst hP hw hK
    obtain ⟨hs, es', ep', hm, hdt, hsz, ent⟩ := frzV I hd
    obtain ⟨rfl, rfl⟩ := dict_ep hod hdt
    obtain ⟨⟨k, v⟩, hkv⟩ : ∃ p, kvs[i]? = some p := ⟨_, List.getElem?_eq_getElem hi⟩
    obtain ⟨en, q, hen, hkey, rv, hq⟩ := ent i k v hkv
    rw [← hsz] at he hi
    have eE : es'[i] = en := by
      rw [Array.getElem?_eq_getElem hi] at hen
      exact Option.some.inj hen
    have hlt : it < s.heap.objs.size := Heap.lt_size he
    refine wpAny_pyNext_items_item_raw he hm hi fun h' ho hT hz hk => ⟨_, rfl, wpAny_letOwnedTupleGo_items (s := { s with heap := h' }) ho fun h2 he2 sb => ?_⟩
    rw [eE, hkey] at hT
    have hT2 : h2.get? s.heap.objs.size = some { cls := .type "tuple", data := .seq #[.ref q, en.val] } := (sb.2 _ (Nat.ne_of_gt hlt)).trans hT
    have new : ObjOk X.prog X.w (upd H s.heap.objs.size (.tup [.ref q, v])) h2 s.heap.objs.size (.tup [.ref q, v]) :=
      ⟨by show 2 ≤ sizeLine; decide, [.ref q, en.val], .cons rfl (.cons rv .nil), ⟨_, hT2, rfl, _, rfl⟩⟩
    have I1 : L2.Inv X pins σ (upd H s.heap.objs.size (.tup [.ref q, v])) { s with heap := h2 } :=
      I.turnedNew (t' := s.toks) (ch := [it]) (fun b ob hb e => (sb.2 b (fun z => hb (List.mem_singleton.mpr z))).trans (hk b ob (fun z => hb (List.mem_singleton.mpr z)) e)) hf (Nat.le_refl _) new
    refine ⟨.ref s.heap.objs.size, _, I1, rfl, ⟨_, k, v, q, hkv, rfl, I.hok.fresh (Nat.le_refl _), hq, rfl⟩, ⟨en.key, en.val, ?_⟩, fun b hb => ?_⟩
    · rw [← hsz]
      rw [eE] at he2
      exact he2
    · cases List.mem_singleton.mp hb
      rw [upd_ne (Nat.ne_of_lt hlt)]
      exact (hf it (List.mem_singleton.mpr rfl)).1
  done := by
    intro X hP hw hK hc i pins s σ H E I hf ⟨ok, ov, he⟩ ⟨hd, hi⟩
    subst hP hw hK
    obtain ⟨f0, f1, f2, f3, f4, f5⟩ := hf it (List.mem_singleton.mpr rfl)
    obtain ⟨hs, es', ep', hm, hdt, hsz, ent⟩ := frzV I hd
    obtain ⟨rfl, rfl⟩ := dict_ep hod hdt
    rw [← hsz] at he hi
    exact wpAny_pyNext_items_end_raw (I.ok.hd hc) he hm hi fun h' eb => ⟨rfl, I.turned (t' := s.toks) (fun b ob hb e => eb b ob hb e) f0 f1 f3 f4 f5⟩
  self := fun A i s Q E ⟨_, _, e⟩ h => PySem.W.kcp_self e h
end
/-- d.items(), the dict locked -/
def iItemsT (td : TE) : TI := fun σ H R => td σ H fun x H1 => ∃ d o kvs, x = .ref d ∧ H1 d = some (.frz o (.dT kvs)) ∧ R (ItiT d o kvs) H1
theorem pi_itemsT {X : Cx} {e : Expr} {td : TE} {apos cpos : Pos} {elts : List Expr} {kk : Nat} {tpos : Pos} (he : PE X e td) (hbase : attributeBase e "items" X.env (eval e X.env) = eval e X.env := by rfl) (hline : (apos.endLine == cpos.line) = true := by rfl) :
    PI X (.Tuple elts kk tpos) (.Call (.Attribute e "items" apos) [] [] cpos) (iItemsT td) := by
  refine ⟨fun pins s σ H R I h => ?_⟩
  refine wpAny_Call_method (T := "dict") (id := "dict.items") hbase rfl hline F.plainAttrs_dict F.slot_dict_items F.type_dict_items (thn (he.run pins s σ H _ I h) fun u s1 ⟨x, H1, I1, rx, d, o, kvs, ex, hd, q⟩ => ?_)
  subst ex
  obtain rfl : u = Value.ref d := rx
  obtain ⟨hs, es, ep, hm, hdt, hsz, ent⟩ := frzV I1 hd
  obtain ⟨o1, g1, x1, d1⟩ := id hm
  refine ⟨hm.typeIs, fun b e => (by injection e with e; subst e; exact ⟨o1, g1, x1.2.1⟩), ?_⟩
  have I2 : L2.Inv X pins σ H1 { s1 with heap := s1.heap.push { cls := .type "dict_items", data := .fields #[.ref d] } } := I1.kept (t' := s1.toks) fun b ob q => Heap.get?_push_of_some _ q
  have hm2 : (s1.heap.push { cls := .type "dict_items", data := .fields #[.ref d] }).DictRaw d es ep := ⟨o1, Heap.get?_push_of_some _ g1, x1, d1⟩
  have fin : wpAny (model X.prog X.w) X.A (pyIter (.ref s1.heap.objs.size)) (PIE X pins σ (.Tuple elts kk tpos) R) X.xe { s1 with heap := s1.heap.push { cls := .type "dict_items", data := .fields #[.ref d] } } := by
    refine wpAny_pyIter_items_raw (d := d) ⟨_, Heap.get?_push_size _ rfl, rfl, rfl⟩ hm2 (pi_one (tk := s1.toks) I2 _ (turn_itemsT _ hdt) ⟨.none, .none, ?_⟩ q)
    rw [← hsz]
    exact Heap.get?_push_size _ rfl
  show wpAny _ _ (callWith cpos (.builtin "dict.items") [.ref d] [] []) _ X.xe s1
  exact method_meetsIn F.slot_dict_items F.entry_dict_items rfl (PySem.evalArgs_none ⟨rfl, hm.typeIs, F.args_dict_items_1 _, _, meets_dict_items_raw d hs, ⟨⟨es, ep, hm⟩, fin⟩⟩)
theorem walk_itemsT {d : Addr} {o : Obj} {kvs : List (List Key × V)} : Walk (ItiT d o kvs) kvs.length (fun H => H d = some (.frz o (.dT kvs)))
    (fun i H x H' => ∃ (T : Addr) (k : List Key) (v : V) (q : Addr), kvs[i]? = some (k, v) ∧ x = .ref T ∧ H T = none ∧ H q = some (.tup (k.map kV)) ∧ H' = upd H T (.tup [.ref q, v])) :=
  ⟨fun _ _ hi q => ⟨q, hi⟩, fun _ q => ⟨q, Nat.le_refl _⟩, fun _ _ _ _ _ _ y => y⟩
/-! ### set(list of tuples): its members are unlike; len of such a set -/
section
variable {X : Cx}
def rSetT (K : PySem.W.Frag) (P : Program) (w : World) : List V → Hp → VK → Prop := fun xs H Q => ∃ (l : Addr) (ks : List (Addr × List Int)), xs = [V.ref l] ∧ SqL K H l (ks.map fun p => V.ref p.1) ∧ (∀ p ∈ ks, SqT K H p.1 (p.2.map V.int)) ∧ ks.length < 64 ∧
  ∀ a L, H a = none → (∀ p ∈ L, p ∈ ks) → (∀ p ∈ ks, p.2 ∈ L.map (·.2)) → (L.map (·.2)).Nodup → Q (.ref a) (upd H a (SetTO P w a L))
theorem cr_setT (hc : X.calm = true) (hu : X.A.units + 64 < cLine) : CallR X (.type "set") (rSetT X.K X.prog X.w) := by
  intro pins s σ H xs us Q I r h
  obtain ⟨l, ks, rfl, hl, hk, hf, q⟩ := h
  rw [Vals.ref1 r]
  obtain ⟨its, rv, pl, hz⟩ := I.list hl
  have hn : H s.heap.objs.size = none := I.hok.fresh (Nat.le_refl _)
  refine call_set_tups (P := X.prog) (w := X.w) ks (I.ok.hd hc) pl.isList (by simpa using refs_of_vals rv) (fun p hp => I.isT (hk p hp)) hf (by omega) fun h' tk L es ep t R g k => ?_
  exact ⟨.ref s.heap.objs.size, upd H s.heap.objs.size (SetTO X.prog X.w s.heap.objs.size L), I.laid (t' := tk) k (Nat.le_refl _) (setTO_new R.t0), rfl,
    q _ L hn (fun p hp => List.mem_of_mem_take (g.sub p hp)) (fun p hp => g.all p (by rw [List.take_length]; exact hp)) R.nd⟩
def rLenTS (P : Program) (w : World) : List V → Hp → VK → Prop := fun xs H Q => ∃ (a : Addr) (L : List (Addr × List Int)), xs = [.ref a] ∧ H a = some (SetTO P w a L) ∧ Q (.int (L.length : Nat)) H
theorem cr_lenTS : CallR X (.builtin "len") (rLenTS X.prog X.w) := by
  intro pins s σ H xs us Q I r h
  obtain ⟨a, L, rfl, ha, q⟩ := h
  rw [Vals.ref1 r]
  obtain ⟨es, ep, t, ⟨o, ho, hex, hd⟩, rows, tab, nd, pl, ld, room, few⟩ := (show SetT0 X.prog X.w s.heap a L from (I.hok a _ ha).1).ex
  have hl : es.size = L.length := by
    have z := congrArg List.length rows
    unfold rowsOf at z
    rw [Array.length_toList, List.length_map] at z
    exact z
  have hf : t.fits es.size = true := by
    have h1 := tab.sz
    rw [List.length_map] at h1
    unfold SetTable.fits SetTable.fill
    rw [tab.dm, Bool.and_eq_true, beq_iff_eq, decide_eq_true_eq]
    show t.place.size = es.size ∧ t.place.size + 0 ≤ t.mask
    omega
  exact call_len_set ho hex hd hf (by rw [hl]; omega) ⟨.int (L.length : Nat), H, I.tok _, ⟨_, by rw [hl]⟩, q⟩
end
end TS2

namespace TS2
open PySem PySem.Spec PyProof.Rows L2
/-- an empty set as it is made -/
abbrev emptyO (w : World) : Obj := { cls := .type "set", dict := none, data := .set #[] 0 (.fresh 0 0 (!w.params.followText "set-order")) }
section
variable {P : Program} {w : World} {A : Around} {E : Value → Shared → Prop} {s : Shared}
/-- the loop of set's __init__ over a list of ints -/
theorem init_ints {l : Addr} {items : Array Value} (ns : List Int) {R : Result → Shared → Prop} (hh : A.handled = none) (hl : s.heap.IsList l items) (hit : IntsAre items.toList ns) (hb : ns.length + 1 < scanBound)
    (hR : ∀ h' tk c, SetR w h' s.heap.objs.size (fun j => decide (j ∈ ns)) c → c ≤ ns.length → (∀ b o, s.heap.get? b = some o → h'.get? b = some o) → R (.ok (.ret .none)) { s with heap := h', toks := tk }) :
    codeAny (model P w) A (.builtin "set.update.loop" ⟨[.ref s.heap.objs.size, .ref (s.heap.objs.size + 1)], []⟩) R { s with heap := (s.heap.push (emptyO w)).push { cls := .type "list_iterator", data := .fields #[.ref l, .int 0 0] } } := by
  have hisz : items.size = ns.length := by
    have q := IntsAre.length hit
    rwa [Array.length_toList] at q
  have hlS : l < s.heap.objs.size := by
    obtain ⟨o, ho, _⟩ := hl
    exact Heap.lt_size ho
  have z1 : (s.heap.push (emptyO w)).objs.size = s.heap.objs.size + 1 := Heap.size_push ..
  have hl1 : (s.heap.push (emptyO w)).IsList l items := hl.push _
  have hval : ∀ (i : Nat) (v : Value), items[i]? = some v → ∃ k t, ns[i]? = some k ∧ v = .int k t := fun i v hv => by
    have hi : i < ns.length := by rw [← hisz]; exact (Array.getElem?_eq_some_iff.mp hv).1
    obtain ⟨t, e⟩ := PyProof.Rows.IntsAre.int_at hit i v (by rw [Array.getElem?_toList]; exact hv)
    refine ⟨ns[i], t, List.getElem?_eq_getElem hi, ?_⟩
    rw [e, List.getD_eq_getElem?_getD, List.getElem?_eq_getElem hi] <;> rfl
  refine set_update_ints ((Walks.list (I := s.heap.objs.size + 1) (by simp [hh]) l (Nat.ne_of_lt (Nat.lt_succ_of_lt hlS)) items).toS) s.heap.objs.size (by
    simp only [List.mem_cons, List.not_mem_nil, or_false, not_or]
    exact ⟨Nat.ne_of_lt (Nat.lt_succ_self _), Nat.ne_of_gt hlS⟩) ns hisz hb hval (items.size - 0) 0 _ (by omega) (Nat.zero_le _) ⟨⟨_, by rw [← z1]; exact Heap.get?_push_size _ rfl, rfl, rfl⟩, hl1.push _⟩
    ⟨0, Nat.le_refl 0, setR_new_at (Heap.get?_push_of_some _ (Heap.get?_push_size _ rfl))⟩ fun s' c hm hc hS => ?_
  obtain ⟨h', g2, d', tk', os'⟩ := s'
  cases (show g2 = s.gens from hm.gens)
  cases (show d' = s.drawn from hm.drawn)
  cases (show os' = s.os from hm.os)
  rw [hisz] at hc
  refine hR h' tk' c hS hc fun b o e => ?_
  have hb0 : b < s.heap.objs.size := Heap.lt_size e
  refine hm.heap b o ?_ (Heap.get?_push_of_some _ (Heap.get?_push_of_some _ e))
  simp only [List.mem_cons, List.not_mem_nil, or_false, not_or]
  exact ⟨Nat.ne_of_lt hb0, Nat.ne_of_lt (Nat.lt_succ_of_lt hb0)⟩
set_option maxHeartbeats 8000000 in
/-- set(xs), xs a list of ints -/
theorem call_set_intsL {l : Addr} {items : Array Value} (ns : List Int) {Q : Value → Shared → Prop} (hh : A.handled = none) (hl : s.heap.IsList l items) (hit : IntsAre items.toList ns) (hb : ns.length + 1 < scanBound)
    (h : ∀ (h' : Heap) (tk c : Nat), SetR w h' s.heap.objs.size (fun j => decide (j ∈ ns)) c → c ≤ ns.length → (∀ b o, s.heap.get? b = some o → h'.get? b = some o) → Q (.ref s.heap.objs.size) { s with heap := h', toks := tk }) :
    wpAny (model P w) A (call (.type "set") [.ref l]) Q E s := by
  obtain ⟨c, tl, hmro⟩ := F.called_set.mro
  have hmade := F.called_set.made
  have hsub := F.called_set.sub
  refine wpAny_call (codeAny_of_tree ?_)
  show wpAny _ _ (callAny (.type "set") _) _ _ _
  refine wpAny_pure ⟨Code.quiet_builtin _ (by decide +kernel), codeAny_builtin F.entry_type_call ?_⟩
  rw [Around.under_plain (weight_type_call_type "set" [.ref l] []) rfl]
  have k1 := F.called_set.notType
  have k2 := F.called_set.canCreate
  have k3 := F.typeCall_set_1 (.ref l)
  repeat (any_goals (first | assumption | wp_step))
  refine codeAny_mono (code_set_led1 (.ref l) (E := E) (Q₁ := fun obj s1 => obj = .ref s.heap.objs.size ∧ s1 = { s with heap := s.heap.push (emptyO w) }) ⟨rfl, rfl⟩) fun r s1 hr => ?_
  match r, hr with
  | .error e, hr => exact hr
  | .ok (.ret obj), hr =>
    obtain ⟨rfl, rfl⟩ := hr
    have hS : (s.heap.push (emptyO w)).get? s.heap.objs.size = some (emptyO w) := Heap.get?_push_size _ rfl
    have hT : Shared.TypeIs { s with heap := s.heap.push (emptyO w) } (.ref s.heap.objs.size) "set" := ⟨_, hS, rfl⟩
    have k4 := F.called_set.init.lookup
    have k5 := F.called_set.init.bind (.ref s.heap.objs.size)
    repeat (any_goals (first | assumption | wp_step))
    refine codeAny_mono (codeAny_call_builtin (R := wants (fun r s2 => r = .none ∧ ∃ h' tk c, s2 = { s with heap := h', toks := tk } ∧ SetR w h' s.heap.objs.size (fun j => decide (j ∈ ns)) c ∧ c ≤ ns.length ∧
        (∀ b o, s.heap.get? b = some o → h'.get? b = some o)) E) F.called_set.init.plain F.entry_set_init (check_set_init_1 hT ?_)) fun r2 s2 hr2 => ?_
    · obtain ⟨ol, hol, hcl, nl, hdl⟩ := id hl
      obtain ⟨ocls, odict, odata, oslots⟩ := ol
      simp only at hcl hdl
      subst hcl
      subst hdl
      have k6 : (s.heap.push (emptyO w)).get? l = some { cls := .type "list", dict := odict, data := .seq items nl, slots := oslots } := Heap.get?_push_of_some _ hol
      have k7 := F.sub_list_set
      have k8 := F.sub_list_frozenset
      have k9 : (Value.type "list" == Value.type "dict") = false := by decide
      have hl1 : (s.heap.push (emptyO w)).IsList l items := hl.push _
      unfold Builtin.«set.__init__» noKeywords Builtin.Frozenset.updateFrom
      generalize hPI : pyIter = PI
      wp_walk
      subst hPI
      refine wpAny_pyIter_list hl1 ?_
      refine wpAny_bind (wpAny_runValue ?_)
      rw [show (s.heap.push (emptyO w)).objs.size = s.heap.objs.size + 1 from Heap.size_push ..]
      refine init_ints (A := A.in1.in1) ns (by simp [hh]) hl hit hb fun h' tk c a1 a2 a3 => ?_
      refine wpAny_pure ?_
      show wpAny _ _ (ret Value.none) _ _ _
      exact wpAny_pure ⟨rfl, h', tk, c, rfl, a1, a2, a3⟩
    · match r2, hr2 with
      | .error e, hr2 => exact hr2
      | .ok (.ret r), hr2 =>
        obtain ⟨rfl, h', tk, c, rfl, a1, a2, a3⟩ := hr2
        repeat (any_goals (first | assumption | wp_step))
        exact h _ _ _ a1 a2 a3
end
end TS2

namespace TS2
open PySem PySem.Spec PyProof.Rows L2
/-- set(xs), xs a list of ints: which, not in what order; how many, no more than items -/
def rSetL (K : PySem.W.Frag) (w : World) : List V → Hp → VK → Prop := fun xs H Q => ∃ (l : Addr) (ns : List Int), xs = [V.ref l] ∧ SqL K H l (ns.map V.int) ∧ ns.length ≤ 1000 ∧
  ∀ (a : Addr) (ds : List Int), H a = none → ds.Nodup → (∀ k, k ∈ ds ↔ k ∈ ns) → Q (.ref a) (upd H a (SetO w a (fun j => decide (j ∈ ns)) ds.length))
theorem setR_card {w : World} {h : Heap} {a : Addr} {ns : List Int} {c : Nat} (R : SetR w h a (fun j => decide (j ∈ ns)) c) : ∃ ds : List Int, ds.Nodup ∧ ds.length = c ∧ ∀ k, k ∈ ds ↔ k ∈ ns := by
  obtain ⟨o, es, ep, t, ho, hex, hd, hg, nd, hm, _, _, hn, _⟩ := R
  refine ⟨es.toList.map keyOf, nd, ?_, fun k => ?_⟩
  · rw [List.length_map, Array.length_toList, hn]
  · rw [← hm k, decide_eq_true_eq]
section
variable {X : Cx}
theorem cr_setL (hc : X.calm = true) : CallR X (.type "set") (rSetL X.K X.w) := by
  intro pins s σ H xs us Q I r h
  obtain ⟨l, ns, rfl, hl, hz, q⟩ := h
  rw [Vals.ref1 r]
  obtain ⟨its, rv, pl, _⟩ := I.list hl
  have hn : H s.heap.objs.size = none := I.hok.fresh (Nat.le_refl _)
  refine call_set_intsL ns (I.ok.hd hc) pl.isList (by simpa using rv.ints) (by unfold scanBound; omega) fun h' tk c R hcl k => ?_
  obtain ⟨ds, d1, d2, d3⟩ := setR_card R
  refine ⟨.ref s.heap.objs.size, upd H s.heap.objs.size (SetO X.w s.heap.objs.size (fun j => decide (j ∈ ns)) ds.length), ?_, rfl, q _ ds hn d1 d3⟩
  rw [d2]
  exact I.laid (t' := tk) k (Nat.le_refl _) (setO_new R)
end
end TS2

/-! Ways among seats: plain mathematics. -/
namespace Ck
theorem nodup_len {α : Type} [DecidableEq α] : ∀ (l D : List α), l.Nodup → (∀ x ∈ l, x ∈ D) → l.length ≤ D.length
  | [], _, _, _ => Nat.zero_le _
  | a :: l, D, hn, hs => by
    obtain ⟨h1, h2⟩ := List.nodup_cons.mp hn
    have ha : a ∈ D := hs a List.mem_cons_self
    have ih := nodup_len l (D.erase a) h2 fun x hx => by
      have hne : x ≠ a := fun e => h1 (e ▸ hx)
      exact (List.mem_erase_of_ne hne).mpr (hs x (List.mem_cons_of_mem _ hx))
    rw [List.length_erase_of_mem ha] at ih
    have hp : 0 < D.length := List.length_pos_of_mem ha
    rw [List.length_cons]
    omega
/-- a map that is one to one on a list without twins, into D -/
theorem nodup_map_len {α β : Type} [DecidableEq β] (f : α → β) (l : List α) (D : List β) (hn : l.Nodup) (hi : ∀ x ∈ l, ∀ y ∈ l, f x = f y → x = y) (hs : ∀ x ∈ l, f x ∈ D) : l.length ≤ D.length := by
  have h : (l.map f).Nodup := by
    refine List.pairwise_map.mpr ?_
    refine List.Pairwise.imp_of_mem ?_ hn
    intro a b ha hb hab e
    exact hab (hi a ha b hb e)
  have q := nodup_len (l.map f) D h fun x hx => by
    obtain ⟨y, hy, rfl⟩ := List.mem_map.mp hx
    exact hs y hy
  rwa [List.length_map] at q
section
variable {S : Type} [DecidableEq S]
/-- ws begins with s and goes on by nx, without twins -/
structure Chain (nx : S → Option S) (s : S) (ws : List S) : Prop where
  head : ws.head? = some s
  step : ∀ (t : Nat) x y, ws[t]? = some x → ws[t + 1]? = some y → nx x = some y
  nd : ws.Nodup
/-- .. and can't go on -/
structure IsWay (nx : S → Option S) (s : S) (ws : List S) : Prop where
  ch : Chain nx s ws
  stop : ∀ x y, ws.getLast? = some x → nx x = some y → y ∈ ws
theorem Chain.one (nx : S → Option S) (s : S) : Chain nx s [s] where
  head := rfl
  step := fun t x y _ h2 => by simp at h2
  nd := by simp
theorem Chain.ne {nx : S → Option S} {s : S} {ws : List S} (c : Chain nx s ws) : ws ≠ [] := fun e => by
  have := c.head
  rw [e] at this
  cases this
theorem Chain.more {nx : S → Option S} {s : S} {ws : List S} {x y : S} (c : Chain nx s ws) (hl : ws.getLast? = some x) (hx : nx x = some y) (hy : y ∉ ws) : Chain nx s (ws ++ [y]) where
  head := by
    cases ws with
    | nil => cases hl
    | cons a r => exact c.head
  step := fun t a b h1 h2 => by
    by_cases ht : t + 1 < ws.length
    · rw [List.getElem?_append_left (by omega)] at h1
      rw [List.getElem?_append_left ht] at h2
      exact c.step t a b h1 h2
    · have hlt : t + 1 < (ws ++ [y]).length := (List.getElem?_eq_some_iff.mp h2).1
      rw [List.length_append, List.length_singleton] at hlt
      have e : t + 1 = ws.length := by omega
      rw [List.getElem?_append_right (by omega), e, Nat.sub_self] at h2
      have e2 : y = b := by simpa using h2
      rw [List.getElem?_append_left (by omega)] at h1
      have e3 : ws.getLast? = ws[t]? := by
        rw [List.getLast?_eq_getElem?]
        congr 1
        omega
      rw [e3, h1] at hl
      have e4 : a = x := Option.some.inj hl
      rw [e4, ← e2]
      exact hx
  nd := by
    rw [List.nodup_append]
    refine ⟨c.nd, by simp, fun a ha b hb => ?_⟩
    rw [List.mem_singleton.mp hb]
    exact fun e => hy (e ▸ ha)
/-- all but the last go on -/
theorem Chain.goes {nx : S → Option S} {s : S} {ws : List S} (c : Chain nx s ws) {t : Nat} {x : S} (h : ws[t]? = some x) (ht : t + 1 < ws.length) : ∃ y, ws[t + 1]? = some y ∧ nx x = some y := by
  have e : ws[t + 1]? = some ws[t + 1] := List.getElem?_eq_getElem ht
  exact ⟨_, e, c.step t _ _ h e⟩
theorem Chain.len {nx : S → Option S} {s : S} {ws : List S} {α : Type} [DecidableEq α] {f : S → Option α} (c : Chain nx s ws) (D : List α) (hf : ∀ x y, nx x = some y → ∃ n, f x = some n ∧ n ∈ D)
    (inj : ∀ x y n, f x = some n → f y = some n → x = y) : ws.length ≤ D.length + 1 := by
  have h1 : ∀ x ∈ ws.dropLast, ∃ n, f x = some n ∧ n ∈ D := by
    intro x hx
    obtain ⟨t, ht, e⟩ := List.getElem_of_mem hx
    rw [List.length_dropLast] at ht
    have e2 : ws[t]? = some x := by
      rw [← e, List.getElem_dropLast, List.getElem?_eq_getElem]
    obtain ⟨y, _, hy⟩ := c.goes e2 (by omega)
    exact hf x y hy
  have nd : ws.dropLast.Nodup := c.nd.sublist (List.dropLast_sublist ws)
  have q := nodup_map_len f ws.dropLast (D.map some) nd (fun x hx y hy e => by
    obtain ⟨n, hn, _⟩ := h1 x hx
    exact inj x y n hn (by rw [← e]; exact hn)) fun x hx => by
    obtain ⟨n, hn, hd⟩ := h1 x hx
    rw [hn]
    exact List.mem_map.mpr ⟨n, hd, rfl⟩
  rw [List.length_dropLast, List.length_map] at q
  omega
theorem Chain.pre {nx : S → Option S} {s : S} {ws : List S} (c : Chain nx s ws) {vs : List S} (d : Chain nx s vs) : ∀ t, t < ws.length → t < vs.length → ws[t]? = vs[t]? := by
  intro t
  induction t with
  | zero =>
    intro _ _
    rw [← List.head?_eq_getElem?, ← List.head?_eq_getElem?, c.head, d.head]
  | succ t ih =>
    intro h1 h2
    have e := ih (by omega) (by omega)
    obtain ⟨y, hy, ny⟩ := c.goes (List.getElem?_eq_getElem (show t < ws.length by omega)) h1
    obtain ⟨z, hz, nz⟩ := d.goes (List.getElem?_eq_getElem (show t < vs.length by omega)) h2
    rw [List.getElem?_eq_getElem (show t < ws.length by omega), List.getElem?_eq_getElem (show t < vs.length by omega)] at e
    rw [Option.some.inj e, nz] at ny
    rw [hy, hz, Option.some.inj ny]
theorem IsWay.uniq {nx : S → Option S} {s : S} {ws vs : List S} (c : IsWay nx s ws) (d : IsWay nx s vs) : ws = vs := by
  have key : ∀ {ws vs : List S}, IsWay nx s ws → IsWay nx s vs → vs.length ≤ ws.length := by
    intro ws vs c d
    rcases Nat.lt_or_ge ws.length vs.length with h | h
    · exfalso
      have hne : 0 < ws.length := List.length_pos_iff.mpr c.ch.ne
      have hl : ws.getLast? = ws[ws.length - 1]? := List.getLast?_eq_getElem?
      have e0 : ws[ws.length - 1]? = vs[ws.length - 1]? := c.ch.pre d.ch _ (by omega) (by omega)
      obtain ⟨y, hy, ny⟩ := d.ch.goes (List.getElem?_eq_getElem (show ws.length - 1 < vs.length by omega)) (by omega)
      rw [List.getElem?_eq_getElem (show ws.length - 1 < vs.length by omega)] at e0
      have hin := c.stop _ y (hl.trans e0) ny
      obtain ⟨u, hu, eu⟩ := List.getElem_of_mem hin
      have e1 : vs[u]? = some y := by
        rw [← c.ch.pre d.ch u hu (by omega), List.getElem?_eq_getElem hu, eu]
      have e2 : ws.length - 1 + 1 = ws.length := by omega
      rw [e2] at hy
      have hlt := (List.getElem?_eq_some_iff.mp hy).1
      have hult := (List.getElem?_eq_some_iff.mp e1).1
      have a1 := (List.getElem?_eq_some_iff.mp hy).2
      have a2 := (List.getElem?_eq_some_iff.mp e1).2
      have := (List.getElem_inj d.ch.nd (h₀ := hult) (h₁ := hlt)).mp (a2.trans a1.symm)
      omega
    · exact h
  have hl := Nat.le_antisymm (key d c) (key c d)
  refine List.ext_getElem? fun t => ?_
  rcases Nat.lt_or_ge t ws.length with h | h
  · exact c.ch.pre d.ch t h (by omega)
  · rw [List.getElem?_eq_none h, List.getElem?_eq_none (by omega)]
/-! ### moving all on a way one seat on -/
section
variable {α : Type} [DecidableEq α]
/-- what stood at v goes on to the next one -/
def shiftF (f : S → Option α) : List S → Option α → S → Option α
  | [], _ => f
  | v :: r, o => fun s => if s = v then o else shiftF f r (f v) s
theorem shiftF_out (f : S → Option α) : ∀ (ws : List S) (o : Option α) (s : S), s ∉ ws → shiftF f ws o s = f s
  | [], _, _, _ => rfl
  | v :: r, o, s, h => by
    have h1 : s ≠ v := fun e => h (e ▸ List.mem_cons_self)
    have h2 : s ∉ r := fun q => h (List.mem_cons_of_mem _ q)
    show (if s = v then o else shiftF f r (f v) s) = f s
    rw [if_neg h1]
    exact shiftF_out f r (f v) s h2
theorem shiftF_head (f : S → Option α) (v : S) (r : List S) (o : Option α) : shiftF f (v :: r) o v = o := if_pos rfl
theorem shiftF_succ (f : S → Option α) : ∀ (ws : List S) (o : Option α), ws.Nodup → ∀ (t : Nat) x y, ws[t]? = some x → ws[t + 1]? = some y → shiftF f ws o y = f x
  | [], _, _, t, x, y, h, _ => by simp at h
  | v :: r, o, hn, t, x, y, h1, h2 => by
    obtain ⟨n1, n2⟩ := List.nodup_cons.mp hn
    have h2' : r[t]? = some y := by simpa using h2
    have hy : y ∈ r := List.mem_of_getElem? h2'
    have hne : y ≠ v := fun e => n1 (e ▸ hy)
    show (if y = v then o else shiftF f r (f v) y) = f x
    rw [if_neg hne]
    cases t with
    | zero =>
      have e1 : v = x := by simpa using h1
      cases r with
      | nil => cases hy
      | cons b q =>
        have e2 : b = y := by simpa using h2'
        rw [← e2, shiftF_head, e1]
    | succ t =>
      exact shiftF_succ f r (f v) n2 t x y (by simpa using h1) h2'
/-- putting one at a time, from the end: the lists as the loop does them -/
theorem shiftF_set (f : S → Option α) (ws : List S) (hn : ws.Nodup) (n : Nat) (x y : S) (h1 : ws[n]? = some x) (h2 : ws[n + 1]? = some y) :
    (fun s => if s = y then f x else shiftF f (ws.drop (n + 2)) (f y) s) = shiftF f (ws.drop (n + 1)) (f x) := by
  have e : ws.drop (n + 1) = y :: ws.drop (n + 2) := by
    have hlt := (List.getElem?_eq_some_iff.mp h2).1
    rw [List.drop_eq_getElem_cons hlt, (List.getElem?_eq_some_iff.mp h2).2]
  rw [e]
  rfl
end
end
end Ck

/-! Pairs and their seats: plain mathematics. -/
namespace Ck
abbrev Seat := Int × Int
def rowP (p : Int × Int) (r : Int) : Int := if r = 0 then p.1 else p.2
/-- the seat of a pair in a row -/
def seatP (p : Int × Int) (r : Int) : Seat := (r, rowP p r)
theorem seatP0 (p : Int × Int) : seatP p 0 = (0, p.1) := rfl
theorem seatP1 (p : Int × Int) : seatP p 1 = (1, p.2) := rfl
def getP (P : List (Int × Int)) (n : Nat) : Int × Int := P.getD n (0, 0)
/-- the seats are handed out to the first i pairs by f -/
structure Good (P : List (Int × Int)) (i : Nat) (f : Seat → Option Nat) : Prop where
  own : ∀ s n, f s = some n → n < i ∧ (s = seatP (getP P n) 0 ∨ s = seatP (getP P n) 1)
  all : ∀ n, n < i → ∃ s, f s = some n
  inj : ∀ s t n, f s = some n → f t = some n → s = t
/-- the other seat of the pair that has a seat -/
def nxP (P : List (Int × Int)) (f : Seat → Option Nat) (s : Seat) : Option Seat := (f s).map fun n => seatP (getP P n) (1 - s.1)
theorem Good.zero (P : List (Int × Int)) : Good P 0 (fun _ => none) :=
  ⟨fun _ _ h => (by cases h), fun n h => (by omega), fun _ _ _ h => (by cases h)⟩
theorem nxP_some {P : List (Int × Int)} {f : Seat → Option Nat} {s t : Seat} (h : nxP P f s = some t) : ∃ n, f s = some n ∧ t = seatP (getP P n) (1 - s.1) := by
  unfold nxP at h
  cases e : f s with
  | none => rw [e] at h; cases h
  | some n =>
    rw [e] at h
    exact ⟨n, rfl, (Option.some.inj h).symm⟩
theorem Good.rows {P : List (Int × Int)} {i : Nat} {f : Seat → Option Nat} (g : Good P i f) {s : Seat} {n : Nat} (h : f s = some n) : s.1 = 0 ∨ s.1 = 1 := by
  rcases (g.own s n h).2 with e | e <;> rw [e]
  · exact .inl rfl
  · exact .inr rfl
theorem Good.self {P : List (Int × Int)} {i : Nat} {f : Seat → Option Nat} (g : Good P i f) {s : Seat} {n : Nat} (h : f s = some n) : s = seatP (getP P n) s.1 := by
  rcases (g.own s n h).2 with e | e <;> rw [e] <;> rfl
/-- a way is no longer than the pairs that have seats, and one -/
theorem Good.len {P : List (Int × Int)} {i : Nat} {f : Seat → Option Nat} (g : Good P i f) {s : Seat} {ws : List Seat} (c : Chain (nxP P f) s ws) : ws.length ≤ i + 1 := by
  have q := c.len (f := f) (List.range i) (fun x y h => by
    obtain ⟨n, h1, _⟩ := nxP_some h
    exact ⟨n, h1, List.mem_range.mpr (g.own x n h1).1⟩) g.inj
  rwa [List.length_range] at q
theorem getL {α : Type} {l : List α} {x : α} (h : l.getLast? = some x) : ∃ k, l.length = k + 1 ∧ l[k]? = some x := by
  cases hl : l.length with
  | zero =>
    rw [List.length_eq_zero_iff.mp hl] at h
    cases h
  | succ k =>
    rw [List.getLast?_eq_getElem?, hl] at h
    exact ⟨k, rfl, h⟩
/-- the pair i takes the head of an open way -/
theorem Good.take {P : List (Int × Int)} {i : Nat} {f : Seat → Option Nat} (g : Good P i f) {r : Int} (hr : r = 0 ∨ r = 1) {ws : List Seat} (c : Chain (nxP P f) (seatP (getP P i) r) ws) {x : Seat} (hl : ws.getLast? = some x) (hx : f x = none) :
    Good P (i + 1) (shiftF f ws (some i)) := by
  have hd : ws[0]? = some (seatP (getP P i) r) := by rw [← List.head?_eq_getElem?]; exact c.head
  obtain ⟨k, hk, hkx⟩ := getL hl
  -- what stands at each place of the way
  have at0 : shiftF f ws (some i) (seatP (getP P i) r) = some i := by
    cases ws with
    | nil => cases hd
    | cons v q =>
      have e : v = seatP (getP P i) r := by simpa using hd
      rw [← e]
      exact shiftF_head f v q _
  have cases_ : ∀ s n, shiftF f ws (some i) s = some n → (s = seatP (getP P i) r ∧ n = i) ∨ (∃ t y, ws[t]? = some y ∧ ws[t + 1]? = some s ∧ f y = some n) ∨ (s ∉ ws ∧ f s = some n) := by
    intro s n h
    by_cases hs : s ∈ ws
    · obtain ⟨t, ht, e⟩ := List.getElem_of_mem hs
      have es : ws[t]? = some s := by rw [List.getElem?_eq_getElem ht, e]
      cases t with
      | zero =>
        rw [es] at hd
        have e2 : s = seatP (getP P i) r := Option.some.inj hd
        rw [e2, at0] at h
        exact .inl ⟨e2, (Option.some.inj h).symm⟩
      | succ t =>
        have ey : ws[t]? = some ws[t] := List.getElem?_eq_getElem (by omega)
        rw [shiftF_succ f ws _ c.nd t _ s ey es] at h
        exact .inr (.inl ⟨t, _, ey, es, h⟩)
    · rw [shiftF_out f ws _ s hs] at h
      exact .inr (.inr ⟨hs, h⟩)
  refine ⟨fun s n h => ?_, fun n hn => ?_, fun s t n h1 h2 => ?_⟩
  · rcases cases_ s n h with ⟨e, rfl⟩ | ⟨t, y, hy, hs, hf⟩ | ⟨_, hf⟩
    · refine ⟨Nat.lt_succ_self _, ?_⟩
      rcases hr with q | q <;> rw [e, q]
      · exact .inl rfl
      · exact .inr rfl
    · obtain ⟨h1, _⟩ := g.own y n hf
      have e := c.step t y s hy hs
      obtain ⟨m, hm, es⟩ := nxP_some e
      rw [hf] at hm
      cases hm
      refine ⟨by omega, ?_⟩
      rcases g.rows hf with q | q <;> rw [es, q]
      · exact .inr rfl
      · exact .inl rfl
    · obtain ⟨h1, h2⟩ := g.own s n hf
      exact ⟨by omega, h2⟩
  · by_cases e : n = i
    · refine ⟨seatP (getP P i) r, ?_⟩
      rw [e]
      exact at0
    · obtain ⟨s, hs⟩ := g.all n (by omega)
      by_cases hm : s ∈ ws
      · obtain ⟨t, ht, es⟩ := List.getElem_of_mem hm
        have e1 : ws[t]? = some s := by rw [List.getElem?_eq_getElem ht, es]
        have hlt : t + 1 < ws.length := by
          rcases Nat.lt_or_ge (t + 1) ws.length with q | q
          · exact q
          · exfalso
            have : t = k := by omega
            rw [this, hkx] at e1
            rw [← Option.some.inj e1, hx] at hs
            cases hs
        have e2 : ws[t + 1]? = some ws[t + 1] := List.getElem?_eq_getElem hlt
        exact ⟨_, (shiftF_succ f ws _ c.nd t s _ e1 e2).trans hs⟩
      · exact ⟨s, (shiftF_out f ws _ s hm).trans hs⟩
  · have big : ∀ y, f y = some i → False := fun y hy => by
      have := (g.own y i hy).1
      omega
    rcases cases_ s n h1 with ⟨e, rfl⟩ | ⟨a, y, hy, hs, hf⟩ | ⟨hs, hf⟩
    · rcases cases_ t n h2 with ⟨e', _⟩ | ⟨_, y, _, _, hf⟩ | ⟨_, hf⟩
      · rw [e, e']
      · exact (big y hf).elim
      · exact (big t hf).elim
    · rcases cases_ t n h2 with ⟨_, rfl⟩ | ⟨b, z, hz, ht, hf'⟩ | ⟨ht, hf'⟩
      · exact (big y hf).elim
      · have eyz := g.inj y z n hf hf'
        have ha := (List.getElem?_eq_some_iff.mp hy).1
        have hb := (List.getElem?_eq_some_iff.mp hz).1
        have a1 := (List.getElem?_eq_some_iff.mp hy).2
        have b1 := (List.getElem?_eq_some_iff.mp hz).2
        have eab := (List.getElem_inj c.nd (h₀ := ha) (h₁ := hb)).mp (a1.trans (eyz.trans b1.symm))
        rw [eab, ht] at hs
        exact (Option.some.inj hs).symm
      · exfalso
        have := g.inj y t n hf hf'
        exact ht (this ▸ List.mem_of_getElem? hy)
    · rcases cases_ t n h2 with ⟨_, rfl⟩ | ⟨b, z, hz, ht, hf'⟩ | ⟨ht, hf'⟩
      · exact (big s hf).elim
      · exfalso
        have := g.inj s z n hf hf'
        exact hs (this ▸ List.mem_of_getElem? hz)
      · exact g.inj s t n hf hf'
/-- a way that ends in a circle: all its seats are held, and all seats of the pairs on it stand on it -/
theorem closed_held {P : List (Int × Int)} {f : Seat → Option Nat} {s : Seat} {ws : List Seat} (c : Chain (nxP P f) s ws) {x : Seat} (hl : ws.getLast? = some x) {y : Seat} (hx : nxP P f x = some y) (hy : y ∈ ws) : ∀ v ∈ ws, ∃ z, nxP P f v = some z ∧ z ∈ ws := by
  obtain ⟨k, hk, hkx⟩ := getL hl
  intro v hv
  obtain ⟨t, ht, e⟩ := List.getElem_of_mem hv
  have e1 : ws[t]? = some v := by rw [List.getElem?_eq_getElem ht, e]
  rcases Nat.lt_or_ge (t + 1) ws.length with q | q
  · obtain ⟨z, hz, nz⟩ := c.goes e1 q
    exact ⟨z, nz, List.mem_of_getElem? hz⟩
  · have : t = k := by omega
    rw [this, hkx] at e1
    rw [← Option.some.inj e1]
    exact ⟨y, hx, hy⟩
/-- more pairs than places -/
def Crowd (P : List (Int × Int)) (zs : List Int) : Prop :=
  zs.Pairwise (· < ·) ∧ (∀ z ∈ zs, 0 ≤ z ∧ z < P.length) ∧ ∀ D : List Seat, D.Nodup → (∀ d ∈ D, ∃ z ∈ zs, d = seatP (getP P z.toNat) 0 ∨ d = seatP (getP P z.toNat) 1) → D.length < zs.length
/-- rows that seat all pairs -/
def Seated (P : List (Int × Int)) (rs : List Int) : Prop :=
  rs.length = P.length ∧ (∀ r ∈ rs, r = 0 ∨ r = 1) ∧ ∀ i j : Nat, i < P.length → j < P.length → seatP (getP P i) (rs.getD i 0) = seatP (getP P j) (rs.getD j 0) → i = j
/-- the crowd of a pair that finds no seat -/
theorem crowd_of {P : List (Int × Int)} {i : Nat} (hi : i < P.length) {f : Seat → Option Nat} (g : Good P i f) {a b : List Seat} (ca : Chain (nxP P f) (seatP (getP P i) 0) a) (cb : Chain (nxP P f) (seatP (getP P i) 1) b)
    (ha : ∀ v ∈ a, ∃ z, nxP P f v = some z ∧ z ∈ a) (hb : ∀ v ∈ b, ∃ z, nxP P f v = some z ∧ z ∈ b) {zs : List Int} (hz : zs.Pairwise (· < ·)) (hm : ∀ k : Int, k ∈ zs ↔ k = (i : Int) ∨ ∃ v ∈ a ++ b, ∃ n : Nat, f v = some n ∧ k = (n : Int)) : Crowd P zs := by
  have own : ∀ v ∈ a ++ b, ∃ n, f v = some n ∧ n < i ∧ ∃ z, z ∈ a ++ b ∧ z = seatP (getP P n) (1 - v.1) := by
    intro v hv
    rcases List.mem_append.mp hv with h | h
    · obtain ⟨z, nz, hz⟩ := ha v h
      obtain ⟨n, hn, ez⟩ := nxP_some nz
      exact ⟨n, hn, (g.own v n hn).1, z, List.mem_append_left _ hz, ez⟩
    · obtain ⟨z, nz, hz⟩ := hb v h
      obtain ⟨n, hn, ez⟩ := nxP_some nz
      exact ⟨n, hn, (g.own v n hn).1, z, List.mem_append_right _ hz, ez⟩
  have hlt : ∀ z ∈ zs, 0 ≤ z ∧ z < P.length := by
    intro z h
    rcases (hm z).mp h with e | ⟨v, hv, n, hn, e⟩
    · omega
    · obtain ⟨m, hm', hmi, _⟩ := own v hv
      rw [hn] at hm'
      cases hm'
      omega
  refine ⟨hz, hlt, fun D hD hs => ?_⟩
  -- all places of these pairs stand on the two ways
  have inS : ∀ d ∈ D, d ∈ a ++ b := by
    intro d hd
    obtain ⟨z, hzm, ed⟩ := hs d hd
    rcases (hm z).mp hzm with e | ⟨v, hv, n, hn, e⟩
    · have e2 : z.toNat = i := by omega
      rw [e2] at ed
      rcases ed with q | q <;> rw [q]
      · exact List.mem_append_left _ (List.mem_of_getElem? (by rw [← List.head?_eq_getElem?]; exact ca.head))
      · exact List.mem_append_right _ (List.mem_of_getElem? (by rw [← List.head?_eq_getElem?]; exact cb.head))
    · obtain ⟨m, hm', _, y, hy, ey⟩ := own v hv
      rw [hn] at hm'
      cases hm'
      have e2 : z.toNat = n := by omega
      have es := g.self hn
      rw [e2] at ed
      rcases g.rows hn with r0 | r0 <;> rw [r0] at es ey <;> rcases ed with q | q <;> rw [q]
      · exact es ▸ hv
      · exact ey ▸ hy
      · exact ey ▸ hy
      · exact es ▸ hv
  have nd : zs.Nodup := hz.imp (fun h => by omega)
  have hi_in : (i : Int) ∈ zs := (hm _).mpr (.inl rfl)
  have q := nodup_map_len (fun d => (f d).map fun n => (n : Int)) D ((zs.erase (i : Int)).map some) hD (fun x hx y hy e => by
      obtain ⟨n, hn, _⟩ := own x (inS x hx)
      obtain ⟨m, hm', _⟩ := own y (inS y hy)
      have e1 : some (n : Int) = some (m : Int) := by
        have e0 : (f x).map (fun n => (n : Int)) = (f y).map (fun n => (n : Int)) := e
        rw [hn, hm'] at e0
        exact e0
      have e2 := Option.some.inj e1
      have : n = m := by omega
      exact g.inj x y n hn (this ▸ hm')) fun x hx => by
    obtain ⟨n, hn, hni, _⟩ := own x (inS x hx)
    simp only [hn, Option.map_some]
    refine List.mem_map.mpr ⟨(n : Int), ?_, rfl⟩
    refine (List.mem_erase_of_ne (by omega)).mpr ((hm _).mpr (.inr ⟨x, inS x hx, n, hn, rfl⟩))
  rw [List.length_map, List.length_erase_of_mem hi_in] at q
  have hp := List.length_pos_of_mem hi_in
  omega
/-- never both -/
theorem not_both {P : List (Int × Int)} {zs rs : List Int} (c : Crowd P zs) (s : Seated P rs) : False := by
  obtain ⟨hz, hlt, few⟩ := c
  obtain ⟨hl, h01, inj⟩ := s
  have nd : zs.Nodup := hz.imp (fun h => by omega)
  have key : ∀ z ∈ zs, ∀ y ∈ zs, seatP (getP P z.toNat) (rs.getD z.toNat 0) = seatP (getP P y.toNat) (rs.getD y.toNat 0) → z = y := by
    intro z h1 y h2 e
    have q1 := hlt z h1
    have q2 := hlt y h2
    have := inj z.toNat y.toNat (by omega) (by omega) e
    omega
  have hD : (zs.map fun z => seatP (getP P z.toNat) (rs.getD z.toNat 0)).Nodup := by
    refine List.pairwise_map.mpr ?_
    refine List.Pairwise.imp_of_mem ?_ nd
    intro x y hx hy hne e
    exact hne (key x hx y hy e)
  have q := few _ hD fun d hd => by
    obtain ⟨z, h1, rfl⟩ := List.mem_map.mp hd
    have hlz := hlt z h1
    refine ⟨z, h1, ?_⟩
    have hr : rs.getD z.toNat 0 ∈ rs := by
      rw [List.getD_eq_getElem?_getD, List.getElem?_eq_getElem (show z.toNat < rs.length by omega)]
      exact List.getElem_mem _
    rcases h01 _ hr with e | e <;> rw [e]
    · exact .inl rfl
    · exact .inr rfl
  rw [List.length_map] at q
  omega
/-- the rows as they are told -/
theorem seated_of {P : List (Int × Int)} {f : Seat → Option Nat} (g : Good P P.length f) {rs : List Int} (hl : rs.length = P.length) (hr : ∀ s n, f s = some n → rs.getD n 0 = s.1) : Seated P rs := by
  have at_ : ∀ n, n < P.length → ∃ s, f s = some n ∧ s = seatP (getP P n) (rs.getD n 0) := by
    intro n hn
    obtain ⟨s, hs⟩ := g.all n hn
    exact ⟨s, hs, by rw [hr s n hs]; exact g.self hs⟩
  refine ⟨hl, fun r h => ?_, fun i j hi hj e => ?_⟩
  · obtain ⟨t, ht, e⟩ := List.getElem_of_mem h
    obtain ⟨s, hs, _⟩ := at_ t (by omega)
    have e2 := hr s t hs
    rw [List.getD_eq_getElem?_getD, List.getElem?_eq_getElem ht, e] at e2
    have e3 : r = s.1 := e2
    rw [e3]
    exact g.rows hs
  · obtain ⟨s, hs, es⟩ := at_ i hi
    obtain ⟨t, ht, et⟩ := at_ j hj
    have : s = t := es.trans (e.trans et.symm)
    rw [this, ht] at hs
    exact (Option.some.inj hs).symm
end Ck

/-! How seats, pairs and the dict of seats stand in the heap. -/
namespace TS2
open PySem L2 Ck
theorem hu8 {A : Around} {k : Nat} (hr : Room k A) : A.units + 8 < cLine := Nat.lt_of_le_of_lt (Nat.add_le_add_left (by decide : 8 ≤ 64) _) hr.units
theorem hcd {K : PySem.W.Frag} {cd : Value} {q : Str} (h : PySem.W.codeIn K cd q = true) : PySem.W.kdsCode K cd = true := code_of h
/-- a def whose code object is asked for, too -/
theorem okC {P : Program} {w : World} {K : PySem.W.Frag} {mg : Str → Option Value} {base : Heap} {x qual : Str} {st : Stmt} {f : Addr} {fd : FuncData} {N ps : List Str} {k : Nat} {sp : Sp} (F : Fun K x qual st f fd) (S : FnScope N ps (defScope st)) (len : ∀ vs H Q E, sp vs H Q E → vs.length = ps.length)
    (hbody : ∀ (cdv : Value) (A : Around) (outer : List Env) (s : Shared) (H : Hp) (vs : List V) (Q : VK) (E : XK), PySem.W.codeIn K cdv qual = true → Room k (A.deeper (PyProof.Rows.envOfC qual (defScope st) s.heap.objs.size f cdv)) → sp vs H Q E →
      ∃ t, PSs (cxOf CX0 P w K mg base N qual (defScope st) f cdv A outer s H E).nox (defBody st) t ∧ t { nx := fun _ H' => Q .non H', rt := Q } (start N vs) H) : FnOk P w K mg base CX0 (k + 1) f fd ps sp := by
  obtain ⟨oc, od, kV, doc, pm, an, cdv, ct, osl, rfl, lk, hcd⟩ := F.ex
  refine fn_of lk hcd S len fun A outer s H vs Q E hr hsp => ?_
  obtain ⟨t, h, q⟩ := hbody cdv A outer s H vs Q E hcd hr hsp
  exact ⟨t, h.nox, q⟩
def sk (s : Seat) : List Key := [.inl s.1, .inl s.2]
def sv (s : Seat) : List V := [.int s.1, .int s.2]
def sl (s : Seat) : List Int := [s.1, s.2]
theorem sk_inj {s t : Seat} (h : sk s = sk t) : s = t := by
  obtain ⟨a, b⟩ := s
  obtain ⟨c, d⟩ := t
  simp only [sk, List.cons.injEq, Sum.inl.injEq, and_true] at h
  rw [h.1, h.2]
theorem sl_inj {s t : Seat} (h : sl s = sl t) : s = t := by
  obtain ⟨a, b⟩ := s
  obtain ⟨c, d⟩ := t
  simp only [sl, List.cons.injEq, and_true] at h
  rw [h.1, h.2]
/-- the dict's pairs tell f -/
structure HeldIs (kvs : List (List Key × V)) (f : Seat → Option Nat) : Prop where
  val : ∀ s, valV kvs (sk s) = (f s).map fun n => V.int (n : Int)
  ent : ∀ e ∈ kvs, ∃ s n, e = (sk s, V.int ((n : Nat) : Int)) ∧ f s = some n
  nd : (kvs.map (·.1)).Nodup
theorem HeldIs.nil : HeldIs [] (fun _ => none) := ⟨fun _ => rfl, fun _ h => (by cases h), List.nodup_nil⟩
theorem keys_putK {κ : Type} [DecidableEq κ] (kvs : List (κ × V)) (k : κ) (v : V) : ((putK kvs k v).map (·.1)).Nodup ↔ (kvs.map (·.1)).Nodup := by
  unfold putK
  split
  · rename_i h
    rw [List.map_map]
    have e : (kvs.map ((fun x => x.1) ∘ fun kv => if kv.1 = k then (kv.1, v) else kv)) = kvs.map (·.1) := by
      refine List.map_congr_left fun x _ => ?_
      show (if x.1 = k then (x.1, v) else x).1 = x.1
      split <;> rfl
    rw [e]
  · rename_i h
    rw [List.map_append, List.nodup_append]
    refine ⟨fun q => q.1, fun q => ⟨q, by simp, fun a ha b hb => ?_⟩⟩
    have hb2 : b = k := by simpa using hb
    rw [hb2]
    intro e
    obtain ⟨x, hx, ex⟩ := List.mem_map.mp ha
    exact h (List.any_eq_true.mpr ⟨x, hx, decide_eq_true (ex.trans e)⟩)
theorem mem_putK {κ : Type} [DecidableEq κ] {kvs : List (κ × V)} {k : κ} {v : V} {e : κ × V} (h : e ∈ putK kvs k v) : e = (k, v) ∨ (e ∈ kvs ∧ e.1 ≠ k) := by
  unfold putK at h
  split at h
  · obtain ⟨x, hx, ex⟩ := List.mem_map.mp h
    by_cases q : x.1 = k
    · rw [if_pos q] at ex
      exact .inl (by rw [← ex, q])
    · rw [if_neg q] at ex
      exact .inr (ex ▸ ⟨hx, q⟩)
  · rename_i hn
    rcases List.mem_append.mp h with q | q
    · refine .inr ⟨q, fun z => hn (List.any_eq_true.mpr ⟨e, q, decide_eq_true z⟩)⟩
    · exact .inl (List.mem_singleton.mp q)
theorem HeldIs.put {kvs : List (List Key × V)} {f : Seat → Option Nat} (h : HeldIs kvs f) (s : Seat) (n : Nat) : HeldIs (putK kvs (sk s) (.int (n : Int))) (fun t => if t = s then some n else f t) where
  val := fun t => by
    rw [valV_put]
    by_cases e : t = s
    · rw [if_pos (by rw [e]), if_pos e]
      rfl
    · rw [if_neg (fun q => e (sk_inj q)), if_neg e]
      exact h.val t
  ent := fun e he => by
    rcases mem_putK he with q | ⟨q, hk⟩
    · exact ⟨s, n, q, if_pos rfl⟩
    · obtain ⟨t, m, rfl, hm⟩ := h.ent e q
      refine ⟨t, m, rfl, ?_⟩
      rw [if_neg (fun z => hk (by rw [z]))]
      exact hm
  nd := (keys_putK _ _ _).mpr h.nd
theorem HeldIs.len {kvs : List (List Key × V)} {P : List (Int × Int)} {i : Nat} {f : Seat → Option Nat} (h : HeldIs kvs f) (g : Good P i f) : kvs.length ≤ i := by
  have q := nodup_map_len (fun k : List Key => (kvs.find? fun kv => decide (kv.1 = k)).map (·.2)) (kvs.map (·.1)) ((List.range i).map fun n => some (V.int ((n : Nat) : Int))) h.nd (fun x hx y hy e => by
      obtain ⟨e1, h1, rfl⟩ := List.mem_map.mp hx
      obtain ⟨e2, h2, rfl⟩ := List.mem_map.mp hy
      obtain ⟨s, n, rfl, hs⟩ := h.ent e1 h1
      obtain ⟨t, m, rfl, ht⟩ := h.ent e2 h2
      have a1 := h.val s
      have a2 := h.val t
      rw [hs] at a1
      rw [ht] at a2
      have e3 : valV kvs (sk s) = valV kvs (sk t) := e
      rw [a1, a2] at e3
      have e4 : ((n : Nat) : Int) = (m : Int) := V.int.inj (Option.some.inj e3)
      have e5 : n = m := by omega
      rw [g.inj s t n hs (e5 ▸ ht)]) fun x hx => by
    obtain ⟨e1, h1, rfl⟩ := List.mem_map.mp hx
    obtain ⟨s, n, rfl, hs⟩ := h.ent e1 h1
    have a1 := h.val s
    rw [hs] at a1
    exact List.mem_map.mpr ⟨n, List.mem_range.mpr (g.own s n hs).1, a1.symm⟩
  rwa [List.length_map, List.length_map, List.length_range] at q
section
variable {K : PySem.W.Frag} {H H' : Hp} {a d : Addr}
theorem same_t {xs : List V} (e : Same H H') (h : SqT K H a xs) : SqT K H' a xs := by
  rcases h with (h | ⟨o, h⟩) | h
  · exact .inl (.inl (e _ _ h))
  · exact .inl (.inr ⟨o, e _ _ h⟩)
  · exact .inr h
theorem same_new {p : Addr} {o : HO} (h : H p = none) : Same H (upd H p o) := fun b x e => by
  rw [upd_ne (ne_of_none e h)]
  exact e
/-- what H does not know may change behind it -/
theorem same_mut {p : Addr} {o : HO} (e : Same H H') (h : H p = none) : Same H (upd H' p o) := fun b x z => by
  rw [upd_ne (ne_of_none z h)]
  exact e b x z
/-- all but the object at d stands -/
def But (d : Addr) (H H' : Hp) : Prop := ∀ b o, b ≠ d → H b = some o → H' b = some o
theorem But.refl (d : Addr) (H : Hp) : But d H H := fun _ _ _ h => h
theorem But.trans {H1 : Hp} (x : But d H H1) (y : But d H1 H') : But d H H' := fun b o n h => y b o n (x b o n h)
theorem Same.but (e : Same H H') : But d H H' := fun b o _ h => e b o h
theorem but_upd {o : HO} : But d H (upd H d o) := fun b x n h => by
  rw [upd_ne n]
  exact h
theorem but_l {xs : List V} {kvs : List (List Key × V)} (e : But d H H') (hd : H d = some (.dT kvs)) (h : SqL K H a xs) : SqL K H' a xs := by
  rcases h with (h | ⟨o, h⟩) | h
  · exact .inl (.inl (e _ _ (ne_of h hd (by intro z; cases z)) h))
  · exact .inl (.inr ⟨o, e _ _ (ne_of h hd (by intro z; cases z)) h⟩)
  · exact .inr h
theorem but_t {xs : List V} {kvs : List (List Key × V)} (e : But d H H') (hd : H d = some (.dT kvs)) (h : SqT K H a xs) : SqT K H' a xs := by
  rcases h with (h | ⟨o, h⟩) | h
  · exact .inl (.inl (e _ _ (ne_of h hd (by intro z; cases z)) h))
  · exact .inl (.inr ⟨o, e _ _ (ne_of h hd (by intro z; cases z)) h⟩)
  · exact .inr h
/-- the list of pairs at a -/
def PairsAt (K : PySem.W.Frag) (H : Hp) (a : Addr) (P : List (Int × Int)) : Prop := ∃ ts : List Addr, SqL K H a (ts.map V.ref) ∧ ts.length = P.length ∧ ∀ (n : Nat) t, ts[n]? = some t → SqT K H t [.int (getP P n).1, .int (getP P n).2]
theorem PairsAt.same {P : List (Int × Int)} (x : PairsAt K H a P) (e : Same H H') : PairsAt K H' a P := by
  obtain ⟨ts, h1, h2, h3⟩ := x
  exact ⟨ts, e.seq h1, h2, fun n t h => same_t e (h3 n t h)⟩
theorem PairsAt.but {P : List (Int × Int)} {kvs : List (List Key × V)} (x : PairsAt K H a P) (e : But d H H') (hd : H d = some (.dT kvs)) : PairsAt K H' a P := by
  obtain ⟨ts, h1, h2, h3⟩ := x
  exact ⟨ts, but_l e hd h1, h2, fun n t h => but_t e hd (h3 n t h)⟩
/-- tuples of seats -/
def TupsAt (H : Hp) (L : List (Addr × Seat)) : Prop := ∀ p ∈ L, H p.1 = some (.tup (sv p.2))
theorem TupsAt.same {L : List (Addr × Seat)} (x : TupsAt H L) (e : Same H H') : TupsAt H' L := fun p h => e _ _ (x p h)
theorem TupsAt.but {L : List (Addr × Seat)} {kvs : List (List Key × V)} (x : TupsAt H L) (e : But d H H') (hd : H d = some (.dT kvs)) : TupsAt H' L := fun p h => e _ _ (ne_of (x p h) hd (by intro z; cases z)) (x p h)
abbrev refs (L : List (Addr × Seat)) : List V := L.map fun p => V.ref p.1
theorem tset_same {P : Program} {w : World} {L : List (Addr × List Int)} (x : TSet K P w H a L) (e : Same H H') : TSet K P w H' a L := ⟨e _ _ x.1, fun p h => same_t e (x.2 p h)⟩
end
theorem atI_end {α : Type} {l : List α} {x : α} (h : l.getLast? = some x) : atI l (-1) = some x := by
  have e : l = l.dropLast ++ [x] := by
    cases l with
    | nil => cases h
    | cons a r =>
      have h2 := List.getLast?_eq_some_getLast (List.cons_ne_nil a r)
      rw [h2] at h
      rw [← Option.some.inj h]
      exact (List.dropLast_concat_getLast (List.cons_ne_nil a r)).symm
  rw [e]
  exact atI_last _ _
/-- a comprehension's element where there is no test -/
theorem lc_yes {σ : L2.St} {H : Hp} {te : TE} {k : V → Hp → Prop} {B : Hp → Prop} (h : te σ H k) : tYes σ H (fun b H3 => if b = true then te σ H3 k else B H3) := by
  show (if true = true then te σ H k else B H)
  exact iteT h
end TS2

namespace K2
open PySem L2 Ck TS2
def top (i : Nat) : Stmt := PySem.Challenge.pw_twonests_k02_seats_small.main.body.getD i (.Pass ⟨0, 0, 0, 0⟩)
abbrev s_seated : Stmt := top 1
abbrev s__way : Stmt := top 2
abbrev s__other : Stmt := top 3
abbrev s__take : Stmt := top 4
abbrev s__crowd : Stmt := top 5
abbrev s__rows : Stmt := top 6
abbrev s__law_cell_at : Stmt := top 8
abbrev s__law_mixed : Stmt := top 9
abbrev s__law_places : Stmt := top 10
abbrev s__law_unlike : Stmt := top 11
abbrev s__law_can : Stmt := top 12
abbrev s__law_numbers : Stmt := top 13
abbrev s__law_few : Stmt := top 14
abbrev s__law_right : Stmt := top 15
abbrev s_law : Stmt := top 16
theorem sc_seated : FnScope ["pairs", "held", "number", "pair", "lower", "upper"] ["pairs"] (defScope s_seated) := ⟨rfl, rfl, rfl, by decide +kernel, rfl, by decide +kernel, by decide +kernel⟩
theorem sc__way : FnScope ["pairs", "held", "seat", "way", "seen", "other"] ["pairs", "held", "seat"] (defScope s__way) := ⟨rfl, rfl, rfl, by decide +kernel, rfl, by decide +kernel, by decide +kernel⟩
theorem sc__other : FnScope ["pairs", "held", "seat", "pair", "row"] ["pairs", "held", "seat"] (defScope s__other) := ⟨rfl, rfl, rfl, by decide +kernel, rfl, by decide +kernel, by decide +kernel⟩
theorem sc__take : FnScope ["held", "way", "number", "at"] ["held", "way", "number"] (defScope s__take) := ⟨rfl, rfl, rfl, by decide +kernel, rfl, by decide +kernel, by decide +kernel⟩
theorem sc__crowd : FnScope ["held", "seats", "number", "seat"] ["held", "seats", "number"] (defScope s__crowd) := ⟨rfl, rfl, rfl, by decide +kernel, rfl, by decide +kernel, by decide +kernel⟩
theorem sc__rows : FnScope ["held", "many", "rows", "seat", "number"] ["held", "many"] (defScope s__rows) := ⟨rfl, rfl, rfl, by decide +kernel, rfl, by decide +kernel, by decide +kernel⟩
theorem sc__law_cell_at : FnScope ["_law_script", "_law_k"] ["_law_script", "_law_k"] (defScope s__law_cell_at) := ⟨rfl, rfl, rfl, by decide +kernel, rfl, by decide +kernel, by decide +kernel⟩
theorem sc__law_mixed : FnScope ["_law_cell", "_law_k", "_law_mix"] ["_law_cell", "_law_k"] (defScope s__law_mixed) := ⟨rfl, rfl, rfl, by decide +kernel, rfl, by decide +kernel, by decide +kernel⟩
theorem sc__law_places : FnScope ["_law_pairs", "_law_rows", "_law_k"] ["_law_pairs", "_law_rows"] (defScope s__law_places) := ⟨rfl, rfl, rfl, by decide +kernel, rfl, by decide +kernel, by decide +kernel⟩
theorem sc__law_unlike : FnScope ["_law_places_here"] ["_law_places_here"] (defScope s__law_unlike) := ⟨rfl, rfl, rfl, by decide +kernel, rfl, by decide +kernel, by decide +kernel⟩
theorem sc__law_can : FnScope ["_law_pairs", "_law_code", "_law_rows", "_law_k"] ["_law_pairs"] (defScope s__law_can) := ⟨rfl, rfl, rfl, by decide +kernel, rfl, by decide +kernel, by decide +kernel⟩
theorem sc__law_numbers : FnScope ["_law_found", "_law_least", "_law_most", "_law_number"] ["_law_found", "_law_least", "_law_most"] (defScope s__law_numbers) := ⟨rfl, rfl, rfl, by decide +kernel, rfl, by decide +kernel, by decide +kernel⟩
theorem sc__law_few : FnScope ["_law_pairs", "_law_numbers_here", "_law_places_here", "_law_k"] ["_law_pairs", "_law_numbers_here"] (defScope s__law_few) := ⟨rfl, rfl, rfl, by decide +kernel, rfl, by decide +kernel, by decide +kernel⟩
theorem sc__law_right : FnScope ["_law_found", "_law_pairs"] ["_law_found", "_law_pairs"] (defScope s__law_right) := ⟨rfl, rfl, rfl, by decide +kernel, rfl, by decide +kernel, by decide +kernel⟩
theorem sc_law : FnScope ["_law_script", "_law_most", "_law_pairs", "_law_k", "_law_mix", "_law_handed", "_law_found"] ["_law_script"] (defScope s_law) := ⟨rfl, rfl, rfl, by decide +kernel, rfl, by decide +kernel, by decide +kernel⟩
/-- where the defs stand -/
structure Ad where
  a_seated : Addr
  d_seated : FuncData
  a__way : Addr
  d__way : FuncData
  a__other : Addr
  d__other : FuncData
  a__take : Addr
  d__take : FuncData
  a__crowd : Addr
  d__crowd : FuncData
  a__rows : Addr
  d__rows : FuncData
  a__law_cell_at : Addr
  d__law_cell_at : FuncData
  a__law_mixed : Addr
  d__law_mixed : FuncData
  a__law_places : Addr
  d__law_places : FuncData
  a__law_unlike : Addr
  d__law_unlike : FuncData
  a__law_can : Addr
  d__law_can : FuncData
  a__law_numbers : Addr
  d__law_numbers : FuncData
  a__law_few : Addr
  d__law_few : FuncData
  a__law_right : Addr
  d__law_right : FuncData
  a_law : Addr
  d_law : FuncData
/-- what the top has left -/
structure Tx (K : PySem.W.Frag) (mg : Str → Option Value) (A : Ad) : Prop where
  F_seated : Fun K "seated" "seated" s_seated A.a_seated A.d_seated
  g_seated : mg "seated" = some (.ref A.a_seated)
  b_seated : Binds K A.d_seated ["pairs"] []
  F__way : Fun K "_way" "_way" s__way A.a__way A.d__way
  g__way : mg "_way" = some (.ref A.a__way)
  b__way : Binds K A.d__way ["pairs", "held", "seat"] []
  F__other : Fun K "_other" "_other" s__other A.a__other A.d__other
  g__other : mg "_other" = some (.ref A.a__other)
  b__other : Binds K A.d__other ["pairs", "held", "seat"] []
  F__take : Fun K "_take" "_take" s__take A.a__take A.d__take
  g__take : mg "_take" = some (.ref A.a__take)
  b__take : Binds K A.d__take ["held", "way", "number"] []
  F__crowd : Fun K "_crowd" "_crowd" s__crowd A.a__crowd A.d__crowd
  g__crowd : mg "_crowd" = some (.ref A.a__crowd)
  b__crowd : Binds K A.d__crowd ["held", "seats", "number"] []
  F__rows : Fun K "_rows" "_rows" s__rows A.a__rows A.d__rows
  g__rows : mg "_rows" = some (.ref A.a__rows)
  b__rows : Binds K A.d__rows ["held", "many"] []
  F__law_cell_at : Fun K "_law_cell_at" "_law_cell_at" s__law_cell_at A.a__law_cell_at A.d__law_cell_at
  g__law_cell_at : mg "_law_cell_at" = some (.ref A.a__law_cell_at)
  b__law_cell_at : Binds K A.d__law_cell_at ["_law_script", "_law_k"] []
  F__law_mixed : Fun K "_law_mixed" "_law_mixed" s__law_mixed A.a__law_mixed A.d__law_mixed
  g__law_mixed : mg "_law_mixed" = some (.ref A.a__law_mixed)
  b__law_mixed : Binds K A.d__law_mixed ["_law_cell", "_law_k"] []
  F__law_places : Fun K "_law_places" "_law_places" s__law_places A.a__law_places A.d__law_places
  g__law_places : mg "_law_places" = some (.ref A.a__law_places)
  b__law_places : Binds K A.d__law_places ["_law_pairs", "_law_rows"] []
  F__law_unlike : Fun K "_law_unlike" "_law_unlike" s__law_unlike A.a__law_unlike A.d__law_unlike
  g__law_unlike : mg "_law_unlike" = some (.ref A.a__law_unlike)
  b__law_unlike : Binds K A.d__law_unlike ["_law_places_here"] []
  F__law_can : Fun K "_law_can" "_law_can" s__law_can A.a__law_can A.d__law_can
  g__law_can : mg "_law_can" = some (.ref A.a__law_can)
  b__law_can : Binds K A.d__law_can ["_law_pairs"] []
  F__law_numbers : Fun K "_law_numbers" "_law_numbers" s__law_numbers A.a__law_numbers A.d__law_numbers
  g__law_numbers : mg "_law_numbers" = some (.ref A.a__law_numbers)
  b__law_numbers : Binds K A.d__law_numbers ["_law_found", "_law_least", "_law_most"] []
  F__law_few : Fun K "_law_few" "_law_few" s__law_few A.a__law_few A.d__law_few
  g__law_few : mg "_law_few" = some (.ref A.a__law_few)
  b__law_few : Binds K A.d__law_few ["_law_pairs", "_law_numbers_here"] []
  F__law_right : Fun K "_law_right" "_law_right" s__law_right A.a__law_right A.d__law_right
  g__law_right : mg "_law_right" = some (.ref A.a__law_right)
  b__law_right : Binds K A.d__law_right ["_law_found", "_law_pairs"] []
  F_law : Fun K "law" "law" s_law A.a_law A.d_law
  g_law : mg "law" = some (.ref A.a_law)
  b_law : Binds K A.d_law ["_law_script"] []
  m_bool : mg "bool" = none
  m_enumerate : mg "enumerate" = none
  m_int : mg "int" = none
  m_isinstance : mg "isinstance" = none
  m_len : mg "len" = none
  m_list : mg "list" = none
  m_range : mg "range" = none
  m_set : mg "set" = none
  m_sorted : mg "sorted" = none
  m_tuple : mg "tuple" = none

/-! promises of the program's defs -/
def sp__other (K : PySem.W.Frag) : Sp := fun vs H Q _ => ∃ (a d t : Addr) (P : List (Int × Int)) (kvs : List (List Key × V)) (f : Seat → Option Nat) (s u : Seat) (i : Nat), vs = [.ref a, .ref d, .ref t] ∧ PairsAt K H a P ∧ H d = some (.dT kvs) ∧ HeldIs kvs f ∧ Good P i f ∧ i ≤ P.length ∧
  H t = some (.tup (sv s)) ∧ nxP P f s = some u ∧ ∀ q, H q = none → Q (.ref q) (upd H q (.tup (sv u)))
def sp__way (K : PySem.W.Frag) : Sp := fun vs H Q _ => ∃ (a d t : Addr) (P : List (Int × Int)) (kvs : List (List Key × V)) (f : Seat → Option Nat) (s : Seat) (i : Nat), vs = [.ref a, .ref d, .ref t] ∧ PairsAt K H a P ∧ H d = some (.dT kvs) ∧ HeldIs kvs f ∧ Good P i f ∧ i ≤ P.length ∧ i ≤ 62 ∧
  H t = some (.tup (sv s)) ∧ ∀ H' w L, Same H H' → H w = none → H' w = some (.lst (refs L)) → TupsAt H' L → IsWay (nxP P f) s (L.map (·.2)) → Q (.ref w) H'
def sp__take (K : PySem.W.Frag) : Sp := fun vs H Q _ => ∃ (d w : Addr) (P : List (Int × Int)) (kvs : List (List Key × V)) (f : Seat → Option Nat) (i : Nat) (L : List (Addr × Seat)) (r : Int), vs = [.ref d, .ref w, .int i] ∧ H d = some (.dT kvs) ∧ HeldIs kvs f ∧ Good P i f ∧ i ≤ 62 ∧
  H w = some (.lst (refs L)) ∧ TupsAt H L ∧ Chain (nxP P f) (seatP (getP P i) r) (L.map (·.2)) ∧ ∀ H' kvs', But d H H' → H' d = some (.dT kvs') → HeldIs kvs' (shiftF f (L.map (·.2)) (some i)) → Q .non H'
def sp__crowd (K : PySem.W.Frag) : Sp := fun vs H Q _ => ∃ (d w : Addr) (P : List (Int × Int)) (kvs : List (List Key × V)) (f : Seat → Option Nat) (i : Nat) (L : List (Addr × Seat)), vs = [.ref d, .ref w, .int i] ∧ H d = some (.dT kvs) ∧ HeldIs kvs f ∧ Good P i f ∧ i ≤ 62 ∧
  H w = some (.lst (refs L)) ∧ TupsAt H L ∧ L.length ≤ 200 ∧ (∀ p ∈ L, ∃ n, f p.2 = some n) ∧ ∀ H' p (zs : List Int), Same H H' → H' p = none → zs.Pairwise (· < ·) → (∀ k : Int, k ∈ zs ↔ k = (i : Int) ∨ ∃ v ∈ L.map (·.2), ∃ n : Nat, f v = some n ∧ k = (n : Int)) → Q (.ref p) (upd H' p (.lst (zs.map V.int)))
def sp__rows (K : PySem.W.Frag) : Sp := fun vs H Q _ => ∃ (d : Addr) (P : List (Int × Int)) (kvs : List (List Key × V)) (f : Seat → Option Nat), vs = [.ref d, .int P.length] ∧ H d = some (.dT kvs) ∧ HeldIs kvs f ∧ Good P P.length f ∧ P.length ≤ 1000 ∧
  ∀ H' p (rs : List Int), Same H H' → H p = none → H' p = some (.lst (rs.map V.int)) → rs.length = P.length → (∀ s n, f s = some n → rs.getD n 0 = s.1) → Q (.ref p) H'
def sp_seated (K : PySem.W.Frag) : Sp := fun vs H Q _ => ∃ (a : Addr) (P : List (Int × Int)), vs = [.ref a] ∧ PairsAt K H a P ∧ P.length ≤ 62 ∧
  (∀ H' t p rs, Same H H' → H t = none → H p = none → t ≠ p → H' t = some (.tup [.str "yes", .ref p]) → H' p = some (.lst (rs.map V.int)) → Seated P rs → Q (.ref t) H') ∧
  (∀ H' t p zs, Same H H' → H t = none → H p = none → t ≠ p → H' t = some (.tup [.str "no", .ref p]) → H' p = some (.lst (zs.map V.int)) → Crowd P zs → Q (.ref t) H')
section
variable {P : Program} {w : World} {K : PySem.W.Frag} {mg : Str → Option Value} {base : Heap} {A : Ad}
theorem ok__other (T : Tx K mg A) : FnOk P w K mg base CX0 1 A.a__other A.d__other ["pairs", "held", "seat"] (sp__other K) := by
  refine T.F__other.ok sc__other (fun vs H Q E h => ?_) (fun cdv Ar outer s H vs Q E hr h => ?_)
  · obtain ⟨a, d, t, PP, kvs, f, s, u, i, rfl, _⟩ := h
    rfl
  · obtain ⟨a, d, t, PP, kvs, f, s0, u, i, rfl, ⟨ts, hts, hlen, htup⟩, hd, HI, G, hi, ht, hu, k⟩ := h
    refine ⟨_, 
      (pss_cons (ps_set (i := 3) sc__other.nd rfl (Or.inl rfl) (pe_ix (r := rIxL K) ix_list (pv 0) (pe_dget (hu_of hr) (pv 1) (pv 2) (fun _ _ => rfl)) (fun _ _ => rfl)))
      (pss_cons (ps_set (i := 4) sc__other.nd rfl (Or.inl rfl) (pe_op op_sub pe_int (pe_ix (r := rIxT K) ix_tup (pv 2) pe_int (fun _ _ => rfl))))
      (pss_one (ps_ret (pe_tup (pa_cons (pv 4) (pa_cons (pe_ix (r := rIxT K) ix_tup (pv 3) (pv 4) (fun _ _ => rfl)) pa_nil))))))), ?_⟩
    obtain ⟨n, hn, rfl⟩ := nxP_some hu
    have hv : valV kvs (sk s0) = some (.int (n : Int)) := by
      rw [HI.val s0, hn]
      rfl
    have hnl : n < ts.length := by
      have := (G.own s0 n hn).1
      omega
    have e1 : ts[n]? = some ts[n] := List.getElem?_eq_getElem hnl
    have eD : DGet H d (.ref t) (some (.int (n : Int))) := hv ▸ DGet.t hd (k := sk s0) ht
    have hp := htup n _ e1
    refine ⟨_, rfl, _, rfl, _, rfl, d, _, rfl, eD, a, _, _, _, rfl, rfl, hts, atI_nat (v := .ref ts[n]) (by rw [List.getElem?_map, e1] <;> rfl), ?_⟩
    refine ⟨_, rfl, t, _, _, _, rfl, rfl, SqT.of ht, atI_nat (j := 0) rfl, _, _, rfl, rfl, ?_⟩
    have eI : atI [V.int (getP PP n).1, V.int (getP PP n).2] (1 - s0.1) = some (.int (rowP (getP PP n) (1 - s0.1))) := by
      rcases G.rows hn with q | q <;> rw [q]
      · exact atI_nat (j := 1) rfl
      · exact atI_nat (j := 0) rfl
    refine ⟨_, rfl, _, rfl, _, rfl, ts[n], _, _, _, rfl, rfl, hp, eI, (by show 2 ≤ sizeLine; decide), fun q hq => ?_⟩
    exact k q hq
theorem ok__way (T : Tx K mg A) : FnOk P w K mg base CX0 2 A.a__way A.d__way ["pairs", "held", "seat"] (sp__way K) := by
  refine okC T.F__way sc__way (fun vs H Q E h => ?_) (fun cdv Ar outer s H vs Q E cd hr h => ?_)
  · obtain ⟨a, d, t, PP, kvs, f, s, i, rfl, _⟩ := h
    rfl
  · obtain ⟨a, d, t, PP, kvs, f, s0, i, rfl, hP, hd, HI, G, hi, h62, ht, k⟩ := h
    refine ⟨_, 
      (pss_cons (ps_set (i := 3) sc__way.nd rfl (Or.inl rfl) (pe_lst (pa_cons (pv 2) pa_nil)))
      (pss_cons (ps_set (i := 4) sc__way.nd rfl (Or.inl rfl) (TS2.pe_set1 (hu8 hr) (hcd cd) (pv 2)))
      (pss_cons (ps_while PassesOwn.never (pt_cmp (pc_din (hu_of hr) (pe_ix (r := rIxL K) ix_list (pv 3) (pe_un un_neg pe_int) (fun _ _ => rfl)) (pv 1))) 
        (pss_cons (ps_set (i := 5) sc__way.nd rfl (Or.inl rfl) (pe_call (ok__other T) hr (by rfl) T.g__other T.F__other.kp T.b__other .nil pass0 (pa_cons (pv 0) (pa_cons (pv 1) (pa_cons (pe_ix (r := rIxL K) ix_list (pv 3) (pe_un un_neg pe_int) (fun _ _ => rfl)) pa_nil)))))
        (pss_cons (ps_if (pt_cmpR (TS2.or_tin (hu8 hr)) (pv 5) (pv 4) rfl) 
          (pss_one (ps_ret (pv 3))) pss_nil)
        (pss_cons (ps_expr (TS2.pe_tadd (hu8 hr) (pv 4) (pa_cons (pv 5) pa_nil)))
        (pss_one (ps_expr (pe_bm PySem.F.plainAttrs_list PySem.F.slot_list_append PySem.F.type_list_append mt_append (pv 3) (pa_cons (pv 5) pa_nil))))))))
      (pss_one (ps_ret (pv 3)))))), ?_⟩
    refine ⟨_, rfl, (by show 1 ≤ sizeLine; decide), fun wa hw => ?_⟩
    have S1 : Same H (upd H wa (.lst [.ref t])) := same_new hw
    intro sn hsn
    have hsn0 : H sn = none := S1.free hsn
    have nws : wa ≠ sn := fun e => by rw [← e, upd_same] at hsn; cases hsn
    have S2 : Same H (upd (upd H wa (.lst [.ref t])) sn (SetTO P w sn [])) := S1.trans (same_new hsn)
    refine ⟨_, rfl, upd_same, t, sl s0, rfl, SqT.of (S2 _ _ ht), ?_⟩
    rw [upd_upd]
    have S3 : Same H (upd (upd H wa (.lst [.ref t])) sn (SetTO P w sn [(t, sl s0)])) := S1.trans (same_new hsn)
    -- the loop
    refine ⟨fun m σ H1 => ∃ (L : List (Addr × Seat)) (sL : List (Addr × List Int)) (o : Option V), σ = [some (.ref a), some (.ref d), some (.ref t), some (.ref wa), some (.ref sn), o] ∧ Same H H1 ∧ H1 wa = some (.lst (refs L)) ∧ TupsAt H1 L ∧ TSet K P w H1 sn sL ∧
        (∀ k, k ∈ sL.map (·.2) ↔ ∃ u ∈ L.map (·.2), k = sl u) ∧ sL.length = L.length ∧ Chain (nxP PP f) s0 (L.map (·.2)) ∧ m + L.length = 64,
      ⟨63, [(t, s0)], [(t, sl s0)], none, rfl, S3, (by rw [upd_ne nws]; exact upd_same), fun p hp => ?_, ⟨upd_same, fun p hp => ?_⟩, fun k => by simp, rfl, Chain.one _ _, rfl⟩, ?_⟩
    · cases List.mem_singleton.mp hp
      exact S3 _ _ ht
    · cases List.mem_singleton.mp hp
      exact SqT.of (S3 _ _ ht)
    rintro m σ H1 ⟨L, sL, o, rfl, SH, hW, hT, hS, hin, hsz, ch, hm⟩
    have hlen := G.len ch
    rw [List.length_map] at hlen
    obtain ⟨x, hx⟩ : ∃ x, L.getLast? = some x := by
      cases L with
      | nil => exact absurd rfl ch.ne
      | cons p r => exact ⟨_, List.getLast?_eq_some_getLast (List.cons_ne_nil p r)⟩
    have hx2 : (L.map (·.2)).getLast? = some x.2 := by rw [List.getLast?_map, hx] <;> rfl
    have hxv : (refs L).getLast? = some (.ref x.1) := by
      show (L.map fun p => V.ref p.1).getLast? = _
      rw [List.getLast?_map, hx] <;> rfl
    have hxt := hT x (List.mem_of_getLast? hx)
    have hd1 := SH _ _ hd
    refine ⟨_, rfl, _, rfl, wa, _, _, _, rfl, rfl, SqL.of hW, atI_end hxv, _, rfl, d, _, rfl, DGet.t hd1 (k := sk x.2) hxt, _, rfl, ?_⟩
    rw [HI.val x.2]
    cases hf : f x.2 with
    | none =>
      refine iteF ?_
      refine ⟨_, rfl, k H1 wa L SH hw hW hT ⟨ch, fun y z hy hz => ?_⟩⟩
      rw [hx2] at hy
      cases hy
      unfold nxP at hz
      rw [hf] at hz
      cases hz
    | some n =>
      refine iteT ?_
      obtain ⟨u, hu⟩ : ∃ u, nxP PP f x.2 = some u := ⟨_, by unfold nxP; rw [hf]; rfl⟩
      refine ⟨fun σ' H' => ∃ m', m' < m ∧ ∃ (L : List (Addr × Seat)) (sL : List (Addr × List Int)) (o : Option V), σ' = [some (.ref a), some (.ref d), some (.ref t), some (.ref wa), some (.ref sn), o] ∧ Same H H' ∧ H' wa = some (.lst (refs L)) ∧ TupsAt H' L ∧ TSet K P w H' sn sL ∧
        (∀ k, k ∈ sL.map (·.2) ↔ ∃ u ∈ L.map (·.2), k = sl u) ∧ sL.length = L.length ∧ Chain (nxP PP f) s0 (L.map (·.2)) ∧ m' + L.length = 64, fun σ' H' h => h, ?_⟩
      refine ⟨_, rfl, _, rfl, _, rfl, _, rfl, wa, _, _, _, rfl, rfl, SqL.of hW, atI_end hxv, a, d, x.1, PP, kvs, f, x.2, u, i, rfl, hP.same SH, hd1, HI, G, hi, hxt, hu, fun q hq => ?_⟩
      have Sq : Same H1 (upd H1 q (.tup (sv u))) := same_new hq
      have nqw : wa ≠ q := ne_of_none hW hq
      have nqs : sn ≠ q := ne_of_none hS.1 hq
      refine ⟨_, rfl, _, rfl, q, sn, sl u, sL, rfl, rfl, SqT.of upd_same, tset_same hS Sq, _, rfl, ?_⟩
      refine ite2 (fun e => ?_) (fun e => ?_)
      · have e2 : sl u ∈ sL.map (·.2) := of_decide_eq_true e
        refine ⟨_, rfl, k _ wa L (SH.trans Sq) hw (Sq _ _ hW) (hT.same Sq) ⟨ch, fun y z hy hz => ?_⟩⟩
        rw [hx2] at hy
        cases hy
        rw [hu] at hz
        cases hz
        obtain ⟨v, hv, ev⟩ := (hin _).mp e2
        rw [sl_inj ev]
        exact hv
      · have e2 : sl u ∉ sL.map (·.2) := fun z => e (decide_eq_true z)
        have hun : u ∉ L.map (·.2) := fun z => e2 ((hin _).mpr ⟨u, z, rfl⟩)
        have ch2 : Chain (nxP PP f) s0 ((L ++ [(q, u)]).map (·.2)) := by
          rw [List.map_append]
          exact ch.more hx2 hu hun
        have hlen2 := G.len ch2
        rw [List.length_map, List.length_append, List.length_singleton] at hlen2
        refine ⟨_, rfl, ⟨sn, sL, rfl, tset_same hS Sq⟩, _, rfl, q, sn, sl u, sL, rfl, rfl, SqT.of upd_same, tset_same hS Sq, by omega, fun L' _ hp => ?_⟩
        have pm := hp e2
        have hW2 : (upd (upd H1 q (.tup (sv u))) sn (SetTO P w sn L')) wa = some (.lst (refs L)) := by
          rw [upd_ne nws]
          exact Sq _ _ hW
        refine ⟨_, rfl, .inl ⟨rfl, _, SqL.of hW2⟩, _, rfl, wa, _, _, rfl, rfl, hW2, (by rw [List.length_map]; exact small1000 (by omega)), ?_⟩
        have SF : Same H (upd (upd (upd H1 q (.tup (sv u))) sn (SetTO P w sn L')) wa (.lst (refs L ++ [.ref q]))) := same_mut (same_mut (SH.trans Sq) hsn0) hw
        have tupq : ∀ b ys, (upd H1 q (.tup (sv u))) b = some (.tup ys) → (upd (upd (upd H1 q (.tup (sv u))) sn (SetTO P w sn L')) wa (.lst (refs L ++ [.ref q]))) b = some (.tup ys) := fun b ys hb => by
          rw [upd_ne (ne_of hb (Sq _ _ hW) (by intro z; cases z)), upd_ne (ne_of hb (Sq _ _ hS.1) (by intro z; cases z))]
          exact hb
        have tupS : ∀ b ys, SqT K (upd H1 q (.tup (sv u))) b ys → SqT K (upd (upd (upd H1 q (.tup (sv u))) sn (SetTO P w sn L')) wa (.lst (refs L ++ [.ref q]))) b ys := fun b ys hb => by
          rcases hb with (hb | ⟨o, hb⟩) | hb
          · exact .inl (.inl (tupq _ _ hb))
          · refine .inl (.inr ⟨o, ?_⟩)
            rw [upd_ne (ne_of hb (Sq _ _ hW) (by intro z; cases z)), upd_ne (ne_of hb (Sq _ _ hS.1) (by intro z; cases z))]
            exact hb
          · exact .inr hb
        refine ⟨m - 1, by omega, L ++ [(q, u)], L', some (.ref q), rfl, SF, ?_, ?_, ⟨?_, ?_⟩, ?_, ?_, ch2, ?_⟩
        · rw [upd_same]
          show _ = some (HO.lst ((L ++ [(q, u)]).map fun p => V.ref p.1))
          rw [List.map_append]
          rfl
        · intro p hp
          rcases List.mem_append.mp hp with z | z
          · exact tupq _ _ (Sq _ _ (hT p z))
          · cases List.mem_singleton.mp z
            exact tupq _ _ upd_same
        · exact (upd_ne nws.symm).trans upd_same
        · intro p hp
          rcases List.mem_cons.mp (pm.mem_iff.mp hp) with z | z
          · cases z
            exact tupS _ _ (SqT.of upd_same)
          · exact tupS _ _ (same_t Sq (hS.2 p z))
        · intro kk
          rw [(pm.map (·.2)).mem_iff, List.map_cons, List.mem_cons, hin, List.map_append]
          constructor
          · rintro (z | ⟨v, hv, ev⟩)
            · exact ⟨u, List.mem_append_right _ (List.mem_singleton.mpr rfl), z⟩
            · exact ⟨v, List.mem_append_left _ hv, ev⟩
          · rintro ⟨v, hv, ev⟩
            rcases List.mem_append.mp hv with z | z
            · exact .inr ⟨v, z, ev⟩
            · rw [List.mem_singleton.mp z] at ev
              exact .inl ev
        · rw [pm.length_eq, List.length_cons, hsz, List.length_append, List.length_singleton]
        · rw [List.length_append, List.length_singleton]
          omega
theorem ok__take (T : Tx K mg A) : FnOk P w K mg base CX0 1 A.a__take A.d__take ["held", "way", "number"] (sp__take K) := by
  refine T.F__take.ok sc__take (fun vs H Q E h => ?_) (fun cdv Ar outer s H vs Q E hr h => ?_)
  · obtain ⟨d, w, PP, kvs, f, i, L, r, rfl, _⟩ := h
    rfl
  · obtain ⟨d, wa, PP, kvs, f, i, L, r, rfl, hd, HI, G, h62, hW, hT, ch, k⟩ := h
    refine ⟨_, 
      (pss_cons (ps_for PassesOwn.never rfl (pi_range3 (by rfl) T.m_range (pa_cons (pe_op op_sub (pe_callB call_len_seq (by rfl) T.m_len PySem.boot_len (pa_cons (pv 1) pa_nil)) pe_int) (pa_cons pe_int (pa_cons (pe_un un_neg pe_int) pa_nil)))) (pg_name (i := 3) sc__take.nd rfl (Or.inl rfl)) 
        (pss_one (ps_dput (hu_of hr) (pv 0) (pe_ix (r := rIxL K) ix_list (pv 1) (pv 3) (fun _ _ => rfl)) (pe_dget (hu_of hr) (pv 0) (pe_ix (r := rIxL K) ix_list (pv 1) (pe_op op_sub (pv 3) pe_int) (fun _ _ => rfl)) (fun _ _ => rfl)) rfl)))
      (pss_one (ps_dput (hu_of hr) (pv 0) (pe_ix (r := rIxL K) ix_list (pv 1) pe_int (fun _ _ => rfl)) (pv 2) rfl))), ?_⟩
    have hne : L ≠ [] := fun e => ch.ne (by rw [e]; rfl)
    have hpos : 0 < L.length := List.length_pos_iff.mpr hne
    have hll := G.len ch
    rw [List.length_map] at hll
    have tup_at : ∀ (n : Nat), n < L.length → ∃ p : Addr × Seat, L[n]? = some p ∧ atI (refs L) (n : Int) = some (.ref p.1) ∧ (L.map (·.2))[n]? = some p.2 ∧ H p.1 = some (.tup (sv p.2)) := fun n hn => by
      have e := List.getElem?_eq_getElem hn
      refine ⟨L[n], e, atI_nat ?_, ?_, hT _ (List.getElem_mem hn)⟩
      · show (L.map fun p => V.ref p.1)[n]? = _
        rw [List.getElem?_map, e]
        rfl
      · rw [List.getElem?_map, e]
        rfl
    have hlenI : (((refs L).length : Nat) : Int) - 1 = ((L.length - 1 : Nat) : Int) := by
      show (((L.map fun p => V.ref p.1).length : Nat) : Int) - 1 = _
      rw [List.length_map]
      omega
    refine ⟨_, rfl, wa, _, rfl, .inl (SqL.of hW), _, _, rfl, rfl, _, rfl, (((refs L).length : Nat) : Int) - 1, 0, -1, L.length - 1, rfl, ?_, ?_⟩
    · have q := RgC.neg (i := ((L.length - 1 : Nat) : Int)) (j := 0) (by omega) (by omega) (by omega) (by omega)
      rw [hlenI]
      have e : (((L.length - 1 : Nat) : Int) - 0).toNat = L.length - 1 := by omega
      rwa [e] at q
    rw [hlenI]
    -- behind n turns the last n seats have what stood ahead of them
    refine for_it walk_rangeC (fun n σ H1 => ∃ kvs1 f1 o, σ = [some (.ref d), some (.ref wa), some (.int i), o] ∧ But d H H1 ∧ H1 d = some (.dT kvs1) ∧ HeldIs kvs1 f1 ∧ kvs1.length ≤ 62 + n ∧
        ∀ j, j + n + 1 = L.length → ∀ v, (L.map (·.2))[j]? = some v → f1 = shiftF f ((L.map (·.2)).drop (j + 1)) (f v)) ⟨kvs, f, none, rfl, But.refl d H, hd, HI, Nat.le_trans (HI.len G) h62, fun j hj v hv => ?_⟩ (fun _ _ _ _ _ => trivial) ?_ ?_
    · have e : (L.map (·.2)).drop (j + 1) = [] := List.drop_eq_nil_of_le (by rw [List.length_map]; omega)
      rw [e]
      rfl
    · rintro n y σ H1 H2 hn ⟨kvs1, f1, o, rfl, B, hd1, HI1, hl1, hf1⟩ ⟨rfl, rfl⟩
      obtain ⟨b, hb⟩ : ∃ b, L.length = b + n + 2 := ⟨L.length - n - 2, by omega⟩
      obtain ⟨p0, e0, a0, s0, t0⟩ := tup_at b (by omega)
      obtain ⟨p1, e1, a1, s1, t1⟩ := tup_at (b + 1) (by omega)
      have x1 : ((L.length - 1 : Nat) : Int) + (n : Int) * -1 = ((b + 1 : Nat) : Int) := by omega
      have x0 : ((L.length - 1 : Nat) : Int) + (n : Int) * -1 - 1 = (b : Int) := by omega
      obtain ⟨u, hu, hnx⟩ := ch.goes s0 (by rw [List.length_map]; omega)
      obtain ⟨m, hm, _⟩ := nxP_some hnx
      have F1 := hf1 (b + 1) (by omega) p1.2 s1
      have out : p0.2 ∉ (L.map (·.2)).drop (b + 2) := by
        intro z
        obtain ⟨c, hc, ec⟩ := List.getElem_of_mem z
        rw [List.length_drop, List.length_map] at hc
        have e2 : (L.map (·.2))[b + 2 + c]? = some p0.2 := by
          rw [← List.getElem?_drop, List.getElem?_eq_getElem (by rw [List.length_drop, List.length_map]; exact hc), ec]
        have h1 := (List.getElem?_eq_some_iff.mp s0)
        have h2 := (List.getElem?_eq_some_iff.mp e2)
        have := (List.getElem_inj ch.nd (h₀ := h1.1) (h₁ := h2.1)).mp (h1.2.trans h2.2.symm)
        omega
      have f1m : f1 p0.2 = some m := by
        rw [F1, shiftF_out f _ _ _ out]
        exact hm
      have B0 : ∀ q : Addr × Seat, H q.1 = some (.tup (sv q.2)) → H2 q.1 = some (.tup (sv q.2)) := fun q hq => B _ _ (ne_of hq hd (by intro z; cases z)) hq
      have hW2 : H2 wa = some (.lst (refs L)) := B _ _ (ne_of hW hd (by intro z; cases z)) hW
      have hv : valV kvs1 (sk p0.2) = some (.int (m : Int)) := by
        rw [HI1.val p0.2, f1m]
        rfl
      have eD : DGet H2 d (.ref p0.1) (some (.int (m : Int))) := hv ▸ DGet.t hd1 (k := sk p0.2) (B0 p0 t0)
      refine ⟨_, rfl, _, rfl, _, rfl, _, _, rfl, rfl, wa, _, _, _, rfl, rfl, SqL.of hW2, x0 ▸ a0, d, _, rfl, eD, _, rfl, _, rfl, _, rfl, wa, _, _, _, rfl, rfl, SqL.of hW2, x1 ▸ a1, d, _, rfl, DPut.t hd1 (k := sk p1.2) (B0 p1 t1) (small1000 (by omega)), ?_⟩
      refine ⟨_, _, _, rfl, B.trans but_upd, upd_same, HI1.put p1.2 m, ?_, fun j hj v hjv => ?_⟩
      · have := length_putK kvs1 (sk p1.2) (.int (m : Int))
        omega
      · have ej : j = b := by omega
        subst ej
        rw [s0] at hjv
        cases hjv
        rw [← shiftF_set f _ ch.nd j p0.2 p1.2 s0 s1, hm, F1]
    · rintro σ H1 ⟨kvs1, f1, o, rfl, B, hd1, HI1, hl1, hf1⟩
      obtain ⟨p0, e0, a0, s0, t0⟩ := tup_at 0 hpos
      have hW2 : H1 wa = some (.lst (refs L)) := B _ _ (ne_of hW hd (by intro z; cases z)) hW
      have t1 : H1 p0.1 = some (.tup (sv p0.2)) := B _ _ (ne_of t0 hd (by intro z; cases z)) t0
      refine ⟨_, rfl, _, rfl, _, rfl, wa, _, _, _, rfl, rfl, SqL.of hW2, a0, d, _, rfl, DPut.t hd1 (k := sk p0.2) t1 (small1000 (by omega)), ?_⟩
      have F1 := hf1 0 (by omega) p0.2 s0
      have e : L.map (·.2) = p0.2 :: (L.map (·.2)).drop 1 := by
        cases L with
        | nil => exact absurd rfl hne
        | cons q r =>
          have e3 : q.2 = p0.2 := Option.some.inj s0
          rw [← e3]
          rfl
      refine k _ _ (B.trans but_upd) upd_same ?_
      have q := HI1.put p0.2 i
      rw [F1] at q
      rw [e]
      exact q
theorem ok__crowd (T : Tx K mg A) : FnOk P w K mg base CX0 1 A.a__crowd A.d__crowd ["held", "seats", "number"] (sp__crowd K) := by
  refine T.F__crowd.ok sc__crowd (fun vs H Q E h => ?_) (fun cdv Ar outer s H vs Q E hr h => ?_)
  · obtain ⟨d, w, PP, kvs, f, i, L, rfl, _⟩ := h
    rfl
  · obtain ⟨d, wa, PP, kvs, f, i, L, rfl, hd, HI, G, h62, hW, hT, hl2, hh, k⟩ := h
    refine ⟨_, 
      (pss_one (ps_ret (pe_callB (cr_sortedSet rfl) (by rfl) T.m_sorted (by decide +kernel) (pa_cons (pe_callTy (TS2.cr_setL rfl) (by rfl) T.m_set (by decide +kernel) (pa_cons (pe_op op_cat (pe_lst (pa_cons (pv 2) pa_nil)) (pe_lc (own := [("seat", 3)]) (g := gName 3) (tt := tYes) (by rfl) sc__crowd.nd (pi_list (pv 1)) (blkOk_by (own := [("seat", 3)]) (N := ["held", "seats", "number", "seat"]) (sc := defScope s__crowd) (by decide +kernel)) (fun _ _ _ _ _ => (pg_name (i := 3) sc__crowd.nd rfl (Or.inl rfl))) (fun _ _ _ _ _ => pts_nil) (fun _ _ _ _ _ => (pe_dget (hu_of hr) (pv 0) (pv 3) (fun _ _ => rfl))))) pa_nil)) pa_nil)))), ?_⟩
    -- the numbers that the comprehension makes
    let nn : List Int := L.map fun p => (((f p.2).getD 0 : Nat) : Int)
    have nnl : nn.length = L.length := List.length_map ..
    have hin : ∀ z : Int, z ∈ ((i : Int) :: nn) ↔ z = (i : Int) ∨ ∃ v ∈ L.map (·.2), ∃ n : Nat, f v = some n ∧ z = (n : Int) := by
      intro z
      rw [List.mem_cons]
      constructor
      · rintro (e | e)
        · exact .inl e
        · obtain ⟨p, hp, rfl⟩ := List.mem_map.mp e
          obtain ⟨n, hn⟩ := hh p hp
          exact .inr ⟨p.2, List.mem_map.mpr ⟨p, hp, rfl⟩, n, hn, by rw [hn]; rfl⟩
      · rintro (e | ⟨v, hv, n, hn, rfl⟩)
        · exact .inl e
        · obtain ⟨p, hp, rfl⟩ := List.mem_map.mp hv
          exact .inr (List.mem_map.mpr ⟨p, hp, by rw [hn]; rfl⟩)
    refine ⟨_, rfl, (by show 1 ≤ sizeLine; decide), fun l1 hl1 => ?_⟩
    have S1 : Same H (upd H l1 (.lst [.int (i : Int)])) := same_new hl1
    refine ⟨_, rfl, wa, rfl, ⟨_, SqL.of (S1 _ _ hW)⟩, fun D hD => ?_⟩
    have nlD : l1 ≠ D := fun e => by rw [← e, upd_same] at hD; cases hD
    have hD0 : H D = none := S1.free hD
    refine lc_it (walk_list (xs := refs L)) (fun n H1 => Same H H1 ∧ H1 l1 = some (.lst [.int (i : Int)]) ∧ H1 D = some (.lst ((nn.take n).map V.int)))
      ⟨S1.trans (same_new hD), (by rw [upd_ne nlD]; exact upd_same), upd_same⟩ (fun n H1 _ h => SqL.of (h.1 _ _ hW)) ?_ ?_
    · rintro n x H1 H2 hn ⟨SH, h1, h2⟩ ⟨rfl, hx⟩
      have hnl : n < L.length := by
        have z : (refs L).length = L.length := List.length_map ..
        omega
      have e0 : L[n]? = some L[n] := List.getElem?_eq_getElem hnl
      have ex : x = .ref (L[n]).1 := by
        have z : (refs L)[n]? = some (.ref (L[n]).1) := by
          show (L.map fun p => V.ref p.1)[n]? = _
          rw [List.getElem?_map, e0]
          rfl
        rw [z] at hx
        exact (Option.some.inj hx).symm
      subst ex
      obtain ⟨m, hm⟩ := hh L[n] (List.getElem_mem hnl)
      have hv : valV kvs (sk (L[n]).2) = some (.int (m : Int)) := by
        rw [HI.val, hm]
        rfl
      have eD : DGet H2 d (.ref (L[n]).1) (some (.int (m : Int))) := hv ▸ DGet.t (SH _ _ hd) (k := sk (L[n]).2) (SH _ _ (hT _ (List.getElem_mem hnl)))
      refine ⟨rfl, lc_yes ?_⟩
      refine ⟨_, rfl, _, rfl, d, _, rfl, eD, _, h2, ?_, ?_, ?_, ?_⟩
      · rw [List.length_map, List.length_take]
        exact Nat.lt_of_le_of_lt (Nat.min_le_left _ _) (small1000 (by omega))
      · exact same_mut SH hD0
      · rw [upd_ne nlD]
        exact h1
      · rw [upd_same]
        have e3 : nn[n]? = some (m : Int) := by
          show (L.map fun p => (((f p.2).getD 0 : Nat) : Int))[n]? = _
          rw [List.getElem?_map, e0, Option.map_some, hm]
          rfl
        rw [List.take_add_one, e3, List.map_append]
        rfl
    · rintro H1 ⟨SH, h1, h2⟩
      have z : (refs L).length = nn.length := by rw [nnl]; exact List.length_map ..
      rw [z, List.take_length] at h2
      refine ⟨l1, D, _, _, rfl, rfl, h1, h2, (by rw [List.length_map, nnl]; show 1 + L.length ≤ sizeLine; exact Nat.le_of_lt (small1000 (by omega))), fun p hp => ?_⟩
      have Sp : Same H1 (upd H1 p (.lst ([V.int (i : Int)] ++ nn.map V.int))) := same_new hp
      refine ⟨p, (i : Int) :: nn, rfl, SqL.of upd_same, (by rw [List.length_cons, nnl]; omega), fun a ds ha hnd hds => ?_⟩
      have few : ds.length < 64 := by
        have q := nodup_len ds ((List.range 63).map fun n => ((n : Nat) : Int)) hnd fun x hx => by
          rcases (hin x).mp ((hds x).mp hx) with e | ⟨v, hv, n, hn, e⟩
          · exact List.mem_map.mpr ⟨i, List.mem_range.mpr (by omega), e.symm⟩
          · have := (G.own v n hn).1
            exact List.mem_map.mpr ⟨n, List.mem_range.mpr (by omega), e.symm⟩
        rw [List.length_map, List.length_range] at q
        omega
      refine ⟨a, _, _, rfl, upd_same, few, fun zs p2 hs hm hl hp2 => ?_⟩
      exact k _ p2 zs ((SH.trans Sp).trans (same_new ha)) hp2 hs fun kk => by
        rw [hm kk, decide_eq_true_eq]
        exact hin kk
theorem rep_zero (n : Nat) : (List.replicate n [V.int 0]).flatten = (List.replicate n (0 : Int)).map V.int := by
  induction n with
  | zero => rfl
  | succ n ih =>
    rw [List.replicate_succ, List.flatten_cons, ih, List.replicate_succ]
    rfl
theorem ok__rows (T : Tx K mg A) : FnOk P w K mg base CX0 1 A.a__rows A.d__rows ["held", "many"] (sp__rows K) := by
  refine T.F__rows.ok sc__rows (fun vs H Q E h => ?_) (fun cdv Ar outer s H vs Q E hr h => ?_)
  · obtain ⟨d, PP, kvs, f, rfl, _⟩ := h
    rfl
  · obtain ⟨d, PP, kvs, f, rfl, hd, HI, G, hl, k⟩ := h
    refine ⟨_, 
      (pss_cons (ps_set (i := 2) sc__rows.nd rfl (Or.inl rfl) (pe_op op_rep (pe_lst (pa_cons pe_int pa_nil)) (pv 1)))
      (pss_cons (ps_lock (ps_for PassesOwn.never rfl (TS2.pi_itemsT (pv 0)) (pg_tup rfl (pgs_cons (pg_name (i := 3) sc__rows.nd rfl (Or.inl rfl)) (pgs_cons (pg_name (i := 4) sc__rows.nd rfl (Or.inl rfl)) pgs_nil))) 
        (pss_one (ps_asg (pe_ix (r := rIxT K) ix_tup (pv 3) pe_int (fun _ _ => rfl)) (pg_sub (pv 2) (pv 4) set_list)))))
      (pss_one (ps_ret (pv 2))))), ?_⟩
    refine ⟨(by show 1 ≤ sizeLine; decide), fun l1 hl1 => ?_⟩
    have S1 : Same H (upd H l1 (.lst [.int 0])) := same_new hl1
    refine ⟨_, rfl, l1, (PP.length : Int), _, rfl, rfl, upd_same, by omega, by omega, (by show 1 * ((PP.length : Int)).toNat ≤ sizeLine; have := small1000 hl; omega), fun p hp => ?_⟩
    have hp0 : H p = none := S1.free hp
    have S2 := S1.trans (same_new (o := .lst (List.replicate ((PP.length : Int)).toNat [V.int 0]).flatten) hp)
    have npd : p ≠ d := fun e => by rw [e, hd] at hp0; cases hp0
    refine ⟨d, _, S2 _ _ hd, True.intro, fun od => ⟨_, rfl, d, od, kvs, rfl, upd_same, for_it walk_itemsT (fun n σ H1 => ∃ (rs : List Int) (o3 o4 : Option V), σ = [some (.ref d), some (.int (PP.length : Int)), some (.ref p), o3, o4] ∧ But d H H1 ∧ H1 d = some (.frz od (.dT kvs)) ∧
        H1 p = some (.lst (rs.map V.int)) ∧ rs.length = PP.length ∧ ∀ e ∈ kvs.take n, ∀ (s : Seat) (m : Nat), e = (sk s, V.int (m : Int)) → rs.getD m 0 = s.1) ⟨List.replicate PP.length 0, none, none, rfl, fun b o nb hb => ?_, upd_same, ?_, List.length_replicate .., fun e he => by simp at he⟩ (fun _ _ _ _ h => ?_) ?_ ?_⟩⟩
    · rw [upd_ne nb]
      exact S2 _ _ hb
    · rw [upd_ne npd, upd_same, ← rep_zero]
      rfl
    · obtain ⟨_, _, _, _, _, q, _⟩ := h
      exact q
    · rintro n x σ H1 H2 hn ⟨rs, o3, o4, rfl, B, hd1, hp1, hrl, hall⟩ ⟨Tn, kk, v, q, hkv, rfl, hTn, hq, rfl⟩
      obtain ⟨s1, m, es, hm⟩ := HI.ent (kk, v) (List.mem_of_getElem? hkv)
      cases es
      have hml := (G.own s1 m hm).1
      refine ⟨Tn, _, rfl, SqT.of upd_same, rfl, .ref q, [V.int (m : Int)], rfl, V.int (m : Int), [], rfl, rfl, ?_⟩
      have hq2 : (upd H1 Tn (.tup [.ref q, .int (m : Int)])) q = some (.tup (sv s1)) := by
        rw [upd_ne (ne_of_none hq hTn)]
        exact hq
      have hp2 : (upd H1 Tn (.tup [.ref q, .int (m : Int)])) p = some (.lst (rs.map V.int)) := by
        rw [upd_ne (ne_of_none hp1 hTn)]
        exact hp1
      refine ⟨_, rfl, q, _, _, _, rfl, rfl, SqT.of hq2, atI_nat (j := 0) rfl, _, rfl, _, rfl, p, _, _, m, rfl, rfl, hp2, ?_, ?_⟩
      · rw [List.length_map, hrl]
        unfold ixN
        rw [if_pos (by omega), if_pos (by omega)]
        simp
      · refine ⟨rs.set m s1.1, _, _, rfl, fun b o nb hb => ?_, ?_, ?_, ?_, fun e he s2 m2 e2 => ?_⟩
        · have nbp : b ≠ p := fun z => by rw [z, hp0] at hb; cases hb
          rw [upd_ne nbp, upd_ne (ne_of_none (B _ _ nb hb) hTn)]
          exact B _ _ nb hb
        · rw [upd_ne npd.symm, upd_ne (ne_of_none hd1 hTn)]
          exact hd1
        · rw [upd_same, List.map_set]
        · rw [List.length_set]
          exact hrl
        · rw [List.take_add_one, hkv] at he
          have hg : (rs.set m s1.1).getD m2 0 = if m = m2 then s1.1 else rs.getD m2 0 := by
            rw [List.getD_eq_getElem?_getD, List.getD_eq_getElem?_getD, List.getElem?_set]
            by_cases e : m = m2
            · rw [if_pos e, if_pos e, if_pos (by omega)]
              rfl
            · rw [if_neg e, if_neg e]
          rw [hg]
          rcases List.mem_append.mp he with z | z
          · by_cases e : m = m2
            · rw [if_pos e]
              obtain ⟨s3, m3, e3, h3⟩ := HI.ent _ (List.mem_of_mem_take z)
              rw [e2] at e3
              have a1 := sk_inj (congrArg Prod.fst e3)
              have a2 : ((m2 : Nat) : Int) = (m3 : Int) := V.int.inj (congrArg Prod.snd e3)
              have a3 : m3 = m := by omega
              rw [a3] at h3
              rw [a1, G.inj s1 s3 m hm h3]
            · rw [if_neg e]
              exact hall _ z s2 m2 e2
          · have z2 : e = (sk s1, V.int (m : Int)) := by simpa using z
            rw [e2] at z2
            have a1 := sk_inj (congrArg Prod.fst z2)
            have a2 : ((m2 : Nat) : Int) = (m : Int) := V.int.inj (congrArg Prod.snd z2)
            rw [if_pos (by omega), a1]
    · rintro σ H1 ⟨rs, o3, o4, rfl, B, hd1, hp1, hrl, hall⟩
      refine ⟨hd1, _, rfl, ?_⟩
      rw [List.take_length] at hall
      refine k _ p rs (fun b o hb => ?_) hp0 (by rw [upd_ne npd]; exact hp1) hrl fun s1 n hn => ?_
      · by_cases nb : b = d
        · rw [nb, hd] at hb
          cases hb
          rw [nb, upd_same]
        · rw [upd_ne nb]
          exact B _ _ nb hb
      · have hv := HI.val s1
        rw [hn] at hv
        obtain ⟨e, he⟩ : ∃ e, kvs.find? (fun kv => decide (kv.1 = sk s1)) = some e := by
          unfold valV at hv
          cases q : kvs.find? (fun kv => decide (kv.1 = sk s1)) with
          | none => rw [q] at hv; cases hv
          | some e => exact ⟨e, rfl⟩
        have h1 : e.1 = sk s1 := of_decide_eq_true (show decide (e.1 = sk s1) = true from List.find?_some (p := fun kv : List Key × V => decide (kv.1 = sk s1)) he)
        have h2 : e.2 = V.int (n : Int) := by
          unfold valV at hv
          rw [he] at hv
          exact Option.some.inj hv
        exact hall e (List.mem_of_find?_eq_some he) s1 n (by rw [← h1, ← h2])
theorem last_at {L : List (Addr × Seat)} (hne : L ≠ []) : ∃ x, L.getLast? = some x ∧ (L.map (·.2)).getLast? = some x.2 ∧ atI (refs L) (-1) = some (.ref x.1) ∧ x ∈ L := by
  have hx : L.getLast? = some (L.getLast hne) := List.getLast?_eq_some_getLast hne
  refine ⟨L.getLast hne, hx, ?_, atI_end ?_, List.getLast_mem hne⟩
  · rw [List.getLast?_map, hx]
    rfl
  · show (L.map fun p => V.ref p.1).getLast? = _
    rw [List.getLast?_map, hx]
    rfl
theorem ok_seated (T : Tx K mg A) : FnOk P w K mg base CX0 4 A.a_seated A.d_seated ["pairs"] (sp_seated K) := by
  refine T.F_seated.ok sc_seated (fun vs H Q E h => ?_) (fun cdv Ar outer s H vs Q E hr h => ?_)
  · obtain ⟨a, PP, rfl, _⟩ := h
    rfl
  · obtain ⟨a, PP, rfl, hP, h62, kY, kN⟩ := h
    refine ⟨_, 
      (pss_cons (ps_set (i := 1) sc_seated.nd rfl (Or.inl rfl) pe_dnewT)
      (pss_cons (ps_for PassesOwn.never rfl (pi_enum (by rfl) T.m_enumerate (pa_cons (pv 0) pa_nil)) (pg_tup rfl (pgs_cons (pg_name (i := 2) sc_seated.nd rfl (Or.inl rfl)) (pgs_cons (pg_name (i := 3) sc_seated.nd rfl (Or.inl rfl)) pgs_nil))) 
        (pss_cons (ps_set (i := 4) sc_seated.nd rfl (Or.inl rfl) (pe_call (ok__way T) (hr.mono (by decide)) (by rfl) T.g__way T.F__way.kp T.b__way .nil pass0 (pa_cons (pv 0) (pa_cons (pv 1) (pa_cons (pe_tup (pa_cons pe_int (pa_cons (pe_ix (r := rIxT K) ix_tup (pv 3) pe_int (fun _ _ => rfl)) pa_nil))) pa_nil)))))
        (pss_cons (ps_set (i := 5) sc_seated.nd rfl (Or.inl rfl) (pe_call (ok__way T) (hr.mono (by decide)) (by rfl) T.g__way T.F__way.kp T.b__way .nil pass0 (pa_cons (pv 0) (pa_cons (pv 1) (pa_cons (pe_tup (pa_cons pe_int (pa_cons (pe_ix (r := rIxT K) ix_tup (pv 3) pe_int (fun _ _ => rfl)) pa_nil))) pa_nil)))))
        (pss_one (ps_if (pt_cmp (pc_dnotin (hu_of hr) (pe_ix (r := rIxL K) ix_list (pv 4) (pe_un un_neg pe_int) (fun _ _ => rfl)) (pv 1))) 
          (pss_one (ps_expr (pe_call (ok__take T) (hr.mono (by decide)) (by rfl) T.g__take T.F__take.kp T.b__take .nil pass0 (pa_cons (pv 1) (pa_cons (pv 4) (pa_cons (pv 2) pa_nil)))))) 
          (pss_one (ps_if (pt_cmp (pc_dnotin (hu_of hr) (pe_ix (r := rIxL K) ix_list (pv 5) (pe_un un_neg pe_int) (fun _ _ => rfl)) (pv 1))) 
            (pss_one (ps_expr (pe_call (ok__take T) (hr.mono (by decide)) (by rfl) T.g__take T.F__take.kp T.b__take .nil pass0 (pa_cons (pv 1) (pa_cons (pv 5) (pa_cons (pv 2) pa_nil)))))) 
            (pss_one (ps_ret (pe_tup (pa_cons pe_str (pa_cons (pe_call (ok__crowd T) (hr.mono (by decide)) (by rfl) T.g__crowd T.F__crowd.kp T.b__crowd .nil pass0 (pa_cons (pv 1) (pa_cons (pe_op op_cat (pv 4) (pv 5)) (pa_cons (pv 2) pa_nil)))) pa_nil))))))))))))
      (pss_one (ps_ret (pe_tup (pa_cons pe_str (pa_cons (pe_call (ok__rows T) (hr.mono (by decide)) (by rfl) T.g__rows T.F__rows.kp T.b__rows .nil pass0 (pa_cons (pv 1) (pa_cons (pe_callB call_len_seq (by rfl) T.m_len PySem.boot_len (pa_cons (pv 0) pa_nil)) pa_nil))) pa_nil))))))), ?_⟩
    intro d hd0
    have S1 : Same H (upd H d (.dT [])) := same_new hd0
    obtain ⟨ts, hts, htl, htt⟩ := id hP
    have hlen : (ts.map V.ref).length = PP.length := by rw [List.length_map, htl]
    refine ⟨_, rfl, a, _, rfl, S1.seq hts, for_it walk_enum (fun i σ H1 => ∃ (o2 o3 o4 o5 : Option V) (kvs : List (List Key × V)) (f : Seat → Option Nat), σ = [some (.ref a), some (.ref d), o2, o3, o4, o5] ∧ Same H H1 ∧ H1 d = some (.dT kvs) ∧ HeldIs kvs f ∧ Good PP i f)
      ⟨none, none, none, none, [], fun _ => none, rfl, S1, upd_same, HeldIs.nil, Good.zero PP⟩ (fun i σ H1 _ h => by obtain ⟨_, _, _, _, _, _, _, SH, _⟩ := h; exact SH.seq hts) ?_ ?_⟩
    · rintro i y σ H1 H2 hi ⟨o2, o3, o4, o5, kvs, f, rfl, SH, hd1, HI, G⟩ ⟨Tn, x1, x2, rfl, hTn, rfl, h1, h2⟩
      cases h1
      have hit : i < ts.length := by omega
      have e0 : ts[i]? = some ts[i] := List.getElem?_eq_getElem hit
      have h3 : (ts.map V.ref)[i]? = some x2 := h2
      rw [List.getElem?_map, e0] at h3
      cases h3
      have SA : Same H1 (upd H1 Tn (.tup [.int ((i : Nat) : Int), .ref ts[i]])) := same_new hTn
      have SHA := SH.trans SA
      refine ⟨Tn, _, rfl, SqT.of upd_same, rfl, _, _, rfl, _, _, rfl, rfl, ?_⟩
      have hpt := htt i _ e0
      -- lower
      refine ⟨_, rfl, _, rfl, _, rfl, ts[i], _, _, _, rfl, rfl, same_t SHA hpt, atI_nat (j := 0) rfl, (by show 2 ≤ sizeLine; decide), fun q1 hq1 => ?_⟩
      have SB := SHA.trans (same_new (o := .tup (sv (seatP (getP PP i) 0))) hq1)
      have SB1 : Same H1 _ := SA.trans (same_new (o := .tup (sv (seatP (getP PP i) 0))) hq1)
      refine ⟨a, d, q1, PP, kvs, f, seatP (getP PP i) 0, i, rfl, hP.same SB, SB1 _ _ hd1, HI, G, by omega, by omega, upd_same, fun H3 w1 L1 S3 _ hW1 hT1 W1 => ?_⟩
      have SC := SB.trans S3
      have SC1 := SB1.trans S3
      -- upper
      refine ⟨_, rfl, _, rfl, _, rfl, ts[i], _, _, _, rfl, rfl, same_t SC hpt, atI_nat (j := 1) rfl, (by show 2 ≤ sizeLine; decide), fun q2 hq2 => ?_⟩
      have SD := SC.trans (same_new (o := .tup (sv (seatP (getP PP i) 1))) hq2)
      have SD3 : Same H3 _ := same_new (o := .tup (sv (seatP (getP PP i) 1))) hq2
      have SD1 := SC1.trans SD3
      refine ⟨a, d, q2, PP, kvs, f, seatP (getP PP i) 1, i, rfl, hP.same SD, SD1 _ _ hd1, HI, G, by omega, by omega, upd_same, fun H4 w2 L2 S4 _ hW2 hT2 W2 => ?_⟩
      have SE := SD.trans S4
      have SE3 := SD3.trans S4
      have SE1 := SD1.trans S4
      have hd4 := SE1 _ _ hd1
      have hW1' := SE3 _ _ hW1
      have hT1' := hT1.same SE3
      have hne1 : L1 ≠ [] := fun e => W1.ch.ne (by rw [e]; rfl)
      have hne2 : L2 ≠ [] := fun e => W2.ch.ne (by rw [e]; rfl)
      obtain ⟨x, hx, hx2, hxa, hxm⟩ := last_at hne1
      obtain ⟨z, hz, hz2, hza, hzm⟩ := last_at hne2
      have l1 := G.len W1.ch
      have l2 := G.len W2.ch
      rw [List.length_map] at l1 l2
      -- a pair takes the head of an open way
      have fin : ∀ (r : Int) (hr : r = 0 ∨ r = 1) (L : List (Addr × Seat)) (u : Addr × Seat), Chain (nxP PP f) (seatP (getP PP i) r) (L.map (·.2)) → (L.map (·.2)).getLast? = some u.2 → f u.2 = none → ∀ (H5 : Hp) (kvs5 : List (List Key × V)) (o2 o3 o4 o5 : Option V), But d H4 H5 → H5 d = some (.dT kvs5) → HeldIs kvs5 (shiftF f (L.map (·.2)) (some i)) →
          ∃ (p2 p3 p4 p5 : Option V) (kvs : List (List Key × V)) (f : Seat → Option Nat), [some (V.ref a), some (V.ref d), o2, o3, o4, o5] = [some (V.ref a), some (V.ref d), p2, p3, p4, p5] ∧ Same H H5 ∧ H5 d = some (.dT kvs) ∧ HeldIs kvs f ∧ Good PP (i + 1) f := by
        intro r hr L u ch hl hf H5 kvs5 o2 o3 o4 o5 B h5 HI5
        refine ⟨o2, o3, o4, o5, kvs5, _, rfl, fun b o hb => ?_, h5, HI5, G.take hr ch hl hf⟩
        have nb : b ≠ d := fun e => by rw [e, hd0] at hb; cases hb
        exact B b o nb (SE b o hb)
      refine ⟨_, rfl, _, rfl, w1, _, _, _, rfl, rfl, SqL.of hW1', hxa, _, rfl, d, _, rfl, DGet.t hd4 (k := sk x.2) (hT1' x hxm), _, rfl, ?_⟩
      rw [HI.val x.2]
      cases hfx : f x.2 with
      | none =>
        refine iteT ?_
        refine ⟨_, rfl, _, rfl, _, rfl, d, w1, PP, kvs, f, i, L1, 0, rfl, hd4, HI, G, by omega, hW1', hT1', W1.ch, fun H5 kvs5 B h5 HI5 => ?_⟩
        exact fin 0 (.inl rfl) L1 x W1.ch hx2 hfx H5 kvs5 _ _ _ _ B h5 HI5
      | some n1 =>
        refine iteF ?_
        refine ⟨_, rfl, _, rfl, w2, _, _, _, rfl, rfl, SqL.of hW2, hza, _, rfl, d, _, rfl, DGet.t hd4 (k := sk z.2) (hT2 z hzm), _, rfl, ?_⟩
        rw [HI.val z.2]
        cases hfz : f z.2 with
        | none =>
          refine iteT ?_
          refine ⟨_, rfl, _, rfl, _, rfl, d, w2, PP, kvs, f, i, L2, 1, rfl, hd4, HI, G, by omega, hW2, hT2, W2.ch, fun H5 kvs5 B h5 HI5 => ?_⟩
          exact fin 1 (.inr rfl) L2 z W2.ch hz2 hfz H5 kvs5 _ _ _ _ B h5 HI5
        | some n2 =>
          refine iteF ?_
          obtain ⟨y1, hy1⟩ : ∃ y, nxP PP f x.2 = some y := ⟨_, by unfold nxP; rw [hfx]; rfl⟩
          obtain ⟨y2, hy2⟩ : ∃ y, nxP PP f z.2 = some y := ⟨_, by unfold nxP; rw [hfz]; rfl⟩
          have C1 := closed_held W1.ch hx2 hy1 (W1.stop _ _ hx2 hy1)
          have C2 := closed_held W2.ch hz2 hy2 (W2.stop _ _ hz2 hy2)
          refine ⟨_, rfl, _, rfl, _, rfl, w1, w2, _, _, rfl, rfl, hW1', hW2, (by rw [List.length_map, List.length_map]; exact Nat.le_of_lt (small1000 (by omega))), fun p3 hp3 => ?_⟩
          have SF : Same H4 (upd H4 p3 (.lst (refs L1 ++ refs L2))) := same_new hp3
          have eR : refs L1 ++ refs L2 = refs (L1 ++ L2) := (List.map_append ..).symm
          have TT : TupsAt (upd H4 p3 (.lst (refs L1 ++ refs L2))) (L1 ++ L2) := fun p hp => by
            rcases List.mem_append.mp hp with q | q
            · exact SF _ _ (hT1' p q)
            · exact SF _ _ (hT2 p q)
          refine ⟨_, rfl, d, p3, PP, kvs, f, i, L1 ++ L2, rfl, SF _ _ hd4, HI, G, by omega, (by rw [upd_same, eR]), TT, (by rw [List.length_append]; omega), fun p hp => ?_, fun H5 p4 zs S5 hp4 hzs hzm' => ?_⟩
          · rcases List.mem_append.mp hp with q | q
            · obtain ⟨_, n0, _⟩ := C1 p.2 (List.mem_map.mpr ⟨p, q, rfl⟩)
              obtain ⟨n, hn, _⟩ := nxP_some n0
              exact ⟨n, hn⟩
            · obtain ⟨_, n0, _⟩ := C2 p.2 (List.mem_map.mpr ⟨p, q, rfl⟩)
              obtain ⟨n, hn, _⟩ := nxP_some n0
              exact ⟨n, hn⟩
          · refine ⟨(by show 2 ≤ sizeLine; decide), fun t ht => ?_⟩
            have SG : Same H (upd H5 p4 (.lst (zs.map V.int))) := ((SE.trans SF).trans S5).trans (same_new hp4)
            have npt : t ≠ p4 := fun e => by rw [e, upd_same] at ht; cases ht
            have hp40 : H p4 = none := ((SE.trans SF).trans S5).free hp4
            have htH : H t = none := SG.free ht
            refine kN _ t p4 zs (SG.trans (same_new ht)) htH hp40 npt upd_same (by rw [upd_ne npt.symm]; exact upd_same) ?_
            refine crowd_of (by omega) G W1.ch W2.ch C1 C2 hzs fun kk => ?_
            rw [← List.map_append]
            exact hzm' kk
    · rintro σ H1 ⟨o2, o3, o4, o5, kvs, f, rfl, SH, hd1, HI, G⟩
      rw [hlen] at G
      refine ⟨_, rfl, _, rfl, a, _, rfl, .inl (SH.seq hts), d, PP, kvs, f, (by rw [hlen]; rfl), hd1, HI, G, by omega, fun H2 p rs S2 hp0 hp hrl hall => ?_⟩
      refine ⟨(by show 2 ≤ sizeLine; decide), fun t ht => ?_⟩
      have npt : t ≠ p := fun e => by rw [e, hp] at ht; cases ht
      have S3 := SH.trans S2
      exact kY _ t p rs (S3.trans (same_new ht)) (S3.free ht) (SH.free hp0) npt upd_same (by rw [upd_ne npt.symm]; exact hp) (seated_of G hrl hall)
end

/-! the law's readers -/
def mixed (c k : Int) : Int :=
  ((c + 7919 * k + 11) * 48271 % 2147483647 * ((c + 7919 * k + 11) * 48271 % 2147483647) + 40692 * ((c + 7919 * k + 11) * 48271 % 2147483647)) % 2147483399
theorem mixed_lo (c k : Int) : 0 ≤ mixed c k := Int.emod_nonneg _ (by decide)
theorem mixed_hi (c k : Int) : mixed c k < 2147483399 := Int.emod_lt_of_pos _ (by decide)
def sp__law_cell_at (K : PySem.W.Frag) : Sp := fun vs H Q _ => ∃ (a : Addr) (ns : List Int) (k : Nat), vs = [.ref a, .int k] ∧ SqL K H a (ns.map V.int) ∧ Q (.int (ns.getD k 0)) H
def sp__law_mixed : Sp := fun vs H Q _ => ∃ (c k : Int), vs = [.int c, .int k] ∧ Q (.int (mixed c k)) H
section
variable {P : Program} {w : World} {K : PySem.W.Frag} {mg : Str → Option Value} {base : Heap} {A : Ad}
theorem ok__law_cell_at (T : Tx K mg A) : FnOk P w K mg base CX0 1 A.a__law_cell_at A.d__law_cell_at ["_law_script", "_law_k"] (sp__law_cell_at K) := by
  refine T.F__law_cell_at.ok sc__law_cell_at (fun vs H Q E h => ?_) (fun cdv Ar outer s H vs Q E hr h => ?_)
  · obtain ⟨a, ns, n, rfl, _⟩ := h
    rfl
  · obtain ⟨a, ns, n, rfl, hS, k⟩ := h
    refine ⟨_, 
      (pss_cons (ps_if (pt_cmpR op_lt (pv 1) (pe_callB call_len_seq (by rfl) T.m_len PySem.boot_len (pa_cons (pv 0) pa_nil)) (nomark _)) 
        (pss_one (ps_ret (pe_ix (r := rIxL K) ix_list (pv 0) (pv 1) (fun _ _ => rfl)))) pss_nil)
      (pss_one (ps_ret pe_int))), ?_⟩
    refine ⟨_, rfl, _, rfl, _, _, rfl, .inl hS, _, _, rfl, rfl, _, rfl, ?_⟩
    rw [List.length_map]
    refine ite2 (fun e => ?_) (fun e => ?_)
    · have hn : n < ns.length := by
        have := of_decide_eq_true e
        omega
      refine ⟨_, rfl, _, rfl, _, _, _, _, rfl, rfl, hS, atI_nat (v := .int (ns.getD n 0)) ?_, k⟩
      rw [List.getElem?_map, List.getElem?_eq_getElem hn, List.getD_eq_getElem?_getD, List.getElem?_eq_getElem hn]
      rfl
    · have hn : ¬ n < ns.length := fun q => e (decide_eq_true (by omega))
      have : ns.getD n 0 = 0 := by
        rw [List.getD_eq_getElem?_getD, List.getElem?_eq_none (by omega)]
        rfl
      rw [this] at k
      exact k
theorem ok__law_mixed (T : Tx K mg A) : FnOk P w K mg base CX0 1 A.a__law_mixed A.d__law_mixed ["_law_cell", "_law_k"] sp__law_mixed := by
  refine T.F__law_mixed.ok sc__law_mixed (fun vs H Q E h => ?_) (fun cdv Ar outer s H vs Q E hr h => ?_)
  · obtain ⟨c, n, rfl, _⟩ := h
    rfl
  · obtain ⟨c, n, rfl, k⟩ := h
    refine ⟨_, 
      (pss_cons (ps_set (i := 2) sc__law_mixed.nd rfl (Or.inl rfl) (pe_op op_mod (pe_op op_mul (pe_op op_add (pe_op op_add (pv 0) (pe_op op_mul pe_int (pv 1))) pe_int) pe_int) pe_int))
      (pss_one (ps_ret (pe_op op_mod (pe_op op_add (pe_op op_mul (pv 2) (pv 2)) (pe_op op_mul pe_int (pv 2))) pe_int)))), ?_⟩
    have h0 : 0 ≤ (c + 7919 * n + 11) * 48271 % 2147483647 := Int.emod_nonneg _ (by decide)
    have h1 : (c + 7919 * n + 11) * 48271 % 2147483647 < 2147483647 := Int.emod_lt_of_pos _ (by decide)
    refine ⟨_, rfl, _, rfl, _, _, rfl, rfl, .inl ⟨by decide, by decide⟩, _, _, rfl, rfl, _, _, rfl, rfl, _, _, rfl, rfl, .inr ⟨by decide, by decide⟩, _, _, rfl, rfl, (by show (0 : Int) < 2147483647; decide), ?_⟩
    refine ⟨_, rfl, _, rfl, _, _, rfl, rfl, .inl ⟨by omega, by omega⟩, _, rfl, _, _, rfl, rfl, .inl ⟨by decide, by decide⟩, _, _, rfl, rfl, _, _, rfl, rfl, (by show (0 : Int) < 2147483399; decide), k⟩
end

end K2

namespace K2
open PySem L2 Ck TS2
/-- pairs as the law makes them -/
def ListP (H : Hp) (l : Addr) (L : List (Addr × Seat)) : Prop := H l = some (.lst (refs L)) ∧ TupsAt H L
theorem ListP.same {H H' : Hp} {l : Addr} {L : List (Addr × Seat)} (x : ListP H l L) (e : Same H H') : ListP H' l L := ⟨e _ _ x.1, x.2.same e⟩
theorem ListP.pairs {K : PySem.W.Frag} {H : Hp} {l : Addr} {L : List (Addr × Seat)} (x : ListP H l L) : PairsAt K H l (L.map (·.2)) := by
  refine ⟨L.map (·.1), ?_, by rw [List.length_map, List.length_map], fun n t h => ?_⟩
  · rw [List.map_map]
    exact SqL.of x.1
  · rw [List.getElem?_map] at h
    cases e : L[n]? with
    | none => rw [e] at h; cases h
    | some p =>
      rw [e] at h
      cases h
      have hp := x.2 p (List.mem_of_getElem? e)
      have eg : getP (L.map (·.2)) n = p.2 := by
        unfold getP
        rw [List.getD_eq_getElem?_getD, List.getElem?_map, e]
        rfl
      rw [eg]
      exact SqT.of hp
theorem cut_from (L : List (Addr × Seat)) (k : Nat) : cutV (refs L) (some (k : Int)) none = refs (L.drop k) := by
  unfold cutV
  rw [HT.sIx_none, HT.sIx_nat]
  have e : (refs L).length = L.length := List.length_map ..
  rw [e]
  show ((L.map fun p => V.ref p.1).drop (min k L.length)).take (L.length - min k L.length) = (L.drop k).map fun p => V.ref p.1
  rw [← List.map_drop, ← List.map_take]
  by_cases h : k ≤ L.length
  · rw [Nat.min_eq_left h, List.take_of_length_le (by rw [List.length_drop]; exact Nat.le_refl _)]
  · rw [Nat.min_eq_right (by omega), List.drop_length, List.drop_eq_nil_of_le (by omega), List.take_nil]
theorem cut_to (L : List (Addr × Seat)) (k : Nat) : cutV (refs L) none (some (k : Int)) = refs (L.take k) := by
  unfold cutV
  rw [HT.sIx_none, HT.sIx_nat]
  have e : (refs L).length = L.length := List.length_map ..
  rw [e]
  show ((L.map fun p => V.ref p.1).drop 0).take (min k L.length - 0) = (L.take k).map fun p => V.ref p.1
  rw [List.drop_zero, Nat.sub_zero, ← List.map_take]
  congr 1
  by_cases h : k ≤ L.length
  · rw [Nat.min_eq_left h]
  · rw [Nat.min_eq_right (by omega), List.take_length, List.take_of_length_le (by omega)]
theorem refs_app (A B : List (Addr × Seat)) : refs A ++ refs B = refs (A ++ B) := (List.map_append ..).symm
theorem refs_snoc (L : List (Addr × Seat)) (q : Addr) (s : Seat) : refs L ++ [V.ref q] = refs (L ++ [(q, s)]) := refs_app L [(q, s)]
theorem tups_app {H : Hp} {A B : List (Addr × Seat)} (a : TupsAt H A) (b : TupsAt H B) : TupsAt H (A ++ B) := fun p hp => (List.mem_append.mp hp).elim (a p) (b p)
/-! data: the pairs and the numbers as they are compared -/
def dsP (L : List (Addr × Seat)) : PyData := .list (L.map fun p => PyData.tuple [PyData.int p.2.1, PyData.int p.2.2])
def dsI (ks : List Int) : PyData := .list (ks.map PyData.int)
theorem dp_pairs {K : PySem.W.Frag} {H : Hp} {l : Addr} {L : List (Addr × Seat)} (h : ListP H l L) : Dp K H (.ref l) (dsP L) := by
  refine .lst (SqL.of h.1) ?_
  have key : ∀ M : List (Addr × Seat), TupsAt H M → DpAll K H (refs M) (M.map fun p => PyData.tuple [PyData.int p.2.1, PyData.int p.2.2]) := by
    intro M
    induction M with
    | nil => intro _; exact .nil
    | cons p r ih =>
      intro hM
      exact .cons (.tup (SqT.of (hM p List.mem_cons_self)) (.cons (.int _) (.cons (.int _) .nil))) (ih fun q hq => hM q (List.mem_cons_of_mem _ hq))
  exact key L h.2
theorem dp_ints {K : PySem.W.Frag} {H : Hp} {l : Addr} {ks : List Int} (h : SqL K H l (ks.map V.int)) : Dp K H (.ref l) (dsI ks) := by
  refine .lst h ?_
  have key : ∀ M : List Int, DpAll K H (M.map V.int) (M.map PyData.int) := by
    intro M
    induction M with
    | nil => exact .nil
    | cons p r ih => exact .cons (.int _) ih
  exact key ks
theorem shaped_pairs (L : List (Addr × Seat)) : SeqAt.shaped (dsP L) = true := by
  have h1 : ∀ M : List (Addr × Seat), PyData.canLayAll0 (M.map fun p => PyData.tuple [PyData.int p.2.1, PyData.int p.2.2]) = true := by
    intro M
    induction M with
    | nil => rfl
    | cons p r ih =>
      rw [List.map_cons]
      unfold PyData.canLayAll0
      rw [ih]
      rfl
  have h2 : ∀ M : List (Addr × Seat), PyData.depthAll (M.map fun p => PyData.tuple [PyData.int p.2.1, PyData.int p.2.2]) ≤ 1 := by
    intro M
    induction M with
    | nil => exact Nat.zero_le _
    | cons p r ih =>
      rw [List.map_cons]
      unfold PyData.depthAll
      have : PyData.depth (PyData.tuple [PyData.int p.2.1, PyData.int p.2.2]) = 1 := rfl
      omega
  unfold SeqAt.shaped dsP
  rw [Bool.and_eq_true, decide_eq_true_eq]
  refine ⟨h1 L, ?_⟩
  have := h2 L
  unfold PyData.depth
  omega
theorem shaped_ints (ks : List Int) : SeqAt.shaped (dsI ks) = true := by
  have h1 : ∀ M : List Int, PyData.canLayAll0 (M.map PyData.int) = true := by
    intro M
    induction M with
    | nil => rfl
    | cons p r ih =>
      rw [List.map_cons]
      unfold PyData.canLayAll0
      rw [ih]
      rfl
  have h2 : ∀ M : List Int, PyData.depthAll (M.map PyData.int) = 0 := by
    intro M
    induction M with
    | nil => rfl
    | cons p r ih =>
      rw [List.map_cons]
      unfold PyData.depthAll
      rw [ih]
      rfl
  unfold SeqAt.shaped dsI
  rw [Bool.and_eq_true, decide_eq_true_eq]
  refine ⟨h1 ks, ?_⟩
  unfold PyData.depth
  rw [h2]
  decide
theorem eqv_nil_pairs {L : List (Addr × Seat)} (h : (!PyData.eqv (dsP L) (dsP [])) = true) : L ≠ [] := by
  rintro rfl
  exact absurd h (by decide)
theorem eqv_same {d : PyData} (h : SeqAt.shaped d = true) : PyData.eqv d d = true := SeqAt.eqv_refl d (SeqAt.canLay_of_shaped h)
/-- what seated told: the tuple at t, its list at p -/
def Told (H : Hp) (t p : Addr) (z : Str) (ks : List Int) (PP : List (Int × Int)) : Prop := H t = some (.tup [.str z, .ref p]) ∧ H p = some (.lst (ks.map V.int)) ∧ ((z = "yes" ∧ Seated PP ks) ∨ (z = "no" ∧ Crowd PP ks))
theorem rows_at {rs : List Int} {k : Nat} (hk : k < rs.length) : atI (rs.map V.int) (0 + (k : Int)) = some (.int (rs.getD k 0)) := by
  rw [Int.zero_add]
  refine atI_nat ?_
  rw [List.getElem?_map, List.getElem?_eq_getElem hk, List.getD_eq_getElem?_getD, List.getElem?_eq_getElem hk]
  rfl
theorem rows_in {x : Int} (h : x = 0 ∨ x = 1) : inV (.int x) [V.int 0, V.int 1] = true := by
  rcases h with rfl | rfl <;> decide

/-! mathematics of the small law -/
def seatsOf (P : List (Int × Int)) (rs : List Int) : List Seat := (List.range P.length).map fun k => seatP (getP P k) (rs.getD k 0)
theorem seatsOf_len (P : List (Int × Int)) (rs : List Int) : (seatsOf P rs).length = P.length := by
  unfold seatsOf
  rw [List.length_map, List.length_range]
theorem seatsOf_nd {P : List (Int × Int)} {rs : List Int} : (seatsOf P rs).Nodup ↔ ∀ i j : Nat, i < P.length → j < P.length → seatP (getP P i) (rs.getD i 0) = seatP (getP P j) (rs.getD j 0) → i = j := by
  have at_ : ∀ i, i < P.length → (seatsOf P rs)[i]? = some (seatP (getP P i) (rs.getD i 0)) := by
    intro i hi
    unfold seatsOf
    rw [List.getElem?_map, List.getElem?_range hi]
    rfl
  constructor
  · intro h i j hi hj e
    have a := at_ i hi
    have b := at_ j hj
    rw [e] at a
    obtain ⟨h1, e1⟩ := List.getElem?_eq_some_iff.mp a
    obtain ⟨h2, e2⟩ := List.getElem?_eq_some_iff.mp b
    exact (List.getElem_inj h (h₀ := h1) (h₁ := h2)).mp (e1.trans e2.symm)
  · intro h
    unfold seatsOf
    refine List.pairwise_map.mpr ?_
    refine List.Pairwise.imp_of_mem ?_ List.nodup_range
    intro i j hi hj hne e
    exact hne (h i j (List.mem_range.mp hi) (List.mem_range.mp hj) e)
theorem seated_iff {P : List (Int × Int)} {rs : List Int} (hl : rs.length = P.length) (h01 : ∀ r ∈ rs, r = 0 ∨ r = 1) : (seatsOf P rs).Nodup ↔ Seated P rs :=
  seatsOf_nd.trans ⟨fun h => ⟨hl, h01, h⟩, fun h => h.2.2⟩
/-- as long as a list without twins that covers it: no twins -/
theorem nodup_of_cover {α : Type} [DecidableEq α] {l m : List α} (hm : m.Nodup) (hs : ∀ x ∈ m, x ∈ l) (hl : l.length ≤ m.length) : l.Nodup := by
  rw [List.nodup_iff_count]
  intro a
  rcases Nat.lt_or_ge 1 (l.count a) with h | h
  · exfalso
    have hq := nodup_len m (l.erase a) hm fun x hx => by
      by_cases e : x = a
      · rw [e]
        have : 0 < (l.erase a).count a := by
          rw [List.count_erase_self]
          omega
        exact List.count_pos_iff.mp this
      · exact (List.mem_erase_of_ne e).mpr (hs x hx)
    have ha : a ∈ l := List.count_pos_iff.mp (by omega)
    rw [List.length_erase_of_mem ha] at hq
    have := List.length_pos_of_mem ha
    omega
  · exact h
def rowsOf (c n : Nat) : List Int := (List.range n).map fun k => ((c : Int) / 2 ^ k % 2)
theorem rowsOf_at {c n k : Nat} (h : k < n) : (rowsOf c n)[k]? = some ((c : Int) / 2 ^ k % 2) := by
  unfold rowsOf
  rw [List.getElem?_map, List.getElem?_range h]
  rfl
theorem rowsOf_len (c n : Nat) : (rowsOf c n).length = n := by
  unfold rowsOf
  rw [List.length_map, List.length_range]
theorem rowsOf_01 (c n : Nat) : ∀ r ∈ rowsOf c n, r = 0 ∨ r = 1 := by
  intro r h
  obtain ⟨k, _, rfl⟩ := List.mem_map.mp h
  have h0 : 0 ≤ (c : Int) / 2 ^ k % 2 := Int.emod_nonneg _ (by decide)
  have h1 : (c : Int) / 2 ^ k % 2 < 2 := Int.emod_lt_of_pos _ (by decide)
  omega
/-- every rows of at most seven pairs is one of the codes' -/
theorem code_of_rows : ∀ (rs : List Int), (∀ r ∈ rs, r = 0 ∨ r = 1) → ∃ c : Nat, c < 2 ^ rs.length ∧ rowsOf c rs.length = rs
  | [], _ => ⟨0, by decide, rfl⟩
  | r :: rs, h => by
    obtain ⟨c, hc, e⟩ := code_of_rows rs fun x hx => h x (List.mem_cons_of_mem _ hx)
    have hr := h r List.mem_cons_self
    refine ⟨2 * c + r.toNat, ?_, ?_⟩
    · rw [List.length_cons, Nat.pow_succ]
      rcases hr with rfl | rfl
      · show 2 * c + 0 < _
        omega
      · show 2 * c + 1 < _
        omega
    · refine List.ext_getElem? fun k => ?_
      rcases Nat.lt_or_ge k (r :: rs).length with hk | hk
      · rw [rowsOf_at hk]
        cases k with
        | zero =>
          rw [List.getElem?_cons_zero]
          congr 1
          rcases hr with rfl | rfl
          · show ((2 * c + 0 : Nat) : Int) / 2 ^ 0 % 2 = 0
            omega
          · show ((2 * c + 1 : Nat) : Int) / 2 ^ 0 % 2 = 1
            omega
        | succ k =>
          rw [List.length_cons] at hk
          rw [List.getElem?_cons_succ]
          have e2 := rowsOf_at (c := c) (n := rs.length) (k := k) (by omega)
          rw [e] at e2
          rw [e2]
          congr 2
          have h2 : (2 : Int) ^ (k + 1) = 2 * 2 ^ k := by
            rw [Int.pow_succ, Int.mul_comm]
          rw [h2, ← Int.ediv_ediv_of_nonneg (by decide)]
          congr 1
          rcases hr with rfl | rfl
          · show ((2 * c + 0 : Nat) : Int) / 2 = c
            omega
          · show ((2 * c + 1 : Nat) : Int) / 2 = c
            omega
      · rw [List.getElem?_eq_none (by rw [rowsOf_len]; exact hk), List.getElem?_eq_none hk]
theorem can_iff {P : List (Int × Int)} (h7 : P.length ≤ 7) : (∃ c : Nat, c < 128 ∧ (seatsOf P (rowsOf c P.length)).Nodup) ↔ ∃ rs, Seated P rs := by
  constructor
  · rintro ⟨c, _, h⟩
    exact ⟨_, (seated_iff (rowsOf_len _ _) (rowsOf_01 _ _)).mp h⟩
  · rintro ⟨rs, h⟩
    obtain ⟨c, hc, e⟩ := code_of_rows rs h.2.1
    rw [h.1] at hc e
    refine ⟨c, Nat.lt_of_lt_of_le hc (Nat.pow_le_pow_right (by decide) h7), ?_⟩
    rw [e]
    exact (seated_iff h.1 h.2.1).mpr h
def pows : List Int := [1, 2, 4, 8, 16, 32, 64]
theorem pow_at {k : Nat} (h : k < 7) : pows[k]? = some ((2 : Int) ^ k) ∧ 0 < (2 : Int) ^ k ∧ (2 : Int) ^ k < 1073741824 := by
  rcases (show k = 0 ∨ k = 1 ∨ k = 2 ∨ k = 3 ∨ k = 4 ∨ k = 5 ∨ k = 6 by omega) with rfl | rfl | rfl | rfl | rfl | rfl | rfl <;> exact ⟨rfl, by decide, by decide⟩
/-! promises -/
def sp__law_places (K : PySem.W.Frag) : Sp := fun vs H Q _ => ∃ (a r : Addr) (P : List (Int × Int)) (rs : List Int), vs = [.ref a, .ref r] ∧ PairsAt K H a P ∧ SqL K H r (rs.map V.int) ∧ rs.length = P.length ∧ (∀ x ∈ rs, x = 0 ∨ x = 1) ∧ P.length ≤ 7 ∧
  ∀ H' l L, Same H H' → H l = none → ListP H' l L → L.map (·.2) = seatsOf P rs → Q (.ref l) H'
def sp__law_unlike : Sp := fun vs H Q _ => ∃ (l : Addr) (L : List (Addr × Seat)), vs = [.ref l] ∧ ListP H l L ∧ L.length ≤ 20 ∧ ∀ H' b, Same H H' → (b = true ↔ (L.map (·.2)).Nodup) → Q (.bl b) H'
def sp__law_can (K : PySem.W.Frag) : Sp := fun vs H Q _ => ∃ (a : Addr) (P : List (Int × Int)), vs = [.ref a] ∧ PairsAt K H a P ∧ P.length ≤ 7 ∧ ∀ H' b, Same H H' → (b = true ↔ ∃ rs, Seated P rs) → Q (.bl b) H'
def sp__law_numbers : Sp := fun vs H Q _ => ∃ (p : Addr) (ks : List Int) (lo hi : Int), vs = [.ref p, .int lo, .int hi] ∧ H p = some (.lst (ks.map V.int)) ∧ (∀ x ∈ ks, lo ≤ x ∧ x ≤ hi) ∧ Q (.bl true) H
def sp__law_few (K : PySem.W.Frag) : Sp := fun vs H Q _ => ∃ (a p : Addr) (P : List (Int × Int)) (zs : List Int), vs = [.ref a, .ref p] ∧ PairsAt K H a P ∧ H p = some (.lst (zs.map V.int)) ∧ Crowd P zs ∧ P.length ≤ 7 ∧ ∀ H', Same H H' → Q (.bl true) H'
def sp__law_right (K : PySem.W.Frag) : Sp := fun vs H Q _ => ∃ (t r a : Addr) (ks : List Int) (z : Str) (P : List (Int × Int)), vs = [.ref t, .ref a] ∧ H t = some (.tup [.str z, .ref r]) ∧ H r = some (.lst (ks.map V.int)) ∧ PairsAt K H a P ∧ P.length ≤ 7 ∧
  ((z = "yes" ∧ Seated P ks) ∨ (z = "no" ∧ Crowd P ks)) ∧ ∀ H', Same H H' → Q (.bl true) H'
def sp_law (K : PySem.W.Frag) : Sp := fun vs H Q _ => ∃ (a : Addr) (ns : List Int), vs = [.ref a] ∧ SqL K H a (ns.map V.int) ∧ ns.length ≤ 63 ∧ ∀ H', Q (.bl true) H'
section
variable {P : Program} {w : World} {K : PySem.W.Frag} {mg : Str → Option Value} {base : Heap} {A : Ad}
theorem ok__law_places (T : Tx K mg A) : FnOk P w K mg base CX0 1 A.a__law_places A.d__law_places ["_law_pairs", "_law_rows"] (sp__law_places K) := by
  refine T.F__law_places.ok sc__law_places (fun vs H Q E h => ?_) (fun cdv Ar outer s H vs Q E hr h => ?_)
  · obtain ⟨a, r, PP, rs, rfl, _⟩ := h
    rfl
  · obtain ⟨a, r, PP, rs, rfl, hP, hR, hl, h01, h7, k⟩ := h
    refine ⟨_, 
      (pss_one (ps_ret (pe_lc (own := [("_law_k", 2)]) (g := gName 2) (tt := tYes) (by rfl) sc__law_places.nd (pi_range1 (by rfl) T.m_range (pa_cons (pe_callB call_len_seq (by rfl) T.m_len PySem.boot_len (pa_cons (pv 0) pa_nil)) pa_nil)) (blkOk_by (own := [("_law_k", 2)]) (N := ["_law_pairs", "_law_rows", "_law_k"]) (sc := defScope s__law_places) (by decide +kernel)) (fun _ _ _ _ _ => (pg_name (i := 2) sc__law_places.nd rfl (Or.inl rfl))) (fun _ _ _ _ _ => pts_nil) (fun _ _ _ _ _ => (pe_tup (pa_cons (pe_ix (r := rIxL K) ix_list (pv 1) (pv 2) (fun _ _ => rfl)) (pa_cons (pe_ix (r := rIxT K) ix_tup (pe_ix (r := rIxL K) ix_list (pv 0) (pv 2) (fun _ _ => rfl)) (pe_ix (r := rIxL K) ix_list (pv 1) (pv 2) (fun _ _ => rfl)) (fun _ _ => rfl)) pa_nil))))))), ?_⟩
    obtain ⟨ts, hts, htl, htt⟩ := id hP
    have e2 : (ts.map V.ref).length = PP.length := by rw [List.length_map, htl]
    refine ⟨_, rfl, a, _, rfl, .inl hts, _, rfl, by omega, by omega, fun D hD => ?_⟩
    refine lc_it walk_range (fun i H3 => ∃ L : List (Addr × Seat), Same H H3 ∧ ListP H3 D L ∧ L.map (·.2) = (List.range i).map fun k => seatP (getP PP k) (rs.getD k 0)) ⟨[], same_new hD, ⟨upd_same, fun _ h => (by cases h)⟩, rfl⟩ (fun _ _ _ _ => trivial) ?_ ?_
    · rintro i x H3 H4 hi ⟨L, S3, hL, hl3⟩ ⟨rfl, rfl⟩
      have hiP : i < PP.length := by omega
      have hir : i < rs.length := by omega
      have hLl : L.length = i := by
        have z := congrArg List.length hl3
        rwa [List.length_map, List.length_map, List.length_range] at z
      have hx := h01 _ (by
        have q : rs.getD i 0 ∈ rs := by
          rw [List.getD_eq_getElem?_getD, List.getElem?_eq_getElem hir]
          exact List.getElem_mem _
        exact q)
      have eT : ts[i]? = some ts[i] := List.getElem?_eq_getElem (by omega)
      have eP : atI (ts.map V.ref) (0 + (i : Int)) = some (.ref ts[i]) := by
        rw [Int.zero_add]
        refine atI_nat ?_
        rw [List.getElem?_map, eT]
        rfl
      have eI : atI [V.int (getP PP i).1, V.int (getP PP i).2] (rs.getD i 0) = some (.int (rowP (getP PP i) (rs.getD i 0))) := by
        rcases hx with z | z <;> rw [z]
        · exact atI_nat (j := 0) rfl
        · exact atI_nat (j := 1) rfl
      refine ⟨rfl, lc_yes ?_⟩
      refine ⟨_, rfl, _, rfl, r, _, _, _, rfl, rfl, S3.seq hR, rows_at hir, _, rfl, _, rfl, a, _, _, _, rfl, rfl, S3.seq hts, eP, _, rfl, _, rfl, r, _, _, _, rfl, rfl, S3.seq hR, rows_at hir, ts[i], _, _, _, rfl, rfl, same_t S3 (htt i _ eT), eI, (by show 2 ≤ sizeLine; decide), fun q hq => ?_⟩
      have Sq := same_new (o := .tup (sv (seatP (getP PP i) (rs.getD i 0)))) hq
      refine ⟨_, Sq _ _ hL.1, (by rw [List.length_map]; exact small1000 (by omega)), L ++ [(q, seatP (getP PP i) (rs.getD i 0))], same_mut (S3.trans Sq) hD, ⟨?_, fun p hp => ?_⟩, ?_⟩
      · rw [upd_same]
        exact congrArg (fun z => some (HO.lst z)) (refs_snoc L _ _)
      · have nl : ∀ b ys, (upd H4 q (.tup (sv (seatP (getP PP i) (rs.getD i 0))))) b = some (.tup ys) → b ≠ D := fun b ys hb => ne_of hb (Sq _ _ hL.1) (by intro z; cases z)
        rcases List.mem_append.mp hp with z | z
        · rw [upd_ne (nl _ _ (Sq _ _ (hL.2 p z)))]
          exact Sq _ _ (hL.2 p z)
        · cases List.mem_singleton.mp z
          rw [upd_ne (nl _ _ upd_same)]
          exact upd_same
      · rw [List.map_append, hl3, List.range_succ, List.map_append]
        rfl
    · rintro H3 ⟨L, S3, hL, hl3⟩
      refine k H3 D L S3 hD hL ?_
      rw [hl3]
      unfold seatsOf
      have e : ((((ts.map V.ref).length : Nat) : Int)).toNat = PP.length := by omega
      rw [e]
theorem ok__law_unlike (T : Tx K mg A) : FnOk P w K mg base CX0 1 A.a__law_unlike A.d__law_unlike ["_law_places_here"] sp__law_unlike := by
  refine T.F__law_unlike.ok sc__law_unlike (fun vs H Q E h => ?_) (fun cdv Ar outer s H vs Q E hr h => ?_)
  · obtain ⟨l, L, rfl, _⟩ := h
    rfl
  · obtain ⟨l, L, rfl, hL, h20, k⟩ := h
    refine ⟨_, 
      (pss_one (ps_ret (pe_cmpR op_eq (pe_callB TS2.cr_lenTS (by rfl) T.m_len PySem.boot_len (pa_cons (pe_callTy (TS2.cr_setT rfl hr.units) (by rfl) T.m_set (by decide +kernel) (pa_cons (pv 0) pa_nil)) pa_nil)) (pe_callB call_len_seq (by rfl) T.m_len PySem.boot_len (pa_cons (pv 0) pa_nil)) (nomark _)))), ?_⟩
    have eR : (L.map fun p => ((p.1, sl p.2) : Addr × List Int)).map (fun p => V.ref p.1) = refs L := by
      rw [List.map_map]
      rfl
    refine ⟨_, rfl, l, L.map (fun p => (p.1, sl p.2)), rfl, (by rw [eR]; exact SqL.of hL.1), fun p hp => ?_, (by rw [List.length_map]; omega), fun a LL ha hsub hall hnd => ?_⟩
    · obtain ⟨q, hq, rfl⟩ := List.mem_map.mp hp
      exact SqT.of (hL.2 q hq)
    · refine ⟨a, LL, rfl, upd_same, _, rfl, l, _, rfl, .inl (SqL.of (same_new ha _ _ hL.1)), rfl, ?_⟩
      show Q (V.bl (decide (V.int ((LL.length : Nat) : Int) = V.int (((refs L).length : Nat) : Int)))) _
      have eL : (refs L).length = L.length := List.length_map ..
      rw [eL]
      have keys : ∀ x, x ∈ LL.map (·.2) ↔ x ∈ (L.map (·.2)).map sl := by
        intro x
        constructor
        · intro h
          obtain ⟨p, hp, rfl⟩ := List.mem_map.mp h
          obtain ⟨q, hq, e⟩ := List.mem_map.mp (hsub p hp)
          refine List.mem_map.mpr ⟨q.2, List.mem_map.mpr ⟨q, hq, rfl⟩, ?_⟩
          rw [← e]
        · intro h
          obtain ⟨s1, h1, rfl⟩ := List.mem_map.mp h
          obtain ⟨q, hq, rfl⟩ := List.mem_map.mp h1
          exact hall (q.1, sl q.2) (List.mem_map.mpr ⟨q, hq, rfl⟩)
      have ndm : ((L.map (·.2)).map sl).Nodup ↔ (L.map (·.2)).Nodup := by
        constructor
        · intro h
          exact List.Pairwise.of_map sl (fun a b hne e => hne (congrArg sl e)) h
        · intro h
          exact List.pairwise_map.mpr (h.imp fun hne e => hne (sl_inj e))
      refine k _ _ (same_new ha) ?_
      rw [decide_eq_true_eq]
      constructor
      · intro e
        have e1 : LL.length = L.length := by
          have := V.int.inj e
          omega
        refine ndm.mp (nodup_of_cover hnd (fun x hx => (keys x).mp hx) ?_)
        rw [List.length_map, List.length_map, List.length_map]
        omega
      · intro h
        have q1 := nodup_len _ _ hnd fun x hx => (keys x).mp hx
        have q2 := nodup_len _ _ (ndm.mpr h) fun x hx => (keys x).mpr hx
        simp only [List.length_map] at q1 q2
        have : LL.length = L.length := by omega
        rw [this]
theorem ok__law_numbers (T : Tx K mg A) : FnOk P w K mg base CX0 1 A.a__law_numbers A.d__law_numbers ["_law_found", "_law_least", "_law_most"] sp__law_numbers := by
  refine T.F__law_numbers.ok sc__law_numbers (fun vs H Q E h => ?_) (fun cdv Ar outer s H vs Q E hr h => ?_)
  · obtain ⟨p, ks, lo, hi, rfl, _⟩ := h
    rfl
  · obtain ⟨p, ks, lo, hi, rfl, hp, hk, k⟩ := h
    refine ⟨_, 
      (pss_cons (ps_if (pt_not (pt_val (pe_callB call_isi (by rfl) T.m_isinstance (by decide +kernel) (pa_cons (pv 0) (pa_cons (pe_bltn (v := .ty "list") (u := .type "list") (by rfl) T.m_list (by decide +kernel) rfl) pa_nil))))) 
        (pss_one (ps_ret pe_bl)) pss_nil)
      (pss_cons (ps_for PassesOwn.never rfl (pi_list (pv 0)) (pg_name (i := 3) sc__law_numbers.nd rfl (Or.inl rfl)) 
        (pss_one (ps_if (PW.pt (pw_or (pt_not (pt_val (pe_callB call_isi (by rfl) T.m_isinstance (by decide +kernel) (pa_cons (pv 3) (pa_cons (pe_bltn (v := .ty "int") (u := .type "int") (by rfl) T.m_int (by decide +kernel) rfl) pa_nil))))) (pw_or (pt_val (pe_callB call_isi (by rfl) T.m_isinstance (by decide +kernel) (pa_cons (pv 3) (pa_cons (pe_bltn (v := .ty "bool") (u := .type "bool") (by rfl) T.m_bool (by decide +kernel) rfl) pa_nil)))) (pw_or (pt_cmpR op_lt (pv 3) (pv 1) (nomark _)) (pw_or1 (pt_cmpR op_gt (pv 3) (pv 2) (nomark _))))))) 
          (pss_one (ps_ret pe_bl)) pss_nil)))
      (pss_one (ps_ret pe_bl)))), ?_⟩
    refine ⟨_, rfl, _, _, _, _, true, rfl, .ty _, .base (.lst hp), kit_ty (by decide +kernel), true, rfl, iteF ?_⟩
    refine ⟨_, rfl, p, rfl, ⟨_, SqL.of hp⟩, for_it (walk_list (xs := ks.map V.int)) (fun i σ H1 => H1 = H ∧ ∃ o, σ = [some (.ref p), some (.int lo), some (.int hi), o]) ⟨rfl, none, rfl⟩ (fun i σ H1 _ h => by obtain ⟨rfl, _⟩ := h; exact SqL.of hp) ?_ ?_⟩
    · rintro i x σ H1 H2 hi' ⟨rfl, o, rfl⟩ ⟨rfl, hx⟩
      rw [List.getElem?_map] at hx
      cases e : ks[i]? with
      | none => rw [e] at hx; cases hx
      | some z =>
        rw [e] at hx
        cases hx
        have hz := hk z (List.mem_of_getElem? e)
        refine ⟨_, rfl, _, _, _, _, true, rfl, .ty _, .base (.int _), kit_ty (by decide +kernel), true, rfl, iteF ?_⟩
        refine ⟨_, rfl, _, _, _, _, false, rfl, .ty _, .base (.int _), kit_ty (by decide +kernel), false, rfl, iteF ?_⟩
        refine ⟨_, rfl, _, rfl, _, _, rfl, rfl, false, congrArg V.bl (decide_eq_false (by omega)), iteF ?_⟩
        refine ⟨_, rfl, _, rfl, _, _, rfl, rfl, false, congrArg V.bl (decide_eq_false (by omega)), iteF ?_⟩
        exact ⟨rfl, _, rfl⟩
    · rintro σ H1 ⟨rfl, o, rfl⟩
      exact k
end
end K2

namespace K2
open PySem L2 Ck TS2
theorem pows_at {k : Nat} (h : k < 7) : atI [V.int 1, V.int 2, V.int 4, V.int 8, V.int 16, V.int 32, V.int 64] (0 + (k : Int)) = some (.int ((2 : Int) ^ k)) := by
  rw [Int.zero_add]
  refine atI_nat ?_
  have e : [V.int 1, V.int 2, V.int 4, V.int 8, V.int 16, V.int 32, V.int 64] = pows.map V.int := rfl
  rw [e, List.getElem?_map, (pow_at h).1]
  rfl
theorem crowd_len {P : List (Int × Int)} {zs : List Int} (c : Crowd P zs) : zs.length ≤ P.length := by
  obtain ⟨hz, hlt, _⟩ := c
  have q := nodup_map_len (fun z : Int => z.toNat) zs (List.range P.length) (hz.imp (fun h => by omega)) (fun x hx y hy e => by
    have := hlt x hx
    have := hlt y hy
    have e' : x.toNat = y.toNat := e
    omega) fun x hx => by
    have := hlt x hx
    exact List.mem_range.mpr (show x.toNat < P.length by omega)
  rwa [List.length_range] at q
section
variable {P : Program} {w : World} {K : PySem.W.Frag} {mg : Str → Option Value} {base : Heap} {A : Ad}
theorem ok__law_can (T : Tx K mg A) : FnOk P w K mg base CX0 2 A.a__law_can A.d__law_can ["_law_pairs"] (sp__law_can K) := by
  refine T.F__law_can.ok sc__law_can (fun vs H Q E h => ?_) (fun cdv Ar outer s H vs Q E hr h => ?_)
  · obtain ⟨a, PP, rfl, _⟩ := h
    rfl
  · obtain ⟨a, PP, rfl, hP, h7, k⟩ := h
    refine ⟨_, 
      (pss_cons (ps_for PassesOwn.never rfl (pi_range1 (by rfl) T.m_range (pa_cons (pe_op op_pow pe_int pe_int) pa_nil)) (pg_name (i := 1) sc__law_can.nd rfl (Or.inr rfl)) 
        (pss_cons (ps_setLc (i := 2) (own := [("_law_k", 3)]) (g := gName 3) (tt := tYes) (by rfl) sc__law_can.nd rfl rfl (sw_true rfl rfl rfl (by decide +kernel)) (pi_range1 (by rfl) T.m_range (pa_cons (pe_callB call_len_seq (by rfl) T.m_len PySem.boot_len (pa_cons (pv 0) pa_nil)) pa_nil)) (blkOk_by (own := [("_law_k", 3)]) (N := ["_law_pairs", "_law_code", "_law_rows", "_law_k"]) (sc := defScope s__law_can) (by decide +kernel)) (fun _ _ _ _ _ => (pg_name (i := 3) sc__law_can.nd rfl (Or.inl rfl))) (fun _ _ _ _ _ => pts_nil) (fun _ _ _ _ _ => (pe_op op_mod (pe_op op_fdiv (pv 1) (pe_ix (r := rIxL K) ix_list (pe_lst (pa_cons pe_int (pa_cons pe_int (pa_cons pe_int (pa_cons pe_int (pa_cons pe_int (pa_cons pe_int (pa_cons pe_int pa_nil)))))))) (pv 3) (fun _ _ => rfl))) pe_int)))
        (pss_one (ps_if (pt_val (pe_call (ok__law_unlike T) hr (by rfl) T.g__law_unlike T.F__law_unlike.kp T.b__law_unlike .nil pass0 (pa_cons (pe_call (ok__law_places T) hr (by rfl) T.g__law_places T.F__law_places.kp T.b__law_places .nil pass0 (pa_cons (pv 0) (pa_cons (pv 2) pa_nil))) pa_nil))) 
          (pss_one (ps_ret pe_bl)) pss_nil))))
      (pss_one (ps_ret pe_bl))), ?_⟩
    obtain ⟨ts, hts, htl, htt⟩ := id hP
    have e2 : (ts.map V.ref).length = PP.length := by rw [List.length_map, htl]
    refine ⟨_, _, rfl, rfl, ⟨by decide, by decide, by decide⟩, _, rfl, by decide, by decide, for_it walk_range (fun i σ H1 => Same H H1 ∧ (∃ o1 o2 o3, σ = [some (.ref a), o1, o2, o3]) ∧ ∀ c, c < i → ¬ (seatsOf PP (rowsOf c PP.length)).Nodup)
      ⟨Same.refl H, ⟨_, _, _, rfl⟩, fun c h => absurd h (Nat.not_lt_zero _)⟩ (fun _ _ _ _ _ => trivial) ?_ ?_⟩
    · rintro i x σ H1 H2 hi ⟨SH, ⟨o1, o2, o3, rfl⟩, hno⟩ ⟨rfl, rfl⟩
      refine ⟨_, rfl, a, _, rfl, .inl (SH.seq hts), _, rfl, by omega, by omega, fun D hD => ?_⟩
      refine lc_it walk_range (fun k H3 => Same H2 H3 ∧ H3 D = some (.lst (((rowsOf i PP.length).take k).map V.int))) ⟨same_new hD, upd_same⟩ (fun _ _ _ _ => trivial) ?_ ?_
      · rintro k x H3 H4 hk ⟨S3, h3⟩ ⟨rfl, rfl⟩
        have hkP : k < PP.length := by omega
        have hk7 : k < 7 := by omega
        refine ⟨rfl, lc_yes ?_⟩
        refine ⟨_, rfl, (by show 7 ≤ sizeLine; decide), fun l hl => ?_⟩
        have T1 := same_new (o := .lst [V.int 1, V.int 2, V.int 4, V.int 8, V.int 16, V.int 32, V.int 64]) hl
        refine ⟨_, rfl, l, _, _, _, rfl, rfl, SqL.of upd_same, pows_at hk7, _, _, rfl, rfl, (pow_at hk7).2, _, _, rfl, rfl, (by show (0 : Int) < 2; decide), _, T1 _ _ h3, ?_, same_mut (S3.trans T1) hD, ?_⟩
        · rw [List.length_map, List.length_take]
          exact Nat.lt_of_le_of_lt (Nat.min_le_left _ _) (small1000 (by omega))
        · rw [upd_same, List.take_add_one, rowsOf_at hkP, List.map_append]
          show some (HO.lst (((rowsOf i PP.length).take k).map V.int ++ [V.int ((0 + (i : Int)) / 2 ^ k % 2)])) = _
          rw [Int.zero_add]
          rfl
      · rintro H3 ⟨S3, h3⟩
        have e : ((((ts.map V.ref).length : Nat) : Int)).toNat = (rowsOf i PP.length).length := by rw [rowsOf_len]; omega
        rw [e, List.take_length] at h3
        have SA := SH.trans S3
        refine ⟨_, rfl, _, rfl, a, D, PP, rowsOf i PP.length, rfl, hP.same SA, SqL.of h3, rowsOf_len _ _, rowsOf_01 _ _, h7, fun H5 l L S5 hl hL eL => ?_⟩
        have hLl : L.length = PP.length := by
          have z := congrArg List.length eL
          rwa [List.length_map, seatsOf_len] at z
        refine ⟨l, L, rfl, hL, by omega, fun H6 b S6 hb => ⟨b, rfl, ?_⟩⟩
        rw [eL] at hb
        cases b with
        | true =>
          refine iteT ?_
          refine k _ true ((SA.trans S5).trans S6) ⟨fun _ => (can_iff h7).mp ⟨i, ?_, hb.mp rfl⟩, fun _ => rfl⟩
          have z : ((2 : Int) ^ (7 : Int).toNat).toNat = 128 := by decide
          omega
        | false =>
          refine iteF ?_
          refine ⟨(SA.trans S5).trans S6, ⟨_, _, _, rfl⟩, fun c hc => ?_⟩
          rcases Nat.lt_succ_iff_lt_or_eq.mp hc with q | q
          · exact hno c q
          · rw [q]
            intro z
            exact Bool.noConfusion (hb.mpr z)
    · rintro σ H1 ⟨SH, ⟨o1, o2, o3, rfl⟩, hno⟩
      refine k _ false SH ⟨fun z => Bool.noConfusion z, fun z => ?_⟩
      obtain ⟨c, hc, hn⟩ := (can_iff h7).mpr z
      have e : ((2 : Int) ^ (7 : Int).toNat).toNat = 128 := by decide
      exact (hno c (by omega) hn).elim
theorem ok__law_few (T : Tx K mg A) : FnOk P w K mg base CX0 1 A.a__law_few A.d__law_few ["_law_pairs", "_law_numbers_here"] (sp__law_few K) := by
  refine T.F__law_few.ok sc__law_few (fun vs H Q E h => ?_) (fun cdv Ar outer s H vs Q E hr h => ?_)
  · obtain ⟨a, p, PP, zs, rfl, _⟩ := h
    rfl
  · obtain ⟨a, p, PP, zs, rfl, hP, hp, hc, h7, k⟩ := h
    refine ⟨_, 
      (pss_cons (ps_set (i := 2) sc__law_few.nd rfl (Or.inl rfl) (pe_lst pa_nil))
      (pss_cons (ps_for PassesOwn.never rfl (pi_range1 (by rfl) T.m_range (pa_cons (pe_callB call_len_seq (by rfl) T.m_len PySem.boot_len (pa_cons (pv 1) pa_nil)) pa_nil)) (pg_name (i := 3) sc__law_few.nd rfl (Or.inl rfl)) 
        (pss_cons (ps_if (PW.pt (pw_and (pt_cmpR op_gt (pv 3) pe_int (nomark _)) (pw_and1 (pt_cmpR op_ge (pe_ix (r := rIxL K) ix_list (pv 1) (pe_op op_sub (pv 3) pe_int) (fun _ _ => rfl)) (pe_ix (r := rIxL K) ix_list (pv 1) (pv 3) (fun _ _ => rfl)) (nomark _))))) 
          (pss_one (ps_ret pe_bl)) pss_nil)
        (pss_one (ps_set (i := 2) sc__law_few.nd rfl (Or.inl rfl) (pe_op op_cat (pv 2) (pe_lst (pa_cons (pe_tup (pa_cons pe_int (pa_cons (pe_ix (r := rIxT K) ix_tup (pe_ix (r := rIxL K) ix_list (pv 0) (pe_ix (r := rIxL K) ix_list (pv 1) (pv 3) (fun _ _ => rfl)) (fun _ _ => rfl)) pe_int (fun _ _ => rfl)) pa_nil))) (pa_cons (pe_tup (pa_cons pe_int (pa_cons (pe_ix (r := rIxT K) ix_tup (pe_ix (r := rIxL K) ix_list (pv 0) (pe_ix (r := rIxL K) ix_list (pv 1) (pv 3) (fun _ _ => rfl)) (fun _ _ => rfl)) pe_int (fun _ _ => rfl)) pa_nil))) pa_nil))))))))
      (pss_one (ps_ret (pe_cmpR op_lt (pe_callB TS2.cr_lenTS (by rfl) T.m_len PySem.boot_len (pa_cons (pe_callTy (TS2.cr_setT rfl hr.units) (by rfl) T.m_set (by decide +kernel) (pa_cons (pv 2) pa_nil)) pa_nil)) (pe_callB call_len_seq (by rfl) T.m_len PySem.boot_len (pa_cons (pv 1) pa_nil)) (nomark _)))))), ?_⟩
    have hzl := crowd_len hc
    obtain ⟨hz, hlt, few⟩ := hc
    obtain ⟨ts, hts, htl, htt⟩ := id hP
    have e1 : (zs.map V.int).length = zs.length := List.length_map ..
    refine ⟨Nat.zero_le _, fun l0 hl0 => ?_⟩
    have S0 : Same H (upd H l0 (.lst [])) := same_new hl0
    refine ⟨_, rfl, p, _, rfl, .inl (SqL.of (S0 _ _ hp)), _, rfl, by omega, by omega, for_it walk_range (fun n σ H1 => ∃ (l : Addr) (L : List (Addr × Seat)) (o : Option V), σ = [some (.ref a), some (.ref p), some (.ref l), o] ∧ Same H H1 ∧ ListP H1 l L ∧ L.length = 2 * n ∧
        ∀ x ∈ L, ∃ z ∈ zs, x.2 = seatP (getP PP z.toNat) 0 ∨ x.2 = seatP (getP PP z.toNat) 1) ⟨l0, [], none, rfl, S0, ⟨upd_same, fun _ h => (by cases h)⟩, rfl, fun _ h => (by cases h)⟩ (fun _ _ _ _ _ => trivial) ?_ ?_⟩
    · rintro n x σ H1 H2 hn ⟨l, L, o, rfl, SH, hL, hLl, hin⟩ ⟨rfl, rfl⟩
      have hn' : n < zs.length := by omega
      have ez : zs[n]? = some zs[n] := List.getElem?_eq_getElem hn'
      have hzm : zs[n] ∈ zs := List.getElem_mem hn'
      have hb := hlt _ hzm
      have hp2 := SH _ _ hp
      have aN : ∀ m : Nat, m < zs.length → atI (zs.map V.int) (m : Int) = some (.int (zs.getD m 0)) := fun m hm => by
        refine atI_nat ?_
        rw [List.getElem?_map, List.getElem?_eq_getElem hm, List.getD_eq_getElem?_getD, List.getElem?_eq_getElem hm]
        rfl
      have gN : zs.getD n 0 = zs[n] := by
        rw [List.getD_eq_getElem?_getD, ez]
        rfl
      have aI : atI (zs.map V.int) (0 + (n : Int)) = some (.int zs[n]) := by
        rw [Int.zero_add, aN n hn', gN]
      have eT : ts[(zs[n]).toNat]? = some ts[(zs[n]).toNat] := List.getElem?_eq_getElem (by omega)
      have eP : atI (ts.map V.ref) (zs[n]) = some (.ref ts[(zs[n]).toNat]) := by
        have e : zs[n] = (((zs[n]).toNat : Nat) : Int) := by omega
        have q : atI (ts.map V.ref) (((zs[n]).toNat : Nat) : Int) = some (.ref ts[(zs[n]).toNat]) := by
          refine atI_nat ?_
          rw [List.getElem?_map, eT]
          rfl
        rwa [← e] at q
      -- what follows the test
      have rest : ∀ (R : L2.St → Hp → Prop), (∀ l' L', ∀ H', Same H H' → ListP H' l' L' → L'.length = 2 * (n + 1) → (∀ x ∈ L', ∃ z ∈ zs, x.2 = seatP (getP PP z.toNat) 0 ∨ x.2 = seatP (getP PP z.toNat) 1) → R [some (.ref a), some (.ref p), some (.ref l'), some (.int (0 + (n : Int)))] H') →
          tOp rCat (tVar 2) (tLst (tCons (tTup (tCons (tC (.int 0)) (tCons (tOp (rIxT K) (tOp (rIxL K) (tVar 0) (tOp (rIxL K) (tVar 1) (tVar 3))) (tC (.int 0))) tNil))) (tCons (tTup (tCons (tC (.int 1)) (tCons (tOp (rIxT K) (tOp (rIxL K) (tVar 0) (tOp (rIxL K) (tVar 1) (tVar 3))) (tC (.int 1))) tNil))) tNil)))
            [some (.ref a), some (.ref p), some (.ref l), some (.int (0 + (n : Int)))] H2 (fun v H' => gName 2 v [some (.ref a), some (.ref p), some (.ref l), some (.int (0 + (n : Int)))] H' R) := by
        intro R hR
        refine ⟨_, rfl, _, rfl, _, rfl, _, rfl, p, _, _, _, rfl, rfl, SqL.of hp2, aI, a, _, _, _, rfl, rfl, SH.seq hts, eP, ts[(zs[n]).toNat], _, _, _, rfl, rfl, same_t SH (htt _ _ eT), atI_nat (j := 0) rfl, (by show 2 ≤ sizeLine; decide), fun q1 hq1 => ?_⟩
        have S1 := same_new (o := .tup (sv (seatP (getP PP (zs[n]).toNat) 0))) hq1
        have SA := SH.trans S1
        refine ⟨_, rfl, _, rfl, _, rfl, p, _, _, _, rfl, rfl, SqL.of (S1 _ _ hp2), aI, a, _, _, _, rfl, rfl, SA.seq hts, eP, ts[(zs[n]).toNat], _, _, _, rfl, rfl, same_t SA (htt _ _ eT), atI_nat (j := 1) rfl, (by show 2 ≤ sizeLine; decide), fun q2 hq2 => ⟨(by show 2 ≤ sizeLine; decide), fun l2 hl2 => ?_⟩⟩
        have S2 := S1.trans (same_new (o := .tup (sv (seatP (getP PP (zs[n]).toNat) 1))) hq2)
        have S3 := S2.trans (same_new (o := .lst [.ref q1, .ref q2]) hl2)
        have n12 : q1 ≠ q2 := fun e => by rw [← e, upd_same] at hq2; cases hq2
        have n1l : l2 ≠ q1 := fun e => by rw [e, upd_ne n12, upd_same] at hl2; cases hl2
        have n2l : l2 ≠ q2 := fun e => by rw [e, upd_same] at hl2; cases hl2
        refine ⟨l, l2, refs L, [.ref q1, .ref q2], rfl, rfl, S3 _ _ hL.1, upd_same, (by show (L.map fun p => V.ref p.1).length + 2 ≤ sizeLine; rw [List.length_map]; exact Nat.le_of_lt (small1000 (by omega))), fun r hr => ?_⟩
        have S4 := S3.trans (same_new (o := .lst (refs L ++ [.ref q1, .ref q2])) hr)
        have t1 : (upd (upd (upd H2 q1 (.tup (sv (seatP (getP PP (zs[n]).toNat) 0)))) q2 (.tup (sv (seatP (getP PP (zs[n]).toNat) 1)))) l2 (.lst [.ref q1, .ref q2])) q1 = some (.tup (sv (seatP (getP PP (zs[n]).toNat) 0))) := by
          rw [upd_ne n1l.symm, upd_ne n12, upd_same]
        have t2 : (upd (upd (upd H2 q1 (.tup (sv (seatP (getP PP (zs[n]).toNat) 0)))) q2 (.tup (sv (seatP (getP PP (zs[n]).toNat) 1)))) l2 (.lst [.ref q1, .ref q2])) q2 = some (.tup (sv (seatP (getP PP (zs[n]).toNat) 1))) := by
          rw [upd_ne n2l.symm, upd_same]
        have eR : refs L ++ [V.ref q1, V.ref q2] = refs (L ++ [(q1, seatP (getP PP (zs[n]).toNat) 0), (q2, seatP (getP PP (zs[n]).toNat) 1)]) := refs_app L [(q1, seatP (getP PP (zs[n]).toNat) 0), (q2, seatP (getP PP (zs[n]).toNat) 1)]
        refine hR r (L ++ [(q1, seatP (getP PP (zs[n]).toNat) 0), (q2, seatP (getP PP (zs[n]).toNat) 1)]) _ (SH.trans S4) ⟨?_, fun y hy => ?_⟩ ?_ fun y hy => ?_
        · rw [← eR]
          exact upd_same
        · rcases List.mem_append.mp hy with v | v
          · exact S4 _ _ (hL.2 y v)
          · rcases List.mem_cons.mp v with e | e
            · rw [e]
              exact same_new hr _ _ t1
            · rw [List.mem_singleton.mp e]
              exact same_new hr _ _ t2
        · rw [List.length_append, hLl]
          show 2 * n + 2 = 2 * (n + 1)
          omega
        · rcases List.mem_append.mp hy with v | v
          · exact hin y v
          · rcases List.mem_cons.mp v with e | e
            · exact ⟨_, hzm, .inl (by rw [e])⟩
            · exact ⟨_, hzm, .inr (by rw [List.mem_singleton.mp e])⟩
      have go := rest (fun σ H' => ∃ (l : Addr) (L : List (Addr × Seat)) (o : Option V), σ = [some (.ref a), some (.ref p), some (.ref l), o] ∧ Same H H' ∧ ListP H' l L ∧ L.length = 2 * (n + 1) ∧ ∀ x ∈ L, ∃ z ∈ zs, x.2 = seatP (getP PP z.toNat) 0 ∨ x.2 = seatP (getP PP z.toNat) 1)
        fun l' L' H' a1 a2 a3 a4 => ⟨l', L', _, rfl, a1, a2, a3, a4⟩
      refine ⟨_, rfl, _, _, rfl, rfl, _, rfl, ?_⟩
      refine ite2 (fun e => ?_) (fun _ => ?_)
      · have hpos : 0 < n := by
          have := of_decide_eq_true e
          omega
        obtain ⟨m, rfl⟩ : ∃ m, n = m + 1 := ⟨n - 1, by omega⟩
        have aI2 : atI (zs.map V.int) (0 + ((m + 1 : Nat) : Int) - 1) = some (.int (zs.getD m 0)) := by
          have e : (0 + ((m + 1 : Nat) : Int) - 1) = (m : Int) := by omega
          rw [e]
          exact aN m (by omega)
        have hlt2 : ¬ zs[m + 1] ≤ zs.getD m 0 := by
          have q := List.pairwise_iff_getElem.mp hz m (m + 1) (by omega) hn' (by omega)
          rw [List.getD_eq_getElem?_getD, List.getElem?_eq_getElem (show m < zs.length by omega)]
          show ¬ zs[m + 1] ≤ zs[m]
          omega
        refine ⟨_, rfl, _, rfl, _, _, rfl, rfl, p, _, _, _, rfl, rfl, SqL.of hp2, aI2, _, rfl, _, rfl, p, _, _, _, rfl, rfl, SqL.of hp2, aI, _, _, rfl, rfl, false, congrArg V.bl (decide_eq_false hlt2), iteF ?_⟩
        exact go
      · exact iteF go
    · rintro σ H1 ⟨l, L, o, rfl, SH, hL, hLl, hin⟩
      have eL0 : L.length = 2 * zs.length := by omega
      have eR : (L.map fun p => ((p.1, sl p.2) : Addr × List Int)).map (fun p => V.ref p.1) = refs L := by
        rw [List.map_map]
        rfl
      refine ⟨_, rfl, l, L.map (fun p => (p.1, sl p.2)), rfl, (by rw [eR]; exact SqL.of hL.1), fun y hy => ?_, (by rw [List.length_map]; omega), fun b LL hb hsub hall hnd => ?_⟩
      · obtain ⟨q, hq, rfl⟩ := List.mem_map.mp hy
        exact SqT.of (hL.2 q hq)
      · refine ⟨b, LL, rfl, upd_same, _, rfl, p, _, rfl, .inl (SqL.of (same_new hb _ _ (SH _ _ hp))), _, _, rfl, rfl, ?_⟩
        rw [e1]
        -- the distinct places, as seats
        have hD : (LL.map fun q => ((q.2.getD 0 0, q.2.getD 1 0) : Seat)).Nodup := by
          refine List.pairwise_map.mpr ?_
          refine List.Pairwise.imp_of_mem ?_ (List.pairwise_map.mp hnd)
          intro u v hu hv hne e
          obtain ⟨u', hu', eu⟩ := List.mem_map.mp (hsub u hu)
          obtain ⟨v', hv', ev⟩ := List.mem_map.mp (hsub v hv)
          rw [← eu, ← ev] at e hne
          exact hne (congrArg sl (show u'.2 = v'.2 from e))
        have q := few _ hD fun d hd => by
          obtain ⟨u, hu, rfl⟩ := List.mem_map.mp hd
          obtain ⟨u', hu', eu⟩ := List.mem_map.mp (hsub u hu)
          rw [← eu]
          exact hin u' hu'
        rw [List.length_map] at q
        show Q (V.bl (decide ((LL.length : Int) < (zs.length : Int)))) _
        rw [decide_eq_true (by omega)]
        exact k _ (SH.trans (same_new hb))
theorem ok__law_right (T : Tx K mg A) : FnOk P w K mg base CX0 3 A.a__law_right A.d__law_right ["_law_found", "_law_pairs"] (sp__law_right K) := by
  refine T.F__law_right.ok sc__law_right (fun vs H Q E h => ?_) (fun cdv Ar outer s H vs Q E hr h => ?_)
  · obtain ⟨t, r, a, ks, z, PP, rfl, _⟩ := h
    rfl
  · obtain ⟨t, r, a, ks, z, PP, rfl, ht, hr', hP, h7, hz, k⟩ := h
    refine ⟨_, 
      (pss_cons (ps_if (PW.pt (pw_or (pt_not (pt_val (pe_callB call_isi (by rfl) T.m_isinstance (by decide +kernel) (pa_cons (pv 0) (pa_cons (pe_bltn (v := .ty "tuple") (u := .type "tuple") (by rfl) T.m_tuple (by decide +kernel) rfl) pa_nil))))) (pw_or1 (pt_cmpR op_ne (pe_callB call_len_seq (by rfl) T.m_len PySem.boot_len (pa_cons (pv 0) pa_nil)) pe_int (nomark _))))) 
        (pss_one (ps_ret pe_bl)) pss_nil)
      (pss_cons (ps_if (pt_val (pe_call (ok__law_can T) hr (by rfl) T.g__law_can T.F__law_can.kp T.b__law_can .nil pass0 (pa_cons (pv 1) pa_nil))) 
        (pss_cons (ps_if (PW.pt (pw_or (pt_cmpR op_ne (pe_ix (r := rIxT K) ix_tup (pv 0) pe_int (fun _ _ => rfl)) pe_str (nomark _)) (pw_or (pt_not (pt_val (pe_call (ok__law_numbers T) (hr.mono (by decide)) (by rfl) T.g__law_numbers T.F__law_numbers.kp T.b__law_numbers .nil pass0 (pa_cons (pe_ix (r := rIxT K) ix_tup (pv 0) pe_int (fun _ _ => rfl)) (pa_cons pe_int (pa_cons pe_int pa_nil)))))) (pw_or1 (pt_cmpR op_ne (pe_callB call_len_seq (by rfl) T.m_len PySem.boot_len (pa_cons (pe_ix (r := rIxT K) ix_tup (pv 0) pe_int (fun _ _ => rfl)) pa_nil)) (pe_callB call_len_seq (by rfl) T.m_len PySem.boot_len (pa_cons (pv 1) pa_nil)) (nomark _)))))) 
          (pss_one (ps_ret pe_bl)) pss_nil)
        (pss_one (ps_ret (pe_call (ok__law_unlike T) (hr.mono (by decide)) (by rfl) T.g__law_unlike T.F__law_unlike.kp T.b__law_unlike .nil pass0 (pa_cons (pe_call (ok__law_places T) (hr.mono (by decide)) (by rfl) T.g__law_places T.F__law_places.kp T.b__law_places .nil pass0 (pa_cons (pv 1) (pa_cons (pe_ix (r := rIxT K) ix_tup (pv 0) pe_int (fun _ _ => rfl)) pa_nil))) pa_nil))))) pss_nil)
      (pss_one (ps_ret (pe_and (pe_cmpR op_eq (pe_ix (r := rIxT K) ix_tup (pv 0) pe_int (fun _ _ => rfl)) pe_str (nomark _)) (pe_and (pe_call (ok__law_numbers T) (hr.mono (by decide)) (by rfl) T.g__law_numbers T.F__law_numbers.kp T.b__law_numbers .nil pass0 (pa_cons (pe_ix (r := rIxT K) ix_tup (pv 0) pe_int (fun _ _ => rfl)) (pa_cons pe_int (pa_cons (pe_op op_sub (pe_callB call_len_seq (by rfl) T.m_len PySem.boot_len (pa_cons (pv 1) pa_nil)) pe_int) pa_nil)))) (pe_one (pe_call (ok__law_few T) (hr.mono (by decide)) (by rfl) T.g__law_few T.F__law_few.kp T.b__law_few .nil pass0 (pa_cons (pv 1) (pa_cons (pe_ix (r := rIxT K) ix_tup (pv 0) pe_int (fun _ _ => rfl)) pa_nil)))))))))), ?_⟩
    obtain ⟨ts, hts, htl, htt⟩ := id hP
    have e2 : (ts.map V.ref).length = PP.length := by rw [List.length_map, htl]
    refine ⟨_, rfl, _, _, _, _, true, rfl, .ty _, .base (.tup ht), kit_ty (by decide +kernel), true, rfl, iteF ?_⟩
    refine ⟨_, rfl, t, _, rfl, .inr (SqT.of ht), rfl, _, rfl, iteF ?_⟩
    refine ⟨_, rfl, a, PP, rfl, hP, h7, fun H1 b S1 hb => ⟨b, rfl, ?_⟩⟩
    have ht1 := S1 _ _ ht
    have hr1 := S1 _ _ hr'
    rcases hz with ⟨rfl, hs⟩ | ⟨rfl, hs⟩
    · have eb : b = true := hb.mpr ⟨ks, hs⟩
      subst eb
      refine iteT ?_
      refine ⟨_, rfl, t, _, _, _, rfl, rfl, SqT.of ht1, atI_nat (j := 0) rfl, rfl, false, by rw [decide_eq_true rfl]; rfl, iteF ?_⟩
      refine ⟨_, rfl, t, _, _, _, rfl, rfl, SqT.of ht1, atI_nat (j := 1) rfl, r, ks, 0, 1, rfl, hr1, fun x hx => ?_, true, rfl, iteF ?_⟩
      · rcases hs.2.1 x hx with e | e <;> omega
      have eK : (ks.map V.int).length = PP.length := by rw [List.length_map, hs.1]
      refine ⟨_, rfl, t, _, _, _, rfl, rfl, SqT.of ht1, atI_nat (j := 1) rfl, r, _, rfl, .inl (SqL.of hr1), _, rfl, a, _, rfl, .inl (S1.seq hts), rfl, false, ?_, iteF ?_⟩
      · rw [eK, e2, decide_eq_true rfl]
        rfl
      refine ⟨_, rfl, _, rfl, t, _, _, _, rfl, rfl, SqT.of ht1, atI_nat (j := 1) rfl, a, r, PP, ks, rfl, hP.same S1, SqL.of hr1, hs.1, hs.2.1, h7, fun H2 l L S2 hl hL eL => ?_⟩
      have hLl : L.length = PP.length := by
        have z := congrArg List.length eL
        rwa [List.length_map, seatsOf_len] at z
      refine ⟨l, L, rfl, hL, by omega, fun H3 b S3 hb => ?_⟩
      rw [eL] at hb
      have eb : b = true := hb.mpr ((seated_iff hs.1 hs.2.1).mpr hs)
      subst eb
      exact k _ ((S1.trans S2).trans S3)
    · have eb : b = false := by
        cases b with
        | false => rfl
        | true =>
          obtain ⟨rs, hrs⟩ := hb.mp rfl
          exact (not_both hs hrs).elim
      subst eb
      refine iteF ?_
      refine ⟨_, rfl, t, _, _, _, rfl, rfl, SqT.of ht1, atI_nat (j := 0) rfl, rfl, true, by rw [decide_eq_true rfl], iteT ?_⟩
      refine ⟨_, rfl, t, _, _, _, rfl, rfl, SqT.of ht1, atI_nat (j := 1) rfl, _, rfl, a, _, rfl, .inl (S1.seq hts), _, _, rfl, rfl, r, ks, 0, ((PP.length : Int) - 1), ?_, hr1, fun x hx => ?_, true, rfl, iteT ?_⟩
      · rw [← e2]
        rfl
      · have := hs.2.1 x hx
        omega
      exact ⟨_, rfl, _, rfl, t, _, _, _, rfl, rfl, SqT.of ht1, atI_nat (j := 1) rfl, a, r, PP, ks, rfl, hP.same S1, hr1, hs, h7, fun H2 S2 => k _ (S1.trans S2)⟩
end
end K2

namespace K2
open PySem L2 Ck TS2
theorem four_at {x : Int} : ∃ m : Int, 0 < m ∧ atI [V.int 4, V.int 4, V.int 4, V.int 2] (x % 4) = some (.int m) := by
  have h0 : 0 ≤ x % 4 := Int.emod_nonneg _ (by decide)
  have h1 : x % 4 < 4 := Int.emod_lt_of_pos _ (by decide)
  generalize x % 4 = y at h0 h1
  have c : y = 0 ∨ y = 1 ∨ y = 2 ∨ y = 3 := by omega
  rcases c with rfl | rfl | rfl | rfl
  · exact ⟨4, by decide, atI_nat (j := 0) rfl⟩
  · exact ⟨4, by decide, atI_nat (j := 1) rfl⟩
  · exact ⟨4, by decide, atI_nat (j := 2) rfl⟩
  · exact ⟨2, by decide, atI_nat (j := 3) rfl⟩
section
variable {P : Program} {w : World} {K : PySem.W.Frag} {mg : Str → Option Value} {base : Heap} {A : Ad}
theorem ok_law (T : Tx K mg A) : FnOk P w K mg base CX0 5 A.a_law A.d_law ["_law_script"] (sp_law K) := by
  refine T.F_law.ok sc_law (fun vs H Q E h => ?_) (fun cdv Ar outer s H vs Q E hr h => ?_)
  · obtain ⟨a, ns, rfl, _⟩ := h
    rfl
  · obtain ⟨a, ns, rfl, hS, hlen, k⟩ := h
    refine ⟨_, 
      (pss_cons (ps_set (i := 1) sc_law.nd rfl (Or.inl rfl) (pe_ix (r := rIxL K) ix_list (pe_lst (pa_cons pe_int (pa_cons pe_int (pa_cons pe_int (pa_cons pe_int pa_nil))))) (pe_op op_mod (pe_call (ok__law_cell_at T) (hr.mono (by decide)) (by rfl) T.g__law_cell_at T.F__law_cell_at.kp T.b__law_cell_at .nil pass0 (pa_cons (pv 0) (pa_cons pe_int pa_nil))) pe_int) (fun _ _ => rfl)))
      (pss_cons (ps_set (i := 2) sc_law.nd rfl (Or.inl rfl) (pe_lst pa_nil))
      (C8.pss_cut (ps_for PassesOwn.never rfl (pi_range1 (by rfl) T.m_range (pa_cons (pe_op op_mod (pe_call (ok__law_cell_at T) (hr.mono (by decide)) (by rfl) T.g__law_cell_at T.F__law_cell_at.kp T.b__law_cell_at .nil pass0 (pa_cons (pv 0) (pa_cons pe_int pa_nil))) pe_int) pa_nil)) (pg_name (i := 3) sc_law.nd rfl (Or.inl rfl)) 
        (pss_cons (ps_set (i := 4) sc_law.nd rfl (Or.inl rfl) (pe_call (ok__law_mixed T) (hr.mono (by decide)) (by rfl) T.g__law_mixed T.F__law_mixed.kp T.b__law_mixed .nil pass0 (pa_cons (pe_call (ok__law_cell_at T) (hr.mono (by decide)) (by rfl) T.g__law_cell_at T.F__law_cell_at.kp T.b__law_cell_at .nil pass0 (pa_cons (pv 0) (pa_cons (pe_op op_add pe_int (pv 3)) pa_nil))) (pa_cons (pv 3) pa_nil))))
        (pss_one (ps_expr (pe_bm PySem.F.plainAttrs_list PySem.F.slot_list_append PySem.F.type_list_append mt_append (pv 2) (pa_cons (pe_tup (pa_cons (pe_op op_mod (pe_op op_fdiv (pv 4) pe_int) (pv 1)) (pa_cons (pe_op op_mod (pe_op op_fdiv (pv 4) pe_int) (pv 1)) pa_nil))) pa_nil))))))
      (pss_cons (ps_set (i := 5) sc_law.nd rfl (Or.inl rfl) (pe_callTy call_list_of (by rfl) T.m_list (by decide +kernel) (pa_cons (pv 2) pa_nil)))
      (C8.pss_cut (ps_set (i := 6) sc_law.nd rfl (Or.inl rfl) (pe_call (ok_seated T) hr (by rfl) T.g_seated T.F_seated.kp T.b_seated .nil pass0 (pa_cons (pv 5) pa_nil)))
      (pss_cons (ps_if (PW.pt (pw_or (pt_cmpR (op_neD hr.units) (pv 5) (pv 2) (nomark _)) (pw_or1 (pt_not (pt_val (pe_call (ok__law_right T) (hr.mono (by decide)) (by rfl) T.g__law_right T.F__law_right.kp T.b__law_right .nil pass0 (pa_cons (pv 6) (pa_cons (pv 2) pa_nil)))))))) 
        (pss_one (ps_ret pe_bl)) pss_nil)
      (pss_cons (ps_expr (pe_bm PySem.F.plainAttrs_list PySem.F.slot_list_append PySem.F.type_list_append mt_append (pv 5) (pa_cons (pe_tup (pa_cons pe_int (pa_cons pe_int pa_nil))) pa_nil)))
      (pss_cons (ps_expr (pe_bm PySem.F.plainAttrs_list PySem.F.slot_list_append PySem.F.type_list_append mt_append (pe_ix (r := rIxT K) ix_tup (pv 6) pe_int (fun _ _ => rfl)) (pa_cons (pe_un un_neg pe_int) pa_nil)))
      (pss_one (ps_ret (pe_and (pe_call (ok__law_right T) (hr.mono (by decide)) (by rfl) T.g__law_right T.F__law_right.kp T.b__law_right .nil pass0 (pa_cons (pe_call (ok_seated T) hr (by rfl) T.g_seated T.F_seated.kp T.b_seated .nil pass0 (pa_cons (pe_callTy call_list_of (by rfl) T.m_list (by decide +kernel) (pa_cons (pv 2) pa_nil)) pa_nil)) (pa_cons (pv 2) pa_nil))) (pe_one (pe_call (ok__law_right T) (hr.mono (by decide)) (by rfl) T.g__law_right T.F__law_right.kp T.b__law_right .nil pass0 (pa_cons (pe_call (ok_seated T) hr (by rfl) T.g_seated T.F_seated.kp T.b_seated .nil pass0 (pa_cons (pv 5) pa_nil)) (pa_cons (pv 5) pa_nil))))))))))))))), ?_⟩
    refine ⟨(by show 4 ≤ sizeLine; decide), fun f0 hf0 => ?_⟩
    have F0 := same_new (o := .lst [V.int 4, V.int 4, V.int 4, V.int 2]) hf0
    obtain ⟨m, hm, em⟩ := four_at (x := ns.getD 1 0)
    refine ⟨_, rfl, a, ns, 1, rfl, F0.seq hS, _, _, rfl, rfl, (by show (0 : Int) < 4; decide), f0, _, _, _, rfl, rfl, SqL.of upd_same, em, ?_⟩
    refine ⟨Nat.zero_le _, fun l hl => ?_⟩
    have S0 := F0.trans (same_new (o := .lst []) hl)
    -- the pairs
    refine ⟨fun σ H2 => ∃ (L : List (Addr × Seat)) (o3 o4 : Option V), σ = [some (.ref a), some (.int m), some (.ref l), o3, o4, none, none] ∧ Same H H2 ∧ ListP H2 l L ∧ L.length ≤ 6, ?_, ?_⟩
    · obtain ⟨n, en⟩ : ∃ n : Nat, ns.getD 0 0 % 7 = (n : Int) := ⟨(ns.getD 0 0 % 7).toNat, by omega⟩
      refine ⟨_, rfl, a, ns, 0, rfl, S0.seq hS, _, _, rfl, rfl, (by show (0 : Int) < 7; decide), _, rfl, by omega, by omega, for_it walk_range (fun i σ H2 => ∃ (L : List (Addr × Seat)) (o3 o4 : Option V), σ = [some (.ref a), some (.int m), some (.ref l), o3, o4, none, none] ∧ Same H H2 ∧ ListP H2 l L ∧ L.length = i)
        ⟨[], none, none, rfl, S0, ⟨upd_same, fun _ h => (by cases h)⟩, rfl⟩ (fun _ _ _ _ _ => trivial) ?_ ?_⟩
      · rintro i x σ H2 H3 hi ⟨L, o3, o4, rfl, SH, hL, hlL⟩ ⟨rfl, rfl⟩
        obtain ⟨j, ej⟩ : ∃ j : Nat, 2 + (0 + (i : Int)) = (j : Int) := ⟨2 + i, by omega⟩
        have hi' : i < n := by omega
        refine ⟨_, rfl, _, rfl, _, _, rfl, rfl, a, ns, j, (by show [V.ref a, V.int (2 + (0 + (i : Int)))] = _; rw [ej]), SH.seq hS, _, rfl, _, _, rfl, ?_⟩
        refine ⟨_, rfl, .inl ⟨rfl, _, SqL.of hL.1⟩, _, rfl, _, _, rfl, rfl, ⟨by decide, by decide⟩, _, rfl, _, _, rfl, rfl, hm, _, rfl, _, _, rfl, rfl, ⟨by decide, by decide⟩, _, rfl, _, _, rfl, rfl, hm, (by show 2 ≤ sizeLine; decide), fun q hq => ?_⟩
        have Sq := same_new (o := .tup (sv (mixed (ns.getD j 0) (0 + (i : Int)) / 7 % m, mixed (ns.getD j 0) (0 + (i : Int)) / 61 % m))) hq
        refine ⟨l, _, _, rfl, rfl, Sq _ _ hL.1, (by rw [List.length_map]; exact small1000 (by omega)), L ++ [(q, (mixed (ns.getD j 0) (0 + (i : Int)) / 7 % m, mixed (ns.getD j 0) (0 + (i : Int)) / 61 % m))], _, _, rfl, same_mut (SH.trans Sq) (F0.free hl), ⟨?_, fun p hp => ?_⟩, by rw [List.length_append, hlL]; rfl⟩
        · rw [upd_same]
          exact congrArg (fun z => some (HO.lst z)) (refs_snoc L _ _)
        · have nl : ∀ b ys, (upd H3 q (.tup (sv (mixed (ns.getD j 0) (0 + (i : Int)) / 7 % m, mixed (ns.getD j 0) (0 + (i : Int)) / 61 % m)))) b = some (.tup ys) → b ≠ l := fun b ys hb => ne_of hb (Sq _ _ hL.1) (by intro z; cases z)
          rcases List.mem_append.mp hp with z | z
          · rw [upd_ne (nl _ _ (Sq _ _ (hL.2 p z)))]
            exact Sq _ _ (hL.2 p z)
          · cases List.mem_singleton.mp z
            rw [upd_ne (nl _ _ upd_same)]
            exact upd_same
      · rintro σ H2 ⟨L, o3, o4, rfl, SH, hL, hlL⟩
        exact ⟨L, o3, o4, rfl, SH, hL, by omega⟩
    rintro σ H1 ⟨L, o3, o4, rfl, S1, hL, hll⟩
    refine ⟨_, rfl, l, _, rfl, .inl (SqL.of hL.1), fun h hh => ?_⟩
    have T1 : Same H1 (upd H1 h (.lst (refs L))) := same_new hh
    have nlh : l ≠ h := ne_of_none hL.1 hh
    have hLh : ListP (upd H1 h (.lst (refs L))) h L := ⟨upd_same, hL.2.same T1⟩
    have hL1 := hL.same T1
    -- what is told
    refine ⟨fun σ H2 => ∃ (t p : Addr) (z : Str) (ks : List Int), σ = [some (.ref a), some (.int m), some (.ref l), o3, o4, some (.ref h), some (.ref t)] ∧ Same (upd H1 h (.lst (refs L))) H2 ∧ Told H2 t p z ks (L.map (·.2)) ∧ p ≠ h ∧ p ≠ l ∧ ks.length ≤ 6, ?_, ?_⟩
    · refine ⟨_, rfl, h, L.map (·.2), rfl, hLh.pairs, by rw [List.length_map]; omega, fun H2 t p rs S2 ht hp ntp eT eP hs => ?_, fun H2 t p zs S2 ht hp ntp eT eP hs => ?_⟩
      · refine ⟨t, p, "yes", rs, rfl, S2, ⟨eT, eP, .inl ⟨rfl, hs⟩⟩, (ne_of_none hLh.1 hp).symm, (ne_of_none hL1.1 hp).symm, ?_⟩
        have := hs.1
        rw [List.length_map] at this
        omega
      · refine ⟨t, p, "no", zs, rfl, S2, ⟨eT, eP, .inr ⟨rfl, hs⟩⟩, (ne_of_none hLh.1 hp).symm, (ne_of_none hL1.1 hp).symm, ?_⟩
        have := crowd_len hs
        rw [List.length_map] at this
        omega
    rintro σ H2 ⟨t, p, z, ks, rfl, S2, ⟨eT, eP, hz⟩, nph, npl, hks⟩
    have hL2 := hL1.same S2
    have hh2 := hLh.same S2
    refine ⟨_, rfl, _, rfl, dsP L, dsP L, dp_pairs hh2, dp_pairs hL2, shaped_pairs L, shaped_pairs L, _, rfl, ?_⟩
    rw [eqv_same (shaped_pairs L)]
    refine iteF ?_
    refine ⟨_, rfl, _, rfl, t, p, l, ks, z, L.map (·.2), rfl, eT, eP, hL2.pairs, by rw [List.length_map]; omega, hz, fun H4 S4 => ⟨true, rfl, iteF ?_⟩⟩
    have hh4 := hh2.same S4
    have hL4 := hL2.same S4
    have hp4 := S4 _ _ eP
    have ht4 := S4 _ _ eT
    -- one pair more
    refine ⟨_, rfl, .inl ⟨rfl, _, SqL.of hh4.1⟩, (by show 2 ≤ sizeLine; decide), fun q hq => ?_⟩
    have Tq := same_new (o := .tup [V.int 0, V.int 0]) hq
    refine ⟨h, _, _, rfl, rfl, Tq _ _ hh4.1, (by rw [List.length_map]; exact small1000 (by omega)), ?_⟩
    have tup5 : ∀ b ys, (upd H4 q (.tup [V.int 0, V.int 0])) b = some (.tup ys) → (upd (upd H4 q (.tup [V.int 0, V.int 0])) h (.lst (refs L ++ [.ref q]))) b = some (.tup ys) := fun b ys hb => by
      rw [upd_ne (ne_of hb (Tq _ _ hh4.1) (by intro z; cases z))]
      exact hb
    have B5 : ∀ b o, b ≠ h → H4 b = some o → (upd (upd H4 q (.tup [V.int 0, V.int 0])) h (.lst (refs L ++ [.ref q]))) b = some o := fun b o nb hb => by
      rw [upd_ne nb]
      exact Tq _ _ hb
    have hL5 : ListP (upd (upd H4 q (.tup [V.int 0, V.int 0])) h (.lst (refs L ++ [.ref q]))) l L := ⟨B5 _ _ nlh hL4.1, fun p hp => tup5 _ _ (Tq _ _ (hL4.2 p hp))⟩
    have hh5 : ListP (upd (upd H4 q (.tup [V.int 0, V.int 0])) h (.lst (refs L ++ [.ref q]))) h (L ++ [(q, (0, 0))]) := by
      refine ⟨?_, fun p hp => ?_⟩
      · rw [upd_same]
        exact congrArg (fun z => some (HO.lst z)) (refs_snoc L _ _)
      · rcases List.mem_append.mp hp with y | y
        · exact hL5.2 p y
        · cases List.mem_singleton.mp y
          exact tup5 _ _ upd_same
    have hp5 := B5 _ _ nph hp4
    have ht5 := tup5 _ _ (Tq _ _ ht4)
    generalize (upd (upd H4 q (.tup [V.int 0, V.int 0])) h (.lst (refs L ++ [.ref q]))) = H5 at hL5 hh5 hp5 ht5 ⊢
    generalize hG : L ++ [(q, (0, 0))] = L2 at hh5
    have hl2 : L2.length ≤ 7 := by
      rw [← hG, List.length_append, List.length_singleton]
      omega
    refine ⟨_, rfl, t, _, _, _, rfl, rfl, SqT.of ht5, atI_nat (j := 1) rfl, .inl ⟨rfl, _, SqL.of hp5⟩, _, rfl, p, _, _, rfl, rfl, hp5, (by rw [List.length_map]; exact small1000 (by omega)), ?_⟩
    have tup6 : ∀ b ys, H5 b = some (.tup ys) → (upd H5 p (.lst (ks.map V.int ++ [.int (-1)]))) b = some (.tup ys) := fun b ys hb => by
      rw [upd_ne (ne_of hb hp5 (by intro z; cases z))]
      exact hb
    have hL6 : ListP (upd H5 p (.lst (ks.map V.int ++ [.int (-1)]))) l L := ⟨(upd_ne npl.symm).trans hL5.1, fun p hp => tup6 _ _ (hL5.2 p hp)⟩
    have hh6 : ListP (upd H5 p (.lst (ks.map V.int ++ [.int (-1)]))) h L2 := ⟨(upd_ne nph.symm).trans hh5.1, fun p hp => tup6 _ _ (hh5.2 p hp)⟩
    generalize (upd H5 p (.lst (ks.map V.int ++ [.int (-1)]))) = H6 at hL6 hh6 ⊢
    refine ⟨_, rfl, l, _, rfl, .inl (SqL.of hL6.1), fun g hg => ?_⟩
    have T7 : Same H6 (upd H6 g (.lst (refs L))) := same_new hg
    have hg7 : ListP (upd H6 g (.lst (refs L))) g L := ⟨upd_same, hL6.2.same T7⟩
    refine ⟨g, L.map (·.2), rfl, hg7.pairs, by rw [List.length_map]; omega, fun H7 t2 p2 rs S7 _ _ _ eT2 eP2 hs => ?_, fun H7 t2 p2 zs S7 _ _ _ eT2 eP2 hs => ?_⟩
    · refine ⟨_, rfl, t2, p2, l, rs, "yes", L.map (·.2), rfl, eT2, eP2, (hL6.same (T7.trans S7)).pairs, by rw [List.length_map]; omega, .inl ⟨rfl, hs⟩, fun H8 S8 => ⟨true, rfl, iteT ?_⟩⟩
      have S9 := (T7.trans S7).trans S8
      refine ⟨_, rfl, h, L2.map (·.2), rfl, (hh6.same S9).pairs, by rw [List.length_map]; omega, fun H9 t3 p3 rs S10 _ _ _ eT3 eP3 hs => ?_, fun H9 t3 p3 zs S10 _ _ _ eT3 eP3 hs => ?_⟩
      · exact ⟨_, rfl, t3, p3, h, rs, "yes", L2.map (·.2), rfl, eT3, eP3, (hh6.same (S9.trans S10)).pairs, by rw [List.length_map]; omega, .inl ⟨rfl, hs⟩, fun H8 _ => k H8⟩
      · exact ⟨_, rfl, t3, p3, h, zs, "no", L2.map (·.2), rfl, eT3, eP3, (hh6.same (S9.trans S10)).pairs, by rw [List.length_map]; omega, .inr ⟨rfl, hs⟩, fun H8 _ => k H8⟩
    · refine ⟨_, rfl, t2, p2, l, zs, "no", L.map (·.2), rfl, eT2, eP2, (hL6.same (T7.trans S7)).pairs, by rw [List.length_map]; omega, .inr ⟨rfl, hs⟩, fun H8 S8 => ⟨true, rfl, iteT ?_⟩⟩
      have S9 := (T7.trans S7).trans S8
      refine ⟨_, rfl, h, L2.map (·.2), rfl, (hh6.same S9).pairs, by rw [List.length_map]; omega, fun H9 t3 p3 rs S10 _ _ _ eT3 eP3 hs => ?_, fun H9 t3 p3 zs S10 _ _ _ eT3 eP3 hs => ?_⟩
      · exact ⟨_, rfl, t3, p3, h, rs, "yes", L2.map (·.2), rfl, eT3, eP3, (hh6.same (S9.trans S10)).pairs, by rw [List.length_map]; omega, .inl ⟨rfl, hs⟩, fun H8 _ => k H8⟩
      · exact ⟨_, rfl, t3, p3, h, zs, "no", L2.map (·.2), rfl, eT3, eP3, (hh6.same (S9.trans S10)).pairs, by rw [List.length_map]; omega, .inr ⟨rfl, hs⟩, fun H8 _ => k H8⟩
end
theorem all_mk {l : PySem.W.OpenLaw} {w : World} {K : PySem.W.Frag} {h : Heap} {mg : Str → Option Value} {fa : Addr} (X : K.In h) (G : h.Ns mainGlobals mg) (hfa : mg "law" = some (.ref fa))
    {f_seated f__way f__other f__take f__crowd f__rows f__law_cell_at f__law_mixed f__law_places f__law_unlike f__law_can f__law_numbers f__law_few f__law_right f_law : Addr}
    {od_seated an_seated od__way an__way od__other an__other od__take an__take od__crowd an__crowd od__rows an__rows od__law_cell_at an__law_cell_at od__law_mixed an__law_mixed od__law_places an__law_places od__law_unlike an__law_unlike od__law_can an__law_can od__law_numbers an__law_numbers od__law_few an__law_few od__law_right an__law_right od_law an_law : Option Addr} {sl_seated sl__way sl__other sl__take sl__crowd sl__rows sl__law_cell_at sl__law_mixed sl__law_places sl__law_unlike sl__law_can sl__law_numbers sl__law_few sl__law_right sl_law : Array (Option Value)}
    {oc_seated kV_seated dc_seated pm_seated cd_seated ct_seated oc__way kV__way dc__way pm__way cd__way ct__way oc__other kV__other dc__other pm__other cd__other ct__other oc__take kV__take dc__take pm__take cd__take ct__take oc__crowd kV__crowd dc__crowd pm__crowd cd__crowd ct__crowd oc__rows kV__rows dc__rows pm__rows cd__rows ct__rows oc__law_cell_at kV__law_cell_at dc__law_cell_at pm__law_cell_at cd__law_cell_at ct__law_cell_at oc__law_mixed kV__law_mixed dc__law_mixed pm__law_mixed cd__law_mixed ct__law_mixed oc__law_places kV__law_places dc__law_places pm__law_places cd__law_places ct__law_places oc__law_unlike kV__law_unlike dc__law_unlike pm__law_unlike cd__law_unlike ct__law_unlike oc__law_can kV__law_can dc__law_can pm__law_can cd__law_can ct__law_can oc__law_numbers kV__law_numbers dc__law_numbers pm__law_numbers cd__law_numbers ct__law_numbers oc__law_few kV__law_few dc__law_few pm__law_few cd__law_few ct__law_few oc__law_right kV__law_right dc__law_right pm__law_right cd__law_right ct__law_right oc_law kV_law dc_law pm_law cd_law ct_law : Value}
    (a_seated : PySem.W.nsIn K mainGlobals "seated" = some (some (.ref f_seated))) (l_seated : K.lookup f_seated = some ⟨oc_seated, od_seated, .func (PySem.W.fnOf "seated" "seated" (defArgs s_seated) (defBody s_seated) (defScope s_seated) .none kV_seated dc_seated pm_seated an_seated cd_seated ct_seated), sl_seated⟩) (c_seated : PySem.W.codeIn K cd_seated "seated" = true) (k_seated : PySem.W.keepIn K (.ref f_seated) = true)
    (a__way : PySem.W.nsIn K mainGlobals "_way" = some (some (.ref f__way))) (l__way : K.lookup f__way = some ⟨oc__way, od__way, .func (PySem.W.fnOf "_way" "_way" (defArgs s__way) (defBody s__way) (defScope s__way) .none kV__way dc__way pm__way an__way cd__way ct__way), sl__way⟩) (c__way : PySem.W.codeIn K cd__way "_way" = true) (k__way : PySem.W.keepIn K (.ref f__way) = true)
    (a__other : PySem.W.nsIn K mainGlobals "_other" = some (some (.ref f__other))) (l__other : K.lookup f__other = some ⟨oc__other, od__other, .func (PySem.W.fnOf "_other" "_other" (defArgs s__other) (defBody s__other) (defScope s__other) .none kV__other dc__other pm__other an__other cd__other ct__other), sl__other⟩) (c__other : PySem.W.codeIn K cd__other "_other" = true) (k__other : PySem.W.keepIn K (.ref f__other) = true)
    (a__take : PySem.W.nsIn K mainGlobals "_take" = some (some (.ref f__take))) (l__take : K.lookup f__take = some ⟨oc__take, od__take, .func (PySem.W.fnOf "_take" "_take" (defArgs s__take) (defBody s__take) (defScope s__take) .none kV__take dc__take pm__take an__take cd__take ct__take), sl__take⟩) (c__take : PySem.W.codeIn K cd__take "_take" = true) (k__take : PySem.W.keepIn K (.ref f__take) = true)
    (a__crowd : PySem.W.nsIn K mainGlobals "_crowd" = some (some (.ref f__crowd))) (l__crowd : K.lookup f__crowd = some ⟨oc__crowd, od__crowd, .func (PySem.W.fnOf "_crowd" "_crowd" (defArgs s__crowd) (defBody s__crowd) (defScope s__crowd) .none kV__crowd dc__crowd pm__crowd an__crowd cd__crowd ct__crowd), sl__crowd⟩) (c__crowd : PySem.W.codeIn K cd__crowd "_crowd" = true) (k__crowd : PySem.W.keepIn K (.ref f__crowd) = true)
    (a__rows : PySem.W.nsIn K mainGlobals "_rows" = some (some (.ref f__rows))) (l__rows : K.lookup f__rows = some ⟨oc__rows, od__rows, .func (PySem.W.fnOf "_rows" "_rows" (defArgs s__rows) (defBody s__rows) (defScope s__rows) .none kV__rows dc__rows pm__rows an__rows cd__rows ct__rows), sl__rows⟩) (c__rows : PySem.W.codeIn K cd__rows "_rows" = true) (k__rows : PySem.W.keepIn K (.ref f__rows) = true)
    (a__law_cell_at : PySem.W.nsIn K mainGlobals "_law_cell_at" = some (some (.ref f__law_cell_at))) (l__law_cell_at : K.lookup f__law_cell_at = some ⟨oc__law_cell_at, od__law_cell_at, .func (PySem.W.fnOf "_law_cell_at" "_law_cell_at" (defArgs s__law_cell_at) (defBody s__law_cell_at) (defScope s__law_cell_at) .none kV__law_cell_at dc__law_cell_at pm__law_cell_at an__law_cell_at cd__law_cell_at ct__law_cell_at), sl__law_cell_at⟩) (c__law_cell_at : PySem.W.codeIn K cd__law_cell_at "_law_cell_at" = true) (k__law_cell_at : PySem.W.keepIn K (.ref f__law_cell_at) = true)
    (a__law_mixed : PySem.W.nsIn K mainGlobals "_law_mixed" = some (some (.ref f__law_mixed))) (l__law_mixed : K.lookup f__law_mixed = some ⟨oc__law_mixed, od__law_mixed, .func (PySem.W.fnOf "_law_mixed" "_law_mixed" (defArgs s__law_mixed) (defBody s__law_mixed) (defScope s__law_mixed) .none kV__law_mixed dc__law_mixed pm__law_mixed an__law_mixed cd__law_mixed ct__law_mixed), sl__law_mixed⟩) (c__law_mixed : PySem.W.codeIn K cd__law_mixed "_law_mixed" = true) (k__law_mixed : PySem.W.keepIn K (.ref f__law_mixed) = true)
    (a__law_places : PySem.W.nsIn K mainGlobals "_law_places" = some (some (.ref f__law_places))) (l__law_places : K.lookup f__law_places = some ⟨oc__law_places, od__law_places, .func (PySem.W.fnOf "_law_places" "_law_places" (defArgs s__law_places) (defBody s__law_places) (defScope s__law_places) .none kV__law_places dc__law_places pm__law_places an__law_places cd__law_places ct__law_places), sl__law_places⟩) (c__law_places : PySem.W.codeIn K cd__law_places "_law_places" = true) (k__law_places : PySem.W.keepIn K (.ref f__law_places) = true)
    (a__law_unlike : PySem.W.nsIn K mainGlobals "_law_unlike" = some (some (.ref f__law_unlike))) (l__law_unlike : K.lookup f__law_unlike = some ⟨oc__law_unlike, od__law_unlike, .func (PySem.W.fnOf "_law_unlike" "_law_unlike" (defArgs s__law_unlike) (defBody s__law_unlike) (defScope s__law_unlike) .none kV__law_unlike dc__law_unlike pm__law_unlike an__law_unlike cd__law_unlike ct__law_unlike), sl__law_unlike⟩) (c__law_unlike : PySem.W.codeIn K cd__law_unlike "_law_unlike" = true) (k__law_unlike : PySem.W.keepIn K (.ref f__law_unlike) = true)
    (a__law_can : PySem.W.nsIn K mainGlobals "_law_can" = some (some (.ref f__law_can))) (l__law_can : K.lookup f__law_can = some ⟨oc__law_can, od__law_can, .func (PySem.W.fnOf "_law_can" "_law_can" (defArgs s__law_can) (defBody s__law_can) (defScope s__law_can) .none kV__law_can dc__law_can pm__law_can an__law_can cd__law_can ct__law_can), sl__law_can⟩) (c__law_can : PySem.W.codeIn K cd__law_can "_law_can" = true) (k__law_can : PySem.W.keepIn K (.ref f__law_can) = true)
    (a__law_numbers : PySem.W.nsIn K mainGlobals "_law_numbers" = some (some (.ref f__law_numbers))) (l__law_numbers : K.lookup f__law_numbers = some ⟨oc__law_numbers, od__law_numbers, .func (PySem.W.fnOf "_law_numbers" "_law_numbers" (defArgs s__law_numbers) (defBody s__law_numbers) (defScope s__law_numbers) .none kV__law_numbers dc__law_numbers pm__law_numbers an__law_numbers cd__law_numbers ct__law_numbers), sl__law_numbers⟩) (c__law_numbers : PySem.W.codeIn K cd__law_numbers "_law_numbers" = true) (k__law_numbers : PySem.W.keepIn K (.ref f__law_numbers) = true)
    (a__law_few : PySem.W.nsIn K mainGlobals "_law_few" = some (some (.ref f__law_few))) (l__law_few : K.lookup f__law_few = some ⟨oc__law_few, od__law_few, .func (PySem.W.fnOf "_law_few" "_law_few" (defArgs s__law_few) (defBody s__law_few) (defScope s__law_few) .none kV__law_few dc__law_few pm__law_few an__law_few cd__law_few ct__law_few), sl__law_few⟩) (c__law_few : PySem.W.codeIn K cd__law_few "_law_few" = true) (k__law_few : PySem.W.keepIn K (.ref f__law_few) = true)
    (a__law_right : PySem.W.nsIn K mainGlobals "_law_right" = some (some (.ref f__law_right))) (l__law_right : K.lookup f__law_right = some ⟨oc__law_right, od__law_right, .func (PySem.W.fnOf "_law_right" "_law_right" (defArgs s__law_right) (defBody s__law_right) (defScope s__law_right) .none kV__law_right dc__law_right pm__law_right an__law_right cd__law_right ct__law_right), sl__law_right⟩) (c__law_right : PySem.W.codeIn K cd__law_right "_law_right" = true) (k__law_right : PySem.W.keepIn K (.ref f__law_right) = true)
    (a_law : PySem.W.nsIn K mainGlobals "law" = some (some (.ref f_law))) (l_law : K.lookup f_law = some ⟨oc_law, od_law, .func (PySem.W.fnOf "law" "law" (defArgs s_law) (defBody s_law) (defScope s_law) .none kV_law dc_law pm_law an_law cd_law ct_law), sl_law⟩) (c_law : PySem.W.codeIn K cd_law "law" = true) (k_law : PySem.W.keepIn K (.ref f_law) = true)
    (z_bool : PySem.W.nsIn K mainGlobals "bool" = some none)
    (z_enumerate : PySem.W.nsIn K mainGlobals "enumerate" = some none)
    (z_int : PySem.W.nsIn K mainGlobals "int" = some none)
    (z_isinstance : PySem.W.nsIn K mainGlobals "isinstance" = some none)
    (z_len : PySem.W.nsIn K mainGlobals "len" = some none)
    (z_list : PySem.W.nsIn K mainGlobals "list" = some none)
    (z_range : PySem.W.nsIn K mainGlobals "range" = some none)
    (z_set : PySem.W.nsIn K mainGlobals "set" = some none)
    (z_sorted : PySem.W.nsIn K mainGlobals "sorted" = some none)
    (z_tuple : PySem.W.nsIn K mainGlobals "tuple" = some none)
    : ∃ fd : FuncData, (∀ (s : Shared) (v : Value), BindsTo s fd ⟨[v], []⟩ [("_law_script", v)]) ∧ ∀ base : Heap, K.In base → base.Ns mainGlobals mg → FnOk l.prog w K mg base CX0 5 fa fd ["_law_script"] (sp_law K) := by
  have e := hfa.symm.trans (PySem.W.mg_of X G a_law)
  cases e
  have F_seated := fun_mk (st := s_seated) l_seated c_seated k_seated
  have b_seated := F_seated.binds (ps := ["pairs"]) fun _ _ _ _ _ _ us hl => match us, hl with | [_], _ => rfl
  have F__way := fun_mk (st := s__way) l__way c__way k__way
  have b__way := F__way.binds (ps := ["pairs", "held", "seat"]) fun _ _ _ _ _ _ us hl => match us, hl with | [_, _, _], _ => rfl
  have F__other := fun_mk (st := s__other) l__other c__other k__other
  have b__other := F__other.binds (ps := ["pairs", "held", "seat"]) fun _ _ _ _ _ _ us hl => match us, hl with | [_, _, _], _ => rfl
  have F__take := fun_mk (st := s__take) l__take c__take k__take
  have b__take := F__take.binds (ps := ["held", "way", "number"]) fun _ _ _ _ _ _ us hl => match us, hl with | [_, _, _], _ => rfl
  have F__crowd := fun_mk (st := s__crowd) l__crowd c__crowd k__crowd
  have b__crowd := F__crowd.binds (ps := ["held", "seats", "number"]) fun _ _ _ _ _ _ us hl => match us, hl with | [_, _, _], _ => rfl
  have F__rows := fun_mk (st := s__rows) l__rows c__rows k__rows
  have b__rows := F__rows.binds (ps := ["held", "many"]) fun _ _ _ _ _ _ us hl => match us, hl with | [_, _], _ => rfl
  have F__law_cell_at := fun_mk (st := s__law_cell_at) l__law_cell_at c__law_cell_at k__law_cell_at
  have b__law_cell_at := F__law_cell_at.binds (ps := ["_law_script", "_law_k"]) fun _ _ _ _ _ _ us hl => match us, hl with | [_, _], _ => rfl
  have F__law_mixed := fun_mk (st := s__law_mixed) l__law_mixed c__law_mixed k__law_mixed
  have b__law_mixed := F__law_mixed.binds (ps := ["_law_cell", "_law_k"]) fun _ _ _ _ _ _ us hl => match us, hl with | [_, _], _ => rfl
  have F__law_places := fun_mk (st := s__law_places) l__law_places c__law_places k__law_places
  have b__law_places := F__law_places.binds (ps := ["_law_pairs", "_law_rows"]) fun _ _ _ _ _ _ us hl => match us, hl with | [_, _], _ => rfl
  have F__law_unlike := fun_mk (st := s__law_unlike) l__law_unlike c__law_unlike k__law_unlike
  have b__law_unlike := F__law_unlike.binds (ps := ["_law_places_here"]) fun _ _ _ _ _ _ us hl => match us, hl with | [_], _ => rfl
  have F__law_can := fun_mk (st := s__law_can) l__law_can c__law_can k__law_can
  have b__law_can := F__law_can.binds (ps := ["_law_pairs"]) fun _ _ _ _ _ _ us hl => match us, hl with | [_], _ => rfl
  have F__law_numbers := fun_mk (st := s__law_numbers) l__law_numbers c__law_numbers k__law_numbers
  have b__law_numbers := F__law_numbers.binds (ps := ["_law_found", "_law_least", "_law_most"]) fun _ _ _ _ _ _ us hl => match us, hl with | [_, _, _], _ => rfl
  have F__law_few := fun_mk (st := s__law_few) l__law_few c__law_few k__law_few
  have b__law_few := F__law_few.binds (ps := ["_law_pairs", "_law_numbers_here"]) fun _ _ _ _ _ _ us hl => match us, hl with | [_, _], _ => rfl
  have F__law_right := fun_mk (st := s__law_right) l__law_right c__law_right k__law_right
  have b__law_right := F__law_right.binds (ps := ["_law_found", "_law_pairs"]) fun _ _ _ _ _ _ us hl => match us, hl with | [_, _], _ => rfl
  have F_law := fun_mk (st := s_law) l_law c_law k_law
  have b_law := F_law.binds (ps := ["_law_script"]) fun _ _ _ _ _ _ us hl => match us, hl with | [_], _ => rfl
  have T : Tx K mg ⟨f_seated, _, f__way, _, f__other, _, f__take, _, f__crowd, _, f__rows, _, f__law_cell_at, _, f__law_mixed, _, f__law_places, _, f__law_unlike, _, f__law_can, _, f__law_numbers, _, f__law_few, _, f__law_right, _, fa, _⟩ := ⟨F_seated, PySem.W.mg_of X G a_seated, b_seated, F__way, PySem.W.mg_of X G a__way, b__way, F__other, PySem.W.mg_of X G a__other, b__other, F__take, PySem.W.mg_of X G a__take, b__take, F__crowd, PySem.W.mg_of X G a__crowd, b__crowd, F__rows, PySem.W.mg_of X G a__rows, b__rows, F__law_cell_at, PySem.W.mg_of X G a__law_cell_at, b__law_cell_at, F__law_mixed, PySem.W.mg_of X G a__law_mixed, b__law_mixed, F__law_places, PySem.W.mg_of X G a__law_places, b__law_places, F__law_unlike, PySem.W.mg_of X G a__law_unlike, b__law_unlike, F__law_can, PySem.W.mg_of X G a__law_can, b__law_can, F__law_numbers, PySem.W.mg_of X G a__law_numbers, b__law_numbers, F__law_few, PySem.W.mg_of X G a__law_few, b__law_few, F__law_right, PySem.W.mg_of X G a__law_right, b__law_right, F_law, PySem.W.mg_of X G a_law, b_law, PySem.W.mg_none_of X G z_bool, PySem.W.mg_none_of X G z_enumerate, PySem.W.mg_none_of X G z_int, PySem.W.mg_none_of X G z_isinstance, PySem.W.mg_none_of X G z_len, PySem.W.mg_none_of X G z_list, PySem.W.mg_none_of X G z_range, PySem.W.mg_none_of X G z_set, PySem.W.mg_none_of X G z_sorted, PySem.W.mg_none_of X G z_tuple⟩
  exact ⟨_, fun s v => .of_eq rfl, fun base _ _ => ok_law T⟩
end K2
open PySem PySem.W PyProof.Rows
set_option maxRecDepth 100000 in
set_option maxHeartbeats 0 in
theorem PySem.Challenge.cw_twonests_k02_seats_small_holds : PySem.Challenge.rw_twonests_k02_seats_small.Holds := by
  w_on; o_law; k_head; (case hw => w_witness2)
  k_fill
  refine L2.walk_of (l := PySem.Challenge.rw_twonests_k02_seats_small) (n := 63) (k := 5) (x := "_law_script") (CX := fun _ => L2.CX0) (sp := fun w => K2.sp_law _) rfl (by decide) rfl ⟨rfl, by decide, by decide⟩ (fun w h Y => PySem.W.kIn_of Y) ?F (fun _ _ a ns hl _ hS => ⟨a, ns, rfl, hS, hl, fun _ => rfl⟩) (fun _ _ _ _ _ h => h)
  case F =>
    intro w mg fa h KX G hmg
    refine' K2.all_mk KX G hmg ?a_seated ?l_seated ?c_seated ?k_seated ?a__way ?l__way ?c__way ?k__way ?a__other ?l__other ?c__other ?k__other ?a__take ?l__take ?c__take ?k__take ?a__crowd ?l__crowd ?c__crowd ?k__crowd ?a__rows ?l__rows ?c__rows ?k__rows ?a__law_cell_at ?l__law_cell_at ?c__law_cell_at ?k__law_cell_at ?a__law_mixed ?l__law_mixed ?c__law_mixed ?k__law_mixed ?a__law_places ?l__law_places ?c__law_places ?k__law_places ?a__law_unlike ?l__law_unlike ?c__law_unlike ?k__law_unlike ?a__law_can ?l__law_can ?c__law_can ?k__law_can ?a__law_numbers ?l__law_numbers ?c__law_numbers ?k__law_numbers ?a__law_few ?l__law_few ?c__law_few ?k__law_few ?a__law_right ?l__law_right ?c__law_right ?k__law_right ?a_law ?l_law ?c_law ?k_law ?z_bool ?z_enumerate ?z_int ?z_isinstance ?z_len ?z_list ?z_range ?z_set ?z_sorted ?z_tuple
    (case a_seated => k_is)
    (case l_seated => k_is)
    (case c_seated => k_is)
    (case k_seated => k_is)
    (case a__way => k_is)
    (case l__way => k_is)
    (case c__way => k_is)
    (case k__way => k_is)
    (case a__other => k_is)
    (case l__other => k_is)
    (case c__other => k_is)
    (case k__other => k_is)
    (case a__take => k_is)
    (case l__take => k_is)
    (case c__take => k_is)
    (case k__take => k_is)
    (case a__crowd => k_is)
    (case l__crowd => k_is)
    (case c__crowd => k_is)
    (case k__crowd => k_is)
    (case a__rows => k_is)
    (case l__rows => k_is)
    (case c__rows => k_is)
    (case k__rows => k_is)
    (case a__law_cell_at => k_is)
    (case l__law_cell_at => k_is)
    (case c__law_cell_at => k_is)
    (case k__law_cell_at => k_is)
    (case a__law_mixed => k_is)
    (case l__law_mixed => k_is)
    (case c__law_mixed => k_is)
    (case k__law_mixed => k_is)
    (case a__law_places => k_is)
    (case l__law_places => k_is)
    (case c__law_places => k_is)
    (case k__law_places => k_is)
    (case a__law_unlike => k_is)
    (case l__law_unlike => k_is)
    (case c__law_unlike => k_is)
    (case k__law_unlike => k_is)
    (case a__law_can => k_is)
    (case l__law_can => k_is)
    (case c__law_can => k_is)
    (case k__law_can => k_is)
    (case a__law_numbers => k_is)
    (case l__law_numbers => k_is)
    (case c__law_numbers => k_is)
    (case k__law_numbers => k_is)
    (case a__law_few => k_is)
    (case l__law_few => k_is)
    (case c__law_few => k_is)
    (case k__law_few => k_is)
    (case a__law_right => k_is)
    (case l__law_right => k_is)
    (case c__law_right => k_is)
    (case k__law_right => k_is)
    (case a_law => k_is)
    (case l_law => k_is)
    (case c_law => k_is)
    (case k_law => k_is)
    (case z_bool => k_is)
    (case z_enumerate => k_is)
    (case z_int => k_is)
    (case z_isinstance => k_is)
    (case z_len => k_is)
    (case z_list => k_is)
    (case z_range => k_is)
    (case z_set => k_is)
    (case z_sorted => k_is)
    (case z_tuple => k_is)

