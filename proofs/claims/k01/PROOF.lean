import PyProof.Rows.All
import Wide.All
import OpenK.AllK
import Wide.FinOn
import HandS.Base
import HandS.Call
import HandS.List
import HandS.Ends
import HandS.Iter
import HandS.Text
import HandS.Walk
import HandS.Words
import HandS.WordsList
import HandS.IsInst
import HandS.Replace
import HandS.Codes
import HandS.Codes
import PySem.Challenge.RW_twonests_k01_names_and_homes
set_option Elab.async false
set_option linter.all false
set_option maxRecDepth 100000
set_option maxHeartbeats 4000000
namespace K1
open PySem L2
def top (i : Nat) : Stmt := PySem.Challenge.pw_twonests_k01_names_and_homes.main.body.getD i (.Pass ⟨0, 0, 0, 0⟩)
abbrev s_is_name : Stmt := top 3
abbrev s_home : Stmt := top 4
abbrev s__law_cell_at : Stmt := top 6
abbrev s__law_mixed : Stmt := top 7
abbrev s__law_text : Stmt := top 8
abbrev s__law_spoilt : Stmt := top 9
abbrev s__law_of : Stmt := top 10
abbrev s_law : Stmt := top 11
theorem sc_is_name : FnScope ["name", "sign"] ["name"] (defScope s_is_name) := ⟨rfl, rfl, rfl, by decide +kernel, rfl, by decide +kernel, by decide +kernel⟩
theorem sc_home : FnScope ["name", "times", "count", "number", "sign"] ["name", "times", "count"] (defScope s_home) := ⟨rfl, rfl, rfl, by decide +kernel, rfl, by decide +kernel, by decide +kernel⟩
theorem sc__law_cell_at : FnScope ["_law_script", "_law_k"] ["_law_script", "_law_k"] (defScope s__law_cell_at) := ⟨rfl, rfl, rfl, by decide +kernel, rfl, by decide +kernel, by decide +kernel⟩
theorem sc__law_mixed : FnScope ["_law_cell", "_law_k", "_law_mix"] ["_law_cell", "_law_k"] (defScope s__law_mixed) := ⟨rfl, rfl, rfl, by decide +kernel, rfl, by decide +kernel, by decide +kernel⟩
theorem sc__law_text : FnScope ["_law_cell", "_law_size", "_law_signs", "_law_text_here", "_law_k"] ["_law_cell", "_law_size"] (defScope s__law_text) := ⟨rfl, rfl, rfl, by decide +kernel, rfl, by decide +kernel, by decide +kernel⟩
theorem sc__law_spoilt : FnScope ["_law_text_here", "_law_cell", "_law_others", "_law_at", "_law_sign"] ["_law_text_here", "_law_cell"] (defScope s__law_spoilt) := ⟨rfl, rfl, rfl, by decide +kernel, rfl, by decide +kernel, by decide +kernel⟩
theorem sc__law_of : FnScope ["_law_cell", "_law_most"] ["_law_cell", "_law_most"] (defScope s__law_of) := ⟨rfl, rfl, rfl, by decide +kernel, rfl, by decide +kernel, by decide +kernel⟩
theorem sc_law : FnScope ["_law_script", "_law_text_here", "_law_due", "_law_sign", "_law_found", "_law_name", "_law_times", "_law_count", "_law_signs", "_law_number", "_law_told"] ["_law_script"] (defScope s_law) := ⟨rfl, rfl, rfl, by decide +kernel, rfl, by decide +kernel, by decide +kernel⟩
/-- where the defs stand -/
structure Ad where
  a_is_name : Addr
  d_is_name : FuncData
  a_home : Addr
  d_home : FuncData
  a__law_cell_at : Addr
  d__law_cell_at : FuncData
  a__law_mixed : Addr
  d__law_mixed : FuncData
  a__law_text : Addr
  d__law_text : FuncData
  a__law_spoilt : Addr
  d__law_spoilt : FuncData
  a__law_of : Addr
  d__law_of : FuncData
  a_law : Addr
  d_law : FuncData
  t_LONGEST : Tok
  t_SIGNS : Tok
/-- what the top has left -/
structure Tx (K : PySem.W.Frag) (mg : Str → Option Value) (A : Ad) : Prop where
  F_is_name : Fun K "is_name" "is_name" s_is_name A.a_is_name A.d_is_name
  g_is_name : mg "is_name" = some (.ref A.a_is_name)
  b_is_name : Binds K A.d_is_name ["name"] []
  F_home : Fun K "home" "home" s_home A.a_home A.d_home
  g_home : mg "home" = some (.ref A.a_home)
  b_home : Binds K A.d_home ["name", "times", "count"] []
  F__law_cell_at : Fun K "_law_cell_at" "_law_cell_at" s__law_cell_at A.a__law_cell_at A.d__law_cell_at
  g__law_cell_at : mg "_law_cell_at" = some (.ref A.a__law_cell_at)
  b__law_cell_at : Binds K A.d__law_cell_at ["_law_script", "_law_k"] []
  F__law_mixed : Fun K "_law_mixed" "_law_mixed" s__law_mixed A.a__law_mixed A.d__law_mixed
  g__law_mixed : mg "_law_mixed" = some (.ref A.a__law_mixed)
  b__law_mixed : Binds K A.d__law_mixed ["_law_cell", "_law_k"] []
  F__law_text : Fun K "_law_text" "_law_text" s__law_text A.a__law_text A.d__law_text
  g__law_text : mg "_law_text" = some (.ref A.a__law_text)
  b__law_text : Binds K A.d__law_text ["_law_cell", "_law_size"] []
  F__law_spoilt : Fun K "_law_spoilt" "_law_spoilt" s__law_spoilt A.a__law_spoilt A.d__law_spoilt
  g__law_spoilt : mg "_law_spoilt" = some (.ref A.a__law_spoilt)
  b__law_spoilt : Binds K A.d__law_spoilt ["_law_text_here", "_law_cell"] []
  F__law_of : Fun K "_law_of" "_law_of" s__law_of A.a__law_of A.d__law_of
  g__law_of : mg "_law_of" = some (.ref A.a__law_of)
  b__law_of : Binds K A.d__law_of ["_law_cell", "_law_most"] []
  F_law : Fun K "law" "law" s_law A.a_law A.d_law
  g_law : mg "law" = some (.ref A.a_law)
  b_law : Binds K A.d_law ["_law_script"] []
  c_LONGEST : mg "LONGEST" = some (.int 12 A.t_LONGEST)
  c_SIGNS : mg "SIGNS" = some (.str "abcdefghijklmnopqrstuvwxyz0123456789" A.t_SIGNS)
  m_bool : mg "bool" = none
  m_int : mg "int" = none
  m_isinstance : mg "isinstance" = none
  m_len : mg "len" = none
  m_range : mg "range" = none

/-! plain mathematics -/
abbrev tx (l : List Nat) : Str := ⟨l.toArray⟩
def alph : List Nat := [97, 98, 99, 100, 101, 102, 103, 104, 105, 106, 107, 108, 109, 110, 111, 112, 113, 114, 115, 116, 117, 118, 119, 120, 121, 122, 48, 49, 50, 51, 52, 53, 54, 55, 56, 57]
theorem alph_tx : ("abcdefghijklmnopqrstuvwxyz0123456789" : Str) = tx alph := by decide +kernel
theorem nil_tx : ("" : Str) = tx [] := by decide +kernel
theorem tx_len (l : List Nat) : (tx l).length = l.length := by
  show l.toArray.size = l.length
  simp
theorem tx_app (a b : List Nat) : tx a ++ tx b = tx (a ++ b) := by
  show (⟨a.toArray ++ b.toArray⟩ : Str) = _
  simp [tx]
theorem tx_inj {a b : List Nat} (h : tx a = tx b) : a = b := by
  have e : a.toArray = b.toArray := congrArg Str.cps h
  simpa using e
def idx (c : Nat) : Nat := alph.findIdx (· == c)
theorem occ_all : (alph.all fun c => decide (Builtin.Str.occurrences (tx alph) ⟨#[c]⟩ 0 (tx alph).length 1 = [idx c])) = true := by decide +kernel
theorem occ_at {c : Nat} (h : c ∈ alph) : Builtin.Str.occurrences (tx alph) ⟨#[c]⟩ 0 (tx alph).length 1 = [idx c] :=
  of_decide_eq_true (List.all_eq_true.mp occ_all c h)
def isN (l : List Nat) : Bool := decide (l ≠ []) && (decide (l.length ≤ 12) && l.all fun c => decide (c ∈ alph))
def homeN (t m : Int) : List Nat → Int → Int
  | [], n => n
  | c :: r, n => homeN t m r ((n * t + (idx c : Int) + 1) % m)
def mixed (c k : Int) : Int :=
  ((c + 7919 * k + 11) * 48271 % 2147483647 * ((c + 7919 * k + 11) * 48271 % 2147483647) + 40692 * ((c + 7919 * k + 11) * 48271 % 2147483647)) % 2147483399
def sign (c : Int) (k : Nat) : Nat := alph.getD (mixed c k / 31 % 36).toNat 0
def text (c : Int) (n : Nat) : List Nat := (List.range n).map (sign c)
theorem alph_len : alph.length = 36 := rfl
theorem sign_at (c : Int) (k : Nat) : alph[(mixed c k / 31 % 36).toNat]? = some (sign c k) := by
  have h0 : 0 ≤ mixed c k / 31 % 36 := Int.emod_nonneg _ (by decide)
  have h1 : mixed c k / 31 % 36 < 36 := Int.emod_lt_of_pos _ (by decide)
  have h2 : (mixed c k / 31 % 36).toNat < alph.length := by rw [alph_len]; omega
  unfold sign
  rw [List.getD_eq_getElem?_getD, List.getElem?_eq_getElem h2]
  rfl
theorem sign_in (c : Int) (k : Nat) : sign c k ∈ alph := List.mem_of_getElem? (sign_at c k)
theorem text_len (c : Int) (n : Nat) : (text c n).length = n := by simp [text]
theorem text_in (c : Int) (n : Nat) : ∀ x ∈ text c n, x ∈ alph := by
  intro x h
  obtain ⟨k, _, rfl⟩ := List.mem_map.mp h
  exact sign_in c k
theorem text_succ (c : Int) (n : Nat) : text c (n + 1) = text c n ++ [sign c n] := by
  simp [text, List.range_succ]
theorem homeN_in (t m : Int) (hm : 0 < m) : ∀ (l : List Nat) (n : Int), 0 ≤ n → n < m → 0 ≤ homeN t m l n ∧ homeN t m l n < m
  | [], _, h0, h1 => ⟨h0, h1⟩
  | c :: r, n, _, _ => homeN_in t m hm r _ (Int.emod_nonneg _ (by omega)) (Int.emod_lt_of_pos _ hm)
theorem homeN_snoc (t m : Int) : ∀ (l : List Nat) (n : Int) (c : Nat), homeN t m (l ++ [c]) n = (homeN t m l n * t + (idx c : Int) + 1) % m
  | [], _, _ => rfl
  | d :: r, n, c => homeN_snoc t m r _ c
theorem take_snoc {l : List Nat} {i : Nat} {c : Nat} (h : l.toArray[i]? = some c) : l.take (i + 1) = l.take i ++ [c] := by
  have h' : l[i]? = some c := by simpa using h
  rw [List.take_add_one, h']
  rfl
theorem mem_at {l : List Nat} {i : Nat} {c : Nat} (h : l.toArray[i]? = some c) : c ∈ l := by
  have h' : l[i]? = some c := by simpa using h
  exact List.mem_of_getElem? h'
theorem mixed_lo (c k : Int) : 0 ≤ mixed c k := Int.emod_nonneg _ (by decide)
theorem mixed_hi (c k : Int) : mixed c k < 2147483399 := Int.emod_lt_of_pos _ (by decide)
theorem isN_eq (l : List Nat) : isN l = ((decide ((1 : Int) ≤ l.length) && decide ((l.length : Int) ≤ 12)) && l.all fun c => decide (c ∈ alph)) := by
  unfold isN
  cases l with
  | nil => rfl
  | cons a r =>
    have h1 : decide ((a :: r) ≠ []) = true := decide_eq_true (List.cons_ne_nil a r)
    have h2 : decide ((1 : Int) ≤ ((a :: r).length : Int)) = true := decide_eq_true (by rw [List.length_cons]; omega)
    have h3 : decide (((a :: r).length : Int) ≤ 12) = decide ((a :: r).length ≤ 12) := by
      by_cases h : (a :: r).length ≤ 12
      · rw [decide_eq_true h, decide_eq_true (by omega)]
      · rw [decide_eq_false h, decide_eq_false (by omega)]
    rw [h1, h2, h3]
    simp
theorem cut_lo (l : List Nat) (k : Nat) : cutS (tx l) none (some (k : Int)) = tx (l.take k) := by
  unfold cutS
  rw [HT.sIx_none, HT.sIx_nat, tx_len]
  simp only [tx]
  congr 2
  simp
theorem cut_hi (l : List Nat) (k : Nat) : cutS (tx l) (some (k : Int)) none = tx (l.drop k) := by
  unfold cutS
  rw [HT.sIx_none, HT.sIx_nat, tx_len]
  simp only [tx]
  congr 1
  by_cases h : k ≤ l.length
  · rw [Nat.min_eq_left h]
    exact congrArg List.toArray (List.take_of_length_le (l := List.drop k l) (i := l.length - k) (by rw [List.length_drop]; exact Nat.le_refl _))
  · rw [Nat.min_eq_right (by omega)]
    rw [List.drop_length, List.drop_eq_nil_of_le (by omega)]
    simp
theorem at_in (z : Str) (c : Int) (h : 0 < z.length) : ∃ d, atI z.cps.toList (c % (z.length : Nat)) = some d := by
  have h0 : 0 ≤ c % (z.length : Int) := Int.emod_nonneg _ (by omega)
  have h1 : c % (z.length : Int) < z.length := Int.emod_lt_of_pos _ (by omega)
  have e : c % (z.length : Int) = (((c % (z.length : Int)).toNat : Nat) : Int) := by omega
  have h2 : (c % (z.length : Int)).toNat < z.cps.toList.length := by
    show _ < z.cps.toList.length
    rw [Array.length_toList]
    show _ < z.length
    omega
  rw [e]
  exact ⟨_, atI_nat (List.getElem?_eq_getElem h2)⟩
theorem of_in (c m : Int) (hm : 2 ≤ m) (i : Int) (h0 : 0 ≤ i) (h5 : i < 5) : ∃ x : Int, atI [V.int 1, V.int 2, V.int m, V.int (1 + c % m), V.int (1 + c % m)] i = some (.int x) ∧ 1 ≤ x ∧ x ≤ m := by
  have a0 : 0 ≤ c % m := Int.emod_nonneg _ (by omega)
  have a1 : c % m < m := Int.emod_lt_of_pos _ (by omega)
  rcases (show i = 0 ∨ i = 1 ∨ i = 2 ∨ i = 3 ∨ i = 4 by omega) with rfl | rfl | rfl | rfl | rfl
  · exact ⟨1, atI_nat (j := 0) rfl, by omega, by omega⟩
  · exact ⟨2, atI_nat (j := 1) rfl, by omega, by omega⟩
  · exact ⟨m, atI_nat (j := 2) rfl, by omega, by omega⟩
  · exact ⟨1 + c % m, atI_nat (j := 3) rfl, by omega, by omega⟩
  · exact ⟨1 + c % m, atI_nat (j := 4) rfl, by omega, by omega⟩
/-! promises -/
def sp_is_name : Sp := fun vs H Q _ => ∃ l : List Nat, vs = [.str (tx l)] ∧ l.length ≤ 1000 ∧ Q (.bl (isN l)) H
def sp_home : Sp := fun vs H Q _ => ∃ (l : List Nat) (t m : Int), vs = [.str (tx l), .int t, .int m] ∧ (∀ c ∈ l, c ∈ alph) ∧ 0 < m ∧ m ≤ 1000000 ∧ Q (.int (homeN t m l 0)) H
def sp__law_cell_at (K : PySem.W.Frag) : Sp := fun vs H Q _ => ∃ (a : Addr) (ns : List Int) (k : Nat), vs = [.ref a, .int k] ∧ SqL K H a (ns.map V.int) ∧ Q (.int (ns.getD k 0)) H
def sp__law_mixed : Sp := fun vs H Q _ => ∃ (c k : Int), vs = [.int c, .int k] ∧ Q (.int (mixed c k)) H
def sp__law_text : Sp := fun vs H Q _ => ∃ (c : Int) (n : Nat), vs = [.int c, .int n] ∧ n ≤ 1000 ∧ Q (.str (tx (text c n))) H
def sp__law_spoilt : Sp := fun vs H Q _ => ∃ (l : List Nat) (c : Int), vs = [.str (tx l), .int c] ∧ l.length ≤ 100 ∧ 0 ≤ c ∧ ∀ l' : List Nat, l'.length ≤ l.length + 1 → Q (.str (tx l')) H
def sp__law_of : Sp := fun vs H Q _ => ∃ (c m : Int), vs = [.int c, .int m] ∧ 2 ≤ m ∧ ∀ (x : Int) H', Same H H' → 1 ≤ x → x ≤ m → Q (.int x) H'
def sp_law (K : PySem.W.Frag) : Sp := fun vs H Q _ => ∃ (a : Addr) (ns : List Int), vs = [.ref a] ∧ SqL K H a (ns.map V.int) ∧ ns.length ≤ 63 ∧ ∀ H', Q (.bl true) H'
section
variable {P : Program} {w : World} {K : PySem.W.Frag} {mg : Str → Option Value} {base : Heap} {A : Ad}
theorem ok_is_name (T : Tx K mg A) : FnOk P w K mg base CX0 1 A.a_is_name A.d_is_name ["name"] sp_is_name := by
  refine T.F_is_name.ok sc_is_name (fun vs H Q E h => ?_) (fun cdv Ar outer s H vs Q E hr h => ?_)
  · obtain ⟨l, rfl, _⟩ := h
    rfl
  · obtain ⟨l, rfl, hl, k⟩ := h
    refine ⟨_, 
      (pss_cons (ps_if (PW.pt (pw_or (pt_cmpR op_eq (pv 0) pe_str (nomark _)) (pw_or1 (pt_cmpR op_gt (pe_callB call_len_str (by rfl) T.m_len PySem.boot_len (pa_cons (pv 0) pa_nil)) (pe_glob (v := .int 12) (by rfl) T.c_LONGEST ⟨_, rfl⟩) (nomark _))))) 
        (pss_one (ps_ret pe_bl)) pss_nil)
      (pss_cons (ps_for PassesOwn.never rfl (pi_str (pv 0)) (pg_name (i := 1) sc_is_name.nd rfl (Or.inl rfl)) 
        (pss_one (ps_if (pt_cmpR op_notIn_sign (pv 1) (pe_glob (v := .str "abcdefghijklmnopqrstuvwxyz0123456789") (by rfl) T.c_SIGNS ⟨_, rfl⟩) rfl) 
          (pss_one (ps_ret pe_bl)) pss_nil)))
      (pss_one (ps_ret pe_bl)))), ?_⟩
    refine ⟨_, rfl, rfl, _, rfl, ?_⟩
    refine ite2 (fun e => ?_) (fun e => ?_)
    · have e1 : tx l = tx [] := by
        have := V.str.inj (of_decide_eq_true e)
        rw [this, nil_tx]
      have e2 : l = [] := tx_inj e1
      subst e2
      exact k
    · have hne : l ≠ [] := fun q => e (by subst q; exact decide_eq_true (by rw [nil_tx]))
      refine ⟨_, rfl, _, rfl, (by rw [tx_len]; exact Nat.le_of_lt (small1000 hl)), _, _, rfl, rfl, _, rfl, ?_⟩
      refine ite2 (fun e2 => ?_) (fun e2 => ?_)
      · have e3 : ¬ l.length ≤ 12 := by
          have := of_decide_eq_true e2
          rw [tx_len] at this
          omega
        have e4 : isN l = false := by
          unfold isN
          rw [decide_eq_false e3]
          simp
        rw [e4] at k
        exact k
      · have e3 : l.length ≤ 12 := by
          have : ¬ ((12 : Int) < ((tx l).length : Nat)) := fun q => e2 (decide_eq_true q)
          rw [tx_len] at this
          omega
        refine ⟨_, rfl, _, rfl, for_it walk_str (fun i σ H' => H' = H ∧ (∃ v, σ = [some (.str (tx l)), v]) ∧ ∀ c ∈ l.take i, c ∈ alph) ⟨rfl, ⟨_, rfl⟩, fun c hc => by simp at hc⟩ (fun _ _ _ _ _ => trivial) ?_ ?_⟩
        · rintro i x σ H1 H2 hi ⟨rfl, ⟨v, rfl⟩, hin⟩ ⟨rfl, c, hc, rfl⟩
          refine ⟨_, rfl, c, _, rfl, rfl, _, rfl, ?_⟩
          rw [alph_tx]
          refine ite2 (fun e5 => ?_) (fun e5 => ?_)
          · have e6 : c ∉ alph := by simpa using e5
            have e4 : isN l = false := by
              unfold isN
              have : (l.all fun c => decide (c ∈ alph)) = false := List.all_eq_false.mpr ⟨c, mem_at hc, by simpa using e6⟩
              rw [this]
              simp
            rw [e4] at k
            exact k
          · have e6 : c ∈ alph := by simpa using e5
            refine ⟨rfl, ⟨_, rfl⟩, fun d hd => ?_⟩
            rw [take_snoc hc] at hd
            rcases List.mem_append.mp hd with h1 | h1
            · exact hin d h1
            · rw [List.mem_singleton.mp h1]
              exact e6
        · rintro σ H1 ⟨rfl, ⟨v, rfl⟩, hin⟩
          have e4 : isN l = true := by
            unfold isN
            have hs : (tx l).cps.size = l.length := tx_len l
            rw [hs, List.take_length] at hin
            have : (l.all fun c => decide (c ∈ alph)) = true := List.all_eq_true.mpr fun c hc => decide_eq_true (hin c hc)
            rw [this, decide_eq_true hne, decide_eq_true e3]
            rfl
          rw [e4] at k
          exact k
theorem ok_home (T : Tx K mg A) : FnOk P w K mg base CX0 1 A.a_home A.d_home ["name", "times", "count"] sp_home := by
  refine T.F_home.ok sc_home (fun vs H Q E h => ?_) (fun cdv Ar outer s H vs Q E hr h => ?_)
  · obtain ⟨l, t, m, rfl, _⟩ := h
    rfl
  · obtain ⟨l, t, m, rfl, hl, hm, hm2, k⟩ := h
    refine ⟨_, 
      (pss_cons (ps_if (pt_cmpR op_eq (pv 2) pe_int (nomark _)) 
        (pss_one (ps_ret pe_int)) pss_nil)
      (pss_cons (ps_set (i := 3) sc_home.nd rfl (Or.inl rfl) pe_int)
      (pss_cons (ps_for PassesOwn.never rfl (pi_str (pv 0)) (pg_name (i := 4) sc_home.nd rfl (Or.inl rfl)) 
        (pss_one (ps_set (i := 3) sc_home.nd rfl (Or.inl rfl) (pe_op op_mod (pe_op op_add (pe_op op_add (pe_op op_mul (pv 3) (pv 1)) (pe_m1 PySem.F.slot_str_index PySem.F.type_str_index mt_sindex (pe_glob (v := .str "abcdefghijklmnopqrstuvwxyz0123456789") (by rfl) T.c_SIGNS ⟨_, rfl⟩) (pv 4))) pe_int) (pv 2)))))
      (pss_one (ps_ret (pv 3)))))), ?_⟩
    refine ⟨_, rfl, rfl, _, rfl, ?_⟩
    refine ite2 (fun e => ?_) (fun _ => ?_)
    · have := V.int.inj (of_decide_eq_true e)
      omega
    refine ⟨_, rfl, _, rfl, for_it walk_str (fun i σ H' => H' = H ∧ ∃ v, σ = [some (.str (tx l)), some (.int t), some (.int m), some (.int (homeN t m (l.take i) 0)), v]) ⟨rfl, _, rfl⟩ (fun _ _ _ _ _ => trivial) ?_ ?_⟩
    · rintro i x σ H1 H2 hi ⟨rfl, v, rfl⟩ ⟨rfl, c, hc, rfl⟩
      have hb := homeN_in t m hm (l.take i) 0 (by omega) hm
      refine ⟨_, rfl, _, rfl, _, _, rfl, rfl, .inl ⟨by omega, by omega⟩, ⟨_, rfl⟩, _, rfl, _, _, idx c, [], rfl, rfl, ?_, _, _, rfl, rfl, _, _, rfl, rfl, _, rfl, _, _, rfl, rfl, hm, ?_⟩
      · rw [alph_tx]
        exact occ_at (hl c (mem_at hc))
      · refine ⟨rfl, some (.str ⟨#[c]⟩), ?_⟩
        rw [take_snoc hc, homeN_snoc]
        rfl
    · rintro σ H1 ⟨rfl, v, rfl⟩
      have hs : (tx l).cps.size = l.length := tx_len l
      rw [hs, List.take_length]
      exact ⟨_, rfl, k⟩
theorem ok__law_cell_at (T : Tx K mg A) : FnOk P w K mg base CX0 1 A.a__law_cell_at A.d__law_cell_at ["_law_script", "_law_k"] (sp__law_cell_at K) := by
  refine T.F__law_cell_at.ok sc__law_cell_at (fun vs H Q E h => ?_) (fun cdv Ar outer s H vs Q E hr h => ?_)
  · obtain ⟨a, ns, n, rfl, _⟩ := h
    rfl
  · obtain ⟨a, ns, n, rfl, hS, k⟩ := h
    refine ⟨_, 
      (pss_cons (ps_if (pt_cmpR op_lt (pv 1) (pe_callB call_len_seq (by rfl) T.m_len PySem.boot_len (pa_cons (pv 0) pa_nil)) (nomark _)) 
        (pss_one (ps_ret (pe_ix ix_list (pv 0) (pv 1) (fun _ _ => rfl)))) pss_nil)
      (pss_one (ps_ret pe_int))), ?_⟩
    refine ⟨_, rfl, _, rfl, _, _, rfl, .inl hS, _, _, rfl, rfl, _, rfl, ?_⟩
    rw [List.length_map]
    refine ite2 (fun e => ?_) (fun e => ?_)
    · have hn : n < ns.length := by
        have := of_decide_eq_true e
        omega
      refine ⟨_, rfl, _, rfl, _, _, _, _, rfl, rfl, hS, atI_nat (v := .int (ns.getD n 0)) ?_, k⟩
      rw [List.getElem?_map, List.getElem?_eq_getElem hn, List.getD_eq_getElem?_getD, List.getElem?_eq_getElem hn]
      rfl
    · have hn : ¬ n < ns.length := fun q => e (decide_eq_true (by omega))
      have : ns.getD n 0 = 0 := by
        rw [List.getD_eq_getElem?_getD, List.getElem?_eq_none (by omega)]
        rfl
      rw [this] at k
      exact k
theorem ok__law_mixed (T : Tx K mg A) : FnOk P w K mg base CX0 1 A.a__law_mixed A.d__law_mixed ["_law_cell", "_law_k"] sp__law_mixed := by
  refine T.F__law_mixed.ok sc__law_mixed (fun vs H Q E h => ?_) (fun cdv Ar outer s H vs Q E hr h => ?_)
  · obtain ⟨c, n, rfl, _⟩ := h
    rfl
  · obtain ⟨c, n, rfl, k⟩ := h
    refine ⟨_, 
      (pss_cons (ps_set (i := 2) sc__law_mixed.nd rfl (Or.inl rfl) (pe_op op_mod (pe_op op_mul (pe_op op_add (pe_op op_add (pv 0) (pe_op op_mul pe_int (pv 1))) pe_int) pe_int) pe_int))
      (pss_one (ps_ret (pe_op op_mod (pe_op op_add (pe_op op_mul (pv 2) (pv 2)) (pe_op op_mul pe_int (pv 2))) pe_int)))), ?_⟩
    have h0 : 0 ≤ (c + 7919 * n + 11) * 48271 % 2147483647 := Int.emod_nonneg _ (by decide)
    have h1 : (c + 7919 * n + 11) * 48271 % 2147483647 < 2147483647 := Int.emod_lt_of_pos _ (by decide)
    refine ⟨_, rfl, _, rfl, _, _, rfl, rfl, .inl ⟨by decide, by decide⟩, _, _, rfl, rfl, _, _, rfl, rfl, _, _, rfl, rfl, .inr ⟨by decide, by decide⟩, _, _, rfl, rfl, (by show (0 : Int) < 2147483647; decide), ?_⟩
    refine ⟨_, rfl, _, rfl, _, _, rfl, rfl, .inl ⟨by omega, by omega⟩, _, rfl, _, _, rfl, rfl, .inl ⟨by decide, by decide⟩, _, _, rfl, rfl, _, _, rfl, rfl, (by show (0 : Int) < 2147483399; decide), k⟩
theorem ok__law_text (T : Tx K mg A) : FnOk P w K mg base CX0 2 A.a__law_text A.d__law_text ["_law_cell", "_law_size"] sp__law_text := by
  refine T.F__law_text.ok sc__law_text (fun vs H Q E h => ?_) (fun cdv Ar outer s H vs Q E hr h => ?_)
  · obtain ⟨c, n, rfl, _⟩ := h
    rfl
  · obtain ⟨c, n, rfl, hn, k⟩ := h
    refine ⟨_, 
      (pss_cons (ps_set (i := 2) sc__law_text.nd rfl (Or.inl rfl) pe_str)
      (pss_cons (ps_set (i := 3) sc__law_text.nd rfl (Or.inl rfl) pe_str)
      (pss_cons (ps_for PassesOwn.never rfl (pi_range1 (by rfl) T.m_range (pa_cons (pv 1) pa_nil)) (pg_name (i := 4) sc__law_text.nd rfl (Or.inl rfl)) 
        (pss_one (ps_set (i := 3) sc__law_text.nd rfl (Or.inl rfl) (pe_op op_add_str (pv 3) (pe_ix ix_str (pv 2) (pe_op op_mod (pe_op op_fdiv (pe_call (ok__law_mixed T) hr (by rfl) T.g__law_mixed T.F__law_mixed.kp T.b__law_mixed .nil pass0 (pa_cons (pv 0) (pa_cons (pv 4) pa_nil))) pe_int) pe_int) (fun _ _ => rfl))))))
      (pss_one (ps_ret (pv 3)))))), ?_⟩
    refine ⟨_, rfl, _, rfl, by omega, by omega, for_range (lo := 0) (n := n) (fun i σ H' => H' = H ∧ ∃ v, σ = [some (.int c), some (.int n), some (.str (tx alph)), some (.str (tx (text c i))), v]) ⟨rfl, _, by rw [alph_tx, nil_tx]; rfl⟩ ?_ ?_⟩
    · rintro i σ H1 hi ⟨rfl, v, rfl⟩
      refine ⟨_, rfl, _, rfl, _, rfl, _, rfl, _, _, rfl, ?_⟩
      have hb := mixed_lo c (0 + (i : Int))
      refine ⟨_, _, rfl, rfl, ⟨by decide, by decide⟩, _, _, rfl, rfl, (by show (0 : Int) < 36; decide), ?_⟩
      have e0 : (0 + (i : Int)) = (i : Int) := by omega
      rw [e0]
      have ha : atI alph (mixed c i / 31 % 36) = some (sign c i) := by
        have h0 : 0 ≤ mixed c i / 31 % 36 := Int.emod_nonneg _ (by decide)
        have e : (mixed c i / 31 % 36) = (((mixed c i / 31 % 36).toNat : Nat) : Int) := by omega
        rw [e]
        exact atI_nat (sign_at c i)
      refine ⟨_, _, sign c i, rfl, rfl, (by rw [tx_len]; decide), (by simpa using ha), _, _, rfl, rfl, (by
        rw [tx_len, text_len]
        show i + 1 ≤ sizeLine
        exact Nat.le_of_lt (small1000 (by omega))), ?_⟩
      refine ⟨rfl, some (.int (i : Int)), ?_⟩
      have e2 : tx (text c i) ++ ⟨#[sign c i]⟩ = tx (text c (i + 1)) := by
        rw [text_succ, ← tx_app]
      rw [e2]
      rfl
    · rintro σ H1 ⟨rfl, v, rfl⟩
      exact ⟨_, rfl, k⟩
theorem ok__law_spoilt (T : Tx K mg A) : FnOk P w K mg base CX0 1 A.a__law_spoilt A.d__law_spoilt ["_law_text_here", "_law_cell"] sp__law_spoilt := by
  refine T.F__law_spoilt.ok sc__law_spoilt (fun vs H Q E h => ?_) (fun cdv Ar outer s H vs Q E hr h => ?_)
  · obtain ⟨l, c, rfl, _⟩ := h
    rfl
  · obtain ⟨l, c, rfl, hl, hc, k⟩ := h
    refine ⟨_, 
      (pss_cons (ps_set (i := 2) sc__law_spoilt.nd rfl (Or.inl rfl) pe_str)
      (pss_cons (ps_set (i := 3) sc__law_spoilt.nd rfl (Or.inl rfl) (pe_op op_mod (pv 1) (pe_op op_add (pe_callB call_len_str (by rfl) T.m_len PySem.boot_len (pa_cons (pv 0) pa_nil)) pe_int)))
      (pss_cons (ps_set (i := 4) sc__law_spoilt.nd rfl (Or.inl rfl) (pe_ix ix_str (pv 2) (pe_op op_mod (pe_op op_fdiv (pv 1) pe_int) (pe_callB call_len_str (by rfl) T.m_len PySem.boot_len (pa_cons (pv 2) pa_nil))) (fun _ _ => rfl)))
      (pss_one (ps_ret (pe_op op_add_str (pe_op op_add_str (pe_slice sl_str (pv 0) po_none (po_some (pv 3))) (pv 4)) (pe_slice sl_str (pv 0) (po_some (pe_op op_add (pv 3) (pe_op op_mod (pe_op op_fdiv (pv 1) pe_int) pe_int))) po_none))))))), ?_⟩
    have hz : (tx l).length ≤ sizeLine := by
      rw [tx_len]
      exact Nat.le_of_lt (small1000 (by omega))
    refine ⟨_, rfl, _, rfl, _, rfl, hz, _, _, rfl, rfl, _, _, rfl, rfl, (by show (0 : Int) < (tx l).length + 1; omega), ?_⟩
    have a0 : 0 ≤ c % (((tx l).length : Int) + 1) := Int.emod_nonneg _ (by omega)
    have a1 : c % (((tx l).length : Int) + 1) < (tx l).length + 1 := Int.emod_lt_of_pos _ (by omega)
    obtain ⟨at_, eA⟩ : ∃ at_ : Nat, c % (((tx l).length : Int) + 1) = (at_ : Int) := ⟨(c % (((tx l).length : Int) + 1)).toNat, by omega⟩
    rw [eA, tx_len] at a1
    have hO : (0 : Int) < (((" !\"#$&'()*+,-./:;<=>?@ABCDEFGHIJKLMNOPQRSTUVWXYZ[\\]^_`{|}~\n\t" : Str).length : Nat) : Int) := by decide +kernel
    obtain ⟨d, hd⟩ := at_in " !\"#$&'()*+,-./:;<=>?@ABCDEFGHIJKLMNOPQRSTUVWXYZ[\\]^_`{|}~\n\t" (c / 17) (by decide +kernel)
    refine ⟨_, rfl, _, rfl, _, _, rfl, rfl, ⟨by decide, by decide⟩, _, rfl, _, rfl, (by decide +kernel), _, _, rfl, rfl, hO, _, _, d, rfl, rfl, (by decide +kernel), hd, ?_⟩
    have b0 : 0 ≤ c / 1700 % 2 := Int.emod_nonneg _ (by decide)
    have b1 : c / 1700 % 2 < 2 := Int.emod_lt_of_pos _ (by decide)
    have eB : c % (((tx l).length : Int) + 1) + c / 1700 % 2 = ((at_ + (c / 1700 % 2).toNat : Nat) : Int) := by omega
    refine ⟨_, rfl, _, rfl, _, rfl, _, rfl, hz, _, rfl, _, _, rfl, rfl, ?_, ?_⟩
    · show (cutS (tx l) none (some (c % (((tx l).length : Int) + 1)))).length + (⟨#[d]⟩ : Str).length ≤ sizeLine
      rw [eA, cut_lo, tx_len, List.length_take]
      show min at_ l.length + 1 ≤ sizeLine
      exact Nat.le_of_lt (small1000 (by omega))
    refine ⟨_, rfl, _, rfl, _, rfl, _, _, rfl, rfl, ⟨by decide, by decide⟩, _, _, rfl, rfl, (by show (0 : Int) < 2; decide), _, _, rfl, rfl, _, rfl, _, rfl, hz, _, _, rfl, rfl, ?_, ?_⟩
    · show (cutS (tx l) none (some (c % (((tx l).length : Int) + 1))) ++ (⟨#[d]⟩ : Str)).length + (cutS (tx l) (some (c % (((tx l).length : Int) + 1) + c / 1700 % 2)) none).length ≤ sizeLine
      have e1 : (⟨#[d]⟩ : Str) = tx [d] := rfl
      rw [eB, eA, cut_lo, cut_hi, e1, tx_app, tx_len, tx_len]
      rw [List.length_append, List.length_take, List.length_drop]
      exact Nat.le_of_lt (small1000 (by simp; omega))
    · show Q (V.str (cutS (tx l) none (some (c % (((tx l).length : Int) + 1))) ++ (⟨#[d]⟩ : Str) ++ cutS (tx l) (some (c % (((tx l).length : Int) + 1) + c / 1700 % 2)) none)) H
      have e1 : (⟨#[d]⟩ : Str) = tx [d] := rfl
      rw [eB, eA, cut_lo, cut_hi, e1, tx_app, tx_app]
      refine k _ ?_
      rw [List.length_append, List.length_append, List.length_take, List.length_drop]
      simp
      omega
theorem ok__law_of (T : Tx K mg A) : FnOk P w K mg base CX0 1 A.a__law_of A.d__law_of ["_law_cell", "_law_most"] sp__law_of := by
  refine T.F__law_of.ok sc__law_of (fun vs H Q E h => ?_) (fun cdv Ar outer s H vs Q E hr h => ?_)
  · obtain ⟨c, m, rfl, _⟩ := h
    rfl
  · obtain ⟨c, m, rfl, hm, k⟩ := h
    refine ⟨_, 
      (pss_one (ps_ret (pe_ix ix_list (pe_lst (pa_cons pe_int (pa_cons pe_int (pa_cons (pv 1) (pa_cons (pe_op op_add pe_int (pe_op op_mod (pe_op op_fdiv (pv 0) pe_int) (pv 1))) (pa_cons (pe_op op_add pe_int (pe_op op_mod (pe_op op_fdiv (pv 0) pe_int) (pv 1))) pa_nil)))))) (pe_op op_mod (pv 0) pe_int) (fun _ _ => rfl)))), ?_⟩
    have hm0 : 0 < m := by omega
    obtain ⟨x, hx, x1, x2⟩ := of_in (c / 5) m hm (c % 5) (Int.emod_nonneg _ (by decide)) (Int.emod_lt_of_pos _ (by decide))
    refine ⟨_, rfl, _, rfl, _, _, rfl, rfl, ⟨by decide, by decide⟩, _, rfl, _, _, rfl, rfl, hm0, _, _, rfl, rfl, _, rfl, _, _, rfl, rfl, ⟨by decide, by decide⟩, _, rfl, _, _, rfl, rfl, hm0, _, _, rfl, rfl, (by show 5 ≤ sizeLine; decide), fun p hp => ?_⟩
    refine ⟨_, rfl, _, _, rfl, rfl, (by show (0 : Int) < 5; decide), p, _, _, _, rfl, rfl, SqL.of upd_same, hx, ?_⟩
    exact k x _ (fun b o e => by rw [upd_ne (ne_of_none e hp)]; exact e) x1 x2
theorem ok_law (T : Tx K mg A) : FnOk P w K mg base CX0 3 A.a_law A.d_law ["_law_script"] (sp_law K) := by
  refine T.F_law.ok sc_law (fun vs H Q E h => ?_) (fun cdv Ar outer s H vs Q E hr h => ?_)
  · obtain ⟨a, ns, rfl, _⟩ := h
    rfl
  · obtain ⟨a, ns, rfl, hS, hlen, k⟩ := h
    refine ⟨_, 
      (pss_cons (ps_set (i := 1) sc_law.nd rfl (Or.inl rfl) (pe_call (ok__law_text T) hr (by rfl) T.g__law_text T.F__law_text.kp T.b__law_text .nil pass0 (pa_cons (pe_call (ok__law_cell_at T) (hr.mono (by decide)) (by rfl) T.g__law_cell_at T.F__law_cell_at.kp T.b__law_cell_at .nil pass0 (pa_cons (pv 0) (pa_cons pe_int pa_nil))) (pa_cons (pe_op op_mod (pe_call (ok__law_cell_at T) (hr.mono (by decide)) (by rfl) T.g__law_cell_at T.F__law_cell_at.kp T.b__law_cell_at .nil pass0 (pa_cons (pv 0) (pa_cons pe_int pa_nil))) pe_int) pa_nil))))
      (C8.pss_cut (ps_if (pt_cmpR op_eq (pe_op op_mod (pe_call (ok__law_cell_at T) (hr.mono (by decide)) (by rfl) T.g__law_cell_at T.F__law_cell_at.kp T.b__law_cell_at .nil pass0 (pa_cons (pv 0) (pa_cons pe_int pa_nil))) pe_int) pe_int (nomark _)) 
        (pss_one (ps_set (i := 1) sc_law.nd rfl (Or.inl rfl) (pe_call (ok__law_spoilt T) (hr.mono (by decide)) (by rfl) T.g__law_spoilt T.F__law_spoilt.kp T.b__law_spoilt .nil pass0 (pa_cons (pv 1) (pa_cons (pe_call (ok__law_mixed T) (hr.mono (by decide)) (by rfl) T.g__law_mixed T.F__law_mixed.kp T.b__law_mixed .nil pass0 (pa_cons (pe_call (ok__law_cell_at T) (hr.mono (by decide)) (by rfl) T.g__law_cell_at T.F__law_cell_at.kp T.b__law_cell_at .nil pass0 (pa_cons (pv 0) (pa_cons pe_int pa_nil))) (pa_cons pe_int pa_nil))) pa_nil))))) pss_nil)
      (C8.pss_cut (ps_set (i := 2) sc_law.nd rfl (Or.inl rfl) (pe_and (pe_cmpR op_le pe_int (pe_callB call_len_str (by rfl) T.m_len PySem.boot_len (pa_cons (pv 1) pa_nil)) (nomark _)) (pe_one (pe_cmpR op_le (pe_callB call_len_str (by rfl) T.m_len PySem.boot_len (pa_cons (pv 1) pa_nil)) pe_int (nomark _)))))
      (pss_cons (ps_for PassesOwn.never rfl (pi_str (pv 1)) (pg_name (i := 3) sc_law.nd rfl (Or.inl rfl)) 
        (pss_one (ps_if (pt_cmpR op_notIn_sign (pv 3) pe_str rfl) 
          (pss_one (ps_set (i := 2) sc_law.nd rfl (Or.inl rfl) pe_bl)) pss_nil)))
      (pss_cons (ps_set (i := 4) sc_law.nd rfl (Or.inl rfl) (pe_call (ok_is_name T) (hr.mono (by decide)) (by rfl) T.g_is_name T.F_is_name.kp T.b_is_name .nil pass0 (pa_cons (pv 1) pa_nil)))
      (pss_cons (ps_if (PW.pt (pw_or (pt_not (pt_val (pe_callB call_isi (by rfl) T.m_isinstance (by decide +kernel) (pa_cons (pv 4) (pa_cons (pe_bltn (v := .ty "bool") (u := .type "bool") (by rfl) T.m_bool (by decide +kernel) rfl) pa_nil))))) (pw_or1 (pt_cmpR op_ne (pv 4) (pv 2) (nomark _))))) 
        (pss_one (ps_ret pe_bl)) pss_nil)
      (pss_cons (ps_set (i := 5) sc_law.nd rfl (Or.inl rfl) (pe_call (ok__law_text T) hr (by rfl) T.g__law_text T.F__law_text.kp T.b__law_text .nil pass0 (pa_cons (pe_call (ok__law_cell_at T) (hr.mono (by decide)) (by rfl) T.g__law_cell_at T.F__law_cell_at.kp T.b__law_cell_at .nil pass0 (pa_cons (pv 0) (pa_cons pe_int pa_nil))) (pa_cons (pe_op op_add pe_int (pe_op op_mod (pe_call (ok__law_cell_at T) (hr.mono (by decide)) (by rfl) T.g__law_cell_at T.F__law_cell_at.kp T.b__law_cell_at .nil pass0 (pa_cons (pv 0) (pa_cons pe_int pa_nil))) pe_int)) pa_nil))))
      (pss_cons (ps_set (i := 6) sc_law.nd rfl (Or.inl rfl) (pe_call (ok__law_of T) (hr.mono (by decide)) (by rfl) T.g__law_of T.F__law_of.kp T.b__law_of .nil pass0 (pa_cons (pe_call (ok__law_mixed T) (hr.mono (by decide)) (by rfl) T.g__law_mixed T.F__law_mixed.kp T.b__law_mixed .nil pass0 (pa_cons (pe_call (ok__law_cell_at T) (hr.mono (by decide)) (by rfl) T.g__law_cell_at T.F__law_cell_at.kp T.b__law_cell_at .nil pass0 (pa_cons (pv 0) (pa_cons pe_int pa_nil))) (pa_cons pe_int pa_nil))) (pa_cons pe_int pa_nil))))
      (pss_cons (ps_set (i := 7) sc_law.nd rfl (Or.inl rfl) (pe_call (ok__law_of T) (hr.mono (by decide)) (by rfl) T.g__law_of T.F__law_of.kp T.b__law_of .nil pass0 (pa_cons (pe_call (ok__law_mixed T) (hr.mono (by decide)) (by rfl) T.g__law_mixed T.F__law_mixed.kp T.b__law_mixed .nil pass0 (pa_cons (pe_call (ok__law_cell_at T) (hr.mono (by decide)) (by rfl) T.g__law_cell_at T.F__law_cell_at.kp T.b__law_cell_at .nil pass0 (pa_cons (pv 0) (pa_cons pe_int pa_nil))) (pa_cons pe_int pa_nil))) (pa_cons pe_int pa_nil))))
      (pss_cons (ps_set (i := 8) sc_law.nd rfl (Or.inl rfl) pe_str)
      (pss_cons (ps_set (i := 9) sc_law.nd rfl (Or.inl rfl) pe_int)
      (pss_cons (ps_for PassesOwn.never rfl (pi_str (pv 5)) (pg_name (i := 3) sc_law.nd rfl (Or.inl rfl)) 
        (pss_one (ps_set (i := 9) sc_law.nd rfl (Or.inl rfl) (pe_op op_mod (pe_op op_add (pe_op op_add (pe_op op_mul (pv 9) (pv 6)) (pe_m1 PySem.F.slot_str_index PySem.F.type_str_index mt_sindex (pv 8) (pv 3))) pe_int) (pv 7)))))
      (pss_cons (ps_set (i := 10) sc_law.nd rfl (Or.inl rfl) (pe_call (ok_home T) (hr.mono (by decide)) (by rfl) T.g_home T.F_home.kp T.b_home .nil pass0 (pa_cons (pv 5) (pa_cons (pv 6) (pa_cons (pv 7) pa_nil)))))
      (pss_one (ps_ret (pe_and (pe_callB call_isi (by rfl) T.m_isinstance (by decide +kernel) (pa_cons (pv 10) (pa_cons (pe_bltn (v := .ty "int") (u := .type "int") (by rfl) T.m_int (by decide +kernel) rfl) pa_nil))) (pe_and (pe_not (pe_callB call_isi (by rfl) T.m_isinstance (by decide +kernel) (pa_cons (pv 10) (pa_cons (pe_bltn (v := .ty "bool") (u := .type "bool") (by rfl) T.m_bool (by decide +kernel) rfl) pa_nil)))) (pe_one (pe_cmpR op_eq (pv 10) (pv 9) (nomark _)))))))))))))))))))), ?_⟩
    obtain ⟨n1, e1⟩ : ∃ n : Nat, ns.getD 1 0 % 15 = (n : Int) := ⟨(ns.getD 1 0 % 15).toNat, by omega⟩
    have b1 : n1 ≤ 15 := by omega
    refine ⟨_, rfl, a, ns, 0, rfl, hS, _, rfl, a, ns, 1, rfl, hS, _, _, rfl, rfl, (by show (0 : Int) < 15; decide), ns.getD 0 0, n1, (by show [V.int _, V.int (ns.getD 1 0 % 15)] = _; rw [e1]), by omega, ?_⟩
    -- a text of at most 100 signs
    refine ⟨fun σ H' => H' = H ∧ ∃ l : List Nat, l.length ≤ 100 ∧ σ = [some (.ref a), some (.str (tx l)), none, none, none, none, none, none, none, none, none], ?_, ?_⟩
    · refine ⟨_, rfl, a, ns, 2, rfl, hS, _, _, rfl, rfl, (by show (0 : Int) < 2; decide), rfl, _, rfl, ?_⟩
      refine ite2 (fun _ => ?_) (fun _ => ?_)
      · refine ⟨_, rfl, _, rfl, a, ns, 2, rfl, hS, _, _, rfl, _, _, rfl, (by rw [text_len]; omega), mixed_lo _ _, fun l' hl' => ?_⟩
        rw [text_len] at hl'
        exact ⟨rfl, l', by omega, rfl⟩
      · exact ⟨rfl, _, by rw [text_len]; omega, rfl⟩
    rintro σ H' ⟨rfl, l, hl, rfl⟩
    have hz : (tx l).length ≤ sizeLine := by
      rw [tx_len]
      exact Nat.le_of_lt (small1000 (by omega))
    have hN : isN l = ((decide ((1 : Int) ≤ ((tx l).length : Nat)) && decide (((tx l).length : Int) ≤ 12)) && l.all fun c => decide (c ∈ alph)) := by
      rw [tx_len]
      exact isN_eq l
    generalize hd : (decide ((1 : Int) ≤ ((tx l).length : Nat)) && decide (((tx l).length : Int) ≤ 12)) = due at hN
    refine ⟨fun σ H1 => H1 = H' ∧ σ = [some (.ref a), some (.str (tx l)), some (.bl due), none, none, none, none, none, none, none, none], ?_, ?_⟩
    · refine ⟨_, rfl, _, rfl, hz, _, _, rfl, rfl, _, rfl, ?_⟩
      refine ite2 (fun h1 => ?_) (fun h1 => ?_)
      · rw [h1, Bool.true_and] at hd
        refine ⟨_, rfl, _, rfl, hz, _, _, rfl, rfl, rfl, ?_⟩
        rw [← hd]
        rfl
      · have h1' : decide ((1 : Int) ≤ ((tx l).length : Nat)) = false := by simpa using h1
        rw [h1', Bool.false_and] at hd
        refine ⟨rfl, ?_⟩
        rw [← hd]
        rfl
    rintro σ H1 ⟨rfl, rfl⟩
    -- the loop over the signs
    refine ⟨_, rfl, _, rfl, for_it walk_str (fun i σ H' => H' = H1 ∧ ∃ v, σ = [some (.ref a), some (.str (tx l)), some (.bl (due && (l.take i).all fun c => decide (c ∈ alph))), v, none, none, none, none, none, none, none]) ⟨rfl, none, by simp⟩ (fun _ _ _ _ _ => trivial) ?_ ?_⟩
    · rintro i x σ H2 H3 hi ⟨rfl, v, rfl⟩ ⟨rfl, c, hc, rfl⟩
      refine ⟨_, rfl, c, _, rfl, rfl, _, rfl, ?_⟩
      rw [alph_tx]
      have et : ((l.take (i + 1)).all fun c => decide (c ∈ alph)) = (((l.take i).all fun c => decide (c ∈ alph)) && decide (c ∈ alph)) := by
        rw [take_snoc hc, List.all_append]
        simp
      refine ite2 (fun e5 => ?_) (fun e5 => ?_)
      · have e6 : c ∉ alph := by simpa using e5
        refine ⟨rfl, some (.str ⟨#[c]⟩), ?_⟩
        rw [et, decide_eq_false e6, Bool.and_false, Bool.and_false]
        rfl
      · have e6 : c ∈ alph := by simpa using e5
        refine ⟨rfl, some (.str ⟨#[c]⟩), ?_⟩
        rw [et, decide_eq_true e6, Bool.and_true]
        rfl
    · rintro σ H2 ⟨rfl, v, rfl⟩
      have hs : (tx l).cps.size = l.length := tx_len l
      rw [hs, List.take_length, ← hN]
      -- found
      refine ⟨_, rfl, l, rfl, by omega, ?_⟩
      refine ⟨_, rfl, _, _, _, _, true, rfl, .ty _, .base (.bl _), kit_ty (by decide +kernel), _, rfl, iteF ?_⟩
      refine ⟨_, rfl, _, rfl, rfl, _, rfl, ?_⟩
      rw [decide_eq_true rfl]
      refine iteF ?_
      -- the name
      obtain ⟨n2, e2⟩ : ∃ n : Nat, 1 + ns.getD 4 0 % 12 = (n : Int) := ⟨(1 + ns.getD 4 0 % 12).toNat, by omega⟩
      have b2 : n2 ≤ 12 := by omega
      refine ⟨_, rfl, a, ns, 3, rfl, hS, _, rfl, a, ns, 4, rfl, hS, _, _, rfl, rfl, (by show (0 : Int) < 12; decide), _, _, rfl, rfl, ns.getD 3 0, n2, (by show [V.int _, V.int (1 + ns.getD 4 0 % 12)] = _; rw [e2]), by omega, ?_⟩
      have hin := text_in (ns.getD 3 0) n2
      generalize text (ns.getD 3 0) n2 = l2 at hin
      -- times, count
      refine ⟨_, rfl, a, ns, 5, rfl, hS, _, _, rfl, _, _, rfl, by decide, fun tm H3 s3 _ _ => ?_⟩
      refine ⟨_, rfl, a, ns, 6, rfl, s3.seq hS, _, _, rfl, _, _, rfl, by decide, fun m H4 s4 m1 m2 => ?_⟩
      -- the loop again
      refine ⟨_, rfl, _, rfl, for_it walk_str (fun i σ H' => H' = H4 ∧ ∃ v, σ = [some (.ref a), some (.str (tx l)), some (.bl (isN l)), v, some (.bl (isN l)), some (.str (tx l2)), some (.int tm), some (.int m), some (.str (tx alph)), some (.int (homeN tm m (l2.take i) 0)), none]) ⟨rfl, _, by rw [alph_tx]; rfl⟩ (fun _ _ _ _ _ => trivial) ?_ ?_⟩
      · rintro i x σ H5 H6 hi ⟨rfl, v, rfl⟩ ⟨rfl, c, hc, rfl⟩
        have hb := homeN_in tm m (by omega) (l2.take i) 0 (by omega) (by omega)
        refine ⟨_, rfl, _, rfl, _, _, rfl, rfl, .inl ⟨by omega, by omega⟩, _, rfl, ⟨_, rfl⟩, _, rfl, _, _, idx c, [], rfl, rfl, occ_at (hin c (mem_at hc)), _, _, rfl, rfl, _, _, rfl, rfl, _, rfl, _, _, rfl, rfl, (by show 0 < m; omega), ?_⟩
        refine ⟨rfl, some (.str ⟨#[c]⟩), ?_⟩
        rw [take_snoc hc, homeN_snoc]
        rfl
      · rintro σ H5 ⟨rfl, v, rfl⟩
        have hs2 : (tx l2).cps.size = l2.length := tx_len l2
        rw [hs2, List.take_length]
        refine ⟨_, rfl, _, rfl, _, rfl, l2, tm, m, rfl, hin, by omega, by omega, ?_⟩
        refine ⟨_, rfl, _, _, _, _, true, rfl, .ty _, .base (.int _), kit_ty (by decide +kernel), true, rfl, iteT ?_⟩
        refine ⟨_, rfl, _, _, _, _, false, rfl, .ty _, .base (.int _), kit_ty (by decide +kernel), false, rfl, true, rfl, iteT ?_⟩
        refine ⟨_, rfl, _, rfl, rfl, ?_⟩
        show Q (V.bl (decide _)) _
        rw [decide_eq_true rfl]
        exact k _
end
theorem all_mk {l : PySem.W.OpenLaw} {w : World} {K : PySem.W.Frag} {h : Heap} {mg : Str → Option Value} {fa : Addr} (X : K.In h) (G : h.Ns mainGlobals mg) (hfa : mg "law" = some (.ref fa))
    {f_is_name f_home f__law_cell_at f__law_mixed f__law_text f__law_spoilt f__law_of f_law : Addr}
    {od_is_name an_is_name od_home an_home od__law_cell_at an__law_cell_at od__law_mixed an__law_mixed od__law_text an__law_text od__law_spoilt an__law_spoilt od__law_of an__law_of od_law an_law : Option Addr} {sl_is_name sl_home sl__law_cell_at sl__law_mixed sl__law_text sl__law_spoilt sl__law_of sl_law : Array (Option Value)}
    {oc_is_name kV_is_name dc_is_name pm_is_name cd_is_name ct_is_name oc_home kV_home dc_home pm_home cd_home ct_home oc__law_cell_at kV__law_cell_at dc__law_cell_at pm__law_cell_at cd__law_cell_at ct__law_cell_at oc__law_mixed kV__law_mixed dc__law_mixed pm__law_mixed cd__law_mixed ct__law_mixed oc__law_text kV__law_text dc__law_text pm__law_text cd__law_text ct__law_text oc__law_spoilt kV__law_spoilt dc__law_spoilt pm__law_spoilt cd__law_spoilt ct__law_spoilt oc__law_of kV__law_of dc__law_of pm__law_of cd__law_of ct__law_of oc_law kV_law dc_law pm_law cd_law ct_law : Value}
    {t_LONGEST t_SIGNS : Tok}
    (a_is_name : PySem.W.nsIn K mainGlobals "is_name" = some (some (.ref f_is_name))) (l_is_name : K.lookup f_is_name = some ⟨oc_is_name, od_is_name, .func (PySem.W.fnOf "is_name" "is_name" (defArgs s_is_name) (defBody s_is_name) (defScope s_is_name) .none kV_is_name dc_is_name pm_is_name an_is_name cd_is_name ct_is_name), sl_is_name⟩) (c_is_name : PySem.W.codeIn K cd_is_name "is_name" = true) (k_is_name : PySem.W.keepIn K (.ref f_is_name) = true)
    (a_home : PySem.W.nsIn K mainGlobals "home" = some (some (.ref f_home))) (l_home : K.lookup f_home = some ⟨oc_home, od_home, .func (PySem.W.fnOf "home" "home" (defArgs s_home) (defBody s_home) (defScope s_home) .none kV_home dc_home pm_home an_home cd_home ct_home), sl_home⟩) (c_home : PySem.W.codeIn K cd_home "home" = true) (k_home : PySem.W.keepIn K (.ref f_home) = true)
    (a__law_cell_at : PySem.W.nsIn K mainGlobals "_law_cell_at" = some (some (.ref f__law_cell_at))) (l__law_cell_at : K.lookup f__law_cell_at = some ⟨oc__law_cell_at, od__law_cell_at, .func (PySem.W.fnOf "_law_cell_at" "_law_cell_at" (defArgs s__law_cell_at) (defBody s__law_cell_at) (defScope s__law_cell_at) .none kV__law_cell_at dc__law_cell_at pm__law_cell_at an__law_cell_at cd__law_cell_at ct__law_cell_at), sl__law_cell_at⟩) (c__law_cell_at : PySem.W.codeIn K cd__law_cell_at "_law_cell_at" = true) (k__law_cell_at : PySem.W.keepIn K (.ref f__law_cell_at) = true)
    (a__law_mixed : PySem.W.nsIn K mainGlobals "_law_mixed" = some (some (.ref f__law_mixed))) (l__law_mixed : K.lookup f__law_mixed = some ⟨oc__law_mixed, od__law_mixed, .func (PySem.W.fnOf "_law_mixed" "_law_mixed" (defArgs s__law_mixed) (defBody s__law_mixed) (defScope s__law_mixed) .none kV__law_mixed dc__law_mixed pm__law_mixed an__law_mixed cd__law_mixed ct__law_mixed), sl__law_mixed⟩) (c__law_mixed : PySem.W.codeIn K cd__law_mixed "_law_mixed" = true) (k__law_mixed : PySem.W.keepIn K (.ref f__law_mixed) = true)
    (a__law_text : PySem.W.nsIn K mainGlobals "_law_text" = some (some (.ref f__law_text))) (l__law_text : K.lookup f__law_text = some ⟨oc__law_text, od__law_text, .func (PySem.W.fnOf "_law_text" "_law_text" (defArgs s__law_text) (defBody s__law_text) (defScope s__law_text) .none kV__law_text dc__law_text pm__law_text an__law_text cd__law_text ct__law_text), sl__law_text⟩) (c__law_text : PySem.W.codeIn K cd__law_text "_law_text" = true) (k__law_text : PySem.W.keepIn K (.ref f__law_text) = true)
    (a__law_spoilt : PySem.W.nsIn K mainGlobals "_law_spoilt" = some (some (.ref f__law_spoilt))) (l__law_spoilt : K.lookup f__law_spoilt = some ⟨oc__law_spoilt, od__law_spoilt, .func (PySem.W.fnOf "_law_spoilt" "_law_spoilt" (defArgs s__law_spoilt) (defBody s__law_spoilt) (defScope s__law_spoilt) .none kV__law_spoilt dc__law_spoilt pm__law_spoilt an__law_spoilt cd__law_spoilt ct__law_spoilt), sl__law_spoilt⟩) (c__law_spoilt : PySem.W.codeIn K cd__law_spoilt "_law_spoilt" = true) (k__law_spoilt : PySem.W.keepIn K (.ref f__law_spoilt) = true)
    (a__law_of : PySem.W.nsIn K mainGlobals "_law_of" = some (some (.ref f__law_of))) (l__law_of : K.lookup f__law_of = some ⟨oc__law_of, od__law_of, .func (PySem.W.fnOf "_law_of" "_law_of" (defArgs s__law_of) (defBody s__law_of) (defScope s__law_of) .none kV__law_of dc__law_of pm__law_of an__law_of cd__law_of ct__law_of), sl__law_of⟩) (c__law_of : PySem.W.codeIn K cd__law_of "_law_of" = true) (k__law_of : PySem.W.keepIn K (.ref f__law_of) = true)
    (a_law : PySem.W.nsIn K mainGlobals "law" = some (some (.ref f_law))) (l_law : K.lookup f_law = some ⟨oc_law, od_law, .func (PySem.W.fnOf "law" "law" (defArgs s_law) (defBody s_law) (defScope s_law) .none kV_law dc_law pm_law an_law cd_law ct_law), sl_law⟩) (c_law : PySem.W.codeIn K cd_law "law" = true) (k_law : PySem.W.keepIn K (.ref f_law) = true)
    (u_LONGEST : PySem.W.nsIn K mainGlobals "LONGEST" = some (some (.int 12 t_LONGEST)))
    (u_SIGNS : PySem.W.nsIn K mainGlobals "SIGNS" = some (some (.str "abcdefghijklmnopqrstuvwxyz0123456789" t_SIGNS)))
    (z_bool : PySem.W.nsIn K mainGlobals "bool" = some none)
    (z_int : PySem.W.nsIn K mainGlobals "int" = some none)
    (z_isinstance : PySem.W.nsIn K mainGlobals "isinstance" = some none)
    (z_len : PySem.W.nsIn K mainGlobals "len" = some none)
    (z_range : PySem.W.nsIn K mainGlobals "range" = some none)
    : ∃ fd : FuncData, (∀ (s : Shared) (v : Value), BindsTo s fd ⟨[v], []⟩ [("_law_script", v)]) ∧ ∀ base : Heap, K.In base → base.Ns mainGlobals mg → FnOk l.prog w K mg base CX0 3 fa fd ["_law_script"] (sp_law K) := by
  have e := hfa.symm.trans (PySem.W.mg_of X G a_law)
  cases e
  have F_is_name := fun_mk (st := s_is_name) l_is_name c_is_name k_is_name
  have b_is_name := F_is_name.binds (ps := ["name"]) fun _ _ _ _ _ _ us hl => match us, hl with | [_], _ => rfl
  have F_home := fun_mk (st := s_home) l_home c_home k_home
  have b_home := F_home.binds (ps := ["name", "times", "count"]) fun _ _ _ _ _ _ us hl => match us, hl with | [_, _, _], _ => rfl
  have F__law_cell_at := fun_mk (st := s__law_cell_at) l__law_cell_at c__law_cell_at k__law_cell_at
  have b__law_cell_at := F__law_cell_at.binds (ps := ["_law_script", "_law_k"]) fun _ _ _ _ _ _ us hl => match us, hl with | [_, _], _ => rfl
  have F__law_mixed := fun_mk (st := s__law_mixed) l__law_mixed c__law_mixed k__law_mixed
  have b__law_mixed := F__law_mixed.binds (ps := ["_law_cell", "_law_k"]) fun _ _ _ _ _ _ us hl => match us, hl with | [_, _], _ => rfl
  have F__law_text := fun_mk (st := s__law_text) l__law_text c__law_text k__law_text
  have b__law_text := F__law_text.binds (ps := ["_law_cell", "_law_size"]) fun _ _ _ _ _ _ us hl => match us, hl with | [_, _], _ => rfl
  have F__law_spoilt := fun_mk (st := s__law_spoilt) l__law_spoilt c__law_spoilt k__law_spoilt
  have b__law_spoilt := F__law_spoilt.binds (ps := ["_law_text_here", "_law_cell"]) fun _ _ _ _ _ _ us hl => match us, hl with | [_, _], _ => rfl
  have F__law_of := fun_mk (st := s__law_of) l__law_of c__law_of k__law_of
  have b__law_of := F__law_of.binds (ps := ["_law_cell", "_law_most"]) fun _ _ _ _ _ _ us hl => match us, hl with | [_, _], _ => rfl
  have F_law := fun_mk (st := s_law) l_law c_law k_law
  have b_law := F_law.binds (ps := ["_law_script"]) fun _ _ _ _ _ _ us hl => match us, hl with | [_], _ => rfl
  have T : Tx K mg ⟨f_is_name, _, f_home, _, f__law_cell_at, _, f__law_mixed, _, f__law_text, _, f__law_spoilt, _, f__law_of, _, fa, _, t_LONGEST, t_SIGNS⟩ := ⟨F_is_name, PySem.W.mg_of X G a_is_name, b_is_name, F_home, PySem.W.mg_of X G a_home, b_home, F__law_cell_at, PySem.W.mg_of X G a__law_cell_at, b__law_cell_at, F__law_mixed, PySem.W.mg_of X G a__law_mixed, b__law_mixed, F__law_text, PySem.W.mg_of X G a__law_text, b__law_text, F__law_spoilt, PySem.W.mg_of X G a__law_spoilt, b__law_spoilt, F__law_of, PySem.W.mg_of X G a__law_of, b__law_of, F_law, PySem.W.mg_of X G a_law, b_law, PySem.W.mg_of X G u_LONGEST, PySem.W.mg_of X G u_SIGNS, PySem.W.mg_none_of X G z_bool, PySem.W.mg_none_of X G z_int, PySem.W.mg_none_of X G z_isinstance, PySem.W.mg_none_of X G z_len, PySem.W.mg_none_of X G z_range⟩
  exact ⟨_, fun s v => .of_eq rfl, fun base _ _ => ok_law T⟩
end K1
open PySem PySem.W PyProof.Rows
set_option maxRecDepth 100000 in
set_option maxHeartbeats 0 in
theorem PySem.Challenge.cw_twonests_k01_names_and_homes_holds : PySem.Challenge.rw_twonests_k01_names_and_homes.Holds := by
  w_on; o_law; k_head; (case hw => w_witness2)
  k_fill
  refine L2.walk_of (l := PySem.Challenge.rw_twonests_k01_names_and_homes) (n := 63) (k := 3) (x := "_law_script") (CX := fun _ => L2.CX0) (sp := fun w => K1.sp_law _) rfl (by decide) rfl ⟨rfl, by decide, by decide⟩ (fun w h Y => PySem.W.kIn_of Y) ?F (fun _ _ a ns hl _ hS => ⟨a, ns, rfl, hS, hl, fun _ => rfl⟩) (fun _ _ _ _ _ h => h)
  case F =>
    intro w mg fa h KX G hmg
    refine' K1.all_mk KX G hmg ?a_is_name ?l_is_name ?c_is_name ?k_is_name ?a_home ?l_home ?c_home ?k_home ?a__law_cell_at ?l__law_cell_at ?c__law_cell_at ?k__law_cell_at ?a__law_mixed ?l__law_mixed ?c__law_mixed ?k__law_mixed ?a__law_text ?l__law_text ?c__law_text ?k__law_text ?a__law_spoilt ?l__law_spoilt ?c__law_spoilt ?k__law_spoilt ?a__law_of ?l__law_of ?c__law_of ?k__law_of ?a_law ?l_law ?c_law ?k_law ?u_LONGEST ?u_SIGNS ?z_bool ?z_int ?z_isinstance ?z_len ?z_range
    (case a_is_name => k_is)
    (case l_is_name => k_is)
    (case c_is_name => k_is)
    (case k_is_name => k_is)
    (case a_home => k_is)
    (case l_home => k_is)
    (case c_home => k_is)
    (case k_home => k_is)
    (case a__law_cell_at => k_is)
    (case l__law_cell_at => k_is)
    (case c__law_cell_at => k_is)
    (case k__law_cell_at => k_is)
    (case a__law_mixed => k_is)
    (case l__law_mixed => k_is)
    (case c__law_mixed => k_is)
    (case k__law_mixed => k_is)
    (case a__law_text => k_is)
    (case l__law_text => k_is)
    (case c__law_text => k_is)
    (case k__law_text => k_is)
    (case a__law_spoilt => k_is)
    (case l__law_spoilt => k_is)
    (case c__law_spoilt => k_is)
    (case k__law_spoilt => k_is)
    (case a__law_of => k_is)
    (case l__law_of => k_is)
    (case c__law_of => k_is)
    (case k__law_of => k_is)
    (case a_law => k_is)
    (case l_law => k_is)
    (case c_law => k_is)
    (case k_law => k_is)
    (case u_LONGEST => k_is)
    (case u_SIGNS => k_is)
    (case z_bool => k_is)
    (case z_int => k_is)
    (case z_isinstance => k_is)
    (case z_len => k_is)
    (case z_range => k_is)

