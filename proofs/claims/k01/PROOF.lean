import PyProof.Rows.All
import Wide.All
import OpenK.AllK
import Wide.FinOn
import HandS.ForMost
import HandS.Codes
import HandS.Style
import PySem.Challenge.RW_grammarpack_k01_signs_taken
set_option Elab.async false
set_option linter.all false
set_option maxRecDepth 100000
/-! law_k01: which parts take which sign -/
namespace G1
open PySem PySem.Spec PyProof.Rows L2
/-! ### the text -/
def topS (i : Nat) : Stmt := PySem.Challenge.pw_grammarpack_k01_signs_taken.main.body.getD i (.Pass ⟨0, 0, 0, 0⟩)
abbrev sTakes : Stmt := topS 1
abbrev sCell : Stmt := topS 3
abbrev sSign : Stmt := topS 4
abbrev sLaw : Stmt := topS 5
theorem scT : FnScope ["part", "sign", "kind"] ["part", "sign"] (defScope sTakes) := ⟨rfl, rfl, rfl, by decide +kernel, rfl, by decide +kernel, by decide +kernel⟩
theorem scC : FnScope ["_law_script", "_law_k"] ["_law_script", "_law_k"] (defScope sCell) := ⟨rfl, rfl, rfl, by decide +kernel, rfl, by decide +kernel, by decide +kernel⟩
theorem scS : FnScope ["_law_cell", "_law_some"] ["_law_cell"] (defScope sSign) := ⟨rfl, rfl, rfl, by decide +kernel, rfl, by decide +kernel, by decide +kernel⟩
theorem scL : FnScope ["_law_script", "_law_one", "_law_two", "_law_other", "_law_sign", "_law_kind", "_law_part", "_law_due", "_law_found"] ["_law_script"] (defScope sLaw) := ⟨rfl, rfl, rfl, by decide +kernel, rfl, by decide +kernel, by decide +kernel⟩
/-! ### the mathematics -/
/-- the text of one sign -/
abbrev one (c : Nat) : Str := ⟨#[c]⟩
/-- the signs that the law draws from -/
def tab : List Nat := ((PySem.Str.ofString " !\"#$&'()*+,-./0123456789:;<=>?@ABCDEFGHIJKLMNOPQRSTUVWXYZ[\\]^_`") ++ (PySem.Str.ofString "abcdefghijklmnopqrstuvwxyz{|}~\n\t") : Str).cps.toList
theorem tab_len : tab.length = 96 := by decide +kernel
theorem tab_one (f : Nat → Str) (h : ∀ c ∈ tab, ∃ d, f c = one d) (c : Nat) (hc : c ∈ tab) : ∃ d, f c = one d := h c hc
theorem low_one : ∀ c ∈ tab, (Txt.lower (one c)).length = 1 := by decide +kernel
theorem up_one : ∀ c ∈ tab, (Txt.upper (one c)).length = 1 := by decide +kernel
theorem of_len {s : Str} (h : s.length = 1) : ∃ d, s = one d := by
  obtain ⟨⟨l⟩⟩ := s
  match l, h with
  | [d], _ => exact ⟨d, rfl⟩
theorem dec_eq {a b : Nat} : decide (V.str (one a) = V.str (one b)) = decide (((a : Nat) : Int) = ((b : Nat) : Int)) := by
  by_cases h : a = b
  · subst h
    rw [decide_eq_true rfl, decide_eq_true rfl]
  · rw [decide_eq_false (fun z => h ?_), decide_eq_false (by omega)]
    have e : one a = one b := V.str.inj z
    have e2 : (one a).cps.toList = (one b).cps.toList := congrArg (fun s : Str => s.cps.toList) e
    exact (List.cons.inj e2).1
theorem dec_le {a b : Nat} : (!decide ((one b).cps.toList < (one a).cps.toList)) = decide ((a : Int) ≤ (b : Int)) := by
  show (!decide ([b] < [a])) = _
  by_cases h : b < a
  · have hl : [b] < [a] := List.Lex.rel h
    rw [decide_eq_true hl, decide_eq_false (by omega)]
    rfl
  · rw [decide_eq_false (fun z : [b] < [a] => ?_), decide_eq_true (by omega)]
    · rfl
    · cases z with
      | rel z => exact h z
      | cons z => cases z
theorem mod_tab (n : Int) : ∃ c, atI tab (n % 96) = some c ∧ c ∈ tab := by
  have h0 : 0 ≤ n % 96 := Int.emod_nonneg n (by decide)
  have h1 : n % 96 < 96 := Int.emod_lt_of_pos n (by decide)
  obtain ⟨j, hj⟩ : ∃ j : Nat, n % 96 = (j : Int) := ⟨(n % 96).toNat, by omega⟩
  have hl : j < tab.length := by
    rw [tab_len]
    omega
  rw [hj]
  exact ⟨tab[j], atI_nat (List.getElem?_eq_getElem hl), List.getElem_mem hl⟩
theorem five (n : Int) (s1 s2 s3 s4 s5 : Str) (d1 d2 d3 d4 d5 : Nat) (h1 : s1 = one d1) (h2 : s2 = one d2) (h3 : s3 = one d3) (h4 : s4 = one d4) (h5 : s5 = one d5) :
    ∃ (c j : Nat), (if n % 8 < 4 then n % 8 else 4) = (j : Int) ∧ atI [V.str s1, V.str s2, V.str s3, V.str s4, V.str s5] (if n % 8 < 4 then n % 8 else 4) = some (.str (one c)) := by
  have h0 : 0 ≤ n % 8 := Int.emod_nonneg n (by decide)
  obtain ⟨j, hj⟩ : ∃ j : Nat, (if n % 8 < 4 then n % 8 else 4) = (j : Int) := ⟨(if n % 8 < 4 then n % 8 else 4).toNat, by split <;> omega⟩
  have hl : j < 5 := by
    split at hj <;> omega
  subst h1 h2 h3 h4 h5
  rw [hj]
  match j, hl with
  | 0, _ => exact ⟨d1, 0, rfl, rfl⟩
  | 1, _ => exact ⟨d2, 1, rfl, rfl⟩
  | 2, _ => exact ⟨d3, 2, rfl, rfl⟩
  | 3, _ => exact ⟨d4, 3, rfl, rfl⟩
  | 4, _ => exact ⟨d5, 4, rfl, rfl⟩
theorem same_upd {H : Hp} {p : Addr} {o : HO} (h : H p = none) : Same H (upd H p o) := fun b x e => by
  rw [upd_ne (ne_of_none e h)]
  exact e
theorem dec_int2 {a b : Int} : decide (V.int a = V.int b) = decide (a = b) := by
  by_cases h : a = b
  · rw [h]
    rw [decide_eq_true rfl, decide_eq_true rfl]
  · rw [decide_eq_false h, decide_eq_false (fun z => h (V.int.inj z))]
section
variable {P : Program} {w : World} {K : PySem.W.Frag} {mg : Str → Option Value} {base : Heap}
/-! ### takes -/
/-- the three parts that take one sign, and what is told -/
inductive Tk : List V → Nat → Bool → Prop
  | any (c : Nat) : Tk [.str "any"] c true
  | sign (a c : Nat) : Tk [.str "sign", .str (one a)] c (decide ((c : Int) = (a : Int)))
  | span (a b c : Nat) : Tk [.str "span", .str (one a), .str (one b)] c (decide ((a : Int) ≤ (c : Int)) && decide ((c : Int) ≤ (b : Int)))
def spTakes (K : PySem.W.Frag) : Sp := fun vs H Q _ => ∃ (p : Addr) (xs : List V) (c : Nat) (t : Bool), vs = [.ref p, .str (one c)] ∧ SqT K H p xs ∧ Tk xs c t ∧ Q (.bl t) H
theorem ok_takes {f : Addr} {fd : FuncData} {k : Nat} (F : Fun K "takes" "takes" sTakes f fd) : FnOk P w K mg base CX0 (k + 1) f fd ["part", "sign"] (spTakes K) := by
  refine F.ok scT (fun vs H Q E h => ?_) (fun cdv A outer s H vs Q E hr h => ?_)
  · obtain ⟨p, xs, c, t, rfl, _⟩ := h
    rfl
  · obtain ⟨p, xs, c, t, rfl, hT, tk, q⟩ := h
    refine ⟨_, pss_cons (ps_set (i := 2) scT.nd rfl (.inl rfl) (pe_ix ix_tup (pv 0) pe_int (fun _ _ => rfl)))
      (pss_cons (ps_if (pt_cmpR op_eq (pv 2) pe_str (nomark _)) (pss_one (ps_ret pe_bl)) pss_nil)
      (pss_cons (ps_if (pt_cmpR op_eq (pv 2) pe_str (nomark _)) (pss_one (ps_ret (pe_cmpR op_eq (pv 1) (pe_ix ix_tup (pv 0) pe_int (fun _ _ => rfl)) (nomark _)))) pss_nil)
      (pss_one (ps_ret (pe_chain op_le_str op_le_str (pe_ix ix_tup (pv 0) pe_int (fun _ _ => rfl)) (pv 1) (pe_ix ix_tup (pv 0) pe_int (fun _ _ => rfl))))))), ?_⟩
    cases tk with
    | any =>
      refine ⟨.ref p, rfl, p, _, 0, .str "any", rfl, rfl, hT, rfl, ?_⟩
      exact ⟨.str "any", rfl, rfl, true, rfl, iteT q⟩
    | sign a =>
      refine ⟨.ref p, rfl, p, _, 0, .str "sign", rfl, rfl, hT, rfl, ?_⟩
      refine ⟨.str "sign", rfl, rfl, false, by rfl, iteF ?_⟩
      refine ⟨.str "sign", rfl, rfl, true, by rfl, iteT ?_⟩
      refine ⟨.str (one c), rfl, .ref p, rfl, p, _, 1, .str (one a), rfl, rfl, hT, rfl, rfl, ?_⟩
      rw [dec_eq]
      exact q
    | span a b =>
      refine ⟨.ref p, rfl, p, _, 0, .str "span", rfl, rfl, hT, rfl, ?_⟩
      refine ⟨.str "span", rfl, rfl, false, by rfl, iteF ?_⟩
      refine ⟨.str "span", rfl, rfl, false, by rfl, iteF ?_⟩
      refine ⟨.ref p, rfl, p, _, 1, .str (one a), rfl, rfl, hT, rfl, .str (one c), rfl, one a, one c, rfl, rfl, _, rfl, ?_⟩
      rw [dec_le]
      refine ite2 (fun e => ?_) (fun e => ?_)
      · refine ⟨.ref p, rfl, p, _, 2, .str (one b), rfl, rfl, hT, rfl, one c, one b, rfl, rfl, ?_⟩
        rw [dec_le]
        rw [e, Bool.true_and] at q
        exact q
      · rw [Bool.not_eq_true] at e
        rw [e, Bool.false_and] at q
        exact q
/-! ### the law's own -/
def spCell (K : PySem.W.Frag) : Sp := fun vs H Q _ => ∃ (a : Addr) (ns : List Int) (j : Nat), vs = [.ref a, .int j] ∧ SqL K H a (ns.map V.int) ∧ ∀ n, Q (.int n) H
theorem ok_cell {f : Addr} {fd : FuncData} {k : Nat} (F : Fun K "_law_cell_at" "_law_cell_at" sCell f fd) (ml : mg "len" = none) : FnOk P w K mg base CX0 (k + 1) f fd ["_law_script", "_law_k"] (spCell K) := by
  refine F.ok scC (fun vs H Q E h => ?_) (fun cdv A outer s H vs Q E hr h => ?_)
  · obtain ⟨a, ns, j, rfl, _⟩ := h
    rfl
  · obtain ⟨a, ns, j, rfl, hS, q⟩ := h
    refine ⟨_, pss_cons (ps_if (pt_cmpR op_lt (pv 1) (pe_callB call_len_seq (by rfl) ml PySem.boot_len (pa_cons (pv 0) pa_nil)) (nomark _))
        (pss_one (ps_ret (pe_ix ix_list (pv 0) (pv 1) (fun _ _ => rfl)))) pss_nil) (pss_one (ps_ret pe_int)), ?_⟩
    refine ⟨.int j, rfl, .ref a, rfl, a, _, rfl, .inl hS, _, _, rfl, rfl, _, rfl, ite2 (fun e => ?_) (fun e => ?_)⟩
    · have hj : j < ns.length := by
        have := of_decide_eq_true e
        rw [List.length_map] at this
        omega
      refine ⟨.ref a, rfl, .int j, rfl, a, _, j, .int ns[j], rfl, rfl, hS, atI_nat ?_, q _⟩
      rw [List.getElem?_map, List.getElem?_eq_getElem hj]
      rfl
    · exact q 0
def spSign : Sp := fun vs H Q _ => ∃ n : Int, vs = [.int n] ∧ ∀ c, c ∈ tab → Q (.str (one c)) H
theorem ok_sign {f : Addr} {fd : FuncData} {k : Nat} (F : Fun K "_law_sign_by" "_law_sign_by" sSign f fd) : FnOk P w K mg base CX0 (k + 1) f fd ["_law_cell"] spSign := by
  refine F.ok scS (fun vs H Q E h => ?_) (fun cdv A outer s H vs Q E hr h => ?_)
  · obtain ⟨n, rfl, _⟩ := h
    rfl
  · obtain ⟨n, rfl, q⟩ := h
    refine ⟨_, pss_cons (ps_set (i := 1) scS.nd rfl (.inl rfl) pe_str)
      (pss_cons (ps_set (i := 1) scS.nd rfl (.inl rfl) (pe_op op_add_str (pv 1) pe_str))
      (pss_one (ps_ret (pe_ix ix_str (pv 1) (pe_op op_mod (pv 0) pe_int) (fun _ _ => rfl))))), ?_⟩
    obtain ⟨c, hc, hm⟩ := mod_tab n
    refine ⟨_, rfl, _, _, rfl, rfl, by decide +kernel, ?_⟩
    refine ⟨_, rfl, .int n, rfl, n, 96, rfl, rfl, (by show (0 : Int) < 96; decide), _, _, c, rfl, rfl, by decide +kernel, hc, q c hm⟩
def spLaw (K : PySem.W.Frag) : Sp := fun vs H Q _ => ∃ (a : Addr) (ns : List Int), vs = [.ref a] ∧ SqL K H a (ns.map V.int) ∧ ns.length ≤ 63 ∧ ∀ H', Q (.bl true) H'
theorem ok_law {f fT fC fS : Addr} {fd fdT fdC fdS : FuncData} (F : Fun K "law" "law" sLaw f fd) (FT : Fun K "takes" "takes" sTakes fT fdT) (FC : Fun K "_law_cell_at" "_law_cell_at" sCell fC fdC) (FS : Fun K "_law_sign_by" "_law_sign_by" sSign fS fdS)
    (bT : Binds K fdT ["part", "sign"] []) (bC : Binds K fdC ["_law_script", "_law_k"] []) (bS : Binds K fdS ["_law_cell"] [])
    (gT : mg "takes" = some (.ref fT)) (gC : mg "_law_cell_at" = some (.ref fC)) (gS : mg "_law_sign_by" = some (.ref fS))
    (ml : mg "len" = none) (mo : mg "ord" = none) (mm : mg "min" = none) : FnOk P w K mg base CX0 2 f fd ["_law_script"] (spLaw K) := by
  have GT : FnOk P w K mg base CX0 1 fT fdT ["part", "sign"] (spTakes K) := ok_takes FT
  have GC : FnOk P w K mg base CX0 1 fC fdC ["_law_script", "_law_k"] (spCell K) := ok_cell FC ml
  have GS : FnOk P w K mg base CX0 1 fS fdS ["_law_cell"] spSign := ok_sign FS
  refine F.ok scL (fun vs H Q E h => ?_) (fun cdv A outer s H vs Q E hr h => ?_)
  · obtain ⟨a, ns, rfl, _⟩ := h
    rfl
  · obtain ⟨a, ns, rfl, hS, hlen, q⟩ := h
    refine ⟨_, pss_cons (ps_set (i := 1) scL.nd rfl (.inl rfl) (pe_call GS hr (by rfl) gS FS.kp bS .nil pass0 (pa_cons (pe_call GC hr (by rfl) gC FC.kp bC .nil pass0 (pa_cons (pv 0) (pa_cons pe_int pa_nil))) pa_nil)))
      (pss_cons (ps_set (i := 2) scL.nd rfl (.inl rfl) (pe_call GS hr (by rfl) gS FS.kp bS .nil pass0 (pa_cons (pe_call GC hr (by rfl) gC FC.kp bC .nil pass0 (pa_cons (pv 0) (pa_cons pe_int pa_nil))) pa_nil)))
      (C8.pss_cut (ps_if (pt_cmpR op_lt (pe_callB call_ord (by rfl) mo (by decide +kernel) (pa_cons (pv 2) pa_nil)) (pe_callB call_ord (by rfl) mo (by decide +kernel) (pa_cons (pv 1) pa_nil)) (nomark _))
          (pss_one (ps_par (i := 1) (j := 2) (by rfl) scL.nd rfl rfl (by decide) rfl rfl (pa_cons (pv 2) (pa_cons (pv 1) pa_nil)) (by rfl))) pss_nil)
      (pss_cons (ps_set (i := 3) scL.nd rfl (.inl rfl) (pe_call GS hr (by rfl) gS FS.kp bS .nil pass0 (pa_cons (pe_call GC hr (by rfl) gC FC.kp bC .nil pass0 (pa_cons (pv 0) (pa_cons pe_int pa_nil))) pa_nil)))
      (C8.pss_cut (ps_set (i := 4) scL.nd rfl (.inl rfl) (pe_ix ix_list (pe_lst (pa_cons (pv 1) (pa_cons (pv 2) (pa_cons (pe_lower (pv 1)) (pa_cons (pe_upper (pv 1)) (pa_cons (pv 3) pa_nil))))))
          (pe_callB (call_min2 rfl) (by rfl) mm (by decide +kernel) (pa_cons pe_int (pa_cons (pe_op op_mod (pe_call GC hr (by rfl) gC FC.kp bC .nil pass0 (pa_cons (pv 0) (pa_cons pe_int pa_nil))) pe_int) pa_nil))) (fun _ _ => rfl)))
      (pss_cons (ps_set (i := 5) scL.nd rfl (.inl rfl) (pe_op op_mod (pe_call GC hr (by rfl) gC FC.kp bC .nil pass0 (pa_cons (pv 0) (pa_cons pe_int pa_nil))) pe_int))
      (C8.pss_cut (ps_if (pt_cmpR op_eq (pv 5) pe_int (nomark _))
          (pss_cons (ps_set (i := 6) scL.nd rfl (.inl rfl) (pe_tup (pa_cons pe_str (pa_cons (pv 1) pa_nil))))
          (pss_one (ps_set (i := 7) scL.nd rfl (.inl rfl) (pe_cmpR op_eq (pe_callB call_ord (by rfl) mo (by decide +kernel) (pa_cons (pv 4) pa_nil)) (pe_callB call_ord (by rfl) mo (by decide +kernel) (pa_cons (pv 1) pa_nil)) (nomark _)))))
          (pss_one (ps_if (pt_cmpR op_eq (pv 5) pe_int (nomark _))
            (pss_cons (ps_set (i := 6) scL.nd rfl (.inl rfl) (pe_tup (pa_cons pe_str (pa_cons (pv 1) (pa_cons (pv 2) pa_nil)))))
            (pss_one (ps_set (i := 7) scL.nd rfl (.inl rfl) (pe_and (pe_cmpR op_le (pe_callB call_ord (by rfl) mo (by decide +kernel) (pa_cons (pv 1) pa_nil)) (pe_callB call_ord (by rfl) mo (by decide +kernel) (pa_cons (pv 4) pa_nil)) (nomark _))
              (pe_one (pe_cmpR op_le (pe_callB call_ord (by rfl) mo (by decide +kernel) (pa_cons (pv 4) pa_nil)) (pe_callB call_ord (by rfl) mo (by decide +kernel) (pa_cons (pv 2) pa_nil)) (nomark _)))))))
            (pss_cons (ps_set (i := 6) scL.nd rfl (.inl rfl) (pe_tup (pa_cons pe_str pa_nil)))
            (pss_one (ps_set (i := 7) scL.nd rfl (.inl rfl) pe_bl))))))
      (pss_cons (ps_set (i := 8) scL.nd rfl (.inl rfl) (pe_call GT hr (by rfl) gT FT.kp bT .nil pass0 (pa_cons (pv 6) (pa_cons (pv 4) pa_nil))))
      (pss_one (ps_ret (pe_and (pe_or (pe_cmpR op_isBl (pv 8) pe_bl (nomark _)) (pe_one (pe_cmpR op_isBl (pv 8) pe_bl (nomark _)))) (pe_one (pe_cmpR op_eq (pv 8) (pv 7) (nomark _))))))))))))), ?_⟩
    -- one, two
    refine ⟨.ref a, rfl, a, ns, 1, rfl, hS, fun n1 => ⟨n1, rfl, fun c1 h1 => ?_⟩⟩
    refine ⟨.ref a, rfl, a, ns, 2, rfl, hS, fun n2 => ⟨n2, rfl, fun c2 h2 => ?_⟩⟩
    -- the swap
    refine ⟨fun (σ' : L2.St) H' => ∃ d1 d2 : Nat, d1 ∈ tab ∧ d2 ∈ tab ∧ H' = H ∧ σ' = [some (.ref a), some (.str (one d1)), some (.str (one d2)), none, none, none, none, none, none], ?_, fun σ' H' hm => ?_⟩
    · refine ⟨_, rfl, _, rfl, rfl, _, rfl, _, rfl, rfl, _, _, rfl, rfl, _, rfl, ite2 (fun e => ?_) (fun e => ?_)⟩
      · exact ⟨_, rfl, _, rfl, _, _, rfl, c2, c1, h2, h1, rfl, rfl⟩
      · exact ⟨c1, c2, h1, h2, rfl, rfl⟩
    · obtain ⟨d1, d2, m1, m2, rfl, rfl⟩ := hm
      -- other
      refine ⟨.ref a, rfl, a, ns, 3, rfl, hS, fun n3 => ⟨n3, rfl, fun c3 h3 => ?_⟩⟩
      obtain ⟨lo, hlo⟩ := of_len (low_one d1 m1)
      obtain ⟨up, hup⟩ := of_len (up_one d1 m1)
      -- sign
      refine ⟨fun (σ' : L2.St) H'' => ∃ c : Nat, SqL K H'' a (ns.map V.int) ∧ σ' = [some (.ref a), some (.str (one d1)), some (.str (one d2)), some (.str (one c3)), some (.str (one c)), none, none, none, none], ?_, fun σ' H'' hm => ?_⟩
      · refine ⟨.str (one d1), rfl, .str (one d2), rfl, .str (one d1), rfl, ⟨_, rfl⟩, one d1, rfl, rfl, (show 1 ≤ 5592405 by decide), .str (one d1), rfl, ⟨_, rfl⟩, one d1, rfl, rfl, (show 1 ≤ 5592405 by decide), .str (one c3), rfl, (show 5 ≤ sizeLine by decide), fun l hl => ?_⟩
        rw [hlo, hup]
        have hS2 : SqL K (upd H' l (.lst [.str (one d1), .str (one d2), .str (one lo), .str (one up), .str (one c3)])) a (ns.map V.int) := (same_upd hl).seq hS
        refine ⟨.ref a, rfl, a, ns, 4, rfl, hS2, fun n4 => ?_⟩
        obtain ⟨c, j, hj, hc⟩ := five n4 (one d1) (one d2) (one lo) (one up) (one c3) d1 d2 lo up c3 rfl rfl rfl rfl rfl
        exact ⟨n4, 8, rfl, rfl, (by show (0 : Int) < 8; decide), 4, n4 % 8, rfl, l, _, _, _, rfl, rfl, .inl (.inl upd_same), hc, c, hS2, rfl⟩
      · obtain ⟨c, hS, rfl⟩ := hm
        refine ⟨.ref a, rfl, a, ns, 0, rfl, hS, fun n5 => ⟨n5, 3, rfl, rfl, (by show (0 : Int) < 3; decide), ?_⟩⟩
        -- the part and what is due
        refine ⟨fun (σ' : L2.St) H3 => ∃ (t : Bool) (p : Addr) (xs : List V), SqT K H3 p xs ∧ Tk xs c t ∧ σ' = [some (.ref a), some (.str (one d1)), some (.str (one d2)), some (.str (one c3)), some (.str (one c)), some (.int (n5 % 3)), some (.ref p), some (.bl t), none], ?_, fun σ' H3 hm => ?_⟩
        · refine ⟨.int (n5 % 3), rfl, rfl, _, rfl, ite2 (fun e => ?_) (fun e => ?_)⟩
          · refine ⟨.str (one d1), rfl, (show 2 ≤ sizeLine by decide), fun p hp => ?_⟩
            refine ⟨.str (one c), rfl, one c, rfl, rfl, .str (one d1), rfl, one d1, rfl, rfl, rfl, ?_⟩
            rw [dec_int2]
            exact ⟨_, p, _, .inl (.inl upd_same), .sign d1 c, rfl⟩
          · refine ⟨.int (n5 % 3), rfl, rfl, _, rfl, ite2 (fun e => ?_) (fun e => ?_)⟩
            · refine ⟨.str (one d1), rfl, .str (one d2), rfl, (show 3 ≤ sizeLine by decide), fun p hp => ?_⟩
              refine ⟨.str (one d1), rfl, one d1, rfl, rfl, .str (one c), rfl, one c, rfl, rfl, _, _, rfl, rfl, _, rfl, ?_⟩
              refine ite2 (fun e1 => ?_) (fun e1 => ?_)
              · refine ⟨.str (one c), rfl, one c, rfl, rfl, .str (one d2), rfl, one d2, rfl, rfl, _, _, rfl, rfl, _, p, _, .inl (.inl upd_same), .span d1 d2 c, ?_⟩
                show _ = ([some (V.ref a), some (.str (one d1)), some (.str (one d2)), some (.str (one c3)), some (.str (one c)), some (.int (n5 % 3)), some (.ref p), some (.bl (decide ((d1 : Int) ≤ (c : Int)) && decide ((c : Int) ≤ (d2 : Int)))), none] : L2.St)
                have e2 : decide ((d1 : Int) ≤ (c : Int)) = true := e1
                rw [e2, Bool.true_and]
                rfl
              · refine ⟨_, p, _, .inl (.inl upd_same), .span d1 d2 c, ?_⟩
                have e2 : decide ((d1 : Int) ≤ (c : Int)) = false := Bool.eq_false_iff.mpr e1
                rw [e2, Bool.false_and]
                rfl
            · refine ⟨(show 1 ≤ sizeLine by decide), fun p hp => ?_⟩
              exact ⟨true, p, _, .inl (.inl upd_same), .any c, rfl⟩
        · obtain ⟨t, p, xs, hT, tk, rfl⟩ := hm
          refine ⟨.ref p, rfl, .str (one c), rfl, p, xs, c, t, rfl, hT, tk, ?_⟩
          cases t with
          | true =>
            refine ⟨.bl true, rfl, true, true, rfl, rfl, true, rfl, iteT ?_⟩
            refine ⟨true, rfl, iteT ?_⟩
            exact ⟨.bl true, rfl, .bl true, rfl, rfl, q _⟩
          | false =>
            refine ⟨.bl false, rfl, false, true, rfl, rfl, false, rfl, iteF ?_⟩
            refine ⟨.bl false, rfl, false, false, rfl, rfl, true, rfl, iteT ?_⟩
            exact ⟨.bl false, rfl, .bl false, rfl, rfl, q _⟩
end
/-! ### what the top has written; the law's own head -/
theorem all_mk {l : PySem.W.OpenLaw} {w : World} {K : PySem.W.Frag} {h : Heap} {mg : Str → Option Value} {fa f1 f2 f3 f4 : Addr} (X : K.In h) (G : h.Ns mainGlobals mg) (hfa : mg "law" = some (.ref fa))
    {od1 an1 od2 an2 od3 an3 od4 an4 : Option Addr} {sl1 sl2 sl3 sl4 : Array (Option Value)} {oc1 kV1 dc1 pm1 cd1 ct1 oc2 kV2 dc2 pm2 cd2 ct2 oc3 kV3 dc3 pm3 cd3 ct3 oc4 kV4 dc4 pm4 cd4 ct4 : Value}
    (a1 : PySem.W.nsIn K mainGlobals "takes" = some (some (.ref f1))) (l1 : K.lookup f1 = some ⟨oc1, od1, .func (PySem.W.fnOf "takes" "takes" (defArgs sTakes) (defBody sTakes) (defScope sTakes) .none kV1 dc1 pm1 an1 cd1 ct1), sl1⟩) (c1 : PySem.W.codeIn K cd1 "takes" = true) (k1 : PySem.W.keepIn K (.ref f1) = true)
    (a2 : PySem.W.nsIn K mainGlobals "_law_cell_at" = some (some (.ref f2))) (l2 : K.lookup f2 = some ⟨oc2, od2, .func (PySem.W.fnOf "_law_cell_at" "_law_cell_at" (defArgs sCell) (defBody sCell) (defScope sCell) .none kV2 dc2 pm2 an2 cd2 ct2), sl2⟩) (c2 : PySem.W.codeIn K cd2 "_law_cell_at" = true) (k2 : PySem.W.keepIn K (.ref f2) = true)
    (a3 : PySem.W.nsIn K mainGlobals "_law_sign_by" = some (some (.ref f3))) (l3 : K.lookup f3 = some ⟨oc3, od3, .func (PySem.W.fnOf "_law_sign_by" "_law_sign_by" (defArgs sSign) (defBody sSign) (defScope sSign) .none kV3 dc3 pm3 an3 cd3 ct3), sl3⟩) (c3 : PySem.W.codeIn K cd3 "_law_sign_by" = true) (k3 : PySem.W.keepIn K (.ref f3) = true)
    (a4 : PySem.W.nsIn K mainGlobals "law" = some (some (.ref f4))) (l4 : K.lookup f4 = some ⟨oc4, od4, .func (PySem.W.fnOf "law" "law" (defArgs sLaw) (defBody sLaw) (defScope sLaw) .none kV4 dc4 pm4 an4 cd4 ct4), sl4⟩) (c4 : PySem.W.codeIn K cd4 "law" = true) (k4 : PySem.W.keepIn K (.ref f4) = true)
    (z1 : PySem.W.nsIn K mainGlobals "len" = some none) (z2 : PySem.W.nsIn K mainGlobals "ord" = some none) (z3 : PySem.W.nsIn K mainGlobals "min" = some none) :
    ∃ fd : FuncData, (∀ (s : Shared) (v : Value), BindsTo s fd ⟨[v], []⟩ [("_law_script", v)]) ∧ ∀ base : Heap, K.In base → base.Ns mainGlobals mg → FnOk l.prog w K mg base CX0 2 fa fd ["_law_script"] (spLaw K) := by
  have e := hfa.symm.trans (PySem.W.mg_of X G a4)
  cases e
  have F1 := fun_mk (st := sTakes) l1 c1 k1
  have F2 := fun_mk (st := sCell) l2 c2 k2
  have F3 := fun_mk (st := sSign) l3 c3 k3
  have F4 := fun_mk (st := sLaw) l4 c4 k4
  have b1 := F1.binds (ps := ["part", "sign"]) fun _ _ _ _ _ _ us hl => match us, hl with | [_, _], _ => rfl
  have b2 := F2.binds (ps := ["_law_script", "_law_k"]) fun _ _ _ _ _ _ us hl => match us, hl with | [_, _], _ => rfl
  have b3 := F3.binds (ps := ["_law_cell"]) fun _ _ _ _ _ _ us hl => match us, hl with | [_], _ => rfl
  exact ⟨PySem.W.fnOf "law" "law" (defArgs sLaw) (defBody sLaw) (defScope sLaw) .none kV4 dc4 pm4 an4 cd4 ct4, fun s v => .of_eq rfl, fun base _ _ => ok_law F4 F1 F2 F3 b1 b2 b3 (PySem.W.mg_of X G a1) (PySem.W.mg_of X G a2) (PySem.W.mg_of X G a3) (PySem.W.mg_none_of X G z1) (PySem.W.mg_none_of X G z2) (PySem.W.mg_none_of X G z3)⟩
end G1
open PySem PySem.W PyProof.Rows
set_option maxHeartbeats 0 in
theorem PySem.Challenge.cw_grammarpack_k01_signs_taken_holds : PySem.Challenge.rw_grammarpack_k01_signs_taken.Holds := by
  w_on; o_law; k_head; (case hw => w_witness2)
  k_fill
  refine L2.walk_of (l := PySem.Challenge.rw_grammarpack_k01_signs_taken) (n := 63) (k := 2) (x := "_law_script") (CX := fun _ => L2.CX0) (sp := fun w => G1.spLaw _) rfl (by decide) rfl ⟨rfl, by decide, by decide⟩ (fun w h Y => PySem.W.kIn_of Y) ?F (fun _ _ a ns hl _ hS => ⟨a, ns, rfl, hS, hl, fun _ => rfl⟩) (fun _ _ _ _ _ h => h)
  case F =>
    intro w mg fa h KX G hmg
    refine' G1.all_mk KX G hmg ?a1 ?l1 ?c1 ?k1 ?a2 ?l2 ?c2 ?k2 ?a3 ?l3 ?c3 ?k3 ?a4 ?l4 ?c4 ?k4 ?z1 ?z2 ?z3
    (case a1 => k_is); (case l1 => k_is); (case c1 => k_is); (case k1 => k_is); (case a2 => k_is); (case l2 => k_is); (case c2 => k_is); (case k2 => k_is)
    (case a3 => k_is); (case l3 => k_is); (case c3 => k_is); (case k3 => k_is); (case a4 => k_is); (case l4 => k_is); (case c4 => k_is); (case k4 => k_is)
    (case z1 => k_is); (case z2 => k_is); (case z3 => k_is)
