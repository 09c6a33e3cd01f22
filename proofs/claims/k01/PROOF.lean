import PyProof.Rows.All
import Wide.All
import OpenK.AllK
import Wide.FinOn
import HandS.ForMost
import HandS.Wide
import HandS.Style
import PySem.Challenge.RW_tailpick_k01_valid_names
import HandS.Walk
import HandS.IsInst
import HandS.Codes
set_option Elab.async false
set_option linter.all false
set_option maxRecDepth 100000
namespace TP
open PySem PySem.Spec PyProof.Rows L2
/-! ### the text -/
def topS (i : Nat) : Stmt := PySem.Challenge.pw_tailpick_k01_valid_names.main.body.getD i (.Pass ⟨0, 0, 0, 0⟩)
abbrev sStart : Stmt := topS 6
abbrev sDraw : Stmt := topS 7
theorem scStart : FnScope ["_law_script", "_law_cell"] ["_law_script"] (defScope sStart) := ⟨rfl, rfl, rfl, by decide +kernel, rfl, by decide +kernel, by decide +kernel⟩
theorem scDraw : FnScope ["_law_state", "_law_size", "_law_digit", "_law_cell", "_law_one"] ["_law_state", "_law_size"] (defScope sDraw) := ⟨rfl, rfl, rfl, by decide +kernel, rfl, by decide +kernel, by decide +kernel⟩
/-! ### own rules -/
section
variable {X : Cx}
theorem get_list : PGet X (rIxL X.K) := by
  intro pins s σ H o i ov iv Q I ro ri h
  obtain ⟨p, xs, i, z, rfl, rfl, hq, he, q⟩ := h
  cases ro
  obtain ⟨t, rfl⟩ := ri
  obtain ⟨its, r, pl, hz⟩ := I.list hq
  obtain ⟨j, h1, h2, h3, h4, h5⟩ := atI_get he
  obtain ⟨w, ew, rw'⟩ := r.get h2
  have hl := r.length
  have hn := line63
  have fin : EP X pins σ Q w s := ⟨z, H, I, rw', q⟩
  by_cases h0 : 0 ≤ i
  · have hj : i.toNat = j := by
      rw [seqIndex_of h0 h5] at h1
      exact Option.some.inj h1
    exact wpAny_getItem_list pl.isList h0 (by omega) (by rw [hj]; simpa using ew) fin
  · have hj : (i + (its.toArray.size : Int)).toNat = j := by
      rw [seqIndex_neg (by omega) h4] at h1
      rw [List.size_toArray, ← hl]
      exact Option.some.inj h1
    exact wpAny_getItem_list_neg pl.isList (by omega) (by rw [List.size_toArray] <;> omega) (by omega) (by rw [hj]; simpa using ew) fin
end
theorem same_upd {H : Hp} {p : Addr} {o : HO} (h : H p = none) : Same H (upd H p o) := fun b x e => by
  rw [upd_ne (ne_of_none e h)]
  exact e
/-! ### the drawing state -/
/-- the state at st: its numbers zs at l0, its cells cs at l1, n draws so far -/
structure DrwZ (H : Hp) (st l0 l1 : Addr) (n : Nat) (zs cs : List Int) : Prop where
  hs : H st = some (.lst [.ref l0, .ref l1, .int n])
  h0 : H l0 = some (.lst (zs.map V.int))
  h1 : H l1 = some (.lst (cs.map V.int))
  z : zs.length ≤ 63
  c0 : 0 < cs.length
  c : cs.length ≤ 64
  n0 : l0 ≠ st
  n1 : l1 ≠ st
  n01 : l0 ≠ l1
def Drw (H : Hp) (st l0 l1 : Addr) (n : Nat) : Prop := ∃ zs cs, DrwZ H st l0 l1 n zs cs
/-- what a draw leaves: all else that was tracked; the numbers' list is the old one or a new one -/
structure Frm (H H' : Hp) (st l0 l0' : Addr) : Prop where
  keep : ∀ b o, H b = some o → b ≠ st → b ≠ l0 → H' b = some o
  new : l0' = l0 ∨ H l0' = none
theorem Frm.refl (H : Hp) (st l0 : Addr) : Frm H H st l0 l0 := ⟨fun _ _ e _ _ => e, .inl rfl⟩
theorem Frm.trans {H H1 H2 : Hp} {st l0 l0' l0'' : Addr} (hst : ∃ o, H1 st = some o) (a : Frm H H1 st l0 l0') (b : Frm H1 H2 st l0' l0'') : Frm H H2 st l0 l0'' := by
  refine ⟨fun c o e h1 h2 => ?_, ?_⟩
  · refine b.keep c o (a.keep c o e h1 h2) h1 ?_
    rcases a.new with e1 | e1
    · rw [e1]; exact h2
    · exact ne_of_none e e1
  · rcases b.new with e1 | e1
    · rw [e1]; exact a.new
    · by_cases h2 : l0'' = l0
      · exact .inl h2
      · refine .inr ?_
        cases q : H l0'' with
        | none => rfl
        | some o =>
          obtain ⟨u, hu⟩ := hst
          rw [a.keep _ o q (ne_of_none hu e1).symm h2] at e1
          cases e1
theorem Drw.st_some {H : Hp} {st l0 l1 : Addr} {n : Nat} (d : Drw H st l0 l1 n) : ∃ o, H st = some o := by
  obtain ⟨zs, cs, d⟩ := d
  exact ⟨_, d.hs⟩
/-- a new object leaves the drawing state -/
theorem DrwZ.same {H H' : Hp} {st l0 l1 : Addr} {n : Nat} {zs cs : List Int} (d : DrwZ H st l0 l1 n zs cs) (s : Same H H') : DrwZ H' st l0 l1 n zs cs :=
  ⟨s _ _ d.hs, s _ _ d.h0, s _ _ d.h1, d.z, d.c0, d.c, d.n0, d.n1, d.n01⟩
theorem Drw.same {H H' : Hp} {st l0 l1 : Addr} {n : Nat} (d : Drw H st l0 l1 n) (s : Same H H') : Drw H' st l0 l1 n := by
  obtain ⟨zs, cs, d⟩ := d
  exact ⟨zs, cs, d.same s⟩
/-! ### _law_draw -/
def spDraw : Sp := fun vs H Q _ => ∃ (st l0 l1 : Addr) (n : Nat) (size : Int), vs = [.ref st, .int size] ∧ Drw H st l0 l1 n ∧ 0 < size ∧ size < 2 ^ 40 ∧ n < 2 ^ 40 ∧
  ∀ (r : Int) (H' : Hp) (l0' : Addr), 0 ≤ r → r < size → Drw H' st l0' l1 (n + 1) → Frm H H' st l0 l0' → Q (.int r) H'
theorem eqv_nil (zs : List Int) : PyData.eqv (.list (zs.map PyData.int)) (.list []) = zs.isEmpty := by
  cases zs <;> rfl
theorem dp_ints {K : PySem.W.Frag} {H : Hp} : ∀ zs : List Int, DpAll K H (zs.map V.int) (zs.map PyData.int)
  | [] => .nil
  | z :: r => .cons (.int z) (dp_ints r)
theorem shaped_ints (zs : List Int) : SeqAt.shaped (.list (zs.map PyData.int)) = true := by
  have h1 : ∀ l : List Int, PyData.canLayAll0 (l.map PyData.int) = true := fun l => by
    induction l with
    | nil => rfl
    | cons z r ih => simp [PyData.canLayAll0, PyData.canLay0, ih]
  have h2 : ∀ l : List Int, PyData.depthAll (l.map PyData.int) ≤ 1 := fun l => by
    induction l with
    | nil => simp [PyData.depthAll]
    | cons z r ih => simp [PyData.depthAll, PyData.depth] ; omega
  have h3 := h2 zs
  simp [SeqAt.shaped, PyData.canLay0, h1, PyData.depth]
  omega
theorem cut1 (xs : List V) : cutV xs (some 1) none = xs.drop 1 := by
  unfold cutV
  rw [show HT.sIx xs.length 0 (some 1) = min 1 xs.length from HT.sIx_nat xs.length 0 1, HT.sIx_none]
  cases xs with
  | nil => rfl
  | cons x r =>
    rw [show min 1 (x :: r).length = 1 by
      rw [List.length_cons]
      omega]
    show (List.take ((x :: r).length - 1) r) = r
    rw [List.length_cons, Nat.add_sub_cancel]
    exact List.take_length
theorem at_mod {cs : List Int} (h : 0 < cs.length) (n : Nat) : ∃ c, atI (cs.map V.int) ((n : Int) % (cs.length : Int)) = some (.int c) := by
  have hj : n % cs.length < cs.length := Nat.mod_lt _ h
  refine ⟨cs[n % cs.length], ?_⟩
  have e : (n : Int) % (cs.length : Int) = ((n % cs.length : Nat) : Int) := by simp
  rw [e]
  refine atI_nat ?_
  rw [List.getElem?_map, List.getElem?_eq_getElem hj]
  rfl
theorem ixN_zero {n : Nat} (h : 0 < n) : ixN n 0 = some 0 := by
  unfold ixN
  rw [if_pos (by decide), if_pos (by omega)]
  rfl
theorem in_fac {c : Int} (h0 : 0 ≤ c) (h1 : c < 2 ^ 40) : -(2 ^ 64) < c ∧ c < 2 ^ 64 := by omega
section
variable {P : Program} {w : World} {K : PySem.W.Frag} {mg : Str → Option Value} {base : Heap}
theorem ok_draw {f : Addr} {fd : FuncData} (F : Fun K "_law_draw" "_law_draw" sDraw f fd) (mi : mg "int" = none) (ml : mg "len" = none) : FnOk P w K mg base CX0 1 f fd ["_law_state", "_law_size"] spDraw := by
  refine F.ok scDraw (fun vs H Q E h => ?_) (fun cdv A outer s H vs Q E hr h => ?_)
  · obtain ⟨st, l0, l1, n, size, rfl, _⟩ := h
    rfl
  · obtain ⟨st, l0, l1, n, size, rfl, D, hz0, hz1, hn, k⟩ := h
    have nd := scDraw.nd
    refine ⟨_, pss_cons (ps_augS (pv 0) pe_int get_list pe_int ip_add set_list)
      (pss_cons (ps_while PassesOwn.never (PW.pt (pw_and (pt_cmpR (op_neD hr.units) (pe_ix ix_list (pv 0) pe_int (fun _ _ => rfl)) (pe_lst pa_nil) (nomark _)) (pw_and1 (pt_cmpR op_eq (pe_ix ix_list (pe_ix ix_list (pv 0) pe_int (fun _ _ => rfl)) pe_int (fun _ _ => rfl)) pe_int (nomark _)))))
        (pss_one (ps_asg (pe_slice sl_list (pe_ix ix_list (pv 0) pe_int (fun _ _ => rfl)) (po_some pe_int) po_none) (pg_sub (pv 0) pe_int set_list))))
      (pss_cons (ps_if (pt_cmpR (op_neD hr.units) (pe_ix ix_list (pv 0) pe_int (fun _ _ => rfl)) (pe_lst pa_nil) (nomark _))
        (pss_cons (ps_set (i := 2) nd rfl (.inl rfl) (pe_op op_mod (pe_callTy call_int1 (by rfl) mi (by decide +kernel) (pa_cons (pe_ix ix_list (pe_ix ix_list (pv 0) pe_int (fun _ _ => rfl)) pe_int (fun _ _ => rfl)) pa_nil)) (pv 1)))
        (pss_cons (ps_asg (pe_op op_fdivW (pe_ix ix_list (pe_ix ix_list (pv 0) pe_int (fun _ _ => rfl)) pe_int (fun _ _ => rfl)) (pv 1)) (pg_sub (pe_ix ix_list (pv 0) pe_int (fun _ _ => rfl)) pe_int set_list))
        (pss_one (ps_ret (pv 2))))) pss_nil)
      (pss_cons (ps_set (i := 3) nd rfl (.inl rfl) (pe_op op_mod (pe_callTy call_int1 (by rfl) mi (by decide +kernel) (pa_cons (pe_ix ix_list (pe_ix ix_list (pv 0) pe_int (fun _ _ => rfl)) (pe_op op_mod (pe_callTy call_int1 (by rfl) mi (by decide +kernel) (pa_cons (pe_ix ix_list (pv 0) pe_int (fun _ _ => rfl)) pa_nil)) (pe_callB call_len_seq (by rfl) ml PySem.boot_len (pa_cons (pe_ix ix_list (pv 0) pe_int (fun _ _ => rfl)) pa_nil))) (fun _ _ => rfl)) pa_nil)) pe_int))
      (pss_cons (ps_set (i := 4) nd rfl (.inl rfl) (pe_op op_mod (pe_callTy call_int1 (by rfl) mi (by decide +kernel) (pa_cons (pe_op op_pow (pe_op op_add (pe_op op_add (pe_op op_mul (pv 3) pe_int) (pe_op op_mul (pe_ix ix_list (pv 0) pe_int (fun _ _ => rfl)) pe_int)) pe_int) pe_int) pa_nil)) pe_int))
      (pss_one (ps_ret (pe_op op_mod (pe_op op_mod (pe_callTy call_int1 (by rfl) mi (by decide +kernel) (pa_cons (pe_op op_pow (pe_op op_add (pe_op op_add (pe_op op_mul (pv 4) pe_int) (pe_op op_mul (pe_ix ix_list (pv 0) pe_int (fun _ _ => rfl)) pe_int)) pe_int) pe_int) pa_nil)) pe_int) (pv 1)))))))), ?_⟩
    obtain ⟨zs, cs, D⟩ := D
    -- state[2] += 1
    refine ⟨_, rfl, st, _, 2, .int n, rfl, rfl, SqL.of D.hs, rfl, n, 1, rfl, rfl, st, _, 2, 2, rfl, rfl, D.hs, rfl, ?_⟩
    have D1 : DrwZ (upd H st (.lst [.ref l0, .ref l1, .int ((n + 1 : Nat) : Int)])) st l0 l1 (n + 1) zs cs :=
      ⟨upd_same, by rw [upd_ne D.n0]; exact D.h0, by rw [upd_ne D.n1]; exact D.h1, D.z, D.c0, D.c, D.n0, D.n1, D.n01⟩
    have F1 : Frm H (upd H st (.lst [.ref l0, .ref l1, .int ((n + 1 : Nat) : Int)])) st l0 l0 := ⟨fun b o e h1 _ => by rw [upd_ne h1]; exact e, .inl rfl⟩
    -- while
    refine ⟨fun m σ H' => ∃ l0' zs, m = zs.length ∧ σ = [some (.ref st), some (.int size), none, none, none] ∧ DrwZ H' st l0' l1 (n + 1) zs cs ∧ Frm H H' st l0 l0', ⟨_, l0, zs, rfl, rfl, D1, F1⟩, fun m σ H' hW => ?_⟩
    obtain ⟨l0', zs', rfl, rfl, D2, F2⟩ := hW
    refine ⟨_, rfl, st, _, 0, .ref l0', rfl, rfl, SqL.of D2.hs, rfl, Nat.zero_le _, fun p hp => ?_⟩
    have S3 : Same H' (upd H' p (.lst [])) := same_upd hp
    have D3 := D2.same S3
    refine ⟨_, _, .lst (SqL.of D3.h0) (dp_ints zs'), .lst (SqL.of upd_same) .nil, shaped_ints zs', rfl, _, rfl, ?_⟩
    rw [eqv_nil]
    cases zs' with
    | nil =>
      refine iteF ?_
      -- if state[0] != []: no
      show if false = true then _ else _
      refine iteF ?_
      have F3 : Frm H (upd H' p (.lst [])) st l0 l0' := ⟨fun b o e h1 h2 => S3 _ _ (F2.keep b o e h1 h2), F2.new⟩
      refine ⟨_, rfl, st, _, 0, .ref l0', rfl, rfl, SqL.of D3.hs, rfl, Nat.zero_le _, fun p4 hp4 => ?_⟩
      have S4 : Same (upd H' p (.lst [])) (upd (upd H' p (.lst [])) p4 (.lst [])) := same_upd hp4
      have D4 := D3.same S4
      refine ⟨_, _, .lst (SqL.of D4.h0) (dp_ints []), .lst (SqL.of upd_same) .nil, rfl, rfl, _, rfl, ?_⟩
      show if false = true then _ else _
      refine iteF ?_
      -- cell = int(state[1][int(state[2]) % len(state[1])]) % 2147483647
      obtain ⟨c, ec⟩ := at_mod D4.c0 (n + 1)
      have hlen : (cs.map V.int).length = cs.length := List.length_map _
      refine ⟨_, rfl, st, _, 1, .ref l1, rfl, rfl, SqL.of D4.hs, rfl, _, rfl, st, _, 2, .int ((n + 1 : Nat) : Int), rfl, rfl, SqL.of D4.hs, rfl, .inl ⟨_, rfl, _, rfl, st, _, 1, .ref l1, rfl, rfl, SqL.of D4.hs, rfl, l1, _, rfl, .inl (SqL.of D4.h1), _, _, rfl, rfl, (by rw [hlen]; have := D4.c0; omega), l1, _, _, .int c, rfl, rfl, SqL.of D4.h1, (by rw [hlen]; exact ec), .inl ⟨_, rfl, _, _, rfl, rfl, (by show (0 : Int) < 2147483647; decide), ?_⟩⟩⟩
      obtain ⟨d, hd⟩ : ∃ d : Int, d = c % 2147483647 := ⟨_, rfl⟩
      have c0 : 0 ≤ d := by omega
      have c1 : d < 2147483647 := by omega
      -- one
      obtain ⟨y, hy⟩ : ∃ y : Int, y = ((d * 48271 + ((n + 1 : Nat) : Int) * 69621 + 7) ^ (5 : Int).toNat) % 2147483647 := ⟨_, rfl⟩
      have y0 : 0 ≤ y := hy ▸ Int.emod_nonneg _ (by decide)
      have y1 : y < 2147483647 := hy ▸ Int.emod_lt_of_pos _ (by decide)
      refine ⟨_, rfl, d, 48271, congrArg V.int hd.symm, rfl, .inl (by omega), _, rfl, st, _, 2, .int ((n + 1 : Nat) : Int), rfl, rfl, SqL.of D4.hs, rfl, ((n + 1 : Nat) : Int), 69621, rfl, rfl, .inl (by omega), d * 48271, ((n + 1 : Nat) : Int) * 69621, rfl, rfl, _, 7, rfl, rfl, _, 5, rfl, rfl, ⟨by decide, by decide, by omega⟩, .inl ⟨_, rfl, _, 2147483647, rfl, rfl, (by show (0 : Int) < 2147483647; decide), ?_⟩⟩
      refine ⟨_, rfl, y, 16807, congrArg V.int hy.symm, rfl, .inl (by omega), _, rfl, st, _, 2, .int ((n + 1 : Nat) : Int), rfl, rfl, SqL.of D4.hs, rfl, ((n + 1 : Nat) : Int), 40692, rfl, rfl, .inl (by omega), y * 16807, ((n + 1 : Nat) : Int) * 40692, rfl, rfl, _, 13, rfl, rfl, _, 5, rfl, rfl, ⟨by decide, by decide, by omega⟩, .inl ⟨_, rfl, _, 2147483629, rfl, rfl, (by show (0 : Int) < 2147483629; decide), _, rfl, _, size, rfl, rfl, hz0, ?_⟩⟩
      exact k _ _ l0' (Int.emod_nonneg _ (by omega)) (Int.emod_lt_of_pos _ hz0) ⟨_, _, D4⟩ ⟨fun b o e h1 h2 => S4 _ _ (F3.keep b o e h1 h2), F3.new⟩
    | cons z r =>
      refine iteT ?_
      -- state[0][0] == 0
      refine ⟨_, rfl, st, _, 0, .ref l0', rfl, rfl, SqL.of D3.hs, rfl, l0', _, 0, .int z, rfl, rfl, SqL.of D3.h0, atI_nat (j := 0) rfl, rfl, _, rfl, ?_⟩
      have F3 : Frm H (upd H' p (.lst [])) st l0 l0' := ⟨fun b o e h1 h2 => S3 _ _ (F2.keep b o e h1 h2), F2.new⟩
      by_cases ez : z = 0
      · rw [decide_eq_true (by rw [ez])]
        show if true = true then _ else _
        refine iteT ?_
        refine ⟨fun σ' H'' => ∃ l0'', σ' = [some (.ref st), some (.int size), none, none, none] ∧ DrwZ H'' st l0'' l1 (n + 1) r cs ∧ Frm H H'' st l0 l0'', fun σ' H'' hN => ?_, ?_⟩
        · obtain ⟨l0'', e1, e2, e3⟩ := hN
          exact ⟨r.length, by simp, l0'', r, rfl, e1, e2, e3⟩
        · refine ⟨_, rfl, st, _, 0, .ref l0', rfl, rfl, SqL.of D3.hs, rfl, 1, rfl, l0', _, rfl, SqL.of D3.h0, fun q hq => ?_⟩
          have S4 : Same (upd H' p (.lst [])) (upd (upd H' p (.lst [])) q (.lst (cutV ((z :: r).map V.int) (some 1) none))) := same_upd hq
          have D4 := D3.same S4
          have nq : ∀ {b o}, (upd H' p (.lst [])) b = some o → b ≠ q := fun e => ne_of_none e hq
          refine ⟨_, rfl, st, _, 0, 0, rfl, rfl, D4.hs, rfl, q, rfl, ⟨upd_same, ?_, ?_, by have := D4.z; rw [List.length_cons] at this; omega, D4.c0, D4.c, (nq D3.hs).symm, D4.n1, (nq D3.h1).symm⟩, ⟨fun b o e h1 h2 => ?_, ?_⟩⟩
          · rw [upd_ne (nq D3.hs).symm, upd_same, cut1]
            rfl
          · rw [upd_ne D4.n1]
            exact D4.h1
          · rw [upd_ne h1]
            exact S4 _ _ (F3.keep b o e h1 h2)
          · by_cases h2 : q = l0
            · exact .inl h2
            · refine .inr ?_
              cases e : H q with
              | none => rfl
              | some o =>
                by_cases h1 : q = st
                · exact absurd h1.symm (nq D3.hs)
                · rw [F3.keep q o e h1 h2] at hq
                  cases hq
      · rw [decide_eq_false (fun e => ez (V.int.inj e))]
        show if false = true then _ else _
        refine iteF ?_
        -- if state[0] != []: yes
        refine ⟨_, rfl, st, _, 0, .ref l0', rfl, rfl, SqL.of D3.hs, rfl, Nat.zero_le _, fun p4 hp4 => ?_⟩
        have S4 : Same (upd H' p (.lst [])) (upd (upd H' p (.lst [])) p4 (.lst [])) := same_upd hp4
        have D4 := D3.same S4
        refine ⟨_, _, .lst (SqL.of D4.h0) (dp_ints (z :: r)), .lst (SqL.of upd_same) .nil, shaped_ints (z :: r), rfl, _, rfl, ?_⟩
        rw [eqv_nil]
        show if true = true then _ else _
        refine iteT ?_
        -- digit = int(state[0][0]) % size
        refine ⟨_, rfl, st, _, 0, .ref l0', rfl, rfl, SqL.of D4.hs, rfl, l0', _, 0, .int z, rfl, rfl, SqL.of D4.h0, atI_nat (j := 0) rfl, .inl ⟨_, rfl, _, rfl, _, size, rfl, rfl, hz0, ?_⟩⟩
        -- state[0][0] = state[0][0] // size
        refine ⟨_, rfl, st, _, 0, .ref l0', rfl, rfl, SqL.of D4.hs, rfl, l0', _, 0, .int z, rfl, rfl, SqL.of D4.h0, atI_nat (j := 0) rfl, _, rfl, z, size, rfl, rfl, wide_div hz0 (b := 40) (by omega) (by decide) (by decide), _, rfl, st, _, 0, .ref l0', rfl, rfl, SqL.of D4.hs, rfl, l0', _, 0, 0, rfl, rfl, D4.h0, ixN_zero (by simp), _, rfl, ?_⟩
        refine k _ _ l0' (Int.emod_nonneg _ (by omega)) (Int.emod_lt_of_pos _ hz0) ⟨z / size :: r, cs, ?_, upd_same, ?_, D4.z, D4.c0, D4.c, D4.n0, D4.n1, D4.n01⟩ ⟨fun b o e h1 h2 => ?_, F3.new⟩
        · rw [upd_ne D4.n0.symm]
          exact D4.hs
        · rw [upd_ne D4.n01.symm]
          exact D4.h1
        · by_cases h3 : b = l0'
          · exfalso
            rcases F3.new with e3 | e3
            · exact h2 (h3.trans e3)
            · rw [h3, e3] at e
              cases e
          · rw [upd_ne h3]
            exact S4 _ _ (F3.keep b o e h1 h2)
/-! ### _law_start -/
def spStart (K : PySem.W.Frag) : Sp := fun vs H Q _ => ∃ (a : Addr) (ns : List Int), vs = [.ref a] ∧ SqL K H a (ns.map V.int) ∧ ns.length ≤ 63 ∧
  ∀ (H' : Hp) (st l0 l1 : Addr), H st = none → H l0 = none → H l1 = none → Same H H' → Drw H' st l0 l1 0 → Q (.ref st) H'
theorem ok_start {f : Addr} {fd : FuncData} (F : Fun K "_law_start" "_law_start" sStart f fd) (ma : mg "abs" = none) (ml : mg "list" = none) : FnOk P w K mg base CX0 1 f fd ["_law_script"] (spStart K) := by
  refine F.ok scStart (fun vs H Q E h => ?_) (fun cdv A outer s H vs Q E hr h => ?_)
  · obtain ⟨a, ns, rfl, _⟩ := h
    rfl
  · obtain ⟨a, ns, rfl, hS, hl, k⟩ := h
    have nd := scStart.nd
    refine ⟨_, pss_one (ps_ret (pe_lst (pa_cons (pe_lc (own := [("_law_cell", 1)]) (g := gName 1) rfl nd (pi_list (pv 0)) (blkOk_by (N := ["_law_script", "_law_cell"]) (sc := defScope sStart) (by decide +kernel)) (fun _ _ _ _ _ => pg_name (i := 1) nd rfl (Or.inl rfl))
        (fun _ _ _ _ _ => pts_one (pt_cmpR op_ge (pe_callB call_abs (by rfl) ma (by decide +kernel) (pa_cons (pv 1) pa_nil)) (pe_op op_pow pe_int pe_int) (nomark _)))
        (fun _ _ _ _ _ => pe_callB call_abs (by rfl) ma (by decide +kernel) (pa_cons (pv 1) pa_nil)))
      (pa_cons (pe_op op_cat (pe_callTy call_list_of (by rfl) ml (by decide +kernel) (pa_cons (pv 0) pa_nil)) (pe_lst (pa_cons pe_int pa_nil)))
      (pa_cons pe_int pa_nil))))), ?_⟩
    refine ⟨_, rfl, a, rfl, ⟨_, hS⟩, fun D hD => ?_⟩
    have nDa : ∀ {b o}, H b = some o → b ≠ D := fun e => ne_of_none e hD
    refine lc_list (K := K) (a := a) (xs := ns.map V.int) (fun i H' => ∃ zs : List Int, zs.length ≤ i ∧ H' = upd H D (.lst (zs.map V.int))) ⟨[], Nat.le_refl _, rfl⟩ (fun i H' _ h => ?_) (fun i x H' hi h => ?_) (fun H' h => ?_)
    · obtain ⟨zs, _, rfl⟩ := h
      exact (same_upd hD).seq hS
    · obtain ⟨zs, hz, rfl⟩ := h
      obtain ⟨c, rfl⟩ : ∃ c, x = V.int c := by
        rw [List.getElem?_map] at hi
        cases e : ns[i]? with
        | none => rw [e] at hi; cases hi
        | some z => rw [e] at hi; exact ⟨z, (Option.some.inj hi).symm⟩
      have hi2 : i < ns.length := by
        have := (List.getElem?_eq_some_iff.mp hi).1
        rwa [List.length_map] at this
      refine ⟨rfl, _, rfl, c, rfl, 10, 18, rfl, rfl, ⟨by decide, by decide, by decide⟩, _, _, rfl, rfl, _, rfl, ?_⟩
      refine ite2 (fun _ => ?_) (fun _ => ⟨zs, Nat.le_succ_of_le hz, rfl⟩)
      refine ⟨_, rfl, c, rfl, zs.map V.int, upd_same, ?_, zs ++ [if c < 0 then -c else c], by simp; omega, ?_⟩
      · rw [List.length_map]
        exact small1000 (by omega)
      · rw [upd_upd, List.map_append]
        rfl
    · obtain ⟨zs, hz, rfl⟩ := h
      rw [List.length_map] at hz
      have s1 : Same H (upd H D (.lst (zs.map V.int))) := same_upd hD
      refine ⟨_, rfl, a, _, rfl, .inl (s1.seq hS), fun p hp => ?_⟩
      have s2 := s1.trans (same_upd (o := .lst (ns.map V.int)) hp)
      refine ⟨by decide, fun q hq => ?_⟩
      have npq : p ≠ q := ne_of_none upd_same hq
      refine ⟨p, q, _, _, rfl, rfl, (by rw [upd_ne npq, upd_same]), upd_same, ?_, fun l1 hl1 => ?_⟩
      · rw [List.length_map]
        exact Nat.le_of_lt (small1000 (by simp; omega))
      refine ⟨(by show 3 ≤ sizeLine; decide), fun st hst => ?_⟩
      have s3 := s2.trans (same_upd (o := .lst [V.int 5]) hq)
      have s4 := s3.trans (same_upd (o := .lst (ns.map V.int ++ [V.int 5])) hl1)
      have s5 := s4.trans (same_upd (o := .lst [V.ref D, V.ref l1, V.int 0]) hst)
      have dD : (upd (upd (upd H D (.lst (zs.map V.int))) p (.lst (ns.map V.int))) q (.lst [V.int 5])) D = some (.lst (zs.map V.int)) :=
        same_upd hq _ _ (same_upd hp _ _ upd_same)
      have dD4 := same_upd hl1 (o := .lst (ns.map V.int ++ [V.int 5])) _ _ dD
      refine k _ st D l1 (s4.free hst) hD (s3.free hl1) s5 ⟨zs, ns ++ [5], upd_same, same_upd hst _ _ dD4, ?_, by omega, by simp, by simp; omega, ne_of_none dD4 hst, ne_of_none upd_same hst, ne_of_none dD hl1⟩
      rw [upd_ne (ne_of_none upd_same hst), upd_same, List.map_append]
      rfl
end
end TP
namespace TP
open PySem PySem.Spec PyProof.Rows L2
abbrev sValid : Stmt := topS 4
abbrev sSigns : Stmt := topS 8
abbrev sGood : Stmt := topS 9
abbrev sLaw : Stmt := topS 10
theorem scValid : FnScope ["text", "sign"] ["text"] (defScope sValid) := ⟨rfl, rfl, rfl, by decide +kernel, rfl, by decide +kernel, by decide +kernel⟩
theorem scSigns : FnScope ["_law_signs_here"] [] (defScope sSigns) := ⟨rfl, rfl, rfl, by decide +kernel, rfl, by decide +kernel, by decide +kernel⟩
theorem scGood : FnScope ["_law_word", "_law_letters", "_law_sign"] ["_law_word"] (defScope sGood) := ⟨rfl, rfl, rfl, by decide +kernel, rfl, by decide +kernel, by decide +kernel⟩
/-! ### the mathematics -/
def lets : List Nat := (List.range 26).map (· + 97)
def digs : List Nat := (List.range 10).map (· + 48)
def inName (c : Nat) : Bool := decide (c ∈ lets) || decide (c ∈ digs)
/-- a name: 1 to 6 letters and digits, a letter ahead -/
def good (w : Str) : Bool := decide (1 ≤ w.length) && (decide (w.length ≤ 6) && ((match w.cps.toList with | c :: _ => decide (c ∈ lets) | [] => false) && w.cps.toList.all inName))
section
variable {P : Program} {w : World} {K : PySem.W.Frag} {mg : Str → Option Value} {base : Heap}
/-- every sign is a code point -/
def okS (z : Str) : Prop := ∀ c ∈ z.cps.toList, c < 1114112
/-- of a text of at most 1000 signs: is it a name; all that stood stands -/
def spName : Sp := fun vs H Q _ => ∃ z : Str, vs = [.str z] ∧ z.length ≤ 1000 ∧ okS z ∧ ∀ H', Same H H' → Q (.bl (good z)) H'
theorem sign_at {z : Str} {i c : Nat} (h : z.cps[i]? = some c) : z.cps.toList[i]? = some c := by simpa using h
theorem take_all {f : Nat → Bool} {l : List Nat} {i c : Nat} (h : l[i]? = some c) : (l.take (i + 1)).map f = (l.take i).map f ++ [f c] := by
  rw [List.take_add_one, h, List.map_append]
  rfl
theorem ok_valid {f : Addr} {fd : FuncData} {tN tL tD : Tok} {L D : Str} (F : Fun K "valid_name" "valid_name" sValid f fd) (ml : mg "len" = none) (ma : mg "all" = none)
    (gN : mg "LONGEST" = some (.int 6 tN)) (gL : mg "LETTERS" = some (.str L tL)) (gD : mg "DIGITS" = some (.str D tD)) (eL : L.cps.toList = lets) (eD : D.cps.toList = digs) :
    FnOk P w K mg base CX0 1 f fd ["text"] spName := by
  refine F.ok scValid (fun vs H Q E h => ?_) (fun cdv A outer s H vs Q E hr h => ?_)
  · obtain ⟨z, rfl, _⟩ := h
    rfl
  · obtain ⟨z, rfl, hz, hk, k⟩ := h
    have nd := scValid.nd
    have hz2 : z.length ≤ sizeLine := Nat.le_of_lt (small1000 hz)
    refine ⟨_, pss_cons (ps_if (pt_not (pt_chain op_le op_le pe_int (pe_callB call_len_str (by rfl) ml PySem.boot_len (pa_cons (pv 0) pa_nil)) (pe_glob (v := .int 6) rfl gN ⟨_, rfl⟩))) (pss_one (ps_ret pe_bl)) pss_nil)
      (pss_one (ps_ret (pe_and (pe_cmpR op_in_sign (pe_ix ix_str (pv 0) pe_int (fun _ _ => rfl)) (pe_glob (v := .str L) rfl gL ⟨_, rfl⟩) (by rfl))
        (pe_one (pe_callB (cr_all rfl) (by rfl) ma (by decide +kernel) (pa_cons (pe_lc (own := [("sign", 1)]) (g := gName 1) (tt := tYes) rfl nd (pi_str (pv 0)) (blkOk_by (N := ["text", "sign"]) (sc := defScope sValid) (by decide +kernel)) (fun _ _ _ _ _ => pg_name (i := 1) nd rfl (Or.inl rfl)) (fun _ _ _ _ _ => pts_nil)
          (fun _ _ _ _ _ => pe_or (pe_cmpR op_in_sign (pv 1) (pe_glob (v := .str L) rfl gL ⟨_, rfl⟩) (by rfl)) (pe_one (pe_cmpR op_in_sign (pv 1) (pe_glob (v := .str D) rfl gD ⟨_, rfl⟩) (by rfl))))) pa_nil)))))), ?_⟩
    refine ⟨_, rfl, z, rfl, hz2, 1, _, rfl, rfl, _, rfl, ?_⟩
    have bad : (1 ≤ z.length ∧ z.length ≤ 6 → False) → good z = false := fun h => by
      unfold good
      by_cases h1 : 1 ≤ z.length
      · rw [decide_eq_false (fun h2 : z.length ≤ 6 => h ⟨h1, h2⟩), Bool.false_and, Bool.and_false]
      · rw [decide_eq_false h1, Bool.false_and]
    refine ite2 (fun h1 => ?_) (fun h1 => ?_)
    · have g1 : (1 : Int) ≤ z.length := of_decide_eq_true h1
      refine ⟨_, _, rfl, rfl, _, rfl, ?_⟩
      by_cases g2 : (z.length : Int) ≤ 6
      · rw [decide_eq_true g2]
        refine iteF ?_
        obtain ⟨c, r, ec⟩ : ∃ c r, z.cps.toList = c :: r := by
          cases e : z.cps.toList with
          | nil =>
            have e2 : z.length = 0 := by
              show z.cps.size = 0
              rw [← Array.length_toList, e]
              rfl
            omega
          | cons c r => exact ⟨c, r, rfl⟩
        have eg : good z = (decide (c ∈ lets) && z.cps.toList.all inName) := by
          unfold good
          rw [decide_eq_true (show 1 ≤ z.length by omega), decide_eq_true (show z.length ≤ 6 by omega), ec]
          simp
        refine ⟨_, rfl, z, 0, c, rfl, rfl, hz2, (by rw [ec]; exact atI_nat (j := 0) rfl), c, L, rfl, rfl, _, rfl, ?_⟩
        rw [eL]
        refine ite2 (fun h2 => ?_) (fun h2 => ?_)
        · refine ⟨_, rfl, z, rfl, fun p hp => ?_⟩
          refine lc_it walk_str (fun i H' => H' = upd H p (.lst (((z.cps.toList.take i).map inName).map V.bl))) rfl (fun _ _ _ _ => trivial) (fun i x H1 H2 hi h hy => ?_) (fun H' h => ?_)
          · obtain ⟨rfl, d, ed, rfl⟩ := hy
            subst h
            have el := sign_at ed
            have e3 := take_all (f := inName) el
            have sz : (((z.cps.toList.take i).map inName).map V.bl).length < sizeLine := by
              rw [List.length_map, List.length_map, List.length_take]
              exact small1000 (by
                have : z.cps.size = z.length := rfl
                omega)
            refine ⟨rfl, _, rfl, d, L, rfl, rfl, _, rfl, ?_⟩
            rw [eL]
            refine ite2 (fun q => ?_) (fun q => ?_)
            · refine ⟨_, upd_same, sz, ?_⟩
              rw [upd_upd, e3, List.map_append]
              have e4 : inName d = true := by
                unfold inName
                rw [q, Bool.true_or]
              rw [e4]
              rfl
            · refine ⟨_, rfl, d, D, rfl, rfl, _, upd_same, sz, ?_⟩
              rw [upd_upd, e3, List.map_append, eD]
              have e4 : inName d = decide (d ∈ digs) := by
                unfold inName
                rw [Bool.eq_false_iff.mpr q, Bool.false_or]
              rw [e4]
              rfl
          · subst h
            have sz : z.cps.size = z.cps.toList.length := Array.length_toList.symm
            rw [sz, List.take_length]
            refine ⟨p, _, rfl, SqL.of upd_same, ?_⟩
            have := k (upd H p (.lst ((z.cps.toList.map inName).map V.bl))) (same_upd hp)
            rw [eg, h2, Bool.true_and] at this
            rw [List.all_map]
            exact this
        · have := k H (Same.refl H)
          rw [eg, Bool.eq_false_iff.mpr h2, Bool.false_and] at this
          exact this
      · rw [decide_eq_false g2]
        refine iteT ?_
        have := k H (Same.refl H)
        rw [bad (by omega)] at this
        exact this
    · have g1 : ¬ (1 : Int) ≤ z.length := fun q => h1 (decide_eq_true q)
      refine ⟨_, rfl, iteT ?_⟩
      have := k H (Same.refl H)
      rw [bad (by omega)] at this
      exact this
/-! ### _law_signs, _law_good -/
def textOf : Expr → Str
  | .Constant (.str x) _ _ => x
  | _ => Str.empty
/-- the signs, as the def's two texts write them -/
def sig : Str := match defBody sSigns with
  | [.Assign _ e _, .Return (some (.BinOp _ _ e2 _)) _] => textOf e ++ textOf e2
  | _ => Str.empty
theorem sig_pos : 0 < sig.length := by decide +kernel
theorem sig_len : sig.length ≤ 100 := by decide +kernel
theorem sig_ok : okS sig := by unfold okS; decide +kernel
def spSigns : Sp := fun vs H Q _ => vs = [] ∧ Q (.str sig) H
theorem ok_signs {f : Addr} {fd : FuncData} (F : Fun K "_law_signs" "_law_signs" sSigns f fd) : FnOk P w K mg base CX0 1 f fd [] spSigns := by
  refine F.ok scSigns (fun vs H Q E h => ?_) (fun cdv A outer s H vs Q E hr h => ?_)
  · obtain ⟨rfl, _⟩ := h
    rfl
  · obtain ⟨rfl, k⟩ := h
    have nd := scSigns.nd
    refine ⟨_, pss_cons (ps_set (i := 0) nd rfl (.inl rfl) pe_str) (pss_one (ps_ret (pe_op op_add_str (pv 0) pe_str))), ?_⟩
    refine ⟨_, rfl, _, _, rfl, rfl, (by decide +kernel), ?_⟩
    exact k
def one (c : Nat) : Str := ⟨#[c]⟩
theorem dp_signs {H : Hp} : ∀ cs : List Nat, DpAll K H (cs.map fun c => V.str (one c)) (cs.map fun c => PyData.str (one c))
  | [] => .nil
  | c :: r => .cons (.str (one c)) (dp_signs r)
theorem shaped_signs (cs : List Nat) (hc : ∀ c ∈ cs, c < 1114112) : SeqAt.shaped (.list (cs.map fun c => PyData.str (one c))) = true := by
  have h1 : ∀ l : List Nat, (∀ c ∈ l, c < 1114112) → PyData.canLayAll0 (l.map fun c => PyData.str (one c)) = true := fun l => by
    induction l with
    | nil => intro _; rfl
    | cons z r ih =>
      intro h
      have e : PyData.strOk (one z) = true := by
        unfold PyData.strOk one
        simpa using h z (List.mem_cons_self ..)
      simp [PyData.canLayAll0, PyData.canLay0, e, ih fun c hc => h c (List.mem_cons_of_mem _ hc)]
  have h2 : ∀ l : List Nat, PyData.depthAll (l.map fun c => PyData.str (one c)) ≤ 1 := fun l => by
    induction l with
    | nil => simp [PyData.depthAll]
    | cons z r ih => simp [PyData.depthAll, PyData.depth]; omega
  have h3 := h2 cs
  simp [SeqAt.shaped, PyData.canLay0, h1 cs hc, PyData.depth]
  omega
theorem eqv_nil' (zs : List PyData) : PyData.eqv (.list zs) (.list []) = zs.isEmpty := by
  cases zs <;> rfl
theorem ok_good {f : Addr} {fd : FuncData} (F : Fun K "_law_good" "_law_good" sGood f fd) (ml : mg "len" = none) : FnOk P w K mg base CX0 1 f fd ["_law_word"] spName := by
  refine F.ok scGood (fun vs H Q E h => ?_) (fun cdv A outer s H vs Q E hr h => ?_)
  · obtain ⟨z, rfl, _⟩ := h
    rfl
  · obtain ⟨z, rfl, hz, hk, k⟩ := h
    have nd := scGood.nd
    have hz2 : z.length ≤ sizeLine := Nat.le_of_lt (small1000 hz)
    refine ⟨_, pss_cons (ps_set (i := 1) nd rfl (.inr rfl) pe_str)
      (pss_cons (ps_if (PW.pt (pw_or (pt_cmpR op_lt (pe_callB call_len_str (by rfl) ml PySem.boot_len (pa_cons (pv 0) pa_nil)) pe_int (nomark _)) (pw_or (pt_cmpR op_gt (pe_callB call_len_str (by rfl) ml PySem.boot_len (pa_cons (pv 0) pa_nil)) pe_int (nomark _)) (pw_or1 (pt_cmpR op_notIn_sign (pe_ix ix_str (pv 0) pe_int (fun _ _ => rfl)) (pv 1) (by rfl))))))
        (pss_one (ps_ret pe_bl)) pss_nil)
      (pss_one (ps_ret (pe_cmpR (op_eqD hr.units) (pe_lc (own := [("_law_sign", 2)]) (g := gName 2) rfl nd (pi_str (pv 0)) (blkOk_by (N := ["_law_word", "_law_letters", "_law_sign"]) (sc := defScope sGood) (by decide +kernel)) (fun _ _ _ _ _ => pg_name (i := 2) nd rfl (Or.inl rfl))
        (fun _ _ _ _ _ => pts_one (pt_cmpR op_notIn_sign (pv 2) (pe_op op_add_str (pv 1) pe_str) (by rfl))) (fun _ _ _ _ _ => pv 2)) (pe_lst pa_nil) (nomark _))))), ?_⟩
    have bad : (1 ≤ z.length ∧ z.length ≤ 6 → False) → good z = false := fun h => by
      unfold good
      by_cases h1 : 1 ≤ z.length
      · rw [decide_eq_false (fun h2 : z.length ≤ 6 => h ⟨h1, h2⟩), Bool.false_and, Bool.and_false]
      · rw [decide_eq_false h1, Bool.false_and]
    refine ⟨_, rfl, z, rfl, hz2, _, 1, rfl, rfl, _, rfl, ?_⟩
    refine ite2 (fun h1 => ?_) (fun h1 => ?_)
    · have g1 : (z.length : Int) < 1 := of_decide_eq_true h1
      have := k H (Same.refl H)
      rw [bad (by omega)] at this
      exact iteT this
    · have g1 : ¬ (z.length : Int) < 1 := fun q => h1 (decide_eq_true q)
      refine ⟨_, rfl, z, rfl, hz2, _, 6, rfl, rfl, _, rfl, ?_⟩
      refine ite2 (fun h2 => ?_) (fun h2 => ?_)
      · have g2 : (6 : Int) < z.length := of_decide_eq_true h2
        have := k H (Same.refl H)
        rw [bad (by omega)] at this
        exact iteT this
      · have g2 : ¬ (6 : Int) < z.length := fun q => h2 (decide_eq_true q)
        obtain ⟨c, r, ec⟩ : ∃ c r, z.cps.toList = c :: r := by
          cases e : z.cps.toList with
          | nil =>
            have e2 : z.length = 0 := by
              show z.cps.size = 0
              rw [← Array.length_toList, e]
              rfl
            omega
          | cons c r => exact ⟨c, r, rfl⟩
        have eg : good z = (decide (c ∈ lets) && z.cps.toList.all inName) := by
          unfold good
          rw [decide_eq_true (show 1 ≤ z.length by omega), decide_eq_true (show z.length ≤ 6 by omega), ec]
          simp
        refine ⟨_, rfl, z, 0, c, rfl, rfl, hz2, (by rw [ec]; exact atI_nat (j := 0) rfl), _, rfl, c, _, rfl, rfl, _, rfl, ?_⟩
        have eL : (Str.ofString "abcdefghijklmnopqrstuvwxyz").cps.toList = lets := by decide +kernel
        show if (!decide (c ∈ (Str.ofString "abcdefghijklmnopqrstuvwxyz").cps.toList)) = true then _ else _
        rw [eL]
        by_cases h3 : c ∈ lets
        · rw [decide_eq_true h3]
          refine iteF ?_
          have eLD : ((Str.ofString "abcdefghijklmnopqrstuvwxyz") ++ (Str.ofString "0123456789")).cps.toList = lets ++ digs := by decide +kernel
          have inn : ∀ d, decide (d ∈ lets ++ digs) = inName d := fun d => by
            unfold inName
            rw [← Bool.decide_or, decide_eq_decide, List.mem_append]
          refine ⟨_, rfl, z, rfl, fun p hp => ?_⟩
          refine lc_it walk_str (fun i H' => H' = upd H p (.lst (((z.cps.toList.take i).filter fun d => !inName d).map fun d => V.str (one d)))) rfl (fun _ _ _ _ => trivial) (fun i x H1 H2 hi h hy => ?_) (fun H' h => ?_)
          · obtain ⟨rfl, d, ed, rfl⟩ := hy
            subst h
            have el := sign_at ed
            have e3 : (z.cps.toList.take (i + 1)).filter (fun d => !inName d) = (z.cps.toList.take i).filter (fun d => !inName d) ++ (if !inName d then [d] else []) := by
              rw [List.take_add_one, el, List.filter_append]
              cases q : inName d <;> simp [q]
            have sz : (((z.cps.toList.take i).filter fun d => !inName d).map fun d => V.str (one d)).length < sizeLine := by
              rw [List.length_map]
              refine small1000 (Nat.le_trans (List.length_filter_le _ _) ?_)
              rw [List.length_take, Array.length_toList]
              have : z.cps.size = z.length := rfl
              omega
            refine ⟨rfl, _, rfl, _, rfl, _, _, rfl, rfl, (by decide +kernel), d, _, rfl, rfl, _, rfl, ?_⟩
            show if (!decide (d ∈ ((Str.ofString "abcdefghijklmnopqrstuvwxyz") ++ (Str.ofString "0123456789")).cps.toList)) = true then _ else _
            rw [eLD, inn]
            cases q : inName d with
            | true =>
              refine iteF ?_
              show upd H p _ = _
              rw [e3, q]
              simp
            | false =>
              refine iteT ⟨_, rfl, _, upd_same, sz, ?_⟩
              show upd (upd H p _) p _ = _
              rw [upd_upd, e3, q]
              simp [one]
          · subst h
            have sz : z.cps.size = z.cps.toList.length := Array.length_toList.symm
            rw [sz, List.take_length]
            refine ⟨Nat.zero_le _, fun q hq => ?_⟩
            have s1 : Same H (upd H p (.lst (((z.cps.toList).filter fun d => !inName d).map fun d => V.str (one d)))) := same_upd hp
            refine ⟨_, _, .lst (SqL.of (by rw [upd_ne (ne_of_none upd_same hq), upd_same])) (dp_signs _), .lst (SqL.of upd_same) .nil, shaped_signs _ (fun d hd => hk d (List.mem_filter.mp hd).1), rfl, ?_⟩
            have := k _ (s1.trans (same_upd (o := .lst []) hq))
            rw [eg, decide_eq_true h3, Bool.true_and] at this
            rw [eqv_nil']
            have e5 : (((z.cps.toList).filter fun d => !inName d).map fun c => PyData.str (one c)).isEmpty = z.cps.toList.all inName := by
              generalize z.cps.toList = l
              induction l with
              | nil => rfl
              | cons d r ih =>
                rw [List.filter_cons, List.all_cons]
                cases q : inName d with
                | true => simpa using ih
                | false => simp
            rw [e5]
            exact this
        · rw [decide_eq_false h3]
          have := k H (Same.refl H)
          rw [eg, decide_eq_false h3, Bool.false_and] at this
          exact iteT this
end
end TP
namespace TP
open PySem PySem.Spec PyProof.Rows L2
section
variable {X : Cx}
/-- a text turned round -/
def tRevS (te : TE) : TE := fun σ H Q => te σ H fun x H1 => ∃ z : Str, x = .str z ∧ z.length ≤ sizeLine ∧
  ∀ y : Str, (y.cps.toList = (List.range z.length).map fun k => z.cps.getD (z.length - 1 - k) 0) → Q (.str y) H1
theorem pe_revS {e : Expr} {te : TE} {k : Nat} {p1 p2 p3 pos : Pos} (he : PE X e te) :
    PE X (.Subscript e (.Slice none none (some (.UnaryOp .USub (.Constant (.int 1) k p1) p2)) p3) pos) (tRevS te) := by
  constructor
  intro pins s σ H Q I h
  refine Subscript_ (thn (he.run pins s σ H _ I h) ?_)
  rintro v s1 ⟨x, H1, I1, r1, z, rfl, hz, q⟩
  obtain ⟨tk, rfl⟩ := r1
  have ps : PO X (some (.UnaryOp .USub (.Constant (.int 1) k p1) p2)) (tPart (tUn (rU fun i => .int (-i)) (tC (.int 1)))) := po_some (pe_un un_neg pe_int)
  refine wpAny_Slice (thn (po_none.run pins s1 σ H1 (fun o G => o = none ∧ G = H1) I1 ⟨rfl, rfl⟩) ?_)
  rintro va s2 ⟨_, _, I2, pa, rfl, rfl⟩
  refine thn (po_none.run pins s2 σ _ (fun o G => o = none ∧ G = _) I2 ⟨rfl, rfl⟩) ?_
  rintro vb s3 ⟨_, _, I3, pb, rfl, rfl⟩
  refine thn (ps.run pins s3 σ _ (fun o G => o = some (-1) ∧ G = _) I3 ⟨1, rfl, -1, rfl, rfl, rfl⟩) ?_
  rintro vc s4 ⟨_, G, I4, pc, rfl, rfl⟩
  have I5 : Inv X pins σ G { s4 with heap := s4.heap.push { cls := .type "slice", data := .fields #[va, vb, vc] } } := I4.kept (t' := s4.toks) fun b ob q => Heap.get?_push_of_some _ q
  obtain ⟨l, rfl, el⟩ := IsPart.raw pa
  obtain ⟨u, rfl, eu⟩ := IsPart.raw pb
  obtain ⟨w, rfl, ew⟩ := IsPart.raw pc
  cases l with
  | some l => cases el
  | none =>
  cases u with
  | some u => cases eu
  | none =>
  cases w with
  | none => cases ew
  | some w =>
  obtain ⟨w, t⟩ := w
  obtain rfl : w = (-1 : Int) := Option.some.inj ew
  refine tail_any (T := "str") (ops := [.str z tk, .ref s4.heap.objs.size]) (typeIs_str _ _ _) (PySem.F.slot_str_getitem.lookup) ?_ (by with_unfolding_all rfl)
  refine wpAny_getItem_str_slice (l := none) (u := none) (st := some (-1, t)) ⟨_, Heap.get?_push_size _ rfl, rfl, rfl⟩ rfl ?_
  have hc : (((((some ((-1 : Int), t)).map (·.1)).getD 1 == 1) && ((slicePicked z none none (some (-1, t))).length == z.length)) = true) = False := by
    rw [show (((some ((-1 : Int), t)).map (·.1)).getD 1 == 1) = false from rfl, Bool.false_and]
    simp
  have hp : ((slicePicked z none none (some (-1, t))).filterMap (z.cps[·]?)) = (List.range z.length).map fun k => z.cps.getD (z.length - 1 - k) 0 := by
    show ((Builtin.Str.strSliceIndices none none (-1) z.length).filterMap (z.cps[·]?)) = _
    rw [picked_rev, filterMap_get, List.map_map]
    · rfl
    · intro i hi
      obtain ⟨k, hk, rfl⟩ := List.mem_map.mp hi
      have hk' : k < z.length := List.mem_range.mp hk
      show z.length - 1 - k < z.length
      omega
  unfold sliceMade
  rw [if_neg (by rw [hc]; exact id), hp]
  refine ⟨?_, .str _, G, I5.tok _, ⟨_, rfl⟩, q _ ?_⟩
  · show (List.toArray _).size ≤ sizeLine
    rw [List.size_toArray, List.length_map, List.length_range]
    exact hz
  · rfl
/-- a call with keywords alone -/
theorem pe_callK0 {CX : CXT} {k : Nat} {f : Addr} {fd : FuncData} {ps ks : List Str} {sp : Sp} {E : XK} {x : Str} {p pos : Pos} {kws : List Keyword} {tk : TA} {g : List Value → List Value → List Value} {gV : List V → List V → List V}
    (F : FnOk X.prog X.w X.K X.mg X.base CX k f fd ps sp) (hr : Room k X.A) (hg : Gl X x) (hm : X.mg x = some (.ref f))
    (hk : PySem.W.keepIn X.K (.ref f) = true) (hb : KBinds X.K fd ps ks g gV) (hx : Passes CX X E) (hkw : PK X kws tk)
    (hall : (backToKw pos (keywordEach kws X.env)).all (·.1.isSome) = true := by rfl)
    (hks : (backToKw pos (keywordEach kws X.env)).filterMap (·.1) = ks := by rfl) (hdb : (x == ("__debug__" : Str)) = false := by decide)
    (hpl : ((backTo pos (starEach [] X.env)).any (·.1) || (backToKw pos (keywordEach kws X.env)).any (·.1.isNone)) = false := by rfl) :
    PE X (.Call (.Name x p) [] kws pos) (tCallK sp gV E tNil tk) := by
  constructor
  intro pins s σ H Q I h
  refine wpAny_Call_Name_kw (ld_glob I hg hm ?_ hdb)
  refine PySem.W.callWith_KW0 (h₀ := X.base) I.ok.mod.kin hk hall ?_ hpl
  refine thn (hkw.run pos pins s σ H _ I h) ?_
  rintro ws s2 ⟨zs, H2, I2, rz, q2⟩
  rw [hks]
  exact ⟨I2.kIn, run_fnk (us := []) (vs := []) F hr hb hx I2 .nil rz q2⟩
end
end TP
namespace TP
open PySem PySem.Spec PyProof.Rows L2
theorem scLaw : FnScope ["_law_script", "_law_state", "_law_plan", "_law_signs_here", "_law_chars", "_law_word", "_law_actual", "_law_k"] ["_law_script"] (defScope sLaw) := ⟨rfl, rfl, rfl, by decide +kernel, rfl, by decide +kernel, by decide +kernel⟩
def spLaw (K : PySem.W.Frag) : Sp := fun vs H Q _ => ∃ (a : Addr) (ns : List Int), vs = [.ref a] ∧ SqL K H a (ns.map V.int) ∧ ns.length ≤ 63 ∧ ∀ H', Q (.bl true) H'
/-- a list of texts of one sign -/
abbrev sgs (cs : List Nat) : HO := .lst (cs.map fun c => V.str (one c))
theorem at_str {z : Str} {r : Int} (h0 : 0 ≤ r) (h1 : r < z.length) : ∃ c, atI z.cps.toList r = some c ∧ c ∈ z.cps.toList := by
  obtain ⟨j, rfl⟩ : ∃ j : Nat, r = (j : Int) := ⟨r.toNat, by omega⟩
  have hl : z.cps.toList.length = z.length := Array.length_toList
  have hj : j < z.cps.toList.length := by omega
  exact ⟨z.cps.toList[j], atI_nat (List.getElem?_eq_getElem hj), List.getElem_mem hj⟩
theorem at_four {α : Type} {x0 x1 x2 x3 : α} {r : Int} (h0 : 0 ≤ r) (h1 : r < 4) : ∃ v, atI [x0, x1, x2, x3] r = some v ∧ (v = x0 ∨ v = x1 ∨ v = x2 ∨ v = x3) := by
  have h : r = 0 ∨ r = 1 ∨ r = 2 ∨ r = 3 := by omega
  rcases h with rfl | rfl | rfl | rfl
  · exact ⟨x0, rfl, .inl rfl⟩
  · exact ⟨x1, rfl, .inr (.inl rfl)⟩
  · exact ⟨x2, rfl, .inr (.inr (.inl rfl))⟩
  · exact ⟨x3, rfl, .inr (.inr (.inr rfl))⟩
theorem str_size {z : Str} (h : z.length ≤ 100) : z.length ≤ sizeLine := Nat.le_of_lt (small1000 (by omega))
theorem Drw.ne_l0 {H : Hp} {st l0 l1 : Addr} {n : Nat} (d : Drw H st l0 l1 n) {q : Addr} (h : H q = none) : st ≠ q ∧ l0 ≠ q ∧ l1 ≠ q := by
  obtain ⟨zs, cs, d⟩ := d
  exact ⟨ne_of_none d.hs h, ne_of_none d.h0 h, ne_of_none d.h1 h⟩
/-- an address that is not the state's, behind a draw -/
theorem Frm.ne {H H' : Hp} {st l0 l0' p : Addr} {o : HO} (f : Frm H H' st l0 l0') (h : p ≠ l0) (hp : H p = some o) : p ≠ l0' := by
  rcases f.new with e | e
  · rw [e]; exact h
  · exact ne_of_none hp e
/-- signs at p, beside the drawing state -/
structure Sgn (H : Hp) (st l1 p : Addr) (cs : List Nat) (n : Nat) : Prop where
  len : cs.length ≤ 80
  ok : ∀ c ∈ cs, c < 1114112
  at_ : H p = some (sgs cs)
  dr : ∃ m, Drw H st m l1 n ∧ p ≠ m
  ne : p ≠ st
  n1 : p ≠ l1
theorem Sgn.draw {H H' : Hp} {st l0 l0' l1 p : Addr} {cs : List Nat} {n n' : Nat} (S : Sgn H st l1 p cs n) (h : p ≠ l0) (f : Frm H H' st l0 l0') (d : Drw H' st l0' l1 n') : Sgn H' st l1 p cs n' :=
  ⟨S.len, S.ok, f.keep p _ S.at_ S.ne h, ⟨l0', d, f.ne h S.at_⟩, S.ne, S.n1⟩
theorem Sgn.same {H H' : Hp} {st l1 p : Addr} {cs : List Nat} {n : Nat} (S : Sgn H st l1 p cs n) (s : Same H H') : Sgn H' st l1 p cs n := by
  obtain ⟨m, d, h⟩ := S.dr
  exact ⟨S.len, S.ok, s _ _ S.at_, ⟨m, d.same s, h⟩, S.ne, S.n1⟩
theorem Sgn.put {H : Hp} {st l1 p : Addr} {cs cs' : List Nat} {n : Nat} (S : Sgn H st l1 p cs n) (hl : cs'.length ≤ 80) (ok : ∀ c ∈ cs', c < 1114112) : Sgn (upd H p (sgs cs')) st l1 p cs' n := by
  obtain ⟨m, ⟨zs, es, d⟩, h⟩ := S.dr
  exact ⟨hl, ok, upd_same, ⟨m, ⟨zs, es, by rw [upd_ne S.ne.symm]; exact d.hs, by rw [upd_ne h.symm]; exact d.h0, by rw [upd_ne S.n1.symm]; exact d.h1, d.z, d.c0, d.c, d.n0, d.n1, d.n01⟩, h⟩, S.ne, S.n1⟩
theorem join_len (cs : List Nat) (y : Str) (hy : y.length = 0) : (Txt.join y (cs.map one)).length = cs.length := by
  have e : (Txt.join y (cs.map one)).length = ((cs.map one).map (·.length)).sum + ((cs.map one).length - 1) * y.length := size_glued y (cs.map one)
  rw [e, hy, Nat.mul_zero, Nat.add_zero, List.map_map]
  clear e
  induction cs with
  | nil => rfl
  | cons c r ih =>
    rw [List.map_cons, List.sum_cons, ih, List.length_cons]
    show 1 + r.length = _
    omega
theorem join_ok (cs : List Nat) (y : Str) (hy : y.cps.toList = []) (ok : ∀ c ∈ cs, c < 1114112) : okS (Txt.join y (cs.map one)) := by
  intro c hc
  rw [show Txt.join y (cs.map one) = Str.join y (cs.map one) from PySem.StrLaws.glued_eq_join y _, mem_join] at hc
  rcases hc with ⟨t, ht, h⟩ | ⟨_, h⟩
  · obtain ⟨d, hd, rfl⟩ := List.mem_map.mp ht
    have e : c = d := by simpa [one] using h
    rw [e]
    exact ok d hd
  · rw [hy] at h
    cases h
theorem ok_app {x y : Str} (hx : okS x) (hy : okS y) : okS (x ++ y) := by
  intro c hc
  have e : (x ++ y).cps.toList = x.cps.toList ++ y.cps.toList := Array.toList_append
  rw [e] at hc
  rcases List.mem_append.mp hc with h | h
  · exact hx c h
  · exact hy c h
theorem two_ok {a b : Nat} (ha : a ≤ 80) (hb : b ≤ 80) : a + b ≤ sizeLine := Nat.le_of_lt (small1000 (by omega))
theorem two_le {a b : Nat} (ha : a ≤ 80) (hb : b ≤ 1) : a + b ≤ 90 := by omega
theorem two_le' {a b : Nat} (ha : a ≤ 1) (hb : b ≤ 80) : a + b ≤ 90 := by omega
theorem len_app (x y : Str) : (x ++ y).length = x.length + y.length := Array.size_append
theorem str_eq {x y : Str} (h : x.cps.toList = y.cps.toList) : x = y := by
  obtain ⟨a⟩ := x
  obtain ⟨b⟩ := y
  have : a = b := Array.toList_inj.mp h
  rw [this]
section
variable {P : Program} {w : World} {K : PySem.W.Frag} {mg : Str → Option Value} {base : Heap}
theorem ok_law {f fS fD fG fI fV : Addr} {fd fdS fdD fdG fdI fdV : FuncData} {tN tL tD : Tok} {L D : Str}
    (F : Fun K "law" "law" sLaw f fd)
    (FS : Fun K "_law_start" "_law_start" sStart fS fdS) (bS : Binds K fdS ["_law_script"] []) (gS : mg "_law_start" = some (.ref fS))
    (FD : Fun K "_law_draw" "_law_draw" sDraw fD fdD) (bD : Binds K fdD ["_law_state", "_law_size"] []) (gDr : mg "_law_draw" = some (.ref fD))
    (FI : Fun K "_law_signs" "_law_signs" sSigns fI fdI) (bI : Binds K fdI [] []) (gI : mg "_law_signs" = some (.ref fI))
    (FG : Fun K "_law_good" "_law_good" sGood fG fdG) (bG : Binds K fdG ["_law_word"] []) (gG : mg "_law_good" = some (.ref fG))
    (FV : Fun K "valid_name" "valid_name" sValid fV fdV) (bV : Binds K fdV ["text"] []) (gV : mg "valid_name" = some (.ref fV))
    (kV : KBinds K fdV ["text"] ["text"] (fun us ws => us ++ ws) (fun vs zs => vs ++ zs))
    (gN : mg "LONGEST" = some (.int 6 tN)) (gL : mg "LETTERS" = some (.str L tL)) (gD : mg "DIGITS" = some (.str D tD)) (eL : L.cps.toList = lets) (eD : D.cps.toList = digs)
    (mi : mg "int" = none) (ml : mg "len" = none) (ma : mg "all" = none) (mb : mg "abs" = none) (mli : mg "list" = none) (mr : mg "range" = none) (ms : mg "isinstance" = none) (mbo : mg "bool" = none) :
    FnOk P w K mg base CX0 2 f fd ["_law_script"] (spLaw K) := by
  have GS : FnOk P w K mg base CX0 1 fS fdS ["_law_script"] (spStart K) := ok_start FS mb mli
  have GD : FnOk P w K mg base CX0 1 fD fdD ["_law_state", "_law_size"] spDraw := ok_draw FD mi ml
  have GI : FnOk P w K mg base CX0 1 fI fdI [] spSigns := ok_signs FI
  have GG : FnOk P w K mg base CX0 1 fG fdG ["_law_word"] spName := ok_good FG ml
  have GV : FnOk P w K mg base CX0 1 fV fdV ["text"] spName := ok_valid FV ml ma gN gL gD eL eD
  refine F.ok scLaw (fun vs H Q E h => ?_) (fun cdv A outer s H vs Q E hr h => ?_)
  · obtain ⟨a, ns, rfl, _⟩ := h
    rfl
  · obtain ⟨a, ns, rfl, hS, hlen, k⟩ := h
    have nd := scLaw.nd
    refine ⟨_, pss_cons (ps_set (i := 1) nd rfl (.inr rfl) (pe_call GS hr (by rfl) gS FS.kp bS .nil pass0 (pa_cons (pv 0) pa_nil)))
      (pss_cons (ps_set (i := 2) nd rfl (.inl rfl) (pe_call GD hr (by rfl) gDr FD.kp bD .nil pass0 (pa_cons (pv 1) (pa_cons pe_int pa_nil))))
      (pss_cons (ps_set (i := 3) nd rfl (.inr rfl) pe_str)
      (C8.pss_cut (ps_if (pt_cmpR op_eq (pv 2) pe_int (nomark _)) (pss_one (ps_set (i := 3) nd rfl (.inr rfl) (pe_call0 GI hr (by rfl) gI FI.kp bI .nil pass0))) pss_nil)
      (C8.pss_cut (ps_setLc (i := 4) (own := [("_law_k", 7)]) (g := gName 7) (tt := tYes) (by rfl) nd rfl rfl (sw_true rfl rfl rfl (by decide +kernel))
          (pi_range1 rfl mr (pa_cons (pe_call GD hr (by rfl) gDr FD.kp bD .nil pass0 (pa_cons (pv 1) (pa_cons (pe_ix ix_list (pe_lst (pa_cons pe_int (pa_cons pe_int (pa_cons pe_int (pa_cons pe_int pa_nil))))) (pe_call GD hr (by rfl) gDr FD.kp bD .nil pass0 (pa_cons (pv 1) (pa_cons pe_int pa_nil))) (fun _ _ => rfl)) pa_nil))) pa_nil))
          (blkOk_by (N := ["_law_script", "_law_state", "_law_plan", "_law_signs_here", "_law_chars", "_law_word", "_law_actual", "_law_k"]) (sc := defScope sLaw) (by decide +kernel)) (fun _ _ _ _ _ => pg_name (i := 7) nd rfl (Or.inl rfl)) (fun _ _ _ _ _ => pts_nil)
          (fun _ _ _ _ _ => pe_ix ix_str (pv 3) (pe_call GD hr (by rfl) gDr FD.kp bD .nil pass0 (pa_cons (pv 1) (pa_cons (pe_callB call_len_str (by rfl) ml PySem.boot_len (pa_cons (pv 3) pa_nil)) pa_nil))) (fun _ _ => rfl)))
      (C8.pss_cut (ps_if (PW.pt (pw_and (pt_cmpR op_eq (pv 2) pe_int (nomark _)) (pw_and1 (pt_cmpR (op_neD hr.units) (pv 4) (pe_lst pa_nil) (nomark _)))))
          (pss_one (ps_asg (pe_ix ix_str (pe_call0 GI hr (by rfl) gI FI.kp bI .nil pass0) (pe_call GD hr (by rfl) gDr FD.kp bD .nil pass0 (pa_cons (pv 1) (pa_cons (pe_callB call_len_str (by rfl) ml PySem.boot_len (pa_cons (pe_call0 GI hr (by rfl) gI FI.kp bI .nil pass0) pa_nil)) pa_nil))) (fun _ _ => rfl))
            (pg_sub (pv 4) (pe_call GD hr (by rfl) gDr FD.kp bD .nil pass0 (pa_cons (pv 1) (pa_cons (pe_callB call_len_seq (by rfl) ml PySem.boot_len (pa_cons (pv 4) pa_nil)) pa_nil))) set_list))) pss_nil)
      (pss_cons (ps_set (i := 5) nd rfl (.inl rfl) (pe_join pe_str (pv 4)))
      (C8.pss_cut (ps_if (pt_cmpR op_eq (pe_call GD hr (by rfl) gDr FD.kp bD .nil pass0 (pa_cons (pv 1) (pa_cons pe_int pa_nil))) pe_int (nomark _))
          (pss_one (ps_set (i := 5) nd rfl (.inl rfl) (pe_ix ix_list (pe_lst (pa_cons (pe_op op_add_str (pv 5) pe_str) (pa_cons (pe_op op_add_str (pv 5) pe_str) (pa_cons (pe_op op_add_str pe_str (pv 5)) (pa_cons (pe_op op_add_str pe_str (pv 5)) pa_nil))))) (pe_call GD hr (by rfl) gDr FD.kp bD .nil pass0 (pa_cons (pv 1) (pa_cons pe_int pa_nil))) (fun _ _ => rfl)))) pss_nil)
      (pss_cons (ps_set (i := 6) nd rfl (.inl rfl) (pe_call GV hr (by rfl) gV FV.kp bV .nil pass0 (pa_cons (pv 5) pa_nil)))
      (pss_cons (ps_if (PW.pt (pw_or (pt_not (pt_val (pe_callB call_isi (by rfl) ms (by decide +kernel) (pa_cons (pv 6) (pa_cons (pe_bltn (v := .ty "bool") (by rfl) mbo (by decide +kernel) rfl) pa_nil))))) (pw_or1 (pt_cmpR op_ne (pv 6) (pe_call GG hr (by rfl) gG FG.kp bG .nil pass0 (pa_cons (pv 5) pa_nil)) (nomark _)))))
          (pss_one (ps_ret pe_bl)) pss_nil)
      (pss_one (ps_ret (pe_cmpR op_eq (pe_callK0 GV hr (by rfl) gV FV.kp kV pass0 (pk_cons (pe_revS (pv 5)) pk_nil)) (pe_call GG hr (by rfl) gG FG.kp bG .nil pass0 (pa_cons (pe_revS (pv 5)) pa_nil)) (nomark _))))))))))))), ?_⟩
    -- the state, the plan, the signs
    refine ⟨_, rfl, a, ns, rfl, hS, hlen, fun H1 st l0 l1 nst n0 n1 s1 D1 => ?_⟩
    refine ⟨_, rfl, st, l0, l1, 0, 3, rfl, D1, by decide, by decide, by decide, fun plan H2 m0 pl0 pl1 D2 F2 => ?_⟩
    refine ⟨fun σ' H' => ∃ z : Str, σ' = [some (.ref a), some (.ref st), some (.int plan), some (.str z), none, none, none, none] ∧ 0 < z.length ∧ z.length ≤ 100 ∧ okS z ∧ H' = H2, ?_, fun σ' H' hM => ?_⟩
    · refine ⟨_, rfl, rfl, _, rfl, ite2 (fun _ => ?_) (fun _ => ?_)⟩
      · exact ⟨rfl, sig, rfl, sig_pos, sig_len, sig_ok, rfl⟩
      · exact ⟨_, rfl, by decide +kernel, by decide +kernel, by unfold okS; decide +kernel, rfl⟩
    obtain ⟨z, rfl, hz0, hz1, hzk, rfl⟩ := hM
    have hz2 := str_size hz1
    -- the chars
    refine ⟨fun σ' H' => ∃ (p : Addr) (cs : List Nat) (n : Nat), σ' = [some (.ref a), some (.ref st), some (.int plan), some (.str z), some (.ref p), none, none, none] ∧ Sgn H' st l1 p cs n ∧ n ≤ 100, ?_, fun σ' H' hM => ?_⟩
    · refine ⟨_, rfl, (by show 4 ≤ sizeLine; decide), fun d hd => ?_⟩
      have D3 := D2.same (same_upd (o := .lst [.int 9, .int 9, .int 9, .int 80]) hd)
      refine ⟨_, rfl, st, m0, l1, 1, 4, rfl, D3, by decide, by decide, by decide, fun r H4 m1 r0 r1 D4 F4 => ?_⟩
      obtain ⟨v, ev, hv⟩ := at_four (x0 := V.int 9) (x1 := V.int 9) (x2 := V.int 9) (x3 := V.int 80) r0 r1
      obtain ⟨y, rfl, hy0, hy1⟩ : ∃ y : Int, v = .int y ∧ 0 < y ∧ y ≤ 80 := by
        rcases hv with rfl | rfl | rfl | rfl
        · exact ⟨9, rfl, by decide, by decide⟩
        · exact ⟨9, rfl, by decide, by decide⟩
        · exact ⟨9, rfl, by decide, by decide⟩
        · exact ⟨80, rfl, by decide, by decide⟩
      have nd3 := D2.ne_l0 hd
      refine ⟨d, _, r, .int y, rfl, rfl, SqL.of (F4.keep d _ upd_same nd3.1.symm nd3.2.1.symm), ev, ?_⟩
      refine ⟨st, m1, l1, 2, y, rfl, D4, hy0, by omega, by decide, fun t H5 m2 t0 t1 D5 F5 => ?_⟩
      refine ⟨t, rfl, by omega, by omega, fun p hp => ?_⟩
      have n5 := D5.ne_l0 hp
      refine lc_range (lo := 0) (n := t.toNat) (fun i H' => ∃ (cs : List Nat), cs.length = i ∧ i ≤ 80 ∧ Sgn H' st l1 p cs (3 + i)) ⟨[], rfl, Nat.zero_le _, Nat.zero_le _, (fun _ h => nomatch h), upd_same, ⟨m2, D5.same (same_upd hp), n5.2.1.symm⟩, n5.1.symm, n5.2.2.symm⟩ (fun i H' hi h => ?_) (fun H' h => ?_)
      · obtain ⟨cs, rfl, h80, S⟩ := h
        obtain ⟨m, D6, n6⟩ := S.dr
        refine ⟨rfl, _, rfl, _, rfl, _, rfl, z, rfl, hz2, st, m, l1, _, _, rfl, D6, by omega, by omega, by omega, fun u H7 m3 u0 u1 D7 F7 => ?_⟩
        obtain ⟨c, ec, hc⟩ := at_str u0 u1
        have e7 := F7.keep p _ S.at_ S.ne n6
        have sz : (cs.map fun c => V.str (one c)).length < sizeLine := by
          rw [List.length_map]
          exact small1000 (by omega)
        refine ⟨z, u, c, rfl, rfl, hz2, ec, _, e7, sz, cs ++ [c], by simp, by omega, ⟨by simp; omega, fun d hd => ?_, ?_, ⟨m3, ?_, F7.ne n6 S.at_⟩, S.ne, S.n1⟩⟩
        · rcases List.mem_append.mp hd with h | h
          · exact S.ok d h
          · rw [List.mem_singleton.mp h]
            exact hzk c hc
        · rw [upd_same, sgs, List.map_append]
          rfl
        · obtain ⟨zs, es, D7⟩ := D7
          exact ⟨zs, es, by rw [upd_ne S.ne.symm]; exact D7.hs, by rw [upd_ne (F7.ne n6 S.at_).symm]; exact D7.h0, by rw [upd_ne S.n1.symm]; exact D7.h1, D7.z, D7.c0, D7.c, D7.n0, D7.n1, D7.n01⟩
      · obtain ⟨cs, e, h80, S⟩ := h
        exact ⟨p, cs, _, rfl, S, by omega⟩
    obtain ⟨p, cs, n, rfl, S, hn⟩ := hM
    -- one of them anew
    refine ⟨fun σ' H' => ∃ (cs : List Nat) (n : Nat), σ' = [some (.ref a), some (.ref st), some (.int plan), some (.str z), some (.ref p), none, none, none] ∧ Sgn H' st l1 p cs n ∧ n ≤ 102, ?_, fun σ' H' hM => ?_⟩
    · refine ⟨_, rfl, rfl, _, rfl, ite2 (fun _ => ?_) (fun _ => ⟨cs, n, rfl, S, by omega⟩)⟩
      refine ⟨_, rfl, Nat.zero_le _, fun q hq => ?_⟩
      have S2 := S.same (same_upd (o := .lst []) hq)
      refine ⟨_, _, .lst (SqL.of S2.at_) (dp_signs cs), .lst (SqL.of upd_same) .nil, shaped_signs cs S.ok, rfl, _, rfl, ?_⟩
      rw [eqv_nil']
      cases cs with
      | nil => exact ⟨[], n, rfl, S2, by omega⟩
      | cons c0 cr =>
        show if true = true then _ else _
        refine iteT ?_
        obtain ⟨m, D3, hm⟩ := S2.dr
        refine ⟨rfl, _, rfl, rfl, sig, rfl, str_size sig_len, st, m, l1, n, _, rfl, D3, (by have := sig_pos; omega), (by have := sig_len; omega), by omega, fun u H3 m3 u0 u1 D4 F4 => ?_⟩
        obtain ⟨c, ec, hc⟩ := at_str u0 u1
        have S4 := S2.draw hm F4 D4
        refine ⟨sig, u, c, rfl, rfl, str_size sig_len, ec, _, rfl, _, rfl, _, rfl, p, _, rfl, .inl (SqL.of S4.at_), st, m3, l1, n + 1, _, rfl, D4, ?_, ?_, by omega, fun u2 H5 m5 v0 v1 D5 F5 => ?_⟩
        · simp
        · have := S4.len
          simp at this ⊢
          omega
        · have S5 := S4.draw (F4.ne hm S2.at_) F5 D5
          obtain ⟨j, rfl⟩ : ∃ j : Nat, u2 = (j : Int) := ⟨u2.toNat, by omega⟩
          have hj : j < (c0 :: cr).length := by
            rw [List.length_map] at v1
            omega
          refine ⟨p, _, _, j, rfl, rfl, S5.at_, ?_, (c0 :: cr).set j c, n + 1 + 1, rfl, ?_, by omega⟩
          · unfold ixN
            rw [if_pos (by omega), if_pos (by rw [List.length_map]; omega)]
            rfl
          · have e : ((c0 :: cr).map fun c => V.str (one c)).set j (.str ⟨#[c]⟩) = ((c0 :: cr).set j c).map fun c => V.str (one c) := by
              rw [List.map_set]
              rfl
            rw [e]
            refine S5.put (by rw [List.length_set]; exact S5.len) fun d hd => ?_
            rcases List.mem_or_eq_of_mem_set hd with h | h
            · exact S5.ok d h
            · rw [h]
              exact sig_ok c hc
    obtain ⟨cs, n, rfl, S, hn⟩ := hM
    -- the word
    have hmap : (cs.map fun c => V.str (one c)) = (cs.map one).map V.str := by rw [List.map_map]; rfl
    refine ⟨⟨_, rfl⟩, _, rfl, _, p, cs.map one, rfl, rfl, .inl (SqL.of (by rw [← hmap]; exact S.at_)), ?_, ?_⟩
    · have e1 : ((cs.map one).map (·.length)).sum = cs.length := by
        clear hmap
        rw [List.map_map]
        generalize cs = l
        induction l with
        | nil => rfl
        | cons c r ih =>
          rw [List.map_cons, List.sum_cons, ih, List.length_cons]
          show 1 + r.length = _
          omega
      have e2 : (Str.ofString "").length = 0 := by decide +kernel
      rw [e1, e2]
      have := S.len
      omega
    have wl := join_len cs (Str.ofString "") (by decide +kernel)
    have wo := join_ok cs (Str.ofString "") (by decide +kernel) S.ok
    generalize Txt.join (Str.ofString "") (cs.map one) = w at wl wo
    have w80 : w.length ≤ 80 := by rw [wl]; exact S.len
    refine ⟨fun σ' H' => ∃ w : Str, σ' = [some (.ref a), some (.ref st), some (.int plan), some (.str z), some (.ref p), some (.str w), none, none] ∧ w.length ≤ 90 ∧ okS w, ?_, fun σ' H' hM => ?_⟩
    · obtain ⟨m, D6, hm⟩ := S.dr
      refine ⟨_, rfl, st, m, l1, n, 6, rfl, D6, by decide, by decide, by omega, fun r H7 m7 r0 r1 D7 F7 => ⟨rfl, _, rfl, ite2 (fun _ => ?_) (fun _ => ⟨w, rfl, by omega, wo⟩)⟩⟩
      refine ⟨_, rfl, w, _, rfl, rfl, ?_, _, rfl, w, _, rfl, rfl, ?_, _, rfl, _, w, rfl, rfl, ?_, _, rfl, _, w, rfl, rfl, ?_, (by show 4 ≤ sizeLine; decide), fun q hq => ?_⟩
      iterate 4 (first | exact two_ok (by omega) (by decide +kernel) | exact two_ok (by decide +kernel) (by omega))
      have nq := D7.ne_l0 hq
      refine ⟨_, rfl, st, m7, l1, n + 1, 4, rfl, D7.same (same_upd hq), by decide, by decide, by omega, fun u H9 m9 u0 u1 D9 F9 => ?_⟩
      obtain ⟨v, ev, hv⟩ := at_four (x0 := V.str (w ++ Str.ofString "\n")) (x1 := V.str (w ++ Str.ofString " ")) (x2 := V.str (Str.ofString " " ++ w)) (x3 := V.str (Str.ofString "\n" ++ w)) u0 u1
      obtain ⟨t, rfl, ht, hto⟩ : ∃ t : Str, v = .str t ∧ t.length ≤ 90 ∧ okS t := by
        rcases hv with h | h | h | h
        all_goals
          refine ⟨_, h, ?_, ?_⟩
          · rw [len_app]
            first | exact two_le (by omega) (by decide +kernel) | exact two_le' (by decide +kernel) (by omega)
          · first | exact ok_app wo (by unfold okS; decide +kernel) | exact ok_app (by unfold okS; decide +kernel) wo
      exact ⟨q, _, u, .str t, rfl, rfl, SqL.of (F9.keep q _ upd_same nq.1.symm nq.2.1.symm), ev, t, rfl, ht, hto⟩
    obtain ⟨w, rfl, hw, how⟩ := hM
    have hws : w.length ≤ sizeLine := str_size (by omega)
    refine ⟨_, rfl, w, rfl, by omega, how, fun H8 s8 => ?_⟩
    refine ⟨_, rfl, .bl (good w), .ty "bool", .type "bool", .type "bool", true, rfl, .ty "bool", .base (.bl _), kit_ty (by decide +kernel), true, rfl, ?_⟩
    refine iteF ?_
    refine ⟨_, rfl, _, rfl, w, rfl, by omega, how, fun H9 s9 => ⟨rfl, _, rfl, iteNS rfl ?_⟩⟩
    refine ⟨_, rfl, w, rfl, hws, fun y ey => ?_⟩
    have yl : y.length = w.length := by
      show y.cps.size = w.length
      rw [← Array.length_toList, ey, List.length_map, List.length_range]
    have yo : okS y := fun c hc => by
      rw [ey] at hc
      obtain ⟨i, hi, rfl⟩ := List.mem_map.mp hc
      have hi := List.mem_range.mp hi
      refine how _ ?_
      have hj : w.length - 1 - i < w.cps.size := by
        show w.length - 1 - i < w.length
        omega
      simp [Array.getD, hj]
    refine ⟨y, rfl, by omega, yo, fun H10 s10 => ?_⟩
    refine ⟨_, rfl, w, rfl, hws, fun y2 ey2 => ?_⟩
    obtain rfl : y = y2 := str_eq (ey.trans ey2.symm)
    refine ⟨y, rfl, by omega, yo, fun H11 s11 => ⟨rfl, ?_⟩⟩
    rw [decide_eq_true rfl]
    exact k _
end
end TP
namespace TP
open PySem PySem.Spec PyProof.Rows L2
theorem all_mk {l : PySem.W.OpenLaw} {w : World} {K : PySem.W.Frag} {h : Heap} {mg : Str → Option Value} {fa f1 f2 f3 f4 f5 f6 : Addr} (X : K.In h) (G : h.Ns mainGlobals mg) (hfa : mg "law" = some (.ref fa))
    {od1 an1 od2 an2 od3 an3 od4 an4 od5 an5 od6 an6 : Option Addr} {sl1 sl2 sl3 sl4 sl5 sl6 : Array (Option Value)} {oc1 kV1 dc1 pm1 cd1 ct1 oc2 kV2 dc2 pm2 cd2 ct2 oc3 kV3 dc3 pm3 cd3 ct3 oc4 kV4 dc4 pm4 cd4 ct4 oc5 kV5 dc5 pm5 cd5 ct5 oc6 kV6 dc6 pm6 cd6 ct6 : Value} {tN tL tD : Tok} {L D : Str}
    (a1 : PySem.W.nsIn K mainGlobals "_law_start" = some (some (.ref f1))) (l1 : K.lookup f1 = some ⟨oc1, od1, .func (PySem.W.fnOf "_law_start" "_law_start" (defArgs sStart) (defBody sStart) (defScope sStart) .none kV1 dc1 pm1 an1 cd1 ct1), sl1⟩) (c1 : PySem.W.codeIn K cd1 "_law_start" = true) (k1 : PySem.W.keepIn K (.ref f1) = true)
    (a2 : PySem.W.nsIn K mainGlobals "_law_draw" = some (some (.ref f2))) (l2 : K.lookup f2 = some ⟨oc2, od2, .func (PySem.W.fnOf "_law_draw" "_law_draw" (defArgs sDraw) (defBody sDraw) (defScope sDraw) .none kV2 dc2 pm2 an2 cd2 ct2), sl2⟩) (c2 : PySem.W.codeIn K cd2 "_law_draw" = true) (k2 : PySem.W.keepIn K (.ref f2) = true)
    (a3 : PySem.W.nsIn K mainGlobals "_law_signs" = some (some (.ref f3))) (l3 : K.lookup f3 = some ⟨oc3, od3, .func (PySem.W.fnOf "_law_signs" "_law_signs" (defArgs sSigns) (defBody sSigns) (defScope sSigns) .none kV3 dc3 pm3 an3 cd3 ct3), sl3⟩) (c3 : PySem.W.codeIn K cd3 "_law_signs" = true) (k3 : PySem.W.keepIn K (.ref f3) = true)
    (a4 : PySem.W.nsIn K mainGlobals "_law_good" = some (some (.ref f4))) (l4 : K.lookup f4 = some ⟨oc4, od4, .func (PySem.W.fnOf "_law_good" "_law_good" (defArgs sGood) (defBody sGood) (defScope sGood) .none kV4 dc4 pm4 an4 cd4 ct4), sl4⟩) (c4 : PySem.W.codeIn K cd4 "_law_good" = true) (k4 : PySem.W.keepIn K (.ref f4) = true)
    (a5 : PySem.W.nsIn K mainGlobals "valid_name" = some (some (.ref f5))) (l5 : K.lookup f5 = some ⟨oc5, od5, .func (PySem.W.fnOf "valid_name" "valid_name" (defArgs sValid) (defBody sValid) (defScope sValid) .none kV5 dc5 pm5 an5 cd5 ct5), sl5⟩) (c5 : PySem.W.codeIn K cd5 "valid_name" = true) (k5 : PySem.W.keepIn K (.ref f5) = true)
    (a6 : PySem.W.nsIn K mainGlobals "law" = some (some (.ref f6))) (l6 : K.lookup f6 = some ⟨oc6, od6, .func (PySem.W.fnOf "law" "law" (defArgs sLaw) (defBody sLaw) (defScope sLaw) .none kV6 dc6 pm6 an6 cd6 ct6), sl6⟩) (c6 : PySem.W.codeIn K cd6 "law" = true) (k6 : PySem.W.keepIn K (.ref f6) = true)
    (gN : PySem.W.nsIn K mainGlobals "LONGEST" = some (some (.int 6 tN))) (gL : PySem.W.nsIn K mainGlobals "LETTERS" = some (some (.str L tL))) (gD : PySem.W.nsIn K mainGlobals "DIGITS" = some (some (.str D tD))) (eL : L.cps.toList = lets) (eD : D.cps.toList = digs)
    (z1 : PySem.W.nsIn K mainGlobals "int" = some none) (z2 : PySem.W.nsIn K mainGlobals "len" = some none) (z3 : PySem.W.nsIn K mainGlobals "all" = some none) (z4 : PySem.W.nsIn K mainGlobals "abs" = some none) (z5 : PySem.W.nsIn K mainGlobals "list" = some none) (z6 : PySem.W.nsIn K mainGlobals "range" = some none) (z7 : PySem.W.nsIn K mainGlobals "isinstance" = some none) (z8 : PySem.W.nsIn K mainGlobals "bool" = some none) :
    ∃ fd : FuncData, (∀ (s : Shared) (v : Value), BindsTo s fd ⟨[v], []⟩ [("_law_script", v)]) ∧ ∀ base : Heap, K.In base → base.Ns mainGlobals mg → FnOk l.prog w K mg base CX0 2 fa fd ["_law_script"] (spLaw K) := by
  have e := hfa.symm.trans (PySem.W.mg_of X G a6)
  cases e
  have F1 := fun_mk (st := sStart) l1 c1 k1
  have F2 := fun_mk (st := sDraw) l2 c2 k2
  have F3 := fun_mk (st := sSigns) l3 c3 k3
  have F4 := fun_mk (st := sGood) l4 c4 k4
  have F5 := fun_mk (st := sValid) l5 c5 k5
  have F6 := fun_mk (st := sLaw) l6 c6 k6
  have b1 := F1.binds (ps := ["_law_script"]) fun _ _ _ _ _ _ us hl => match us, hl with | [_], _ => rfl
  have b2 := F2.binds (ps := ["_law_state", "_law_size"]) fun _ _ _ _ _ _ us hl => match us, hl with | [_, _], _ => rfl
  have b3 := F3.binds (ps := []) fun _ _ _ _ _ _ us hl => match us, hl with | [], _ => rfl
  have b4 := F4.binds (ps := ["_law_word"]) fun _ _ _ _ _ _ us hl => match us, hl with | [_], _ => rfl
  have b5 := F5.binds (ps := ["text"]) fun _ _ _ _ _ _ us hl => match us, hl with | [_], _ => rfl
  have kb : KBinds K (PySem.W.fnOf "valid_name" "valid_name" (defArgs sValid) (defBody sValid) (defScope sValid) .none kV5 dc5 pm5 an5 cd5 ct5) ["text"] ["text"] (fun us ws => us ++ ws) (fun vs zs => vs ++ zs) := by
    refine ⟨fun s us ws _ hl => ?_, fun r r' => r.append r'⟩
    match us, ws, hl with
    | [v], [], _ => exact .of_eq rfl
    | [], [v], _ => exact .of_eq rfl
    | [], [], h => cases h
    | _ :: _ :: _, _, h => simp at h
    | [_], _ :: _, h => simp at h
    | [], _ :: _ :: _, h => simp at h
  exact ⟨PySem.W.fnOf "law" "law" (defArgs sLaw) (defBody sLaw) (defScope sLaw) .none kV6 dc6 pm6 an6 cd6 ct6, fun s v => .of_eq rfl, fun base _ _ =>
    ok_law F6 F1 b1 (PySem.W.mg_of X G a1) F2 b2 (PySem.W.mg_of X G a2) F3 b3 (PySem.W.mg_of X G a3) F4 b4 (PySem.W.mg_of X G a4) F5 b5 (PySem.W.mg_of X G a5) kb (PySem.W.mg_of X G gN) (PySem.W.mg_of X G gL) (PySem.W.mg_of X G gD) eL eD
      (PySem.W.mg_none_of X G z1) (PySem.W.mg_none_of X G z2) (PySem.W.mg_none_of X G z3) (PySem.W.mg_none_of X G z4) (PySem.W.mg_none_of X G z5) (PySem.W.mg_none_of X G z6) (PySem.W.mg_none_of X G z7) (PySem.W.mg_none_of X G z8)⟩
end TP
open PySem PySem.W PyProof.Rows
set_option maxHeartbeats 0 in
theorem PySem.Challenge.cw_tailpick_k01_valid_names_holds : PySem.Challenge.rw_tailpick_k01_valid_names.Holds := by
  w_on; o_law; k_head; (case hw => w_witness2)
  k_fill
  refine L2.walk_of (l := PySem.Challenge.rw_tailpick_k01_valid_names) (n := 63) (k := 2) (x := "_law_script") (CX := fun _ => L2.CX0) (sp := fun w => TP.spLaw _) rfl (by decide) rfl ⟨rfl, by decide, by decide⟩ (fun w h Y => PySem.W.kIn_of Y) ?F (fun _ _ a ns hl _ hS => ⟨a, ns, rfl, hS, hl, fun _ => rfl⟩) (fun _ _ _ _ _ h => h)
  case F =>
    intro w mg fa h KX G hmg
    refine' TP.all_mk KX G hmg ?a1 ?l1 ?c1 ?k1 ?a2 ?l2 ?c2 ?k2 ?a3 ?l3 ?c3 ?k3 ?a4 ?l4 ?c4 ?k4 ?a5 ?l5 ?c5 ?k5 ?a6 ?l6 ?c6 ?k6 ?gN ?gL ?gD ?eL ?eD ?z1 ?z2 ?z3 ?z4 ?z5 ?z6 ?z7 ?z8
    (case a1 => k_is); (case l1 => k_is); (case c1 => k_is); (case k1 => k_is)
    (case a2 => k_is); (case l2 => k_is); (case c2 => k_is); (case k2 => k_is)
    (case a3 => k_is); (case l3 => k_is); (case c3 => k_is); (case k3 => k_is)
    (case a4 => k_is); (case l4 => k_is); (case c4 => k_is); (case k4 => k_is)
    (case a5 => k_is); (case l5 => k_is); (case c5 => k_is); (case k5 => k_is)
    (case a6 => k_is); (case l6 => k_is); (case c6 => k_is); (case k6 => k_is)
    (case gN => k_is); (case gL => k_is); (case gD => k_is); (case eL => decide +kernel); (case eD => decide +kernel)
    (case z1 => k_is); (case z2 => k_is); (case z3 => k_is); (case z4 => k_is); (case z5 => k_is); (case z6 => k_is); (case z7 => k_is); (case z8 => k_is)
