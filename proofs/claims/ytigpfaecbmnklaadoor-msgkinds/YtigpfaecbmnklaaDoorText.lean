/- What strconv.AppendUint appends, and the text of a request. -/
import Derived.Shelf.LaysM
import Derived.Shelf.Strconv.AppendUint10
import Derived.Test.YtigpfaecbmnklaaDoorReq
namespace Go.Proofs.YtigpfaecbmnklaaDoor
open Go.RowKit
set_option maxRecDepth 100000

/-- the laying of strconv.AppendUint at base 10, in plain words -/
def laysM288_ren : Go.Shelf.Ren := ⟨fun | 288 => 95 | 283 => 116 | 284 => 117 | 285 => 118 | 286 => 119 | 129 => 127 | 317 => 126 | 318 => 128 | 319 => 129 | 320 => 130 | 337 => 131 | 338 => 132 | n => n, fun | 37 => 35 | 53 => 28 | 3 => 3 | 4 => 4 | 9 => 9 | 171 => 172 | 0 => 0 | 173 => 175 | 212 => 186 | 51 => 22 | 5 => 5 | 20 => 20 | 213 => 187 | 46 => 66 | 232 => 192 | 233 => 193 | n => n, fun | 17 => 0 | 18 => 1 | 19 => 2 | n => n⟩
theorem laysM288 : LaysM.n288 Tryd.prog laysM288_ren where
  mixed := by kernel_rfl
  f129 := Tryd.func127.trans (congrArg some (by kernel_rfl))
  f283 := Tryd.func116.trans (congrArg some (by kernel_rfl))
  f284 := Tryd.func117.trans (congrArg some (by kernel_rfl))
  f285 := Tryd.func118.trans (congrArg some (by kernel_rfl))
  f286 := Tryd.func119.trans (congrArg some (by kernel_rfl))
  f288 := Tryd.func95.trans (congrArg some (by kernel_rfl))
  f317 := Tryd.func126.trans (congrArg some (by kernel_rfl))
  f318 := Tryd.func128.trans (congrArg some (by kernel_rfl))
  f319 := Tryd.func129.trans (congrArg some (by kernel_rfl))
  f320 := Tryd.func130.trans (congrArg some (by kernel_rfl))
  f337 := Tryd.func131.trans (congrArg some (by kernel_rfl))
  f338 := Tryd.func132.trans (congrArg some (by kernel_rfl))
  t0 := Tryd.underlying0
  a0 := Tryd.isAgg0
  z0 := Tryd.sizeOf0
  v0 := Tryd.zeroValue0
  t3 := Tryd.underlying3
  a3 := Tryd.isAgg3
  z3 := Tryd.sizeOf3
  v3 := Tryd.zeroValue3
  t4 := Tryd.underlying4
  a4 := Tryd.isAgg4
  z4 := Tryd.sizeOf4
  v4 := Tryd.zeroValue4
  t5 := Tryd.underlying5
  a5 := Tryd.isAgg5
  z5 := Tryd.sizeOf5
  v5 := Tryd.zeroValue5
  t9 := Tryd.underlying9
  a9 := Tryd.isAgg9
  z9 := Tryd.sizeOf9
  v9 := Tryd.zeroValue9
  t20 := Tryd.underlying20
  a20 := Tryd.isAgg20
  z20 := Tryd.sizeOf20
  v20 := Tryd.zeroValue20
  t37 := Tryd.underlying35
  a37 := Tryd.isAgg35
  z37 := Tryd.sizeOf35
  v37 := Tryd.zeroValue35
  t46 := Tryd.underlying66
  a46 := Tryd.isAgg66
  z46 := Tryd.sizeOf66
  v46 := Tryd.zeroValue66
  t51 := Tryd.underlying22
  a51 := Tryd.isAgg22
  z51 := Tryd.sizeOf22
  v51 := Tryd.zeroValue22
  t53 := Tryd.underlying28
  a53 := Tryd.isAgg28
  z53 := Tryd.sizeOf28
  v53 := Tryd.zeroValue28
  t171 := Tryd.underlying172
  a171 := Tryd.isAgg172
  z171 := Tryd.sizeOf172
  v171 := Tryd.zeroValue172
  t173 := Tryd.underlying175
  a173 := Tryd.isAgg175
  z173 := Tryd.sizeOf175
  v173 := Tryd.zeroValue175
  t212 := Tryd.underlying186
  a212 := Tryd.isAgg186
  z212 := Tryd.sizeOf186
  v212 := Tryd.zeroValue186
  t213 := Tryd.underlying187
  a213 := Tryd.isAgg187
  z213 := Tryd.sizeOf187
  t232 := Tryd.underlying192
  a232 := Tryd.isAgg192
  z232 := Tryd.sizeOf192
  v232 := Tryd.zeroValue192
  t233 := Tryd.underlying193
  a233 := Tryd.isAgg193
  z233 := Tryd.sizeOf193
  v233 := Tryd.zeroValue193
  g17 := by kernel_rfl
  g18 := by kernel_rfl
  g19 := by kernel_rfl
  i0 := by kernel_rfl
  i3 := by kernel_rfl
  i4 := by kernel_rfl
  i5 := by kernel_rfl
  i9 := by kernel_rfl
  i20 := by kernel_rfl
  i37 := by kernel_rfl
  i46 := by kernel_rfl
  i51 := by kernel_rfl
  i53 := by kernel_rfl
  i171 := by kernel_rfl
  i173 := by kernel_rfl
  i212 := by kernel_rfl
  i232 := by kernel_rfl
  i233 := by kernel_rfl
  m17 := by kernel_rfl
  m18 := by kernel_rfl
  m19 := by kernel_rfl

/-- the table of powers that strconv reads -/
def Tab (w : World) : Prop := Lib.TabIs Tryd.prog w "internal/strconv.uint64pow10" .u64 Lib.pow10Tab

theorem Tab.on {w w' : World} (h : Tab w) (hb : Below w.heap.size w w') : Tab w' := (Lib.tabBelow_of_tabIs h) w' hb

theorem iappend_any (B n u : Nat) (hu : u < 18446744073709551616) (sv : Value) (xs : List Value) (w : World) (hown : w.ownsRow B 5 1 sv n xs) (hBw : B ≤ w.heap.size) (hlim : n + 20 ≤ 140737488355328) (ht : Tab w) :
    Calls Tryd.prog 95 #[sv, .int .u64 u, .int .i64 10] w fun e w' => ∃ v', e = .returned v' ∧ w'.ownsRow B 5 1 v' (n + (Lib.decDigits u).length) (xs ++ Lib.byteCells (Lib.decDigits u)) ∧ Below B w w' := by
  rcases Nat.lt_or_ge u 100 with h | h
  · refine Calls.mono (Any.internal_strconv_AppendUint_10_small laysM288 B n u h sv xs w hown hBw hlim) ?_
    rintro e w' ⟨v', he, h1, h2, h3⟩
    exact ⟨v', he, h1, h2⟩
  · refine Calls.mono (Any.internal_strconv_AppendUint_10_big laysM288 B n u h hu sv xs w hown hBw hlim ht) ?_
    rintro e w' ⟨v', he, h1, h2, h3⟩
    exact ⟨v', he, h1, h2⟩

def dg (n : Int) : List UInt8 := Lib.decDigits n.toNat

theorem append_any (B n : Nat) (u : Int) (h0 : 0 ≤ u) (hu : u ≤ 18446744073709551615) (sv : Value) (xs : List UInt8) (w : World) (hown : w.ownsRow B 5 1 sv n (Lib.byteCells xs)) (hBw : B ≤ w.heap.size) (hlim : n + 20 ≤ 140737488355328) (ht : Tab w) :
    Calls Tryd.prog 62 #[sv, .int .u64 u, .int .i64 10] w fun e w' => ∃ v', e = .returned v' ∧ w'.ownsRow B 5 1 v' (n + (dg u).length) (Lib.byteCells (xs ++ dg u)) ∧ Below B w w' := by
  obtain ⟨m, rfl⟩ : ∃ m : Nat, u = m := ⟨u.toNat, by omega⟩
  have H := Lib.hid (iappend_any B n m (by omega) sv _ w hown hBw hlim ht)
  clear hown ht
  go_enter Tryd.func62, Tryd.ntmps62
  go_wp2_with fail
  refine Calls.mono H.out ?_
  rintro e w' ⟨v', rfl, h1, h2⟩
  have H1 := Lib.hid h1
  have H2 := Lib.hid h2
  clear h1 h2
  go_wp2_with fail
  go_ret
  refine ⟨v', rfl, ?_, H2.out⟩
  have := H1.out
  rw [← Lib.byteCells_append] at this
  simpa [dg] using this

/-- a request in range -/
def Rq.ok (r : Rq) : Prop := (0 ≤ r.c ∧ r.c ≤ 255) ∧ (0 ≤ r.t ∧ r.t ≤ 4294967295) ∧ (0 ≤ r.k ∧ r.k ≤ 255) ∧ (0 ≤ r.y ∧ r.y ≤ 255) ∧ (0 ≤ r.v ∧ r.v ≤ 65535)

def Rq.nums (r : Rq) : List Int := [r.t, r.k, r.y, r.v]
def Rq.textUp (r : Rq) : Nat → List UInt8
  | 0 => dg r.c
  | k + 1 => r.textUp k ++ 58 :: dg (r.nums.getD k 0)
def Rq.text (r : Rq) : List UInt8 := dg r.c ++ 58 :: (dg r.t ++ 58 :: (dg r.k ++ 58 :: (dg r.y ++ 58 :: dg r.v)))
theorem Rq.textUp_4 (r : Rq) : r.textUp 4 = r.text := by simp [Rq.textUp, Rq.text, Rq.nums]

theorem dg_len (n : Int) (h : n < 18446744073709551616) : (dg n).length ≤ 20 := by
  unfold dg
  rw [Lib.decDigits_length]
  rcases Nat.eq_zero_or_pos n.toNat with h0 | h0
  · rw [h0, Lib.nDigits_small (by decide)]; decide
  · have := Lib.numDigits_eq n.toNat h0 (by omega); split at this <;> omega

theorem byteInfo5 : (Tryd.prog.info? 5).map (fun i => (i.zero, i.size, i.bytes)) = some (some (.int .u8 0), 1, 1) := by kernel_rfl

/-- ':' is appended to a row that the call made -/
theorem colon_own {w w1 : World} {v1 : Value} {n B : Nat} {xs : List UInt8} {ops : Array Oper} {rest : List Oper} {o : Oper} {a : Act} {Q : Exit → Act → World → Prop} (hgd : o.guard = none) (s x : Operand)
    (ho : o.op = .call { callee := .builtin .append, args := #[s, x], argTypes := #[35, 35] }) (hs : a.eval s = v1) (hx : a.eval x = .slice (some ⟨w1.heap.size, 0, none⟩) 1 1)
    (hown1 : w1.ownsRow B 5 1 v1 n (Lib.byteCells xs)) (hB : B ≤ w1.heap.size) (hn : n ≤ 1000) (hnx1 : Below B w w1)
    (hK : ∀ v' w', w'.ownsRow B 5 1 v' (n + 1) (Lib.byteCells (xs ++ [58])) → Below B w w' → wpList Tryd.prog ops Q rest (a.put o.dst v') w') :
    wpList Tryd.prog ops Q (o :: rest) a (w1.alloc (.cells #[.int .u8 58] 5)) := by
  obtain ⟨i0, hi, hz0, hz1, hz2⟩ := info_parts byteInfo5
  refine wpList_append_own _ hgd _ _ 35 ho B 5 i0 (.int .u8 0) 1 1 Tryd.underlying35 hi hz0 hz1 hz2 rfl (by decide) _ _ _ hs (hown1.alloc _) ⟨w1.heap.size, 0, none⟩ 1 1 [Value.int .u8 58] hx rfl (by intro j u' hj; match j, hj with | 0, hj => simp at hj; subst hj; simp [Addr.add]) (by intro u' hu'; simp at hu'; subst hu'; rfl) (by unfold maxLen; omega) (by omega) (by simp; omega) ?_
  intro v2 w2 hown2 hgrow _
  have hnx2 : Below B w w2 := (hnx1.alloc (by omega) _).grown hgrow (by simp; omega) (fun k hk => (hown1.lt k hk).1)
  refine hK v2 w2 ?_ hnx2
  have e : Lib.byteCells (xs ++ [58]) = Lib.byteCells xs ++ [Value.int .u8 58] := by rw [Lib.byteCells_append]; rfl
  rw [e]; exact hown2

theorem Rq.textUp_len (r : Rq) (hr : r.ok) : ∀ k, k ≤ 4 → (r.textUp k).length ≤ 20 + 21 * k := by
  intro k
  obtain ⟨⟨c0, c1⟩, ⟨t0, t1⟩, ⟨k0, k1⟩, ⟨y0, y1⟩, ⟨v0, v1⟩⟩ := hr
  induction k with
  | zero => intro _; have := dg_len r.c (by omega); simp [Rq.textUp]; omega
  | succ j ih =>
    intro hj
    have h1 := ih (by omega)
    have h2 : (dg (r.nums.getD j 0)).length ≤ 20 := by
      apply dg_len
      match j, hj with
      | 0, _ => simp [Rq.nums]; omega
      | 1, _ => simp [Rq.nums]; omega
      | 2, _ => simp [Rq.nums]; omega
      | 3, _ => simp [Rq.nums]; omega
    simp only [Rq.textUp, List.length_append, List.length_cons]; omega

set_option maxHeartbeats 1600000 in
theorem text_any (r : Rq) (hr : r.ok) (w : World) (ht : Tab w) :
    Calls Tryd.prog 24 #[.agg r.cells.toArray] w fun e w' => e = .returned (.string ⟨r.text.toArray⟩) ∧ Below w.heap.size w w' := by
  have HR := Lib.hid hr
  obtain ⟨⟨c0, c1⟩, ⟨t0, t1⟩, ⟨k0, k1⟩, ⟨y0, y1⟩, ⟨v0, v1⟩⟩ := hr
  have hbox : Below w.heap.size w (w.alloc (.cells r.cells.toArray 27)) := (Below.refl _ _).alloc (Nat.le_refl _) _
  have HBX := Lib.hid hbox
  have HT := Lib.hid (Tab.on ht hbox)
  obtain ⟨W, hW⟩ : ∃ W, W = w.alloc (.cells r.cells.toArray 27) := ⟨_, rfl⟩
  have hWs : W.heap.size = w.heap.size + 1 := by rw [hW]; simp
  have q0 : W.cell? ⟨w.heap.size, 0, none⟩ = some (.int .u8 r.c) := by rw [hW]; simp [Rq.cells]
  have q1 : W.cell? ⟨w.heap.size, 1, none⟩ = some (.int .u32 r.t) := by rw [hW]; simp [Rq.cells]
  have q2 : W.cell? ⟨w.heap.size, 2, none⟩ = some (.int .u8 r.k) := by rw [hW]; simp [Rq.cells]
  have q3 : W.cell? ⟨w.heap.size, 3, none⟩ = some (.int .u8 r.y) := by rw [hW]; simp [Rq.cells]
  have q4 : W.cell? ⟨w.heap.size, 4, none⟩ = some (.int .u16 r.v) := by rw [hW]; simp [Rq.cells]
  rw [← hW] at HBX HT
  have HWS := Lib.hid hWs
  have HW := Lib.hid hW
  have A1 := Lib.hid (append_any (w.heap.size + 1) 0 r.c c0 (by omega) (.slice none 0 0) [] W (World.ownsRow_nil _ _ _ _) (by omega) (by omega) HT.out)
  have hL := Lib.hid (r.textUp_len HR.out)
  simp only [Rq.cells] at HW ⊢
  clear ht hbox hWs hW
  go_enter Tryd.func24, Tryd.ntmps24
  go_wp2_with fail
  rw [← HW.out]
  refine Calls.mono A1.out ?_
  rintro e w1 ⟨v1, rfl, h1, h2⟩
  have p1 := (Below.cell h2 (p := ⟨w.heap.size, 1, none⟩) (by simp)).trans q1
  have p2 := (Below.cell h2 (p := ⟨w.heap.size, 2, none⟩) (by simp)).trans q2
  have p3 := (Below.cell h2 (p := ⟨w.heap.size, 3, none⟩) (by simp)).trans q3
  have p4 := (Below.cell h2 (p := ⟨w.heap.size, 4, none⟩) (by simp)).trans q4
  have H1 := Lib.hid h1
  have H2 := Lib.hid h2
  clear h1 h2 q0 q1 q2 q3 q4
  go_wp2_with fail
  go_loopw [3, 5, 26] (fun v _ vi wr => ∃ j : Nat, j ≤ 4 ∧ vi = .int .i64 j ∧ wr.ownsRow (w.heap.size + 1) 5 1 v (r.textUp j).length (Lib.byteCells (r.textUp j)) ∧ Below (w.heap.size + 1) W wr) (fun _ _ i _ => 4 - (intOf i).toNat)
  case atStart =>
    refine ⟨0, by omega, rfl, ?_, H2.out⟩
    have := H1.out
    simpa [Rq.textUp] using this
  case round =>
    obtain ⟨j, hj, rfl, h1, h2⟩ := hrel
    have HB := Lib.hid h2
    have HO := Lib.hid h1
    have hl := hL.out j hj
    have hsz : w.heap.size + 1 ≤ wr.heap.size := by have := h2.size; rw [HWS.out] at this; exact this
    clear h1 h2
    by_cases hlt : j < 4
    · obtain ⟨x, hx⟩ : ∃ x, x = r.nums.getD j 0 := ⟨_, rfl⟩
      have hxb : 0 ≤ x ∧ x ≤ 4294967295 := by
        rw [hx]
        match j, hlt with
        | 0, _ => simp [Rq.nums]; omega
        | 1, _ => simp [Rq.nums]; omega
        | 2, _ => simp [Rq.nums]; omega
        | 3, _ => simp [Rq.nums]; omega
      have hix : ∀ w, (Instr.index 116 (.agg #[.int .u64 r.t, .int .u64 r.k, .int .u64 r.y, .int .u64 r.v]) (.int .i64 j)).run Tryd.prog w = .ok (.int .u64 x) w := by
        intro w
        rw [hx]
        match j, hlt with
        | 0, _ => rfl
        | 1, _ => rfl
        | 2, _ => rfl
        | 3, _ => rfl
      have hstep : r.textUp (j + 1) = (r.textUp j ++ [58]) ++ dg x := by rw [hx]; simp [Rq.textUp]
      have HS := Lib.hid hstep
      have hdl := dg_len x (by omega)
      obtain ⟨x0, x1⟩ := hxb
      clear hx hstep
      go_wp2_with (at_builtin
                   refine colon_own (w := W) rfl (.tmp 29) (.tmp 30) rfl rfl rfl HO.out hsz (by omega) HB.out ?_
                   intro v2 w2 ho2 hb2
                   have HO2 := Lib.hid ho2
                   have HB2 := Lib.hid hb2
                   clear ho2 hb2
                   refine Hid.out ?_)
      refine Lib.hid ?_
      have hsz2 : w.heap.size + 1 ≤ w2.heap.size := by have := HB2.out.size; rw [HWS.out] at this; exact this
      have A2 := Lib.hid (append_any (w.heap.size + 1) ((r.textUp j).length + 1) x x0 (by omega) v2 _ w2 HO2.out hsz2 (by omega) (Tab.on HT.out (HB2.out.mono (by rw [HWS.out]; exact Nat.le_refl _))))
      go_wp2_with fail
      refine Calls.mono A2.out ?_
      rintro e w3 ⟨v3, rfl, h3, h4⟩
      have H3 := Lib.hid h3
      have H4 := Lib.hid h4
      clear h3 h4
      go_wp2_with fail
      go_round
      case rel =>
        refine ⟨j + 1, by omega, by go_num, ?_, HB2.out.trans H4.out⟩
        have := H3.out
        rw [HS.out]
        have e2 : (r.textUp j ++ [58] ++ dg x).length = (r.textUp j).length + 1 + (dg x).length := by simp; omega
        rw [e2]; exact this
      case measure => simp [intOf]; omega
    · obtain rfl : j = 4 := by omega
      have hO := HO.out
      rw [r.textUp_4] at hO
      have hb := HB.out
      have hpos : 0 < r.text.length := by simp [Rq.text]; omega
      have HP := Lib.hid hpos
      obtain ⟨l, hl⟩ : ∃ l, l = r.text := ⟨_, rfl⟩
      rw [← hl] at hO hpos
      have HL := Lib.hid hl
      have HB3 := Lib.hid hb
      clear hl hb
      rcases hO.2 with ⟨-, h0⟩ | ⟨g, cap, cur, rfl, -, -, -, -, -, -⟩
      · omega
      · have hcv := run_convert_bytes_back (P := Tryd.prog) wr 35 9 5 ⟨g, 0, none⟩ cap l Tryd.underlying35 Tryd.underlying5 Tryd.underlying9 (fun j hj => hO.cells (g := g) rfl j _ (by simp [Lib.byteCells, hj]))
        have HO3 := Lib.hid hO
        clear hO
        go_wp2_with fail
        go_ret
        refine ⟨by have hh := HL.out; subst hh; rfl, ?_⟩
        exact HBX.out.trans (HB3.out.mono (by omega))
end Go.Proofs.YtigpfaecbmnklaaDoor
