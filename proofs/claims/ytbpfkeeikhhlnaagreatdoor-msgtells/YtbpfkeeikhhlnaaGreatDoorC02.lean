/- What strconv.AppendUint appends, and the text of a request. The small questions of package msg; what a kind's messages carry. Marks and entries, lists of them in memory, whether two lists are the same. Votes: whether two are the same. -/
import Derived.Shelf.LaysM
import Derived.Shelf.Strconv.AppendUint10
import Derived.Test.YtbpfkeeikhhlnaaGreatDoorC01
import Derived.Shelf.SlicesQ.Load
import Derived.Lib.SlBy2
namespace Go.Proofs.YtbpfkeeikhhlnaaGreatDoor
open Go.RowKit
set_option maxRecDepth 100000

/-- the laying of strconv.AppendUint at base 10, in plain words -/
def laysM288_ren : Go.Shelf.Ren := ⟨fun | 288 => 81 | 283 => 100 | 284 => 101 | 285 => 102 | 286 => 103 | 129 => 117 | 317 => 116 | 318 => 118 | 319 => 119 | 320 => 120 | 337 => 125 | 338 => 126 | n => n, fun | 37 => 35 | 53 => 28 | 3 => 3 | 4 => 4 | 9 => 9 | 171 => 140 | 0 => 0 | 173 => 143 | 212 => 160 | 51 => 22 | 5 => 5 | 20 => 20 | 213 => 161 | 46 => 114 | 232 => 172 | 233 => 173 | n => n, fun | 17 => 0 | 18 => 1 | 19 => 2 | n => n⟩
theorem laysM288 : LaysM.n288 Tryz.prog laysM288_ren where
  mixed := by kernel_rfl
  f129 := Tryz.func117.trans (congrArg some (by kernel_rfl))
  f283 := Tryz.func100.trans (congrArg some (by kernel_rfl))
  f284 := Tryz.func101.trans (congrArg some (by kernel_rfl))
  f285 := Tryz.func102.trans (congrArg some (by kernel_rfl))
  f286 := Tryz.func103.trans (congrArg some (by kernel_rfl))
  f288 := Tryz.func81.trans (congrArg some (by kernel_rfl))
  f317 := Tryz.func116.trans (congrArg some (by kernel_rfl))
  f318 := Tryz.func118.trans (congrArg some (by kernel_rfl))
  f319 := Tryz.func119.trans (congrArg some (by kernel_rfl))
  f320 := Tryz.func120.trans (congrArg some (by kernel_rfl))
  f337 := Tryz.func125.trans (congrArg some (by kernel_rfl))
  f338 := Tryz.func126.trans (congrArg some (by kernel_rfl))
  t0 := Tryz.underlying0
  a0 := Tryz.isAgg0
  z0 := Tryz.sizeOf0
  v0 := Tryz.zeroValue0
  t3 := Tryz.underlying3
  a3 := Tryz.isAgg3
  z3 := Tryz.sizeOf3
  v3 := Tryz.zeroValue3
  t4 := Tryz.underlying4
  a4 := Tryz.isAgg4
  z4 := Tryz.sizeOf4
  v4 := Tryz.zeroValue4
  t5 := Tryz.underlying5
  a5 := Tryz.isAgg5
  z5 := Tryz.sizeOf5
  v5 := Tryz.zeroValue5
  t9 := Tryz.underlying9
  a9 := Tryz.isAgg9
  z9 := Tryz.sizeOf9
  v9 := Tryz.zeroValue9
  t20 := Tryz.underlying20
  a20 := Tryz.isAgg20
  z20 := Tryz.sizeOf20
  v20 := Tryz.zeroValue20
  t37 := Tryz.underlying35
  a37 := Tryz.isAgg35
  z37 := Tryz.sizeOf35
  v37 := Tryz.zeroValue35
  t46 := Tryz.underlying114
  a46 := Tryz.isAgg114
  z46 := Tryz.sizeOf114
  v46 := Tryz.zeroValue114
  t51 := Tryz.underlying22
  a51 := Tryz.isAgg22
  z51 := Tryz.sizeOf22
  v51 := Tryz.zeroValue22
  t53 := Tryz.underlying28
  a53 := Tryz.isAgg28
  z53 := Tryz.sizeOf28
  v53 := Tryz.zeroValue28
  t171 := Tryz.underlying140
  a171 := Tryz.isAgg140
  z171 := Tryz.sizeOf140
  v171 := Tryz.zeroValue140
  t173 := Tryz.underlying143
  a173 := Tryz.isAgg143
  z173 := Tryz.sizeOf143
  v173 := Tryz.zeroValue143
  t212 := Tryz.underlying160
  a212 := Tryz.isAgg160
  z212 := Tryz.sizeOf160
  v212 := Tryz.zeroValue160
  t213 := Tryz.underlying161
  a213 := Tryz.isAgg161
  z213 := Tryz.sizeOf161
  t232 := Tryz.underlying172
  a232 := Tryz.isAgg172
  z232 := Tryz.sizeOf172
  v232 := Tryz.zeroValue172
  t233 := Tryz.underlying173
  a233 := Tryz.isAgg173
  z233 := Tryz.sizeOf173
  v233 := Tryz.zeroValue173
  g17 := by kernel_rfl
  g18 := by kernel_rfl
  g19 := by kernel_rfl
  i0 := by kernel_rfl
  i3 := by kernel_rfl
  i4 := by kernel_rfl
  i5 := by kernel_rfl
  i9 := by kernel_rfl
  i20 := by kernel_rfl
  i37 := by kernel_rfl
  i46 := by kernel_rfl
  i51 := by kernel_rfl
  i53 := by kernel_rfl
  i171 := by kernel_rfl
  i173 := by kernel_rfl
  i212 := by kernel_rfl
  i232 := by kernel_rfl
  i233 := by kernel_rfl
  m17 := by kernel_rfl
  m18 := by kernel_rfl
  m19 := by kernel_rfl

/-- the table of powers that strconv reads -/
def Tab (w : World) : Prop := Lib.TabIs Tryz.prog w "internal/strconv.uint64pow10" .u64 Lib.pow10Tab

theorem Tab.on {w w' : World} (h : Tab w) (hb : Below w.heap.size w w') : Tab w' := (Lib.tabBelow_of_tabIs h) w' hb

theorem iappend_any (B n u : Nat) (hu : u < 18446744073709551616) (sv : Value) (xs : List Value) (w : World) (hown : w.ownsRow B 5 1 sv n xs) (hBw : B ≤ w.heap.size) (hlim : n + 20 ≤ 140737488355328) (ht : Tab w) :
    Calls Tryz.prog 81 #[sv, .int .u64 u, .int .i64 10] w fun e w' => ∃ v', e = .returned v' ∧ w'.ownsRow B 5 1 v' (n + (Lib.decDigits u).length) (xs ++ Lib.byteCells (Lib.decDigits u)) ∧ Below B w w' := by
  rcases Nat.lt_or_ge u 100 with h | h
  · refine Calls.mono (Any.internal_strconv_AppendUint_10_small laysM288 B n u h sv xs w hown hBw hlim) ?_
    rintro e w' ⟨v', he, h1, h2, h3⟩
    exact ⟨v', he, h1, h2⟩
  · refine Calls.mono (Any.internal_strconv_AppendUint_10_big laysM288 B n u h hu sv xs w hown hBw hlim ht) ?_
    rintro e w' ⟨v', he, h1, h2, h3⟩
    exact ⟨v', he, h1, h2⟩

def dg (n : Int) : List UInt8 := Lib.decDigits n.toNat

theorem append_any (B n : Nat) (u : Int) (h0 : 0 ≤ u) (hu : u ≤ 18446744073709551615) (sv : Value) (xs : List UInt8) (w : World) (hown : w.ownsRow B 5 1 sv n (Lib.byteCells xs)) (hBw : B ≤ w.heap.size) (hlim : n + 20 ≤ 140737488355328) (ht : Tab w) :
    Calls Tryz.prog 56 #[sv, .int .u64 u, .int .i64 10] w fun e w' => ∃ v', e = .returned v' ∧ w'.ownsRow B 5 1 v' (n + (dg u).length) (Lib.byteCells (xs ++ dg u)) ∧ Below B w w' := by
  obtain ⟨m, rfl⟩ : ∃ m : Nat, u = m := ⟨u.toNat, by omega⟩
  have H := Lib.hid (iappend_any B n m (by omega) sv _ w hown hBw hlim ht)
  clear hown ht
  go_enter Tryz.func56, Tryz.ntmps56
  go_wp2_with fail
  refine Calls.mono H.out ?_
  rintro e w' ⟨v', rfl, h1, h2⟩
  have H1 := Lib.hid h1
  have H2 := Lib.hid h2
  clear h1 h2
  go_wp2_with fail
  go_ret
  refine ⟨v', rfl, ?_, H2.out⟩
  have := H1.out
  rw [← Lib.byteCells_append] at this
  simpa [dg] using this

/-- a request in range -/
def Rq.ok (r : Rq) : Prop := (0 ≤ r.c ∧ r.c ≤ 255) ∧ (0 ≤ r.t ∧ r.t ≤ 4294967295) ∧ (0 ≤ r.k ∧ r.k ≤ 255) ∧ (0 ≤ r.y ∧ r.y ≤ 255) ∧ (0 ≤ r.v ∧ r.v ≤ 65535)

def Rq.nums (r : Rq) : List Int := [r.t, r.k, r.y, r.v]
def Rq.textUp (r : Rq) : Nat → List UInt8
  | 0 => dg r.c
  | k + 1 => r.textUp k ++ 58 :: dg (r.nums.getD k 0)
def Rq.text (r : Rq) : List UInt8 := dg r.c ++ 58 :: (dg r.t ++ 58 :: (dg r.k ++ 58 :: (dg r.y ++ 58 :: dg r.v)))
theorem Rq.textUp_4 (r : Rq) : r.textUp 4 = r.text := by simp [Rq.textUp, Rq.text, Rq.nums]

theorem dg_len (n : Int) (h : n < 18446744073709551616) : (dg n).length ≤ 20 := by
  unfold dg
  rw [Lib.decDigits_length]
  rcases Nat.eq_zero_or_pos n.toNat with h0 | h0
  · rw [h0, Lib.nDigits_small (by decide)]; decide
  · have := Lib.numDigits_eq n.toNat h0 (by omega); split at this <;> omega

theorem byteInfo5 : (Tryz.prog.info? 5).map (fun i => (i.zero, i.size, i.bytes)) = some (some (.int .u8 0), 1, 1) := by kernel_rfl

/-- ':' is appended to a row that the call made -/
theorem colon_own {w w1 : World} {v1 : Value} {n B : Nat} {xs : List UInt8} {ops : Array Oper} {rest : List Oper} {o : Oper} {a : Act} {Q : Exit → Act → World → Prop} (hgd : o.guard = none) (s x : Operand)
    (ho : o.op = .call { callee := .builtin .append, args := #[s, x], argTypes := #[35, 35] }) (hs : a.eval s = v1) (hx : a.eval x = .slice (some ⟨w1.heap.size, 0, none⟩) 1 1)
    (hown1 : w1.ownsRow B 5 1 v1 n (Lib.byteCells xs)) (hB : B ≤ w1.heap.size) (hn : n ≤ 1000) (hnx1 : Below B w w1)
    (hK : ∀ v' w', w'.ownsRow B 5 1 v' (n + 1) (Lib.byteCells (xs ++ [58])) → Below B w w' → wpList Tryz.prog ops Q rest (a.put o.dst v') w') :
    wpList Tryz.prog ops Q (o :: rest) a (w1.alloc (.cells #[.int .u8 58] 5)) := by
  obtain ⟨i0, hi, hz0, hz1, hz2⟩ := info_parts byteInfo5
  refine wpList_append_own _ hgd _ _ 35 ho B 5 i0 (.int .u8 0) 1 1 Tryz.underlying35 hi hz0 hz1 hz2 rfl (by decide) _ _ _ hs (hown1.alloc _) ⟨w1.heap.size, 0, none⟩ 1 1 [Value.int .u8 58] hx rfl (by intro j u' hj; match j, hj with | 0, hj => simp at hj; subst hj; simp [Addr.add]) (by intro u' hu'; simp at hu'; subst hu'; rfl) (by unfold maxLen; omega) (by omega) (by simp; omega) ?_
  intro v2 w2 hown2 hgrow _
  have hnx2 : Below B w w2 := (hnx1.alloc (by omega) _).grown hgrow (by simp; omega) (fun k hk => (hown1.lt k hk).1)
  refine hK v2 w2 ?_ hnx2
  have e : Lib.byteCells (xs ++ [58]) = Lib.byteCells xs ++ [Value.int .u8 58] := by rw [Lib.byteCells_append]; rfl
  rw [e]; exact hown2

theorem Rq.textUp_len (r : Rq) (hr : r.ok) : ∀ k, k ≤ 4 → (r.textUp k).length ≤ 20 + 21 * k := by
  intro k
  obtain ⟨⟨c0, c1⟩, ⟨t0, t1⟩, ⟨k0, k1⟩, ⟨y0, y1⟩, ⟨v0, v1⟩⟩ := hr
  induction k with
  | zero => intro _; have := dg_len r.c (by omega); simp [Rq.textUp]; omega
  | succ j ih =>
    intro hj
    have h1 := ih (by omega)
    have h2 : (dg (r.nums.getD j 0)).length ≤ 20 := by
      apply dg_len
      match j, hj with
      | 0, _ => simp [Rq.nums]; omega
      | 1, _ => simp [Rq.nums]; omega
      | 2, _ => simp [Rq.nums]; omega
      | 3, _ => simp [Rq.nums]; omega
    simp only [Rq.textUp, List.length_append, List.length_cons]; omega

set_option maxHeartbeats 1600000 in
theorem text_any (r : Rq) (hr : r.ok) (w : World) (ht : Tab w) :
    Calls Tryz.prog 18 #[.agg r.cells.toArray] w fun e w' => e = .returned (.string ⟨r.text.toArray⟩) ∧ Below w.heap.size w w' := by
  have HR := Lib.hid hr
  obtain ⟨⟨c0, c1⟩, ⟨t0, t1⟩, ⟨k0, k1⟩, ⟨y0, y1⟩, ⟨v0, v1⟩⟩ := hr
  have hbox : Below w.heap.size w (w.alloc (.cells r.cells.toArray 27)) := (Below.refl _ _).alloc (Nat.le_refl _) _
  have HBX := Lib.hid hbox
  have HT := Lib.hid (Tab.on ht hbox)
  obtain ⟨W, hW⟩ : ∃ W, W = w.alloc (.cells r.cells.toArray 27) := ⟨_, rfl⟩
  have hWs : W.heap.size = w.heap.size + 1 := by rw [hW]; simp
  have q0 : W.cell? ⟨w.heap.size, 0, none⟩ = some (.int .u8 r.c) := by rw [hW]; simp [Rq.cells]
  have q1 : W.cell? ⟨w.heap.size, 1, none⟩ = some (.int .u32 r.t) := by rw [hW]; simp [Rq.cells]
  have q2 : W.cell? ⟨w.heap.size, 2, none⟩ = some (.int .u8 r.k) := by rw [hW]; simp [Rq.cells]
  have q3 : W.cell? ⟨w.heap.size, 3, none⟩ = some (.int .u8 r.y) := by rw [hW]; simp [Rq.cells]
  have q4 : W.cell? ⟨w.heap.size, 4, none⟩ = some (.int .u16 r.v) := by rw [hW]; simp [Rq.cells]
  rw [← hW] at HBX HT
  have HWS := Lib.hid hWs
  have HW := Lib.hid hW
  have A1 := Lib.hid (append_any (w.heap.size + 1) 0 r.c c0 (by omega) (.slice none 0 0) [] W (World.ownsRow_nil _ _ _ _) (by omega) (by omega) HT.out)
  have hL := Lib.hid (r.textUp_len HR.out)
  simp only [Rq.cells] at HW ⊢
  clear ht hbox hWs hW
  go_enter Tryz.func18, Tryz.ntmps18
  go_wp2_with fail
  rw [← HW.out]
  refine Calls.mono A1.out ?_
  rintro e w1 ⟨v1, rfl, h1, h2⟩
  have p1 := (Below.cell h2 (p := ⟨w.heap.size, 1, none⟩) (by simp)).trans q1
  have p2 := (Below.cell h2 (p := ⟨w.heap.size, 2, none⟩) (by simp)).trans q2
  have p3 := (Below.cell h2 (p := ⟨w.heap.size, 3, none⟩) (by simp)).trans q3
  have p4 := (Below.cell h2 (p := ⟨w.heap.size, 4, none⟩) (by simp)).trans q4
  have H1 := Lib.hid h1
  have H2 := Lib.hid h2
  clear h1 h2 q0 q1 q2 q3 q4
  go_wp2_with fail
  go_loopw [3, 5, 26] (fun v _ vi wr => ∃ j : Nat, j ≤ 4 ∧ vi = .int .i64 j ∧ wr.ownsRow (w.heap.size + 1) 5 1 v (r.textUp j).length (Lib.byteCells (r.textUp j)) ∧ Below (w.heap.size + 1) W wr) (fun _ _ i _ => 4 - (intOf i).toNat)
  case atStart =>
    refine ⟨0, by omega, rfl, ?_, H2.out⟩
    have := H1.out
    simpa [Rq.textUp] using this
  case round =>
    obtain ⟨j, hj, rfl, h1, h2⟩ := hrel
    have HB := Lib.hid h2
    have HO := Lib.hid h1
    have hl := hL.out j hj
    have hsz : w.heap.size + 1 ≤ wr.heap.size := by have := h2.size; rw [HWS.out] at this; exact this
    clear h1 h2
    by_cases hlt : j < 4
    · obtain ⟨x, hx⟩ : ∃ x, x = r.nums.getD j 0 := ⟨_, rfl⟩
      have hxb : 0 ≤ x ∧ x ≤ 4294967295 := by
        rw [hx]
        match j, hlt with
        | 0, _ => simp [Rq.nums]; omega
        | 1, _ => simp [Rq.nums]; omega
        | 2, _ => simp [Rq.nums]; omega
        | 3, _ => simp [Rq.nums]; omega
      have hix : ∀ w, (Instr.index 88 (.agg #[.int .u64 r.t, .int .u64 r.k, .int .u64 r.y, .int .u64 r.v]) (.int .i64 j)).run Tryz.prog w = .ok (.int .u64 x) w := by
        intro w
        rw [hx]
        match j, hlt with
        | 0, _ => rfl
        | 1, _ => rfl
        | 2, _ => rfl
        | 3, _ => rfl
      have hstep : r.textUp (j + 1) = (r.textUp j ++ [58]) ++ dg x := by rw [hx]; simp [Rq.textUp]
      have HS := Lib.hid hstep
      have hdl := dg_len x (by omega)
      obtain ⟨x0, x1⟩ := hxb
      clear hx hstep
      go_wp2_with (at_builtin
                   refine colon_own (w := W) rfl (.tmp 29) (.tmp 30) rfl rfl rfl HO.out hsz (by omega) HB.out ?_
                   intro v2 w2 ho2 hb2
                   have HO2 := Lib.hid ho2
                   have HB2 := Lib.hid hb2
                   clear ho2 hb2
                   refine Hid.out ?_)
      refine Lib.hid ?_
      have hsz2 : w.heap.size + 1 ≤ w2.heap.size := by have := HB2.out.size; rw [HWS.out] at this; exact this
      have A2 := Lib.hid (append_any (w.heap.size + 1) ((r.textUp j).length + 1) x x0 (by omega) v2 _ w2 HO2.out hsz2 (by omega) (Tab.on HT.out (HB2.out.mono (by rw [HWS.out]; exact Nat.le_refl _))))
      go_wp2_with fail
      refine Calls.mono A2.out ?_
      rintro e w3 ⟨v3, rfl, h3, h4⟩
      have H3 := Lib.hid h3
      have H4 := Lib.hid h4
      clear h3 h4
      go_wp2_with fail
      go_round
      case rel =>
        refine ⟨j + 1, by omega, by go_num, ?_, HB2.out.trans H4.out⟩
        have := H3.out
        rw [HS.out]
        have e2 : (r.textUp j ++ [58] ++ dg x).length = (r.textUp j).length + 1 + (dg x).length := by simp; omega
        rw [e2]; exact this
      case measure => simp [intOf]; omega
    · obtain rfl : j = 4 := by omega
      have hO := HO.out
      rw [r.textUp_4] at hO
      have hb := HB.out
      have hpos : 0 < r.text.length := by simp [Rq.text]; omega
      have HP := Lib.hid hpos
      obtain ⟨l, hl⟩ : ∃ l, l = r.text := ⟨_, rfl⟩
      rw [← hl] at hO hpos
      have HL := Lib.hid hl
      have HB3 := Lib.hid hb
      clear hl hb
      rcases hO.2 with ⟨-, h0⟩ | ⟨g, cap, cur, rfl, -, -, -, -, -, -⟩
      · omega
      · have hcv := run_convert_bytes_back (P := Tryz.prog) wr 35 9 5 ⟨g, 0, none⟩ cap l Tryz.underlying35 Tryz.underlying5 Tryz.underlying9 (fun j hj => hO.cells (g := g) rfl j _ (by simp [Lib.byteCells, hj]))
        have HO3 := Lib.hid hO
        clear hO
        go_wp2_with fail
        go_ret
        refine ⟨by have hh := HL.out; subst hh; rfl, ?_⟩
        exact HBX.out.trans (HB3.out.mono (by omega))

def isEp (x : Int) : Bool := decide (1 ≤ x) && decide (x ≤ 200)
def isVw (x : Int) : Bool := decide (x ≤ 1048576)
def isNv (x : Int) : Bool := decide (1 ≤ x) && decide (x ≤ 1048576)
def isSq (x : Int) : Bool := decide (x ≤ 1073741824)
def isPl (x : Int) : Bool := decide (1 ≤ x) && decide (x ≤ 1073741824)
def isPh (x : Int) : Bool := decide (2 ≤ x) && decide (x ≤ 4)
def isRp (x : Int) : Bool := decide (x < 4)

theorem isReplica_any (x : Int) (w : World) : Calls Tryz.prog 40 #[.int .u8 x] w fun e w' => e = .returned (.bool (isRp x)) ∧ w' = w := by
  unfold isRp
  by_cases h0 : x < 4 <;>
  · go_enter Tryz.func40, Tryz.ntmps40
    go_wp2
    go_ret
    refine ⟨?_, rfl⟩
    simp_all

theorem isEpoch_any (x : Int) (w : World) : Calls Tryz.prog 41 #[.int .u8 x] w fun e w' => e = .returned (.bool (isEp x)) ∧ w' = w := by
  unfold isEp
  by_cases h0 : 1 ≤ x <;> by_cases h1 : x ≤ 200 <;>
  · go_enter Tryz.func41, Tryz.ntmps41
    go_wp2
    go_ret
    refine ⟨?_, rfl⟩
    simp_all

theorem isView_any (x : Int) (w : World) : Calls Tryz.prog 73 #[.int .u32 x] w fun e w' => e = .returned (.bool (isVw x)) ∧ w' = w := by
  unfold isVw
  by_cases h0 : x ≤ 1048576 <;>
  · go_enter Tryz.func73, Tryz.ntmps73
    go_wp2
    go_ret
    refine ⟨?_, rfl⟩
    simp_all

theorem isNewView_any (x : Int) (w : World) : Calls Tryz.prog 42 #[.int .u32 x] w fun e w' => e = .returned (.bool (isNv x)) ∧ w' = w := by
  unfold isNv
  by_cases h0 : 1 ≤ x <;> by_cases h1 : x ≤ 1048576 <;>
  · go_enter Tryz.func42, Tryz.ntmps42
    go_wp2
    go_ret
    refine ⟨?_, rfl⟩
    simp_all

theorem isSeq_any (x : Int) (w : World) : Calls Tryz.prog 43 #[.int .u32 x] w fun e w' => e = .returned (.bool (isSq x)) ∧ w' = w := by
  unfold isSq
  by_cases h0 : x ≤ 1073741824 <;>
  · go_enter Tryz.func43, Tryz.ntmps43
    go_wp2
    go_ret
    refine ⟨?_, rfl⟩
    simp_all

theorem isPlace_any (x : Int) (w : World) : Calls Tryz.prog 75 #[.int .u32 x] w fun e w' => e = .returned (.bool (isPl x)) ∧ w' = w := by
  unfold isPl
  by_cases h0 : 1 ≤ x <;> by_cases h1 : x ≤ 1073741824 <;>
  · go_enter Tryz.func75, Tryz.ntmps75
    go_wp2
    go_ret
    refine ⟨?_, rfl⟩
    simp_all

theorem isPhase_any (x : Int) (w : World) : Calls Tryz.prog 74 #[.int .u8 x] w fun e w' => e = .returned (.bool (isPh x)) ∧ w' = w := by
  unfold isPh
  by_cases h0 : 2 ≤ x <;> by_cases h1 : x ≤ 4 <;>
  · go_enter Tryz.func74, Tryz.ntmps74
    go_wp2
    go_ret
    refine ⟨?_, rfl⟩
    simp_all

def partsOf (k : Int) : List Int :=
  if k = 1 then [2] else if k = 2 then [0, 1, 2] else if k = 3 then [0, 1, 2] else if k = 4 then [0, 1, 2] else if k = 5 then [1, 3] else if k = 6 then [7] else if k = 7 then [0, 8] else if k = 8 then [4] else if k = 9 then [4] else if k = 10 then [4, 1] else if k = 11 then [1, 5] else if k = 12 then [1, 9] else if k = 13 then [1, 5, 10] else if k = 14 then [0, 2, 6] else []

theorem parts_any (k : Int) (w : World) : Calls Tryz.prog 25 #[.int .u8 k] w fun e w' => ∃ ao, e = .returned (.slice ao (partsOf k).length (partsOf k).length) ∧ Bytes w' ao (partsOf k) ∧ (ao = none → partsOf k = []) ∧ Below w.heap.size w w' := by
  by_cases h1 : k = 1
  · subst h1
    go_enter Tryz.func25, Tryz.ntmps25
    go_wp2
    go_ret
    refine ⟨some ⟨w.heap.size, 0, none⟩, rfl, bytes_new w [2] 61, (fun h => by cases h), (Below.refl _ _).alloc (Nat.le_refl _) _⟩
  by_cases h2 : k = 2
  · subst h2
    go_enter Tryz.func25, Tryz.ntmps25
    go_wp2
    go_ret
    refine ⟨some ⟨w.heap.size, 0, none⟩, rfl, bytes_new w [0, 1, 2] 61, (fun h => by cases h), (Below.refl _ _).alloc (Nat.le_refl _) _⟩
  by_cases h3 : k = 3
  · subst h3
    go_enter Tryz.func25, Tryz.ntmps25
    go_wp2
    go_ret
    refine ⟨some ⟨w.heap.size, 0, none⟩, rfl, bytes_new w [0, 1, 2] 61, (fun h => by cases h), (Below.refl _ _).alloc (Nat.le_refl _) _⟩
  by_cases h4 : k = 4
  · subst h4
    go_enter Tryz.func25, Tryz.ntmps25
    go_wp2
    go_ret
    refine ⟨some ⟨w.heap.size, 0, none⟩, rfl, bytes_new w [0, 1, 2] 61, (fun h => by cases h), (Below.refl _ _).alloc (Nat.le_refl _) _⟩
  by_cases h5 : k = 5
  · subst h5
    go_enter Tryz.func25, Tryz.ntmps25
    go_wp2
    go_ret
    refine ⟨some ⟨w.heap.size, 0, none⟩, rfl, bytes_new w [1, 3] 61, (fun h => by cases h), (Below.refl _ _).alloc (Nat.le_refl _) _⟩
  by_cases h6 : k = 6
  · subst h6
    go_enter Tryz.func25, Tryz.ntmps25
    go_wp2
    go_ret
    refine ⟨some ⟨w.heap.size, 0, none⟩, rfl, bytes_new w [7] 61, (fun h => by cases h), (Below.refl _ _).alloc (Nat.le_refl _) _⟩
  by_cases h7 : k = 7
  · subst h7
    go_enter Tryz.func25, Tryz.ntmps25
    go_wp2
    go_ret
    refine ⟨some ⟨w.heap.size, 0, none⟩, rfl, bytes_new w [0, 8] 61, (fun h => by cases h), (Below.refl _ _).alloc (Nat.le_refl _) _⟩
  by_cases h8 : k = 8
  · subst h8
    go_enter Tryz.func25, Tryz.ntmps25
    go_wp2
    go_ret
    refine ⟨some ⟨w.heap.size, 0, none⟩, rfl, bytes_new w [4] 61, (fun h => by cases h), (Below.refl _ _).alloc (Nat.le_refl _) _⟩
  by_cases h9 : k = 9
  · subst h9
    go_enter Tryz.func25, Tryz.ntmps25
    go_wp2
    go_ret
    refine ⟨some ⟨w.heap.size, 0, none⟩, rfl, bytes_new w [4] 61, (fun h => by cases h), (Below.refl _ _).alloc (Nat.le_refl _) _⟩
  by_cases h10 : k = 10
  · subst h10
    go_enter Tryz.func25, Tryz.ntmps25
    go_wp2
    go_ret
    refine ⟨some ⟨w.heap.size, 0, none⟩, rfl, bytes_new w [4, 1] 61, (fun h => by cases h), (Below.refl _ _).alloc (Nat.le_refl _) _⟩
  by_cases h11 : k = 11
  · subst h11
    go_enter Tryz.func25, Tryz.ntmps25
    go_wp2
    go_ret
    refine ⟨some ⟨w.heap.size, 0, none⟩, rfl, bytes_new w [1, 5] 61, (fun h => by cases h), (Below.refl _ _).alloc (Nat.le_refl _) _⟩
  by_cases h12 : k = 12
  · subst h12
    go_enter Tryz.func25, Tryz.ntmps25
    go_wp2
    go_ret
    refine ⟨some ⟨w.heap.size, 0, none⟩, rfl, bytes_new w [1, 9] 61, (fun h => by cases h), (Below.refl _ _).alloc (Nat.le_refl _) _⟩
  by_cases h13 : k = 13
  · subst h13
    go_enter Tryz.func25, Tryz.ntmps25
    go_wp2
    go_ret
    refine ⟨some ⟨w.heap.size, 0, none⟩, rfl, bytes_new w [1, 5, 10] 61, (fun h => by cases h), (Below.refl _ _).alloc (Nat.le_refl _) _⟩
  by_cases h14 : k = 14
  · subst h14
    go_enter Tryz.func25, Tryz.ntmps25
    go_wp2
    go_ret
    refine ⟨some ⟨w.heap.size, 0, none⟩, rfl, bytes_new w [0, 2, 6] 61, (fun h => by cases h), (Below.refl _ _).alloc (Nat.le_refl _) _⟩
  · have e0 : partsOf k = [] := by unfold partsOf; simp [h1, h2, h3, h4, h5, h6, h7, h8, h9, h10, h11, h12, h13, h14]
    rw [e0]
    go_enter Tryz.func25, Tryz.ntmps25
    go_wp2
    go_ret
    exact ⟨none, rfl, (fun i hi => by simp at hi), (by simp), Below.refl _ _⟩

structure Mk where
  s : Int
  r : Int
deriving DecidableEq, Inhabited
def Mk.cells (x : Mk) : List Value := [.int .u32 x.s, .int .u64 x.r]

instance : Inhabited Rq := ⟨Rq.zero⟩

structure En where
  s : Int
  v : Int
  rq : Rq
deriving DecidableEq, Inhabited
def En.cells (x : En) : List Value := [.int .u32 x.s, .int .u32 x.v, .int .u8 x.rq.c, .int .u32 x.rq.t, .int .u8 x.rq.k, .int .u8 x.rq.y, .int .u16 x.rq.v]

/-- a list lies in memory, k cells an element -/
def Row {α : Type} (w : World) (k : Nat) (enc : α → List Value) (v : Value) (xs : List α) : Prop :=
  ∃ ao cap, v = .slice ao xs.length cap ∧ (ao = none → cap = 0) ∧ xs.length ≤ cap ∧ xs.length ≤ 1000000 ∧
    ∀ (j : Nat) (x : α), xs[j]? = some x → ∃ b off, ao = some ⟨b, off, none⟩ ∧ ∀ i u, (enc x)[i]? = some u → w.cell? ⟨b, off + j * k + i, none⟩ = some u

theorem Row.below {α : Type} {w w' : World} {k : Nat} {enc : α → List Value} {v : Value} {xs : List α} (h : Row w k enc v xs) (hb : Below w.heap.size w w') : Row w' k enc v xs := by
  obtain ⟨ao, cap, rfl, h1, h2, h3, h4⟩ := h
  refine ⟨ao, cap, rfl, h1, h2, h3, fun j x hj => ?_⟩
  obtain ⟨b, off, e, hc⟩ := h4 j x hj
  refine ⟨b, off, e, fun i u hu => ?_⟩
  have := hc i u hu
  rw [hb.cell (cell_block this)]; exact this

theorem Row.nil {α : Type} (w : World) (k : Nat) (enc : α → List Value) : Row w k enc (.slice none 0 0) [] :=
  ⟨none, 0, rfl, fun _ => rfl, Nat.le_refl _, by simp, fun j x hj => by simp at hj⟩

theorem neq_of_eql {P : Program} {T : TypeId} {a b : Array Value} {x : Bool} {w : World} (h : (binOp .eql T (.agg a) (.agg b)).run P w = .ok (.bool x) w) : (binOp .neq T (.agg a) (.agg b)).run P w = .ok (.bool (!x)) w := by
  simp only [binOp] at h ⊢
  generalize Op.equal T (Value.agg a) (Value.agg b) = m at h ⊢
  simp only [Sem.run_bind] at h ⊢
  cases hm : m.run P w with
  | ok b w1 => rw [hm] at h; simp at h ⊢; obtain ⟨h1, h2⟩ := h; subst h1; subst h2; simp
  | _ => rw [hm] at h; simp at h

theorem eql51 (x y : Mk) (w : World) : (binOp .eql 77 (.agg x.cells.toArray) (.agg y.cells.toArray)).run Tryz.prog w = .ok (.bool (decide (x = y))) w := by
  have u22 := Tryz.underlying22; have a22 := Tryz.isAgg22; have z22 := Tryz.sizeOf22
  have u28 := Tryz.underlying28; have a28 := Tryz.isAgg28; have z28 := Tryz.sizeOf28
  have hS : Tryz.prog.underlying 77 = some (.struct (Tryz.prog.fieldsOf 77)) := by kernel_rfl
  have hp : Tryz.prog.stoodInHeld 77 = false := by kernel_rfl
  simp only [Mk.cells]
  rw [run_eql_struct, show (10000 : Nat) = 9999 + 1 from rfl, run_equalIn_agg w 9999 77 _ _ hS hp]
  simp only [Program.fieldsOf, Tryz.underlying77]
  go_simp
  obtain ⟨x1, x2⟩ := x
  obtain ⟨y1, y2⟩ := y
  simp only [Mk.mk.injEq]
  by_cases h1 : x1 = y1 <;> by_cases h2 : x2 = y2 <;> simp [h1, h2]

theorem guard51 : GuardAt Tryz.prog 77 (fun x : Mk => .agg x.cells.toArray) := GuardAt.agg _ (by kernel_rfl)

theorem eql49 (x y : En) (w : World) : (binOp .eql 80 (.agg x.cells.toArray) (.agg y.cells.toArray)).run Tryz.prog w = .ok (.bool (decide (x = y))) w := by
  have u5 := Tryz.underlying5; have a5 := Tryz.isAgg5; have z5 := Tryz.sizeOf5
  have u22 := Tryz.underlying22; have a22 := Tryz.isAgg22; have z22 := Tryz.sizeOf22
  have u23 := Tryz.underlying23; have a23 := Tryz.isAgg23; have z23 := Tryz.sizeOf23
  have u25 := Tryz.underlying25; have a25 := Tryz.isAgg25; have z25 := Tryz.sizeOf25
  have u27 := Tryz.underlying27; have a27 := Tryz.isAgg27; have z27 := Tryz.sizeOf27
  have hS : Tryz.prog.underlying 80 = some (.struct (Tryz.prog.fieldsOf 80)) := by kernel_rfl
  have hp : Tryz.prog.stoodInHeld 80 = false := by kernel_rfl
  have hS7 : Tryz.prog.underlying 27 = some (.struct (Tryz.prog.fieldsOf 27)) := by kernel_rfl
  have hp7 : Tryz.prog.stoodInHeld 27 = false := by kernel_rfl
  have hS5 : Tryz.prog.underlying 25 = some (.struct (Tryz.prog.fieldsOf 25)) := by kernel_rfl
  have hp5 : Tryz.prog.stoodInHeld 25 = false := by kernel_rfl
  have h27 : ∀ (xs ys : Array Value) (w : World), (Op.equalIn 9999 27 (.agg xs) (.agg ys)).run Tryz.prog w = (Op.eqFields 9998 xs ys (Tryz.prog.fieldsOf 27).toList).run Tryz.prog w := fun xs ys w => by
    rw [show (9999 : Nat) = 9998 + 1 from rfl, run_equalIn_agg w 9998 27 _ _ hS7 hp7]
  have h25 : ∀ (xs ys : Array Value) (w : World), (Op.equalIn 9998 25 (.agg xs) (.agg ys)).run Tryz.prog w = (Op.eqFields 9997 xs ys (Tryz.prog.fieldsOf 25).toList).run Tryz.prog w := fun xs ys w => by
    rw [show (9998 : Nat) = 9997 + 1 from rfl, run_equalIn_agg w 9997 25 _ _ hS5 hp5]
  simp only [En.cells]
  rw [run_eql_struct, show (10000 : Nat) = 9999 + 1 from rfl, run_equalIn_agg w 9999 80 _ _ hS hp]
  simp only [Program.fieldsOf, Tryz.underlying80]
  simp only [Program.fieldsOf, Tryz.underlying25] at h25
  simp only [Program.fieldsOf, Tryz.underlying27] at h27
  go_simp
  obtain ⟨x1, x2, ⟨x3, x4, x5, x6, x7⟩⟩ := x
  obtain ⟨y1, y2, ⟨y3, y4, y5, y6, y7⟩⟩ := y
  simp only [En.mk.injEq, Rq.mk.injEq]
  by_cases h1 : x1 = y1 <;> by_cases h2 : x2 = y2 <;> by_cases h3 : x3 = y3 <;> by_cases h4 : x4 = y4 <;> by_cases h5 : x5 = y5 <;> by_cases h6 : x6 = y6 <;> by_cases h7 : x7 = y7 <;> simp [h1, h2, h3, h4, h5, h6, h7]

theorem guard49 : GuardAt Tryz.prog 80 (fun x : En => .agg x.cells.toArray) := GuardAt.agg _ (by kernel_rfl)

theorem ne_at {α : Type} {xs ys : List α} {j : Nat} {x y : α} (h1 : xs[j]? = some x) (h2 : ys[j]? = some y) (h : ¬ x = y) : ¬ xs = ys := fun e => h (by subst e; rw [h1] at h2; injection h2)

theorem same_up {α : Type} {xs ys : List α} {n : Nat} (h1 : xs.length = n) (h2 : ys.length = n) (h : ∀ i, i < n → xs[i]? = ys[i]?) : xs = ys :=
  List.ext_getElem? (fun i => by
    rcases Nat.lt_or_ge i n with h3 | h3
    · exact h i h3
    · rw [List.getElem?_eq_none (by omega), List.getElem?_eq_none (by omega)])

set_option maxHeartbeats 2000000 in
theorem equal63 (w : World) (v1 v2 : Value) (xs ys : List Mk) (h1 : Row w 2 Mk.cells v1 xs) (h2 : Row w 2 Mk.cells v2 ys) :
    Calls Tryz.prog 79 #[v1, v2] w fun e w' => e = .returned (.bool (decide (xs = ys))) ∧ Below w.heap.size w w' := by
  obtain ⟨a1, c1, rfl, -, -, hn1, hr1⟩ := h1
  obtain ⟨a2, c2, rfl, -, -, hn2, hr2⟩ := h2
  have H1 := Lib.hid hr1
  have H2 := Lib.hid hr2
  clear hr1 hr2
  by_cases hnm : xs.length = ys.length
  · generalize hn : xs.length = n at *
    generalize hm : ys.length = m at *
    subst hnm
    have HN := Lib.hid hn
    have HM := Lib.hid hm
    clear hn hm
    go_enter Tryz.func79, Tryz.ntmps79
    go_wp2_with fail
    go_loopw [5, 13] (fun _ vi wr => ∃ j q : Nat, j ≤ n ∧ vi = .int .i64 j ∧ wr = w.drewN q ∧ Hid (∀ i, i < j → xs[i]? = ys[i]?)) (fun _ i _ => n - (intOf i).toNat)
    case atStart => exact ⟨0, 0, by omega, rfl, rfl, Lib.hid (fun i h => by omega)⟩
    case round =>
      obtain ⟨j, q, hj, rfl, rfl, A⟩ := hrel
      by_cases hlt : j < n
      · obtain ⟨x, hx⟩ : ∃ x, xs[j]? = some x := ⟨_, List.getElem?_eq_getElem (by rw [HN.out]; exact hlt)⟩
        obtain ⟨y, hy⟩ : ∃ y, ys[j]? = some y := ⟨_, List.getElem?_eq_getElem (by rw [HM.out]; exact hlt)⟩
        obtain ⟨b1, o1, e1, g1⟩ := H1.out j x hx
        obtain ⟨b2, o2, e2, g2⟩ := H2.out j y hy
        subst e1; subst e2
        have HX := Lib.hid hx
        have HY := Lib.hid hy
        clear hx hy
        have l10 : (w.drewN q).cell? ⟨b1, o1 + j * 2, none⟩ = some (.int .u32 x.s) := by rw [World.cell?_drewN]; exact g1 0 _ rfl
        have l11 : (w.drewN q).cell? ⟨b1, o1 + j * 2 + 1, none⟩ = some (.int .u64 x.r) := by rw [World.cell?_drewN]; exact g1 1 _ rfl
        have l20 : (w.drewN q).cell? ⟨b2, o2 + j * 2, none⟩ = some (.int .u32 y.s) := by rw [World.cell?_drewN]; exact g2 0 _ rfl
        have l21 : (w.drewN q).cell? ⟨b2, o2 + j * 2 + 1, none⟩ = some (.int .u64 y.r) := by rw [World.cell?_drewN]; exact g2 1 _ rfl
        obtain ⟨wq, hwq⟩ : ∃ wq, wq = w.drewN q := ⟨_, rfl⟩
        have HWQ := Lib.hid hwq
        rw [← hwq] at l10 l11 l20 l21 ⊢
        clear g1 g2 hwq
        by_cases hxy : x = y
        · have hq : ∀ w, (binOp .neq 77 (.agg x.cells.toArray) (.agg y.cells.toArray)).run Tryz.prog w = .ok (.bool false) w := fun w => by rw [neq_of_eql (eql51 x y w)]; simp [hxy]
          have hg := fun op a b w => guard51 op a b x y w
          simp only [Mk.cells] at hq hg
          go_wp2_with fail
          go_quiet (fail)
          go_wp2_with fail
          go_round
          case measure => simp [intOf]; omega
          case rel =>
            refine ⟨j + 1, _, by omega, by go_num, by rw [HWQ.out, World.drewN_drewN], Lib.hid (fun i hi => ?_)⟩
            by_cases e : i = j
            · subst e; rw [HX.out, HY.out, hxy]
            · exact A.out i (by omega)
        · have hq : ∀ w, (binOp .neq 77 (.agg x.cells.toArray) (.agg y.cells.toArray)).run Tryz.prog w = .ok (.bool true) w := fun w => by rw [neq_of_eql (eql51 x y w)]; simp [hxy]
          have hg := fun op a b w => guard51 op a b x y w
          simp only [Mk.cells] at hq hg
          go_wp2_with fail
          go_quiet (fail)
          go_wp2_with fail
          go_ret
          have hne : ¬ xs = ys := ne_at HX.out HY.out hxy
          refine ⟨by simp [hne], ?_⟩
          rw [HWQ.out]
          exact ⟨rfl, rfl, rfl, Nat.le_refl _, fun _ _ => rfl⟩
      · obtain rfl : j = n := by omega
        go_wp2_with fail
        go_ret
        have he : xs = ys := same_up HN.out HM.out A.out
        refine ⟨by simp [he], ?_⟩
        exact ⟨rfl, rfl, rfl, Nat.le_refl _, fun _ _ => rfl⟩
  · have hne : ¬ xs = ys := fun e => hnm (by rw [e])
    have hnm' : ¬ (xs.length : Int) = (ys.length : Int) := by omega
    have HNE := Lib.hid hne
    clear hnm hne
    generalize hn : xs.length = n at *
    generalize hm : ys.length = m at *
    go_enter Tryz.func79, Tryz.ntmps79
    go_wp2_with fail
    go_ret
    exact ⟨by simp [HNE.out], Below.refl _ _⟩

set_option maxHeartbeats 2000000 in
theorem equal64 (w : World) (v1 v2 : Value) (xs ys : List En) (h1 : Row w 7 En.cells v1 xs) (h2 : Row w 7 En.cells v2 ys) :
    Calls Tryz.prog 80 #[v1, v2] w fun e w' => e = .returned (.bool (decide (xs = ys))) ∧ Below w.heap.size w w' := by
  obtain ⟨a1, c1, rfl, -, -, hn1, hr1⟩ := h1
  obtain ⟨a2, c2, rfl, -, -, hn2, hr2⟩ := h2
  have H1 := Lib.hid hr1
  have H2 := Lib.hid hr2
  clear hr1 hr2
  by_cases hnm : xs.length = ys.length
  · generalize hn : xs.length = n at *
    generalize hm : ys.length = m at *
    subst hnm
    have HN := Lib.hid hn
    have HM := Lib.hid hm
    clear hn hm
    go_enter Tryz.func80, Tryz.ntmps80
    go_wp2_with fail
    go_loopw [5, 13] (fun _ vi wr => ∃ j q : Nat, j ≤ n ∧ vi = .int .i64 j ∧ wr = w.drewN q ∧ Hid (∀ i, i < j → xs[i]? = ys[i]?)) (fun _ i _ => n - (intOf i).toNat)
    case atStart => exact ⟨0, 0, by omega, rfl, rfl, Lib.hid (fun i h => by omega)⟩
    case round =>
      obtain ⟨j, q, hj, rfl, rfl, A⟩ := hrel
      by_cases hlt : j < n
      · obtain ⟨x, hx⟩ : ∃ x, xs[j]? = some x := ⟨_, List.getElem?_eq_getElem (by rw [HN.out]; exact hlt)⟩
        obtain ⟨y, hy⟩ : ∃ y, ys[j]? = some y := ⟨_, List.getElem?_eq_getElem (by rw [HM.out]; exact hlt)⟩
        obtain ⟨b1, o1, e1, g1⟩ := H1.out j x hx
        obtain ⟨b2, o2, e2, g2⟩ := H2.out j y hy
        subst e1; subst e2
        have HX := Lib.hid hx
        have HY := Lib.hid hy
        clear hx hy
        have l10 : (w.drewN q).cell? ⟨b1, o1 + j * 7, none⟩ = some (.int .u32 x.s) := by rw [World.cell?_drewN]; exact g1 0 _ rfl
        have l11 : (w.drewN q).cell? ⟨b1, o1 + j * 7 + 1, none⟩ = some (.int .u32 x.v) := by rw [World.cell?_drewN]; exact g1 1 _ rfl
        have l12 : (w.drewN q).cell? ⟨b1, o1 + j * 7 + 2, none⟩ = some (.int .u8 x.rq.c) := by rw [World.cell?_drewN]; exact g1 2 _ rfl
        have l13 : (w.drewN q).cell? ⟨b1, o1 + j * 7 + 3, none⟩ = some (.int .u32 x.rq.t) := by rw [World.cell?_drewN]; exact g1 3 _ rfl
        have l14 : (w.drewN q).cell? ⟨b1, o1 + j * 7 + 4, none⟩ = some (.int .u8 x.rq.k) := by rw [World.cell?_drewN]; exact g1 4 _ rfl
        have l15 : (w.drewN q).cell? ⟨b1, o1 + j * 7 + 5, none⟩ = some (.int .u8 x.rq.y) := by rw [World.cell?_drewN]; exact g1 5 _ rfl
        have l16 : (w.drewN q).cell? ⟨b1, o1 + j * 7 + 6, none⟩ = some (.int .u16 x.rq.v) := by rw [World.cell?_drewN]; exact g1 6 _ rfl
        have l20 : (w.drewN q).cell? ⟨b2, o2 + j * 7, none⟩ = some (.int .u32 y.s) := by rw [World.cell?_drewN]; exact g2 0 _ rfl
        have l21 : (w.drewN q).cell? ⟨b2, o2 + j * 7 + 1, none⟩ = some (.int .u32 y.v) := by rw [World.cell?_drewN]; exact g2 1 _ rfl
        have l22 : (w.drewN q).cell? ⟨b2, o2 + j * 7 + 2, none⟩ = some (.int .u8 y.rq.c) := by rw [World.cell?_drewN]; exact g2 2 _ rfl
        have l23 : (w.drewN q).cell? ⟨b2, o2 + j * 7 + 3, none⟩ = some (.int .u32 y.rq.t) := by rw [World.cell?_drewN]; exact g2 3 _ rfl
        have l24 : (w.drewN q).cell? ⟨b2, o2 + j * 7 + 4, none⟩ = some (.int .u8 y.rq.k) := by rw [World.cell?_drewN]; exact g2 4 _ rfl
        have l25 : (w.drewN q).cell? ⟨b2, o2 + j * 7 + 5, none⟩ = some (.int .u8 y.rq.y) := by rw [World.cell?_drewN]; exact g2 5 _ rfl
        have l26 : (w.drewN q).cell? ⟨b2, o2 + j * 7 + 6, none⟩ = some (.int .u16 y.rq.v) := by rw [World.cell?_drewN]; exact g2 6 _ rfl
        obtain ⟨wq, hwq⟩ : ∃ wq, wq = w.drewN q := ⟨_, rfl⟩
        have HWQ := Lib.hid hwq
        rw [← hwq] at l10 l11 l12 l13 l14 l15 l16 l20 l21 l22 l23 l24 l25 l26 ⊢
        clear g1 g2 hwq
        by_cases hxy : x = y
        · have hq : ∀ w, (binOp .neq 80 (.agg x.cells.toArray) (.agg y.cells.toArray)).run Tryz.prog w = .ok (.bool false) w := fun w => by rw [neq_of_eql (eql49 x y w)]; simp [hxy]
          have hg := fun op a b w => guard49 op a b x y w
          simp only [En.cells] at hq hg
          go_wp2_with fail
          go_quiet (fail)
          go_wp2_with fail
          go_round
          case measure => simp [intOf]; omega
          case rel =>
            refine ⟨j + 1, _, by omega, by go_num, by rw [HWQ.out, World.drewN_drewN], Lib.hid (fun i hi => ?_)⟩
            by_cases e : i = j
            · subst e; rw [HX.out, HY.out, hxy]
            · exact A.out i (by omega)
        · have hq : ∀ w, (binOp .neq 80 (.agg x.cells.toArray) (.agg y.cells.toArray)).run Tryz.prog w = .ok (.bool true) w := fun w => by rw [neq_of_eql (eql49 x y w)]; simp [hxy]
          have hg := fun op a b w => guard49 op a b x y w
          simp only [En.cells] at hq hg
          go_wp2_with fail
          go_quiet (fail)
          go_wp2_with fail
          go_ret
          have hne : ¬ xs = ys := ne_at HX.out HY.out hxy
          refine ⟨by simp [hne], ?_⟩
          rw [HWQ.out]
          exact ⟨rfl, rfl, rfl, Nat.le_refl _, fun _ _ => rfl⟩
      · obtain rfl : j = n := by omega
        go_wp2_with fail
        go_ret
        have he : xs = ys := same_up HN.out HM.out A.out
        refine ⟨by simp [he], ?_⟩
        exact ⟨rfl, rfl, rfl, Nat.le_refl _, fun _ _ => rfl⟩
  · have hne : ¬ xs = ys := fun e => hnm (by rw [e])
    have hnm' : ¬ (xs.length : Int) = (ys.length : Int) := by omega
    have HNE := Lib.hid hne
    clear hnm hne
    generalize hn : xs.length = n at *
    generalize hm : ys.length = m at *
    go_enter Tryz.func80, Tryz.ntmps80
    go_wp2_with fail
    go_ret
    exact ⟨by simp [HNE.out], Below.refl _ _⟩

set_option maxHeartbeats 2000000 in
theorem equal30 (w : World) (v1 v2 : Value) (xs ys : List Int) (h1 : Row w 1 (fun x => [Value.int .u64 x]) v1 xs) (h2 : Row w 1 (fun x => [Value.int .u64 x]) v2 ys) :
    Calls Tryz.prog 53 #[v1, v2] w fun e w' => e = .returned (.bool (decide (xs = ys))) ∧ Below w.heap.size w w' := by
  obtain ⟨a1, c1, rfl, -, -, hn1, hr1⟩ := h1
  obtain ⟨a2, c2, rfl, -, -, hn2, hr2⟩ := h2
  have H1 := Lib.hid hr1
  have H2 := Lib.hid hr2
  clear hr1 hr2
  by_cases hnm : xs.length = ys.length
  · generalize hn : xs.length = n at *
    generalize hm : ys.length = m at *
    subst hnm
    have HN := Lib.hid hn
    have HM := Lib.hid hm
    clear hn hm
    go_enter Tryz.func53, Tryz.ntmps53
    go_wp2_with fail
    go_loopw [5, 13] (fun _ vi wr => ∃ j q : Nat, j ≤ n ∧ vi = .int .i64 j ∧ wr = w.drewN q ∧ Hid (∀ i, i < j → xs[i]? = ys[i]?)) (fun _ i _ => n - (intOf i).toNat)
    case atStart => exact ⟨0, 0, by omega, rfl, rfl, Lib.hid (fun i h => by omega)⟩
    case round =>
      obtain ⟨j, q, hj, rfl, rfl, A⟩ := hrel
      by_cases hlt : j < n
      · obtain ⟨x, hx⟩ : ∃ x, xs[j]? = some x := ⟨_, List.getElem?_eq_getElem (by rw [HN.out]; exact hlt)⟩
        obtain ⟨y, hy⟩ : ∃ y, ys[j]? = some y := ⟨_, List.getElem?_eq_getElem (by rw [HM.out]; exact hlt)⟩
        obtain ⟨b1, o1, e1, g1⟩ := H1.out j x hx
        obtain ⟨b2, o2, e2, g2⟩ := H2.out j y hy
        subst e1; subst e2
        have HX := Lib.hid hx
        have HY := Lib.hid hy
        clear hx hy
        have l1 : (w.drewN q).cell? ⟨b1, o1 + j, none⟩ = some (.int .u64 x) := by rw [World.cell?_drewN]; simpa using g1 0 _ rfl
        have l2 : (w.drewN q).cell? ⟨b2, o2 + j, none⟩ = some (.int .u64 y) := by rw [World.cell?_drewN]; simpa using g2 0 _ rfl
        obtain ⟨wq, hwq⟩ : ∃ wq, wq = w.drewN q := ⟨_, rfl⟩
        have HWQ := Lib.hid hwq
        rw [← hwq] at l1 l2 ⊢
        clear g1 g2 hwq
        by_cases hxy : x = y
        · have HXY := Lib.hid hxy
          go_wp2_with fail
          go_quiet (fail)
          go_wp2_with fail
          go_round
          case measure => simp [intOf]; omega
          case rel =>
            refine ⟨j + 1, _, by omega, by go_num, by rw [HWQ.out, World.drewN_drewN], Lib.hid (fun i hi => ?_)⟩
            by_cases e : i = j
            · subst e; rw [HX.out, HY.out, hxy]
            · exact A.out i (by omega)
        · have HXY := Lib.hid hxy
          go_wp2_with fail
          go_quiet (fail)
          go_wp2_with fail
          go_ret
          have hne : ¬ xs = ys := ne_at HX.out HY.out hxy
          refine ⟨by simp [hne], ?_⟩
          rw [HWQ.out]
          exact ⟨rfl, rfl, rfl, Nat.le_refl _, fun _ _ => rfl⟩
      · obtain rfl : j = n := by omega
        go_wp2_with fail
        go_ret
        have he : xs = ys := same_up HN.out HM.out A.out
        refine ⟨by simp [he], ?_⟩
        exact ⟨rfl, rfl, rfl, Nat.le_refl _, fun _ _ => rfl⟩
  · have hne : ¬ xs = ys := fun e => hnm (by rw [e])
    have hnm' : ¬ (xs.length : Int) = (ys.length : Int) := by omega
    have HNE := Lib.hid hne
    clear hnm hne
    generalize hn : xs.length = n at *
    generalize hm : ys.length = m at *
    go_enter Tryz.func53, Tryz.ntmps53
    go_wp2_with fail
    go_ret
    exact ⟨by simp [HNE.out], Below.refl _ _⟩

set_option maxHeartbeats 2000000 in
theorem equal31 (w : World) (a1 a2 : Option Addr) (c1 c2 : Nat) (xs ys : List Int) (h1 : Bytes w a1 xs) (h2 : Bytes w a2 ys) (hn1 : xs.length ≤ 1000000) (hn2 : ys.length ≤ 1000000) :
    Calls Tryz.prog 54 #[.slice a1 xs.length c1, .slice a2 ys.length c2] w fun e w' => e = .returned (.bool (decide (xs = ys))) ∧ Below w.heap.size w w' := by
  have H1 := Lib.hid h1
  have H2 := Lib.hid h2
  clear h1 h2
  by_cases hnm : xs.length = ys.length
  · generalize hn : xs.length = n at *
    generalize hm : ys.length = m at *
    subst hnm
    have HN := Lib.hid hn
    have HM := Lib.hid hm
    clear hn hm
    go_enter Tryz.func54, Tryz.ntmps54
    go_wp2_with fail
    go_loopw [5, 13] (fun _ vi wr => ∃ j q : Nat, j ≤ n ∧ vi = .int .i64 j ∧ wr = w.drewN q ∧ Hid (∀ i, i < j → xs[i]? = ys[i]?)) (fun _ i _ => n - (intOf i).toNat)
    case atStart => exact ⟨0, 0, by omega, rfl, rfl, Lib.hid (fun i h => by omega)⟩
    case round =>
      obtain ⟨j, q, hj, rfl, rfl, A⟩ := hrel
      by_cases hlt : j < n
      · obtain ⟨x, hx⟩ : ∃ x, xs[j]? = some x := ⟨_, List.getElem?_eq_getElem (by rw [HN.out]; exact hlt)⟩
        obtain ⟨y, hy⟩ : ∃ y, ys[j]? = some y := ⟨_, List.getElem?_eq_getElem (by rw [HM.out]; exact hlt)⟩
        obtain ⟨ad1, e1, g1⟩ := H1.out j (by rw [HN.out]; exact hlt)
        obtain ⟨ad2, e2, g2⟩ := H2.out j (by rw [HM.out]; exact hlt)
        subst e1; subst e2
        have l1 : (w.drewN q).cell? (ad1.add j) = some (.int .u8 x) := by rw [World.cell?_drewN, g1, List.getD_eq_getElem?_getD, hx]; rfl
        have l2 : (w.drewN q).cell? (ad2.add j) = some (.int .u8 y) := by rw [World.cell?_drewN, g2, List.getD_eq_getElem?_getD, hy]; rfl
        have HX := Lib.hid hx
        have HY := Lib.hid hy
        clear hx hy
        obtain ⟨wq, hwq⟩ : ∃ wq, wq = w.drewN q := ⟨_, rfl⟩
        have HWQ := Lib.hid hwq
        rw [← hwq] at l1 l2 ⊢
        clear g1 g2 hwq
        by_cases hxy : x = y
        · have HXY := Lib.hid hxy
          go_wp2_with fail
          go_quiet (fail)
          go_wp2_with fail
          go_round
          case measure => simp [intOf]; omega
          case rel =>
            refine ⟨j + 1, _, by omega, by go_num, by rw [HWQ.out, World.drewN_drewN], Lib.hid (fun i hi => ?_)⟩
            by_cases e : i = j
            · subst e; rw [HX.out, HY.out, hxy]
            · exact A.out i (by omega)
        · have HXY := Lib.hid hxy
          go_wp2_with fail
          go_quiet (fail)
          go_wp2_with fail
          go_ret
          have hne : ¬ xs = ys := ne_at HX.out HY.out hxy
          refine ⟨by simp [hne], ?_⟩
          rw [HWQ.out]
          exact ⟨rfl, rfl, rfl, Nat.le_refl _, fun _ _ => rfl⟩
      · obtain rfl : j = n := by omega
        go_wp2_with fail
        go_ret
        have he : xs = ys := same_up HN.out HM.out A.out
        refine ⟨by simp [he], ?_⟩
        exact ⟨rfl, rfl, rfl, Nat.le_refl _, fun _ _ => rfl⟩
  · have hne : ¬ xs = ys := fun e => hnm (by rw [e])
    have hnm' : ¬ (xs.length : Int) = (ys.length : Int) := by omega
    have HNE := Lib.hid hne
    clear hnm hne
    generalize hn : xs.length = n at *
    generalize hm : ys.length = m at *
    go_enter Tryz.func54, Tryz.ntmps54
    go_wp2_with fail
    go_ret
    exact ⟨by simp [HNE.out], Below.refl _ _⟩

/-- a slice as it is handed over -/
structure Sl where
  a : Option Addr
  n : Nat
  c : Nat
@[reducible] def Sl.val (s : Sl) : Value := .slice s.a s.n s.c

/-- a vote as it is handed over: its lists lie in memory -/
structure Vt where
  f : Int
  e : Int
  vw : Int
  lo : Int
  ms : Sl
  p : Sl
  q : Sl
def Vt.cells (v : Vt) : List Value := [.int .u8 v.f, .int .u8 v.e, .int .u32 v.vw, .int .u32 v.lo, .slice v.ms.a v.ms.n v.ms.c, .slice v.p.a v.p.n v.p.c, .slice v.q.a v.q.n v.q.c]
/-- what its lists hold -/
structure Vc where
  ms : List Mk
  p : List En
  q : List En
deriving DecidableEq
def VtAt (w : World) (v : Vt) (c : Vc) : Prop := Row w 2 Mk.cells v.ms.val c.ms ∧ Row w 7 En.cells v.p.val c.p ∧ Row w 7 En.cells v.q.val c.q
theorem VtAt.below {w w' : World} {v : Vt} {c : Vc} (h : VtAt w v c) (hb : Below w.heap.size w w') : VtAt w' v c := ⟨h.1.below hb, h.2.1.below hb, h.2.2.below hb⟩
def sameV (a : Vt) (ca : Vc) (b : Vt) (cb : Vc) : Bool := decide (a.f = b.f) && (decide (a.e = b.e) && (decide (a.vw = b.vw) && (decide (a.lo = b.lo) && (decide (ca.ms = cb.ms) && (decide (ca.p = cb.p) && decide (ca.q = cb.q))))))

/-- a slice's value is one cell -/
theorem Row.one {α : Type} {w : World} {k : Nat} {enc : α → List Value} {v : Value} {xs : List α} (h : Row w k enc v xs) : ∃ ao n cap, v = .slice ao n cap := by
  obtain ⟨ao, cap, e, _⟩ := h
  exact ⟨ao, _, cap, e⟩

set_option maxHeartbeats 4000000 in
theorem sameVote_any (w : World) (a b : Vt) (ca cb : Vc) (ha : VtAt w a ca) (hb : VtAt w b cb) :
    Calls Tryz.prog 51 #[.agg a.cells.toArray, .agg b.cells.toArray] w fun e w' => e = .returned (.bool (sameV a ca b cb)) ∧ Below w.heap.size w w' := by
  obtain ⟨W, hW⟩ : ∃ W, W = (w.alloc (.cells a.cells.toArray 32)).alloc (.cells b.cells.toArray 32) := ⟨_, rfl⟩
  have hWs : W.heap.size = w.heap.size + 2 := by rw [hW]; simp
  have hWb : Below w.heap.size w W := by rw [hW]; exact ((Below.refl _ _).alloc (Nat.le_refl _) _).alloc (by simp) _
  have qa0 : W.cell? ⟨w.heap.size, 0, none⟩ = some (.int .u8 a.f) := by rw [hW]; simp [Vt.cells]
  have qa1 : W.cell? ⟨w.heap.size, 1, none⟩ = some (.int .u8 a.e) := by rw [hW]; simp [Vt.cells]
  have qa2 : W.cell? ⟨w.heap.size, 2, none⟩ = some (.int .u32 a.vw) := by rw [hW]; simp [Vt.cells]
  have qa3 : W.cell? ⟨w.heap.size, 3, none⟩ = some (.int .u32 a.lo) := by rw [hW]; simp [Vt.cells]
  have qa4 : W.cell? ⟨w.heap.size, 4, none⟩ = some (.slice a.ms.a a.ms.n a.ms.c) := by rw [hW]; simp [Vt.cells]
  have qa5 : W.cell? ⟨w.heap.size, 5, none⟩ = some (.slice a.p.a a.p.n a.p.c) := by rw [hW]; simp [Vt.cells]
  have qa6 : W.cell? ⟨w.heap.size, 6, none⟩ = some (.slice a.q.a a.q.n a.q.c) := by rw [hW]; simp [Vt.cells]
  have qb0 : W.cell? ⟨w.heap.size + 1, 0, none⟩ = some (.int .u8 b.f) := by rw [hW]; simp [Vt.cells]
  have qb1 : W.cell? ⟨w.heap.size + 1, 1, none⟩ = some (.int .u8 b.e) := by rw [hW]; simp [Vt.cells]
  have qb2 : W.cell? ⟨w.heap.size + 1, 2, none⟩ = some (.int .u32 b.vw) := by rw [hW]; simp [Vt.cells]
  have qb3 : W.cell? ⟨w.heap.size + 1, 3, none⟩ = some (.int .u32 b.lo) := by rw [hW]; simp [Vt.cells]
  have qb4 : W.cell? ⟨w.heap.size + 1, 4, none⟩ = some (.slice b.ms.a b.ms.n b.ms.c) := by rw [hW]; simp [Vt.cells]
  have qb5 : W.cell? ⟨w.heap.size + 1, 5, none⟩ = some (.slice b.p.a b.p.n b.p.c) := by rw [hW]; simp [Vt.cells]
  have qb6 : W.cell? ⟨w.heap.size + 1, 6, none⟩ = some (.slice b.q.a b.q.n b.q.c) := by rw [hW]; simp [Vt.cells]
  obtain ⟨r, hr⟩ : ∃ r, r = sameV a ca b cb := ⟨_, rfl⟩
  rw [← hr]
  unfold sameV at hr
  have HR := Lib.hid hr
  have HA := Lib.hid (ha.below hWb)
  have HB := Lib.hid (hb.below hWb)
  have HWB := Lib.hid hWb
  have HWS := Lib.hid hWs
  have HW := Lib.hid hW
  simp only [Vt.cells] at HW ⊢
  clear hr ha hb hWb hWs hW
  by_cases h1 : a.f = b.f
  · have d0 : (a.f == b.f) = true := by simp [h1]
    have H0 := Lib.hid h1
    clear h1
    by_cases h2 : a.e = b.e
    · have d1 : (a.e == b.e) = true := by simp [h2]
      have H1 := Lib.hid h2
      clear h2
      by_cases h3 : a.vw = b.vw
      · have d2 : (a.vw == b.vw) = true := by simp [h3]
        have H2 := Lib.hid h3
        clear h3
        by_cases h4 : a.lo = b.lo
        · have d3 : (a.lo == b.lo) = true := by simp [h4]
          have H3 := Lib.hid h4
          clear h4
          have E1 := equal63 W a.ms.val b.ms.val _ _ HA.out.1 HB.out.1
          go_enter Tryz.func51, Tryz.ntmps51
          generalize hm1 : decide (ca.ms = cb.ms) = m1 at E1
          have F1 := Lib.hid E1
          have G1 := Lib.hid hm1
          clear E1 hm1
          go_wp2_with fail
          rw [← HW.out]
          refine Calls.mono F1.out ?_
          rintro e w1 ⟨rfl, hb1⟩
          have pa5 := (hb1.cell (p := ⟨w.heap.size, 5, none⟩) (by show w.heap.size < _; rw [HWS.out]; omega)).trans qa5
          have pb5 := (hb1.cell (p := ⟨w.heap.size + 1, 5, none⟩) (by show w.heap.size + 1 < _; rw [HWS.out]; omega)).trans qb5
          have E2 := equal64 w1 a.p.val b.p.val _ _ (HA.out.2.1.below hb1) (HB.out.2.1.below hb1)
          generalize hm2 : decide (ca.p = cb.p) = m2 at E2
          have B1 := Lib.hid hb1
          have F2 := Lib.hid E2
          have G2 := Lib.hid hm2
          clear E2 hm2 hb1
          cases m1
          · go_wp2_with fail
            go_ret
            refine ⟨?_, HWB.out.trans (B1.out.mono (by rw [HWS.out]; omega))⟩
            rw [HR.out, G1.out]; simp
          · go_wp2_with fail
            refine Calls.mono F2.out ?_
            rintro e w2 ⟨rfl, hb2⟩
            have hb12 := B1.out.trans (hb2.mono B1.out.size)
            have pa6 := (hb12.cell (p := ⟨w.heap.size, 6, none⟩) (by show w.heap.size < _; rw [HWS.out]; omega)).trans qa6
            have pb6 := (hb12.cell (p := ⟨w.heap.size + 1, 6, none⟩) (by show w.heap.size + 1 < _; rw [HWS.out]; omega)).trans qb6
            have E3 := equal64 w2 a.q.val b.q.val _ _ (HA.out.2.2.below hb12) (HB.out.2.2.below hb12)
            generalize hm3 : decide (ca.q = cb.q) = m3 at E3
            have B2 := Lib.hid hb12
            have F3 := Lib.hid E3
            have G3 := Lib.hid hm3
            clear E3 hm3 hb2 hb12
            cases m2
            · go_wp2_with fail
              go_ret
              refine ⟨?_, HWB.out.trans (B2.out.mono (by rw [HWS.out]; omega))⟩
              rw [HR.out, G2.out]; simp
            · go_wp2_with fail
              refine Calls.mono F3.out ?_
              rintro e w3 ⟨rfl, hb3⟩
              have B3 := Lib.hid (B2.out.trans (hb3.mono B2.out.size))
              clear hb3
              go_wp2_with fail
              go_ret
              refine ⟨?_, HWB.out.trans (B3.out.mono (by rw [HWS.out]; omega))⟩
              rw [HR.out, G1.out, G2.out, G3.out]; simp [H0.out, H1.out, H2.out, H3.out]
        · have d3 : (a.lo == b.lo) = false := by simp [h4]
          have H3 := Lib.hid h4
          clear h4
          go_enter Tryz.func51, Tryz.ntmps51
          go_wp2_with fail
          go_ret
          refine ⟨?_, by rw [← HW.out]; exact HWB.out⟩
          rw [HR.out]; simp [H3.out]
      · have d2 : (a.vw == b.vw) = false := by simp [h3]
        have H2 := Lib.hid h3
        clear h3
        go_enter Tryz.func51, Tryz.ntmps51
        go_wp2_with fail
        go_ret
        refine ⟨?_, by rw [← HW.out]; exact HWB.out⟩
        rw [HR.out]; simp [H2.out]
    · have d1 : (a.e == b.e) = false := by simp [h2]
      have H1 := Lib.hid h2
      clear h2
      go_enter Tryz.func51, Tryz.ntmps51
      go_wp2_with fail
      go_ret
      refine ⟨?_, by rw [← HW.out]; exact HWB.out⟩
      rw [HR.out]; simp [H1.out]
  · have d0 : (a.f == b.f) = false := by simp [h1]
    have H0 := Lib.hid h1
    clear h1
    go_enter Tryz.func51, Tryz.ntmps51
    go_wp2_with fail
    go_ret
    refine ⟨?_, by rw [← HW.out]; exact HWB.out⟩
    rw [HR.out]; simp [H0.out]
end Go.Proofs.YtbpfkeeikhhlnaaGreatDoor
