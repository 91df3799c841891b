/- A working out, walked: try. -/
import Derived.Test.YtlpmmmmniojflaaGreatDoorQ28
set_option linter.unusedVariables false
set_option linter.unusedSimpArgs false
namespace Go.Proofs.YtlpmmmmniojflaaGreatDoor
open Go.RowKit
def KnOK (l : List Ans) : Prop := ∀ a ∈ l, ∀ x ∈ a.rs, x.nd.c < 48
structure TryS (E : Env) (w : World) (own : Nat → Nat) (b x c : Nat) (F : Rn × Bool) (kl : List Ans) (w' : World) : Prop where
  ex : ∃ own' r', RR w' own' b x r' ∧ RStep w own w' own' b x ∧ WtOK r' ∧ (∀ o, (r'.tk o).st ≤ 3) ∧ (r'.tk c).st = 1 ∧ (r'.tk c).kn = kl ∧ KnOK kl ∧ tryK E c kl r' = F
def TryH (E : Env) (w : World) (own : Nat → Nat) (b x c : Nat) (F : Rn × Bool) (kl : List Ans) (hl : Nat) (w' : World) : Prop := ∃ own' r', RR w' own' b x r' ∧ RStep w own w' own' b x ∧ WtOK r' ∧ (∀ o, (r'.tk o).st ≤ 3) ∧ (r'.tk c).st = 1 ∧ (r'.tk c).kn = kl ∧ KnOK kl ∧ tryK E c kl r' = F ∧ (r'.tk c).held = hl
theorem TryH.below {E : Env} {w w1 w2 : World} {own : Nat → Nat} {b x c : Nat} {F : Rn × Bool} {kl : List Ans} {hl : Nat} (h : TryH E w own b x c F kl hl w1) (hb : Below w1.heap.size w1 w2) : TryH E w own b x c F kl hl w2 := by
  obtain ⟨o1, r1, h1, h2, h3⟩ := h
  obtain ⟨h4, h5⟩ := h1.below (own' := o1) hb (fun _ _ => rfl)
  exact ⟨o1, r1, h4, h2.trans h5, h3⟩
structure TryM (w : World) (b c hl : Nat) (a : Ans) (l : List Ans) (g o cap : Nat) (ao : Option Addr) (cp : Nat) : Prop where
  held : w.cell? ⟨b, 290 + c * 16 + 3, none⟩ = some (.int .i64 hl)
  kn : w.cell? ⟨b, 290 + c * 16 + 2, none⟩ = some (.slice (some ⟨g, o, none⟩) (l.length + 1) cap)
  cap : l.length + 1 ≤ cap
  c0 : w.cell? ⟨g, o, none⟩ = some (.string a.f)
  c1 : w.cell? ⟨g, o + 1, none⟩ = some (.slice ao a.rs.length cp)
  c2 : w.cell? ⟨g, o + 2, none⟩ = some (.int .i64 a.v.k)
  c3 : w.cell? ⟨g, o + 2 + 1, none⟩ = some (.int .i64 a.v.n)
  c4 : w.cell? ⟨g, o + 2 + 2, none⟩ = some (.string a.v.s)
  rd : ∀ (n : Nat) (x : Rd), a.rs[n]? = some x → ∃ g' o', ao = some ⟨g', o', none⟩ ∧ a.rs.length ≤ cp ∧ w.cell? ⟨g', o' + n * 5, none⟩ = some (.int .i64 x.nd.c) ∧ w.cell? ⟨g', o' + n * 5 + 1, none⟩ = some (.bool x.nd.a) ∧ w.cell? ⟨g', o' + n * 5 + 2, none⟩ = some (.int .i64 x.w.k) ∧ w.cell? ⟨g', o' + n * 5 + 2 + 1, none⟩ = some (.int .i64 x.w.n) ∧ w.cell? ⟨g', o' + n * 5 + 2 + 2, none⟩ = some (.string x.w.s)
theorem TryH.mem {E : Env} {w w1 : World} {own : Nat → Nat} {b x c : Nat} {F : Rn × Bool} {a : Ans} {l : List Ans} {hl : Nat} (h : TryH E w own b x c F (a :: l) hl w1) (hc : c < 48) : ∃ g o cap ao cp, TryM w1 b c hl a l g o cap ao cp := by
  obtain ⟨own1, r1, R1, S1, W1, st1, s1, k1, ok1, f1, e1⟩ := h
  have hk1 := (R1.tk c hc).kn
  rw [k1] at hk1
  obtain ⟨g, o, cap, ao, cp, hv, hcap, hgb, c0, c1, c2, c3, c4, hrd, hcol, hnext⟩ := hk1.head
  have hh := (R1.tk c hc).held
  rw [e1] at hh
  rw [← T_addr] at hv hh
  exact ⟨g, o, cap, ao, cp, { held := hh, kn := hv, cap := hcap, c0 := c0, c1 := c1, c2 := c2, c3 := c3, c4 := c4, rd := fun n x hx => hrd.read hx }⟩
structure TryJ (E : Env) (w : World) (own : Nat → Nat) (b x c : Nat) (F : Rn × Bool) (n l : Nat) (a : Act) (w' : World) : Prop where
  l0 : l = 0
  sz : a.tmps.size = 88
  p0 : a.tmps.toList.getD 0 undef = .pointer (some ⟨b, 0, none⟩)
  p1 : a.tmps.toList.getD 1 undef = .int .i64 c
  p5 : a.tmps.toList.getD 5 undef = .pointer (some ⟨b, 290 + c * 16, none⟩)
  df : a.defers = []
  ex : ∃ kl, n = kl.length ∧ TryS E w own b x c F kl w'
theorem WtOK.put {r : Rn} (h : WtOK r) (c : Nat) (t : Tsk) (ht : t.wt = (r.tk c).wt) : WtOK (r.put c t) := by
  have e : (r.put c t).wts = r.wts := by
    funext i
    show ((r.put c t).tk i).wt = (r.tk i).wt
    by_cases hi : i = c
    · subst hi; rw [put_same]; exact ht
    · rw [put_ne _ _ _ hi]
  refine ⟨by rw [e]; exact h.ends, fun i => ?_⟩
  have : ((r.put c t).tk i).wt = (r.tk i).wt := congrFun e i
  rw [this]; exact h.rng i
theorem stle_put {r : Rn} (h : ∀ o, (r.tk o).st ≤ 3) (c : Nat) (t : Tsk) (ht : t.st ≤ 3) : ∀ o, ((r.put c t).tk o).st ≤ 3 := by
  intro o
  by_cases hi : o = c
  · subst hi; rw [put_same]; exact ht
  · rw [put_ne _ _ _ hi]; exact h o
set_option maxRecDepth 100000 in
set_option maxHeartbeats 8000000 in
theorem try_w (E : Env) (hE : Hid (RightW E)) (w : World) (own : Nat → Nat) (b x : Nat) (r : Rn) (c : Nat) (hc : c < 48) (h : Hid (RR w own b x r)) (hW : Hid (WtOK r)) (hst : Hid (∀ o, (r.tk o).st ≤ 3)) (h1 : Hid ((r.tk c).st = 1)) (hK : Hid (KnOK (r.tk c).kn)) :
    Calls Tryz.prog 143 #[.pointer (some ⟨b, 0, none⟩), .int .i64 c] w fun e w' => e = .returned (.bool (tryK E c (r.tk c).kn r).2) ∧ Hid (RS w own b x w' (tryK E c (r.tk c).kn r).1) := by
  obtain ⟨F, hF⟩ : ∃ F, tryK E c (r.tk c).kn r = F := ⟨_, rfl⟩
  rw [hF]
  have HS0 : Hid (TryS E w own b x c F (r.tk c).kn w) := ⟨own, r, h.out, RStep.refl _ _ _ _, hW.out, hst.out, h1.out, rfl, hK.out, hF⟩
  have hci : (c : Int) < 48 := by omega
  have hc0 : 0 ≤ (c : Int) := by omega
  have HC : Hid (c < 48) := hc
  clear hF hW hst h1 hK h hc
  go_enter Tryz.func143, Tryz.ntmps143
  go_wp2_with fail
  refine wp_scope_at2 0 (r.tk c).kn.length (TryJ E w own b x c F) ?_ (fun l => rfl) ?_ (fun n l a w hJ => hJ.l0)
  · go_wp2_with fail
    exact ⟨rfl, rfl, rfl, rfl, rfl, rfl, ⟨_, rfl, HS0.out⟩⟩
  · intro n a w1 hJ
    obtain ⟨u, hu0, hu1, hu5, ha⟩ : ∃ u : Nat → Value, u 0 = .pointer (some ⟨b, 0, none⟩) ∧ u 1 = .int .i64 c ∧ u 5 = .pointer (some ⟨b, 290 + c * 16, none⟩) ∧ a = ⟨#[u 0, u 1, u 2, u 3, u 4, u 5, u 6, u 7, u 8, u 9, u 10, u 11, u 12, u 13, u 14, u 15, u 16, u 17, u 18, u 19, u 20, u 21, u 22, u 23, u 24, u 25, u 26, u 27, u 28, u 29, u 30, u 31, u 32, u 33, u 34, u 35, u 36, u 37, u 38, u 39, u 40, u 41, u 42, u 43, u 44, u 45, u 46, u 47, u 48, u 49, u 50, u 51, u 52, u 53, u 54, u 55, u 56, u 57, u 58, u 59, u 60, u 61, u 62, u 63, u 64, u 65, u 66, u 67, u 68, u 69, u 70, u 71, u 72, u 73, u 74, u 75, u 76, u 77, u 78, u 79, u 80, u 81, u 82, u 83, u 84, u 85, u 86, u 87], []⟩ :=
      ⟨fun i => a.tmps.toList.getD i undef, hJ.p0, hJ.p1, hJ.p5, tmps_of hJ.sz hJ.df⟩
    obtain ⟨kl, rfl, hS⟩ := hJ.ex
    rw [ha, hu0, hu1, hu5]
    clear ha hu0 hu1 hu5 hJ
    cases kl with
    | nil =>
      obtain ⟨own1, r1, R1, S1, W1, st1, s1, k1, ok1, f1⟩ := hS.ex
      obtain ⟨v, xs, hv, hsl, _⟩ := (R1.tk c HC.out).kn
      rw [k1] at hsl
      obtain ⟨q, cp, rfl⟩ := hsl.sl.len
      rw [← T_addr] at hv
      have HF : Hid ((r1, true) = F) := f1
      have HR : Hid (RS w own b x w1 r1) := ⟨own1, R1, S1⟩
      clear hsl R1 S1 hS
      go_wp2_with fail
      rw [jumps_ret]
      go_ret
      rw [← HF.out]
      exact ⟨rfl, HR.out⟩
    | cons a0 l0 =>
      obtain ⟨own1, r1, R1, S1, W1, st1, s1, k1, ok1, f1⟩ := hS.ex
      have HH : Hid (TryH E w own b x c F (a0 :: l0) (r1.tk c).held w1) := ⟨own1, r1, R1, S1, W1, st1, s1, k1, ok1, f1, rfl⟩
      generalize (r1.tk c).held = hl0 at HH
      obtain ⟨g, o, cap, ao, cp, M⟩ := HH.out.mem HC.out
      have hv := M.kn
      have b0 : (((l0.length + 1 : Nat) : Int) == 0) = false := by simp; omega
      have b0' : ((l0.length : Int) + 1 == 0) = false := by simp; omega
      clear hS R1 S1 W1 st1 f1 M k1 ok1 s1
      go_wp2_with fail
      go_loopg [6] (a0.rs.length - hl0) (fun k _ wr => ∃ hl, Hid (TryH E w own b x c F (a0 :: l0) hl wr) ∧ Hid (k = a0.rs.length - hl))
      case atStart => exact ⟨hl0, HH, rfl⟩
      case round =>
        obtain ⟨hl, HT, HKK⟩ := hrel
        clear HH hv
        obtain ⟨g, o, cap, ao, cp, M⟩ := HT.out.mem HC.out
        have m1 := M.held
        have m2 := M.kn
        have m4 := M.c1
        have hcp := M.cap
        by_cases hlt : hl < a0.rs.length
        · have hlti : (hl : Int) < (a0.rs.length : Int) := by omega
          have hl0' : 0 ≤ (hl : Int) := by omega
          have z1 : (0 : Int) < (l0.length : Int) + 1 := by omega
          obtain ⟨y, hy⟩ : ∃ y, a0.rs[hl]? = some y := ⟨_, List.getElem?_eq_getElem hlt⟩
          obtain ⟨g', o', rfl, hcp', r0, r1', r2, r3, r4⟩ := M.rd hl y hy
          have HY : Hid _ := hy
          have m1' := al m1
          have m2' := al m2
          have m4' := al m4
          have r0'' := al r0
          have r1'' := al r1'
          have r2'' := al r2
          have r3'' := al r3
          have r4'' := al r4
          clear M hy
          go_wp2_with fail
          go_region
          all_goals
            go_wp2_with fail
            go_region
          all_goals
            obtain ⟨own1, r1, R1, S1, W1, st1, s1, k1, ok1, f1, e1⟩ := HT.out
            have hyc : y.nd.c < 48 := ok1 a0 List.mem_cons_self y (List.mem_of_getElem? HY.out)
            have hbx : Below wr.heap.size wr (wr.alloc (Obj.cells #[Value.int IntKind.i64 y.nd.c, Value.bool y.nd.a, Value.int IntKind.i64 y.w.k, Value.int IntKind.i64 y.w.n, Value.string y.w.s] 274)).drew.drew := (bl1 _ _).drew.drew
            obtain ⟨R2, S2⟩ := R1.below (own' := ext own1 wr.heap.size) hbx ext_old
            have HBX : Hid ((wr.alloc (Obj.cells #[Value.int IntKind.i64 y.nd.c, Value.bool y.nd.a, Value.int IntKind.i64 y.w.k, Value.int IntKind.i64 y.w.n, Value.string y.w.s] 274)).drew.drew.heap[wr.heap.size]? = some (Obj.cells #[Value.int IntKind.i64 y.nd.c, Value.bool y.nd.a, Value.int IntKind.i64 y.w.k, Value.int IntKind.i64 y.w.n, Value.string y.w.s] 274)) := rnew wr _ _
            have HQ : Hid (wr.heap.size ≠ b ∧ wr.heap.size ≠ x) := ⟨by have := R1.lt; omega, by have := R1.xlt; omega⟩
            have HR2 : Hid _ := R2
            have HS2 : Hid _ := S1.trans S2
            have HW1 : Hid _ := W1
            have HST : Hid _ := st1
            have HS1 : Hid _ := s1
            have HK1 : Hid _ := k1
            have HOK : Hid _ := ok1
            have HF1 : Hid _ := f1
            have HE1 : Hid _ := e1
            have HYC : Hid _ := hyc
            clear R1 S1 W1 st1 s1 k1 ok1 f1 e1 R2 S2 hyc hbx m1 m2 m4 r0 r1' r2 r3 r4 m1' m2' m4' r0'' r1'' r2'' r3'' r4''
            generalize (wr.alloc (Obj.cells #[Value.int IntKind.i64 y.nd.c, Value.bool y.nd.a, Value.int IntKind.i64 y.w.k, Value.int IntKind.i64 y.w.n, Value.string y.w.s] 274)).drew.drew = W2 at *
            obtain ⟨p0, p1, p2, p3, p4⟩ := box5 HBX.out
            go_wp2_with fail
            refine (look_w E hE _ _ b x r1 c y.nd.c HC.out HYC.out HR2 HW1 (HST.out _)).mono ?_
            rintro e w3 ⟨rfl, h3⟩
            cases hL : (look E r1 c y.nd.c).2 with
            | none =>
              have HFF : Hid (F = ((look E r1 c y.nd.c).1, false)) := by
                unfold Hid
                rw [← HF1.out]
                exact tryK_wait (by rw [HE1.out]; exact HY.out) (Prod.ext rfl hL)
              have HR3 : Hid (RS w own b x w3 (look E r1 c y.nd.c).1) := RS.comp HS2.out h3.out
              clear hL h3 p0 p1 p2 p3 p4
              unfold vV vN
              dsimp only [Option.getD, Option.isSome]
              go_wp2_with fail
              rw [jumps_ret]
              go_ret
              rw [HFF.out]
              exact ⟨rfl, HR3.out.then (bl1 _ _)⟩
            | some v =>
              have hlk := look_some hL
              rw [hlk] at h3
              have HLK : Hid _ := hlk
              obtain ⟨own3, R3, S3⟩ := h3.out
              have hbx3 : w3.heap[wr.heap.size]? = some (Obj.cells #[Value.int IntKind.i64 y.nd.c, Value.bool y.nd.a, Value.int IntKind.i64 y.w.k, Value.int IntKind.i64 y.w.n, Value.string y.w.s] 274) := by
                rw [S3.blk _ (Array.getElem?_eq_some_iff.1 HBX.out).1 (ext_new (Nat.le_refl _)) HQ.out.1 HQ.out.2]; exact HBX.out
              obtain ⟨p0', p1', p2', p3', p4'⟩ := box5 hbx3
              have q0 := al p0'
              have q1 := al p1'
              have q2 := al p2'
              have q3 := al p3'
              have q4 := al p4'
              have HR3 : Hid _ := R3
              have HS3 : Hid _ := HS2.out.trans S3
              clear hL hlk h3 R3 S3 hbx3 p0 p1 p2 p3 p4
              unfold vV
              dsimp only [Option.getD, Option.isSome]
              go_wp2_with fail
              refine (holds_w y v _).mono ?_
              rintro e w5 ⟨rfl, hb5⟩
              have hb35 : Below w3.heap.size w3 w5 := (bl1 w3 _).trans (hb5.mono (by simp))
              obtain ⟨R5, S5⟩ := HR3.out.below (own' := own3) hb35 (fun _ _ => rfl)
              have HR5 : Hid _ := R5
              have HS5 : Hid _ := HS3.out.trans S5
              have HT5 : Hid (TryH E w own b x c F (a0 :: l0) hl w5) := ⟨own3, r1, R5, HS5.out, HW1.out, HST.out, HS1.out, HK1.out, HOK.out, HF1.out, HE1.out⟩
              obtain ⟨g5, o5, cap5, ao5, cp5, M5⟩ := HT5.out.mem HC.out
              have m1 := M5.held
              have m2 := M5.kn
              have hcp5 := M5.cap
              have z3 := R5.frozen (290 + c * 16 + 3)
              have z2 := R5.frozen (290 + c * 16 + 2)
              have hmx : a0.rs.length ≤ 9223372036854775807 := by
                obtain ⟨_, _, _, _, hcp6, _⟩ := M5.rd hl y HY.out
                have hk5 := (R5.tk c HC.out).kn
                rw [HK1.out] at hk5
                obtain ⟨_, _, _, _, _, _, _, _, _, _, _, _, _, hrd5, _⟩ := hk5.head
                have := hrd5.max
                unfold maxLen at this
                omega
              have hw1 : wrap64 ((hl : Int) + 1) = (hl : Int) + 1 := by unfold wrap64; omega
              have hw2 : IntKind.i64.wrap ((hl : Int) + 1) = (hl : Int) + 1 := by rw [IntKind.wrap_i64]; omega
              clear hb5 hb35 R5 S5 HR3 HS3 p0' p1' p2' p3' p4' q0 q1 q2 q3 q4 M5
              cases hB : (see y.nd v).eqB y.w with
              | true =>
                have HNX : Hid (tryK E c (a0 :: l0) (r1.put c { r1.tk c with held := hl + 1 }) = F) := by
                  unfold Hid
                  rw [← HF1.out, tryK_hold (by rw [HE1.out]; exact HY.out) HLK.out hB, HE1.out]
                clear hB
                go_wp2_with fail
                go_roundg (a0.rs.length - (hl + 1))
                case rel =>
                  obtain ⟨own6, R6, S6⟩ := HR5.out.setHeld HC.out ((hl : Int) + 1) (hl + 1) (by omega)
                  rw [← T_addr] at R6 S6
                  refine ⟨hl + 1, ⟨own6, _, R6, HS5.out.trans S6, HW1.out.put _ _ rfl, stle_put HST.out _ _ (by show (r1.tk c).st ≤ 3; exact HST.out c), by rw [put_same]; exact HS1.out, by rw [put_same]; exact HK1.out, HOK.out, HNX.out, by rw [put_same]⟩, rfl⟩
                case measure => rw [HKK.out]; omega
              | false =>
                have HNX : Hid (tryK E c l0 (r1.put c { r1.tk c with kn := l0, held := 0 }) = F) := by
                  unfold Hid
                  rw [← HF1.out, tryK_not (by rw [HE1.out]; exact HY.out) HLK.out hB]
                clear hB
                have hcp0 : 0 < (l0.length : Int) + 1 := by omega
                have HFIN : Hid (∀ nv, (nv = .slice (some ⟨g5, o5 + 5, none⟩) l0.length (cap5 - 1) ∨ (cap5 = 1 ∧ nv = .slice (some ⟨g5, o5, none⟩) 0 0)) → TryS E w own b x c F l0 ((w5.setCell ⟨b, 290 + c * 16 + 2, none⟩ nv).setCell ⟨b, 290 + c * 16 + 3, none⟩ (.int .i64 0))) := by
                  intro nv hnv
                  have hk5 := (HR5.out.tk c HC.out).kn
                  rw [HK1.out] at hk5
                  obtain ⟨g6, o6, cap6, ao6, cp6, hv6, _, _, _, _, _, _, _, _, _, hnext⟩ := hk5.head
                  rw [← T_addr, m2] at hv6
                  cases hv6
                  obtain ⟨xs, hxs, hal⟩ := hnext nv hnv
                  obtain ⟨own6, R6, S6⟩ := HR5.out.dropKn HC.out HS1.out nv xs hxs hal
                  rw [← T_addr] at R6 S6
                  exact ⟨own6, _, R6, HS5.out.trans S6, HW1.out.put _ _ rfl, stle_put HST.out _ _ (by show (r1.tk c).st ≤ 3; exact HST.out c), by rw [put_same]; exact HS1.out, by rw [put_same], fun a ha => HOK.out a (List.mem_cons_of_mem _ ha), HNX.out⟩
                by_cases hc1 : cap5 = 1
                · subst hc1
                  have e0 : l0 = [] := List.eq_nil_of_length_eq_zero (by omega)
                  subst e0
                  go_wp2_with fail
                  go_step3
                  exact ⟨0, by simp, rfl, rfl, rfl, rfl, rfl, rfl, ⟨[], rfl, HFIN.out _ (.inr ⟨trivial, rfl⟩)⟩⟩
                · go_wp2_with fail
                  go_step3
                  exact ⟨l0.length, by simp, rfl, rfl, rfl, rfl, rfl, rfl, ⟨l0, rfl, HFIN.out _ (.inl rfl)⟩⟩
        · have hlti : ¬ (hl : Int) < (a0.rs.length : Int) := by omega
          have z1 : (0 : Int) < (l0.length : Int) + 1 := by omega
          have d0 := M.c0
          have d2 := M.c2
          have d3 := M.c3
          have d4 := M.c4
          clear M
          go_wp2_with fail
          go_region
          all_goals
            go_wp2_with fail
            obtain ⟨own1, r1, R1, S1, W1, st1, s1, k1, ok1, f1, e1⟩ := HT.out
            have hk5 := (R1.tk c HC.out).kn
            rw [k1] at hk5
            obtain ⟨g6, o6, cap6, ao6, cp6, hv6, _, _, _, c16, _, _, _, hrd6, hcol6, _⟩ := hk5.head
            rw [← T_addr, m2] at hv6
            cases hv6
            rw [m4] at c16
            cases c16
            have HFF : Hid (F = (settle r1 c a0, true)) := by
              unfold Hid
              rw [← f1]
              exact tryK_done (by rw [e1]; omega)
            have hbd : Below wr.heap.size wr wr.drew := (Below.refl _ _).drew
            obtain ⟨R2, S2⟩ := R1.below (own' := own1) hbd (fun _ _ => rfl)
            refine (settle_w _ own1 b x r1 c a0 _ HC.out R2 hrd6 (fun g' hg' => .inl (hcol6 g' hg'))).mono ?_
            rintro e w3 ⟨rfl, h3⟩
            have HR3 : Hid (RS w own b x w3 (settle r1 c a0)) := RS.comp (S1.trans S2) h3.out
            clear R1 S1 W1 st1 s1 k1 ok1 f1 e1 R2 S2 hk5 hrd6 hcol6 h3 hbd m1 m2 m4 d0 d2 d3 d4
            go_wp2_with fail
            rw [jumps_ret]
            go_ret
            rw [HFF.out]
            exact ⟨rfl, HR3.out⟩
end Go.Proofs.YtlpmmmmniojflaaGreatDoor
