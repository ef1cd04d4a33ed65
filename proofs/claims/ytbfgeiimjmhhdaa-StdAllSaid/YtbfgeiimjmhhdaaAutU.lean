/-
  The walk of the reference's Ends. (Template: by-name.py fills it.)
-/
import Derived.Test.YtbfgeiimjmhhdaaAutT
namespace Go.Proofs.Ytbfgeiimjmhhdaa
open Go.RowKit

/-- What Ends keeps in memory. -/
structure EndR (w0 w : World) (b : Nat) (cs : Array Value) (vl vn : Value) (l nx : List Nat) : Prop where
  p : Blk w b cs
  l : NatsOwn w w0.heap.size vl l
  n : NatsOwn w w0.heap.size vn nx
  b : Below w0.heap.size w0 w
theorem EndR.keep {w0 w w' : World} {b : Nat} {cs : Array Value} {vl vn : Value} {l nx : List Nat} (h : EndR w0 w b cs vl vn l nx) (hb : Below w.heap.size w w') : EndR w0 w' b cs vl vn l nx := ⟨h.p.keep hb, ownRow_below h.l hb, ownRow_below h.n hb, h.b.trans (hb.mono h.b.size)⟩
theorem succ_all {p : Pro} {x : Nat} {nx : List Nat} (h : ∀ (i : Nat) (m : Mov), p.moves[i]? = some m → m.at_ = (x : Int) → ∀ o ∈ m.outs, o.to.toNat ∈ nx) : SuccIn p x nx := fun m hm he o ho => by
  obtain ⟨i, hi⟩ := List.mem_iff_getElem?.1 hm
  exact h i m hi he o ho
theorem info_Int : (Try.prog.info? 3).map (fun i => (i.zero, i.size, i.bytes)) = some (some (.int .i64 0), 1, 8) := by kernel_rfl
theorem empty_Int (w : World) (B : Nat) (hB : B ≤ w.heap.size) : (w.alloc (.cells #[] 3)).ownsRow B 3 1 (.slice (some ⟨w.heap.size, 0, none⟩) 0 0) 0 [] :=
  World.ownsRow_made w #[] 0 hB (Nat.zero_le _) rfl
theorem iv_one {l : List Nat} : ∀ u ∈ iv l, u.oneCell' = true := fun u hu => by
  obtain ⟨x, _, rfl⟩ := List.mem_map.1 hu
  rfl
theorem reads_one (w : World) (u : Value) (ty : TypeId) : Reads (w.alloc (.cells #[u] ty)) (w.heap.size + 1) 1 (some ⟨w.heap.size, 0, none⟩) 1 [u] := by
  refine ⟨rfl, fun _ => ⟨_, rfl, Nat.lt_succ_self _, fun j v hj => ?_⟩⟩
  cases j with
  | zero =>
    obtain rfl := Option.some.inj hj
    exact (Blk.start w #[u] ty).cell 0
  | succ j => simp at hj
/-- How far a round of Ends has come: the list so far, what it began with, whose successors are in it. -/
structure MidL (p : Pro) (a : Nat) (l : List Nat) (i : Nat) (nx : List Nat) : Prop where
  g : GoodL p a nx
  sub : ∀ x ∈ l, x ∈ nx
  done : ∀ x ∈ l.take i, SuccIn p x nx
theorem MidL.more {p : Pro} {a i : Nat} {l nx ny : List Nat} (h : MidL p a l i nx) (g : GoodL p a ny) (hs : ∀ x ∈ nx, x ∈ ny) : MidL p a l i ny := ⟨g, fun x hx => hs x (h.sub x hx), fun x hx m hm e o ho => hs _ (h.done x hx m hm e o ho)⟩
theorem MidL.next {p : Pro} {a i x : Nat} {l nx : List Nat} (h : MidL p a l i nx) (hx : l[i]? = some x) (hn : SuccIn p x nx) : MidL p a l (i + 1) nx := ⟨h.g, h.sub, fun y hy => by
  rw [List.take_add_one, hx] at hy
  rcases List.mem_append.1 hy with hy | hy
  · exact h.done y hy
  · rw [show y = x by simpa using hy]; exact hn⟩
theorem nats_one (w : World) (B a : Nat) (hB : B ≤ w.heap.size) : NatsOwn (w.alloc (.cells #[.int .i64 (a : Int)] 3)) B (.slice (some ⟨w.heap.size, 0, none⟩) 1 1) [a] :=
  ⟨rfl, .inr ⟨w.heap.size, 1, #[.int .i64 (a : Int)], rfl, hB, heap_alloc_new _ _, Nat.le_refl _, by decide, rfl, rfl⟩⟩
set_option maxRecDepth 100000 in
set_option maxHeartbeats 16000000 in
theorem rends_any (w : World) (vs vm : Value) (p : Pro) (h : ProAt w vs vm p) (hf : Fits p) (hz : SzP p) (hn : p.states.length ≤ 16) (a : Nat) (ha : a < p.states.length) :
    Calls Try.prog 16 #[proV vs vm p, .int .i64 (a : Int), .int .i64 (p.states.length : Int)] w fun e w' => e = .returned (.bool (goesB p p.states.length a)) ∧ Below w.heap.size w w' := by
  obtain ⟨As, cs, rfl, _, _, hS, _⟩ := h.states
  obtain ⟨rs, hm, Am, cm, rfl, hm1, hm2, hM, hE⟩ := h.moves
  have hml := moves_len hm
  have a1 := below_alloc1 w (.cells #[txt p.name, .slice As p.states.length cs, .slice Am rs.length cm] 30)
  have B1 := Blk.start w #[txt p.name, .slice As p.states.length cs, .slice Am rs.length cm] 30
  obtain ⟨x, hx⟩ : ∃ x, p.states[a]? = some x := ⟨_, List.getElem?_eq_getElem ha⟩
  obtain ⟨sa, rfl, _, d1⟩ := sl_cell2 stC_len hS a1 hx (by omega)
  have hq : finalAt p a = x.final := by unfold finalAt; rw [hx]
  unfold stC at d1
  simp only [List.getElem?_cons_zero, List.getElem?_cons_succ] at d1
  have HO := Lib.hid (And.intro hS (And.intro hM (And.intro hE (And.intro hm (And.intro hf (And.intro hz (And.intro hn (And.intro ha hml))))))))
  have HA := Lib.hid (And.intro a1 (And.intro B1 hq))
  have i1 : (a : Int) < (p.states.length : Int) := by omega
  have i2 : (0 : Int) ≤ (a : Int) := by omega
  have i3 : ((p.states.length : Int) == 0) = false := by rw [beq_eq_false_iff_ne]; omega
  clear hS hM hE hm hf hz hn ha hml a1 B1 hx hq h hm1 hm2
  generalize x.final = F at *
  cases F
  · go_enter Try.func16, Try.ntmps16
    go_upto_region 6 with fail
    have a2 := below_alloc1 (w.alloc (.cells #[txt p.name, .slice (some sa) p.states.length cs, .slice Am rs.length cm] 30)) (.cells #[.int .i64 (a : Int)] 3)
    have N1 := nats_one (w.alloc (.cells #[txt p.name, .slice (some sa) p.states.length cs, .slice Am rs.length cm] 30)) w.heap.size a HA.out.1.size
    rw [World.size_alloc] at N1
    have S0 := Lib.hid (And.intro (HA.out.2.1.keep a2) (And.intro N1 (HA.out.1.trans (a2.mono HA.out.1.size))))
    have R0 := Lib.hid (And.intro (GoodL.one HO.out.2.2.2.2.2.2.2.1 HA.out.2.2) (FarL.one p a))
    clear a2 N1 d1
    generalize ((w.alloc (.cells #[txt p.name, .slice (some sa) p.states.length cs, .slice Am rs.length cm] 30)).alloc (.cells #[.int .i64 (a : Int)] 3)) = W at *
    go_wp2_with fail
    go_loopg [7, 8] p.states.length (fun g v7 v8 wr => ∃ (k : Nat) (l : List Nat), v8 = .int .i64 k ∧ k ≤ p.states.length ∧ g = p.states.length - k ∧ GoodL p a l ∧ FarL p a k l ∧ Blk wr w.heap.size #[txt p.name, .slice (some sa) p.states.length cs, .slice Am rs.length cm] ∧ NatsOwn wr w.heap.size v7 l ∧ Below w.heap.size w wr)
    case atStart => exact ⟨0, [a], rfl, Nat.zero_le _, rfl, R0.out.1, R0.out.2, S0.out.1, S0.out.2.1, S0.out.2.2⟩
    case round =>
      obtain ⟨k, l, rfl, hk, hg, hG, hF, hB, hN, hb⟩ := hrel
      obtain ⟨A7, c7, rfl⟩ := own_shape hN
      by_cases hkn : k = p.states.length
      · have j1 : decide (k < p.states.length) = false := decide_eq_false (by omega)
        have FIN := Lib.hid (And.intro (FarL.none (by rw [← hkn]; exact hF) hG) hb)
        clear hk hg hG hF hB hN hb hkn
        go_wp2_with fail
        go_ret
        exact ⟨by rw [FIN.out.1]; rfl, FIN.out.2⟩
      · have j1 : (k : Int) < (p.states.length : Int) := by omega
        have wk : IntKind.i64.wrap ((k : Int) + 1) = (k : Int) + 1 := IntWalk.i64_in _ (by have := HO.out.2.2.2.2.2.2.1; omega)
        have E1 := Lib.hid (EndR.mk hB hN hN hb)
        have M1 := Lib.hid (show MidL p a l 0 l from ⟨hG, fun x hx => hx, fun x hx => by simp at hx⟩)
        have HK := Lib.hid (And.intro (show k < p.states.length by omega) (And.intro hg (And.intro hF hG.len)))
        clear hkn hk hg hG hF hB hN hb
        generalize wr = w7 at *
        go_wp2_with fail
        go_loopg [9, 10] l.length (fun g v9 v10 wr => ∃ (i : Nat) (nx : List Nat), v10 = .int .i64 i ∧ i ≤ l.length ∧ g = l.length - i ∧ MidL p a l i nx ∧ EndR w wr w.heap.size #[txt p.name, .slice (some sa) p.states.length cs, .slice Am rs.length cm] (.slice A7 l.length c7) v9 l nx)
        case atStart => exact ⟨0, l, rfl, Nat.zero_le _, rfl, M1.out, E1.out⟩
        case round =>
          obtain ⟨i, nx, rfl, hi, hg, hM, hE⟩ := hrel
          by_cases hin : i = l.length
          · have j2 : decide (i < l.length) = false := decide_eq_false (by omega)
            obtain ⟨A9, c9, rfl⟩ := own_shape hE.n
            have NX := Lib.hid (And.intro hM.g (And.intro (HK.out.2.2.1.step hM.sub (fun x hx => hM.done x (by rw [hin, List.take_length]; exact hx))) hE))
            clear hi hg hM hE hin
            go_wp2_with fail
            go_roundg (p.states.length - (k + 1))
            case measure => have := HK.out.1; have := HK.out.2.1; omega
            case rel => exact ⟨k + 1, nx, by push_cast; rfl, HK.out.1, rfl, NX.out.1, NX.out.2.1, NX.out.2.2.p, NX.out.2.2.n, NX.out.2.2.b⟩
          · have hlt : i < l.length := by omega
            obtain ⟨x, hx⟩ : ∃ x, l[i]? = some x := ⟨_, List.getElem?_eq_getElem hlt⟩
            have j2 : (i : Int) < (l.length : Int) := by omega
            have j3 : (0 : Int) ≤ (i : Int) := by omega
            have wi : IntKind.i64.wrap ((i : Int) + 1) = (i : Int) + 1 := IntWalk.i64_in _ (by have := HO.out.2.2.2.2.2.2.1; have := HK.out.2.2.2; omega)
            have HI := Lib.hid (And.intro hlt (And.intro hg (And.intro hx (And.intro hM hE))))
            clear hin hlt hi hg hx hM hE
            generalize wr = w8 at *
            go_wp2_with fail
            go_loopg [9, 11] rs.length (fun g v9 v11 wr => ∃ (m : Nat) (nx : List Nat), v11 = .int .i64 m ∧ m ≤ rs.length ∧ g = rs.length - m ∧ MidL p a l i nx ∧ (∀ (m' : Nat) (mv : Mov), m' < m → p.moves[m']? = some mv → mv.at_ = (x : Int) → ∀ o ∈ mv.outs, o.to.toNat ∈ nx) ∧ EndR w wr w.heap.size #[txt p.name, .slice (some sa) p.states.length cs, .slice Am rs.length cm] (.slice A7 l.length c7) v9 l nx)
            case atStart => exact ⟨0, nx, rfl, Nat.zero_le _, rfl, HI.out.2.2.2.1, fun m' mv h => absurd h (Nat.not_lt_zero _), HI.out.2.2.2.2⟩
            case round =>
              obtain ⟨m, ny, rfl, hm, hg, hM, hall, hE⟩ := hrel
              have e2 := hE.p.cell 2
              simp only [List.getElem?_toArray, List.getElem?_cons_zero, List.getElem?_cons_succ] at e2
              by_cases hmn : m = rs.length
              · have j4 : decide (m < rs.length) = false := decide_eq_false (by omega)
                have NX := Lib.hid (And.intro (hM.next HI.out.2.2.1 (succ_all fun m' mv hm' => hall m' mv (by have := (List.getElem?_eq_some_iff.1 hm').1; have := HO.out.2.2.2.2.2.2.2.2; omega) hm')) hE)
                clear hm hg hM hall hE hmn
                go_wp2_with fail
                go_roundg (l.length - (i + 1))
                case measure => have := HI.out.1; have := HI.out.2.1; omega
                case rel => exact ⟨i + 1, ny, by push_cast; rfl, HI.out.1, rfl, NX.out.1, NX.out.2⟩
              · have hlt : m < rs.length := by omega
                obtain ⟨y, hy⟩ : ∃ y, rs[m]? = some y := ⟨_, List.getElem?_eq_getElem hlt⟩
                have hmx := moves_at HO.out.2.2.2.1 hy
                obtain ⟨am, rfl, d0, d1, d2⟩ := sl_cell3 mvC_len HO.out.2.1 hE.b hy (by omega)
                obtain ⟨al, rfl, dx⟩ := nats_cell hE.l rfl (Below.refl _ _) HI.out.2.2.1
                have hO := (HO.out.2.2.1 y (List.mem_of_getElem? hy)).2
                have hat := HO.out.2.2.2.2.1.at_ y.2 (List.mem_of_getElem? hmx)
                have hto := HO.out.2.2.2.2.1.to y.2 (List.mem_of_getElem? hmx)
                have hol := HO.out.2.2.2.2.2.1.out y.2 (List.mem_of_getElem? hmx)
                obtain ⟨vo, op, z, outs⟩ := y
                unfold mvC at d0 d1 d2
                simp only [List.getElem?_cons_zero, List.getElem?_cons_succ] at d0 d1 d2
                dsimp only at hO hat hto hol
                obtain ⟨Ao, co, rfl, _, _, hO, _⟩ := hO
                have j4 : (m : Int) < (rs.length : Int) := by omega
                have j5 : (0 : Int) ≤ (m : Int) := by omega
                have wm : IntKind.i64.wrap ((m : Int) + 1) = (m : Int) + 1 := IntWalk.i64_in _ (by have := HO.out.2.2.2.2.2.1.mv; have := HO.out.2.2.2.2.2.2.2.2; omega)
                have HM := Lib.hid (And.intro hlt (And.intro hg (And.intro hy (And.intro hmx (And.intro hM (And.intro hall (And.intro hE (And.intro hat (And.intro hto (And.intro hol hO))))))))))
                clear hmn hlt hm hg hy hmx hM hall hE hat hto hol hO d0
                by_cases q : z = (x : Int)
                · have HQ := Lib.hid q
                  subst q
                  go_wp2_with fail
                  go_quiet (fail)
                  go_wp2_with fail
                  generalize hW9 : World.drewN wr _ = w9 at *
                  have E9 := Lib.hid (show EndR w w9 w.heap.size #[txt p.name, .slice (some sa) p.states.length cs, .slice (some am) rs.length cm] (.slice (some al) l.length c7) _ l ny from by rw [← hW9]; exact HM.out.2.2.2.2.2.2.1.keep (below_drewN _ _))
                  clear hW9 d1 d2 dx e2
                  go_loopg [9, 12] outs.length (fun g v9 v12 wr => ∃ (o : Nat) (nz : List Nat), v12 = .int .i64 o ∧ o ≤ outs.length ∧ g = outs.length - o ∧ MidL p a l i nz ∧ (∀ (m' : Nat) (mv : Mov), m' < m → p.moves[m']? = some mv → mv.at_ = (x : Int) → ∀ o ∈ mv.outs, o.to.toNat ∈ nz) ∧ (∀ (o' : Nat) (ou : Ou), o' < o → outs[o']? = some ou → ou.to.toNat ∈ nz) ∧ EndR w wr w.heap.size #[txt p.name, .slice (some sa) p.states.length cs, .slice (some am) rs.length cm] (.slice (some al) l.length c7) v9 l nz)
                  case atStart => exact ⟨0, ny, rfl, Nat.zero_le _, rfl, HM.out.2.2.2.2.1, HM.out.2.2.2.2.2.1, fun o' ou h => absurd h (Nat.not_lt_zero _), E9.out⟩
                  case round =>
                    obtain ⟨o, nz, rfl, ho, hg, hM, hall, hall2, hE⟩ := hrel
                    obtain ⟨A9, c9, rfl⟩ := own_shape hE.n
                    have e1 := hE.p.cell 1
                    have e2 := hE.p.cell 2
                    simp only [List.getElem?_toArray, List.getElem?_cons_zero, List.getElem?_cons_succ] at e1 e2
                    obtain ⟨am2, ea, _, _, d2⟩ := sl_cell3 mvC_len HO.out.2.1 hE.b HM.out.2.2.1 (by omega)
                    obtain rfl := Option.some.inj ea
                    unfold mvC at d2
                    simp only [List.getElem?_cons_zero, List.getElem?_cons_succ] at d2
                    by_cases hon : o = outs.length
                    · have j6 : decide (o < outs.length) = false := decide_eq_false (by omega)
                      have NX := Lib.hid (And.intro hM (And.intro hE (show ∀ (m' : Nat) (mv : Mov), m' < m + 1 → p.moves[m']? = some mv → mv.at_ = (x : Int) → ∀ o ∈ mv.outs, o.to.toNat ∈ nz from fun m' mv h1 h2 h3 u hu => by
                        by_cases e : m' = m
                        · subst e
                          rw [HM.out.2.2.2.1] at h2
                          obtain rfl := Option.some.inj h2
                          obtain ⟨j, hj⟩ := List.mem_iff_getElem?.1 hu
                          exact hall2 j u (by have := (List.getElem?_eq_some_iff.1 hj).1; dsimp only at this; omega) hj
                        · exact hall m' mv (by omega) h2 h3 u hu)))
                      clear ho hg hM hall hall2 hE hon
                      go_wp2_with fail
                      go_roundg (rs.length - (m + 1))
                      case measure => have := HM.out.1; have := HM.out.2.1; omega
                      case rel => exact ⟨m + 1, nz, by push_cast; rfl, HM.out.1, rfl, NX.out.1, NX.out.2.2, NX.out.2.1⟩
                    · have hlt : o < outs.length := by omega
                      obtain ⟨u, hu⟩ : ∃ u, outs[o]? = some u := ⟨_, List.getElem?_eq_getElem hlt⟩
                      have hto := HM.out.2.2.2.2.2.2.2.2.1 u (List.mem_of_getElem? hu)
                      obtain ⟨ao, rfl, _, du⟩ := sl_cell2 ouC_len HM.out.2.2.2.2.2.2.2.2.2.2 hE.b hu (by omega)
                      obtain ⟨unm, uto⟩ := u
                      dsimp only at hto
                      obtain ⟨t, rfl⟩ : ∃ t : Nat, uto = t := ⟨uto.toNat, by omega⟩
                      have htl : t < p.states.length := by omega
                      obtain ⟨s, hs⟩ : ∃ s, p.states[t]? = some s := ⟨_, List.getElem?_eq_getElem htl⟩
                      obtain ⟨sa2, es, _, ds⟩ := sl_cell2 stC_len HO.out.1 hE.b hs (by omega)
                      obtain rfl := Option.some.inj es
                      have hfin : finalAt p t = s.final := by unfold finalAt; rw [hs]
                      unfold ouC at du
                      unfold stC at ds
                      simp only [List.getElem?_cons_zero, List.getElem?_cons_succ] at du ds
                      have hx2 := hM.sub x (List.mem_of_getElem? HI.out.2.2.1)
                      have hmm := List.mem_of_getElem? HM.out.2.2.2.1
                      have huo := List.mem_of_getElem? hu
                      have j6 : (o : Int) < (outs.length : Int) := by omega
                      have j7 : (0 : Int) ≤ (o : Int) := by omega
                      have j8 : (t : Int) < (p.states.length : Int) := by omega
                      have j9 : (0 : Int) ≤ (t : Int) := by omega
                      have wo : IntKind.i64.wrap ((o : Int) + 1) = (o : Int) + 1 := IntWalk.i64_in _ (by have := HM.out.2.2.2.2.2.2.2.2.2.1; omega)
                      have RH := Lib.hid (fun (v : World) (hb : Below wr.heap.size wr v) => rhas_any v w.heap.size _ nz t (ownRow_below hE.n hb) (by have := hM.g.len; have := HO.out.2.2.2.2.2.2.1; omega))
                      have HU := Lib.hid (And.intro hlt (And.intro hg (And.intro hu (And.intro htl (And.intro hfin (And.intro hx2 (And.intro hmm (And.intro huo (And.intro hM (And.intro hall (And.intro hall2 hE)))))))))))
                      clear hon hlt ho hg hu hto htl hs hfin hx2 hmm huo hM hall hall2 hE
                      generalize s.final = F at *
                      cases F
                      · by_cases hq : nz.contains t = true
                        · rw [hq] at RH
                          have HQ := Lib.hid hq
                          clear hq
                          go_wp2_with (go_at_call 23; (refine (RH.out _ (Below.refl _ _)).mono ?_); rintro e w1 ⟨rfl, rfl⟩)
                          go_roundg (outs.length - (o + 1))
                          case measure => have := HU.out.1; have := HU.out.2.1; omega
                          case rel => exact ⟨o + 1, nz, by push_cast; rfl, HU.out.1, rfl, HU.out.2.2.2.2.2.2.2.2.1, HU.out.2.2.2.2.2.2.2.2.2.1, fun o' ou h1 h2 => by
                            by_cases e : o' = o
                            · subst e; rw [HU.out.2.2.1] at h2; obtain rfl := Option.some.inj h2; exact List.contains_iff_mem.mp HQ.out
                            · exact HU.out.2.2.2.2.2.2.2.2.2.2.1 o' ou (by omega) h2, HU.out.2.2.2.2.2.2.2.2.2.2.2⟩
                        · have hq : nz.contains t = false := by simpa using hq
                          rw [hq] at RH
                          have HQ := Lib.hid hq
                          clear hq
                          obtain ⟨i0, hi, hz0, hz1, hz2⟩ := info_parts info_Int
                          have RN := reads_own HU.out.2.2.2.2.2.2.2.2.2.2.2.n
                          have HL := Lib.hid (And.intro RN (show nz.length ≤ 16 from by have := HU.out.2.2.2.2.2.2.2.2.1.g.len; have := HO.out.2.2.2.2.2.2.1; omega))
                          have HZ := Lib.hid HU.out.2.2.2.2.2.2.2.2.2.2.2.b.size
                          clear RN
                          go_wp2_with (first
                            | (go_at_call 23; (refine (RH.out _ (Below.refl _ _)).mono ?_); rintro e w1 ⟨rfl, rfl⟩)
                            | (at_builtin; refine wpList_append_any _ rfl _ _ 56 rfl w.heap.size 3 i0 (.int .i64 0) 1 8 Try.underlying56 hi hz0 hz1 hz2 rfl (by decide) _ 0 [] rfl (empty_Int wr w.heap.size HZ.out) wr.heap.size A9 nz.length c9 (iv nz) rfl (HL.out.1.2.2.alloc (Nat.le_refl _) _) ?c2 ?c3 ?c4 ?c5 ?_))
                          case c2 => exact iv_one
                          case c3 => have := HL.out.2; unfold maxLen; omega
                          case c4 => have := HL.out.2; omega
                          case c5 => have := HZ.out; rw [World.size_alloc]; omega
                          intro v1 w1 hown hgrow hlies
                          have hown1 : w1.ownsRow w.heap.size 3 1 v1 nz.length (iv nz) := by simpa using hown
                          have hb1 : Below wr.heap.size wr w1 := by
                            refine (below_alloc1 wr _).grown hgrow (by simp) (fun k hk => ?_)
                            have e : wr.heap.size = k := by simpa [Value.ownBlock] using hk
                            omega
                          have hv1 : ∀ k, v1.ownBlock = some k → wr.heap.size ≤ k := by
                            intro k hk
                            rcases hlies with q | q
                            · rw [hk] at q
                              have e : k = wr.heap.size := by simpa [Value.ownBlock] using q
                              omega
                            · rw [hk] at q
                              have e : k = wr.heap.size + 1 := by simpa using q
                              omega
                          obtain ⟨A1, d1', rfl⟩ := own_shape hown1
                          have a5 := below_alloc1 w1 (.cells #[.int .i64 (t : Int)] 3)
                          have O1 := Lib.hid (ownRow_below hown1 a5)
                          have HB1 := Lib.hid (And.intro hb1 (And.intro hv1 a5))
                          have Z1 := Lib.hid (show w.heap.size ≤ (w1.alloc (.cells #[.int .i64 (t : Int)] 3)).heap.size from Nat.le_trans (Nat.le_trans HZ.out hb1.size) a5.size)
                          clear hown hgrow hlies hown1 hb1 hv1 a5 d2 du ds e1 e2
                          go_wp2_with (at_builtin; refine wpList_append_any _ rfl _ _ 56 rfl w.heap.size 3 i0 (.int .i64 0) 1 8 Try.underlying56 hi hz0 hz1 hz2 rfl (by decide) _ nz.length (iv nz) rfl O1.out (w1.heap.size + 1) (some ⟨w1.heap.size, 0, none⟩) 1 1 [.int .i64 (t : Int)] rfl (reads_one _ _ _) ?c6 ?c7 ?c8 ?c9 ?_)
                          case c6 => intro u hu; rw [List.mem_singleton.mp hu]; rfl
                          case c7 => have := HL.out.2; unfold maxLen; omega
                          case c8 => have := HL.out.2; omega
                          case c9 => exact Z1.out
                          intro v2 w2 hown hgrow hlies
                          have hown2 : NatsOwn w2 w.heap.size v2 (nz ++ [t]) := by
                            unfold NatsOwn
                            rw [List.length_append, List.length_singleton, iv, List.map_append]
                            exact hown
                          obtain ⟨A2, d2', rfl⟩ := own_shape hown2
                          have hb2 : Below wr.heap.size wr w2 := (HB1.out.1.trans (HB1.out.2.2.mono HB1.out.1.size)).grown hgrow (Nat.le_trans HB1.out.1.size HB1.out.2.2.size) (fun k hk => HB1.out.2.1 k hk)
                          have G2 := HU.out.2.2.2.2.2.2.2.2.1.g.snoc (o := ⟨unm, (t : Int)⟩) HU.out.2.2.2.2.2.1 HU.out.2.2.2.2.2.2.1 rfl HU.out.2.2.2.2.2.2.2.1 rfl HU.out.2.2.2.1 HU.out.2.2.2.2.1 (fun h => by
                            have h1 : nz.contains t = true := List.contains_iff_mem.mpr h
                            rw [HQ.out] at h1
                            cases h1)
                          have up : ∀ y ∈ nz, y ∈ nz ++ [t] := fun y hy => List.mem_append_left _ hy
                          have FIN := Lib.hid (And.intro (HU.out.2.2.2.2.2.2.2.2.1.more G2 up) (And.intro up (EndR.mk (HU.out.2.2.2.2.2.2.2.2.2.2.2.p.keep hb2) (ownRow_below HU.out.2.2.2.2.2.2.2.2.2.2.2.l hb2) hown2 (HU.out.2.2.2.2.2.2.2.2.2.2.2.b.trans (hb2.mono HZ.out)))))
                          clear hown hgrow hlies hown2 hb2 G2 up
                          go_wp2_with fail
                          go_roundg (outs.length - (o + 1))
                          case measure => have := HU.out.1; have := HU.out.2.1; omega
                          case rel => exact ⟨o + 1, nz ++ [t], by push_cast; rfl, HU.out.1, rfl, FIN.out.1, fun m' mv h1 h2 h3 u hu => FIN.out.2.1 _ (HU.out.2.2.2.2.2.2.2.2.2.1 m' mv h1 h2 h3 u hu), fun o' ou h1 h2 => by
                            by_cases e : o' = o
                            · subst e; rw [HU.out.2.2.1] at h2; obtain rfl := Option.some.inj h2; exact List.mem_append_right _ (List.mem_singleton.mpr rfl)
                            · exact FIN.out.2.1 _ (HU.out.2.2.2.2.2.2.2.2.2.2.1 o' ou (by omega) h2), by have := FIN.out.2.2; rw [List.length_append] at this; exact this⟩
                      · have hg1 : goesB p 1 x = true := goes_edge (j := 0) HU.out.2.2.2.2.2.2.1 rfl HU.out.2.2.2.2.2.2.2.1 HU.out.2.2.2.2.1
                        have FIN := Lib.hid (show goesB p p.states.length a = true from by
                          obtain ⟨K, hK⟩ := HU.out.2.2.2.2.2.2.2.2.1.g.back x HU.out.2.2.2.2.2.1 1 hg1
                          exact goes_all HO.out.2.2.2.2.1 HO.out.2.2.2.2.2.2.2.1 hK)
                        clear hg1
                        go_wp2_with fail
                        go_ret
                        exact ⟨by rw [FIN.out]; rfl, HU.out.2.2.2.2.2.2.2.2.2.2.2.b⟩
                · have t1 : (z != (x : Int)) = true := by rw [bne_iff_ne]; exact q
                  have HQ := Lib.hid q
                  clear q
                  go_wp2_with fail
                  go_quiet (fail)
                  go_wp2_with fail
                  go_roundg (rs.length - (m + 1))
                  case measure => have := HM.out.1; have := HM.out.2.1; omega
                  case rel => exact ⟨m + 1, ny, by push_cast; rfl, HM.out.1, rfl, HM.out.2.2.2.2.1, fun m' mv h1 h2 h3 => by
                    by_cases e : m' = m
                    · subst e
                      rw [HM.out.2.2.2.1] at h2
                      obtain rfl := Option.some.inj h2
                      exact absurd h3 HQ.out
                    · exact HM.out.2.2.2.2.2.1 m' mv (by omega) h2 h3, HM.out.2.2.2.2.2.2.1.keep (below_drewN _ _)⟩
  · have hg : goesB p p.states.length a = true := goes_le p (k := 0) (Nat.zero_le _) HA.out.2.2
    have HG := Lib.hid hg
    clear hg
    generalize goesB p p.states.length a = R at *
    go_enter Try.func16, Try.ntmps16
    go_wp2_with fail
    go_ret
    exact ⟨by rw [HG.out]; rfl, HA.out.1⟩
end Go.Proofs.Ytbfgeiimjmhhdaa
