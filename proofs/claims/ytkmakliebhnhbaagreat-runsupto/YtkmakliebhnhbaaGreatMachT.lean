import Derived.Test.YtkmakliebhnhbaaGreatMachN
/- The plain machine: what each step is, counted. -/
namespace Go.Proofs.YtkmakliebhnhbaaGreat
open Go.RowKit

variable {fs : List (List Ins)} {nr : Nat} {T : List Ev}

/-- What the instructions ahead cost, by any prices. -/
def todoC (c : Ins → Nat) (s : St) : Nat := (s.ts.map (fun t => (t.rem.map c).sum)).sum
def hands (s : St) : Nat := (s.ws.map (fun k => if k.hand.isSome then 1 else 0)).sum
def stks (s : St) : Nat := (s.ws.map (fun k => k.stack.length)).sum
theorem todoC_put (c : Ins → Nat) {s : St} {a : Nat} (h : a < s.ts.length) (x : Tk) : ((s.ts.set a x).map (fun t => (t.rem.map c).sum)).sum + ((s.t a).rem.map c).sum = todoC c s + (x.rem.map c).sum := by
  rw [St.t_eq h]; exact sum_set (fun t : Tk => (t.rem.map c).sum) _ _ _ h
theorem todoC_same (c : Ins → Nat) {s : St} {a : Nat} (h : a < s.ts.length) {x : Tk} (hr : x.rem = (s.t a).rem) : ((s.ts.set a x).map (fun t => (t.rem.map c).sum)).sum = todoC c s := by
  have := todoC_put c h x
  rw [hr] at this
  omega
theorem hands_hand {s : St} {w : Nat} (hw : w < s.ws.length) (o : Option Nat) : hands (s.hand w o) + (if (s.w w).hand.isSome then 1 else 0) = hands s + (if o.isSome then 1 else 0) := by
  have := sum_set (fun k : Wk => if k.hand.isSome then 1 else 0) s.ws w ⟨o, (s.w w).stack⟩ hw
  rw [← St.w_eq hw] at this
  exact this
theorem hands_stk {s : St} {w : Nat} (hw : w < s.ws.length) (l : List Nat) : hands (s.stk w l) = hands s := by
  have := sum_set (fun k : Wk => if k.hand.isSome then 1 else 0) s.ws w ⟨(s.w w).hand, l⟩ hw
  rw [← St.w_eq hw] at this
  exact Nat.add_right_cancel this
theorem stks_hand {s : St} {w : Nat} (hw : w < s.ws.length) (o : Option Nat) : stks (s.hand w o) = stks s := by
  have := sum_set (fun k : Wk => k.stack.length) s.ws w ⟨o, (s.w w).stack⟩ hw
  rw [← St.w_eq hw] at this
  exact Nat.add_right_cancel this
theorem stks_stk {s : St} {w : Nat} (hw : w < s.ws.length) (l : List Nat) : stks (s.stk w l) + (s.w w).stack.length = stks s + l.length := by
  have := sum_set (fun k : Wk => k.stack.length) s.ws w ⟨(s.w w).hand, l⟩ hw
  rw [← St.w_eq hw] at this
  exact this

/-- A step in numbers: what was done, what is new ahead; frames less, more; hands less, more; of stacks less, more; set aside. -/
inductive Row (fs : List (List Ins)) : Rs → List Ins → List Ins → Nat → Nat → Nat → Nat → Nat → Nat → Nat → Prop
  | aside : Row fs .went [] [] 0 0 1 0 0 0 1
  | back : Row fs .went [] [] 1 0 0 0 0 0 0
  | pop : Row fs .went [] [] 1 0 0 0 1 0 0
  | join : Row fs .went [] [] 1 0 1 0 0 0 0
  | gave (i : Ins) (r n : Int) (p : Nat) (h : i.op = 1 ∨ i.op = 2) : Row fs (.gave r n p) [i] [] 0 0 0 0 0 0 0
  | ins (i : Ins) (h : ¬(i.op = 3 ∨ i.op = 4)) : Row fs .went [i] [] 0 0 0 0 0 0 0
  | spawn (i : Ins) (h : i.op = 3) : Row fs .went [i] (fs[i.f.toNat]?.getD []) 0 1 0 0 0 1 0
  | call (i : Ins) (h : i.op = 4) : Row fs .went [i] (fs[i.f.toNat]?.getD []) 0 1 0 0 0 0 0
  | stole : Row fs .stole [] [] 0 0 0 1 1 0 0
  | failed : Row fs .failed [] [] 0 0 0 0 0 0 0
structure Acc (fs : List (List Ins)) (nr : Nat) (s s' : St) (L L' : List Th) (r : Rs) (a : Nat) : Prop where
  row : ∃ used born ml mp hl hp kl kp, Row fs r used born ml mp hl hp kl kp a ∧ (∀ i ∈ used, ∃ f : Nat, mayB fs.length nr f i = true) ∧ (∀ c : Ins → Nat, todoC c s' + (used.map c).sum = todoC c s + (born.map c).sum) ∧ mass L' + ml = mass L + mp ∧ hands s' + hl = hands s + hp ∧ stks s' + kl = stks s + kp

theorem acc_mk {s s' : St} {L L' : List Th} {r : Rs} {used born : List Ins} {ml mp hl hp kl kp a : Nat} (row : Row fs r used born ml mp hl hp kl kp a) (hu : ∀ i ∈ used, ∃ f : Nat, mayB fs.length nr f i = true) (h1 : ∀ c : Ins → Nat, todoC c s' + (used.map c).sum = todoC c s + (born.map c).sum) (h2 : mass L' + ml = mass L + mp) (h3 : hands s' + hl = hands s + hp) (h4 : stks s' + kl = stks s + kp) : Acc fs nr s s' L L' r a :=
  ⟨used, born, ml, mp, hl, hp, kl, kp, row, hu, h1, h2, h3, h4⟩
theorem no_used : ∀ i ∈ ([] : List Ins), ∃ f : Nat, mayB fs.length nr f i = true := fun _ h => by cases h

theorem Thr.acc {s : St} {L : List Th} (hs : ∀ t ∈ s.ts, TkOk fs nr T t) (h : Thr s L) {w : Nat} (hw : w < s.ws.length) (v : Nat) :
    (stepM fs s w v).2 = .done ∨ ∃ L' α, Thr (stepM fs s w v).1 L' ∧ (L ≠ [] → L' ≠ []) ∧ Acc fs nr s (stepM fs s w v).1 L L' (stepM fs s w v).2 α := by
  unfold stepM
  rcases h.wk w hw with ⟨a, m, hm, hha, hst⟩ | ⟨hha, hst, hno⟩
  · obtain ⟨L0, hp⟩ := front hm
    have hmp := mass_perm hp
    have hL := h.perm hp
    have hlk := hL.lnk _ (List.mem_cons_self ..)
    have ha := hlk.lt a (List.mem_cons_self ..)
    have hocc : occ ((some w, a :: m) :: L0) a ≠ 0 := by
      have := occ_mem (L := (some w, a :: m) :: L0) (List.mem_cons_self ..) (i := a) (List.mem_cons_self ..)
      omega
    have hh1 : ∀ o, hands (s.hand w o) + 1 = hands s + (if o.isSome then 1 else 0) := fun o => by
      have := hands_hand hw o
      rw [hha] at this
      simpa using this
    have hh0 : ∀ p, hands (s.hand w (some p)) = hands s := fun p => by
      have := hh1 (some p)
      simpa using this
    rw [hha]
    simp only
    by_cases hwt : waits (s.t a) = true
    · rw [if_pos hwt]
      have ho : (s.t a).out ≠ 0 := by
        unfold waits at hwt
        rw [Bool.and_eq_true] at hwt
        simpa using hwt.1
      refine .inr ⟨_, 1, hL.aside ho, fun _ => by simp, ?_⟩
      refine acc_mk .aside no_used (fun c => todoC_same c ha rfl) ?_ (hh1 none) (stks_hand hw none)
      rw [hmp, mass_cons, mass_cons]
    · rw [if_neg hwt]
      cases hr : (s.t a).rem with
      | nil =>
        have ho : (s.t a).out = 0 := by
          unfold waits at hwt
          rw [hr] at hwt
          simpa using hwt
        simp only
        cases hor : (s.t a).org with
        | root => exact .inl rfl
        | call =>
          right
          cases m with
          | nil =>
            rcases hlk.2 with g | g
            · unfold St.org at g; rw [hor] at g; cases g
            · unfold St.org at g; rw [hor] at g; cases g
          | cons p m =>
            have hpp : (s.t a).par = p := hlk.2.1
            refine ⟨_, 0, hL.pop hr ho _ rfl (by simp) fun j => ?_, fun _ => by simp, ?_⟩
            · rw [St.w_hand s _ hw, hst, hpp]
              simp only [stkOf, St.org, hor]
            · refine acc_mk .back no_used (fun c => rfl) ?_ (hh0 _) (stks_hand hw _)
              rw [hmp, mass_cons, mass_cons]
              simp only [List.length_cons]
              omega
        | spawn =>
          right
          cases m with
          | nil =>
            have hst0 : (s.w w).stack = [] := by rw [hst]; rfl
            have hup := hL.up _ (List.mem_cons_self ..) hor
            simp only [botOf, St.par] at hup
            have hpl : (s.t a).par < s.ts.length := by omega
            simp only [hst0, List.getLast?_nil]
            by_cases hc : (s.t (s.t a).par).out - 1 = 0 ∧ (s.t (s.t a).par).asd = true
            · rw [if_pos hc]
              obtain ⟨m', hm'⟩ := hL.asd' _ hpl hc.2
              rcases List.mem_cons.1 hm' with hm' | hm'
              · cases hm'
              · obtain ⟨L1, hp1⟩ := front hm'
                refine ⟨_, 0, (hL.perm (hp1.cons _)).wake hr ho hor rfl, fun _ => by simp, ?_⟩
                refine acc_mk .back no_used (fun c => todoC_same c hpl rfl) ?_ (hh0 _) (stks_hand hw _)
                rw [hmp, mass_cons, mass_cons _ L0, mass_perm hp1, mass_cons]
                simp only [List.length_cons, List.length_nil]
                omega
            · rw [if_neg hc]
              refine ⟨_, 0, hL.join hr ho hor rfl hc, fun _ z => ?_, ?_⟩
              · rw [z, occ_cons] at hup
                have h1 := hup.1
                simp only [occ, List.map_nil, List.sum_nil, Nat.add_zero] at h1
                rw [List.count_singleton] at h1
                split at h1
                · rename_i e
                  have : a = (s.t a).par := by simpa using e
                  omega
                · omega
              · refine acc_mk .join no_used (fun c => todoC_same c hpl rfl) ?_ (hh1 none) (stks_hand hw _)
                rw [hmp, mass_cons]
                simp only [List.length_cons, List.length_nil]
                omega
          | cons p m =>
            have hpp : (s.t a).par = p := hlk.2.1
            have hst1 : (s.w w).stack = (stkOf s (p :: m)).reverse ++ [p] := by
              rw [hst]
              simp only [stkOf, St.org, hor]
              rw [List.reverse_cons]
            rw [hst1]
            simp only [List.getLast?_append, List.getLast?_singleton, Option.some_or, List.dropLast_concat]
            refine ⟨_, 0, hL.pop hr ho _ rfl (by simp) fun j => ?_, fun _ => by simp, ?_⟩
            · rw [St.w_stk _ _ (by simpa using hw), St.w_hand s _ hw, if_pos rfl, St.w_hand s _ hw]
              by_cases e : j = w
              · rw [if_pos e, if_pos e]
              · rw [if_neg e, if_neg e, if_neg e]
            · have e4 := stks_stk (s := s.hand w (some p)) (w := w) (by simpa using hw) (stkOf s (p :: m)).reverse
              rw [St.w_hand s _ hw, if_pos rfl, stks_hand hw] at e4
              simp only at e4
              rw [hst1, List.length_append] at e4
              simp only [List.length_cons, List.length_nil] at e4
              have e5 : hands ((s.hand w (some p)).stk w (stkOf s (p :: m)).reverse) = hands s := by rw [hands_stk (by simpa using hw)]; exact hh0 p
              refine acc_mk (s' := (s.hand w (some p)).stk w (stkOf s (p :: m)).reverse) .pop no_used (fun c => rfl) ?_ e5 (by omega)
              rw [hmp, mass_cons, mass_cons]
              simp only [List.length_cons]
              omega
      | cons i rest =>
        have hmay := ((hs _ (St.t_mem ha)).rem i (by rw [hr]; exact List.mem_cons_self ..)).1
        have hus : ∀ j ∈ [i], ∃ f : Nat, mayB fs.length nr f j = true := fun j hj => by rw [List.mem_singleton] at hj; rw [hj]; exact ⟨_, hmay⟩
        have hless : ∀ (x : Tk), x.rem = rest → ∀ c : Ins → Nat, todoC c (s.putT a x) + ([i].map c).sum = todoC c s + (([] : List Ins).map c).sum := fun x hx c => by
          have e1 := todoC_put c ha x
          rw [hx, hr] at e1
          show ((s.ts.set a x).map (fun t => (t.rem.map c).sum)).sum + _ = _
          simp only [List.map_cons, List.sum_cons, List.map_nil, List.sum_nil] at e1 ⊢
          omega
        simp only
        right
        by_cases e1 : i.op = 1
        · rw [if_pos e1]; exact ⟨_, 0, hL.doing ha rfl rfl rfl rfl hocc, fun _ => by simp, acc_mk (.gave i _ _ _ (.inl e1)) hus (hless _ rfl) (by rw [hmp]) rfl rfl⟩
        rw [if_neg e1]
        by_cases e2 : i.op = 2
        · rw [if_pos e2]; exact ⟨_, 0, hL.doing ha rfl rfl rfl rfl hocc, fun _ => by simp, acc_mk (.gave i _ _ _ (.inr e2)) hus (hless _ rfl) (by rw [hmp]) rfl rfl⟩
        rw [if_neg e2]
        have hb := hL.doing (t := { s.t a with rem := rest, r := (s.t a).r + 1, pl := (s.t a).pl + gift fs i.f.toNat }) ha rfl rfl rfl rfl hocc
        have hsl : (s.putT a { s.t a with rem := rest, r := (s.t a).r + 1, pl := (s.t a).pl + gift fs i.f.toNat }).ts.length = s.ts.length := by simp
        have htd' : ∀ (x : Tk) o, x.rem = rest → ∀ c : Ins → Nat, ((s.ts.set a x ++ [kid fs (s.t a) a o i]).map (fun t => (t.rem.map c).sum)).sum + ([i].map c).sum = todoC c s + ((fs[i.f.toNat]?.getD []).map c).sum := fun x o hx c => by
          have k1 := todoC_put c ha x
          rw [hx, hr] at k1
          rw [List.map_append, List.sum_append]
          simp only [List.map_cons, List.map_nil, List.sum_cons, List.sum_nil, kid] at k1 ⊢
          omega
        by_cases e3 : i.op = 3
        · rw [if_pos e3]
          have g := hb.begin (n := kid fs (s.t a) a .spawn i) rfl (by simp [kid]) rfl rfl
            (({ (s.putT a { s.t a with rem := rest, r := (s.t a).r + 1, pl := (s.t a).pl + gift fs i.f.toNat }).stk w ((s.w w).stack ++ [a]) with ts := (s.ts.set a { s.t a with rem := rest, r := (s.t a).r + 1, pl := (s.t a).pl + gift fs i.f.toNat }) ++ [kid fs (s.t a) a .spawn i] } : St).hand w (some s.ts.length)) rfl (by simp [St.stk, St.putW, St.putT]) fun j => by
              have k1 := St.w_hand ({ (s.putT a { s.t a with rem := rest, r := (s.t a).r + 1, pl := (s.t a).pl + gift fs i.f.toNat }).stk w ((s.w w).stack ++ [a]) with ts := (s.ts.set a { s.t a with rem := rest, r := (s.t a).r + 1, pl := (s.t a).pl + gift fs i.f.toNat }) ++ [kid fs (s.t a) a .spawn i] } : St) (i := w) (some s.ts.length) (by simpa [St.stk, St.putW, St.putT] using hw) j
              have k2 : ∀ j, ({ (s.putT a { s.t a with rem := rest, r := (s.t a).r + 1, pl := (s.t a).pl + gift fs i.f.toNat }).stk w ((s.w w).stack ++ [a]) with ts := (s.ts.set a { s.t a with rem := rest, r := (s.t a).r + 1, pl := (s.t a).pl + gift fs i.f.toNat }) ++ [kid fs (s.t a) a .spawn i] } : St).w j = if j = w then ⟨(s.w w).hand, (s.w w).stack ++ [a]⟩ else s.w j := fun j => St.w_stk s _ hw j
              rw [k1, k2 w, if_pos rfl, k2 j, hsl]
              by_cases e : j = w
              · rw [if_pos e, if_pos e]; rfl
              · rw [if_neg e, if_neg e, if_neg e]; rfl
          rw [hsl] at g
          refine ⟨_, 0, g, fun _ => by simp, ?_⟩
          have k1 := htd' { s.t a with rem := rest, r := (s.t a).r + 1, pl := (s.t a).pl + gift fs i.f.toNat } .spawn rfl
          have k2 := stks_stk (s := s) hw ((s.w w).stack ++ [a])
          rw [List.length_append] at k2
          simp only [List.length_cons, List.length_nil] at k2
          have k3 := hands_hand (s := s.stk w ((s.w w).stack ++ [a])) (w := w) (by simpa using hw) (some s.ts.length)
          rw [St.w_stk s _ hw, if_pos rfl, hha, hands_stk hw] at k3
          have k4 : hands ((s.stk w ((s.w w).stack ++ [a])).hand w (some s.ts.length)) = hands s := by simpa using k3
          have k5 : stks ((s.stk w ((s.w w).stack ++ [a])).hand w (some s.ts.length)) + 0 = stks s + 1 := by rw [stks_hand (by simpa using hw)]; omega
          refine acc_mk (.spawn i e3) hus k1 ?_ k4 k5
          rw [hmp, mass_cons, mass_cons]
          simp only [List.length_cons]
          omega
        rw [if_neg e3]
        by_cases e4 : i.op = 4
        · rw [if_pos e4]
          have g := hb.begin (n := kid fs (s.t a) a .call i) rfl (by simp [kid]) rfl rfl
            (({ s.putT a { s.t a with rem := rest, r := (s.t a).r + 1, pl := (s.t a).pl + gift fs i.f.toNat } with ts := (s.ts.set a { s.t a with rem := rest, r := (s.t a).r + 1, pl := (s.t a).pl + gift fs i.f.toNat }) ++ [kid fs (s.t a) a .call i] } : St).hand w (some s.ts.length)) rfl (by simp [St.putT]) fun j => by
              have k1 := St.w_hand ({ s.putT a { s.t a with rem := rest, r := (s.t a).r + 1, pl := (s.t a).pl + gift fs i.f.toNat } with ts := (s.ts.set a { s.t a with rem := rest, r := (s.t a).r + 1, pl := (s.t a).pl + gift fs i.f.toNat }) ++ [kid fs (s.t a) a .call i] } : St) (i := w) (some s.ts.length) hw j
              rw [k1, hsl]
              rfl
          rw [hsl] at g
          refine ⟨_, 0, g, fun _ => by simp, ?_⟩
          have k1 := htd' { s.t a with rem := rest, r := (s.t a).r + 1, pl := (s.t a).pl + gift fs i.f.toNat } .call rfl
          refine acc_mk (.call i e4) hus k1 ?_ (hh0 _) (stks_hand hw _)
          rw [hmp, mass_cons, mass_cons]
          simp only [List.length_cons]
          omega
        rw [if_neg e4]
        exact ⟨_, 0, hL.doing ha rfl rfl rfl rfl hocc, fun _ => by simp, acc_mk (.ins i (by omega)) hus (hless _ rfl) (by rw [hmp]) rfl rfl⟩
  · rw [hha]
    simp only
    cases hv : (s.w v).stack with
    | nil => exact .inr ⟨L, 0, h, fun g => g, acc_mk .failed no_used (fun c => rfl) rfl rfl rfl⟩
    | cons q rest =>
      right
      have hvl : v < s.ws.length := by
        rcases Nat.lt_or_ge v s.ws.length with g | g
        · exact g
        · unfold St.w at hv
          rw [List.getElem?_eq_none g] at hv
          cases hv
      rcases h.wk v hvl with ⟨a, m, hm, hha', hst'⟩ | ⟨_, g2, _⟩
      · obtain ⟨L0, hp⟩ := front hm
        obtain ⟨L', g1, g2, g3, g4⟩ := (h.perm hp).steal hw hha hv
        refine ⟨L', 0, g1, fun _ => g2, ?_⟩
        have hq : q < s.ts.length := by
          have : q ∈ stkOf s (a :: m) := by
            have h1 : q ∈ (stkOf s (a :: m)).reverse := by rw [← hst', hv]; exact List.mem_cons_self ..
            simpa using h1
          exact (h.lnk _ hm).stk_lt q this
        have e2 := hands_hand hw (some q)
        rw [hha] at e2
        have e3 := stks_stk (s := s.hand w (some q)) (w := v) (by simpa using hvl) rest
        rw [St.w_hand s _ hw, if_neg (fun z => g4 z.symm), hv, stks_hand hw] at e3
        simp only [List.length_cons] at e3
        have k4 : hands ((s.hand w (some q)).stk v rest) + 0 = hands s + 1 := by
          rw [hands_stk (by simpa using hvl)]
          simpa using e2
        have k5 : stks ((s.hand w (some q)).stk v rest) + 1 = stks s + 0 := by omega
        exact acc_mk .stole no_used (fun c => todoC_same c hq rfl) (by rw [g3, mass_perm hp]) k4 k5
      · rw [g2] at hv; cases hv
end Go.Proofs.YtkmakliebhnhbaaGreat

/- The plain machine: a run in numbers. -/
namespace Go.Proofs.YtkmakliebhnhbaaGreat
open Go.RowKit

/-- By a price of its own for each instruction, with all that is begun. -/
def priceC (own : Ins → Nat) (sub : Nat → Nat) (i : Ins) : Nat := own i + if i.op = 3 ∨ i.op = 4 then sub i.f.toNat else 0
def wfC (fs : List (List Ins)) (own : Ins → Nat) : Nat → Nat → Nat
  | 0, _ => 0
  | d + 1, f => ((fs[f]?.getD []).map (priceC own (wfC fs own d))).sum
theorem wfC_deep {fs : List (List Ins)} {nr : Nat} (own : Ins → Nat) (hok : FsOk fs nr) : ∀ (d f : Nat), fs.length ≤ f + d → wfC fs own (d + 1) f = wfC fs own d f
  | 0, f, hf => by
    simp only [wfC]
    rw [List.getElem?_eq_none (by omega)]
    rfl
  | d + 1, f, hf => by
    rw [wfC, wfC]
    cases hl : fs[f]? with
    | none => rfl
    | some l =>
      simp only [Option.getD_some]
      congr 1
      refine List.map_congr_left fun i hi => ?_
      unfold priceC
      split
      · rename_i hop
        obtain ⟨m, hm, hfm, hmn⟩ := mayB_begins (hok f l hl i hi).1 (by unfold begins; simpa using hop)
        rw [hm, Int.toNat_natCast, wfC_deep own hok d m (by omega)]
      · rfl
def left (fs : List (List Ins)) (own : Ins → Nat) (s : St) : Nat := todoC (priceC own (wfC fs own fs.length)) s
def workO (i : Ins) : Nat := if i.op = 3 ∨ i.op = 4 then 2 else 1
def spawnO (i : Ins) : Nat := if i.op = 3 then 1 else 0

variable {fs : List (List Ins)} {nr : Nat} {T : List Ev}

theorem left_begin (own : Ins → Nat) (hok : FsOk fs nr) {s s' : St} {i : Ins} {f : Nat} (hi : mayB fs.length nr f i = true) (hop : i.op = 3 ∨ i.op = 4) (h : ∀ c : Ins → Nat, todoC c s' + ([i].map c).sum = todoC c s + ((fs[i.f.toNat]?.getD []).map c).sum) : left fs own s' + own i = left fs own s := by
  have h1 := h (priceC own (wfC fs own fs.length))
  obtain ⟨m, hm, hfm, hmn⟩ := mayB_begins hi (by unfold begins; simpa using hop)
  have h2 : ((fs[i.f.toNat]?.getD []).map (priceC own (wfC fs own fs.length))).sum = wfC fs own fs.length m := by
    rw [hm, Int.toNat_natCast, ← wfC_deep own hok fs.length m (by omega)]; rfl
  have h3 : priceC own (wfC fs own fs.length) i = own i + wfC fs own fs.length m := by unfold priceC; rw [if_pos hop, hm, Int.toNat_natCast]
  simp only [List.map_cons, List.map_nil, List.sum_cons, List.sum_nil] at h1
  rw [h2, h3] at h1
  unfold left
  omega
theorem left_plain (own : Ins → Nat) {s s' : St} {i : Ins} (hop : ¬(i.op = 3 ∨ i.op = 4)) (h : ∀ c : Ins → Nat, todoC c s' + ([i].map c).sum = todoC c s + (([] : List Ins).map c).sum) : left fs own s' + own i = left fs own s := by
  have h1 := h (priceC own (wfC fs own fs.length))
  have h3 : priceC own (wfC fs own fs.length) i = own i := by unfold priceC; rw [if_neg hop]; rfl
  simp only [List.map_cons, List.map_nil, List.sum_cons, List.sum_nil] at h1
  rw [h3] at h1
  unfold left
  omega
theorem left_none (own : Ins → Nat) {s s' : St} (h : ∀ c : Ins → Nat, todoC c s' + (([] : List Ins).map c).sum = todoC c s + (([] : List Ins).map c).sum) : left fs own s' = left fs own s := by
  have h1 := h (priceC own (wfC fs own fs.length))
  simp only [List.map_nil, List.sum_nil] at h1
  unfold left
  omega

/-- A step, in what counts. -/
theorem Acc.told (hok : FsOk fs nr) {s s' : St} {L L' : List Th} {r : Rs} {a : Nat} (h : Acc fs nr s s' L L' r a) :
    left fs workO s' + mass L' + 1 = left fs workO s + mass L + r.steal + r.fail + a ∧ a + hands s' ≤ hands s + r.steal ∧ r.steal + stks s' + left fs spawnO s' ≤ stks s + left fs spawnO s := by
  obtain ⟨used, born, ml, mp, hl, hp, kl, kp, row, hu, h1, h2, h3, h4⟩ := h.row
  cases row with
  | gave i r n p hop =>
    have e1 := left_plain (fs := fs) workO (by omega) h1
    have e2 := left_plain (fs := fs) spawnO (by omega) h1
    have e3 : workO i = 1 := by unfold workO; rw [if_neg (by omega)]
    simp only [Rs.steal, Rs.fail]
    omega
  | ins i hop =>
    have e1 := left_plain (fs := fs) workO hop h1
    have e2 := left_plain (fs := fs) spawnO hop h1
    have e3 : workO i = 1 := by unfold workO; rw [if_neg hop]
    simp only [Rs.steal, Rs.fail]
    omega
  | spawn i hop =>
    obtain ⟨f, hf⟩ := hu i (List.mem_cons_self ..)
    have e1 := left_begin (fs := fs) workO hok hf (.inl hop) h1
    have e2 := left_begin (fs := fs) spawnO hok hf (.inl hop) h1
    have e3 : workO i = 2 := by unfold workO; rw [if_pos (.inl hop)]
    have e4 : spawnO i = 1 := by unfold spawnO; rw [if_pos hop]
    simp only [Rs.steal, Rs.fail]
    omega
  | call i hop =>
    obtain ⟨f, hf⟩ := hu i (List.mem_cons_self ..)
    have e1 := left_begin (fs := fs) workO hok hf (.inr hop) h1
    have e2 := left_begin (fs := fs) spawnO hok hf (.inr hop) h1
    have e3 : workO i = 2 := by unfold workO; rw [if_pos (.inr hop)]
    simp only [Rs.steal, Rs.fail]
    omega
  | _ =>
    have e1 := left_none (fs := fs) workO h1
    have e2 := left_none (fs := fs) spawnO h1
    simp only [Rs.steal, Rs.fail]
    omega

/-- At the last step one frame is left, and it is at hand. -/
theorem Thr.last {s : St} {L : List Th} (fs : List (List Ins)) (h : Thr s L) {w : Nat} (hw : w < s.ws.length) (v : Nat) (hd : (stepM fs s w v).2 = .done) : mass L = 1 ∧ 1 ≤ hands s := by
  unfold stepM at hd
  rcases h.wk w hw with ⟨a, m, hm, hha, hst⟩ | ⟨hha, hst, hno⟩
  · obtain ⟨L0, hp⟩ := front hm
    have hL := h.perm hp
    have hlk := hL.lnk _ (List.mem_cons_self ..)
    have ha := hlk.lt a (List.mem_cons_self ..)
    have hh : 1 ≤ hands s := by
      have := hands_hand hw none
      rw [hha] at this
      simp only [Option.isSome_some, Option.isSome_none, if_true, Bool.false_eq_true, if_false] at this
      omega
    rw [hha] at hd
    simp only at hd
    by_cases hwt : waits (s.t a) = true
    · rw [if_pos hwt] at hd; cases hd
    · rw [if_neg hwt] at hd
      cases hr : (s.t a).rem with
      | nil =>
        have ho : (s.t a).out = 0 := by
          unfold waits at hwt
          rw [hr] at hwt
          simpa using hwt
        rw [hr] at hd
        simp only at hd
        cases hor : (s.t a).org with
        | root =>
          have ha0 := (hL.rt a ha).1 hor
          subst ha0
          obtain ⟨rfl, rfl⟩ := hL.sole ho
          exact ⟨by rw [mass_perm hp]; rfl, hh⟩
        | call => rw [hor] at hd; cases hd
        | spawn =>
          rw [hor] at hd
          simp only at hd
          split at hd
          · cases hd
          · split at hd <;> cases hd
      | cons i rest =>
        rw [hr] at hd
        simp only at hd
        split at hd
        · cases hd
        · split at hd
          · cases hd
          · split at hd
            · cases hd
            · split at hd <;> cases hd
  · rw [hha] at hd
    simp only at hd
    split at hd <;> cases hd
theorem left_over (own : Ins → Nat) {s : St} (h : ∀ i, i < s.ts.length → (s.t i).rem = []) : left fs own s = 0 := by
  unfold left todoC
  have : ∀ t ∈ s.ts, (fun t : Tk => (t.rem.map (priceC own (wfC fs own fs.length))).sum) t = 0 := fun t ht => by
    obtain ⟨i, hi, rfl⟩ := List.getElem_of_mem ht
    have e : s.t i = s.ts[i] := St.t_eq hi
    simp only
    rw [← e, h i hi]; rfl
  rw [List.map_congr_left this]
  induction s.ts with
  | nil => rfl
  | cons t l ih => simpa using ih

section
variable {workers : Nat} {script : List (Int × Int)} {seed x : Int}

/-- **A run in numbers.** A: the steps at which a frame is set aside. -/
theorem run_counted (hok : FsOk fs nr) (hl10 : ∀ l ∈ fs, l.length ≤ 10) (hw : 1 ≤ workers) (h0 : 0 < fs.length) {n : Nat} (hn : Ends fs workers script seed x n) :
    ∃ A, n + 1 = wfC fs workO fs.length 0 + 1 + stealsAt fs workers script seed x n + failsAt fs workers script seed x n + A ∧ A ≤ stealsAt fs workers script seed x n ∧ stealsAt fs workers script seed x n ≤ wfC fs spawnO fs.length 0 := by
  have hI := inv_start (script := script) (seed := seed) (x := x) hok hl10 hw h0
  have hstart : ∀ own, left fs own (start fs workers seed x) = wfC fs own fs.length 0 := fun own => by
    rw [← wfC_deep own hok fs.length 0 (by omega)]
    unfold left todoC start
    simp only [List.map_cons, List.map_nil, List.sum_cons, List.sum_nil, Nat.add_zero]
    rfl
  have hsum0 : ∀ (g : Wk → Nat), g wk0 = 0 → ∀ k, ((List.replicate k wk0).map g).sum = 0 := fun g hg k => by
    induction k with
    | zero => rfl
    | succ k ih => rw [List.replicate_succ, List.map_cons, List.sum_cons, ih, hg]
  have hh0 : hands (start fs workers seed x) = 1 := by
    unfold hands start
    rw [List.map_cons, List.sum_cons, hsum0 (fun k => if k.hand.isSome then 1 else 0) rfl]; rfl
  have hk0 : stks (start fs workers seed x) = 0 := by
    unfold stks start
    rw [List.map_cons, List.sum_cons, hsum0 (fun k => k.stack.length) rfl]; rfl
  have key : ∀ k, k ≤ n → ∃ A L, Thr (stAt fs workers script seed x k) L ∧ k + left fs workO (stAt fs workers script seed x k) + mass L = wfC fs workO fs.length 0 + 1 + stealsAt fs workers script seed x k + failsAt fs workers script seed x k + A ∧
      A + hands (stAt fs workers script seed x k) ≤ 1 + stealsAt fs workers script seed x k ∧ stealsAt fs workers script seed x k + stks (stAt fs workers script seed x k) + left fs spawnO (stAt fs workers script seed x k) ≤ wfC fs spawnO fs.length 0 := by
    intro k
    induction k with
    | zero =>
      intro _
      refine ⟨0, _, thr_start fs hw seed x, ?_, ?_, ?_⟩
      · show 0 + left fs workO (start fs workers seed x) + mass [((some 0, [0]) : Th)] = _
        rw [hstart]
        have : mass [((some 0, [0]) : Th)] = 1 := rfl
        rw [this]
        simp only [stealsAt, failsAt]
        omega
      · show 0 + hands (start fs workers seed x) ≤ _
        rw [hh0]
        simp only [stealsAt]
        omega
      · show stealsAt fs workers script seed x 0 + stks (start fs workers seed x) + left fs spawnO (start fs workers seed x) ≤ _
        rw [hstart, hk0]
        simp only [stealsAt]
        omega
    | succ k ih =>
      intro hk
      obtain ⟨A, L, hL, e1, e2, e3⟩ := ih (by omega)
      have hIk := inv_at hok hl10 hw hI k (fun i hi => by rw [Nat.zero_add]; exact hn.2 i (by omega))
      rw [Nat.zero_add] at hIk
      have hd := hn.2 k (by omega)
      rcases hL.acc hIk.ok (w := (turnM workers script k).1) (by rw [hIk.ws]; exact (turnM_lt hw script k).1) (turnM workers script k).2 with g | ⟨L', a, g1, _, g3⟩
      · exact absurd g hd
      · obtain ⟨f1, f2, f3⟩ := g3.told hok
        refine ⟨A + a, L', g1, ?_, ?_, ?_⟩
        · rw [stealsAt, failsAt, stAt_succ]; unfold rsAt; omega
        · rw [stealsAt, stAt_succ]; unfold rsAt; omega
        · rw [stealsAt, stAt_succ]; unfold rsAt; omega
  obtain ⟨A, L, hL, e1, e2, e3⟩ := key n (Nat.le_refl _)
  have hIn := inv_at hok hl10 hw hI n (fun i hi => by rw [Nat.zero_add]; exact hn.2 i (by omega))
  rw [Nat.zero_add] at hIn
  have hwn : (turnM workers script n).1 < (stAt fs workers script seed x n).ws.length := by rw [hIn.ws]; exact (turnM_lt hw script n).1
  obtain ⟨m1, m2⟩ := hL.last fs hwn (turnM workers script n).2 hn.1
  have m3 := left_over (fs := fs) workO (hL.over fs hwn (turnM workers script n).2 hn.1)
  exact ⟨A, by omega, by omega, by omega⟩
end
end Go.Proofs.YtkmakliebhnhbaaGreat

/- The plain machine: work is instructions and ends; what was given is what the serial order has, in another order. -/
namespace Go.Proofs.YtkmakliebhnhbaaGreat
open Go.RowKit

theorem work_fold {C : Nat → Nat × Nat} {W S : Nat → Nat} {n nr f : Nat} (hs : ∀ g, f < g → g < n → W g + 1 = S g + (C g).1) : ∀ (l : List Ins) (c : Nat × Nat), (∀ i ∈ l, mayB n nr f i = true) → (l.map (priceC workO W)).sum + c.1 = (l.map (priceC (fun _ => 1) S)).sum + (l.foldl (addS C) c).1
  | [], c, _ => by simp
  | i :: t, c, hl => by
    have ih := work_fold hs t (addS C c i) (fun j hj => hl j (List.mem_cons_of_mem _ hj))
    simp only [List.map_cons, List.sum_cons, List.foldl_cons]
    have key : priceC workO W i + c.1 = priceC (fun _ => 1) S i + (addS C c i).1 := by
      unfold priceC workO addS
      by_cases h3 : i.op = 3 ∨ i.op = 4
      · obtain ⟨m, hm, hfm, hmn⟩ := mayB_begins (hl i (List.mem_cons_self ..)) (by unfold begins; simpa using h3)
        rw [if_pos h3, if_pos h3, if_pos h3, if_neg (by omega), if_pos (by unfold begins; simpa using h3), hm, Int.toNat_natCast]
        have := hs m hfm hmn
        simp only
        omega
      · rw [if_neg h3, if_neg h3, if_neg h3]
        split
        · simp only
        · rw [if_neg (by unfold begins; simpa using h3)]
    omega
/-- The work: every instruction, and every frame's end. -/
theorem work_split {fs : List (List Ins)} {nr : Nat} (hok : FsOk fs nr) : ∀ (k f d : Nat), k ≤ fs.length → fs.length - k ≤ f → f < fs.length → fs.length ≤ f + d → wfC fs workO d f + 1 = wfC fs (fun _ => 1) d f + (sizeF fs k f).1
  | 0, f, _, _, h1, h2, _ => by omega
  | k + 1, f, d, hk, h1, h2, hd => by
    obtain ⟨l, hl⟩ : ∃ l, fs[f]? = some l := ⟨_, List.getElem?_eq_getElem h2⟩
    by_cases hf : f = fs.length - 1 - k
    · cases d with
      | zero => omega
      | succ d =>
        rw [sizeF_step hf hl, if_pos rfl, wfC, wfC, hl]
        have := work_fold (C := sizeF fs k) (W := wfC fs workO d) (S := wfC fs (fun _ => 1) d) (n := fs.length) (nr := nr) (f := f) (fun g hg hgl => work_split hok k g d (by omega) (by omega) hgl (by omega)) l (1, 0) (fun i hi => (hok f l hl i hi).1)
        simp only [Option.getD_some]
        simp only at this
        omega
    · rw [sizeF_step rfl (List.getElem?_eq_getElem (by omega)), if_neg hf]
      exact work_split hok k f d (by omega) (by omega) h2 hd
theorem work_whole {fs : List (List Ins)} {nr : Nat} (hok : FsOk fs nr) (h0 : 0 < fs.length) : wfC fs workO fs.length 0 + 1 = wfC fs (fun _ => 1) fs.length 0 + framesF fs := work_split hok fs.length 0 fs.length (Nat.le_refl _) (by omega) h0 (by omega)

section
variable {fs : List (List Ins)} {workers : Nat} {script : List (Int × Int)} {seed x : Int}
def Ev.rn (e : Ev) : Int × Int := (e.r, e.n)
theorem trAt_rn {T : List Ev} {n : Nat} (hg : ∀ j, j < n → ∀ r m p, rsAt fs workers script seed x j = .gave r m p → T[p]? = some ⟨0, r, m⟩) : ∀ k, k ≤ n → (trAt fs workers script seed x k).map Ev.rn = (plAt fs workers script seed x k).map (fun p => ((T[p]?).getD ⟨0, 0, 0⟩).rn)
  | 0, _ => rfl
  | k + 1, hk => by
    rw [trAt, plAt_succ, List.map_append, List.map_append, trAt_rn hg k (by omega)]
    cases hr : rsAt fs workers script seed x k with
    | gave r m p =>
      simp only [Rs.ev, Rs.places, List.map_cons, List.map_nil]
      rw [hg k (by omega) r m p hr]
      rfl
    | went => rfl
    | stole => rfl
    | failed => rfl
    | done => rfl
theorem range_get (T : List Ev) : (List.range' 0 T.length).map (fun p => ((T[p]?).getD ⟨0, 0, 0⟩).rn) = T.map Ev.rn := by
  apply List.ext_getElem?
  intro i
  rw [List.getElem?_map, List.getElem?_map]
  by_cases h : i < T.length
  · rw [List.getElem?_eq_getElem (by simpa using h), List.getElem?_eq_getElem h]
    simp [h]
  · rw [List.getElem?_eq_none (by simpa using h), List.getElem?_eq_none (by omega)]
    rfl
/-- **Each thing is given once.** -/
theorem run_once {nr : Nat} (hok : FsOk fs nr) (hl10 : ∀ l ∈ fs, l.length ≤ 10) (hw : 1 ≤ workers) (h0 : 0 < fs.length) {n : Nat} (hn : Ends fs workers script seed x n) : ((trAt fs workers script seed x n).map Ev.rn).Perm ((ser fs fs.length 0 x seed).map Ev.rn) := by
  obtain ⟨n', h1, h2, h3, h4, h5, h6⟩ := run_whole hok hl10 hw h0 script seed x
  have e : n = n' := hn.one ⟨h2, h3⟩
  subst e
  rw [trAt_rn h6 n (Nat.le_refl _), ← range_get]
  exact h5.map _
/-- Nobody gives but the workers. -/
theorem trAt_w (hw : 1 ≤ workers) : ∀ k, ∀ e ∈ trAt fs workers script seed x k, ∃ w : Nat, e.w = w ∧ w < workers
  | 0, e, he => by cases he
  | k + 1, e, he => by
    rw [trAt] at he
    rcases List.mem_append.1 he with he | he
    · exact trAt_w hw k e he
    · cases hr : rsAt fs workers script seed x k with
      | gave r m p =>
        rw [hr] at he
        simp only [Rs.ev, List.mem_singleton] at he
        rw [he]
        exact ⟨_, rfl, (turnM_lt hw script k).1⟩
      | went => rw [hr] at he; cases he
      | stole => rw [hr] at he; cases he
      | failed => rw [hr] at he; cases he
      | done => rw [hr] at he; cases he
end
end Go.Proofs.YtkmakliebhnhbaaGreat

/- The plain machine: one worker alone does all in the serial order. -/
namespace Go.Proofs.YtkmakliebhnhbaaGreat
open Go.RowKit

variable {fs : List (List Ins)} {nr : Nat} {T : List Ev}

def spanM (fs : List (List Ins)) (s : St) (ms : List Nat) : List Nat := (ms.map (fun i => span fs (s.t i))).flatten
theorem spanM_cons (s : St) (a : Nat) (m : List Nat) : spanM fs s (a :: m) = span fs (s.t a) ++ spanM fs s m := by simp [spanM]
theorem spanM_congr {s s' : St} {m : List Nat} (h : ∀ j ∈ m, s'.t j = s.t j) : spanM fs s' m = spanM fs s m := by
  unfold spanM
  rw [List.map_congr_left (fun j hj => by rw [h j hj])]
theorem span_ins {t : Tk} {i : Ins} {rest : List Ins} (hr : t.rem = i :: rest) : span fs t = List.range' t.pl (oneZ (ser fs fs.length) t.x t.h t.r i).length ++ List.range' (t.pl + (oneZ (ser fs fs.length) t.x t.h t.r i).length) (serL (ser fs fs.length) t.x t.h (rankZ t.r i) rest).length := by
  have hser : serL (ser fs fs.length) t.x t.h t.r t.rem = oneZ (ser fs fs.length) t.x t.h t.r i ++ serL (ser fs fs.length) t.x t.h (rankZ t.r i) rest := by rw [hr]; rfl
  unfold span
  rw [hser, List.length_append, ← List.range'_append_1]
theorem span_put {t : Tk} {i : Ins} {rest : List Ins} (hr : t.rem = i :: rest) (h1 : i.op = 1) : span fs t = t.pl :: span fs { t with rem := rest, pl := t.pl + 1 } := by
  have e1 : oneZ (ser fs fs.length) t.x t.h t.r i = [⟨0, i.r, numZ i t.x⟩] := by unfold oneZ; rw [if_pos h1]
  have e2 : rankZ t.r i = t.r := by unfold rankZ; rw [if_pos h1]
  rw [span_ins hr, e1, e2]
  rfl
theorem span_draw {t : Tk} {i : Ins} {rest : List Ins} (hr : t.rem = i :: rest) (h2 : i.op = 2) : span fs t = t.pl :: span fs { t with rem := rest, pl := t.pl + 1, r := t.r + 1 } := by
  have e1 : oneZ (ser fs fs.length) t.x t.h t.r i = [⟨0, i.r, drawnZ t.h t.r i.k⟩] := by unfold oneZ; rw [if_neg (by omega), if_pos h2]
  have e2 : rankZ t.r i = t.r + 1 := by unfold rankZ; rw [if_neg (by omega)]
  rw [span_ins hr, e1, e2]
  rfl
theorem span_else {t : Tk} {i : Ins} {rest : List Ins} (hr : t.rem = i :: rest) (h1 : i.op ≠ 1) (h2 : i.op ≠ 2) (h3 : ¬(i.op = 3 ∨ i.op = 4)) : span fs t = span fs { t with rem := rest, r := t.r + 1 } := by
  have e1 : oneZ (ser fs fs.length) t.x t.h t.r i = [] := by unfold oneZ; rw [if_neg h1, if_neg h2, if_neg h3]
  have e2 : rankZ t.r i = t.r + 1 := by unfold rankZ; rw [if_neg h1]
  rw [span_ins hr, e1, e2]
  rfl
theorem span_begin (hok : FsOk fs nr) {t : Tk} {i : Ins} {rest : List Ins} {p : Nat} {o : Org} (ht : TkOk fs nr T t) (hr : t.rem = i :: rest) (hop : i.op = 3 ∨ i.op = 4) : span fs t = span fs (kid fs t p o i) ++ span fs { t with rem := rest, r := t.r + 1, pl := t.pl + gift fs i.f.toNat } := by
  obtain ⟨m, hm, hfm, hmn⟩ := mayB_begins (ht.rem i (by rw [hr]; exact List.mem_cons_self ..)).1 (by unfold begins; simpa using hop)
  have hone : oneZ (ser fs fs.length) t.x t.h t.r i = ser fs fs.length m (numZ i t.x) (stepZ t.h t.r) := by
    unfold oneZ
    rw [if_neg (by omega), if_neg (by omega), if_pos hop, hm, Int.toNat_natCast]
  have e2 : rankZ t.r i = t.r + 1 := by unfold rankZ; rw [if_neg (by omega)]
  obtain ⟨l, hlm⟩ : ∃ l, fs[m]? = some l := ⟨_, List.getElem?_eq_getElem hmn⟩
  have hkid : span fs (kid fs t p o i) = List.range' t.pl (gift fs m) := by
    unfold span kid
    simp only
    rw [hm, Int.toNat_natCast, hlm]
    have e : serL (ser fs fs.length) (numZ i t.x) (stepZ t.h t.r) 0 l = ser fs fs.length m (numZ i t.x) (stepZ t.h t.r) := by
      rw [← ser_deep hok fs.length m (numZ i t.x) (stepZ t.h t.r) (by omega), ser, hlm]; rfl
    simp only [Option.getD_some]
    rw [e, gift_len hok hmn]
  rw [hkid, span_ins hr, hone, e2, gift_len hok hmn]
  unfold span
  simp only
  rw [hm, Int.toNat_natCast]

/-- One worker: one thread, down to the root; what is ahead of it, frame by frame, is the serial order's end from g on. -/
structure Alone (fs : List (List Ins)) (T : List Ev) (s : St) (ms : List Nat) (g : Nat) : Prop where
  thr : Thr s [(some 0, ms)]
  ahead : spanM fs s ms = List.range' g (T.length - g)
  le : g ≤ T.length
theorem Alone.root {s : St} {ms : List Nat} {g : Nat} (h : Alone fs T s ms g) : s.org (botOf ms) = .root := by
  have hl := h.thr.lnk _ (List.mem_cons_self ..)
  rcases hl.bot with b | b
  · exact b
  · have hu := h.thr.up _ (List.mem_cons_self ..) b
    obtain ⟨th, h1, h2⟩ := occ_some (by rw [hu.1]; exact Nat.le_refl 1)
    rw [List.mem_singleton] at h1
    subst h1
    have := hl.le _ h2
    have := hu.2
    simp only at *
    omega
theorem Alone.out {s : St} {ms : List Nat} {g : Nat} (h : Alone fs T s ms g) {q : Nat} (hq : q < s.ts.length) : (s.t q).out = 0 := by
  rw [h.thr.out q hq, cnt_cons]
  have : under s q (some 0, ms) = 0 := by unfold under; simp only; rw [h.root]
  rw [this]
  rfl

theorem Alone.step (hok : FsOk fs nr) {s : St} {ms : List Nat} {g : Nat} (hs : ∀ t ∈ s.ts, TkOk fs nr T t) (h : Alone fs T s ms g) (hd : (stepM fs s 0 0).2 ≠ .done) :
    ∃ ms' g', Alone fs T (stepM fs s 0 0).1 ms' g' ∧ (stepM fs s 0 0).2.steal = 0 ∧ (stepM fs s 0 0).2.fail = 0 ∧ List.range' 0 g ++ (stepM fs s 0 0).2.places = List.range' 0 g' := by
  have hL := h.thr
  have hlk := hL.lnk _ (List.mem_cons_self ..)
  obtain ⟨a, m, rfl⟩ : ∃ a m, ms = a :: m := by
    cases ms with
    | nil => exact hlk.elim
    | cons a m => exact ⟨a, m, rfl⟩
  have hw : 0 < s.ws.length := hL.wl 0 _ (List.mem_cons_self ..)
  have ha := hlk.lt a (List.mem_cons_self ..)
  have hocc : occ [(some 0, a :: m)] a ≠ 0 := by
    have := occ_mem (L := [(some 0, a :: m)]) (List.mem_cons_self ..) (i := a) (List.mem_cons_self ..)
    omega
  have hna : a ∉ m := fun hm => by
    have o := hL.occ1 a
    rw [occ_cons] at o
    have := List.count_pos_iff.2 hm
    simp only [List.count_cons_self] at o
    omega
  obtain ⟨hha, hst⟩ := hL.hand
  have hah := h.ahead
  have hle := h.le
  have hta := hs _ (St.t_mem ha)
  have hput : ∀ x, spanM fs (s.putT a x) m = spanM fs s m := fun x => spanM_congr fun j hj => by
    rw [St.t_putT s x ha, if_neg (fun e => hna (by rw [← e]; exact hj))]
  have hputa : ∀ x, (s.putT a x).t a = x := fun x => by rw [St.t_putT s x ha, if_pos rfl]
  have hgave : ∀ x, span fs (s.t a) = (s.t a).pl :: span fs x → g + 1 ≤ T.length ∧ (s.t a).pl = g ∧ spanM fs (s.putT a x) (a :: m) = List.range' (g + 1) (T.length - (g + 1)) := fun x hx => by
    rw [spanM_cons, hx] at hah
    have hlt : g + 1 ≤ T.length := by
      rcases Nat.lt_or_ge g T.length with k | k
      · exact k
      · rw [show T.length - g = 0 by omega] at hah; simp at hah
    rw [show T.length - g = (T.length - (g + 1)) + 1 by omega, List.range'_succ, List.cons_append] at hah
    injection hah with e1 e2
    refine ⟨hlt, e1, ?_⟩
    rw [spanM_cons, hputa, hput]
    exact e2
  have hrange : List.range' 0 g ++ [g] = List.range' 0 (g + 1) := by
    have := List.range'_append_1 (s := 0) (m := g) (n := 1)
    rw [Nat.zero_add] at this
    exact this
  revert hd
  unfold stepM
  rw [hha]
  simp only
  have hwt : ¬ waits (s.t a) = true := by unfold waits; rw [h.out ha]; simp
  rw [if_neg hwt]
  cases hr : (s.t a).rem with
  | nil =>
    simp only
    have hsp : span fs (s.t a) = [] := by unfold span; rw [hr]; rfl
    cases hor : (s.t a).org with
    | root => intro hd; exact absurd rfl hd
    | call =>
      intro _
      cases m with
      | nil =>
        rcases hlk.2 with k | k
        · unfold St.org at k; rw [hor] at k; cases k
        · unfold St.org at k; rw [hor] at k; cases k
      | cons p m =>
        have hpp : (s.t a).par = p := hlk.2.1
        refine ⟨p :: m, g, ⟨hL.pop hr (h.out ha) _ rfl (by simp) fun j => ?_, ?_, hle⟩, rfl, rfl, by simp [Rs.places]⟩
        · rw [St.w_hand s _ hw, hst, hpp]
          simp only [stkOf, St.org, hor]
        · rw [spanM_cons, hsp, List.nil_append] at hah
          exact hah
    | spawn =>
      intro _
      cases m with
      | nil =>
        have := h.root
        simp only [botOf, St.org, hor] at this
        cases this
      | cons p m =>
        have hpp : (s.t a).par = p := hlk.2.1
        have hst1 : (s.w 0).stack = (stkOf s (p :: m)).reverse ++ [p] := by
          rw [hst]
          simp only [stkOf, St.org, hor]
          rw [List.reverse_cons]
        rw [hst1]
        simp only [List.getLast?_append, List.getLast?_singleton, Option.some_or, List.dropLast_concat]
        refine ⟨p :: m, g, ⟨hL.pop hr (h.out ha) _ rfl (by simp) fun j => ?_, ?_, hle⟩, by rfl, by rfl, by simp [Rs.places]⟩
        · rw [St.w_stk _ _ (by simpa using hw), St.w_hand s _ hw, if_pos rfl, St.w_hand s _ hw]
          by_cases e : j = 0
          · rw [if_pos e, if_pos e]
          · rw [if_neg e, if_neg e, if_neg e]
        · rw [spanM_cons, hsp, List.nil_append] at hah
          exact hah
  | cons i rest =>
    simp only
    intro _
    by_cases e1 : i.op = 1
    · rw [if_pos e1]
      obtain ⟨k1, k2, k3⟩ := hgave _ (span_put hr e1)
      exact ⟨a :: m, g + 1, ⟨hL.doing ha rfl rfl rfl rfl hocc, k3, k1⟩, rfl, rfl, by simp only [Rs.places]; rw [k2]; exact hrange⟩
    rw [if_neg e1]
    by_cases e2 : i.op = 2
    · rw [if_pos e2]
      obtain ⟨k1, k2, k3⟩ := hgave _ (span_draw hr e2)
      exact ⟨a :: m, g + 1, ⟨hL.doing ha rfl rfl rfl rfl hocc, k3, k1⟩, rfl, rfl, by simp only [Rs.places]; rw [k2]; exact hrange⟩
    rw [if_neg e2]
    have hb := hL.doing (t := { s.t a with rem := rest, r := (s.t a).r + 1, pl := (s.t a).pl + gift fs i.f.toNat }) ha rfl rfl rfl rfl hocc
    have hsl : (s.putT a { s.t a with rem := rest, r := (s.t a).r + 1, pl := (s.t a).pl + gift fs i.f.toNat }).ts.length = s.ts.length := by simp
    have hbeg : ∀ o (s' : St), i.op = 3 ∨ i.op = 4 → s'.ts = (s.ts.set a { s.t a with rem := rest, r := (s.t a).r + 1, pl := (s.t a).pl + gift fs i.f.toNat }) ++ [kid fs (s.t a) a o i] → spanM fs s' (s.ts.length :: a :: m) = List.range' g (T.length - g) := fun o s' hop hts => by
      have ht : ∀ j, s'.t j = if j = s.ts.length then kid fs (s.t a) a o i else (s.putT a { s.t a with rem := rest, r := (s.t a).r + 1, pl := (s.t a).pl + gift fs i.f.toNat }).t j := fun j => by
        have := St.t_app (s.putT a { s.t a with rem := rest, r := (s.t a).r + 1, pl := (s.t a).pl + gift fs i.f.toNat }) (kid fs (s.t a) a o i) j
        rw [hsl] at this
        rw [← this]
        unfold St.t
        rw [hts]
        rfl
      rw [spanM_cons, spanM_cons, ht, if_pos rfl, ht a, if_neg (by omega), hputa, ← List.append_assoc, ← span_begin hok hta hr hop]
      have : spanM fs s' m = spanM fs s m := spanM_congr fun j hj => by
        have hj' := hlk.lt j (List.mem_cons_of_mem _ hj)
        rw [ht, if_neg (by omega), St.t_putT s _ ha, if_neg (fun e => hna (by rw [← e]; exact hj))]
      rw [this, ← spanM_cons]
      exact hah
    by_cases e3 : i.op = 3
    · rw [if_pos e3]
      have k := hb.begin (n := kid fs (s.t a) a .spawn i) rfl (by simp [kid]) rfl rfl
        (({ (s.putT a { s.t a with rem := rest, r := (s.t a).r + 1, pl := (s.t a).pl + gift fs i.f.toNat }).stk 0 ((s.w 0).stack ++ [a]) with ts := (s.ts.set a { s.t a with rem := rest, r := (s.t a).r + 1, pl := (s.t a).pl + gift fs i.f.toNat }) ++ [kid fs (s.t a) a .spawn i] } : St).hand 0 (some s.ts.length)) rfl (by simp [St.stk, St.putW, St.putT]) fun j => by
          have k1 := St.w_hand ({ (s.putT a { s.t a with rem := rest, r := (s.t a).r + 1, pl := (s.t a).pl + gift fs i.f.toNat }).stk 0 ((s.w 0).stack ++ [a]) with ts := (s.ts.set a { s.t a with rem := rest, r := (s.t a).r + 1, pl := (s.t a).pl + gift fs i.f.toNat }) ++ [kid fs (s.t a) a .spawn i] } : St) (i := 0) (some s.ts.length) (by simpa [St.stk, St.putW, St.putT] using hw) j
          have k2 : ∀ j, ({ (s.putT a { s.t a with rem := rest, r := (s.t a).r + 1, pl := (s.t a).pl + gift fs i.f.toNat }).stk 0 ((s.w 0).stack ++ [a]) with ts := (s.ts.set a { s.t a with rem := rest, r := (s.t a).r + 1, pl := (s.t a).pl + gift fs i.f.toNat }) ++ [kid fs (s.t a) a .spawn i] } : St).w j = if j = 0 then ⟨(s.w 0).hand, (s.w 0).stack ++ [a]⟩ else s.w j := fun j => St.w_stk s _ hw j
          rw [k1, k2 0, if_pos rfl, k2 j, hsl]
          by_cases e : j = 0
          · rw [if_pos e, if_pos e]; rfl
          · rw [if_neg e, if_neg e, if_neg e]; rfl
      rw [hsl] at k
      exact ⟨_, g, ⟨k, hbeg .spawn _ (.inl e3) rfl, hle⟩, rfl, rfl, by simp [Rs.places]⟩
    rw [if_neg e3]
    by_cases e4 : i.op = 4
    · rw [if_pos e4]
      have k := hb.begin (n := kid fs (s.t a) a .call i) rfl (by simp [kid]) rfl rfl
        (({ s.putT a { s.t a with rem := rest, r := (s.t a).r + 1, pl := (s.t a).pl + gift fs i.f.toNat } with ts := (s.ts.set a { s.t a with rem := rest, r := (s.t a).r + 1, pl := (s.t a).pl + gift fs i.f.toNat }) ++ [kid fs (s.t a) a .call i] } : St).hand 0 (some s.ts.length)) rfl (by simp [St.putT]) fun j => by
          have k1 := St.w_hand ({ s.putT a { s.t a with rem := rest, r := (s.t a).r + 1, pl := (s.t a).pl + gift fs i.f.toNat } with ts := (s.ts.set a { s.t a with rem := rest, r := (s.t a).r + 1, pl := (s.t a).pl + gift fs i.f.toNat }) ++ [kid fs (s.t a) a .call i] } : St) (i := 0) (some s.ts.length) hw j
          rw [k1, hsl]
          rfl
      rw [hsl] at k
      exact ⟨_, g, ⟨k, hbeg .call _ (.inr e4) rfl, hle⟩, rfl, rfl, by simp [Rs.places]⟩
    rw [if_neg e4]
    refine ⟨a :: m, g, ⟨hL.doing ha rfl rfl rfl rfl hocc, ?_, hle⟩, rfl, rfl, by simp [Rs.places]⟩
    rw [spanM_cons, hputa, hput, ← span_else hr e1 e2 (by omega), ← spanM_cons]
    exact hah
end Go.Proofs.YtkmakliebhnhbaaGreat

/- The plain machine: one worker's run. -/
namespace Go.Proofs.YtkmakliebhnhbaaGreat
open Go.RowKit

variable {fs : List (List Ins)} {nr : Nat} {script : List (Int × Int)} {seed x : Int}

theorem turnM_one (script : List (Int × Int)) (k : Nat) : turnM 1 script k = (0, 0) := by
  have h := turnM_lt (Nat.le_refl 1) script k
  have h1 : (turnM 1 script k).1 = 0 := by omega
  have h2 : (turnM 1 script k).2 = 0 := by omega
  exact Prod.ext h1 h2

theorem alone_start (hok : FsOk fs nr) (h0 : 0 < fs.length) : Alone fs (ser fs fs.length 0 x seed) (start fs 1 seed x) [0] 0 := by
  obtain ⟨l, hl⟩ : ∃ l, fs[0]? = some l := ⟨_, List.getElem?_eq_getElem h0⟩
  have e : serL (ser fs fs.length) x seed 0 l = ser fs fs.length 0 x seed := by
    rw [← ser_deep hok fs.length 0 x seed (by omega), ser, hl]; rfl
  refine ⟨thr_start fs (Nat.le_refl 1) seed x, ?_, Nat.zero_le _⟩
  rw [spanM_cons]
  have ht : (start fs 1 seed x).t 0 = ⟨0, x, seed, 0, fs[0]?.getD [], 0, 0, false, 0, .root⟩ := rfl
  rw [ht]
  unfold span
  simp only
  rw [hl, Option.getD_some, e]
  simp [spanM]

/-- **One worker alone steals nothing, and gives all in the serial order.** -/
theorem run_lone (hok : FsOk fs nr) (hl10 : ∀ l ∈ fs, l.length ≤ 10) (h0 : 0 < fs.length) {n : Nat} (hn : Ends fs 1 script seed x n) :
    trAt fs 1 script seed x n = ser fs fs.length 0 x seed ∧ stealsAt fs 1 script seed x n = 0 ∧ failsAt fs 1 script seed x n = 0 := by
  obtain ⟨n', h1, h2, h3, h4, h5, h6⟩ := run_whole hok hl10 (Nat.le_refl 1) h0 script seed x
  have e : n = n' := hn.one ⟨h2, h3⟩
  subst e
  have key : ∀ k, k ≤ n → ∃ ms g, Alone fs (ser fs fs.length 0 x seed) (stAt fs 1 script seed x k) ms g ∧ stealsAt fs 1 script seed x k = 0 ∧ failsAt fs 1 script seed x k = 0 ∧ plAt fs 1 script seed x k = List.range' 0 g := by
    intro k
    induction k with
    | zero => exact fun _ => ⟨[0], 0, alone_start hok h0, rfl, rfl, rfl⟩
    | succ k ih =>
      intro hk
      obtain ⟨ms, g, g1, g2, g3, g4⟩ := ih (by omega)
      have hd := hn.2 k (by omega)
      have hrs : rsAt fs 1 script seed x k = (stepM fs (stAt fs 1 script seed x k) 0 0).2 := by unfold rsAt; rw [turnM_one]
      rw [hrs] at hd
      obtain ⟨ms', g', k1, k2, k3, k4⟩ := g1.step hok (h4 k (by omega)).ok hd
      refine ⟨ms', g', ?_, ?_, ?_, ?_⟩
      · rw [stAt_succ, turnM_one]; exact k1
      · rw [stealsAt, g2, hrs, k2]
      · rw [failsAt, g3, hrs, k3]
      · rw [plAt_succ, g4, hrs]; exact k4
  obtain ⟨ms, g, _, g2, g3, g4⟩ := key n (Nat.le_refl _)
  have hg : g = (ser fs fs.length 0 x seed).length := by
    have := h5.length_eq
    rw [g4, List.length_range', List.length_range'] at this
    exact this
  have htr : ∀ k, k ≤ n → trAt fs 1 script seed x k = (plAt fs 1 script seed x k).map (fun p => ((ser fs fs.length 0 x seed)[p]?).getD ⟨0, 0, 0⟩) := by
    intro k
    induction k with
    | zero => exact fun _ => rfl
    | succ k ih =>
      intro hk
      rw [trAt, plAt_succ, List.map_append, ih (by omega), turnM_one]
      cases hr : rsAt fs 1 script seed x k with
      | gave r m p =>
        simp only [Rs.ev, Rs.places, List.map_cons, List.map_nil]
        rw [h6 k (by omega) r m p hr]
        rfl
      | went => rfl
      | stole => rfl
      | failed => rfl
      | done => rfl
  refine ⟨?_, g2, g3⟩
  rw [htr n (Nat.le_refl _), g4, hg]
  apply List.ext_getElem?
  intro i
  rw [List.getElem?_map]
  by_cases h : i < (ser fs fs.length 0 x seed).length
  · rw [List.getElem?_eq_getElem (by simpa using h), List.getElem?_eq_getElem h]
    simp [h]
  · rw [List.getElem?_eq_none (by simpa using h), List.getElem?_eq_none (by omega)]
    rfl
end Go.Proofs.YtkmakliebhnhbaaGreat

/- The plain machine: how great its numbers may be; what a step may lean on. -/
namespace Go.Proofs.YtkmakliebhnhbaaGreat
open Go.RowKit

def TkBd (k n : Nat) (t : Tk) : Prop := t.out ≤ k ∧ t.pl ≤ 100000000 * k ∧ (t.org ≠ .root → t.par < n)
def Bd (k : Nat) (s : St) : Prop := ∀ t ∈ s.ts, TkBd k s.ts.length t
theorem TkBd.up {k n n' : Nat} {t : Tk} (h : TkBd k n t) (hn : n ≤ n') : TkBd (k + 1) n' t := ⟨by have := h.1; omega, by have := h.2.1; omega, fun g => Nat.lt_of_lt_of_le (h.2.2 g) hn⟩

theorem Bd.step {fs : List (List Ins)} (hg : ∀ f, gift fs f ≤ 100000000) {k : Nat} {s : St} {w v : Nat} (hs : Bd k s) (hh : ∀ a, (s.w w).hand = some a → a < s.ts.length) (hq : ∀ q ∈ (s.w v).stack, q < s.ts.length) (hp : ∀ a, (s.w w).hand = some a → (s.t a).org = .spawn → (s.t a).par < s.ts.length) : Bd (k + 1) (stepM fs s w v).1 := by
  have upd : ∀ (n : Nat) (ts : List Tk) (a : Nat) (t : Tk), s.ts.length ≤ n → TkBd (k + 1) n t → (∀ u ∈ ts, u ∈ s.ts) → ∀ u ∈ ts.set a t, TkBd (k + 1) n u := fun n ts a t hn ht hsub u hu => by
    rcases mem_set_of hu with h | h
    · rw [h]; exact ht
    · exact (hs u (hsub u h)).up hn
  have sub : ∀ u ∈ s.ts, u ∈ s.ts := fun _ h => h
  unfold stepM
  cases hw : (s.w w).hand with
  | none =>
    simp only
    cases hv : (s.w v).stack with
    | nil => exact fun t ht => (hs t ht).up (Nat.le_refl _)
    | cons q rest =>
      have hb := hs _ (St.t_mem (s := s) (hq q (by rw [hv]; exact List.mem_cons_self ..)))
      intro t ht
      have hl : ((((s.hand w (some q)).stk v rest).putT q { ((s.hand w (some q)).stk v rest).t q with out := (((s.hand w (some q)).stk v rest).t q).out + 1 })).ts.length = s.ts.length := by simp [St.putT, St.stk, St.hand, St.putW]
      have ht : t ∈ s.ts.set q { ((s.hand w (some q)).stk v rest).t q with out := (((s.hand w (some q)).stk v rest).t q).out + 1 } := ht
      rcases mem_set_of ht with h | h
      · rw [h]
        exact ⟨by show (s.t q).out + 1 ≤ _; have := hb.1; omega, (hb.up (Nat.le_refl _)).2.1, fun g => by show (s.t q).par < _; rw [hl]; exact hb.2.2 g⟩
      · exact (hs t h).up (by rw [hl]; exact Nat.le_refl _)
  | some a =>
    have ha := hh a hw
    have hb := hs _ (St.t_mem ha)
    have hb1 := hb.1
    have hb2 := hb.2.1
    have hb3 := hb.2.2
    simp only
    split
    · intro t ht
      refine upd _ _ _ _ (by simp [St.putT, St.hand, St.putW]) ⟨by show (s.t a).out ≤ _; omega, by show (s.t a).pl ≤ _; omega, fun g => by simpa [St.putT, St.hand, St.putW] using hb3 g⟩ sub t ht
    · cases hr : (s.t a).rem with
      | nil =>
        simp only
        cases hor : (s.t a).org with
        | root => exact fun t ht => (hs t ht).up (Nat.le_refl _)
        | call => exact fun t ht => (hs t ht).up (Nat.le_refl _)
        | spawn =>
          simp only
          cases (s.w w).stack.getLast? with
          | some q => exact fun t ht => (hs t ht).up (Nat.le_refl _)
          | none =>
            have hpa := hs _ (St.t_mem (hp a hw hor))
            have hp1 := hpa.1
            have hp2 := hpa.2.1
            simp only
            split
            · intro t ht
              refine upd _ _ _ _ (by simp [St.putT, St.hand, St.putW]) ⟨by show (s.t (s.t a).par).out - 1 ≤ _; omega, by show (s.t (s.t a).par).pl ≤ _; omega, fun g => by simpa [St.putT, St.hand, St.putW] using hpa.2.2 g⟩ sub t ht
            · intro t ht
              refine upd _ _ _ _ (by simp [St.putT, St.hand, St.putW]) ⟨by show (s.t (s.t a).par).out - 1 ≤ _; omega, by show (s.t (s.t a).par).pl ≤ _; omega, fun g => by simpa [St.putT, St.hand, St.putW] using hpa.2.2 g⟩ sub t ht
      | cons i rest =>
        simp only
        split
        · intro t ht
          exact upd _ _ _ _ (by simp [St.putT]) ⟨by show (s.t a).out ≤ _; omega, by show (s.t a).pl + 1 ≤ _; omega, fun g => by simpa [St.putT] using hb3 g⟩ sub t ht
        · split
          · intro t ht
            exact upd _ _ _ _ (by simp [St.putT]) ⟨by show (s.t a).out ≤ _; omega, by show (s.t a).pl + 1 ≤ _; omega, fun g => by simpa [St.putT] using hb3 g⟩ sub t ht
          · have hgi := hg i.f.toNat
            split
            · intro t ht
              rcases List.mem_append.1 ht with ht | ht
              · exact upd _ _ _ _ (by simp [St.putT, St.hand, St.putW]) ⟨by show (s.t a).out ≤ _; omega, by show (s.t a).pl + _ ≤ _; omega, fun g => by have := hb3 g; simp [St.hand, St.putW]; omega⟩ sub t ht
              · rw [List.mem_singleton] at ht
                rw [ht]
                exact ⟨by show (0 : Int) ≤ _; omega, by show (s.t a).pl ≤ _; omega, fun _ => by show a < _; simp [St.hand, St.putW]; omega⟩
            · split
              · intro t ht
                rcases List.mem_append.1 ht with ht | ht
                · exact upd _ _ _ _ (by simp [St.putT, St.hand, St.putW]) ⟨by show (s.t a).out ≤ _; omega, by show (s.t a).pl + _ ≤ _; omega, fun g => by have := hb3 g; simp [St.hand, St.putW]; omega⟩ sub t ht
                · rw [List.mem_singleton] at ht
                  rw [ht]
                  exact ⟨by show (0 : Int) ≤ _; omega, by show (s.t a).pl ≤ _; omega, fun _ => by show a < _; simp [St.hand, St.putW]; omega⟩
              · intro t ht
                exact upd _ _ _ _ (by simp [St.putT]) ⟨by show (s.t a).out ≤ _; omega, by show (s.t a).pl ≤ _; omega, fun g => by simpa [St.putT] using hb3 g⟩ sub t ht

/-- What a step of worker w may lean on. -/
structure Lean1 (fs : List (List Ins)) (nr : Nat) (s : St) (K : Nat) : Prop where
  ok : ∀ t ∈ s.ts, (t.f < fs.length ∧ (∀ i ∈ t.rem, mayB fs.length nr t.f i = true ∧ i.wf) ∧ t.rem.length + t.r.toNat ≤ 10 ∧ 0 ≤ t.r)
  hand : ∀ k a, (s.w k).hand = some a → a < s.ts.length
  stack : ∀ k, ∀ q ∈ (s.w k).stack, q < s.ts.length
  pos : ∀ j, j < s.ts.length → 0 ≤ (s.t j).out
  join : ∀ w a, (s.w w).hand = some a → (s.t a).org = .spawn → (s.w w).stack = [] → 1 ≤ (s.t (s.t a).par).out
  par : ∀ i, i < s.ts.length → (s.t i).org ≠ .root → (s.t i).par < s.ts.length
  out : ∀ i, i < s.ts.length → (s.t i).out ≤ K
  pl : ∀ i, i < s.ts.length → (s.t i).pl ≤ 100000000 * K
  deep : ∀ k, (s.w k).stack.length ≤ K

theorem Inv.lean {fs : List (List Ins)} {nr : Nat} {T : List Ev} {workers : Nat} {s : St} {G : List Nat} {F K : Nat} (h : Inv fs nr T workers s G F) (hb : Bd K s) (hd : ∀ k, (s.w k).stack.length ≤ K) : Lean1 fs nr s K := by
  obtain ⟨L, ht, _, _⟩ := h.thr
  have outside : ∀ k, s.ws.length ≤ k → s.w k = wk0 := fun k hk => by unfold St.w; rw [List.getElem?_eq_none hk]; rfl
  have hand : ∀ k a, (s.w k).hand = some a → k < s.ws.length := fun k a ha => by
    rcases Nat.lt_or_ge k s.ws.length with g | g
    · exact g
    · rw [outside k g] at ha; cases ha
  refine ⟨fun t ht' => ⟨(h.ok t ht').f, (h.ok t ht').rem, (h.ok t ht').len, (h.ok t ht').r0⟩, fun k a ha => (ht.handed (hand k a ha)).1 a ha, ht.stacked, fun j hj => ht.pos hj, fun w a ha hor hst => ?_, fun i hi g => (hb _ (St.t_mem hi)).2.2 g, fun i hi => (hb _ (St.t_mem hi)).1, fun i hi => (hb _ (St.t_mem hi)).2.1, hd⟩
  have hwl := hand w a ha
  have hpl := (ht.handed hwl).2 a ha hor
  rcases ht.wk w hwl with ⟨b, m, g1, g2, g3⟩ | ⟨g1, _, _⟩
  · rw [ha] at g2
    injection g2 with g2
    subst g2
    rw [hst] at g3
    have hs0 : stkOf s (a :: m) = [] := by
      have := congrArg List.reverse g3
      simpa using this.symm
    cases m with
    | nil =>
      rw [ht.out _ hpl]
      have : 1 ≤ cnt s L (s.t a).par := by
        obtain ⟨L1, L2, rfl⟩ := List.append_of_mem g1
        unfold cnt
        rw [List.map_append, List.map_cons, List.sum_append_nat, List.sum_cons]
        have : under s (s.t a).par (some w, [a]) = 1 := by
          unfold under
          simp only [botOf, St.org, hor, St.par, if_pos]
        omega
      omega
    | cons p m =>
      unfold stkOf at hs0
      simp only [St.org, hor] at hs0
      cases hs0
  · rw [ha] at g1; cases g1
end Go.Proofs.YtkmakliebhnhbaaGreat
