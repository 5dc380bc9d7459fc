import Derived.Test.YtkmakliebhnhbaaGreatMachM
import Derived.Test.YtkmakliebhnhbaaGreatVals
namespace Go.Proofs.YtkmakliebhnhbaaGreat
open Go.RowKit
theorem cost_fold {C : Nat → Nat × Nat} {sub : Nat → Nat} {n nr f : Nat} (hs : ∀ g,f < g → g < n → sub g + 4 ≤ 14 * (C g).1) : ∀ (l : List Ins) (c : Nat × Nat),(∀ i ∈ l,mayB n nr f i = true) → (l.map (costW sub)).sum + 14 * c.1 ≤ 14 * (l.foldl (addS C) c).1 + l.length
 | [],c,_=>by simp
 | i :: t,c,hl=>by
  have ih:=cost_fold hs t (addS C c i) (fun j hj=>hl j (List.mem_cons_of_mem _ hj))
  simp only [List.map_cons,List.sum_cons,List.foldl_cons,List.length_cons]
  have key : costW sub i + 14 * c.1 ≤ 14 * (addS C c i).1 + 1:=by
   unfold costW addS
   by_cases h3 : i.op = 3 ∨ i.op = 4
   · obtain ⟨m,hm,hfm,hmn⟩:=mayB_begins (hl i (List.mem_cons_self ..)) (by unfold begins;simpa using h3)
    rw [if_pos h3,if_neg (by omega),if_pos (by unfold begins;simpa using h3),hm,Int.toNat_natCast]
    have:=hs m hfm hmn
    simp only
    omega
   · rw [if_neg h3]
    split
    · simp only;omega
    · rw [if_neg (by unfold begins;simpa using h3)];omega
  omega
theorem wf_frames {fs : List (List Ins)} {nr : Nat} (hok : FsOk fs nr) (hl10 : ∀ l ∈ fs,l.length ≤ 10) : ∀ (k f d : Nat),k ≤ fs.length → fs.length - k ≤ f → f < fs.length → fs.length ≤ f + d → wf fs d f + 4 ≤ 14 * (sizeF fs k f).1
 | 0,f,_,_,h1,h2,_=>by omega
 | k + 1,f,d,hk,h1,h2,hd=>by
  obtain ⟨l,hl⟩ : ∃ l,fs[f]? = some l:=⟨_,List.getElem?_eq_getElem h2⟩
  by_cases hf : f = fs.length - 1 - k
  · cases d with
   | zero=>omega
   | succ d =>
    rw [sizeF_step hf hl,if_pos rfl,wf,hl]
    have:=cost_fold (C:=sizeF fs k) (sub:=wf fs d) (n:=fs.length) (nr:=nr) (f:=f) (fun g hg hgl=>wf_frames hok hl10 k g d (by omega) (by omega) hgl (by omega)) l (1,0) (fun i hi=>(hok f l hl i hi).1)
    have hle:=hl10 l (List.mem_of_getElem? hl)
    simp only [Option.getD_some]
    omega
  · rw [sizeF_step rfl (List.getElem?_eq_getElem (by omega)),if_neg hf]
   exact wf_frames hok hl10 k f d (by omega) (by omega) h2 hd
theorem far_start {fs : List (List Ins)} {nr : Nat} (hok : FsOk fs nr) (hl10 : ∀ l ∈ fs,l.length ≤ 10) (h0 : 0 < fs.length) (workers : Nat) (seed x : Int) : far fs (start fs workers seed x) [(some 0,[0])] + 2 ≤ 14 * framesF fs:=by
 have h1:=wf_frames hok hl10 fs.length 0 (fs.length + 1) (Nat.le_refl _) (by omega) h0 (by omega)
 have h2 : todo fs (start fs workers seed x) = wf fs (fs.length + 1) 0:=by
  unfold todo start wT
  simp only [List.map_cons,List.map_nil,List.sum_cons,List.sum_nil,Nat.add_zero]
  rfl
 have h3 : busy (start fs workers seed x) = 1:=by
  unfold busy start
  have : ∀ n,((List.replicate n wk0).map wK).sum = 0:=fun n=>by
   induction n with
   | zero=>rfl
   | succ n ih=>rw [List.replicate_succ,List.map_cons,List.sum_cons,ih];rfl
  simp only [List.map_cons,List.sum_cons,this]
  rfl
 have h4 : mass [((some 0,[0]) : Th)] = 1:=rfl
 unfold far framesF
 omega
theorem valsZ_who (reds : List Int) : ∀ (l l' : List Ev) (V : Nat → Val),l.length = l'.length → (∀ (p : Nat) (e e' : Ev),l[p]? = some e → l'[p]? = some e' → e.r = e'.r ∧ e.n = e'.n) → l.foldl (putZ reds) V = l'.foldl (putZ reds) V
 | [],[],_,_,_=>rfl
 | [],_ :: _,_,h,_=>by simp at h
 | _ :: _,[],_,h,_=>by simp at h
 | e :: l,e' :: l',V,h,hp=>by
  obtain ⟨h1,h2⟩:=hp 0 e e' rfl rfl
  have hV : putZ reds V e = putZ reds V e':=by unfold putZ;rw [h1,h2]
  simp only [List.foldl_cons]
  rw [hV]
  exact valsZ_who reds l l' _ (by simpa using h) fun p a a' ha ha'=>hp (p + 1) a a' (by simpa using ha) (by simpa using ha')
section
variable (fs : List (List Ins)) (workers : Nat) (script : List (Int × Int)) (seed x : Int)
def Rs.ev (w : Nat) : Rs → List Ev
 | .gave r n _=>[⟨w,r,n⟩]
 | _=>[]
def Rs.put (w : Nat) (o : List Ev) : Rs → List Ev
 | .gave r n p=>o.set p ⟨w,r,n⟩
 | _=>o
def Rs.steal : Rs → Nat
 | .stole=>1
 | _=>0
def Rs.fail : Rs → Nat
 | .failed=>1
 | _=>0
def trAt : Nat → List Ev
 | 0=>[]
 | k + 1=>trAt k ++ (rsAt fs workers script seed x k).ev (turnM workers script k).1
def ordAt : Nat → List Ev
 | 0=>List.replicate (gift fs 0) ⟨0,0,0⟩
 | k + 1=>(rsAt fs workers script seed x k).put (turnM workers script k).1 (ordAt k)
def stealsAt : Nat → Nat
 | 0=>0
 | k + 1=>stealsAt k + (rsAt fs workers script seed x k).steal
def failsAt : Nat → Nat
 | 0=>0
 | k + 1=>failsAt k + (rsAt fs workers script seed x k).fail
def Ends (n : Nat) : Prop:=rsAt fs workers script seed x n = .done ∧ ∀ j,j < n → rsAt fs workers script seed x j ≠ .done
end
section
variable {fs : List (List Ins)} {workers : Nat} {script : List (Int × Int)} {seed x : Int}
theorem Ends.one {n m : Nat} (h : Ends fs workers script seed x n) (h' : Ends fs workers script seed x m) : n = m:=by
 rcases Nat.lt_trichotomy n m with g | g | g
 · exact absurd h.1 (h'.2 n g)
 · exact g
 · exact absurd h'.1 (h.2 m g)
theorem ordAt_len (k : Nat) : (ordAt fs workers script seed x k).length = gift fs 0:=by
 induction k with
 | zero=>simp [ordAt]
 | succ k ih =>
  rw [ordAt]
  cases rsAt fs workers script seed x k <;> simp only [Rs.put,List.length_set] <;> exact ih
theorem ordAt_pl {T : List Ev} {n : Nat} (hg : ∀ j,j < n → ∀ r m p,rsAt fs workers script seed x j = .gave r m p → T[p]? = some ⟨0,r,m⟩) : ∀ k,k ≤ n → ∀ p e,p ∈ plAt fs workers script seed x k → (ordAt fs workers script seed x k)[p]? = some e → ∃ e',T[p]? = some e' ∧ e'.r = e.r ∧ e'.n = e.n
 | 0,_,p,e,hp,_=>by simp [plAt,evAt,runM] at hp
 | k + 1,hk,p,e,hp,he=>by
  have ih:=ordAt_pl hg k (by omega)
  rw [plAt_succ] at hp
  rw [ordAt] at he
  cases hr : rsAt fs workers script seed x k with
  | gave r m q =>
   rw [hr] at hp he
   simp only [Rs.put,Rs.places] at hp he
   have hT:=hg k (by omega) r m q hr
   rw [List.getElem?_set] at he
   by_cases e1 : q = p
   · rw [if_pos e1] at he
    split at he
    · injection he with he
     rw [← he,← e1]
     exact ⟨_,hT,rfl,rfl⟩
    · cases he
   · rw [if_neg e1] at he
    refine ih p e ?_ he
    rcases List.mem_append.1 hp with hp | hp
    · exact hp
    · exact absurd (List.mem_singleton.1 hp).symm e1
  | went=>rw [hr] at hp he;exact ih p e (by simpa [Rs.places] using hp) he
  | stole=>rw [hr] at hp he;exact ih p e (by simpa [Rs.places] using hp) he
  | failed=>rw [hr] at hp he;exact ih p e (by simpa [Rs.places] using hp) he
  | done=>rw [hr] at hp he;exact ih p e (by simpa [Rs.places] using hp) he
theorem run_told {nr : Nat} (hok : FsOk fs nr) (hl10 : ∀ l ∈ fs,l.length ≤ 10) (hw : 1 ≤ workers) (h0 : 0 < fs.length) (script : List (Int × Int)) (seed x : Int) :
  ∃ n,n < script.length + 14 * framesF fs * workers ∧ Ends fs workers script seed x n ∧ ∀ reds,valsZ reds (ordAt fs workers script seed x n) = valsZ reds (ser fs fs.length 0 x seed):=by
 obtain ⟨n,h1,h2,h3,h4,h5,h6⟩:=run_whole hok hl10 hw h0 script seed x
 have hf:=far_start hok hl10 h0 workers seed x
 refine ⟨n,?_,⟨h2,h3⟩,fun reds=>?_⟩
 · refine Nat.lt_of_lt_of_le h1 (Nat.add_le_add_left (Nat.mul_le_mul_right _ (by omega)) _)
 · have hlen : (ordAt fs workers script seed x n).length = (ser fs fs.length 0 x seed).length:=by rw [ordAt_len,gift_len hok h0]
  refine valsZ_who reds _ _ _ hlen fun p e e' he he'=>?_
  have hp : p < (ser fs fs.length 0 x seed).length:=by
   rcases Nat.lt_or_ge p (ser fs fs.length 0 x seed).length with g | g
   · exact g
   · rw [List.getElem?_eq_none g] at he';cases he'
  have hm : p ∈ plAt fs workers script seed x n:=h5.mem_iff.2 (by rw [List.mem_range'_1];omega)
  obtain ⟨e2,k1,k2,k3⟩:=ordAt_pl h6 n (Nat.le_refl _) p e hm he
  rw [he'] at k1
  injection k1 with k1
  rw [k1]
  exact ⟨k2.symm,k3.symm⟩
end
end Go.Proofs.YtkmakliebhnhbaaGreat
