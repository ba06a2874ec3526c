import PyProof.Rows.All
import Wide.All
import OpenK.AllK
import Wide.FinOn
import HandS.Base
import HandS.Call
import HandS.List
import HandS.Comp
import HandS.Ends
import HandS.EndBits
import HandS.Dict
import HandS.Iter
import HandS.Text
import HandS.Words
import HandS.WordsList
import HandS.Wide
import HandS.Zip
import HandS.Conv
import HandS.Strs
import HandS.NoneIn
import HandS.IsInst
import HandS.Walk
import HandS.TupAny
import HandS.TupMul
import HandS.Codes
import HandS.More
import HandS.WordsDict
import HandS.TupLe
import HandS.SetKeys
import KE.KDictPairs
import KE.GoesMore
import PyProof.ReprRoads
import PySem.Challenge.RW_madesure_k03_least_sizes_and_ends
import HandS.RaiseMore
import HandS.Style
set_option Elab.async false
set_option maxRecDepth 100000
set_option linter.all false
namespace Md
open PySem PySem.Spec PyProof.Rows L2

/-! ### what a call leaves alone -/
structure Kp (S : List Addr) (H H' : Hp) : Prop where
  old : ∀ b o, H b = some o → b ∉ S → H' b = some o
  tup : ∀ b xs, H b = some (.tup xs) → H' b = some (.tup xs)
  frz : ∀ b o u, H b = some (.frz o u) → H' b = some (.frz o u)
section
variable {K : PySem.W.Frag} {S T : List Addr} {H H1 H2 : Hp} {a p : Addr} {xs : List V} {o : HO}
theorem Kp.refl : Kp S H H := ⟨fun _ _ h _ => h, fun _ _ h => h, fun _ _ _ h => h⟩
theorem Kp.trans (x : Kp S H H1) (y : Kp S H1 H2) : Kp S H H2 :=
  ⟨fun b o h n => y.old b o (x.old b o h n) n, fun b xs h => y.tup b xs (x.tup b xs h), fun b o u h => y.frz b o u (x.frz b o u h)⟩
theorem Kp.mono (x : Kp S H H1) (h : ∀ b ∈ S, b ∈ T) : Kp T H H1 := ⟨fun b o e n => x.old b o e fun z => n (h b z), x.tup, x.frz⟩
theorem Kp.new (h : H p = none) : Kp S H (upd H p o) :=
  ⟨fun b u e _ => by rw [upd_ne (ne_of_none e h)]; exact e, fun b u e => by rw [upd_ne (ne_of_none e h)]; exact e, fun b u w e => by rw [upd_ne (ne_of_none e h)]; exact e⟩
theorem Kp.wr (h : H p = some (.lst xs)) (m : p ∈ S) : Kp S H (upd H p o) :=
  ⟨fun b u e n => by rw [upd_ne (fun z : b = p => n (by rw [z]; exact m))]; exact e, fun b u e => by rw [upd_ne (ne_of e h (by intro z; cases z))]; exact e,
   fun b u w e => by rw [upd_ne (ne_of e h (by intro z; cases z))]; exact e⟩
theorem Kp.wrD {kvs : List (Key × V)} (h : H p = some (.dK kvs)) (m : p ∈ S) : Kp S H (upd H p o) :=
  ⟨fun b u e n => by rw [upd_ne (fun z : b = p => n (by rw [z]; exact m))]; exact e, fun b u e => by rw [upd_ne (ne_of e h (by intro z; cases z))]; exact e,
   fun b u w e => by rw [upd_ne (ne_of e h (by intro z; cases z))]; exact e⟩
theorem Kp.new' (x : Kp S H H1) (h : H1 p = none) : Kp S H (upd H1 p o) := x.trans (Kp.new h)
/-- what was not there may be written freely -/
theorem Kp.own (x : Kp S H H1) (h : H p = none) : Kp S H (upd H1 p o) :=
  ⟨fun b u e n => by rw [upd_ne (ne_of_none e h)]; exact x.old b u e n, fun b u e => by rw [upd_ne (ne_of_none e h)]; exact x.tup b u e,
   fun b u w e => by rw [upd_ne (ne_of_none e h)]; exact x.frz b u w e⟩
/-- .. by a call that writes it -/
theorem Kp.sub (x : Kp S H H1) (y : Kp T H1 H2) (h : ∀ b ∈ T, b ∈ S ∨ H b = none) : Kp S H H2 :=
  ⟨fun b o e n => y.old b o (x.old b o e n) fun z => (h b z).elim n fun q => (by rw [e] at q; cases q), fun b xs e => y.tup b xs (x.tup b xs e), fun b o u e => y.frz b o u (x.frz b o u e)⟩
theorem Kp.free (x : Kp S H H1) (h : H1 p = none) (m : p ∉ S) : H p = none := by
  cases e : H p with
  | none => rfl
  | some o => rw [x.old p o e m] at h; cases h
theorem Kp.sqt (x : Kp S H H1) (h : SqT K H a xs) : SqT K H1 a xs := by
  rcases h with (h | ⟨o, h⟩) | h
  · exact .inl (.inl (x.tup _ _ h))
  · exact .inl (.inr ⟨o, x.frz _ _ _ h⟩)
  · exact .inr h
theorem Kp.sql (x : Kp S H H1) (h : SqL K H a xs) (m : a ∉ S) : SqL K H1 a xs := by
  rcases h with (h | ⟨o, h⟩) | h
  · exact .inl (.inl (x.old _ _ h m))
  · exact .inl (.inr ⟨o, x.frz _ _ _ h⟩)
  · exact .inr h
end
/-! ### the pot of drawn numbers -/
def PotOk (H : Hp) (p : Addr) (n : Nat) : Prop := ∃ x y z : Int, H p = some (.lst [.int x, .int y, .int z]) ∧ 0 ≤ x ∧ 0 ≤ y ∧ y < 2305843009213693951 ∧ 0 ≤ z ∧ z ≤ n
def spTake : Sp := fun vs H Q _ => ∃ (p : Addr) (m : Int) (n : Nat), vs = [.ref p, .int m] ∧ PotOk H p n ∧ 0 < m ∧ m < 1073741824 ∧ n ≤ 1000000 ∧
  ∀ (r : Int) (H' : Hp), 0 ≤ r → r < m → PotOk H' p (n + 1) → Kp [p] H H' → Q (.int r) H'

/-! ### comprehensions -/
section
variable {J : It} {n : Nat} {G : Hp → Prop} {Y : Nat → Hp → V → Hp → Prop} {S : List Addr} {D : Addr} {H : Hp} {g : TG} {tt : TT} {te : TE} {vs : List Nat} {σ : L2.St} {Qd : Hp → Prop}
/-- a comprehension whose items are plain values: out i is the i-th one's, or none where it is left out -/
theorem lcW (wk : Walk J n G Y) (out : Nat → Option V) (hD : H D = none) (hS : D ∉ S) (hz : n < sizeLine) (hG : ∀ H', Kp S H H' → G H')
    (hs : ∀ i x H' H'' (C : V → Hp → Prop) (N : Hp → Prop), i < n → Kp S H H' → Y i H' x H'' → (∀ y H4, Kp S H' H4 → out i = some y → C y H4) → (∀ H4, Kp S H' H4 → out i = none → N H4) →
      g x (wipe σ vs) H'' fun σ2 H2 => wipe σ2 vs = wipe σ vs ∧ tt σ2 H2 fun b H3 => if b = true then te σ2 H3 C else N H3)
    (hd : ∀ H', Kp S H H' → H' D = some (.lst ((List.range n).filterMap out)) → Qd H') :
    ∃ W : Nat → Nat → Hp → Prop, (∃ m, W 0 m (upd H D (.lst []))) ∧ ∀ i m H, W i m H → (J.stop i H ∧ Qd H) ∨ (J.go i H ∧ ∃ Nx : Hp → Prop, (∀ H', Nx H' → ∃ m', m' < m ∧ W (i + 1) m' H') ∧
      ∀ x H', J.yld i H x H' → g x (wipe σ vs) H' fun σ2 H2 => wipe σ2 vs = wipe σ vs ∧ tt σ2 H2 fun b H3 => if b = true then te σ2 H3 fun y H4 => ∃ acc, H4 D = some (.lst acc) ∧ acc.length < sizeLine ∧ Nx (upd H4 D (.lst (acc ++ [y]))) else Nx H3) := by
  have len : ∀ i, ((List.range i).filterMap out).length ≤ i := fun i => Nat.le_trans (List.length_filterMap_le _ _) (by rw [List.length_range]; exact Nat.le_refl _)
  refine lc_it wk (fun i H' => Kp S H H' ∧ H' D = some (.lst ((List.range i).filterMap out))) ⟨Kp.new hD, upd_same⟩ (fun i H' _ p => hG H' p.1) ?_ (fun H' p => hd H' p.1 p.2)
  intro i x H' H'' hi p y
  refine hs i x H' H'' _ _ hi p.1 y (fun v H4 k e => ⟨_, k.old _ _ p.2 hS, Nat.lt_of_le_of_lt (len i) (by omega), (p.1.trans k).own hD, ?_⟩) (fun H4 k e => ⟨p.1.trans k, ?_⟩)
  · rw [upd_same, List.range_succ, List.filterMap_append]; simp [e]
  · rw [k.old _ _ p.2 hS, List.range_succ, List.filterMap_append]; simp [e]
/-- .. whose items are objects: R tells of each what it is -/
theorem lcR (wk : Walk J n G Y) (R : Nat → V → Hp → Prop) (mono : ∀ i y H1 H2 T, Kp T H1 H2 → R i y H1 → R i y H2) (hD : H D = none) (hS : D ∉ S) (hz : n < sizeLine) (hG : ∀ H', Kp S H H' → G H')
    (hs : ∀ i x H' H'' (C : V → Hp → Prop), i < n → Kp S H H' → Y i H' x H'' → (∀ y H4, Kp S H' H4 → R i y H4 → C y H4) → g x (wipe σ vs) H'' fun σ2 H2 => wipe σ2 vs = wipe σ vs ∧ te σ2 H2 C)
    (hd : ∀ H' ys, Kp S H H' → H' D = some (.lst ys) → ys.length = n → (∀ i y, ys[i]? = some y → R i y H') → Qd H') :
    ∃ W : Nat → Nat → Hp → Prop, (∃ m, W 0 m (upd H D (.lst []))) ∧ ∀ i m H, W i m H → (J.stop i H ∧ Qd H) ∨ (J.go i H ∧ ∃ Nx : Hp → Prop, (∀ H', Nx H' → ∃ m', m' < m ∧ W (i + 1) m' H') ∧
      ∀ x H', J.yld i H x H' → g x (wipe σ vs) H' fun σ2 H2 => wipe σ2 vs = wipe σ vs ∧ tYes σ2 H2 fun b H3 => if b = true then te σ2 H3 fun y H4 => ∃ acc, H4 D = some (.lst acc) ∧ acc.length < sizeLine ∧ Nx (upd H4 D (.lst (acc ++ [y]))) else Nx H3) := by
  have sub : ∀ (A B : Prop), A → (if true = true then A else B) := fun A B a => by rw [if_pos rfl]; exact a
  refine lc_it wk (fun i H' => Kp S H H' ∧ ∃ ys : List V, H' D = some (.lst ys) ∧ ys.length = i ∧ ∀ j y, ys[j]? = some y → R j y H') ⟨Kp.new hD, [], upd_same, rfl, fun j y e => by simp at e⟩ (fun i H' _ p => hG H' p.1) ?_ (fun H' p => ?_)
  · intro i x H' H'' hi p y
    obtain ⟨p1, ys, p2, p3, p4⟩ := p
    have q := hs i x H' H'' (fun y H4 => ∃ acc, H4 D = some (.lst acc) ∧ acc.length < sizeLine ∧ (Kp S H (upd H4 D (.lst (acc ++ [y]))) ∧ ∃ ys : List V, upd H4 D (.lst (acc ++ [y])) D = some (.lst ys) ∧ ys.length = i + 1 ∧ ∀ j z, ys[j]? = some z → R j z (upd H4 D (.lst (acc ++ [y]))))) hi p1 y
      (fun v H4 k e => ⟨ys, k.old _ _ p2 hS, by omega, (p1.trans k).own hD, ys ++ [v], upd_same, by simp [p3], fun j z ez => ?_⟩)
    · exact q
    · have kd : Kp (D :: S) H4 (upd H4 D (.lst (ys ++ [v]))) := Kp.wr (k.old _ _ p2 hS) (by simp)
      by_cases hj : j < ys.length
      · rw [List.getElem?_append_left hj] at ez
        exact mono j z _ _ _ kd (mono j z _ _ _ k (p4 j z ez))
      · have hj2 : j = ys.length := by
          have := (List.getElem?_eq_some_iff.mp ez).1
          rw [List.length_append] at this
          simp at this
          omega
        subst hj2
        rw [List.getElem?_append_right (Nat.le_refl _)] at ez
        simp at ez
        subst ez
        rw [p3]
        exact mono i v _ _ _ kd e
  · obtain ⟨p1, ys, p2, p3, p4⟩ := p
    exact hd H' ys p1 p2 p3 p4
end

section
variable {J : It} {n : Nat} {G : Hp → Prop} {Y : Nat → Hp → V → Hp → Prop} {S : List Addr} {D : Addr} {H H0 : Hp} {g : TG} {tt : TT} {te : TE} {vs : List Nat} {σ : L2.St} {Qd : Hp → Prop} {B : L2.St → Hp → (Hp → Prop) → Prop}
/-- the outer loop of a comprehension of two: outs i is what stands there behind i of its items -/
theorem lcO (wk : Walk J n G Y) (outs : Nat → List V) (h0 : outs 0 = []) (hD : H D = none) (hG : ∀ H', Kp S H H' → G H')
    (hs : ∀ i x H' H'', i < n → Kp S H H' → H' D = some (.lst (outs i)) → Y i H' x H'' → g x (wipe σ vs) H'' fun σ2 H2 => wipe σ2 vs = wipe σ vs ∧ tt σ2 H2 fun b H3 =>
      if b = true then B σ2 H3 (fun H4 => Kp S H H4 ∧ H4 D = some (.lst (outs (i + 1)))) else Kp S H H3 ∧ H3 D = some (.lst (outs (i + 1))))
    (hd : ∀ H', Kp S H H' → H' D = some (.lst (outs n)) → Qd H') :
    ∃ W : Nat → Nat → Hp → Prop, (∃ m, W 0 m (upd H D (.lst []))) ∧ ∀ i m H, W i m H → (J.stop i H ∧ Qd H) ∨ (J.go i H ∧ ∃ Nx : Hp → Prop, (∀ H', Nx H' → ∃ m', m' < m ∧ W (i + 1) m' H') ∧
      ∀ x H', J.yld i H x H' → g x (wipe σ vs) H' fun σ2 H2 => wipe σ2 vs = wipe σ vs ∧ tt σ2 H2 fun b H3 => if b = true then B σ2 H3 Nx else Nx H3) := by
  refine ⟨fun i m H' => m = n - i ∧ i ≤ n ∧ Kp S H H' ∧ H' D = some (.lst (outs i)), ⟨n, by simp, Nat.zero_le _, Kp.new hD, by rw [h0]; exact upd_same⟩, ?_⟩
  rintro i m H' ⟨rfl, hi, p, e⟩
  by_cases hlt : i < n
  · refine .inr ⟨wk.goes i H' hlt (hG H' p), fun H4 => Kp S H H4 ∧ H4 D = some (.lst (outs (i + 1))), fun H4 z => ⟨n - (i + 1), by omega, rfl, hlt, z.1, z.2⟩, fun x H'' y => ?_⟩
    exact hs i x H' H'' hlt p e (wk.yields i H' x H'' hlt (hG H' p) y)
  · have e' : i = n := by omega
    subst e'
    exact .inl ⟨wk.stops H' (hG H' p), hd H' p e⟩
/-- its inner loop, from acc on -/
theorem lcI (wk : Walk J n G Y) (out : Nat → Option V) (acc0 : List V) (hD : H D = none) (hS : D ∉ S) (k0 : Kp S H H0) (hacc : H0 D = some (.lst acc0)) (hz : acc0.length + n < sizeLine) (hG : ∀ H', Kp S H H' → G H')
    (hs : ∀ i x H' H'' (C : V → Hp → Prop) (N : Hp → Prop), i < n → Kp S H H' → Y i H' x H'' → (∀ y H4, Kp S H' H4 → out i = some y → C y H4) → (∀ H4, Kp S H' H4 → out i = none → N H4) →
      g x (wipe σ vs) H'' fun σ2 H2 => wipe σ2 vs = wipe σ vs ∧ tt σ2 H2 fun b H3 => if b = true then te σ2 H3 C else N H3)
    (hd : ∀ H', Kp S H H' → H' D = some (.lst (acc0 ++ (List.range n).filterMap out)) → Qd H') :
    ∃ W : Nat → Nat → Hp → Prop, (∃ m, W 0 m H0) ∧ ∀ i m H, W i m H → (J.stop i H ∧ Qd H) ∨ (J.go i H ∧ ∃ Nx : Hp → Prop, (∀ H', Nx H' → ∃ m', m' < m ∧ W (i + 1) m' H') ∧
      ∀ x H', J.yld i H x H' → g x (wipe σ vs) H' fun σ2 H2 => wipe σ2 vs = wipe σ vs ∧ tt σ2 H2 fun b H3 => if b = true then te σ2 H3 fun y H4 => ∃ acc, H4 D = some (.lst acc) ∧ acc.length < sizeLine ∧ Nx (upd H4 D (.lst (acc ++ [y]))) else Nx H3) := by
  have len : ∀ i, ((List.range i).filterMap out).length ≤ i := fun i => Nat.le_trans (List.length_filterMap_le _ _) (by rw [List.length_range]; exact Nat.le_refl _)
  refine ⟨fun i m H' => m = n - i ∧ i ≤ n ∧ Kp S H H' ∧ H' D = some (.lst (acc0 ++ (List.range i).filterMap out)), ⟨n, by simp, Nat.zero_le _, k0, by simpa using hacc⟩, ?_⟩
  rintro i m H' ⟨rfl, hi, p, e⟩
  by_cases hlt : i < n
  · refine .inr ⟨wk.goes i H' hlt (hG H' p), fun H4 => Kp S H H4 ∧ H4 D = some (.lst (acc0 ++ (List.range (i + 1)).filterMap out)), fun H4 z => ⟨n - (i + 1), by omega, rfl, hlt, z.1, z.2⟩, fun x H'' y => ?_⟩
    refine hs i x H' H'' _ _ hlt p (wk.yields i H' x H'' hlt (hG H' p) y) (fun v H4 k ev => ⟨_, k.old _ _ e hS, ?_, (p.trans k).own hD, ?_⟩) (fun H4 k ev => ⟨p.trans k, ?_⟩)
    · rw [List.length_append]
      have := len i
      omega
    · rw [upd_same, List.range_succ, List.filterMap_append]; simp [ev]
    · rw [k.old _ _ e hS, List.range_succ, List.filterMap_append]; simp [ev]
  · have e' : i = n := by omega
    subst e'
    exact .inl ⟨wk.stops H' (hG H' p), hd H' p e⟩
end
/-! ### a def of the text where the top has left it -/
structure DefAt (K : PySem.W.Frag) (mg : Str → Option Value) (x : Str) (st : Stmt) (ps : List Str) : Prop where
  ex : ∃ (f : Addr) (fd : FuncData), Fun K x x st f fd ∧ mg x = some (.ref f) ∧ Binds K fd ps []
theorem DefAt.cal {P : Program} {w : World} {K : PySem.W.Frag} {mg : Str → Option Value} {base : Heap} {x : Str} {st : Stmt} {N ps : List Str} {k : Nat} {sp : Sp} (D : DefAt K mg x st ps) (S : FnScope N ps (defScope st))
    (len : ∀ vs H Q E, sp vs H Q E → vs.length = ps.length)
    (hbody : ∀ (f : Addr) (cdv : Value) (A : Around) (outer : List Env) (s : Shared) (H : Hp) (vs : List V) (Q : VK) (E : XK), Room k (A.deeper (envOfC x (defScope st) s.heap.objs.size f cdv)) → sp vs H Q E →
      ∃ t, PSs (cxOf CX0 P w K mg base N x (defScope st) f cdv A outer s H E).nox (defBody st) t ∧ t { nx := fun _ H' => Q .non H', rt := Q } (start N vs) H) :
    C8.Cal P w K mg base (k + 1) x sp [] := by
  obtain ⟨f, fd, F, hm, hb⟩ := D.ex
  exact ⟨f, fd, ps, [], F.ok S len (hbody f), hm, F.kp, hb, .nil⟩
theorem h64 {A : Around} {k : Nat} (hr : Room k A) : A.units + 64 < cLine := hr.units
end Md

namespace Md
open PySem PySem.Spec PyProof.Rows L2

/-! ### kinds as plain data -/
abbrev Rw := Str × List Str
abbrev Kd := Str × List Rw
abbrev Kds := List Kd
def kindNames (ks : Kds) : List Str := ks.map (·.1)
def rowsOf (ks : Kds) : List Rw := ks.flatMap (·.2)
def makerNames (ks : Kds) : List Str := (rowsOf ks).map (·.1)
def allNames (ks : Kds) : List Str := kindNames ks ++ makerNames ks
def wordsL : List Str := ["mark", "part", "same", "test", "sum", "not", "both", "either"]
def isName (x : Str) : Bool := decide (1 ≤ x.length) && decide (x.length ≤ 8) && !wordsL.contains x && x.cps.toList.all fun c => decide (97 ≤ c) && decide (c ≤ 122)

/-! ### as they lie in the heap -/
section
variable (K : PySem.W.Frag) (H : Hp)
def StrsT (v : V) (ps : List Str) : Prop := ∃ a, v = V.ref a ∧ SqT K H a (ps.map V.str)
def RowT (v : V) (r : Rw) : Prop := ∃ a q, v = V.ref a ∧ SqT K H a [.str r.1, q] ∧ StrsT K H q r.2
def RowsT (v : V) (rs : List Rw) : Prop := ∃ a vs, v = V.ref a ∧ SqT K H a vs ∧ Paired (RowT K H) vs rs
def KindT (v : V) (k : Kd) : Prop := ∃ a q, v = V.ref a ∧ SqT K H a [.str k.1, q] ∧ RowsT K H q k.2
def KdsT (v : V) (ks : Kds) : Prop := ∃ a vs, v = V.ref a ∧ SqT K H a vs ∧ Paired (KindT K H) vs ks
end
theorem pmap {α β : Type} {F G : α → β → Prop} (f : ∀ a b, F a b → G a b) {l₁ : List α} {l₂ : List β} (h : Paired F l₁ l₂) : Paired G l₁ l₂ := Paired.mapP h f
theorem pget {α β : Type} {F : α → β → Prop} : ∀ {l₁ : List α} {l₂ : List β}, Paired F l₁ l₂ → ∀ {i : Nat} {a : α}, l₁[i]? = some a → ∃ b, l₂[i]? = some b ∧ F a b
  | _, _, .nil, _, _, e => by simp at e
  | _, _, .cons r t, 0, a, e => by simp at e; subst e; exact ⟨_, rfl, r⟩
  | _, _, .cons r t, i + 1, a, e => by
    obtain ⟨b, h1, h2⟩ := pget t (i := i) (a := a) (by simpa using e)
    exact ⟨b, by simpa using h1, h2⟩
theorem plen {α β : Type} {F : α → β → Prop} {l₁ : List α} {l₂ : List β} (h : Paired F l₁ l₂) : l₁.length = l₂.length := Paired.length h
section
variable {K : PySem.W.Frag} {S : List Addr} {H H' : Hp} {v : V}
theorem StrsT.kp {ps : List Str} (k : Kp S H H') (h : StrsT K H v ps) : StrsT K H' v ps := let ⟨a, e, q⟩ := h; ⟨a, e, k.sqt q⟩
theorem RowT.kp {r : Rw} (k : Kp S H H') (h : RowT K H v r) : RowT K H' v r := let ⟨a, q, e, x, y⟩ := h; ⟨a, q, e, k.sqt x, y.kp k⟩
theorem RowsT.kp {rs : List Rw} (k : Kp S H H') (h : RowsT K H v rs) : RowsT K H' v rs := let ⟨a, vs, e, x, y⟩ := h; ⟨a, vs, e, k.sqt x, pmap (fun _ _ z => z.kp k) y⟩
theorem KindT.kp {d : Kd} (k : Kp S H H') (h : KindT K H v d) : KindT K H' v d := let ⟨a, q, e, x, y⟩ := h; ⟨a, q, e, k.sqt x, y.kp k⟩
theorem KdsT.kp {ks : Kds} (k : Kp S H H') (h : KdsT K H v ks) : KdsT K H' v ks := let ⟨a, vs, e, x, y⟩ := h; ⟨a, vs, e, k.sqt x, pmap (fun _ _ z => z.kp k) y⟩
end

/-! ### least sizes: the very rounds of the program -/
abbrev Szs := List (Str × Int)
def lookS (S : Szs) (x : Str) : Option Int := S.lookup x
def putS (S : Szs) (x : Str) (n : Int) : Szs := if S.any (fun p => decide (p.1 = x)) = true then S.map (fun p => if p.1 = x then (p.1, n) else p) else S ++ [(x, n)]
def sizeMade (S : Szs) (ps : List Str) : Int := 1 + (ps.map fun p => (lookS S p).getD 0).sum
def foundS (S : Szs) (rs : List Rw) : List Int := rs.filterMap fun r => if r.2.all (fun p => (lookS S p).isSome) = true then some (sizeMade S r.2) else none
def minL : List Int → Int
  | [] => 0
  | [a] => a
  | a :: b :: r => min a (minL (b :: r))
def stepK (S : Szs) (k : Kd) : Szs := if foundS S k.2 = [] then S else putS S k.1 (minL (foundS S k.2))
def roundK (ks : Kds) (S : Szs) : Szs := ks.foldl stepK S
def sizes0 : Szs := [("mark", 1)]
def sizesN (ks : Kds) : Nat → Szs
  | 0 => sizes0
  | n + 1 => roundK ks (sizesN ks n)
def leastS (ks : Kds) : Szs := sizesN ks ks.length

/-! ### good kinds -/
structure GoodK (ks : Kds) : Prop where
  l1 : 1 ≤ ks.length
  l5 : ks.length ≤ 5
  kn : ∀ k ∈ ks, isName k.1 = true
  m1 : ∀ k ∈ ks, 1 ≤ k.2.length
  m4 : ∀ k ∈ ks, k.2.length ≤ 4
  mn : ∀ k ∈ ks, ∀ r ∈ k.2, isName r.1 = true
  p3 : ∀ k ∈ ks, ∀ r ∈ k.2, r.2.length ≤ 3
  ps : ∀ k ∈ ks, ∀ r ∈ k.2, ∀ p ∈ r.2, p = "mark" ∨ p ∈ kindNames ks
  nd : (allNames ks).Nodup
  rk : ∃ rank : Str → Nat, ∀ k ∈ ks, rank k.1 < ks.length ∧ ∃ r ∈ k.2, ∀ p ∈ r.2, p = "mark" ∨ (p ∈ kindNames ks ∧ rank p < rank k.1)

def dictS (S : Szs) : List (Key × V) := S.map fun p => (Sum.inr p.1, V.int p.2)
theorem dictS_val (S : Szs) (x : Str) : valV (dictS S) (Sum.inr x : Key) = (lookS S x).map V.int := by
  induction S with
  | nil => rfl
  | cons p r ih =>
    obtain ⟨y, n⟩ := p
    by_cases e : y = x
    · subst e
      rw [show dictS ((y, n) :: r) = (Sum.inr y, V.int n) :: dictS r from rfl, valV_pos (by rfl)]
      simp [lookS, List.lookup]
    · rw [show dictS ((y, n) :: r) = (Sum.inr y, V.int n) :: dictS r from rfl, valV_neg (by intro z; exact e (Sum.inr.inj z)), ih]
      have : (x == y) = false := by simpa using fun z : x = y => e z.symm
      simp [lookS, List.lookup, this]
theorem dictS_put (S : Szs) (x : Str) (n : Int) : putK (dictS S) (Sum.inr x : Key) (V.int n) = dictS (putS S x n) := by
  have e1 : ((dictS S).any fun kv => decide (kv.1 = (Sum.inr x : Key))) = S.any fun p => decide (p.1 = x) := by
    unfold dictS
    rw [List.any_map]
    congr 1
    funext p
    show decide ((Sum.inr p.1 : Key) = Sum.inr x) = _
    exact key_rr _ _
  unfold putK putS
  rw [e1]
  split
  · unfold dictS
    rw [List.map_map, List.map_map]
    refine List.map_congr_left fun p _ => ?_
    by_cases e : p.1 = x
    · simp [e]
    · have e' : ¬ (Sum.inr p.1 : Key) = Sum.inr x := fun z => e (Sum.inr.inj z)
      simp [e, e']
  · simp [dictS]
theorem lookS_put (S : Szs) (x y : Str) (n : Int) : lookS (putS S x n) y = if y = x then some n else lookS S y := by
  have h := valV_put (dictS S) (Sum.inr x : Key) (Sum.inr y) (V.int n)
  rw [dictS_put, dictS_val, dictS_val] at h
  by_cases e : y = x
  · subst e
    rw [if_pos rfl] at h ⊢
    cases q : lookS (putS S y n) y with
    | none => rw [q] at h; cases h
    | some m => rw [q] at h; cases h; rfl
  · have e' : ¬ (Sum.inr y : Key) = Sum.inr x := fun z => e (Sum.inr.inj z)
    rw [if_neg e'] at h
    rw [if_neg e]
    cases q : lookS (putS S x n) y <;> cases q2 : lookS S y <;> rw [q, q2] at h
    · cases h
    · cases h
    · cases h; rfl
theorem putS_len (S : Szs) (x : Str) (n : Int) : (putS S x n).length ≤ S.length + 1 := by
  unfold putS
  split
  · rw [List.length_map]; omega
  · rw [List.length_append]; exact Nat.le_refl _
/-- a name that is there stays -/
theorem stepK_mono (S : Szs) (k : Kd) (x : Str) (h : (lookS S x).isSome = true) : (lookS (stepK S k) x).isSome = true := by
  unfold stepK
  split
  · exact h
  · rw [lookS_put]
    split
    · rfl
    · exact h
theorem roundK_mono : ∀ (ks : Kds) (S : Szs) (x : Str), (lookS S x).isSome = true → (lookS (roundK ks S) x).isSome = true
  | [], _, _, h => h
  | k :: ks, S, x, h => roundK_mono ks (stepK S k) x (stepK_mono S k x h)
theorem sizesN_mono (ks : Kds) (x : Str) (n : Nat) : ∀ m, (lookS (sizesN ks n) x).isSome = true → (lookS (sizesN ks (n + m)) x).isSome = true
  | 0, h => h
  | m + 1, h => roundK_mono ks _ x (sizesN_mono ks x n m h)
theorem mark_there (ks : Kds) (n : Nat) : (lookS (sizesN ks n) "mark").isSome = true := by
  have h := sizesN_mono ks "mark" 0 n (show (lookS sizes0 "mark").isSome = true by decide +kernel)
  rw [Nat.zero_add] at h
  exact h
theorem stepK_there (S : Szs) (k : Kd) (h : ∃ r ∈ k.2, ∀ p ∈ r.2, (lookS S p).isSome = true) : (lookS (stepK S k) k.1).isSome = true := by
  obtain ⟨r, hr, hp⟩ := h
  unfold stepK
  have ne : foundS S k.2 ≠ [] := by
    intro z
    unfold foundS at z
    have := (List.filterMap_eq_nil_iff.mp z) r hr
    rw [if_pos (List.all_eq_true.mpr fun p hp' => by simpa using hp p hp')] at this
    cases this
  rw [if_neg ne, lookS_put, if_pos rfl]
  rfl
theorem roundK_there : ∀ (ks : Kds) (S : Szs) (k : Kd), k ∈ ks → (∃ r ∈ k.2, ∀ p ∈ r.2, (lookS S p).isSome = true) → (lookS (roundK ks S) k.1).isSome = true
  | [], _, _, h, _ => by cases h
  | k0 :: ks, S, k, h, r => by
    rcases List.mem_cons.mp h with e | h
    · subst e
      exact roundK_mono ks _ _ (stepK_there S k r)
    · exact roundK_there ks _ k h (let ⟨r, hr, hp⟩ := r; ⟨r, hr, fun p q => stepK_mono S k0 p (hp p q)⟩)
theorem trees_there {ks : Kds} (g : GoodK ks) : ∀ k ∈ ks, (lookS (leastS ks) k.1).isSome = true := by
  obtain ⟨rank, hr⟩ := g.rk
  have main : ∀ n, ∀ k ∈ ks, rank k.1 < n → (lookS (sizesN ks n) k.1).isSome = true := by
    intro n
    induction n with
    | zero => intro k _ h; omega
    | succ n ih =>
      intro k hk h
      refine roundK_there ks _ k hk ?_
      obtain ⟨_, r, hr1, hp⟩ := hr k hk
      refine ⟨r, hr1, fun p q => ?_⟩
      rcases hp p q with e | ⟨e1, e2⟩
      · subst e; exact mark_there ks n
      · obtain ⟨k', hk', e⟩ := List.mem_map.mp e1
        subst e
        exact ih k' hk' (by omega)
  intro k hk
  exact main _ k hk (hr k hk).1

/-! ### small things -/
theorem range_bind {α β : Type} (f : α → Option β) : ∀ l : List α, (List.range l.length).filterMap (fun i => (l[i]?).bind f) = l.filterMap f
  | [] => rfl
  | a :: l => by
    rw [List.length_cons, List.range_succ_eq_map, List.filterMap_cons, List.filterMap_map]
    have ih := range_bind f l
    show (match f a with | none => _ | some b => b :: _) = _
    rw [List.filterMap_cons]
    have e : (List.range l.length).filterMap ((fun i => ((a :: l)[i]?).bind f) ∘ Nat.succ) = (List.range l.length).filterMap (fun i => (l[i]?).bind f) := rfl
    rw [e, ih]
    cases f a <;> rfl
theorem range_map {α β : Type} (f : α → β) (l : List α) : (List.range l.length).filterMap (fun i => (l[i]?).map f) = l.map f := by
  have e : (fun (i : Nat) => (l[i]?).map f) = fun (i : Nat) => (l[i]?).bind fun a => some (f a) := by
    funext i
    cases l[i]? <;> rfl
  rw [e, range_bind]
  rw [List.filterMap_eq_map']
theorem iteD {c A B : Prop} [Decidable c] (hc : c) (h : A) : if decide c = true then A else B := by rw [decide_eq_true hc]; exact iteT h
theorem iteDn {c A B : Prop} [Decidable c] (hc : ¬ c) (h : B) : if decide c = true then A else B := by rw [decide_eq_false hc]; exact iteF h
theorem iteB {c : Bool} {A B : Prop} (hc : c = true) (h : A) : if c = true then A else B := by rw [hc]; exact iteT h
theorem iteBn {c : Bool} {A B : Prop} (hc : c = false) (h : B) : if c = true then A else B := by rw [hc]; exact iteF h
theorem inV_strs (x : Str) (ws : List Str) : inV (.str x) (ws.map V.str) = ws.contains x := by
  induction ws with
  | nil => rfl
  | cons a r ih =>
    show (eqV (.str a) (.str x) || inV (.str x) (r.map V.str)) = _
    rw [ih]
    show ((a == x) || r.contains x) = _
    rw [List.contains_cons]
    congr 1
    by_cases e : a = x
    · subst e; simp
    · rw [beq_eq_false_iff_ne.mpr e, beq_eq_false_iff_ne.mpr (Ne.symm e)]
theorem flats (ws : List Str) : (ws.map V.str).all flatV = true := by rw [List.all_map]; exact List.all_eq_true.mpr fun _ _ => rfl
theorem lt_one (c d : Nat) : decide ((⟨#[c]⟩ : Str).cps.toList < (⟨#[d]⟩ : Str).cps.toList) = decide (c < d) := by
  by_cases h : c < d
  · have h1 : [c] < [d] := List.cons_lt_cons_iff.mpr (.inl h)
    rw [decide_eq_true h]
    exact decide_eq_true h1
  · have h1 : ¬ [c] < [d] := fun z => by
      rcases List.cons_lt_cons_iff.mp z with q | ⟨_, q⟩
      · exact h q
      · cases q
    rw [decide_eq_false h]
    exact decide_eq_false h1
end Md

set_option maxHeartbeats 4000000
namespace Md
open PySem PySem.Spec PyProof.Rows L2
section
variable {X : Cx}
/-- a ** b of great whole numbers -/
theorem op_powB : OpR X (binaryOp .Pow) (rI (fun i j => 0 ≤ j ∧ (Builtin.Int.intBits i : Int) * j ≤ 2 ^ 27) fun i j => .int (i ^ j.toNat)) := opI fun _ _ _ _ _ _ _ hc q => pow_int hc.1 hc.2 q
/-- x in d, d a dict -/
def rInDct : R2 := fun x y H Q => ∃ a o, y = .ref a ∧ DGet H a x o ∧ Q (.bl o.isSome) H
theorem op_in_dct (hu : X.A.units + 1 < cLine) : OpR X (compareOp .In) rInDct := by
  intro pins s σ H x y v u Q I rx ry h
  obtain ⟨a, o, rfl, g, q⟩ := h
  cases ry
  exact d_in hu I g rx fun s3 I3 => ⟨.bl o.isSome, H, I3, rfl, q⟩

/-! ### tuples of which also the object is known: such may be handed to dict() -/
/-- a tuple made here, by its very object -/
def TupO (H : Hp) (a : Addr) (xs : List V) : Prop := ∃ o : Obj, H a = some (.frz o (.tup xs)) ∧ o.dict = none
theorem TupO.sq {K : PySem.W.Frag} {H : Hp} {a : Addr} {xs : List V} (h : TupO H a xs) : SqT K H a xs := let ⟨o, e, _⟩ := h; .inl (.inr ⟨o, e⟩)
theorem TupO.kp {S : List Addr} {H H' : Hp} {a : Addr} {xs : List V} (k : Kp S H H') (h : TupO H a xs) : TupO H' a xs := let ⟨o, e, d⟩ := h; ⟨o, k.frz _ _ _ e, d⟩
/-- what is told of a new tuple by its object -/
def NewO (H : Hp) (xs : List V) (Q : VK) : Prop := ∀ (p : Addr) (o : Obj), H p = none → o.dict = none → Q (.ref p) (upd H p (.frz o (.tup xs)))
theorem newO_laid {pins : List (Addr × Obj)} {σ : L2.St} {H : Hp} {s : Shared} {h1 : Heap} {xs : List V} {us : List Value} {n : Nat} {Q : VK} (I : Inv X pins σ H { s with heap := h1 }) (r : Vals xs us) (hz : xs.length ≤ sizeLine) (q : NewO H xs Q) :
    EP X pins σ Q (.ref h1.objs.size) { s with heap := h1.push { cls := .type "tuple", data := .seq us.toArray n } } := by
  have hf : H h1.objs.size = none := I.hok.fresh (Nat.le_refl _)
  refine ⟨.ref h1.objs.size, upd H h1.objs.size (.frz { cls := .type "tuple", data := .seq us.toArray n } (.tup xs)), ?_, rfl, q _ _ hf rfl⟩
  exact I.laid (t' := s.toks) (fun b u e => Heap.get?_push_of_some _ e) (Nat.le_refl _) ⟨Heap.get?_push_size _ rfl, hz, us, r, ⟨_, Heap.get?_push_size _ rfl, rfl, _, rfl⟩⟩
def tTupO (t : TA) : TE := fun σ H Q => t σ H fun xs H1 => xs.length ≤ sizeLine ∧ NewO H1 xs Q
theorem pe_tupO {es : List Expr} {t : TA} {x1} {pos : Pos} (h : PA X es t) : PE X (.Tuple es x1 pos) (tTupO t) := by
  refine ⟨fun pins s σ H Q I hq => ?_⟩
  refine wpAny_Tuple_spliced (thn (h.run pos pins s σ H _ I hq) fun us s1 ⟨xs, H1, I1, r, z, q⟩ => ⟨by rw [← r.length]; exact z, ?_⟩)
  exact newO_laid I1 r z q
theorem call_tupleO : CallR X (.type "tuple") (fun xs H Q => ∃ p ys, xs = [.ref p] ∧ SqL X.K H p ys ∧ NewO H ys Q) := by
  intro pins s σ H xs us Q I r h
  obtain ⟨p, ys, rfl, hq, q⟩ := h
  obtain ⟨u, rfl, rx⟩ := vals1 r
  cases rx
  obtain ⟨its, r', pl, hz⟩ := I.list hq
  have hlen := r'.length
  refine call_tuple_list pl.isList (fun h' kp => ?_) (by simp only [List.size_toArray]; omega)
  exact newO_laid (I.kept (t' := s.toks) kp) r' hz q
/-- t + u of two that are not empty -/
theorem op_catO : OpR X (binaryOp .Add) (fun x y H Q => ∃ a b xs ys, x = .ref a ∧ y = .ref b ∧ SqT X.K H a xs ∧ SqT X.K H b ys ∧ xs ≠ [] ∧ ys ≠ [] ∧ xs.length + ys.length ≤ sizeLine ∧ NewO H (xs ++ ys) Q) := by
  intro pins s σ H x y v u Q I rx ry h
  obtain ⟨a, b, xs, ys, rfl, rfl, ha, hb, hx, hy, hz, q⟩ := h
  cases rx
  cases ry
  obtain ⟨i1, r1, p1, _⟩ := I.tuple ha
  obtain ⟨i2, r2, p2, _⟩ := I.tuple hb
  refine HT.cat_tup p1 p2 (fun z => hx (r1.nil_iff.mp z)) (fun z => absurd (r2.nil_iff.mp z) hy) (fun z => ?_) (by rw [← r1.length, ← r2.length]; exact hz)
  exact newO_laid (h1 := s.heap) (s := s) (I.tok s.toks) (r1.append r2) (by rw [List.length_append]; exact hz) q
/-- dict(t), t a tuple of pairs -/
theorem call_dictT (hcalm : X.calm = true) : CallR X (.type "dict") (fun xs H Q => ∃ (a : Addr) (ps : List Addr) (kvs : List (Key × V)), xs = [.ref a] ∧ TupO H a (ps.map V.ref) ∧ Paired (fun p kv => SqT X.K H p [kV kv.1, kv.2]) ps kvs ∧
    ∀ p, H p = none → Q (.ref p) (upd H p (.dK (mergeK [] kvs)))) := by
  intro pins s σ H xs us Q I r q
  obtain ⟨a, ps, kvs, rfl, ⟨o, ho, hd⟩, hp, q⟩ := q
  obtain ⟨u, rfl, rx⟩ := vals1 r
  cases rx
  obtain ⟨hg, hz, its, rv, ⟨o', ho', hc, n, hdat⟩⟩ := (show ObjOk X.prog X.w H s.heap a (.frz o (.tup (ps.map V.ref))) from I.hok a _ ho)
  rw [hg] at ho'
  cases ho'
  have ei := refs_at rv
  subst ei
  rw [List.length_map] at hz
  obtain ⟨prs, rel, hl, hpr⟩ := pairs_of I hp
  let Ts : Nat → Addr := fun j => ps.getD j 0
  have hu : ∀ (j : Nat) (e : Key × Value), prs[j]? = some e → ∃ u, ps[j]? = some (Ts j) ∧ IsTup s.heap (Ts j) #[u, e.2] ∧ keyIs e.1 u = true := fun j e he => by
    obtain ⟨b, u, h1, h2, h3⟩ := hpr j e he
    have hb : Ts j = b := by show ps.getD j 0 = b; rw [List.getD_eq_getElem?_getD, h1]; rfl
    exact ⟨u, by rw [hb]; exact h1, by rw [hb]; exact h2, h3⟩
  -- the pairs' keys as values
  have keysEx : ∃ ws : List (Value × Value), ws.length = prs.length ∧ ∀ (j : Nat) (e : Key × Value), prs[j]? = some e → ∃ u, ws[j]? = some (u, e.2) ∧ IsTup s.heap (Ts j) #[u, e.2] ∧ keyIs e.1 u = true := by
    refine ⟨(List.range prs.length).map fun j => match prs[j]? with | none => (Value.none, Value.none) | some e => (match s.heap.get? (Ts j) with | some ob => (match ob.data with | .seq it _ => it.getD 0 .none | _ => .none) | none => .none, e.2), by simp, fun j e he => ?_⟩
    obtain ⟨u, h1, h2, h3⟩ := hu j e he
    have hj : j < prs.length := (List.getElem?_eq_some_iff.mp he).1
    refine ⟨u, ?_, h2, h3⟩
    obtain ⟨ob, g1, g2, g3, g4⟩ := h2
    simp only [List.getElem?_map, List.getElem?_range hj, Option.map_some, he, g1, g4]
    rfl
  obtain ⟨ws, wl, hw⟩ := keysEx
  have wsz : ps.length = ws.length := by rw [wl, hl]
  have hok : PlainSeq "tuple" s.heap a (ps.map Value.ref).toArray ∧ PairItems s.heap (ps.map Value.ref).toArray Ts ws := by
    refine ⟨⟨o, n, hg, hc, hd, hdat⟩, by simp [wsz], fun j k v hj => ?_⟩
    have hjl : j < prs.length := by rw [← wl]; exact (List.getElem?_eq_some_iff.mp hj).1
    obtain ⟨u, h1, h2, _⟩ := hw j _ (List.getElem?_eq_getElem hjl)
    rw [hj] at h1
    cases h1
    obtain ⟨_, h3, _⟩ := hu j _ (List.getElem?_eq_getElem hjl)
    exact ⟨by simp [h3], .inl h2⟩
  refine call_dict_pairs (knd := mixKind X.prog X.w) (kvs := prs) (PairArg.tuple a (ps.map Value.ref).toArray Ts ws) (I.ok.hd hcalm) hok ⟨wl.symm, fun i key v hr => ?_⟩ (by rw [← wsz]; exact hz) fun h' tk hd' k => ?_
  · have hr' : ws[i]? = some (key, v) := hr
    have hjl : i < prs.length := by rw [← wl]; exact (List.getElem?_eq_some_iff.mp hr').1
    obtain ⟨u, h1, _, h3⟩ := hw i _ (List.getElem?_eq_getElem hjl)
    rw [hr'] at h1
    injection h1 with h1
    injection h1 with h4 h5
    subst h4
    exact ⟨prs[i].1, by rw [List.getElem?_eq_getElem hjl, h5], h3⟩
  · have hm : (s.heap.objs.size == sysModules) = false := beq_eq_false_iff_ne.mpr (Nat.ne_of_gt I.big)
    have hlen : (mergeK [] kvs).length ≤ sizeLine := by
      have h1 := length_mergeK kvs []
      have h2 : kvs.length = ps.length := by rw [rel.length, hl]
      rw [List.length_nil, Nat.zero_add, h2] at h1
      exact Nat.le_trans h1 hz
    have new : ObjOk X.prog X.w (upd H s.heap.objs.size (.dK (mergeK [] kvs))) h' s.heap.objs.size (.dK (mergeK [] kvs)) := ⟨hlen, hm, merged [] prs, KV.merge rel .nil, hd'⟩
    exact ⟨.ref s.heap.objs.size, _, I.laid (t' := tk) (fun b o e => k b o (by simp) e) (Nat.le_refl _) new, rfl, q _ (I.hok.fresh (Nat.le_refl _))⟩
end

/-! ### for i, x in enumerate(t), t a tuple -/
theorem enumT_new (l : Addr) (items : Array Value) (n : Nat) (dct : Option Addr) (sl : Array (Option Value)) :
    Meets (Builtin.«enumerate.__new__» ⟨[.type "enumerate", .ref l], []⟩) (fun _ R s => s.heap.get? l = some ⟨.type "tuple", dct, .seq items n, sl⟩ ∧
      R (.ok (.ret (.ref (s.heap.objs.size + 1)))) { s with heap := (s.heap.push { cls := .type "tuple_iterator", data := .fields #[.ref l, .int 0 0] }).push { cls := .type "enumerate", data := .fields #[.none, .bool false, .ref s.heap.objs.size, rawInt 0, .none, .none] } }) :=
  .of_wp fun prog w A R s h => by
    obtain ⟨hp, g, d, tk, os⟩ := s
    obtain ⟨hl, h⟩ := h
    have sub := sub_enumerate
    have hT : Heap.IsTuple (Shared.heap ⟨hp, g, d, tk, os⟩) l items := ⟨_, hl, rfl, n, rfl⟩
    have sz : (hp.push { cls := .type "tuple_iterator", data := .fields #[.ref l, .int 0 0] }).objs.size = hp.objs.size + 1 := Heap.size_push ..
    wp_walk using AutoSeq1.wpAny_loadPart' hl
    refine wpAny_stack_any fun st => wpAny_pure ?_
    split
    · rename_i c _ _ _ _ _
      cases (c == Value.type "enumerate") <;>
        (wp_walk using AutoSeq1.wpAny_loadPart' hl, wpAny_pyIter_tuple hT
         exact ⟨_, rfl, by rw [← sz] at h; exact h⟩)
    · wp_walk using AutoSeq1.wpAny_loadPart' hl, wpAny_pyIter_tuple hT
      exact ⟨_, rfl, by rw [← sz] at h; exact h⟩
theorem call_enumT {prog : Program} {w : World} {A : Around} {E : Value → Shared → Prop} {s : Shared} {l : Addr} {items : Array Value} {Q : Value → Shared → Prop} (hL : s.heap.IsTuple l items)
    (h : ∀ h', IsEnum h' (s.heap.objs.size + 1) s.heap.objs.size 0 .none → h'.IsTupleIter s.heap.objs.size l 0 → (∀ b o, s.heap.get? b = some o → h'.get? b = some o) → Q (.ref (s.heap.objs.size + 1)) { s with heap := h' }) :
    wpAny (model prog w) A (call (.type "enumerate") [.ref l]) Q E s := by
  obtain ⟨⟨c, dct, dt, sl⟩, hl, hc, n, hd⟩ := hL
  cases (show c = .type "tuple" from hc)
  cases (show dt = .seq items n from hd)
  refine callType_new F.called_enumerate (by decide) (F.typeCall_enumerate_1 _) (F.newCall_enumerate_1 _) (fun obj => F.args_object_init_2 obj _) F.entry_enumerate_new (enumT_new l items n dct sl) ⟨hl, ?_⟩
  have sz : (s.heap.push { cls := .type "tuple_iterator", data := .fields #[.ref l, .int 0 0] }).objs.size = s.heap.objs.size + 1 := Heap.size_push ..
  have ie : IsEnum ((s.heap.push { cls := .type "tuple_iterator", data := .fields #[.ref l, .int 0 0] }).push { cls := .type "enumerate", data := .fields #[.none, .bool false, .ref s.heap.objs.size, rawInt 0, .none, .none] }) (s.heap.objs.size + 1) s.heap.objs.size 0 .none := by
    rw [← sz]
    exact Heap.get?_push_size _ rfl
  exact ⟨⟨_, ie, rfl⟩, h _ ie ⟨_, Heap.get?_push_of_some _ (Heap.get?_push_size _ rfl), rfl, rfl⟩ fun b o x => Heap.get?_push_of_some _ (Heap.get?_push_of_some _ x)⟩
/-- the tuple at a, each item in a new pair with its number -/
def IteT (K : PySem.W.Frag) (a : Addr) : It :=
  ⟨fun i H => ∃ xs x, SqT K H a xs ∧ xs[i]? = some x, fun i H v H' => ∃ T x, v = .ref T ∧ H T = none ∧ H' = upd H T (.tup [.int (i : Nat), x]) ∧ ∀ xs, SqT K H a xs → xs[i]? = some x, fun i H => ∃ xs, SqT K H a xs ∧ xs.length = i⟩
theorem turn_enumT {P : Program} {w : World} {K : PySem.W.Frag} {elts : List Expr} {kk : Nat} {tpos : Pos} (a e it : Addr) :
    Turn P w K (.Tuple elts kk tpos) (IteT K a) [e, it] e (fun i h => (∃ old, IsEnum h e it ((i : Nat) : Int) old) ∧ h.IsTupleIter it a i ∧ e ≠ it ∧ a ≠ e ∧ a ≠ it) where
  mem := by simp
  obj := by
    rintro i h ⟨⟨old, he⟩, ⟨o, ho, hc, hd⟩, _⟩ b hb
    rcases (by simpa using hb : b = e ∨ b = it) with z | z <;> subst z
    · exact ⟨_, he, fun v q => nomatch q⟩
    · exact ⟨o, ho, fun v q => by rw [hd] at q; cases q⟩
  keep := by
    rintro i h h' ⟨⟨old, he⟩, hi, hn⟩ k
    exact ⟨⟨old, k e (by simp) _ he⟩, hi.at fun o q => k it (by simp) o q, hn⟩
  item := by
    intro X hP hw hK hc i pins s σ H E I hf st hg
    subst hP hw hK
    obtain ⟨⟨old, he⟩, hit, hne, hae, hai⟩ := st
    obtain ⟨xs, x, hq, hx⟩ := hg
    obtain ⟨its, rv, p, hz⟩ := I.tuple hq
    obtain ⟨u, hu, ru⟩ := rv.get hx
    have elt : e < s.heap.objs.size := Heap.lt_size he
    have ilt : it < s.heap.objs.size := by obtain ⟨_, q, _⟩ := hit; exact Heap.lt_size q
    have pT : s.heap.IsTuple a its.toArray := p
    have hui : its.toArray[i]? = some u := by simpa using hu
    have hil : i < its.toArray.size := (Array.getElem?_eq_some_iff.mp hui).1
    refine wpAny_pyNext_enum_itemD (Draws.tuple (A := X.A.in1) (by simpa using I.ok.hd hc) it a hai its.toArray) he ⟨hit, pT⟩ hil hne (by simp [hne, Ne.symm hae]) fun x' h' tk hPx ho hst hT hsz hk => ?_
    rw [hui] at hPx
    cases hPx
    refine ⟨_, rfl, wpAny_letOwnedTupleGo_enum (s := { s with heap := h', toks := tk + 1 }) ho fun h'' he' sb => ?_⟩
    have hT2 : h''.get? s.heap.objs.size = some { cls := .type "tuple", data := .seq #[.int i tk, u] } := (sb.2 _ (Nat.ne_of_gt elt)).trans hT
    have new : ObjOk X.prog X.w (upd H s.heap.objs.size (.tup [.int (i : Nat), x])) h'' s.heap.objs.size (.tup [.int (i : Nat), x]) := ⟨(show 2 ≤ sizeLine by decide), [.int i tk, u], .cons ⟨_, rfl⟩ (.cons ru .nil), ⟨_, hT2, rfl, _, rfl⟩⟩
    have I1 : Inv X pins σ (upd H s.heap.objs.size (.tup [.int (i : Nat), x])) { s with heap := h'', toks := tk + 1 } := by
      refine I.turnedNew (ch := [e, it]) (fun b ob hb q => ?_) hf (Nat.le_refl _) new
      have b1 : b ≠ e := fun z => hb (by simp [z])
      have b2 : b ≠ it := fun z => hb (by simp [z])
      exact (sb.2 b b1).trans (hk b ob b1 b2 q)
    have nx : ((i + 1 : Nat) : Int) = (i : Int) + 1 := by omega
    refine ⟨.ref s.heap.objs.size, _, I1, rfl, ⟨_, x, rfl, I.hok.fresh (Nat.le_refl _), rfl, fun ys hy => by rw [I.tuple_inj hy hq]; exact hx⟩, ⟨⟨u, by rw [nx]; exact he'⟩, hst.1.at fun o q => (sb.2 it (Ne.symm hne)).trans q, hne, hae, hai⟩, fun b hb => ?_⟩
    have bl : b < s.heap.objs.size := by
      rcases (by simpa using hb : b = e ∨ b = it) with z | z <;> subst z <;> assumption
    rw [upd_ne (Nat.ne_of_lt bl)]
    exact (hf b hb).1
  done := by
    intro X hP hw hK hc i pins s σ H E I hf st hg
    subst hP hw hK
    obtain ⟨⟨old, he⟩, hit, hne, hae, hai⟩ := st
    obtain ⟨xs, hq, hx⟩ := hg
    obtain ⟨its, rv, p, hz⟩ := I.tuple hq
    obtain ⟨f0, f1, f2, f3, f4, f5⟩ := hf it (by simp)
    have hl := rv.length
    have pT : s.heap.IsTuple a its.toArray := p
    have il : i = its.toArray.size := by simp; omega
    subst il
    exact wpAny_pyNext_enum_endD (Draws.tuple (A := X.A.in1) (by simpa using I.ok.hd hc) it a hai its.toArray) he ⟨hit, pT⟩ fun h' eb => ⟨rfl, I.turned (t' := s.toks) (fun b o hb q => eb b o hb q) f0 f1 f3 f4 f5⟩
  self := fun A i s Q E st h => let ⟨⟨_, he⟩, _⟩ := st; wpAny_pyIter_enum he h
def iEnumT (K : PySem.W.Frag) (ta : TA) : TI := fun σ H R => ta σ H fun vs H1 => ∃ a xs, vs = [.ref a] ∧ SqT K H1 a xs ∧ R (IteT K a) H1
theorem pi_enumT {X : Cx} {e : Expr} {ta : TA} {p pos tpos : Pos} {elts : List Expr} {kk : Nat} (hg : Gl X "enumerate") (hm : X.mg "enumerate" = none) (ha : PA X [e] ta) (hs : starEach [e] X.env = [(false, eval e X.env)] := by rfl) :
    PI X (.Tuple elts kk tpos) (.Call (.Name "enumerate" p) [e] [] pos) (iEnumT X.K ta) := by
  refine ⟨fun pins s σ H R I h => ?_⟩
  refine Call_ (ld_blt I hg hm boot_enumerate (PyProof.Rows.callWith_type1 (thn (ha.run pos pins s σ H _ I h) fun us s1 ⟨vs, H1, I1, r1, a, xs, ex, hq, q⟩ => ?_) hs rfl))
  subst ex
  obtain ⟨u, rfl, r⟩ := vals1 r1
  cases r
  obtain ⟨its, rv, p', hz⟩ := I1.tuple hq
  have pT : s1.heap.IsTuple a its.toArray := p'
  have alt : a < s1.heap.objs.size := by obtain ⟨o, ho, _⟩ := pT; exact Heap.lt_size ho
  refine call_enumT pT fun h' he hit hk => wpAny_pyIter_enum he ?_
  have I2 : Inv X pins σ H1 { s1 with heap := h' } := I1.kept (t' := s1.toks) hk
  refine ⟨s1.heap.objs.size + 1, [s1.heap.objs.size + 1, s1.heap.objs.size], _, _, H1, rfl, I2, turn_enumT a (s1.heap.objs.size + 1) s1.heap.objs.size, ⟨⟨.none, he⟩, hit, Nat.succ_ne_self _, Nat.ne_of_lt (Nat.lt_succ_of_lt alt), Nat.ne_of_lt alt⟩, fun b hb => ?_, q⟩
  have hle : s1.heap.objs.size ≤ b := by
    rcases (by simpa using hb : b = s1.heap.objs.size + 1 ∨ b = s1.heap.objs.size) with z | z <;> subst z <;> omega
  exact I1.fpOk hle (I1.hok.fresh hle)
theorem walk_enumT {K : PySem.W.Frag} {a : Addr} {xs : List V} : Walk (IteT K a) xs.length (fun H => SqT K H a xs) (YPair (fun i => some (.int (i : Nat))) (fun i => xs[i]?)) where
  goes := fun i H hi hq => ⟨xs, xs[i], hq, List.getElem?_eq_getElem hi⟩
  stops := fun H hq => ⟨xs, hq, rfl⟩
  yields := fun i H x H' hi hq y => by
    obtain ⟨T, z, e1, e2, e3, e4⟩ := y
    exact ⟨T, .int (i : Nat), z, e1, e2, e3, rfl, e4 xs hq⟩

/-! ### len(set(l)), l a list of texts -/
/-- each text at its first place -/
def firsts : List Str → List Str → List Str
  | acc, [] => acc
  | acc, x :: r => firsts (if acc.contains x then acc else acc ++ [x]) r
theorem firsts_len (l : List Str) : ∀ acc, (firsts acc l).length ≤ acc.length + l.length := by
  induction l with
  | nil => intro acc; exact Nat.le_refl _
  | cons x r ih =>
    intro acc
    refine Nat.le_trans (ih _) ?_
    split
    · rw [List.length_cons]; omega
    · rw [List.length_append, List.length_cons]; simp; omega
theorem firsts_nd : ∀ (l acc : List Str), (acc ++ l).Nodup → firsts acc l = acc ++ l
  | [], acc, _ => by simp [firsts]
  | x :: r, acc, h => by
    have hx : ¬ x ∈ acc := fun m => by
      have := (List.nodup_append.mp h).2.2 x m x List.mem_cons_self
      exact this rfl
    have hc : acc.contains x = false := by simpa using hx
    rw [firsts, hc]
    have h2 : ((acc ++ [x]) ++ r).Nodup := by rw [List.append_assoc]; exact h
    rw [if_neg (by simp), firsts_nd r (acc ++ [x]) h2, List.append_assoc]
    rfl
section
variable {prog : Program} {w : World} {A : Around} {R : Result → Shared → Prop} {I : Addr} {fp wr : List Addr} {G : Array GenState → Array GenState → Prop} {n : Nat} {P : Nat → Value → Prop} {St : Nat → Shared → Prop}
theorem set_loopS (W : WalksS prog w A.in1 I fp wr G n P St) (S : Addr) (nf : S ∉ fp) (xs : List Str) (hl : xs.length = n) (hb : n + 1 < scanBound)
    (hv : ∀ i v, P i v → ∃ x t, xs[i]? = some x ∧ v = .str x t) :
    ∀ (m i : Nat) (acc : List Str) (s : Shared), n = i + m → acc.length ≤ i → St i s → s.heap.SetOf (PySem.strKind prog w) S (fun y => acc.contains y) acc.length →
      (∀ s', Moved (S :: wr) G s s' → s'.heap.SetOf (PySem.strKind prog w) S (fun y => (firsts acc (xs.drop i)).contains y) (firsts acc (xs.drop i)).length → R (.ok (.ret .none)) s') →
      codeAny (model prog w) A (.builtin "set.update.loop" ⟨[.ref S, .ref I], []⟩) R s := by
  have nw : S ∉ wr := fun h => nf (W.sub _ h)
  have up : ∀ b ∈ wr, b ∈ S :: wr := fun b hb => List.mem_cons_of_mem _ hb
  intro m
  induction m with
  | zero =>
    intro i acc s e la st hS fin
    have ei : i = n := by omega
    subst ei
    refine codeAny_builtin PyProof.Rows.F.entry_set_update_loop ?_
    rw [Around.under_plainId PyProof.Rows.F.plain_set_update_loop _]
    show wpAny _ A.in1 (pyNext (.ref I) >>= _) _ _ s
    refine wpAny_bind (W.done s _ _ st fun s' hm => ?_)
    show wpAny _ A.in1 (ret Value.none) _ _ s'
    have dz : xs.drop i = [] := List.drop_eq_nil_of_le (Nat.le_of_eq hl)
    rw [dz] at fin
    obtain ⟨o, es, ep, t, ho, more⟩ := hS
    exact wpAny_pure (fin s' (hm.mono up) ⟨o, es, ep, t, hm.heap S _ nw ho, more⟩)
  | succ m ih =>
    intro i acc s e la st hS fin
    have il : i < n := by omega
    refine codeAny_builtin PyProof.Rows.F.entry_set_update_loop ?_
    rw [Around.under_plainId PyProof.Rows.F.plain_set_update_loop _]
    show wpAny _ A.in1 (pyNext (.ref I) >>= _) _ _ s
    refine wpAny_bind (W.item i s _ _ il st fun v s' hP st' hm => ?_)
    obtain ⟨x, t, hx, rfl⟩ := hv i v hP
    have hS' : s'.heap.SetOf (PySem.strKind prog w) S (fun y => acc.contains y) acc.length := by
      obtain ⟨o, es, ep, tb, ho, more⟩ := hS
      exact ⟨o, es, ep, tb, hm.heap S _ nw ho, more⟩
    show wpAny _ A.in1 (holding [Value.str x t] (setAdd S (.str x t)) >>= _) _ _ s'
    refine wpAny_bind (wpAny_holding ?_)
    unfold setAdd
    refine wpAny_holding (wpAny_bind ((PySem.strKind prog w).pyHash (k := x) (strKind_is _ _ _ _) ?_))
    refine wpAny_setAddHashed_of (knd := PySem.strKind prog w) (s := { s' with toks := s'.toks + 1 }) (strKind_is _ _ _ _) rfl hS' (by omega) fun h' sb new => ?_
    have dr : xs.drop i = x :: xs.drop (i + 1) := by
      have hlt : i < xs.length := by omega
      rw [List.drop_eq_getElem_cons hlt]
      congr 1
      exact Option.some.inj ((List.getElem?_eq_getElem hlt).symm.trans hx)
    have nxt : h'.SetOf (PySem.strKind prog w) S (fun y => (if acc.contains x then acc else acc ++ [x]).contains y) (if acc.contains x then acc else acc ++ [x]).length := by
      refine PyProof.Rows.SetOf_congr new (fun y => ?_) ?_
      · show (acc.contains y || decide (y = x)) = _
        by_cases c : acc.contains x = true
        · rw [if_pos c]
          by_cases ey : y = x
          · subst ey; rw [c]; rfl
          · rw [decide_eq_false ey, Bool.or_false]
        · rw [if_neg c]
          simp
      · show (if acc.contains x = true then _ else _) = _
        split <;> simp_all
    refine wpAny_pure ⟨plainId_quiet PyProof.Rows.F.plain_set_update_loop _, ih (i + 1) _ _ (by omega) ?_ (W.frame _ s' _ _ st' (Nat.le_succ _) fun b hb o e => ?_) nxt fun s'' hm'' hS'' => ?_⟩
    · split
      · omega
      · rw [List.length_append]; simp; omega
    · rw [sb.2 b (fun h : b = S => nf (by rw [← h]; exact hb))]
      exact e
    · rw [dr] at fin
      refine fin s'' (Moved.trans W.gtrans ((hm.mono up).then_heap (Nat.le_succ _) fun b o hb e => ?_) hm'') hS''
      rw [sb.2 b (fun h : b = S => hb (by rw [h]; exact List.mem_cons_self))]
      exact e
end
end Md

set_option maxHeartbeats 4000000
namespace Md
open PySem PySem.Spec PyProof.Rows L2
section
variable {prog : Program} {w : World} {A : Around} {E : Value → Shared → Prop} {s : Shared}
theorem texts_at : ∀ {xs : List Str} {us : List Value}, Vals (xs.map V.str) us → ∀ (i : Nat) (v : Value), us[i]? = some v → ∃ x t, xs[i]? = some x ∧ v = .str x t
  | [], _, .nil, i, v, h => by simp at h
  | x :: xs, _, .cons r t, 0, v, h => by
    obtain ⟨k, e⟩ := r
    simp at h
    exact ⟨x, k, rfl, by rw [← h]; exact e⟩
  | x :: xs, _, .cons r t, i + 1, v, h => by
    simp only [List.getElem?_cons_succ] at h
    obtain ⟨y, k, e1, e2⟩ := texts_at t i v h
    exact ⟨y, k, by simpa using e1, e2⟩
/-- set(l) of a list of texts -/
theorem call_setG {l : Addr} {us : List Value} {xs : List Str} {Q : Value → Shared → Prop} (hh : A.handled = none) (hl : s.heap.IsList l us.toArray) (hv : Vals (xs.map V.str) us) (hb : xs.length + 1 < scanBound)
    (h : ∀ (h' : Heap) (tk : Nat), h'.SetOf (PySem.strKind prog w) s.heap.objs.size (fun y => (firsts [] xs).contains y) (firsts [] xs).length →
      (∀ b o, b < s.heap.objs.size → s.heap.get? b = some o → h'.get? b = some o) → Q (.ref s.heap.objs.size) { s with heap := h', toks := tk }) :
    wpAny (model prog w) A (call (.type "set") [.ref l]) Q E s := by
  have hsz : xs.length = us.length := by rw [← hv.length, List.length_map]
  obtain ⟨cc, tl, m0⟩ := PySem.F.called_set.mro
  have m1 := PySem.F.called_set.made
  have m2 := PySem.F.called_set.sub
  have m3 := PySem.F.called_set.notType
  have m4 := PySem.F.called_set.canCreate
  have m5 := PySem.F.typeCall_set_1 (.ref l)
  refine wpAny_call (codeAny_of_tree (show wpAny _ _ (callAny (.type "set") _) _ _ _ from ?_))
  refine wpAny_pure ⟨Code.quiet_builtin _ (by decide +kernel), codeAny_builtin PySem.F.entry_type_call ?_⟩
  rw [Around.under_plain (weight_type_call_type "set" [.ref l] []) rfl]
  repeat (any_goals (first | assumption | wp_step))
  refine codeAny_mono (code_set_new_1 (.ref l) (E := E) (Q₁ := fun ob s1 => ∃ led, ob = .ref s.heap.objs.size ∧ s1 = { s with heap := s.heap.push ⟨.type "set", none, .set #[] 0 (.fresh 0 0 led), #[]⟩ }) fun led => ⟨led, rfl, rfl⟩) fun r s1 hr => ?_
  rcases r with e | fl
  · exact hr
  cases fl with
  | ret ob =>
    obtain ⟨led, rfl, rfl⟩ := hr
    have g0 : (s.heap.push ⟨.type "set", none, .set #[] 0 (.fresh 0 0 led), #[]⟩).get? s.heap.objs.size = some ⟨.type "set", none, .set #[] 0 (.fresh 0 0 led), #[]⟩ := Heap.get?_push_size _ rfl
    have tS : Shared.TypeIs { s with heap := s.heap.push ⟨.type "set", none, .set #[] 0 (.fresh 0 0 led), #[]⟩ } (.ref s.heap.objs.size) "set" := ⟨_, g0, rfl⟩
    have n1 := PySem.F.called_set.init.lookup
    have n2 := PySem.F.called_set.init.bind (.ref s.heap.objs.size)
    repeat (any_goals (first | assumption | wp_step))
    refine codeAny_mono (codeAny_call_builtin (R := wants (fun r s2 => r = .none ∧ ∃ h' tk, s2 = { s with heap := h', toks := tk } ∧
        h'.SetOf (PySem.strKind prog w) s.heap.objs.size (fun y => (firsts [] xs).contains y) (firsts [] xs).length ∧
        (∀ b o, b < s.heap.objs.size → s.heap.get? b = some o → h'.get? b = some o)) E) PySem.F.called_set.init.plain PySem.F.entry_set_init (check_set_init_1 tS ?_)) fun r2 s2 hr2 => ?_
    · obtain ⟨⟨c1, c2, c3, c4⟩, hol, hcl, nl, hdl⟩ := hl
      cases (show c1 = .type "list" from hcl)
      cases (show c3 = .seq us.toArray nl from hdl)
      have lS : l < s.heap.objs.size := Heap.lt_size hol
      have hol' : (s.heap.push ⟨.type "set", none, .set #[] 0 (.fresh 0 0 led), #[]⟩).get? l = some ⟨.type "list", c2, .seq us.toArray nl, c4⟩ := Heap.get?_push_of_some _ hol
      have l1 : (s.heap.push ⟨.type "set", none, .set #[] 0 (.fresh 0 0 led), #[]⟩).IsList l us.toArray := ⟨_, hol', rfl, nl, rfl⟩
      have q1 := PySem.F.sub_list_set
      have q2 := PySem.F.sub_list_frozenset
      have q3 : (Value.type "list" == Value.type "dict") = false := by decide
      have z1 : (s.heap.push ⟨.type "set", none, .set #[] 0 (.fresh 0 0 led), #[]⟩).objs.size = s.heap.objs.size + 1 := Heap.size_push ..
      unfold Builtin.«set.__init__» noKeywords Builtin.Frozenset.updateFrom
      generalize hPI : pyIter = PI
      wp_walk
      subst hPI
      refine wpAny_pyIter_list l1 (wpAny_bind (wpAny_runValue ?_))
      have h3 : A.in1.in1.in1.handled = none := by simp [hh]
      have ne1 : l ≠ (s.heap.push ⟨.type "set", none, .set #[] 0 (.fresh 0 0 led), #[]⟩).objs.size := by rw [z1]; exact Nat.ne_of_lt (Nat.lt_succ_of_lt lS)
      have ne2 : s.heap.objs.size ∉ [(s.heap.push ⟨.type "set", none, .set #[] 0 (.fresh 0 0 led), #[]⟩).objs.size, l] := by
        rw [z1]
        intro m
        rcases (by simpa using m : s.heap.objs.size = s.heap.objs.size + 1 ∨ s.heap.objs.size = l) with z | z
        · exact absurd z (Nat.ne_of_lt (Nat.lt_succ_self _))
        · exact absurd z (Nat.ne_of_gt lS)
      refine set_loopS ((Walks.list h3 _ l ne1 us.toArray).toS) s.heap.objs.size ne2 xs (by simp [hsz]) (by simp only [List.size_toArray]; omega) (fun i v hv' => texts_at hv i v (by simpa using hv')) us.toArray.size 0 [] _ (by omega) (Nat.le_refl _)
        ⟨⟨_, Heap.get?_push_size _ rfl, rfl, rfl⟩, l1.push _⟩ ?s0 ?fin
      case s0 =>
        have g1 := Heap.get?_push_of_some { cls := .type "list_iterator", data := .fields #[.ref l, .int 0 0] } g0
        exact PyProof.Rows.SetOf_congr ((PyProof.Rows.setObjOf_fresh (knd := PySem.strKind prog w) led).setOf g1 (by unfold scanBound; omega)) (fun _ => rfl) rfl
      case fin =>
        intro s' hm hS'
        obtain ⟨h', g', d', tk', os'⟩ := s'
        cases (show g' = s.gens from hm.gens)
        cases (show d' = s.drawn from hm.drawn)
        cases (show os' = s.os from hm.os)
        show wpAny _ _ _ _ _ _
        refine wpAny_pure (show wpAny _ _ (ret Value.none) _ _ _ from wpAny_pure ⟨rfl, h', tk', rfl, hS', fun b o hb e => ?_⟩)
        refine hm.heap b o (fun m => ?_) (Heap.get?_push_of_some _ (Heap.get?_push_of_some _ e))
        rcases (by simpa using m : b = s.heap.objs.size ∨ b = (s.heap.push ⟨.type "set", none, .set #[] 0 (.fresh 0 0 led), #[]⟩).objs.size) with z | z
        · exact absurd z (Nat.ne_of_lt hb)
        · rw [z1] at z; exact absurd z (Nat.ne_of_lt (Nat.lt_succ_of_lt hb))
    · rcases r2 with e | f2
      · exact hr2
      cases f2 with
      | ret r =>
        obtain ⟨rfl, h', tk, rfl, hS', hk'⟩ := hr2
        repeat (any_goals (first | assumption | wp_step))
        exact h _ _ hS' hk'
      | _ => exact hr2.elim
  | _ => exact hr.elim
end
section
variable {X : Cx}
def tLenSetS (K : PySem.W.Frag) (ta : TE) : TE := fun σ H Q => ta σ H fun x H1 => ∃ (l : Addr) (xs : List Str), x = V.ref l ∧ SqL K H1 l (xs.map V.str) ∧ xs.length ≤ 1000 ∧ Q (.int (firsts [] xs).length) H1
theorem pe_lenSetS {a : Expr} {ta : TE} {p p2 q pos : Pos} (hc : X.calm = true) (hg : Gl X "len") (hm : X.mg "len" = none) (hg2 : Gl X "set") (hm2 : X.mg "set" = none) (ha : PE X a ta)
    (na : starEach [a] X.env = (false, eval a X.env) :: starEach [] X.env := by rfl) : PE X (.Call (.Name "len" p) [.Call (.Name "set" p2) [a] [] q] [] pos) (tLenSetS X.K ta) := by
  refine ⟨fun pins s σ H Q I h => ?_⟩
  refine Call_ (ld_blt I hg hm PySem.boot_len (PyProof.Rows.callWith_builtin1 (PyProof.Rows.args_cons ?_ rfl) rfl rfl))
  refine Call_ (ld_blt I hg2 hm2 PyProof.Rows.boot_set (PyProof.Rows.callWith_type1 (PyProof.Rows.args_cons (thn (ha.run pins s σ H _ I h) fun v s1 ⟨x, H1, I1, r1, q1⟩ => PyProof.Rows.args_nil ?_) na) na rfl))
  obtain ⟨l, xs, rfl, hq, h1, q1⟩ := q1
  cases r1
  obtain ⟨its, r, pl, hz⟩ := I1.list hq
  have fl : (firsts [] xs).length ≤ xs.length := by
    have := firsts_len xs []
    simpa using this
  refine call_setG (I1.ok.hd hc) pl.isList r (by unfold scanBound; omega) fun h' tk hS hk => PyProof.Rows.args_nil ?_
  obtain ⟨o, es, ep, t, ho, hex, hd, _, _, _, hf, hn⟩ := hS
  have I2 : Inv X pins σ H1 { s1 with heap := h', toks := tk } := I1.kept fun b o e => hk b o (Heap.lt_size e) e
  refine call_len_set ho hex hd hf (by rw [hn]; omega) ⟨.int (firsts [] xs).length, H1, I2.tok _, ⟨_, by rw [hn]⟩, q1⟩
end
end Md

set_option maxHeartbeats 4000000
namespace Md
open PySem PySem.Spec PyProof.Rows L2
section
variable {X : Cx}
/-- what may be written out: data of few levels, its text not too long -/
structure Shows (d : PyData) : Prop where
  sh : d.showable = true
  nd : d.hasDict = false
  dp : d.depth ≤ 40
  ln : d.shown.length ≤ sizeLine
theorem call_reprD (hg : X.A.guards = some []) (hu : X.A.units + 64 < cLine) : CallR X (.builtin "repr") (fun xs H Q => ∃ (a : Addr) (d : PyData), xs = [.ref a] ∧ Dp X.K H (.ref a) d ∧ Shows d ∧ Q (.str d.shown) H) := by
  intro pins s σ H xs us Q I r h
  obtain ⟨a, d, rfl, hd, S, q⟩ := h
  obtain ⟨u, rfl, ru⟩ := vals1 r
  cases ru
  obtain ⟨as, hr⟩ := Dp.reads I d (.ref a) (.ref a) hd rfl
  have dp := S.dp
  exact repr_of_reads' hr S.sh (fun z => by rw [S.nd] at z; cases z) hg (by omega) (fun _ _ e => e) (fun h' u tk k => ⟨.str d.shown, H, I.kept k, ⟨_, rfl⟩, q⟩) S.ln
end

/-! ### the law's own def, called with nothing under way -/
/-- the promise of the law's def where the caller is the claim itself -/
def LawOk (P : Program) (w : World) (K : PySem.W.Frag) (mg : Str → Option Value) (base : Heap) (f : Addr) (fd : FuncData) (ps : List Str) (sp : Sp) : Prop :=
  ∀ (s : Shared) (H : Hp) (args : Args) (us : List Value) (vs : List V) (Q : VK), Env0 P w K mg base callerA [] s H → BindsTo s fd args (ps.zip us) → Vals vs us → vs.length = ps.length → sp vs H Q E0 →
    codeAny (model P w) callerA (.call (.ref f) args) (CR CX0 [] P w H s Q E0) s
section
variable {P : Program} {w : World} {K : PySem.W.Frag} {mg : Str → Option Value} {base : Heap}
theorem law_body {x qual : Str} {st : Stmt} {f : Addr} {fd : FuncData} {N ps : List Str} {k : Nat} {sp : Sp} (F : Fun K x qual st f fd) (S : FnScope N ps (defScope st)) (room : Room (k + 1) callerA)
    (hbody : ∀ (cdv : Value) (A : Around) (outer : List Env) (s : Shared) (H : Hp) (vs : List V) (Q : VK) (E : XK), Room k (A.deeper (envOfC qual (defScope st) s.heap.objs.size f cdv)) → A.guards = some [] → sp vs H Q E →
      ∃ t, PSs (cxOf CX0 P w K mg base N qual (defScope st) f cdv A outer s H E).nox (defBody st) t ∧ t { nx := fun _ H' => Q .non H', rt := Q } (start N vs) H) : LawOk P w K mg base f fd ps sp := by
  obtain ⟨oc, od, kV, doc, pm, an, cdv, ct, osl, rfl, lk, hcd⟩ := F.ex
  intro s H args us vs Q e0 hb r hl hsp
  have ks : ∀ b o, base.get? b = some o → s.heap.get? b = some o := fun b o e => (e0.bs b o e).1
  have lims := e0.mod.nolimit.keeps ks
  have kinds : ∀ y ∈ ps.zip us, (defScope st).names.lookup y.1 = some .local ∨ ((defScope st).names.lookup y.1 = some .cell ∧ ((cellsFrom (s.heap.objs.size + 1) (defScope st).names []).lookup y.1).isSome = true) := by
    rintro ⟨n, v⟩ hy
    rcases S.par n (List.of_mem_zip hy).1 with q | q
    · exact .inl q
    · exact .inr ⟨q, PySem.W.cellsFrom_some _ _ _ (.inl q)⟩
  have KX : K.In s.heap := e0.mod.kin.keeps ks
  refine codeAny_call_function room.depth (KX _ _ lk) rfl S.co S.gen rfl (PySem.W.codeRec_of KX hcd) (hb _ _ _ _ (wpAny_newFunctionEnv_cells S.kind kinds fun env he s1 x => ?_))
  subst he
  refine ⟨lims.keeps x.toInCall.keep, codeAny_func ?_⟩
  obtain ⟨t, ht, hq⟩ := hbody cdv callerA [] s H vs Q E0 (room.deeper _) rfl hsp
  have I : L2.Inv (cxOf CX0 P w K mg base N qual (defScope st) f cdv callerA [] s H E0) [] (L2.start N vs) H s1 := inv_start S room.hd e0 hl r x
  refine wpAny_mono (ht.nox.run [] s1 (start N vs) H _ I hq) (fun fl s' hs => ?_) fun e s' hs => hs
  cases fl with
  | ret u =>
    obtain ⟨v, σ', H', J, rv, q⟩ := hs
    exact ⟨v, H', J.os, J.bare, J.base, J.hok, rv, q⟩
  | next =>
    obtain ⟨σ', H', J, q⟩ := hs
    exact ⟨V.non, H', J.os, J.bare, J.base, J.hok, rfl, q⟩
  | brk => obtain ⟨_, _, _, q⟩ := hs; exact False.elim q
  | cont => obtain ⟨_, _, _, q⟩ := hs; exact False.elim q
end
/-- the claim's call of the law: from the promise of its def -/
theorem law_end {P : Program} {w : World} {K : PySem.W.Frag} {mg mb : Str → Option Value} {fa a : Addr} {fd : FuncData} {x : Str} {sp : Sp} {s1 : Shared} {vs : List Value} {ns : List Int}
    (KX : K.In s1.heap) (hns : s1.heap.Ns mainGlobals mg) (hb : s1.heap.Ns builtinsNs mb) (hbb : ∀ y : Str, y ≠ "__name__" → mb y = bootBuiltins y) (nl : s1.heap.NoLimit) (hg : s1.gens = #[])
    (ha : s1.heap.get? a = some { cls := .type "list", data := .seq vs.toArray }) (hi : IntsAre vs ns) (hl : ns.length ≤ sizeLine)
    (F : ∀ base : Heap, K.In base → base.Ns mainGlobals mg → LawOk P w K mg base fa fd [x] sp) (bind : ∀ (s : Shared) (u : Value), BindsTo s fd ⟨[u], []⟩ [(x, u)])
    (hsp : ∀ H : Hp, Only H → SqL K H a (ns.map V.int) → sp [.ref a] H (fun v _ => v = .bl true) E0) :
    codeAny (model P w) callerA (.call (.ref fa) ⟨[.ref a], []⟩) (fun r s' => r = .ok (.ret (.bool true)) ∧ OldK s1.heap s'.heap ∧ s'.os = s1.os ∧ AllBare s'.gens) s1 := by
  have rv := vals_ints hi
  have nlen := hi.length
  have main : ∀ H : Hp, Only H → SqL K H a (ns.map V.int) → HOk P w H s1.heap → (∀ b, H b ≠ none → b = a ∧ K.lookup a = none) →
      codeAny (model P w) callerA (.call (.ref fa) ⟨[.ref a], []⟩) (fun r s' => r = .ok (.ret (.bool true)) ∧ OldK s1.heap s'.heap ∧ s'.os = s1.os ∧ AllBare s'.gens) s1 := by
    intro H only sq ok at1
    have isnone : ∀ b, (b = a → K.lookup a ≠ none) → H b = none := fun b h => by
      cases q : H b with
      | none => rfl
      | some u =>
        have z := at1 b (by rw [q]; simp)
        exact absurd z.2 (h z.1)
    have dicts : ∀ {b : Addr} {o : Obj} {es : Array DictEntry} {ep : Nat}, s1.heap.get? b = some o → o.data = .dict es ep → H b = none := fun {b o es ep} e d => by
      cases q : H b with
      | none => rfl
      | some u =>
        have z := (at1 b (by rw [q]; simp)).1
        subst z
        rw [ha] at e
        cases e
        cases d
    have names : ∀ {b : Addr} {m : Str → Option Value}, s1.heap.Ns b m → (hidT s1.heap H).Ns b m := fun {b m} h => by
      obtain ⟨o, es, ep, e, d, more⟩ := h
      exact ⟨o, es, ep, hidT_get e (dicts e d), d, more⟩
    have kin : K.In (hidT s1.heap H) := fun b o e => hidT_get (KX b o e) (isnone b fun z q => by subst z; rw [q] at e; cases e)
    have md : Mod K mg (hidT s1.heap H) := ⟨kin, names hns, ⟨mb, names hb, hbb⟩, let ⟨mc, h1, h2⟩ := nl; ⟨mc, names h1, h2⟩⟩
    have env0 : Env0 P w K mg (hidT s1.heap H) callerA [] s1 H :=
      ⟨rfl, md, fun b o e => of_hidT e, Nat.le_of_eq (hidT_size _ _), trivial, fun b z => absurd (show b ∈ ([] : List Addr) from z) (by simp), ok, .of_eq hg⟩
    refine codeAny_mono (F _ kin (names hns) s1 H ⟨[.ref a], []⟩ [.ref a] [.ref a] _ env0 (bind s1 (.ref a)) (.cons rfl .nil) rfl (hsp H only sq)) fun r s' h => ?_
    rcases r with e | fl
    · exact False.elim h
    cases fl with
    | ret u =>
      obtain ⟨v, H', os, bare, un, ok', r', q⟩ := h
      cases (show v = .bl true from q)
      cases (show u = Value.bool true from r')
      refine ⟨rfl, OldK.of_keep fun b o e => ?_, os, bare⟩
      cases q : H b with
      | none => exact un.keep b o e q (fun z => absurd (show b ∈ ([] : List Addr) from z) (by simp)) (by simp)
      | some u =>
        rcases only b with z | ⟨ob, xs, z⟩
        · rw [q] at z; cases z
        · obtain ⟨e1, _⟩ := ok b _ z
          obtain ⟨e2, _⟩ := ok' b _ (un.frzs b ob _ z)
          rw [e] at e1
          cases e1
          exact e2
    | next => exact False.elim h
    | brk => exact False.elim h
    | cont => exact False.elim h
  cases hk : K.lookup a with
  | some o =>
    have e := KX a o hk
    rw [ha] at e
    cases e
    exact main (fun _ => none) (fun _ => .inl rfl) (.inr ⟨_, vs.toArray, _, hk, rfl, rfl, rfl, by rw [List.size_toArray, nlen]; exact hl, by simpa using rv⟩) (fun b u z => nomatch (show (none : Option HO) = some u from z)) (fun b z => absurd rfl z)
  | none =>
    refine main (fun b => if b = a then some (.frz { cls := .type "list", data := .seq vs.toArray } (.lst (ns.map V.int))) else none) (fun b => ?_) (.inl (.inr ⟨_, if_pos rfl⟩)) (fun b u z => ?_) (fun b z => ?_)
    · by_cases e : b = a
      · exact .inr ⟨_, _, if_pos e⟩
      · exact .inl (if_neg e)
    · by_cases e : b = a
      · cases (if_pos e).symm.trans z
        subst e
        exact ⟨ha, by rw [List.length_map]; exact hl, vs, _, rv, ha⟩
      · cases (if_neg e).symm.trans z
    · by_cases e : b = a
      · exact ⟨e, hk⟩
      · exact absurd (if_neg e) z
/-- the goal behind the head, from the law's promise -/
theorem walk_law {l : PySem.W.OpenLaw} {n : Nat} {q : Program} {loose : List Str} {XP : (Str → Option Value) → Heap → Prop} {YP : World → Heap → Prop} {d : DefRec} {K : Params → PySem.W.Frag} {sp : World → Sp} {x : Str}
    (hn : l.most = some n) (hn2 : n ≤ sizeLine) (hdf : d.params.defaults = []) (hY : ∀ (w : World) (h : Heap), YP w h → (K w.params).In h)
    (F : ∀ (w : World) (mg : Str → Option Value) (fa : Addr) (h : Heap), (K w.params).In h → h.Ns mainGlobals mg → mg d.name = some (.ref fa) →
      ∃ fd : FuncData, (∀ (s : Shared) (u : Value), BindsTo s fd ⟨[u], []⟩ [(x, u)]) ∧ ∀ base : Heap, (K w.params).In base → base.Ns mainGlobals mg → LawOk l.prog w (K w.params) mg base fa fd [x] (sp w))
    (hsp : ∀ (w : World) (H : Hp) (a : Addr) (ns : List Int), ns.length ≤ n → (∀ z ∈ ns, Builtin.Int.intBits z ≤ 1048576) → Only H → SqL (K w.params) H a (ns.map V.int) → sp w [.ref a] H (fun v _ => v = .bl true) E0) :
    PySem.W.WalkO q loose XP YP l.row.toRowW d [] (fun f vs => PySem.call f vs) := by
  refine Att.attach_callB hn hdf fun w s0 s1 mg mb fa o pm cd doc a vs ns G Y ho hd hcd hmg hobj hints hlen bits hg => ?_
  have KX := hY w _ Y
  obtain ⟨fd, hb, hF⟩ := F w mg fa _ KX G.T.g hmg
  exact law_end KX G.T.g G.T.b G.T.builtins G.T.nolimit hg hobj hints (Nat.le_trans hlen hn2) hF hb fun H hO hS => hsp w H a ns hlen bits hO hS
end Md

namespace Md
open PySem PySem.Spec PyProof.Rows L2
def top (i : Nat) : Stmt := PySem.Challenge.pw_madesure_k03_least_sizes_and_ends.main.body.getD i (.Pass ⟨0, 0, 0, 0⟩)
abbrev st_is_name : Stmt := top 11
abbrev nn_is_name : List Str := ["thing", "letter"]
theorem sc_is_name : FnScope nn_is_name ["thing"] (defScope st_is_name) := ⟨rfl, rfl, rfl, by decide +kernel, rfl, by decide +kernel, by decide +kernel⟩
abbrev At_is_name (K : PySem.W.Frag) (mg : Str → Option Value) : Prop := DefAt K mg "is_name" st_is_name ["thing"]
abbrev st_is_kinds : Stmt := top 12
abbrev nn_is_kinds : List Str := ["thing", "makers", "named", "_", "row"]
theorem sc_is_kinds : FnScope nn_is_kinds ["thing"] (defScope st_is_kinds) := ⟨rfl, rfl, rfl, by decide +kernel, rfl, by decide +kernel, by decide +kernel⟩
abbrev At_is_kinds (K : PySem.W.Frag) (mg : Str → Option Value) : Prop := DefAt K mg "is_kinds" st_is_kinds ["thing"]
abbrev st_least_size : Stmt := top 13
abbrev nn_least_size : List Str := ["kinds", "kind"]
theorem sc_least_size : FnScope nn_least_size ["kinds", "kind"] (defScope st_least_size) := ⟨rfl, rfl, rfl, by decide +kernel, rfl, by decide +kernel, by decide +kernel⟩
abbrev At_least_size (K : PySem.W.Frag) (mg : Str → Option Value) : Prop := DefAt K mg "least_size" st_least_size ["kinds", "kind"]
abbrev st_is_finite : Stmt := top 14
abbrev nn_is_finite : List Str := ["kinds", "kind", "finite", "_", "name", "makers"]
theorem sc_is_finite : FnScope nn_is_finite ["kinds", "kind"] (defScope st_is_finite) := ⟨rfl, rfl, rfl, by decide +kernel, rfl, by decide +kernel, by decide +kernel⟩
abbrev At_is_finite (K : PySem.W.Frag) (mg : Str → Option Value) : Prop := DefAt K mg "is_finite" st_is_finite ["kinds", "kind"]
abbrev st_check_kinds : Stmt := top 15
abbrev nn_check_kinds : List Str := ["kinds"]
theorem sc_check_kinds : FnScope nn_check_kinds ["kinds"] (defScope st_check_kinds) := ⟨rfl, rfl, rfl, by decide +kernel, rfl, by decide +kernel, by decide +kernel⟩
abbrev At_check_kinds (K : PySem.W.Frag) (mg : Str → Option Value) : Prop := DefAt K mg "check_kinds" st_check_kinds ["kinds"]
abbrev st_check_kind : Stmt := top 16
abbrev nn_check_kind : List Str := ["kinds", "kind"]
theorem sc_check_kind : FnScope nn_check_kind ["kinds", "kind"] (defScope st_check_kind) := ⟨rfl, rfl, rfl, by decide +kernel, rfl, by decide +kernel, by decide +kernel⟩
abbrev At_check_kind (K : PySem.W.Frag) (mg : Str → Option Value) : Prop := DefAt K mg "check_kind" st_check_kind ["kinds", "kind"]
abbrev st_least_sizes : Stmt := top 17
abbrev nn_least_sizes : List Str := ["kinds", "sizes", "_", "kind", "makers", "found", "parts"]
theorem sc_least_sizes : FnScope nn_least_sizes ["kinds"] (defScope st_least_sizes) := ⟨rfl, rfl, rfl, by decide +kernel, rfl, by decide +kernel, by decide +kernel⟩
abbrev At_least_sizes (K : PySem.W.Frag) (mg : Str → Option Value) : Prop := DefAt K mg "least_sizes" st_least_sizes ["kinds"]
abbrev st_size_made : Stmt := top 18
abbrev nn_size_made : List Str := ["sizes", "parts", "part"]
theorem sc_size_made : FnScope nn_size_made ["sizes", "parts"] (defScope st_size_made) := ⟨rfl, rfl, rfl, by decide +kernel, rfl, by decide +kernel, by decide +kernel⟩
abbrev At_size_made (K : PySem.W.Frag) (mg : Str → Option Value) : Prop := DefAt K mg "size_made" st_size_made ["sizes", "parts"]
abbrev st_u_is_row : Stmt := top 19
abbrev nn_u_is_row : List Str := ["thing", "least", "most"]
theorem sc_u_is_row : FnScope nn_u_is_row ["thing", "least", "most"] (defScope st_u_is_row) := ⟨rfl, rfl, rfl, by decide +kernel, rfl, by decide +kernel, by decide +kernel⟩
abbrev At_u_is_row (K : PySem.W.Frag) (mg : Str → Option Value) : Prop := DefAt K mg "_is_row" st_u_is_row ["thing", "least", "most"]
abbrev st_u_is_named : Stmt := top 20
abbrev nn_u_is_named : List Str := ["thing", "least", "most"]
theorem sc_u_is_named : FnScope nn_u_is_named ["thing", "least", "most"] (defScope st_u_is_named) := ⟨rfl, rfl, rfl, by decide +kernel, rfl, by decide +kernel, by decide +kernel⟩
abbrev At_u_is_named (K : PySem.W.Frag) (mg : Str → Option Value) : Prop := DefAt K mg "_is_named" st_u_is_named ["thing", "least", "most"]
abbrev st_u_kind_names : Stmt := top 21
abbrev nn_u_kind_names : List Str := ["kinds", "kind", "_"]
theorem sc_u_kind_names : FnScope nn_u_kind_names ["kinds"] (defScope st_u_kind_names) := ⟨rfl, rfl, rfl, by decide +kernel, rfl, by decide +kernel, by decide +kernel⟩
abbrev At_u_kind_names (K : PySem.W.Frag) (mg : Str → Option Value) : Prop := DefAt K mg "_kind_names" st_u_kind_names ["kinds"]
abbrev st_u_maker_names : Stmt := top 22
abbrev nn_u_maker_names : List Str := ["kinds", "_", "makers", "maker"]
theorem sc_u_maker_names : FnScope nn_u_maker_names ["kinds"] (defScope st_u_maker_names) := ⟨rfl, rfl, rfl, by decide +kernel, rfl, by decide +kernel, by decide +kernel⟩
abbrev At_u_maker_names (K : PySem.W.Frag) (mg : Str → Option Value) : Prop := DefAt K mg "_maker_names" st_u_maker_names ["kinds"]
abbrev st_u_are_names_unlike : Stmt := top 23
abbrev nn_u_are_names_unlike : List Str := ["kinds", "names"]
theorem sc_u_are_names_unlike : FnScope nn_u_are_names_unlike ["kinds"] (defScope st_u_are_names_unlike) := ⟨rfl, rfl, rfl, by decide +kernel, rfl, by decide +kernel, by decide +kernel⟩
abbrev At_u_are_names_unlike (K : PySem.W.Frag) (mg : Str → Option Value) : Prop := DefAt K mg "_are_names_unlike" st_u_are_names_unlike ["kinds"]
abbrev st_u_are_parts_kinds : Stmt := top 24
abbrev nn_u_are_parts_kinds : List Str := ["kinds", "names", "_", "makers"]
theorem sc_u_are_parts_kinds : FnScope nn_u_are_parts_kinds ["kinds"] (defScope st_u_are_parts_kinds) := ⟨rfl, rfl, rfl, by decide +kernel, rfl, by decide +kernel, by decide +kernel⟩
abbrev At_u_are_parts_kinds (K : PySem.W.Frag) (mg : Str → Option Value) : Prop := DefAt K mg "_are_parts_kinds" st_u_are_parts_kinds ["kinds"]
abbrev st_u_has_all_parts : Stmt := top 25
abbrev nn_u_has_all_parts : List Str := ["makers", "names", "_", "parts"]
theorem sc_u_has_all_parts : FnScope nn_u_has_all_parts ["makers", "names"] (defScope st_u_has_all_parts) := ⟨rfl, rfl, rfl, by decide +kernel, rfl, by decide +kernel, by decide +kernel⟩
abbrev At_u_has_all_parts (K : PySem.W.Frag) (mg : Str → Option Value) : Prop := DefAt K mg "_has_all_parts" st_u_has_all_parts ["makers", "names"]
abbrev st_u_are_in : Stmt := top 26
abbrev nn_u_are_in : List Str := ["parts", "names", "part"]
theorem sc_u_are_in : FnScope nn_u_are_in ["parts", "names"] (defScope st_u_are_in) := ⟨rfl, rfl, rfl, by decide +kernel, rfl, by decide +kernel, by decide +kernel⟩
abbrev At_u_are_in (K : PySem.W.Frag) (mg : Str → Option Value) : Prop := DefAt K mg "_are_in" st_u_are_in ["parts", "names"]
abbrev st_u_have_trees : Stmt := top 27
abbrev nn_u_have_trees : List Str := ["kinds", "sizes", "kind"]
theorem sc_u_have_trees : FnScope nn_u_have_trees ["kinds"] (defScope st_u_have_trees) := ⟨rfl, rfl, rfl, by decide +kernel, rfl, by decide +kernel, by decide +kernel⟩
abbrev At_u_have_trees (K : PySem.W.Frag) (mg : Str → Option Value) : Prop := DefAt K mg "_have_trees" st_u_have_trees ["kinds"]
abbrev st_law_pot : Stmt := top 29
abbrev nn_law_pot : List Str := ["script", "k", "cell"]
theorem sc_law_pot : FnScope nn_law_pot ["script", "k"] (defScope st_law_pot) := ⟨rfl, rfl, rfl, by decide +kernel, rfl, by decide +kernel, by decide +kernel⟩
abbrev At_law_pot (K : PySem.W.Frag) (mg : Str → Option Value) : Prop := DefAt K mg "_law_pot" st_law_pot ["script", "k"]
abbrev st_law_take : Stmt := top 30
abbrev nn_law_take : List Str := ["pot", "many", "found", "one", "other"]
theorem sc_law_take : FnScope nn_law_take ["pot", "many"] (defScope st_law_take) := ⟨rfl, rfl, rfl, by decide +kernel, rfl, by decide +kernel, by decide +kernel⟩
abbrev At_law_take (K : PySem.W.Frag) (mg : Str → Option Value) : Prop := DefAt K mg "_law_take" st_law_take ["pot", "many"]
abbrev st_law_word : Stmt := top 31
abbrev nn_law_word : List Str := ["pot", "book", "letters", "word", "turn"]
theorem sc_law_word : FnScope nn_law_word ["pot", "book"] (defScope st_law_word) := ⟨rfl, rfl, rfl, by decide +kernel, rfl, by decide +kernel, by decide +kernel⟩
abbrev At_law_word (K : PySem.W.Frag) (mg : Str → Option Value) : Prop := DefAt K mg "_law_word" st_law_word ["pot", "book"]
abbrev st_law_row : Stmt := top 32
abbrev nn_law_row : List Str := ["pot", "book", "some", "most", "parts", "k"]
theorem sc_law_row : FnScope nn_law_row ["pot", "book", "some", "most"] (defScope st_law_row) := ⟨rfl, rfl, rfl, by decide +kernel, rfl, by decide +kernel, by decide +kernel⟩
abbrev At_law_row (K : PySem.W.Frag) (mg : Str → Option Value) : Prop := DefAt K mg "_law_row" st_law_row ["pot", "book", "some", "most"]
abbrev st_law_kinds : Stmt := top 33
abbrev nn_law_kinds : List Str := ["pot", "book", "way", "words", "one", "other", "a", "b", "c", "d", "e", "some", "found", "k", "rows", "turn", "by"]
theorem sc_law_kinds : FnScope nn_law_kinds ["pot", "book"] (defScope st_law_kinds) := ⟨rfl, rfl, rfl, by decide +kernel, rfl, by decide +kernel, by decide +kernel⟩
abbrev At_law_kinds (K : PySem.W.Frag) (mg : Str → Option Value) : Prop := DefAt K mg "_law_kinds" st_law_kinds ["pot", "book"]
abbrev st_law_sizes : Stmt := top 34
abbrev nn_law_sizes : List Str := ["kinds", "found", "turn", "kind", "rows", "some", "maker", "parts", "part"]
theorem sc_law_sizes : FnScope nn_law_sizes ["kinds"] (defScope st_law_sizes) := ⟨rfl, rfl, rfl, by decide +kernel, rfl, by decide +kernel, by decide +kernel⟩
abbrev At_law_sizes (K : PySem.W.Frag) (mg : Str → Option Value) : Prop := DefAt K mg "_law_sizes" st_law_sizes ["kinds"]
abbrev st_law_led : Stmt := top 35
abbrev nn_law_led : List Str := ["kinds", "kind", "found", "waiting", "here", "word", "rows", "maker", "parts", "part"]
theorem sc_law_led : FnScope nn_law_led ["kinds", "kind"] (defScope st_law_led) := ⟨rfl, rfl, rfl, by decide +kernel, rfl, by decide +kernel, by decide +kernel⟩
abbrev At_law_led (K : PySem.W.Frag) (mg : Str → Option Value) : Prop := DefAt K mg "_law_led" st_law_led ["kinds", "kind"]
abbrev st_law_ends : Stmt := top 36
abbrev nn_law_ends : List Str := ["kinds", "kind", "led", "part"]
theorem sc_law_ends : FnScope nn_law_ends ["kinds", "kind"] (defScope st_law_ends) := ⟨rfl, rfl, rfl, by decide +kernel, rfl, by decide +kernel, by decide +kernel⟩
abbrev At_law_ends (K : PySem.W.Frag) (mg : Str → Option Value) : Prop := DefAt K mg "_law_ends" st_law_ends ["kinds", "kind"]
abbrev st_law_right : Stmt := top 37
abbrev nn_law_right : List Str := ["kinds", "kind", "again", "found"]
theorem sc_law_right : FnScope nn_law_right ["kinds", "kind"] (defScope st_law_right) := ⟨rfl, rfl, rfl, by decide +kernel, rfl, by decide +kernel, by decide +kernel⟩
abbrev At_law_right (K : PySem.W.Frag) (mg : Str → Option Value) : Prop := DefAt K mg "_law_right" st_law_right ["kinds", "kind"]
abbrev st_law_written : Stmt := top 38
abbrev nn_law_written : List Str := ["some", "rows", "round_about", "alone", "marks", "marked", "ringed", "around", "k"]
theorem sc_law_written : FnScope nn_law_written [] (defScope st_law_written) := ⟨rfl, rfl, rfl, by decide +kernel, rfl, by decide +kernel, by decide +kernel⟩
abbrev At_law_written (K : PySem.W.Frag) (mg : Str → Option Value) : Prop := DefAt K mg "_law_written" st_law_written []
abbrev st_law : Stmt := top 39
abbrev nn_law : List Str := ["script", "k", "pot", "kinds", "some", "shown", "names", "rows", "kind"]
theorem sc_law : FnScope nn_law ["script"] (defScope st_law) := ⟨rfl, rfl, rfl, by decide +kernel, rfl, by decide +kernel, by decide +kernel⟩
abbrev At_law (K : PySem.W.Frag) (mg : Str → Option Value) : Prop := DefAt K mg "law" st_law ["script"]
structure Txt (K : PySem.W.Frag) (mg : Str → Option Value) (a_WORDS : Addr) : Prop where
  z_abs : mg "abs" = none
  z_all : mg "all" = none
  z_bool : mg "bool" = none
  z_int : mg "int" = none
  z_isinstance : mg "isinstance" = none
  z_len : mg "len" = none
  z_max : mg "max" = none
  z_min : mg "min" = none
  z_range : mg "range" = none
  z_repr : mg "repr" = none
  z_set : mg "set" = none
  z_str : mg "str" = none
  z_sum : mg "sum" = none
  z_tuple : mg "tuple" = none
  g_MARK : ∃ u, mg "MARK" = some u ∧ RelV (.str "mark") u
  g_WORDS : mg "WORDS" = some (.ref a_WORDS)
  t_WORDS : ∃ (o : Obj) (its : Array Value) (n : Nat), K.lookup a_WORDS = some o ∧ o.cls = .type "tuple" ∧ o.data = .seq its n ∧ its.size ≤ sizeLine ∧ Vals ((["mark", "part", "same", "test", "sum", "not", "both", "either"] : List Str).map V.str) its.toList
  g_MOST_LETTERS : ∃ u, mg "MOST_LETTERS" = some u ∧ RelV (.int 8) u
  g_MOST_KINDS : ∃ u, mg "MOST_KINDS" = some u ∧ RelV (.int 5) u
  g_MOST_MAKERS : ∃ u, mg "MOST_MAKERS" = some u ∧ RelV (.int 4) u
  g_MOST_PARTS : ∃ u, mg "MOST_PARTS" = some u ∧ RelV (.int 3) u
section
variable {P : Program} {w : World} {K : PySem.W.Frag} {mg : Str → Option Value} {base : Heap} {aW : Addr}
theorem c_law_take (F : At_law_take K mg) : C8.Cal P w K mg base 1 "_law_take" spTake [] := by
  refine F.cal sc_law_take (fun vs H Q E h => ?_) (fun f cdv A outer s H vs Q E hr h => ?_)
  · obtain ⟨p, m, n, rfl, _⟩ := h
    rfl
  · obtain ⟨p, m, n, rfl, ⟨x, y, z, hp, x0, y0, y1, z0, z1⟩, m0, m1, hn, k⟩ := h
    have nd := sc_law_take.nd
    refine ⟨_, (pss_cons (ps_if (pt_cmpR op_gt (pe_ix ix_list (pv 0) pe_int (fun _ _ => rfl)) pe_int (nomark _)) (pss_cons (ps_set (i := 2) nd rfl (by first | exact Or.inl rfl | exact Or.inr rfl) (pe_op op_mod (pe_ix ix_list (pv 0) pe_int (fun _ _ => rfl)) (pv 1)))
        (pss_cons (ps_asg (pe_op op_fdiv (pe_ix ix_list (pv 0) pe_int (fun _ _ => rfl)) (pv 1)) (pg_sub (pv 0) pe_int set_list))
        (pss_one (ps_ret (pv 2))))) pss_nil)
      (pss_cons (ps_asg (pe_op op_add (pe_ix ix_list (pv 0) pe_int (fun _ _ => rfl)) pe_int) (pg_sub (pv 0) pe_int set_list))
      (pss_cons (ps_set (i := 3) nd rfl (by first | exact Or.inl rfl | exact Or.inr rfl) (pe_op op_mod (pe_op op_pow (pe_op op_add (pe_ix ix_list (pv 0) pe_int (fun _ _ => rfl)) (pe_op op_mul pe_int (pe_ix ix_list (pv 0) pe_int (fun _ _ => rfl)))) pe_int) pe_int))
      (pss_cons (ps_set (i := 4) nd rfl (by first | exact Or.inl rfl | exact Or.inr rfl) (pe_op op_mod (pe_op op_pow (pe_op op_add (pe_op op_add (pv 3) (pe_op op_mod (pe_ix ix_list (pv 0) pe_int (fun _ _ => rfl)) pe_int)) (pe_op op_mul pe_int (pe_ix ix_list (pv 0) pe_int (fun _ _ => rfl)))) pe_int) pe_int))
      (pss_one (ps_ret (pe_op op_mod (pe_op op_fdiv (pv 4) pe_int) (pv 1)))))))), ?_⟩
    refine ⟨_, rfl, p, _, _, _, rfl, rfl, SqL.of hp, rfl, _, _, rfl, rfl, _, rfl, ?_⟩
    refine ite2 (fun c => ?_) (fun c => ?_)
    · refine ⟨_, rfl, p, _, _, _, rfl, rfl, SqL.of hp, rfl, _, rfl, _, _, rfl, rfl, m0, ?_⟩
      refine ⟨_, rfl, p, _, _, _, rfl, rfl, SqL.of hp, rfl, _, rfl, _, _, rfl, rfl, ⟨m0, m1⟩, ?_⟩
      refine ⟨_, rfl, p, _, _, _, rfl, rfl, hp, rfl, _, rfl, ?_⟩
      refine k (x % m) _ (Int.emod_nonneg x (by omega)) (Int.emod_lt_of_pos x m0) ⟨x / m, y, z, upd_same, Int.ediv_nonneg x0 (by omega), y0, y1, z0, by omega⟩ (Kp.wr hp (by simp))
    · have hz : ∀ (v : Int), upd H p (.lst ([V.int x, V.int y, V.int z].set (Int.toNat 2) (V.int v))) p = some (.lst [.int x, .int y, .int v]) := fun v => upd_same
      refine ⟨_, rfl, p, _, _, _, rfl, rfl, SqL.of hp, rfl, _, _, rfl, rfl, _, rfl, p, _, _, _, rfl, rfl, hp, rfl, ?_⟩
      refine ⟨_, rfl, p, _, _, _, rfl, rfl, SqL.of (hz _), rfl, _, rfl, p, _, _, _, rfl, rfl, SqL.of (hz _), rfl, _, _, rfl, rfl, .inl (by constructor <;> decide), _, _, rfl, rfl, _, _, rfl, rfl, ?_, ?_⟩
      · exact ⟨by decide, by decide, by show (y + 104729 * (z + 1)).natAbs < 18446744073709551616; omega⟩
      refine ⟨_, _, rfl, rfl, (by show (0 : Int) < 2305843009213693921; decide), ?_⟩
      refine ⟨_, rfl, _, rfl, p, _, _, _, rfl, rfl, SqL.of (hz _), rfl, _, _, rfl, rfl, (by show (0 : Int) < 65537; decide), _, _, rfl, rfl, _, rfl, p, _, _, _, rfl, rfl, SqL.of (hz _), rfl, _, _, rfl, rfl, .inl (by constructor <;> decide), _, _, rfl, rfl, _, _, rfl, rfl, ?_, ?_⟩
      · refine ⟨by decide, by decide, ?_⟩
        show ((y + 104729 * (z + 1)) ^ 3 % 2305843009213693921 + y % 65537 + 31 * (z + 1)).natAbs < 18446744073709551616
        omega
      refine ⟨_, _, rfl, rfl, (by show (0 : Int) < 2305843009213693907; decide), ?_⟩
      refine ⟨_, rfl, _, _, rfl, rfl, ⟨by decide, by decide⟩, _, rfl, _, _, rfl, rfl, m0, ?_⟩
      exact k _ _ (Int.emod_nonneg _ (by omega)) (Int.emod_lt_of_pos _ m0) ⟨x, y, z + 1, hz _, x0, y0, y1, by omega, by omega⟩ (Kp.wr hp (by simp))
/-- a text alone: whether it is a name -/
def spIsName : Sp := fun vs H Q _ => ∃ x : Str, vs = [.str x] ∧ x.length ≤ 1000 ∧ ∀ H', Kp [] H H' → Q (.bl (isName x)) H'
theorem c_is_name (T : Txt K mg aW) (F : At_is_name K mg) : C8.Cal P w K mg base 1 "is_name" spIsName [] := by
  refine F.cal sc_is_name (fun vs H Q E h => ?_) (fun f cdv A outer s H vs Q E hr h => ?_)
  · obtain ⟨x, rfl, _⟩ := h
    rfl
  · obtain ⟨x, rfl, hx, k⟩ := h
    have nd := sc_is_name.nd
    refine ⟨_, (pss_cons (ps_if (PW.pt (pw_or (pt_not (pt_val (pe_callB call_isi (by rfl) T.z_isinstance (by decide +kernel) (pa_cons (pv 0) (pa_cons (pe_bltn (v := .ty "str") (by rfl) T.z_str (by decide +kernel) rfl) pa_nil))))) (pw_or1 (pt_not (pt_chain op_le op_le pe_int (pe_callB call_len_str (by rfl) T.z_len (by decide +kernel) (pa_cons (pv 0) pa_nil)) (C8.pe_gc rfl T.g_MOST_LETTERS)))))) (pss_one (ps_ret pe_bl)) pss_nil)
      (pss_one (ps_ret (pe_and (pe_cmpR op_notIn_seq (pv 0) (pe_glob (v := .ref _) rfl T.g_WORDS rfl) (by rfl)) (pe_one (pe_callB (cr_all rfl) (by rfl) T.z_all (by decide +kernel) (pa_cons (pe_lc (own := [("letter", 1)]) (g := (gName 1)) (tt := tYes) rfl nd (pi_str (pv 0)) (blkOk_by (N := nn_is_name) (sc := defScope st_is_name) (own := [("letter", 1)]) (by decide +kernel)) (fun _ _ _ _ _ => (pg_name (i := 1) nd rfl (by first | exact Or.inl rfl | exact Or.inr rfl))) (fun _ _ _ _ _ => pts_nil) (fun _ _ _ _ _ => (pe_chain op_le_str op_le_str pe_str (pv 1) pe_str))) pa_nil))))))), ?_⟩
    have hsz : x.length ≤ sizeLine := Nat.le_of_lt (small1000 hx)
    refine ⟨_, rfl, _, _, _, _, true, rfl, .ty "str", .base (.str x), kit_ty (by decide +kernel), _, rfl, iteF ?_⟩
    refine ⟨_, rfl, x, rfl, hsz, _, _, rfl, rfl, _, rfl, ?_⟩
    by_cases h1 : (1 : Int) ≤ (x.length : Int)
    · refine iteD h1 ⟨_, _, rfl, rfl, _, rfl, ?_⟩
      by_cases h8 : (x.length : Int) ≤ 8
      · refine iteBn (by simp [h8]) ?_
        refine ⟨_, rfl, aW, _, rfl, .inr (.inr T.t_WORDS), rfl, flats _, _, rfl, ?_⟩
        have e1 : decide (1 ≤ x.length) = true := decide_eq_true (by omega)
        have e8 : decide (x.length ≤ 8) = true := decide_eq_true (by omega)
        by_cases hw : wordsL.contains x = true
        · refine iteBn (by rw [inV_strs]; show (!wordsL.contains x) = false; rw [hw]; rfl) ?_
          have en : isName x = false := by unfold isName; rw [hw]; simp
          rw [← en]
          exact k H Kp.refl
        · have hw' : wordsL.contains x = false := by simpa using hw
          refine iteB (by rw [inV_strs]; show (!wordsL.contains x) = true; rw [hw']; rfl) ?_
          refine ⟨_, rfl, x, rfl, fun D hD => ?_⟩
          refine lcW (S := []) walk_str (fun i => (x.cps.toList[i]?).map fun c => V.bl (decide (97 ≤ c) && decide (c ≤ 122))) hD (by simp) (small1000 hx) (fun _ _ => trivial) ?_ ?_
          · rintro i v H' H'' C N hi kp ⟨rfl, c, hc, rfl⟩ hC hN
            refine ⟨rfl, ?_⟩
            have hout : ∀ b : Bool, b = (decide (97 ≤ c) && decide (c ≤ 122)) → C (.bl b) H'' := fun b hb => hC _ _ Kp.refl (by rw [Array.getElem?_toList, hc, hb]; rfl)
            refine ⟨_, rfl, _, _, rfl, rfl, _, rfl, ?_⟩
            have ea : (("a" : Str)) = (⟨#[97]⟩ : Str) := by decide +kernel
            have ez : (("z" : Str)) = (⟨#[122]⟩ : Str) := by decide +kernel
            rw [ea, ez, lt_one]
            by_cases c1 : c < 97
            · refine iteBn (by simp [c1]) ?_
              exact hout _ (by simp; omega)
            · refine iteB (by simp [c1]) ⟨_, _, rfl, rfl, ?_⟩
              rw [lt_one]
              refine hout _ ?_
              by_cases c2 : 122 < c
              · rw [decide_eq_true c2, decide_eq_false (show ¬ c ≤ 122 by omega)]; simp
              · rw [decide_eq_false c2, decide_eq_true (show c ≤ 122 by omega), decide_eq_true (show 97 ≤ c by omega)]; rfl
          · intro H' kp hH'
            have hl := range_map (fun c : Nat => V.bl (decide (97 ≤ c) && decide (c ≤ 122))) x.cps.toList
            rw [Array.length_toList] at hl
            rw [hl] at hH'
            refine ⟨D, x.cps.toList.map (fun c => decide (97 ≤ c) && decide (c ≤ 122)), rfl, ?_, ?_⟩
            · rw [List.map_map]; exact SqL.of hH'
            · rw [List.all_map]
              have en : isName x = x.cps.toList.all (id ∘ fun c => decide (97 ≤ c) && decide (c ≤ 122)) := by
                unfold isName
                rw [e1, e8, hw']
                rfl
              rw [← en]
              exact k H' kp
      · refine iteB (by simp; omega) ?_
        have en : isName x = false := by unfold isName; rw [decide_eq_false (show ¬ x.length ≤ 8 by omega)]; simp
        rw [← en]
        exact k H Kp.refl
    · refine iteDn h1 ⟨_, rfl, ?_⟩
      have en : isName x = false := by unfold isName; rw [decide_eq_false (show ¬ 1 ≤ x.length by omega)]; simp
      have z := k H Kp.refl
      rw [en] at z
      exact z
end
end Md

namespace Md
open PySem PySem.Spec PyProof.Rows L2

section
variable {P : Program} {w : World} {K : PySem.W.Frag} {mg : Str → Option Value} {base : Heap} {aW : Addr}
theorem tyx_tup {H : Hp} {a : Addr} {xs : List V} (h : SqT K H a xs) : TyX K H (.ref a) (.type "tuple") := by
  rcases h with (h | ⟨o, h⟩) | ⟨o, its, n, hk, hc, _⟩
  · exact .base (.tup h)
  · exact .fTuple h
  · exact .kTuple hk hc
/-- a tuple alone: whether it has so many items -/
def spIsRow (K : PySem.W.Frag) : Sp := fun vs H Q _ => ∃ (a : Addr) (xs : List V) (l m : Int), vs = [.ref a, .int l, .int m] ∧ SqT K H a xs ∧ Q (.bl (decide (l ≤ (xs.length : Int)) && decide ((xs.length : Int) ≤ m))) H
theorem c_u_is_row (T : Txt K mg aW) (F : At_u_is_row K mg) : C8.Cal P w K mg base 1 "_is_row" (spIsRow K) [] := by
  refine F.cal sc_u_is_row (fun vs H Q E h => ?_) (fun f cdv A outer s H vs Q E hr h => ?_)
  · obtain ⟨a, xs, l, m, rfl, _⟩ := h
    rfl
  · obtain ⟨a, xs, l, m, rfl, hq, k⟩ := h
    have nd := sc_u_is_row.nd
    refine ⟨_, (pss_one (ps_ret (pe_and (pe_callB call_isi (by rfl) T.z_isinstance (by decide +kernel) (pa_cons (pv 0) (pa_cons (pe_bltn (v := .ty "tuple") (by rfl) T.z_tuple (by decide +kernel) rfl) pa_nil))) (pe_one (pe_chain op_le op_le (pv 1) (pe_callB call_len_seq (by rfl) T.z_len (by decide +kernel) (pa_cons (pv 0) pa_nil)) (pv 2)))))), ?_⟩
    refine ⟨_, rfl, _, _, _, _, true, rfl, .ty "tuple", tyx_tup hq, kit_ty (by decide +kernel), _, rfl, iteT ?_⟩
    refine ⟨_, rfl, _, rfl, a, xs, rfl, .inr hq, _, _, rfl, rfl, _, rfl, ?_⟩
    by_cases h1 : l ≤ (xs.length : Int)
    · rw [decide_eq_true h1, Bool.true_and] at k
      exact iteD h1 ⟨_, rfl, _, _, rfl, rfl, k⟩
    · rw [decide_eq_false h1, Bool.false_and] at k
      exact iteDn h1 k
/-- a pair of a text and a tuple: whether it is named, with so many items -/
def spIsNamed (K : PySem.W.Frag) : Sp := fun vs H Q _ => ∃ (a b : Addr) (n : Str) (xs : List V) (l m : Int), vs = [.ref a, .int l, .int m] ∧ SqT K H a [.str n, .ref b] ∧ SqT K H b xs ∧ n.length ≤ 1000 ∧
  ∀ H', Kp [] H H' → Q (.bl (isName n && (decide (l ≤ (xs.length : Int)) && decide ((xs.length : Int) ≤ m)))) H'
theorem c_u_is_named (c_u_is_row : C8.Cal P w K mg base 1 "_is_row" (spIsRow K) []) (c_is_name : C8.Cal P w K mg base 1 "is_name" spIsName []) (F : At_u_is_named K mg) : C8.Cal P w K mg base 2 "_is_named" (spIsNamed K) [] := by
  refine F.cal sc_u_is_named (fun vs H Q E h => ?_) (fun f cdv A outer s H vs Q E hr h => ?_)
  · obtain ⟨a, b, n, xs, l, m, rfl, _⟩ := h
    rfl
  · obtain ⟨a, b, n, xs, l, m, rfl, ha, hb, hn, k⟩ := h
    have nd := sc_u_is_named.nd
    refine ⟨_, (pss_one (ps_ret (pe_and (C8.pe_c c_u_is_row hr (by decide) rfl (pa_cons (pv 0) (pa_cons pe_int (pa_cons pe_int pa_nil)))) (pe_and (C8.pe_c c_is_name hr (by decide) rfl (pa_cons (pe_ix ix_tup (pv 0) pe_int (fun _ _ => rfl)) pa_nil)) (pe_one (C8.pe_c c_u_is_row hr (by decide) rfl (pa_cons (pe_ix ix_tup (pv 0) pe_int (fun _ _ => rfl)) (pa_cons (pv 1) (pa_cons (pv 2) pa_nil))))))))), ?_⟩
    refine ⟨_, rfl, a, _, 2, 2, rfl, ha, _, rfl, iteT ?_⟩
    refine ⟨_, rfl, _, _, _, _, rfl, rfl, ha, rfl, n, rfl, hn, fun H1 k1 => ⟨_, rfl, ?_⟩⟩
    by_cases h1 : isName n = true
    · refine iteB h1 ⟨_, rfl, _, _, _, _, rfl, rfl, k1.sqt ha, rfl, _, rfl, _, rfl, b, xs, l, m, rfl, k1.sqt hb, ?_⟩
      have z := k H1 k1
      rw [h1, Bool.true_and] at z
      exact z
    · have h1' : isName n = false := by simpa using h1
      refine iteBn h1' ?_
      have z := k H1 k1
      rw [h1', Bool.false_and] at z
      exact z
/-- the kinds' names, in a new list -/
def spKindNames (K : PySem.W.Frag) : Sp := fun vs H Q _ => ∃ (v : V) (ks : Kds), vs = [v] ∧ KdsT K H v ks ∧ ks.length ≤ 100 ∧
  ∀ H' p, Kp [] H H' → H p = none → H' p = some (.lst ((kindNames ks).map V.str)) → Q (.ref p) H'
theorem c_u_kind_names (F : At_u_kind_names K mg) : C8.Cal P w K mg base 1 "_kind_names" (spKindNames K) [] := by
  refine F.cal sc_u_kind_names (fun vs H Q E h => ?_) (fun f cdv A outer s H vs Q E hr h => ?_)
  · obtain ⟨v, ks, rfl, _⟩ := h
    rfl
  · obtain ⟨v, ks, rfl, ⟨a, us, rfl, hq, hp⟩, hl, k⟩ := h
    have nd := sc_u_kind_names.nd
    have ul := plen hp
    refine ⟨_, (pss_one (ps_ret (pe_lc (own := [("kind", 1), ("_", 2)]) (g := (gTup _ 2 (gCons (gName 1) (gCons (gName 2) gNil)))) (tt := tYes) rfl nd (pi_tup (pv 0)) (blkOk_by (N := nn_u_kind_names) (sc := defScope st_u_kind_names) (own := [("kind", 1), ("_", 2)]) (by decide +kernel)) (fun _ _ _ _ _ => (pg_tup rfl (pgs_cons (pg_name (i := 1) nd rfl (by first | exact Or.inl rfl | exact Or.inr rfl)) (pgs_cons (pg_name (i := 2) nd rfl (by first | exact Or.inl rfl | exact Or.inr rfl)) pgs_nil)))) (fun _ _ _ _ _ => pts_nil) (fun _ _ _ _ _ => (pv 1))))), ?_⟩
    refine ⟨_, rfl, a, rfl, ⟨_, hq⟩, fun D hD => ?_⟩
    refine lcW (S := []) walk_tup (fun i => (ks[i]?).map fun d => V.str d.1) hD (by simp) (small1000 (by omega)) (fun H' kk => kk.sqt hq) ?_ ?_
    · rintro i x H' H'' C N hi kk ⟨rfl, hx⟩ hC hN
      obtain ⟨d, hd, b, q, rfl, hb, _⟩ := pget hp hx
      refine ⟨b, _, rfl, kk.sqt hb, rfl, _, _, rfl, _, _, rfl, rfl, rfl, ?_⟩
      exact ⟨_, rfl, hC _ _ Kp.refl (by rw [hd]; rfl)⟩
    · intro H' kk e
      rw [ul, range_map] at e
      refine k H' D kk hD ?_
      rw [e, kindNames, List.map_map]
      rfl
/-- the makers' names, in a new list -/
def spMakerNames (K : PySem.W.Frag) : Sp := fun vs H Q _ => ∃ (v : V) (ks : Kds), vs = [v] ∧ KdsT K H v ks ∧ ks.length ≤ 100 ∧ (∀ d ∈ ks, d.2.length ≤ 100) ∧
  ∀ H' p, Kp [] H H' → H p = none → H' p = some (.lst ((makerNames ks).map V.str)) → Q (.ref p) H'
theorem flat_len {ks : Kds} {m : Nat} (h : ∀ d ∈ ks, d.2.length ≤ m) : (rowsOf ks).length ≤ ks.length * m := by
  induction ks with
  | nil => simp [rowsOf]
  | cons d r ih =>
    have h1 := ih fun d hd => h d (List.mem_cons_of_mem _ hd)
    have h2 := h d List.mem_cons_self
    rw [rowsOf, List.flatMap_cons, List.length_append, List.length_cons, Nat.add_mul, Nat.one_mul]
    rw [rowsOf] at h1
    omega
theorem take_flat {ks : Kds} {i : Nat} {d : Kd} (h : ks[i]? = some d) : rowsOf (ks.take (i + 1)) = rowsOf (ks.take i) ++ d.2 := by
  have hi := (List.getElem?_eq_some_iff.mp h).1
  have hd := (List.getElem?_eq_some_iff.mp h).2
  rw [List.take_succ_eq_append_getElem hi, hd, rowsOf, List.flatMap_append]
  simp [rowsOf]
theorem c_u_maker_names (F : At_u_maker_names K mg) : C8.Cal P w K mg base 1 "_maker_names" (spMakerNames K) [] := by
  refine F.cal sc_u_maker_names (fun vs H Q E h => ?_) (fun f cdv A outer s H vs Q E hr h => ?_)
  · obtain ⟨v, ks, rfl, _⟩ := h
    rfl
  · obtain ⟨v, ks, rfl, ⟨a, us, rfl, hq, hp⟩, hl, hl2, k⟩ := h
    have nd := sc_u_maker_names.nd
    have ul := plen hp
    refine ⟨_, (pss_one (ps_ret (pe_lc2 (own := [("_", 1), ("makers", 2), ("maker", 3), ("_", 1)]) (vs1 := [3, 1]) (wi1 := iTup K (tVar 2)) (g := (gTup _ 2 (gCons (gName 1) (gCons (gName 2) gNil)))) (g1 := (gTup _ 2 (gCons (gName 3) (gCons (gName 1) gNil)))) (tt := tYes) (tt1 := tYes) rfl nd (pi_tup (pv 0)) (blkOk_by (N := nn_u_maker_names) (sc := defScope st_u_maker_names) (own := [("_", 1), ("makers", 2), ("maker", 3), ("_", 1)]) (by decide +kernel)) (by decide) (fun _ _ _ _ _ => (pg_tup rfl (pgs_cons (pg_name (i := 1) nd rfl (by first | exact Or.inl rfl | exact Or.inr rfl)) (pgs_cons (pg_name (i := 2) nd rfl (by first | exact Or.inl rfl | exact Or.inr rfl)) pgs_nil)))) (fun _ _ _ _ _ => pts_nil) (by exact fun _ _ _ _ _ => (pi_tup (pv 2))) (fun _ _ _ _ _ => (pg_tup rfl (pgs_cons (pg_name (i := 3) nd rfl (by first | exact Or.inl rfl | exact Or.inr rfl)) (pgs_cons (pg_name (i := 1) nd rfl (by first | exact Or.inl rfl | exact Or.inr rfl)) pgs_nil)))) (fun _ _ _ _ _ => pts_nil) (fun _ _ _ _ _ => (pv 3))))), ?_⟩
    refine ⟨_, rfl, a, rfl, ⟨_, hq⟩, fun D hD => ?_⟩
    refine lcO (S := []) walk_tup (fun i => (rowsOf (ks.take i)).map fun r => V.str r.1) (by simp [rowsOf]) hD (fun H' kk => kk.sqt hq) ?_ ?_
    · rintro i x H' H'' hi kk e ⟨rfl, hx⟩
      obtain ⟨d, hd, b, q, rfl, hb, ⟨c, ws, rfl, hc, hr2⟩⟩ := pget hp hx
      have dm : d ∈ ks := List.mem_of_getElem? hd
      have wl := plen hr2
      refine ⟨b, _, rfl, kk.sqt hb, rfl, _, _, rfl, _, _, rfl, rfl, rfl, ?_⟩
      refine ⟨_, rfl, c, rfl, ⟨_, kk.sqt hc⟩, ?_⟩
      have zl : ((rowsOf (ks.take i)).map fun r => V.str r.1).length ≤ 10000 := by
        rw [List.length_map]
        refine Nat.le_trans (flat_len (m := 100) fun d hd => hl2 d (List.mem_of_mem_take hd)) ?_
        have := List.length_take_le i ks
        omega
      have d100 := hl2 d dm
      refine lcI (S := []) walk_tup (fun j => (d.2[j]?).map fun r => V.str r.1) _ hD (by simp) kk e (Nat.lt_of_le_of_lt (show _ ≤ 20000 by omega) (by decide)) (fun H' k2 => k2.sqt hc) ?_ ?_
      · rintro j y H3 H4 C N hj k3 ⟨rfl, hy⟩ hC hN
        obtain ⟨r, hr3, b2, q2, rfl, hb2, _⟩ := pget hr2 hy
        refine ⟨b2, _, rfl, k3.sqt hb2, rfl, _, _, rfl, _, _, rfl, rfl, rfl, ?_⟩
        exact ⟨_, rfl, hC _ _ Kp.refl (by rw [hr3]; rfl)⟩
      · intro H3 k3 e3
        refine ⟨k3, ?_⟩
        rw [wl, range_map] at e3
        rw [e3, take_flat hd, List.map_append]
    · intro H' kk e
      rw [ul, List.take_length] at e
      refine k H' D kk hD ?_
      rw [e, makerNames, List.map_map]
      rfl
end

end Md

namespace Md
open PySem PySem.Spec PyProof.Rows L2

section
variable {P : Program} {w : World} {K : PySem.W.Frag} {mg : Str → Option Value} {base : Heap} {aW : Addr}
/-- what names may be: a list of texts, or the dict of sizes -/
def NamesT (K : PySem.W.Frag) (H : Hp) (v : V) (f : Str → Bool) : Prop :=
  (∃ (p : Addr) (ns : List Str), v = .ref p ∧ SqL K H p (ns.map V.str) ∧ f = fun x => ns.contains x) ∨ ∃ (p : Addr) (S : Szs), v = .ref p ∧ H p = some (.dK (dictS S)) ∧ f = fun x => (lookS S x).isSome
theorem NamesT.kp {H H' : Hp} {v : V} {f : Str → Bool} (k : Kp [] H H') (h : NamesT K H v f) : NamesT K H' v f := by
  rcases h with ⟨p, ns, e, q, ef⟩ | ⟨p, S, e, q, ef⟩
  · exact .inl ⟨p, ns, e, k.sql q (by simp), ef⟩
  · exact .inr ⟨p, S, e, k.old _ _ q (by simp), ef⟩
/-- all([b for ..]) of truths -/
theorem allB (bs : List Bool) : bs.all id = bs.all fun b => b := rfl
def spAreIn (K : PySem.W.Frag) : Sp := fun vs H Q _ => ∃ (v u : V) (ps : List Str) (f : Str → Bool), vs = [v, u] ∧ StrsT K H v ps ∧ ps.length ≤ 100 ∧ NamesT K H u f ∧ ∀ H', Kp [] H H' → Q (.bl (ps.all f)) H'
theorem c_u_are_in (T : Txt K mg aW) (F : At_u_are_in K mg) : C8.Cal P w K mg base 1 "_are_in" (spAreIn K) [] := by
  refine F.cal sc_u_are_in (fun vs H Q E h => ?_) (fun f cdv A outer s H vs Q E hr h => ?_)
  · obtain ⟨v, u, ps, f, rfl, _⟩ := h
    rfl
  · obtain ⟨v, u, ps, f, rfl, ⟨a, rfl, hq⟩, hl, hn, k⟩ := h
    have nd := sc_u_are_in.nd
    have hu := hu_of hr
    refine ⟨_, (pss_one (ps_ret (pe_callB (cr_all rfl) (by rfl) T.z_all (by decide +kernel) (pa_cons (pe_lc (own := [("part", 2)]) (te := tOp (fun x y H Q => rIn K false x y H Q ∨ rInDct x y H Q) (tVar 2) (tVar 1)) (g := (gName 2)) (tt := tYes) rfl nd (pi_tup (pv 0)) (blkOk_by (N := nn_u_are_in) (sc := defScope st_u_are_in) (own := [("part", 2)]) (by decide +kernel)) (fun _ _ _ _ _ => (pg_name (i := 2) nd rfl (by first | exact Or.inl rfl | exact Or.inr rfl))) (fun _ _ _ _ _ => pts_nil) (fun _ _ _ _ _ => (pe_cmpR (OpR.or op_in_seq (op_in_dct hu)) (pv 2) (pv 1) (by rfl)))) pa_nil)))), ?_⟩
    refine ⟨_, rfl, a, rfl, ⟨_, hq⟩, fun D hD => ?_⟩
    refine lcW (S := []) walk_tup (fun i => (ps[i]?).map fun p => V.bl (f p)) hD (by simp) (small1000 (by rw [List.length_map]; omega)) (fun H' kk => kk.sqt hq) ?_ ?_
    · rintro i x H' H'' C N hi kk ⟨rfl, hx⟩ hC hN
      rw [List.getElem?_map] at hx
      obtain ⟨p, hp, rfl⟩ := Option.map_eq_some_iff.mp hx
      refine ⟨rfl, ⟨_, rfl, _, rfl, ?_⟩⟩
      rcases hn.kp kk with ⟨q, ns, rfl, hs, ef⟩ | ⟨q, S, rfl, hs, ef⟩
      · refine .inl ⟨q, _, rfl, .inl hs, rfl, flats _, ?_⟩
        refine hC _ _ Kp.refl ?_
        rw [hp, ef]
        show some (V.bl (ns.contains p)) = some (V.bl (inV (.str p) (ns.map V.str)))
        rw [inV_strs]
      · refine .inr ⟨q, _, rfl, DGet.k (k := Sum.inr p) hs, ?_⟩
        refine hC _ _ Kp.refl ?_
        rw [hp, ef, dictS_val, Option.isSome_map]
        rfl
    · intro H' kk e
      rw [List.length_map, range_map] at e
      refine ⟨D, ps.map f, rfl, by rw [List.map_map]; exact SqL.of e, ?_⟩
      rw [List.all_map]
      exact k H' kk
def spHasAll (K : PySem.W.Frag) : Sp := fun vs H Q _ => ∃ (v u : V) (rs : List Rw) (f : Str → Bool), vs = [v, u] ∧ RowsT K H v rs ∧ rs.length ≤ 100 ∧ (∀ r ∈ rs, r.2.length ≤ 100) ∧ NamesT K H u f ∧ ∀ H', Kp [] H H' → Q (.bl (rs.all fun r => r.2.all f)) H'
theorem c_u_has_all_parts (T : Txt K mg aW) (c_u_are_in : C8.Cal P w K mg base 1 "_are_in" (spAreIn K) []) (F : At_u_has_all_parts K mg) : C8.Cal P w K mg base 2 "_has_all_parts" (spHasAll K) [] := by
  refine F.cal sc_u_has_all_parts (fun vs H Q E h => ?_) (fun f cdv A outer s H vs Q E hr h => ?_)
  · obtain ⟨v, u, rs, f, rfl, _⟩ := h
    rfl
  · obtain ⟨v, u, rs, f, rfl, ⟨a, us, rfl, hq, hp⟩, hl, hl2, hn, k⟩ := h
    have nd := sc_u_has_all_parts.nd
    have ul := plen hp
    refine ⟨_, (pss_one (ps_ret (pe_callB (cr_all rfl) (by rfl) T.z_all (by decide +kernel) (pa_cons (pe_lc (own := [("_", 2), ("parts", 3)]) (g := (gTup _ 2 (gCons (gName 2) (gCons (gName 3) gNil)))) (tt := tYes) rfl nd (pi_tup (pv 0)) (blkOk_by (N := nn_u_has_all_parts) (sc := defScope st_u_has_all_parts) (own := [("_", 2), ("parts", 3)]) (by decide +kernel)) (fun _ _ _ _ _ => (pg_tup rfl (pgs_cons (pg_name (i := 2) nd rfl (by first | exact Or.inl rfl | exact Or.inr rfl)) (pgs_cons (pg_name (i := 3) nd rfl (by first | exact Or.inl rfl | exact Or.inr rfl)) pgs_nil)))) (fun _ _ _ _ _ => pts_nil) (fun _ _ _ _ _ => (C8.pe_c c_u_are_in hr (by decide) rfl (pa_cons (pv 3) (pa_cons (pv 1) pa_nil))))) pa_nil)))), ?_⟩
    refine ⟨_, rfl, a, rfl, ⟨_, hq⟩, fun D hD => ?_⟩
    refine lcW (S := []) walk_tup (fun i => (rs[i]?).map fun r => V.bl (r.2.all f)) hD (by simp) (small1000 (by omega)) (fun H' kk => kk.sqt hq) ?_ ?_
    · rintro i x H' H'' C N hi kk ⟨rfl, hx⟩ hC hN
      obtain ⟨r, hr3, b, q, rfl, hb, hps⟩ := pget hp hx
      refine ⟨b, _, rfl, kk.sqt hb, rfl, _, _, rfl, _, _, rfl, rfl, rfl, ?_⟩
      refine ⟨_, rfl, _, rfl, _, _, r.2, f, rfl, hps.kp kk, hl2 r (List.mem_of_getElem? hr3), hn.kp kk, fun H1 k1 => ?_⟩
      exact hC _ _ k1 (by rw [hr3]; rfl)
    · intro H' kk e
      rw [ul, range_map] at e
      refine ⟨D, rs.map fun r => r.2.all f, rfl, by rw [List.map_map]; exact SqL.of e, ?_⟩
      rw [List.all_map]
      exact k H' kk
def spPartsKinds (K : PySem.W.Frag) : Sp := fun vs H Q _ => ∃ (v : V) (ks : Kds), vs = [v] ∧ KdsT K H v ks ∧ GoodK ks ∧ ∀ H', Kp [] H H' → Q (.bl true) H'
theorem c_u_are_parts_kinds (T : Txt K mg aW) (c_u_kind_names : C8.Cal P w K mg base 1 "_kind_names" (spKindNames K) []) (c_u_has_all_parts : C8.Cal P w K mg base 2 "_has_all_parts" (spHasAll K) []) (F : At_u_are_parts_kinds K mg) :
    C8.Cal P w K mg base 3 "_are_parts_kinds" (spPartsKinds K) [] := by
  refine F.cal sc_u_are_parts_kinds (fun vs H Q E h => ?_) (fun f cdv A outer s H vs Q E hr h => ?_)
  · obtain ⟨v, ks, rfl, _⟩ := h
    rfl
  · obtain ⟨v, ks, rfl, hk, g, k⟩ := h
    have nd := sc_u_are_parts_kinds.nd
    have l5 := g.l5
    refine ⟨_, (pss_cons (ps_set (i := 1) nd rfl (by first | exact Or.inl rfl | exact Or.inr rfl) (pe_op op_cat (pe_lst (pa_cons (C8.pe_gc rfl T.g_MARK) pa_nil)) (C8.pe_c c_u_kind_names hr (by decide) rfl (pa_cons (pv 0) pa_nil))))
      (pss_one (ps_ret (pe_callB (cr_all rfl) (by rfl) T.z_all (by decide +kernel) (pa_cons (pe_lc (own := [("_", 2), ("makers", 3)]) (g := (gTup _ 2 (gCons (gName 2) (gCons (gName 3) gNil)))) (tt := tYes) rfl nd (pi_tup (pv 0)) (blkOk_by (N := nn_u_are_parts_kinds) (sc := defScope st_u_are_parts_kinds) (own := [("_", 2), ("makers", 3)]) (by decide +kernel)) (fun _ _ _ _ _ => (pg_tup rfl (pgs_cons (pg_name (i := 2) nd rfl (by first | exact Or.inl rfl | exact Or.inr rfl)) (pgs_cons (pg_name (i := 3) nd rfl (by first | exact Or.inl rfl | exact Or.inr rfl)) pgs_nil)))) (fun _ _ _ _ _ => pts_nil) (fun _ _ _ _ _ => (C8.pe_c c_u_has_all_parts hr (by decide) rfl (pa_cons (pv 3) (pa_cons (pv 1) pa_nil))))) pa_nil))))), ?_⟩
    refine ⟨(by show 1 ≤ sizeLine; decide), fun p hp => ?_⟩
    have k0 : Kp [] H (upd H p (.lst [.str "mark"])) := Kp.new hp
    refine ⟨_, rfl, _, ks, rfl, hk.kp k0, by omega, fun H1 q k1 hq e1 => ?_⟩
    have ep : H1 p = some (.lst [.str "mark"]) := k1.old _ _ upd_same (by simp)
    refine ⟨p, q, _, _, rfl, rfl, ep, e1, ?_, fun r hr2 => ?_⟩
    · rw [List.length_map]
      exact Nat.le_of_lt (small1000 (by simp [kindNames]; omega))
    have k2 : Kp [] H (upd H1 r (.lst ([V.str "mark"] ++ (kindNames ks).map V.str))) := (k0.trans k1).new' hr2
    have sr : SqL K (upd H1 r (.lst ([V.str "mark"] ++ (kindNames ks).map V.str))) r ((("mark" : Str) :: kindNames ks).map V.str) := SqL.of upd_same
    obtain ⟨a, us, rfl, hq2, hp2⟩ := hk
    have ul := plen hp2
    refine ⟨_, rfl, a, rfl, ⟨_, k2.sqt hq2⟩, fun D hD => ?_⟩
    refine lcW (S := []) walk_tup (fun i => (ks[i]?).map fun d => V.bl (d.2.all fun r => r.2.all fun x => (("mark" : Str) :: kindNames ks).contains x)) hD (by simp) (small1000 (by omega)) (fun H' kk => kk.sqt (k2.sqt hq2)) ?_ ?_
    · rintro i x H' H'' C N hi kk ⟨rfl, hx⟩ hC hN
      obtain ⟨d, hd, b, q, rfl, hb, hrs⟩ := pget hp2 hx
      have dm := List.mem_of_getElem? hd
      have m4 := g.m4 d dm
      refine ⟨b, _, rfl, kk.sqt (k2.sqt hb), rfl, _, _, rfl, _, _, rfl, rfl, rfl, ?_⟩
      refine ⟨_, rfl, _, rfl, _, _, d.2, _, rfl, (hrs.kp k2).kp kk, by omega, fun r hr3 => ?_, .inl ⟨r, _, rfl, kk.sql sr (by simp), rfl⟩, fun H3 k3 => ?_⟩
      · have := g.p3 d dm r hr3
        omega
      · exact hC _ _ k3 (by rw [hd]; rfl)
    · intro H' kk e
      rw [ul, range_map] at e
      refine ⟨D, ks.map fun d => d.2.all fun r => r.2.all fun x => (("mark" : Str) :: kindNames ks).contains x, rfl, by rw [List.map_map]; exact SqL.of e, ?_⟩
      have et : (ks.map fun d => d.2.all fun r => r.2.all fun x => (("mark" : Str) :: kindNames ks).contains x).all id = true := by
        rw [List.all_map]
        refine List.all_eq_true.mpr fun d hd => ?_
        refine List.all_eq_true.mpr fun r hr3 => List.all_eq_true.mpr fun x hx => ?_
        rcases g.ps d hd r hr3 x hx with z | z
        · subst z; simp
        · simp [z]
      rw [et]
      exact k H' (k2.trans kk)
def spSizeMade (K : PySem.W.Frag) : Sp := fun vs H Q _ => ∃ (d : Addr) (S : Szs) (v : V) (ps : List Str), vs = [.ref d, v] ∧ H d = some (.dK (dictS S)) ∧ StrsT K H v ps ∧ ps.length ≤ 100 ∧ (∀ p ∈ ps, (lookS S p).isSome = true) ∧ ∀ H', Kp [] H H' → Q (.int (sizeMade S ps)) H'
theorem c_size_made (T : Txt K mg aW) (F : At_size_made K mg) : C8.Cal P w K mg base 1 "size_made" (spSizeMade K) [] := by
  refine F.cal sc_size_made (fun vs H Q E h => ?_) (fun f cdv A outer s H vs Q E hr h => ?_)
  · obtain ⟨d, S, v, ps, rfl, _⟩ := h
    rfl
  · obtain ⟨d, S, v, ps, rfl, hd, ⟨a, rfl, hq⟩, hl, ha, k⟩ := h
    have nd := sc_size_made.nd
    have hu := hu_of hr
    refine ⟨_, (pss_one (ps_ret (pe_op op_add pe_int (pe_callB (cr_sum rfl) (by rfl) T.z_sum (by decide +kernel) (pa_cons (pe_lc (own := [("part", 2)]) (g := (gName 2)) (tt := tYes) rfl nd (pi_tup (pv 1)) (blkOk_by (N := nn_size_made) (sc := defScope st_size_made) (own := [("part", 2)]) (by decide +kernel)) (fun _ _ _ _ _ => (pg_name (i := 2) nd rfl (by first | exact Or.inl rfl | exact Or.inr rfl))) (fun _ _ _ _ _ => pts_nil) (fun _ _ _ _ _ => (pe_dget hu (pv 0) (pv 2) (fun _ _ => rfl)))) pa_nil))))), ?_⟩
    refine ⟨_, rfl, a, rfl, ⟨_, hq⟩, fun D hD => ?_⟩
    refine lcW (S := []) walk_tup (fun i => (ps[i]?).map fun p => V.int ((lookS S p).getD 0)) hD (by simp) (small1000 (by rw [List.length_map]; omega)) (fun H' kk => kk.sqt hq) ?_ ?_
    · rintro i x H' H'' C N hi kk ⟨rfl, hx⟩ hC hN
      rw [List.getElem?_map] at hx
      obtain ⟨p, hp, rfl⟩ := Option.map_eq_some_iff.mp hx
      obtain ⟨n, en⟩ := Option.isSome_iff_exists.mp (ha p (List.mem_of_getElem? hp))
      have g := DGet.k (k := (Sum.inr p : Key)) (kk.old _ _ hd (by simp))
      rw [dictS_val, en] at g
      refine ⟨rfl, ⟨_, rfl, _, rfl, d, _, rfl, g, ?_⟩⟩
      exact hC _ _ Kp.refl (by rw [hp]; simp [en])
    · intro H' kk e
      rw [List.length_map, range_map] at e
      refine ⟨D, ps.map fun p => (lookS S p).getD 0, rfl, by rw [List.map_map]; exact SqL.of e, _, _, rfl, rfl, ?_⟩
      exact k H' kk
end

end Md

namespace Md
open PySem PySem.Spec PyProof.Rows L2

section
variable {P : Program} {w : World} {K : PySem.W.Frag} {mg : Str → Option Value} {base : Heap} {aW : Addr}
structure SmallK (ks : Kds) : Prop where
  a : ks.length ≤ 100
  b : ∀ d ∈ ks, d.2.length ≤ 100
  c : ∀ d ∈ ks, ∀ r ∈ d.2, r.2.length ≤ 100
theorem GoodK.small {ks : Kds} (g : GoodK ks) : SmallK ks :=
  ⟨by have := g.l5; omega, fun d h => by have := g.m4 d h; omega, fun d h r hr => by have := g.p3 d h r hr; omega⟩
theorem minL_spec : ∀ l : List Int, l ≠ [] → minL l ∈ l ∧ ∀ y ∈ l, minL l ≤ y
  | [], h => absurd rfl h
  | [a], _ => ⟨by simp [minL], fun y hy => by simp at hy; subst hy; exact Int.le_refl _⟩
  | a :: b :: r, _ => by
    obtain ⟨h1, h2⟩ := minL_spec (b :: r) (by simp)
    rw [minL]
    refine ⟨?_, fun y hy => ?_⟩
    · rcases Int.le_total a (minL (b :: r)) with h | h
      · rw [Int.min_eq_left h]; exact List.mem_cons_self
      · rw [Int.min_eq_right h]; exact List.mem_cons_of_mem _ h1
    · rcases List.mem_cons.mp hy with e | e
      · subst e; exact Int.min_le_left _ _
      · exact Int.le_trans (Int.min_le_right _ _) (h2 y e)
theorem minL_is {l : List Int} {m : Int} (hm : m ∈ l) (hle : ∀ y ∈ l, m ≤ y) : m = minL l := by
  obtain ⟨h1, h2⟩ := minL_spec l (fun z => by subst z; cases hm)
  exact Int.le_antisymm (hle _ h1) (h2 _ hm)
theorem stepK_len (S : Szs) (k : Kd) : (stepK S k).length ≤ S.length + 1 := by
  unfold stepK
  split
  · omega
  · exact putS_len _ _ _
theorem roundK_len : ∀ (ks : Kds) (S : Szs), (roundK ks S).length ≤ S.length + ks.length
  | [], S => Nat.le_refl _
  | k :: ks, S => by
    have h1 := roundK_len ks (stepK S k)
    have h2 := stepK_len S k
    rw [List.length_cons]
    show (roundK ks (stepK S k)).length ≤ _
    omega
theorem sizesN_len (ks : Kds) : ∀ n, (sizesN ks n).length ≤ 1 + n * ks.length
  | 0 => by simp [sizesN, sizes0]
  | n + 1 => by
    have h1 := sizesN_len ks n
    have h2 := roundK_len ks (sizesN ks n)
    show (roundK ks (sizesN ks n)).length ≤ _
    rw [Nat.add_mul, Nat.one_mul]
    omega
theorem roundK_take {ks : Kds} {j : Nat} {d : Kd} (S : Szs) (h : ks[j]? = some d) : roundK (ks.take (j + 1)) S = stepK (roundK (ks.take j) S) d := by
  have hi := (List.getElem?_eq_some_iff.mp h).1
  have hd := (List.getElem?_eq_some_iff.mp h).2
  rw [List.take_succ_eq_append_getElem hi, hd, roundK, List.foldl_append]
  rfl
/-- the least sizes in a new dict -/
def spLeastSizes (K : PySem.W.Frag) : Sp := fun vs H Q _ => ∃ (v : V) (ks : Kds), vs = [v] ∧ KdsT K H v ks ∧ SmallK ks ∧ ∀ H' p, Kp [] H H' → H p = none → H' p = some (.dK (dictS (leastS ks))) → Q (.ref p) H'
set_option maxHeartbeats 1000000 in
theorem c_least_sizes (T : Txt K mg aW) (c_size_made : C8.Cal P w K mg base 1 "size_made" (spSizeMade K) []) (c_u_are_in : C8.Cal P w K mg base 1 "_are_in" (spAreIn K) []) (F : At_least_sizes K mg) :
    C8.Cal P w K mg base 2 "least_sizes" (spLeastSizes K) [] := by
  refine F.cal sc_least_sizes (fun vs H Q E h => ?_) (fun f cdv A outer s H vs Q E hr h => ?_)
  · obtain ⟨v, ks, rfl, _⟩ := h
    rfl
  · obtain ⟨v, ks, rfl, ⟨a, us, rfl, hq, hp⟩, sm, k⟩ := h
    have nd := sc_least_sizes.nd
    have hu := hu_of hr
    have ul := plen hp
    have la := sm.a
    refine ⟨_, (pss_cons (ps_set (i := 1) nd rfl (by first | exact Or.inl rfl | exact Or.inr rfl) (pe_disp (pps_cons (C8.pe_gc rfl T.g_MARK) pe_int pps_nil) (by rfl) (by rfl) (fun z => by cases z) (by decide)))
      (pss_cons (ps_for PassesOwn.never rfl (pi_tup (pv 0)) (pg_name (i := 2) nd rfl (by first | exact Or.inl rfl | exact Or.inr rfl))
        (pss_one (ps_for PassesOwn.never rfl (pi_tup (pv 0)) (pg_tup rfl (pgs_cons (pg_name (i := 3) nd rfl (by first | exact Or.inl rfl | exact Or.inr rfl)) (pgs_cons (pg_name (i := 4) nd rfl (by first | exact Or.inl rfl | exact Or.inr rfl)) pgs_nil)))
          (pss_cons (ps_setLc (i := 5) (own := [("_", 2), ("parts", 6)]) (g := (gTup _ 2 (gCons (gName 2) (gCons (gName 6) gNil)))) rfl nd rfl rfl (sw_true rfl rfl rfl (by decide +kernel)) (pi_tup (pv 4)) (blkOk_by (N := nn_least_sizes) (sc := defScope st_least_sizes) (own := [("_", 2), ("parts", 6)]) (by decide +kernel)) (fun _ _ _ _ _ => (pg_tup rfl (pgs_cons (pg_name (i := 2) nd rfl (by first | exact Or.inl rfl | exact Or.inr rfl)) (pgs_cons (pg_name (i := 6) nd rfl (by first | exact Or.inl rfl | exact Or.inr rfl)) pgs_nil)))) (fun _ _ _ _ _ => (pts_one (pt_val (C8.pe_c c_u_are_in hr (by decide) rfl (pa_cons (pv 6) (pa_cons (pv 1) pa_nil)))))) (fun _ _ _ _ _ => (C8.pe_c c_size_made hr (by decide) rfl (pa_cons (pv 1) (pa_cons (pv 6) pa_nil)))))
          (pss_one (ps_if (pt_truth (pv 5) (by intro _; rfl)) (pss_one (ps_dput hu (pv 1) (pv 3) (pe_callB (cr_min rfl) (by rfl) T.z_min (by decide +kernel) (pa_cons (pv 5) pa_nil)) rfl)) pss_nil))))))
      (pss_one (ps_ret (pv 1))))), ?_⟩
    intro d hd
    refine ⟨upd_same, [(Sum.inr "mark", V.int 1)], rfl, (by decide), ?_⟩
    have e0 : mergeK ([] : List (Key × V)) [(Sum.inr "mark", V.int 1)] = dictS (sizesN ks 0) := rfl
    rw [e0]
    have k0 : Kp [] H (upd (upd H d (.dK [])) d (.dK (dictS (sizesN ks 0)))) := (Kp.new hd).own hd
    refine ⟨_, rfl, a, rfl, ⟨_, k0.sqt hq⟩, for_tup (K := K) (a := a) (xs := us) (fun i σ H' => ∃ v2 v3 v4 v5 v6, σ = [some (.ref a), some (.ref d), v2, v3, v4, v5, v6] ∧ Kp [] H H' ∧ H' d = some (.dK (dictS (sizesN ks i))))
      ⟨_, _, _, _, _, rfl, k0, upd_same⟩ (fun i σ H' _ z => by obtain ⟨_, _, _, _, _, _, kk, _⟩ := z; exact kk.sqt hq) ?_ ?_⟩
    · rintro i x σ H1 hx ⟨v2, v3, v4, v5, v6, rfl, k1, e1⟩
      have hi : i < ks.length := by rw [← ul]; exact (List.getElem?_eq_some_iff.mp hx).1
      refine ⟨_, rfl, a, rfl, ⟨_, k1.sqt hq⟩, for_tup (K := K) (a := a) (xs := us) (fun j σ H' => ∃ v2 v3 v4 v5 v6, σ = [some (.ref a), some (.ref d), v2, v3, v4, v5, v6] ∧ Kp [] H H' ∧ H' d = some (.dK (dictS (roundK (ks.take j) (sizesN ks i)))))
        ⟨_, _, _, _, _, rfl, k1, e1⟩ (fun j σ H' _ z => by obtain ⟨_, _, _, _, _, _, kk, _⟩ := z; exact kk.sqt hq) ?_ ?_⟩
      · rintro j y σ H2 hy ⟨v2, v3, v4, v5, v6, rfl, k2, e2⟩
        obtain ⟨c, hc, b, q, rfl, hb, ⟨b2, ws, rfl, hb2, hrs⟩⟩ := pget hp hy
        have cm := List.mem_of_getElem? hc
        have wl := plen hrs
        have cb := sm.b c cm
        have jl : j < ks.length := (List.getElem?_eq_some_iff.mp hc).1
        have sl : (roundK (ks.take j) (sizesN ks i)).length ≤ 20101 := by
          have h1 := roundK_len (ks.take j) (sizesN ks i)
          have h2 := sizesN_len ks i
          have h3 := List.length_take_le j ks
          have h4 : i * ks.length ≤ 100 * 100 := Nat.mul_le_mul (by omega) (by omega)
          omega
        generalize hS : roundK (ks.take j) (sizesN ks i) = S at e2 sl
        have rt := roundK_take (sizesN ks i) hc
        rw [hS] at rt
        refine ⟨b, _, rfl, k2.sqt hb, rfl, _, _, rfl, _, _, rfl, rfl, ?_⟩
        refine ⟨_, rfl, b2, rfl, ⟨_, k2.sqt hb2⟩, fun D hD => ?_⟩
        refine lcW (S := []) walk_tup (fun m => (c.2[m]?).bind fun r => if r.2.all (fun p => (lookS S p).isSome) = true then some (V.int (sizeMade S r.2)) else none) hD (by simp) (small1000 (by omega)) (fun H' kk => kk.sqt (k2.sqt hb2)) ?_ ?_
        · rintro m z H3 H4 C N hm k3 ⟨rfl, hz⟩ hC hN
          obtain ⟨r, hr3, b3, q3, rfl, hb3, hps⟩ := pget hrs hz
          have rl := sm.c c cm r (List.mem_of_getElem? hr3)
          have d3 := k3.old _ _ e2 (by simp)
          refine ⟨b3, _, rfl, k3.sqt (k2.sqt hb3), rfl, _, _, rfl, _, _, rfl, rfl, rfl, ?_⟩
          refine ⟨_, rfl, _, rfl, _, _, r.2, _, rfl, (hps.kp k2).kp k3, rl, .inr ⟨d, S, rfl, d3, rfl⟩, fun H5 k5 => ⟨_, rfl, ?_⟩⟩
          by_cases ca : r.2.all (fun p => (lookS S p).isSome) = true
          · refine iteB ca ⟨_, rfl, _, rfl, d, S, _, r.2, rfl, k5.old _ _ d3 (by simp), ((hps.kp k2).kp k3).kp k5, rl, fun p hp' => ?_, fun H6 k6 => ?_⟩
            · exact List.all_eq_true.mp ca p hp'
            · exact hC _ _ (k5.trans k6) (by rw [hr3]; show (if _ then _ else _) = _; rw [if_pos ca])
          · refine iteBn (by simpa using ca) (hN _ k5 (by rw [hr3]; show (if _ then _ else _) = _; rw [if_neg ca]))
        · intro H3 k3 e3
          have el : (List.range ws.length).filterMap (fun (m : Nat) => (c.2[m]?).bind fun r => if r.2.all (fun p => (lookS S p).isSome) = true then some (V.int (sizeMade S r.2)) else none) = (foundS S c.2).map V.int := by
            rw [wl, range_bind, foundS, List.map_filterMap]
            congr 1
            funext r
            split <;> rfl
          rw [el] at e3
          have k23 := k2.trans k3
          have d3 := k3.old _ _ e2 (by simp)
          refine ⟨_, rfl, !((foundS S c.2).map V.int).isEmpty, .inl ⟨_, SqL.of e3, rfl⟩, ?_⟩
          by_cases ce : foundS S c.2 = []
          · refine iteBn (by rw [ce]; rfl) ?_
            refine ⟨_, _, _, _, _, rfl, k23, ?_⟩
            rw [rt, stepK, if_pos ce]
            exact d3
          · refine iteB (by cases h : foundS S c.2 with | nil => exact absurd h ce | cons _ _ => rfl) ?_
            refine ⟨_, rfl, D, foundS S c.2, rfl, SqL.of e3, ?_, fun m hm hle => ?_⟩
            · cases h : foundS S c.2 with
              | nil => exact absurd h ce
              | cons _ _ => simp
            have em := minL_is hm hle
            subst em
            refine ⟨_, rfl, _, rfl, d, _, rfl, DPut.k (k := (Sum.inr c.1 : Key)) d3 (by simp only [dictS, List.length_map]; exact Nat.lt_of_le_of_lt sl (by decide)), ?_⟩
            refine ⟨_, _, _, _, _, rfl, k23.own hd, ?_⟩
            rw [upd_same, dictS_put, rt, stepK, if_neg ce]
      · rintro σ H2 ⟨v2, v3, v4, v5, v6, rfl, k2, e2⟩
        rw [ul, List.take_length] at e2
        exact ⟨_, _, _, _, _, rfl, k2, e2⟩
    · rintro σ H1 ⟨v2, v3, v4, v5, v6, rfl, k1, e1⟩
      rw [ul] at e1
      exact ⟨_, rfl, k H1 d k1 hd e1⟩
end

end Md

namespace Md
open PySem PySem.Spec PyProof.Rows L2

section
variable {P : Program} {w : World} {K : PySem.W.Frag} {mg : Str → Option Value} {base : Heap} {aW : Addr}
/-- good kinds: True -/
def spGood (K : PySem.W.Frag) : Sp := fun vs H Q _ => ∃ (v : V) (ks : Kds), vs = [v] ∧ KdsT K H v ks ∧ GoodK ks ∧ ∀ H', Kp [] H H' → Q (.bl true) H'
theorem c_u_have_trees (T : Txt K mg aW) (c_least_sizes : C8.Cal P w K mg base 2 "least_sizes" (spLeastSizes K) []) (c_u_kind_names : C8.Cal P w K mg base 1 "_kind_names" (spKindNames K) []) (F : At_u_have_trees K mg) :
    C8.Cal P w K mg base 3 "_have_trees" (spGood K) [] := by
  refine F.cal sc_u_have_trees (fun vs H Q E h => ?_) (fun f cdv A outer s H vs Q E hr h => ?_)
  · obtain ⟨v, ks, rfl, _⟩ := h
    rfl
  · obtain ⟨v, ks, rfl, hk, g, k⟩ := h
    have nd := sc_u_have_trees.nd
    have hu := hu_of hr
    have l5 := g.l5
    refine ⟨_, (pss_cons (ps_set (i := 1) nd rfl (by first | exact Or.inl rfl | exact Or.inr rfl) (C8.pe_c c_least_sizes hr (by decide) rfl (pa_cons (pv 0) pa_nil)))
      (pss_one (ps_ret (pe_callB (cr_all rfl) (by rfl) T.z_all (by decide +kernel) (pa_cons (pe_lc (own := [("kind", 2)]) (g := (gName 2)) (tt := tYes) rfl nd (pi_list (C8.pe_c c_u_kind_names hr (by decide) rfl (pa_cons (pv 0) pa_nil))) (blkOk_by (N := nn_u_have_trees) (sc := defScope st_u_have_trees) (own := [("kind", 2)]) (by decide +kernel)) (fun _ _ _ _ _ => (pg_name (i := 2) nd rfl (by first | exact Or.inl rfl | exact Or.inr rfl))) (fun _ _ _ _ _ => pts_nil) (fun _ _ _ _ _ => (pe_cmp (pc_din hu (pv 2) (pv 1)) rfl))) pa_nil))))), ?_⟩
    refine ⟨_, rfl, _, ks, rfl, hk, g.small, fun H1 d k1 hd e1 => ?_⟩
    refine ⟨_, rfl, _, ks, rfl, hk.kp k1, by omega, fun H2 p k2 hp e2 => ⟨p, rfl, ⟨_, SqL.of e2⟩, fun D hD => ?_⟩⟩
    have d2 := k2.old _ _ e1 (by simp)
    refine lcW (S := []) walk_list (fun i => ((kindNames ks)[i]?).map fun _ => V.bl true) hD (by simp) (small1000 (by simp [kindNames]; omega)) (fun H' kk => kk.sql (SqL.of e2) (by simp)) ?_ ?_
    · rintro i x H' H'' C N hi kk ⟨rfl, hx⟩ hC hN
      rw [List.getElem?_map] at hx
      obtain ⟨p, hp, rfl⟩ := Option.map_eq_some_iff.mp hx
      have there : (lookS (leastS ks) p).isSome = true := by
        obtain ⟨d', hd', e⟩ := List.mem_map.mp (List.mem_of_getElem? hp)
        subst e
        exact trees_there g d' hd'
      refine ⟨rfl, ⟨_, rfl, _, rfl, d, _, rfl, DGet.k (k := (Sum.inr p : Key)) (kk.old _ _ d2 (by simp)), ?_⟩⟩
      refine hC _ _ Kp.refl ?_
      rw [hp, dictS_val, Option.isSome_map, there]
      rfl
    · intro H' kk e
      rw [List.length_map, range_map] at e
      refine ⟨D, (kindNames ks).map fun _ => true, rfl, by rw [List.map_map]; exact SqL.of e, ?_⟩
      have et : ((kindNames ks).map fun _ => true).all id = true := by rw [List.all_map]; exact List.all_eq_true.mpr fun _ _ => rfl
      rw [et]
      exact k H' ((k1.trans k2).trans kk)
theorem c_u_are_names_unlike (T : Txt K mg aW) (c_u_kind_names : C8.Cal P w K mg base 1 "_kind_names" (spKindNames K) []) (c_u_maker_names : C8.Cal P w K mg base 1 "_maker_names" (spMakerNames K) []) (F : At_u_are_names_unlike K mg) :
    C8.Cal P w K mg base 2 "_are_names_unlike" (spGood K) [] := by
  refine F.cal sc_u_are_names_unlike (fun vs H Q E h => ?_) (fun f cdv A outer s H vs Q E hr h => ?_)
  · obtain ⟨v, ks, rfl, _⟩ := h
    rfl
  · obtain ⟨v, ks, rfl, hk, g, k⟩ := h
    have nd := sc_u_are_names_unlike.nd
    have l5 := g.l5
    have ml : (makerNames ks).length ≤ 20 := by
      rw [makerNames, List.length_map]
      have h1 := flat_len (ks := ks) (m := 4) g.m4
      omega
    have kl : (kindNames ks).length ≤ 5 := by rw [kindNames, List.length_map]; exact l5
    refine ⟨_, (pss_cons (ps_set (i := 1) nd rfl (by first | exact Or.inl rfl | exact Or.inr rfl) (pe_op op_cat (C8.pe_c c_u_kind_names hr (by decide) rfl (pa_cons (pv 0) pa_nil)) (C8.pe_c c_u_maker_names hr (by decide) rfl (pa_cons (pv 0) pa_nil))))
      (pss_one (ps_ret (pe_cmpR op_eq (pe_lenSetS rfl rfl T.z_len rfl T.z_set (pv 1)) (pe_callB call_len_seq (by rfl) T.z_len (by decide +kernel) (pa_cons (pv 1) pa_nil)) (nomark _))))), ?_⟩
    refine ⟨_, rfl, _, ks, rfl, hk, by omega, fun H1 p k1 hp e1 => ?_⟩
    refine ⟨_, rfl, _, ks, rfl, hk.kp k1, by omega, fun d hd => by have := g.m4 d hd; omega, fun H2 q k2 hq e2 => ?_⟩
    have e1' := k2.old _ _ e1 (by simp)
    refine ⟨p, q, _, _, rfl, rfl, e1', e2, ?_, fun r hr2 => ?_⟩
    · rw [List.length_map, List.length_map]
      exact Nat.le_of_lt (small1000 (by omega))
    have k3 : Kp [] H (upd H2 r (.lst ((kindNames ks).map V.str ++ (makerNames ks).map V.str))) := (k1.trans k2).new' hr2
    have sr : SqL K (upd H2 r (.lst ((kindNames ks).map V.str ++ (makerNames ks).map V.str))) r ((allNames ks).map V.str) := by rw [allNames, List.map_append]; exact SqL.of upd_same
    have al : (allNames ks).length ≤ 25 := by rw [allNames, List.length_append]; omega
    have fl : firsts [] (allNames ks) = allNames ks := by have := firsts_nd (allNames ks) [] (by simpa using g.nd); simpa using this
    refine ⟨_, rfl, r, allNames ks, rfl, sr, by omega, ?_⟩
    refine ⟨_, rfl, r, _, rfl, .inl sr, rfl, ?_⟩
    rw [fl, List.length_map, decide_eq_true rfl]
    exact k _ k3
theorem range_self {α : Type} (l : List α) : (List.range l.length).filterMap (fun (i : Nat) => l[i]?) = l := by
  have h := range_map (fun x : α => x) l
  simpa using h
theorem pappend {α β : Type} {F : α → β → Prop} : ∀ {a c : List α} {b d : List β}, Paired F a b → Paired F c d → Paired F (a ++ c) (b ++ d)
  | _, _, _, _, .nil, h => h
  | _, _, _, _, .cons r t, h => .cons r (pappend t h)
/-- the rows of all kinds, as they lie -/
theorem rows_lie {H : Hp} : ∀ {us : List V} {ks : Kds}, Paired (KindT K H) us ks → ∃ wss : List (List V), wss.length = us.length ∧ Paired (RowT K H) wss.flatten (rowsOf ks) ∧
    ∀ (i : Nat) (x : V), us[i]? = some x → ∃ (d : Kd) (b b2 : Addr) (ws : List V), ks[i]? = some d ∧ x = .ref b ∧ SqT K H b [.str d.1, .ref b2] ∧ SqT K H b2 ws ∧ wss[i]? = some ws ∧ Paired (RowT K H) ws d.2
  | _, _, .nil => ⟨[], rfl, .nil, fun i x e => by simp at e⟩
  | _, _, .cons (a := u) (b := d) h t => by
    obtain ⟨wss, e1, e2, e3⟩ := rows_lie t
    obtain ⟨b, q, rfl, hb, ⟨b2, ws, rfl, hb2, hr⟩⟩ := h
    refine ⟨ws :: wss, by simp [e1], ?_, fun i x e => ?_⟩
    · rw [List.flatten_cons, rowsOf, List.flatMap_cons]
      exact pappend hr e2
    · cases i with
      | zero =>
        simp at e
        subst e
        exact ⟨d, b, b2, ws, rfl, rfl, hb, hb2, rfl, hr⟩
      | succ i =>
        obtain ⟨d', c, c2, zs, h1, h2, h3, h4, h5, h6⟩ := e3 i x (by simpa using e)
        exact ⟨d', c, c2, zs, by simpa using h1, h2, h3, h4, by simpa using h5, h6⟩
theorem flatten_take {α : Type} {l : List (List α)} {i : Nat} {x : List α} (h : l[i]? = some x) : (l.take (i + 1)).flatten = (l.take i).flatten ++ x := by
  have hi := (List.getElem?_eq_some_iff.mp h).1
  have hd := (List.getElem?_eq_some_iff.mp h).2
  rw [List.take_succ_eq_append_getElem hi, hd, List.flatten_append]
  simp
theorem c_is_kinds (T : Txt K mg aW) (c_u_is_row : C8.Cal P w K mg base 1 "_is_row" (spIsRow K) []) (c_u_is_named : C8.Cal P w K mg base 2 "_is_named" (spIsNamed K) []) (c_u_are_names_unlike : C8.Cal P w K mg base 2 "_are_names_unlike" (spGood K) [])
    (c_u_are_parts_kinds : C8.Cal P w K mg base 3 "_are_parts_kinds" (spPartsKinds K) []) (c_u_have_trees : C8.Cal P w K mg base 3 "_have_trees" (spGood K) []) (F : At_is_kinds K mg) : C8.Cal P w K mg base 4 "is_kinds" (spGood K) [] := by
  refine F.cal sc_is_kinds (fun vs H Q E h => ?_) (fun f cdv A outer s H vs Q E hr h => ?_)
  · obtain ⟨v, ks, rfl, _⟩ := h
    rfl
  · obtain ⟨v, ks, rfl, hk0, g, k⟩ := h
    obtain ⟨a, us, rfl, hq, hp⟩ := id hk0
    have nd := sc_is_kinds.nd
    have ul := plen hp
    have l1 := g.l1
    have l5 := g.l5
    have namelen : ∀ x, isName x = true → x.length ≤ 1000 := fun x hx => by
      unfold isName at hx
      simp only [Bool.and_eq_true, decide_eq_true_eq] at hx
      omega
    refine ⟨_, (pss_cons (ps_if (pt_not (pt_val (C8.pe_c c_u_is_row hr (by decide) rfl (pa_cons (pv 0) (pa_cons pe_int (pa_cons (C8.pe_gc rfl T.g_MOST_KINDS) pa_nil)))))) (pss_one (ps_ret pe_bl)) pss_nil)
      (pss_cons (ps_if (pt_not (pt_val (pe_callB (cr_all rfl) (by rfl) T.z_all (by decide +kernel) (pa_cons (pe_lc (own := [("named", 2)]) (g := (gName 2)) (tt := tYes) rfl nd (pi_tup (pv 0)) (blkOk_by (N := nn_is_kinds) (sc := defScope st_is_kinds) (own := [("named", 2)]) (by decide +kernel)) (fun _ _ _ _ _ => (pg_name (i := 2) nd rfl (by first | exact Or.inl rfl | exact Or.inr rfl))) (fun _ _ _ _ _ => pts_nil) (fun _ _ _ _ _ => (C8.pe_c c_u_is_named hr (by decide) rfl (pa_cons (pv 2) (pa_cons pe_int (pa_cons (C8.pe_gc rfl T.g_MOST_MAKERS) pa_nil)))))) pa_nil)))) (pss_one (ps_ret pe_bl)) pss_nil)
      (pss_cons (ps_setLc2 (i := 1) (own := [("_", 3), ("row", 4), ("named", 2)]) (vs1 := [2]) (wi1 := iTup K (tVar 4)) (g := (gTup _ 2 (gCons (gName 3) (gCons (gName 4) gNil)))) (g1 := (gName 2)) (tt := tYes) (tt1 := tYes) rfl nd rfl rfl (sw_true rfl rfl rfl (by decide +kernel)) (pi_tup (pv 0)) (blkOk_by (N := nn_is_kinds) (sc := defScope st_is_kinds) (own := [("_", 3), ("row", 4), ("named", 2)]) (by decide +kernel)) (by decide) (fun _ _ _ _ _ => (pg_tup rfl (pgs_cons (pg_name (i := 3) nd rfl (by first | exact Or.inl rfl | exact Or.inr rfl)) (pgs_cons (pg_name (i := 4) nd rfl (by first | exact Or.inl rfl | exact Or.inr rfl)) pgs_nil)))) (fun _ _ _ _ _ => pts_nil) (by exact fun _ _ _ _ _ => (pi_tup (pv 4))) (fun _ _ _ _ _ => (pg_name (i := 2) nd rfl (by first | exact Or.inl rfl | exact Or.inr rfl))) (fun _ _ _ _ _ => pts_nil) (fun _ _ _ _ _ => (pv 2)))
      (pss_cons (ps_if (pt_not (pt_val (pe_callB (cr_all rfl) (by rfl) T.z_all (by decide +kernel) (pa_cons (pe_lc (own := [("named", 2)]) (g := (gName 2)) (tt := tYes) rfl nd (pi_list (pv 1)) (blkOk_by (N := nn_is_kinds) (sc := defScope st_is_kinds) (own := [("named", 2)]) (by decide +kernel)) (fun _ _ _ _ _ => (pg_name (i := 2) nd rfl (by first | exact Or.inl rfl | exact Or.inr rfl))) (fun _ _ _ _ _ => pts_nil) (fun _ _ _ _ _ => (C8.pe_c c_u_is_named hr (by decide) rfl (pa_cons (pv 2) (pa_cons pe_int (pa_cons (C8.pe_gc rfl T.g_MOST_PARTS) pa_nil)))))) pa_nil)))) (pss_one (ps_ret pe_bl)) pss_nil)
      (pss_one (ps_ret (pe_and (C8.pe_c c_u_are_names_unlike hr (by decide) rfl (pa_cons (pv 0) pa_nil)) (pe_and (C8.pe_c c_u_are_parts_kinds hr (by decide) rfl (pa_cons (pv 0) pa_nil)) (pe_one (C8.pe_c c_u_have_trees hr (by decide) rfl (pa_cons (pv 0) pa_nil))))))))))), ?_⟩
    refine ⟨_, rfl, a, us, 1, 5, rfl, hq, _, rfl, ?_⟩
    refine iteBn (by rw [decide_eq_true (show (1 : Int) ≤ (us.length : Int) by omega), decide_eq_true (show (us.length : Int) ≤ 5 by omega)]; rfl) ?_
    refine ⟨_, rfl, a, rfl, ⟨_, hq⟩, fun D hD => ?_⟩
    refine lcW (S := []) walk_tup (fun i => (ks[i]?).map fun _ => V.bl true) hD (by simp) (small1000 (by omega)) (fun H' kk => kk.sqt hq) ?_ ?_
    · rintro i x H' H'' C N hi kk ⟨rfl, hx⟩ hC hN
      obtain ⟨d, hd, b, q, rfl, hb, ⟨b2, ws, rfl, hb2, hrs⟩⟩ := pget hp hx
      have dm := List.mem_of_getElem? hd
      have wl := plen hrs
      have m1 := g.m1 d dm
      have m4 := g.m4 d dm
      refine ⟨rfl, ⟨_, rfl, b, b2, d.1, ws, 1, 4, rfl, kk.sqt hb, kk.sqt hb2, namelen _ (g.kn d dm), fun H1 k1 => ?_⟩⟩
      refine hC _ _ k1 ?_
      rw [hd, g.kn d dm, decide_eq_true (show (1 : Int) ≤ (ws.length : Int) by omega), decide_eq_true (show (ws.length : Int) ≤ 4 by omega)]
      rfl
    intro H1 k1 e1
    rw [ul, range_map] at e1
    refine ⟨D, ks.map fun _ => true, rfl, by rw [List.map_map]; exact SqL.of e1, _, rfl, ?_⟩
    refine iteBn (by rw [List.all_map, show (id ∘ fun (_ : Kd) => true) = fun _ => true from rfl]; simp) ?_
    -- makers
    refine ⟨_, rfl, a, rfl, ⟨_, k1.sqt hq⟩, fun D2 hD2 => ?_⟩
    obtain ⟨wss, wl, wp, wi⟩ := rows_lie hp
    have fl := plen wp
    have rl : (rowsOf ks).length ≤ 20 := by have := flat_len (ks := ks) (m := 4) g.m4; omega
    refine lcO (S := []) walk_tup (fun i => (wss.take i).flatten) (by simp) hD2 (fun H' kk => kk.sqt (k1.sqt hq)) ?_ ?_
    · rintro i x H' H'' hi kk e ⟨rfl, hx⟩
      obtain ⟨d, b, b2, ws, hd, rfl, hb, hb2, hw, hr2⟩ := wi i x hx
      have dm := List.mem_of_getElem? hd
      have m4 := g.m4 d dm
      have wl2 := plen hr2
      have kz := k1.trans kk
      refine ⟨b, _, rfl, kz.sqt hb, rfl, _, _, rfl, _, _, rfl, rfl, rfl, ?_⟩
      refine ⟨_, rfl, b2, rfl, ⟨_, kz.sqt hb2⟩, ?_⟩
      have zl : (wss.take i).flatten.length ≤ 20 := by
        have h1 : (wss.take i).flatten.length ≤ wss.flatten.length := by
          conv => rhs; rw [← List.take_append_drop i wss, List.flatten_append, List.length_append]
          omega
        omega
      refine lcI (S := []) walk_tup (fun j => ws[j]?) _ hD2 (by simp) kk e (small1000 (by omega)) (fun H' k2 => k2.sqt (k1.sqt hb2)) ?_ ?_
      · rintro j y H3 H4 C N hj k3 ⟨rfl, hy⟩ hC hN
        exact ⟨rfl, ⟨_, rfl, hC _ _ Kp.refl hy⟩⟩
      · intro H3 k3 e3
        refine ⟨k3, ?_⟩
        rw [range_self] at e3
        rw [e3, flatten_take hw]
    intro H2 k2 e2
    have tk : wss.take us.length = wss := by rw [← wl, List.take_length]
    rw [tk] at e2
    have k12 := k1.trans k2
    refine ⟨_, rfl, D2, rfl, ⟨_, SqL.of e2⟩, fun D3 hD3 => ?_⟩
    refine lcW (S := []) walk_list (fun i => ((rowsOf ks)[i]?).map fun _ => V.bl true) hD3 (by simp) (small1000 (by omega)) (fun H' kk => kk.sql (SqL.of e2) (by simp)) ?_ ?_
    · rintro i x H' H'' C N hi kk ⟨rfl, hx⟩ hC hN
      obtain ⟨r, hr3, b, q, rfl, hb, ⟨b2, rfl, hb2⟩⟩ := pget wp hx
      have rm := List.mem_of_getElem? hr3
      obtain ⟨d, dm, rm2⟩ := List.mem_flatMap.mp rm
      have p3 := g.p3 d dm r rm2
      have kz := k12.trans kk
      refine ⟨rfl, ⟨_, rfl, b, b2, r.1, r.2.map V.str, 0, 3, rfl, kz.sqt hb, kz.sqt hb2, namelen _ (g.mn d dm r rm2), fun H3 k3 => ?_⟩⟩
      refine hC _ _ k3 ?_
      rw [hr3, g.mn d dm r rm2, decide_eq_true (show (0 : Int) ≤ ((r.2.map V.str).length : Int) by omega), decide_eq_true (show ((r.2.map V.str).length : Int) ≤ 3 by rw [List.length_map]; omega)]
      rfl
    intro H3 k3 e3
    rw [fl, range_map] at e3
    have k13 := k12.trans k3
    refine ⟨D3, (rowsOf ks).map fun _ => true, rfl, by rw [List.map_map]; exact SqL.of e3, _, rfl, ?_⟩
    refine iteBn (by rw [List.all_map, show (id ∘ fun (_ : Rw) => true) = fun _ => true from rfl]; simp) ?_
    refine ⟨_, rfl, _, ks, rfl, hk0.kp k13, g, fun H4 k4 => ⟨_, rfl, iteT ?_⟩⟩
    refine ⟨_, rfl, _, ks, rfl, (hk0.kp k13).kp k4, g, fun H5 k5 => ⟨_, rfl, iteT ?_⟩⟩
    exact ⟨_, rfl, _, ks, rfl, ((hk0.kp k13).kp k4).kp k5, g, fun H6 k6 => k H6 (((k13.trans k4).trans k5).trans k6)⟩
/-- good kinds are let by -/
def spCheckKinds (K : PySem.W.Frag) : Sp := fun vs H Q _ => ∃ (v : V) (ks : Kds), vs = [v] ∧ KdsT K H v ks ∧ GoodK ks ∧ ∀ H', Kp [] H H' → Q .non H'
theorem c_check_kinds (c_is_kinds : C8.Cal P w K mg base 4 "is_kinds" (spGood K) []) (F : At_check_kinds K mg) : C8.Cal P w K mg base 5 "check_kinds" (spCheckKinds K) [] := by
  refine F.cal sc_check_kinds (fun vs H Q E h => ?_) (fun f cdv A outer s H vs Q E hr h => ?_)
  · obtain ⟨v, ks, rfl, _⟩ := h
    rfl
  · obtain ⟨v, ks, rfl, hk, g, k⟩ := h
    have nd := sc_check_kinds.nd
    refine ⟨_, (pss_one (ps_if (pt_not (pt_val (C8.pe_c c_is_kinds hr (by decide) rfl (pa_cons (pv 0) pa_nil)))) (pss_one ps_never) pss_nil)), ?_⟩
    exact ⟨_, rfl, _, ks, rfl, hk, g, fun H1 k1 => ⟨_, rfl, iteF (k H1 k1)⟩⟩
def spCheckKind (K : PySem.W.Frag) : Sp := fun vs H Q _ => ∃ (v : V) (ks : Kds) (x : Str), vs = [v, .str x] ∧ KdsT K H v ks ∧ GoodK ks ∧ (x = "mark" ∨ x ∈ kindNames ks) ∧ ∀ H', Kp [] H H' → Q .non H'
theorem c_check_kind (T : Txt K mg aW) (c_check_kinds : C8.Cal P w K mg base 5 "check_kinds" (spCheckKinds K) []) (c_u_kind_names : C8.Cal P w K mg base 1 "_kind_names" (spKindNames K) []) (F : At_check_kind K mg) :
    C8.Cal P w K mg base 6 "check_kind" (spCheckKind K) [] := by
  refine F.cal sc_check_kind (fun vs H Q E h => ?_) (fun f cdv A outer s H vs Q E hr h => ?_)
  · obtain ⟨v, ks, x, rfl, _⟩ := h
    rfl
  · obtain ⟨v, ks, x, rfl, hk, g, hx, k⟩ := h
    have nd := sc_check_kind.nd
    have l5 := g.l5
    refine ⟨_, (pss_cons (ps_expr (C8.pe_c c_check_kinds hr (by decide) rfl (pa_cons (pv 0) pa_nil)))
      (pss_one (ps_if (PW.pt (pw_and (pt_cmpR op_ne (pv 1) (C8.pe_gc rfl T.g_MARK) (nomark _)) (pw_and1 (pt_cmpR op_notIn_seq (pv 1) (C8.pe_c c_u_kind_names hr (by decide) rfl (pa_cons (pv 0) pa_nil)) (by rfl))))) (pss_one ps_never) pss_nil))), ?_⟩
    refine ⟨_, rfl, _, ks, rfl, hk, g, fun H1 k1 => ?_⟩
    refine ⟨_, rfl, rfl, _, rfl, ?_⟩
    by_cases e : x = "mark"
    · refine iteBn (by rw [e]; simp) ?_
      exact k H1 k1
    · have hm : x ∈ kindNames ks := hx.resolve_left e
      refine iteB (by simp [e]) ?_
      refine ⟨_, rfl, _, rfl, _, ks, rfl, hk.kp k1, by omega, fun H2 p k2 hp e2 => ?_⟩
      refine ⟨p, _, rfl, .inl (SqL.of e2), rfl, flats _, _, rfl, ?_⟩
      refine iteBn (by rw [inV_strs]; simp [hm]) ?_
      exact k H2 (k1.trans k2)
def spCheckMaker (K : PySem.W.Frag) : Sp := fun vs H Q _ => ∃ (v : V) (ks : Kds) (x : Str), vs = [v, .str x] ∧ KdsT K H v ks ∧ GoodK ks ∧ x ∈ makerNames ks ∧ ∀ H', Kp [] H H' → Q .non H'
end

end Md

namespace Md
open PySem PySem.Spec PyProof.Rows L2

/-! ### the kinds as a dict -/
def rowsBy (ks : Kds) (x : Str) : List Rw := ((ks.find? fun d => decide (d.1 = x)).map (·.2)).getD []
theorem kp_putK {κ : Type} [DecidableEq κ] : True := trivial
theorem mergeK_nd : ∀ (kvs acc : List (Key × V)), ((acc ++ kvs).map (·.1)).Nodup → mergeK acc kvs = acc ++ kvs
  | [], acc, _ => by simp [mergeK]
  | kv :: r, acc, h => by
    have hn : valV acc kv.1 = none := by
      cases e : valV acc kv.1 with
      | none => rfl
      | some v =>
        have m := valV_in e
        rw [List.map_append, List.nodup_append] at h
        exact absurd rfl (h.2.2 _ m kv.1 (by simp))
    show mergeK (putK acc kv.1 kv.2) r = _
    rw [putK_new _ hn, mergeK_nd r _ (by simpa using h)]
    simp
theorem valV_nd {κ : Type} [DecidableEq κ] : ∀ {kvs : List (κ × V)} {i : Nat} {k : κ} {v : V}, (kvs.map (·.1)).Nodup → kvs[i]? = some (k, v) → valV kvs k = some v
  | p :: r, 0, k, v, _, e => by
    simp at e
    subst e
    exact valV_pos rfl
  | p :: r, i + 1, k, v, h, e => by
    have e' : r[i]? = some (k, v) := by simpa using e
    rw [List.map_cons, List.nodup_cons] at h
    have ne : ¬ p.1 = k := fun z => h.1 (by rw [z]; exact List.mem_map.mpr ⟨(k, v), List.mem_of_getElem? e', rfl⟩)
    rw [valV_neg ne]
    exact valV_nd h.2 e'
section
variable {P : Program} {w : World} {K : PySem.W.Frag} {mg : Str → Option Value} {base : Heap} {aW : Addr}
/-- kinds that may be handed to dict() -/
def KdsO (K : PySem.W.Frag) (H : Hp) (v : V) (ks : Kds) : Prop := ∃ a us, v = V.ref a ∧ TupO H a us ∧ Paired (KindT K H) us ks
theorem KdsO.t {H : Hp} {v : V} {ks : Kds} (h : KdsO K H v ks) : KdsT K H v ks := let ⟨a, us, e, t, p⟩ := h; ⟨a, us, e, t.sq, p⟩
theorem KdsO.kp {S : List Addr} {H H' : Hp} {v : V} {ks : Kds} (k : Kp S H H') (h : KdsO K H v ks) : KdsO K H' v ks := let ⟨a, us, e, t, p⟩ := h; ⟨a, us, e, t.kp k, pmap (fun _ _ z => z.kp k) p⟩
theorem kinds_dict {H : Hp} : ∀ {us : List V} {ks : Kds}, Paired (KindT K H) us ks → ∃ (ps : List Addr) (kvs : List (Key × V)), us = ps.map V.ref ∧ Paired (fun p (kv : Key × V) => SqT K H p [kV kv.1, kv.2]) ps kvs ∧
    Paired (fun (kv : Key × V) (d : Kd) => kv.1 = Sum.inr d.1 ∧ RowsT K H kv.2 d.2) kvs ks
  | _, _, .nil => ⟨[], [], rfl, .nil, .nil⟩
  | _, _, .cons (a := u) (b := d) h t => by
    obtain ⟨ps, kvs, e, p1, p2⟩ := kinds_dict t
    obtain ⟨b, q, rfl, hb, hr⟩ := h
    exact ⟨b :: ps, (Sum.inr d.1, q) :: kvs, by rw [e]; rfl, .cons hb p1, .cons ⟨rfl, hr⟩ p2⟩
theorem keys_are {H : Hp} : ∀ {kvs : List (Key × V)} {ks : Kds}, Paired (fun (kv : Key × V) (d : Kd) => kv.1 = Sum.inr d.1 ∧ RowsT K H kv.2 d.2) kvs ks → kvs.map (·.1) = (kindNames ks).map Sum.inr
  | _, _, .nil => rfl
  | _, _, .cons h t => by rw [List.map_cons, keys_are t, h.1]; rfl
theorem nd_inr {l : List Str} (h : l.Nodup) : (l.map (Sum.inr : Str → Key)).Nodup := by
  induction l with
  | nil => exact List.nodup_nil
  | cons a r ih =>
    rw [List.nodup_cons] at h
    rw [List.map_cons, List.nodup_cons]
    refine ⟨fun m => ?_, ih h.2⟩
    obtain ⟨b, hb, e⟩ := List.mem_map.mp m
    cases e
    exact h.1 hb
theorem find_at {ks : Kds} (nd : (kindNames ks).Nodup) {i : Nat} {d : Kd} (h : ks[i]? = some d) : rowsBy ks d.1 = d.2 := by
  have aux : ∀ (ks : Kds) (i : Nat), (kindNames ks).Nodup → ks[i]? = some d → ks.find? (fun e => decide (e.1 = d.1)) = some d := by
    intro ks
    induction ks with
    | nil => intro i _ h; simp at h
    | cons c r ih =>
      intro i nd h
      rw [kindNames, List.map_cons, List.nodup_cons] at nd
      cases i with
      | zero =>
        simp at h
        subst h
        simp
      | succ i =>
        have h' : r[i]? = some d := by simpa using h
        have ne : ¬ c.1 = d.1 := fun z => nd.1 (by rw [z]; exact List.mem_map.mpr ⟨d, List.mem_of_getElem? h', rfl⟩)
        rw [List.find?_cons, decide_eq_false ne]
        exact ih i nd.2 h'
  rw [rowsBy, aux ks i nd h]
  rfl
theorem GoodK.ndk {ks : Kds} (g : GoodK ks) : (kindNames ks).Nodup := by
  have h := g.nd
  rw [allNames, List.nodup_append] at h
  exact h.1
theorem GoodK.nomark {ks : Kds} (g : GoodK ks) : ("mark" : Str) ∉ kindNames ks := fun h => by
  obtain ⟨d, hd, e⟩ := List.mem_map.mp h
  have z := g.kn d hd
  rw [e] at z
  exact absurd z (by decide +kernel)
theorem rowsBy_mark {ks : Kds} (g : GoodK ks) : rowsBy ks "mark" = [] := by
  have e : ks.find? (fun d => decide (d.1 = ("mark" : Str))) = none := List.find?_eq_none.mpr fun d hd => by
    intro z
    exact g.nomark (List.mem_map.mpr ⟨d, hd, of_decide_eq_true z⟩)
  rw [rowsBy, e]
  rfl
/-- dict(kinds): its entries -/
theorem dict_of {H : Hp} {us : List V} {ks : Kds} (g : GoodK ks) (hp : Paired (KindT K H) us ks) : ∃ (ps : List Addr) (kvs : List (Key × V)), us = ps.map V.ref ∧ Paired (fun p (kv : Key × V) => SqT K H p [kV kv.1, kv.2]) ps kvs ∧ mergeK [] kvs = kvs ∧
    (∀ x, x ∈ kindNames ks → ∃ v, valV kvs (Sum.inr x : Key) = some v ∧ RowsT K H v (rowsBy ks x)) ∧ valV kvs (Sum.inr "mark" : Key) = none := by
  obtain ⟨ps, kvs, e, p1, p2⟩ := kinds_dict hp
  have ke := keys_are p2
  have knd : (kvs.map (·.1)).Nodup := by rw [ke]; exact nd_inr g.ndk
  refine ⟨ps, kvs, e, p1, by simpa using mergeK_nd kvs [] (by simpa using knd), fun x hx => ?_, ?_⟩
  · obtain ⟨d, hd, ex⟩ := List.mem_map.mp hx
    subst ex
    obtain ⟨i, hi, ei⟩ := List.getElem_of_mem hd
    have hi2 : i < kvs.length := by rw [plen p2]; exact hi
    obtain ⟨d', h1, h2, h3⟩ := pget p2 (List.getElem?_eq_getElem hi2)
    rw [List.getElem?_eq_getElem hi, ei] at h1
    cases h1
    refine ⟨kvs[i].2, valV_nd knd (i := i) ?_, ?_⟩
    · rw [List.getElem?_eq_getElem hi2, ← h2]
    · rw [find_at g.ndk (i := i) (by rw [List.getElem?_eq_getElem hi, ei])]
      exact h3
  · cases z : valV kvs (Sum.inr "mark" : Key) with
    | none => rfl
    | some v =>
      have m := valV_in z
      rw [ke] at m
      obtain ⟨b, hb, eb⟩ := List.mem_map.mp m
      cases eb
      exact absurd hb g.nomark
def spMakersOf (K : PySem.W.Frag) : Sp := fun vs H Q _ => ∃ (v : V) (ks : Kds) (x : Str), vs = [v, .str x] ∧ KdsO K H v ks ∧ GoodK ks ∧ (x = "mark" ∨ x ∈ kindNames ks) ∧ ∀ H' u, Kp [] H H' → RowsT K H' u (rowsBy ks x) → Q u H'
end

end Md

namespace Md
open PySem PySem.Spec PyProof.Rows L2

/-! ### tables by makers -/
/-- maker, kind, place, parts -/
abbrev Ent := Str × Str × Nat × List Str
def entsAt (kind : Str) (n : Nat) : List Rw → List Ent
  | [] => []
  | r :: rs => (r.1, kind, n, r.2) :: entsAt kind (n + 1) rs
def entries (ks : Kds) : List Ent := ks.flatMap fun d => entsAt d.1 0 d.2
def lastE (es : List Ent) (m : Str) : Option Ent := es.foldl (fun o e => if e.1 = m then some e else o) none
theorem lastE_snoc (es : List Ent) (e : Ent) (m : Str) : lastE (es ++ [e]) m = if e.1 = m then some e else lastE es m := by
  unfold lastE
  rw [List.foldl_append]
  rfl
theorem lastE_mem {m : Str} {e : Ent} : ∀ {es : List Ent}, lastE es m = some e → e ∈ es ∧ e.1 = m := by
  intro es
  unfold lastE
  have aux : ∀ (es : List Ent) (o : Option Ent), es.foldl (fun o e => if e.1 = m then some e else o) o = some e → (e ∈ es ∧ e.1 = m) ∨ o = some e := by
    intro es
    induction es with
    | nil => intro o h; exact .inr h
    | cons a r ih =>
      intro o h
      rcases ih _ h with ⟨h1, h2⟩ | h1
      · exact .inl ⟨List.mem_cons_of_mem _ h1, h2⟩
      · dsimp only at h1
        split at h1
        · rename_i hc
          cases h1
          exact .inl ⟨List.mem_cons_self, hc⟩
        · exact .inr h1
  intro h
  rcases aux es none h with h1 | h1
  · exact h1
  · cases h1
theorem lastE_there {m : Str} : ∀ {es : List Ent}, (∃ e ∈ es, e.1 = m) → ∃ e, lastE es m = some e := by
  intro es h
  obtain ⟨e, he, hm⟩ := h
  unfold lastE
  have keep : ∀ (es : List Ent) (o : Option Ent), (∃ e, o = some e) → ∃ e, es.foldl (fun o e => if e.1 = m then some e else o) o = some e := by
    intro es
    induction es with
    | nil => intro o h; exact h
    | cons a r ih =>
      intro o h
      refine ih _ ?_
      dsimp only
      split
      · exact ⟨a, rfl⟩
      · exact h
  have aux : ∀ (es : List Ent) (o : Option Ent), e ∈ es → ∃ e, es.foldl (fun o e => if e.1 = m then some e else o) o = some e := by
    intro es
    induction es with
    | nil => intro o h; cases h
    | cons a r ih =>
      intro o h
      rcases List.mem_cons.mp h with z | z
      · subst z
        exact keep r _ (by dsimp only; rw [if_pos hm]; exact ⟨e, rfl⟩)
      · exact ih _ z
  exact aux es none he
theorem entsAt_names (kind : Str) : ∀ (rs : List Rw) (n : Nat), (entsAt kind n rs).map (·.1) = rs.map (·.1)
  | [], _ => rfl
  | r :: rs, n => by rw [entsAt, List.map_cons, entsAt_names kind rs (n + 1), List.map_cons]
theorem entries_names (ks : Kds) : (entries ks).map (·.1) = makerNames ks := by
  induction ks with
  | nil => rfl
  | cons d r ih =>
    rw [makerNames, rowsOf] at ih ⊢
    rw [entries, List.flatMap_cons, List.map_append, List.flatMap_cons, List.map_append, entsAt_names, ← ih]
    rfl
theorem entsAt_take (kind : Str) : ∀ (rs : List Rw) (n j : Nat) (r : Rw), rs[j]? = some r → entsAt kind n (rs.take (j + 1)) = entsAt kind n (rs.take j) ++ [(r.1, kind, n + j, r.2)]
  | r0 :: rs, n, 0, r, h => by
    simp at h
    subst h
    simp [entsAt]
  | r0 :: rs, n, j + 1, r, h => by
    have h' : rs[j]? = some r := by simpa using h
    have ih := entsAt_take kind rs (n + 1) j r h'
    rw [List.take_succ_cons, List.take_succ_cons, entsAt, entsAt, ih, List.cons_append]
    rw [show n + 1 + j = n + (j + 1) by omega]
theorem entries_take {ks : Kds} {i : Nat} {d : Kd} (h : ks[i]? = some d) : entries (ks.take (i + 1)) = entries (ks.take i) ++ entsAt d.1 0 d.2 := by
  have hi := (List.getElem?_eq_some_iff.mp h).1
  have hd := (List.getElem?_eq_some_iff.mp h).2
  rw [List.take_succ_eq_append_getElem hi, hd, entries, List.flatMap_append]
  simp [entries]
theorem entsAt_len (kind : Str) : ∀ (rs : List Rw) (n : Nat), (entsAt kind n rs).length = rs.length
  | [], _ => rfl
  | r :: rs, n => by rw [entsAt, List.length_cons, entsAt_len kind rs, List.length_cons]
theorem entries_len {ks : Kds} (s : SmallK ks) : (entries ks).length ≤ 10000 := by
  have h1 : (entries ks).length = (rowsOf ks).length := by
    have := congrArg List.length (entries_names ks)
    rw [List.length_map, makerNames, List.length_map] at this
    exact this
  have h2 := flat_len (ks := ks) (m := 100) s.b
  have := s.a
  omega
structure TabT (R : V → Ent → Prop) (kvs : List (Key × V)) (es : List Ent) : Prop where
  len : kvs.length ≤ es.length
  key : ∀ kv ∈ kvs, ∃ m : Str, kv.1 = Sum.inr m
  non : ∀ m, lastE es m = none → valV kvs (Sum.inr m : Key) = none
  som : ∀ m e, lastE es m = some e → ∃ v, valV kvs (Sum.inr m : Key) = some v ∧ R v e
theorem TabT.nil {R : V → Ent → Prop} : TabT R [] [] := ⟨Nat.le_refl _, fun _ h => (nomatch h), fun _ _ => rfl, fun m e h => by cases h⟩
theorem TabT.imp {R R' : V → Ent → Prop} {kvs : List (Key × V)} {es : List Ent} (t : TabT R kvs es) (h : ∀ v e, R v e → R' v e) : TabT R' kvs es :=
  ⟨t.len, t.key, t.non, fun m e x => let ⟨v, h1, h2⟩ := t.som m e x; ⟨v, h1, h _ _ h2⟩⟩
theorem TabT.put {R : V → Ent → Prop} {kvs : List (Key × V)} {es : List Ent} (t : TabT R kvs es) {v : V} {e : Ent} (r : R v e) : TabT R (putK kvs (Sum.inr e.1) v) (es ++ [e]) := by
  refine ⟨?_, fun kv h => ?_, fun m h => ?_, fun m e' h => ?_⟩
  · have := length_putK kvs (Sum.inr e.1 : Key) v
    rw [List.length_append]
    have := t.len
    simp
    omega
  · unfold putK at h
    split at h
    · obtain ⟨kv', h1, h2⟩ := List.mem_map.mp h
      obtain ⟨m, hm⟩ := t.key kv' h1
      split at h2 <;> (subst h2; exact ⟨m, hm⟩)
    · rcases List.mem_append.mp h with h | h
      · exact t.key kv h
      · simp at h
        subst h
        exact ⟨_, rfl⟩
  · rw [lastE_snoc] at h
    by_cases c : e.1 = m
    · rw [if_pos c] at h; cases h
    · rw [if_neg c] at h
      rw [valV_put, if_neg (fun z => c (Sum.inr.inj z).symm)]
      exact t.non m h
  · rw [lastE_snoc] at h
    by_cases c : e.1 = m
    · rw [if_pos c] at h
      cases h
      exact ⟨v, by rw [valV_put, if_pos (by rw [c])], r⟩
    · rw [if_neg c] at h
      obtain ⟨u, h1, h2⟩ := t.som m e' h
      exact ⟨u, by rw [valV_put, if_neg (fun z => c (Sum.inr.inj z).symm)]; exact h1, h2⟩
section
variable {P : Program} {w : World} {K : PySem.W.Frag} {mg : Str → Option Value} {base : Heap} {aW : Addr}
def EntT (K : PySem.W.Frag) (H : Hp) (v : V) (e : Ent) : Prop := ∃ t q, v = V.ref t ∧ SqT K H t [.str e.2.1, .int (e.2.2.1 : Nat), q] ∧ StrsT K H q e.2.2.2
theorem EntT.kp {S : List Addr} {H H' : Hp} {v : V} {e : Ent} (k : Kp S H H') (h : EntT K H v e) : EntT K H' v e := let ⟨t, q, e1, e2, e3⟩ := h; ⟨t, q, e1, k.sqt e2, e3.kp k⟩
def spMakerTable (K : PySem.W.Frag) : Sp := fun vs H Q _ => ∃ (v : V) (ks : Kds), vs = [v] ∧ KdsT K H v ks ∧ SmallK ks ∧ ∀ H' d kvs, Kp [] H H' → H d = none → H' d = some (.dK kvs) → TabT (EntT K H') kvs (entries ks) → Q (.ref d) H'
def kindBy (ks : Kds) (x : Str) : Str := ((lastE (entries ks) x).map fun e => e.2.1).getD Str.empty
def spKindBy (K : PySem.W.Frag) : Sp := fun vs H Q _ => ∃ (v : V) (ks : Kds) (x : Str), vs = [v, .str x] ∧ KdsT K H v ks ∧ GoodK ks ∧ x ∈ makerNames ks ∧ ∀ H', Kp [] H H' → Q (.str (kindBy ks x)) H'
theorem maker_there {ks : Kds} {x : Str} (h : x ∈ makerNames ks) : ∃ e, lastE (entries ks) x = some e := by
  rw [← entries_names] at h
  obtain ⟨e, he, ex⟩ := List.mem_map.mp h
  exact lastE_there ⟨e, he, ex⟩
end

end Md

namespace Md
open PySem PySem.Spec PyProof.Rows L2

/-! ### the law's own drawing -/
/-- a word drawn as the b-th of its book -/
def WordAt (b : Nat) (x : Str) : Prop := isName x = true ∧ x.cps.toList.take 2 = [97 + b * 11 % 26, 97 + b / 26 * 7 % 26]
def lettersL : List Nat := (List.range 26).map fun i => 97 + i
theorem letters_are : ("abcdefghijklmnopqrstuvwxyz" : Str).cps.toList = lettersL := by decide +kernel
theorem letter_at {i : Int} (h0 : 0 ≤ i) (h1 : i < 26) : atI ("abcdefghijklmnopqrstuvwxyz" : Str).cps.toList i = some (97 + i.toNat) := by
  rw [letters_are]
  have e : i = ((i.toNat : Nat) : Int) := by omega
  have hl : i.toNat < 26 := by omega
  conv => lhs; rw [e]
  exact atI_nat (by simp [lettersL, hl])
theorem PotOk.kp {S : List Addr} {H H' : Hp} {p : Addr} {n : Nat} (k : Kp S H H') (h : PotOk H p n) (m : p ∉ S) : PotOk H' p n := let ⟨x, y, z, e, r⟩ := h; ⟨x, y, z, k.old _ _ e m, r⟩
theorem PotOk.more {H : Hp} {p : Addr} {n m : Nat} (h : PotOk H p n) (l : n ≤ m) : PotOk H p m := by
  obtain ⟨x, y, z, e, r1, r2, r3, r4, r5⟩ := h
  exact ⟨x, y, z, e, r1, r2, r3, r4, by omega⟩
theorem PotOk.lst {H : Hp} {p : Addr} {n : Nat} (h : PotOk H p n) : ∃ xs, H p = some (.lst xs) ∧ xs.length = 3 := let ⟨x, y, z, e, _⟩ := h; ⟨_, e, rfl⟩
abbrev S1 (l : List Nat) : Str := ⟨l.toArray⟩
theorem s1_cat (a b : List Nat) : S1 a ++ S1 b = S1 (a ++ b) := SX.S_cat a b
theorem s1_len (a : List Nat) : (S1 a).length = a.length := SX.S_len a
theorem s1_tl (a : List Nat) : (S1 a).cps.toList = a := rfl
section
variable {P : Program} {w : World} {K : PySem.W.Frag} {mg : Str → Option Value} {base : Heap} {aW : Addr}
def spPot (K : PySem.W.Frag) : Sp := fun vs H Q _ => ∃ (a : Addr) (ns : List Int) (k : Int), vs = [.ref a, .int k] ∧ SqL K H a (ns.map V.int) ∧ 0 ≤ k ∧ k ≤ 100 ∧ ∀ H' p, Kp [] H H' → H p = none → PotOk H' p 0 → Q (.ref p) H'
theorem big_pos : (0 : Int) < ((10 : Int) ^ (60 : Int).toNat) ^ (10 : Int).toNat := Int.pow_pos (Int.pow_pos (by decide))
theorem c_law_pot (T : Txt K mg aW) (F : At_law_pot K mg) : C8.Cal P w K mg base 1 "_law_pot" (spPot K) [] := by
  refine F.cal sc_law_pot (fun vs H Q E h => ?_) (fun f cdv A outer s H vs Q E hr h => ?_)
  · obtain ⟨a, ns, k, rfl, _⟩ := h
    rfl
  · obtain ⟨a, ns, k, rfl, hs, k0, k1, kk⟩ := h
    have nd := sc_law_pot.nd
    refine ⟨_, (pss_cons (ps_set (i := 2) nd rfl (by first | exact Or.inl rfl | exact Or.inr rfl) pe_int)
      (pss_cons (ps_if (pt_cmpR op_lt (pv 1) (pe_callB call_len_seq (by rfl) T.z_len (by decide +kernel) (pa_cons (pv 0) pa_nil)) (nomark _)) (pss_one (ps_set (i := 2) nd rfl (by first | exact Or.inl rfl | exact Or.inr rfl) (pe_op op_mod (pe_callB call_abs (by rfl) T.z_abs (by decide +kernel) (pa_cons (pe_ix ix_list (pv 0) (pv 1) (fun _ _ => rfl)) pa_nil)) (pe_op op_powB (pe_op op_pow pe_int pe_int) pe_int)))) pss_nil)
      (pss_one (ps_ret (pe_lst (pa_cons (pe_op op_mul (pv 2) (pe_callTy call_int1 (by rfl) T.z_int (by decide +kernel) (pa_cons (pe_cmpR op_ge (pv 2) (pe_op op_pow pe_int pe_int) (nomark _)) pa_nil))) (pa_cons (pe_op op_mod (pe_op op_pow (pe_op op_add (pe_op op_add (pe_op op_mod (pv 2) pe_int) (pe_op op_mul pe_int (pv 1))) pe_int) pe_int) pe_int) (pa_cons pe_int pa_nil)))))))), ?_⟩
    have fin : ∀ (cell : Int), 0 ≤ cell → ∀ (Q' : VK), (∀ H' p, Kp [] H H' → H p = none → PotOk H' p 0 → Q' (.ref p) H') →
        tRet (tLst (tCons (tOp (rI CMul fun i j => .int (i * j)) (tVar 2) (tCB (fun xs H Q => (∃ i, xs = [.int i] ∧ Q (.int i) H) ∨ ∃ k, xs = [.bl k] ∧ Q (.int (if k then 1 else 0)) H) (tCons (tOp (rI0 fun i j => .bl (decide (j ≤ i))) (tVar 2) (tOp (rI CPow fun i j => .int (i ^ j.toNat)) (tC (.int 10)) (tC (.int 18)))) tNil)))
          (tCons (tOp (rI (fun _ j => 0 < j) fun i j => .int (i % j)) (tOp (rI CPow fun i j => .int (i ^ j.toNat)) (tOp (rI0 fun i j => .int (i + j)) (tOp (rI0 fun i j => .int (i + j)) (tOp (rI (fun _ j => 0 < j) fun i j => .int (i % j)) (tVar 2) (tC (.int 2147483629))) (tOp (rI CMul fun i j => .int (i * j)) (tC (.int 7919)) (tVar 1))) (tC (.int 1))) (tC (.int 5))) (tC (.int 2305843009213693951)))
          (tCons (tC (.int 0)) tNil)))) { nx := fun _ H' => Q' .non H', rt := Q' } [some (.ref a), some (.int k), some (.int cell)] H := by
      intro cell c0 Q' kq
      refine ⟨_, rfl, _, rfl, _, _, rfl, rfl, ⟨by decide, by decide, by decide⟩, _, _, rfl, rfl, .inr ⟨_, rfl, _, _, rfl, rfl, ?_, ?_⟩⟩
      · split
        · exact .inr (by constructor <;> decide)
        · exact .inr (by constructor <;> decide)
      refine ⟨_, rfl, _, _, rfl, rfl, (by show (0 : Int) < 2147483629; decide), _, rfl, _, _, rfl, rfl, .inl (by constructor <;> decide), _, _, rfl, rfl, _, _, rfl, rfl, _, _, rfl, rfl, ?_, ?_⟩
      · refine ⟨by decide, by decide, ?_⟩
        show (cell % 2147483629 + 7919 * k + 1).natAbs < 18446744073709551616
        omega
      refine ⟨_, _, rfl, rfl, (by show (0 : Int) < 2305843009213693951; decide), ?_⟩
      refine ⟨(by show 3 ≤ sizeLine; decide), fun p hp => ?_⟩
      refine kq _ p (Kp.new hp) hp ⟨_, _, _, upd_same, ?_, Int.emod_nonneg _ (by decide), Int.emod_lt_of_pos _ (by decide), by decide, by decide⟩
      split
      · rw [Int.mul_one]; exact c0
      · rw [Int.mul_zero]; decide
    refine ⟨_, rfl, _, rfl, a, _, rfl, .inl hs, _, _, rfl, rfl, _, rfl, ?_⟩
    refine ite2 (fun c => ?_) (fun c => ?_)
    · have c' : k < ((ns.map V.int).length : Int) := of_decide_eq_true c
      rw [List.length_map] at c'
      have hk : k.toNat < ns.length := by omega
      have ha : atI (ns.map V.int) k = some (.int ns[k.toNat]) := by
        have e : k = ((k.toNat : Nat) : Int) := by omega
        conv => lhs; rw [e]
        exact atI_nat (by rw [List.getElem?_map, List.getElem?_eq_getElem hk]; rfl)
      refine ⟨_, rfl, _, rfl, a, _, _, _, rfl, rfl, hs, ha, _, rfl, _, _, rfl, rfl, ⟨by decide, by decide, by decide⟩, _, _, rfl, rfl, ⟨by decide, by decide +kernel⟩, _, _, rfl, rfl, big_pos, ?_⟩
      exact fin _ (Int.emod_nonneg _ (Int.ne_of_gt big_pos)) Q kk
    · exact fin 0 (Int.le_refl 0) Q kk
/-- a word, by the book's next place -/
def spWord : Sp := fun vs H Q _ => ∃ (p q : Addr) (n b : Nat), vs = [.ref p, .ref q] ∧ PotOk H p n ∧ n ≤ 990000 ∧ H q = some (.lst [.int (b : Nat)]) ∧ b ≤ 600 ∧
  ∀ (x : Str) (b' : Nat) (H' : Hp), b < b' → b' ≤ b + 3 → WordAt b' x → PotOk H' p (n + 10) → H' q = some (.lst [.int (b' : Nat)]) → Kp [p, q] H H' → Q (.str x) H'
theorem words_q : ∀ x ∈ wordsL, ∀ y ∈ wordsL, ¬ x.cps.toList ++ [113] = y.cps.toList := by decide +kernel
theorem words_len : ∀ x ∈ wordsL, x.cps.toList.length ≤ 6 := by decide +kernel
theorem isName_of {l : List Nat} (h1 : 1 ≤ l.length) (h8 : l.length ≤ 8) (hc : ∀ c ∈ l, 97 ≤ c ∧ c ≤ 122) (hw : wordsL.contains (S1 l) = false) : isName (S1 l) = true := by
  unfold isName
  rw [s1_len, decide_eq_true h1, decide_eq_true h8, hw]
  simp only [Bool.not_false, Bool.and_true, Bool.true_and]
  refine List.all_eq_true.mpr fun c m => ?_
  have := hc c m
  rw [decide_eq_true this.1, decide_eq_true this.2]
  rfl
theorem c_law_word (T : Txt K mg aW) (c_law_take : C8.Cal P w K mg base 1 "_law_take" spTake []) (F : At_law_word K mg) : C8.Cal P w K mg base 2 "_law_word" spWord [] := by
  refine F.cal sc_law_word (fun vs H Q E h => ?_) (fun f cdv A outer s H vs Q E hr h => ?_)
  · obtain ⟨p, q, n, b, rfl, _⟩ := h
    rfl
  · obtain ⟨p, q, n, b, rfl, hp, hn, hq, hb, k⟩ := h
    have nd := sc_law_word.nd
    have npq : q ≠ p := by
      obtain ⟨xs, e, l⟩ := hp.lst
      intro z
      subst z
      rw [hq] at e
      cases e
      cases l
    refine ⟨_, (pss_cons (ps_set (i := 2) nd rfl (by first | exact Or.inl rfl | exact Or.inr rfl) pe_str)
      (pss_cons (ps_asg (pe_op op_add (pe_op op_add (pe_ix ix_list (pv 1) pe_int (fun _ _ => rfl)) pe_int) (C8.pe_c c_law_take hr (by decide) rfl (pa_cons (pv 0) (pa_cons pe_int pa_nil)))) (pg_sub (pv 1) pe_int set_list))
      (pss_cons (ps_set (i := 3) nd rfl (by first | exact Or.inl rfl | exact Or.inr rfl) (pe_op op_add_str (pe_ix ix_str (pv 2) (pe_op op_mod (pe_op op_mul (pe_ix ix_list (pv 1) pe_int (fun _ _ => rfl)) pe_int) pe_int) (fun _ _ => rfl)) (pe_ix ix_str (pv 2) (pe_op op_mod (pe_op op_mul (pe_op op_fdiv (pe_ix ix_list (pv 1) pe_int (fun _ _ => rfl)) pe_int) pe_int) pe_int) (fun _ _ => rfl))))
      (pss_cons (ps_for PassesOwn.never rfl (pi_range1 (by rfl) T.z_range (pa_cons (C8.pe_c c_law_take hr (by decide) rfl (pa_cons (pv 0) (pa_cons pe_int pa_nil))) pa_nil)) (pg_name (i := 4) nd rfl (by first | exact Or.inl rfl | exact Or.inr rfl))
        (pss_one (ps_set (i := 3) nd rfl (by first | exact Or.inl rfl | exact Or.inr rfl) (pe_op op_add_str (pv 3) (pe_ix ix_str (pv 2) (C8.pe_c c_law_take hr (by decide) rfl (pa_cons (pv 0) (pa_cons pe_int pa_nil))) (fun _ _ => rfl))))))
      (pss_cons (ps_if (pt_cmpR op_in_seq (pv 3) (pe_lst (pa_cons pe_str (pa_cons pe_str (pa_cons pe_str (pa_cons pe_str (pa_cons pe_str (pa_cons pe_str (pa_cons pe_str (pa_cons pe_str pa_nil))))))))) (by rfl)) (pss_one (ps_set (i := 3) nd rfl (by first | exact Or.inl rfl | exact Or.inr rfl) (pe_op op_add_str (pv 3) pe_str))) pss_nil)
      (pss_one (ps_ret (pv 3)))))))), ?_⟩
    refine ⟨_, rfl, q, _, _, _, rfl, rfl, SqL.of hq, rfl, _, _, rfl, rfl, _, rfl, p, 3, n, rfl, hp, by decide, by decide, by omega, fun r H1 r0 r3 hp1 k1 => ?_⟩
    have hq1 : H1 q = some (.lst [.int (b : Nat)]) := k1.old _ _ hq (by simp [npq])
    refine ⟨_, _, rfl, rfl, _, rfl, q, _, _, _, rfl, rfl, hq1, rfl, ?_⟩
    -- the book's next place
    obtain ⟨b', eb⟩ : ∃ b' : Nat, (b : Int) + 1 + r = (b' : Int) := ⟨((b : Int) + 1 + r).toNat, by omega⟩
    have hset : ([V.int (b : Nat)] : List V).set (Int.toNat 0) (V.int ((b : Int) + 1 + r)) = [V.int (b' : Nat)] := by rw [eb]; rfl
    have hq2 : upd H1 q (.lst ([V.int (b : Nat)].set (Int.toNat 0) (V.int ((b : Int) + 1 + r)))) q = some (.lst [.int (b' : Nat)]) := by rw [hset]; exact upd_same
    have k2 : Kp [p, q] H (upd H1 q (.lst ([V.int (b : Nat)].set (Int.toNat 0) (V.int ((b : Int) + 1 + r))))) := (k1.mono (by simp)).trans (Kp.wr hq1 (by simp))
    have hp2 : PotOk (upd H1 q (.lst ([V.int (b : Nat)].set (Int.toNat 0) (V.int ((b : Int) + 1 + r))))) p (n + 1) := hp1.kp (Kp.wr (S := [q]) hq1 (by simp)) (by simp [Ne.symm npq])
    generalize upd H1 q (.lst ([V.int (b : Nat)].set (Int.toNat 0) (V.int ((b : Int) + 1 + r)))) = H2 at hq2 k2 hp2
    have i1 : (0 : Int) ≤ (b' : Int) * 11 % 26 := Int.emod_nonneg _ (by decide)
    have i2 : (b' : Int) * 11 % 26 < 26 := Int.emod_lt_of_pos _ (by decide)
    have j1 : (0 : Int) ≤ (b' : Int) / 26 * 7 % 26 := Int.emod_nonneg _ (by decide)
    have j2 : (b' : Int) / 26 * 7 % 26 < 26 := Int.emod_lt_of_pos _ (by decide)
    have lz : ("abcdefghijklmnopqrstuvwxyz" : Str).length ≤ sizeLine := Nat.le_of_lt (small1000 (by decide +kernel))
    refine ⟨_, rfl, _, rfl, q, _, _, _, rfl, rfl, SqL.of hq2, rfl, _, _, rfl, rfl, .inr (by constructor <;> decide), _, _, rfl, rfl, (by show (0 : Int) < 26; decide), _, _, _, rfl, rfl, lz, letter_at i1 i2, ?_⟩
    refine ⟨_, rfl, _, rfl, q, _, _, _, rfl, rfl, SqL.of hq2, rfl, _, _, rfl, rfl, ⟨by decide, by decide⟩, _, _, rfl, rfl, .inr (by constructor <;> decide), _, _, rfl, rfl, (by show (0 : Int) < 26; decide), _, _, _, rfl, rfl, lz, letter_at j1 j2, ?_⟩
    refine ⟨_, _, rfl, rfl, (by show 2 ≤ sizeLine; decide), ?_⟩
    refine ⟨_, rfl, p, 7, n + 1, rfl, hp2, by decide, by decide, by omega, fun m H3 m0 m7 hp3 k3 => ⟨m, rfl, by omega, by omega, ?_⟩⟩
    have hq3 : H3 q = some (.lst [.int (b' : Nat)]) := k3.old _ _ hq2 (by simp [npq])
    have k23 : Kp [p, q] H H3 := k2.trans (k3.mono (by simp))
    have c1 : 97 + ((b' : Int) * 11 % 26).toNat = 97 + b' * 11 % 26 := by omega
    have c2 : 97 + ((b' : Int) / 26 * 7 % 26).toNat = 97 + b' / 26 * 7 % 26 := by omega
    refine for_range (lo := 0) (n := m.toNat) (fun i σ H' => ∃ (l : List Nat) (v4 : Option V), σ = [some (.ref p), some (.ref q), some (.str "abcdefghijklmnopqrstuvwxyz"), some (.str (S1 l)), v4] ∧ l.length = 2 + i ∧ (∀ c ∈ l, 97 ≤ c ∧ c ≤ 122) ∧ l.take 2 = [97 + b' * 11 % 26, 97 + b' / 26 * 7 % 26] ∧
        PotOk H' p (n + 2 + i) ∧ H' q = some (.lst [.int (b' : Nat)]) ∧ Kp [p, q] H H') ?_ ?_ ?_
    · refine ⟨[97 + b' * 11 % 26, 97 + b' / 26 * 7 % 26], none, ?_, rfl, ?_, rfl, hp3, hq3, k23⟩
      · show [_, _, _, some (V.str (S1 [97 + ((b' : Int) * 11 % 26).toNat] ++ S1 [97 + ((b' : Int) / 26 * 7 % 26).toNat])), _] = _
        rw [s1_cat, c1, c2]
        rfl
      · intro c hc
        simp at hc
        rcases hc with z | z <;> omega
    · rintro i σ H' hi ⟨l, v4, rfl, ll, lc, lt, hp', hq', k'⟩
      refine ⟨_, rfl, _, rfl, _, rfl, p, 26, n + 2 + i, rfl, hp', by decide, by decide, by omega, fun r2 H4 r20 r26 hp4 k4 => ?_⟩
      refine ⟨_, _, _, rfl, rfl, lz, letter_at r20 r26, _, _, rfl, rfl, ?_, ?_⟩
      · show (S1 l).length + (S1 [97 + r2.toNat]).length ≤ sizeLine
        rw [s1_len, s1_len]
        exact Nat.le_of_lt (small1000 (by simp; omega))
      · refine ⟨l ++ [97 + r2.toNat], some (.int (0 + (i : Nat))), ?_, by rw [List.length_append]; simp; omega, ?_, ?_, hp4, k4.old _ _ hq' (by simp [npq]), k'.trans (k4.mono (by simp))⟩
        · show [_, _, _, some (V.str (S1 l ++ S1 [97 + r2.toNat])), _] = _
          rw [s1_cat]
        · intro c hc
          rcases List.mem_append.mp hc with z | z
          · exact lc c z
          · simp at z; omega
        · rw [List.take_append_of_le_length (by omega)]
          exact lt
    · rintro σ H' ⟨l, v4, rfl, ll, lc, lt, hp', hq', k'⟩
      have l8 : l.length ≤ 8 := by omega
      refine ⟨_, rfl, (by show 8 ≤ sizeLine; decide), fun D hD => ?_⟩
      have k5 : Kp [p, q] H (upd H' D (.lst (wordsL.map V.str))) := k'.new' hD
      have kD : Kp [] H' (upd H' D (.lst (wordsL.map V.str))) := Kp.new hD
      have hp5 : PotOk (upd H' D (.lst (wordsL.map V.str))) p (n + 10) := (hp'.kp kD (by simp)).more (by omega)
      have hq5 := kD.old _ _ hq' (by simp)
      refine ⟨D, wordsL.map V.str, rfl, .inl (SqL.of upd_same), rfl, flats _, _, rfl, ?_⟩
      have er : b < b' := by omega
      have er3 : b' ≤ b + 3 := by omega
      by_cases hw : wordsL.contains (S1 l) = true
      · refine iteB (by rw [inV_strs]; exact hw) ?_
        have hm : S1 l ∈ wordsL := by simpa using hw
        have l6 := words_len _ hm
        rw [s1_tl] at l6
        refine ⟨_, rfl, _, _, rfl, rfl, ?_, ?_⟩
        · show (S1 l).length + (S1 [113]).length ≤ sizeLine
          rw [s1_len, s1_len]
          exact Nat.le_of_lt (small1000 (by simp; omega))
        · refine ⟨_, rfl, ?_⟩
          show Q (V.str (S1 l ++ S1 [113])) _
          rw [s1_cat]
          refine k _ b' _ er er3 ⟨isName_of (by simp) (by simp; omega) (fun c hc => ?_) ?_, ?_⟩ hp5 hq5 k5
          · rcases List.mem_append.mp hc with z | z
            · exact lc c z
            · simp at z; omega
          · have hno : S1 (l ++ [113]) ∉ wordsL := fun z => words_q _ hm _ z rfl
            simpa using hno
          · rw [s1_tl, List.take_append_of_le_length (by omega)]
            exact lt
      · have hw' : wordsL.contains (S1 l) = false := by simpa using hw
        refine iteBn (by rw [inV_strs]; exact hw') ?_
        refine ⟨_, rfl, ?_⟩
        exact k _ b' _ er er3 ⟨isName_of (by omega) l8 lc hw', lt⟩ hp5 hq5 k5
end

end Md

namespace Md
open PySem PySem.Spec PyProof.Rows L2

/-! ### comprehensions whose items write: what is carried speaks of all so far -/
section
variable {J : It} {n : Nat} {G : Hp → Prop} {Y : Nat → Hp → V → Hp → Prop} {S : List Addr} {D : Addr} {H : Hp} {g : TG} {tt : TT} {te : TE} {vs : List Nat} {σ : L2.St} {Qd : Hp → Prop}
theorem lcA (wk : Walk J n G Y) (I : List V → Hp → Prop) (hI : ∀ acc H1 H2, Kp [D] H1 H2 → I acc H1 → I acc H2) (I0 : I [] H) (hD : H D = none) (hS : D ∉ S) (hz : n < sizeLine) (hG : ∀ H', Kp S H H' → G H')
    (hs : ∀ i x H' H'' acc (C : V → Hp → Prop), i < n → acc.length = i → Kp S H H' → I acc H' → Y i H' x H'' → (∀ y H4, Kp S H' H4 → I (acc ++ [y]) H4 → C y H4) → g x (wipe σ vs) H'' fun σ2 H2 => wipe σ2 vs = wipe σ vs ∧ te σ2 H2 C)
    (hd : ∀ H' ys, Kp S H H' → I ys H' → H' D = some (.lst ys) → ys.length = n → Qd H') :
    ∃ W : Nat → Nat → Hp → Prop, (∃ m, W 0 m (upd H D (.lst []))) ∧ ∀ i m H, W i m H → (J.stop i H ∧ Qd H) ∨ (J.go i H ∧ ∃ Nx : Hp → Prop, (∀ H', Nx H' → ∃ m', m' < m ∧ W (i + 1) m' H') ∧
      ∀ x H', J.yld i H x H' → g x (wipe σ vs) H' fun σ2 H2 => wipe σ2 vs = wipe σ vs ∧ tYes σ2 H2 fun b H3 => if b = true then te σ2 H3 fun y H4 => ∃ acc, H4 D = some (.lst acc) ∧ acc.length < sizeLine ∧ Nx (upd H4 D (.lst (acc ++ [y]))) else Nx H3) := by
  refine lc_it wk (fun i H' => Kp S H H' ∧ ∃ ys : List V, H' D = some (.lst ys) ∧ ys.length = i ∧ I ys H') ⟨Kp.new hD, [], upd_same, rfl, hI _ _ _ (Kp.new hD) I0⟩ (fun i H' _ p => hG H' p.1) ?_ (fun H' p => ?_)
  · intro i x H' H'' hi p y
    obtain ⟨p1, ys, p2, p3, p4⟩ := p
    have q := hs i x H' H'' ys (fun y H4 => ∃ acc, H4 D = some (.lst acc) ∧ acc.length < sizeLine ∧ (Kp S H (upd H4 D (.lst (acc ++ [y]))) ∧ ∃ ys : List V, upd H4 D (.lst (acc ++ [y])) D = some (.lst ys) ∧ ys.length = i + 1 ∧ I ys (upd H4 D (.lst (acc ++ [y]))))) hi p3 p1 p4 y
      (fun v H4 k e => ⟨ys, k.old _ _ p2 hS, by omega, (p1.trans k).own hD, ys ++ [v], upd_same, by simp [p3], hI _ _ _ (Kp.wr (k.old _ _ p2 hS) (by simp)) e⟩)
    exact q
  · obtain ⟨p1, ys, p2, p3, p4⟩ := p
    exact hd H' ys p1 p4 p2 p3
end
theorem atI_some {α : Type} {l : List α} {i : Int} (h0 : 0 ≤ i) (h1 : i < l.length) : ∃ x, x ∈ l ∧ l[i.toNat]? = some x ∧ atI l i = some x := by
  have hi : i.toNat < l.length := by omega
  refine ⟨l[i.toNat], List.getElem_mem hi, List.getElem?_eq_getElem hi, ?_⟩
  have e : i = ((i.toNat : Nat) : Int) := by omega
  conv => lhs; rw [e]
  exact atI_nat (List.getElem?_eq_getElem hi)
theorem atI_map {α β : Type} {l : List α} (f : α → β) {i : Int} (h0 : 0 ≤ i) (h1 : i < l.length) : ∃ x, x ∈ l ∧ l[i.toNat]? = some x ∧ atI (l.map f) i = some (f x) := by
  have hi : i.toNat < l.length := by omega
  refine ⟨l[i.toNat], List.getElem_mem hi, List.getElem?_eq_getElem hi, ?_⟩
  have e : i = ((i.toNat : Nat) : Int) := by omega
  conv => lhs; rw [e]
  exact atI_nat (by rw [List.getElem?_map, List.getElem?_eq_getElem hi]; rfl)
section
variable {P : Program} {w : World} {K : PySem.W.Frag} {mg : Str → Option Value} {base : Heap} {aW : Addr}
/-- a row: a maker drawn as a word, with parts of what is handed in -/
def spLawRow (K : PySem.W.Frag) : Sp := fun vs H Q _ => ∃ (p q so : Addr) (n b : Nat) (ws : List Str) (most : Int), vs = [.ref p, .ref q, .ref so, .int most] ∧ PotOk H p n ∧ n ≤ 900000 ∧ H q = some (.lst [.int (b : Nat)]) ∧ b ≤ 600 ∧
  H so = some (.lst (ws.map V.str)) ∧ ws ≠ [] ∧ ws.length ≤ 1000 ∧ 0 ≤ most ∧ most ≤ 3 ∧
  ∀ (v : V) (r : Rw) (b' : Nat) (H' : Hp), RowT K H' v r → (∀ x ∈ r.2, x ∈ ws) → r.2.length ≤ 3 → b < b' → b' ≤ b + 3 → WordAt b' r.1 → PotOk H' p (n + 20) → H' q = some (.lst [.int (b' : Nat)]) → Kp [p, q] H H' → Q v H'
set_option maxHeartbeats 1000000 in
theorem c_law_row (T : Txt K mg aW) (c_law_take : C8.Cal P w K mg base 1 "_law_take" spTake []) (c_law_word : C8.Cal P w K mg base 2 "_law_word" spWord []) (F : At_law_row K mg) : C8.Cal P w K mg base 3 "_law_row" (spLawRow K) [] := by
  refine F.cal sc_law_row (fun vs H Q E h => ?_) (fun f cdv A outer s H vs Q E hr h => ?_)
  · obtain ⟨p, q, so, n, b, ws, most, rfl, _⟩ := h
    rfl
  · obtain ⟨p, q, so, n, b, ws, most, rfl, hp, hn, hq, hb, hso, wne, wl, m0, m3, k⟩ := h
    have nd := sc_law_row.nd
    have wpos : 1 ≤ ws.length := by
      cases ws with
      | nil => exact absurd rfl wne
      | cons a r => simp
    have nps : so ≠ p := by
      obtain ⟨x, y, z, e, _⟩ := hp
      intro c
      subst c
      rw [hso] at e
      cases ws with
      | nil => exact absurd rfl wne
      | cons a r => cases e
    have npq : q ≠ p := by
      obtain ⟨xs, e, l⟩ := hp.lst
      intro z
      subst z
      rw [hq] at e
      cases e
      cases l
    refine ⟨_, (pss_cons (ps_set (i := 4) nd rfl (by first | exact Or.inl rfl | exact Or.inr rfl) (pe_callTy call_tuple_of (by rfl) T.z_tuple (by decide +kernel) (pa_cons (pe_lc (own := [("k", 5)]) (te := tOp (rIxL K) (tVar 2) (tCall spTake [] E0 (tCons (tVar 0) (tCons (tCB (fun xs H Q => ∃ p ys, xs = [.ref p] ∧ (SqL K H p ys ∨ SqT K H p ys) ∧ Q (.int ys.length) H) (tCons (tVar 2) tNil)) tNil)))) (g := (gName 5)) (tt := tYes) rfl nd (pi_range1 (by rfl) T.z_range (pa_cons (pe_callB (call_min2 rfl) (by rfl) T.z_min (by decide +kernel) (pa_cons (pv 3) (pa_cons (pe_ix ix_list (pe_lst (pa_cons pe_int (pa_cons pe_int (pa_cons pe_int (pa_cons pe_int (pa_cons pe_int (pa_cons pe_int pa_nil))))))) (C8.pe_c c_law_take hr (by decide) rfl (pa_cons (pv 0) (pa_cons pe_int pa_nil))) (fun _ _ => rfl)) pa_nil))) pa_nil)) (blkOk_by (N := nn_law_row) (sc := defScope st_law_row) (own := [("k", 5)]) (by decide +kernel)) (fun _ _ _ _ _ => (pg_name (i := 5) nd rfl (by first | exact Or.inl rfl | exact Or.inr rfl))) (fun _ _ _ _ _ => pts_nil) (fun _ _ _ _ _ => (pe_ix ix_list (pv 2) (C8.pe_c c_law_take hr (by decide) rfl (pa_cons (pv 0) (pa_cons (pe_callB call_len_seq (by rfl) T.z_len (by decide +kernel) (pa_cons (pv 2) pa_nil)) pa_nil))) (fun _ _ => rfl)))) pa_nil)))
      (pss_one (ps_ret (pe_tup (pa_cons (C8.pe_c c_law_word hr (by decide) rfl (pa_cons (pv 0) (pa_cons (pv 1) pa_nil))) (pa_cons (pv 4) pa_nil)))))), ?_⟩
    -- how many parts
    refine ⟨_, rfl, (by show 6 ≤ sizeLine; decide), fun L hL => ?_⟩
    have k1 : Kp [] H (upd H L (.lst [.int 0, .int 1, .int 2, .int 2, .int 1, .int 3])) := Kp.new hL
    generalize hH1 : upd H L (.lst [.int 0, .int 1, .int 2, .int 2, .int 1, .int 3]) = H1 at k1
    have hL1 : H1 L = some (.lst [.int 0, .int 1, .int 2, .int 2, .int 1, .int 3]) := by subst hH1; exact upd_same
    have nLp : L ≠ p := by
      obtain ⟨xs, e, _⟩ := hp.lst
      exact fun z => by subst z; rw [hL] at e; cases e
    refine ⟨_, rfl, p, 6, n, rfl, hp.kp k1 (by simp), by decide, by decide, by omega, fun t H2 t0 t6 hp2 k2 => ?_⟩
    have hL2 : H2 L = some (.lst [.int 0, .int 1, .int 2, .int 2, .int 1, .int 3]) := k2.old _ _ hL1 (by simp [nLp])
    obtain ⟨c, hc, _, ec⟩ := atI_map (l := [(0 : Int), 1, 2, 2, 1, 3]) V.int t0 (by simpa using t6)
    refine ⟨L, _, _, _, rfl, rfl, SqL.of hL2, ec, ?_⟩
    have c0 : 0 ≤ c ∧ c ≤ 3 := by simp at hc; omega
    have k12 : Kp [p] H H2 := (k1.mono (by simp)).trans k2
    have hso2 : H2 so = some (.lst (ws.map V.str)) := k12.old _ _ hso (by simp [nps])
    have hq2 : H2 q = some (.lst [.int (b : Nat)]) := k12.old _ _ hq (by simp [npq])
    have mm : 0 ≤ (if c < most then c else most) ∧ (if c < most then c else most) ≤ 3 := by split <;> omega
    refine ⟨_, _, rfl, (if c < most then c else most), rfl, by omega, by omega, fun D hD => ?_⟩
    generalize (if c < most then c else most) = m at mm
    refine lcA (S := [p]) walk_range (fun acc H' => ∃ ps : List Str, acc = ps.map V.str ∧ (∀ x ∈ ps, x ∈ ws) ∧ PotOk H' p (n + 1 + acc.length)) (fun acc Ha Hb kk z => ?_) ⟨[], rfl, fun x h => (nomatch h), hp2⟩ hD ?_ (small1000 (by omega)) (fun _ _ => trivial) ?_ ?_
    · obtain ⟨ps, e1, e2, e3⟩ := z
      refine ⟨ps, e1, e2, e3.kp kk ?_⟩
      obtain ⟨xs, e, _⟩ := hp2.lst
      simp
      exact fun z => by subst z; rw [hD] at e; cases e
    · obtain ⟨xs, e, _⟩ := hp2.lst
      simp
      exact fun z => by subst z; rw [hD] at e; cases e
    · rintro i x H' H'' acc C hi hl kk ⟨ps, e1, e2, e3⟩ ⟨rfl, rfl⟩ hC
      have hso3 := kk.old _ _ hso2 (by simp [nps])
      refine ⟨rfl, ?_⟩
      refine ⟨_, rfl, _, rfl, _, rfl, ⟨so, _, rfl, .inl (SqL.of hso3), p, (ws.length : Int), n + 1 + acc.length, by rw [List.length_map]; rfl, e3, by omega, by omega, by omega, fun r H4 r0 r1 hp4 k4 => ?_⟩⟩
      have hso4 := k4.old _ _ hso3 (by simp [nps])
      obtain ⟨y, hy, _, ey⟩ := atI_map (l := ws) V.str r0 r1
      refine ⟨so, _, _, _, rfl, rfl, SqL.of hso4, ey, ?_⟩
      refine hC _ _ k4 ⟨ps ++ [y], by rw [e1, List.map_append]; rfl, fun x hx => ?_, by rw [List.length_append]; exact hp4⟩
      rcases List.mem_append.mp hx with z | z
      · exact e2 x z
      · simp at z; subst z; exact hy
    · rintro H3 ys k3 ⟨ps, e1, e2, e3⟩ hD3 yl
      refine ⟨D, ys, rfl, .inl ⟨SqL.of hD3, fun l hl => ?_⟩⟩
      have kl : Kp [] H3 (upd H3 l (.tup ys)) := Kp.new hl
      have hl4 : upd H3 l (.tup ys) l = some (.tup ys) := upd_same
      generalize upd H3 l (.tup ys) = H4 at kl hl4
      have hp4 : PotOk H4 p (n + 4) := (e3.kp kl (by simp)).more (by omega)
      have hq4 : H4 q = some (.lst [.int (b : Nat)]) := kl.old _ _ (k3.old _ _ hq2 (by simp [npq])) (by simp)
      have k4 : Kp [p] H H4 := (k12.trans k3).trans (kl.mono (by simp))
      refine ⟨_, rfl, _, rfl, p, q, n + 4, b, rfl, hp4, by omega, hq4, hb, fun x b' H5 b0 b3 wx hp5 hq5 k5 => ?_⟩
      refine ⟨_, rfl, (by show 2 ≤ sizeLine; decide), fun u hu => ?_⟩
      have ku : Kp [] H5 (upd H5 u (.tup [.str x, .ref l])) := Kp.new hu
      have hl6 : SqT K (upd H5 u (.tup [.str x, .ref l])) l (ps.map V.str) := by
        have z : SqT K H4 l (ps.map V.str) := .inl (.inl (by rw [hl4, e1]))
        exact ku.sqt (k5.sqt z)
      refine k _ (x, ps) b' _ ⟨u, .ref l, rfl, .inl (.inl upd_same), l, rfl, hl6⟩ e2 ?_ b0 b3 wx ((hp5.kp ku (by simp)).more (by omega)) (ku.old _ _ hq5 (by simp)) (((k4.mono (by simp)).trans k5).trans (ku.mono (by simp)))
      have : ps.length = ys.length := by rw [e1, List.length_map]
      show ps.length ≤ 3
      omega
end

end Md

namespace Md
open PySem PySem.Spec PyProof.Rows L2

/-! ### fresh words -/
theorem wordAt_inj {b c : Nat} {x : Str} (h1 : WordAt b x) (h2 : WordAt c x) (hb : b < 676) (hc : c < 676) : b = c := by
  have e := h1.2.symm.trans h2.2
  injection e with e1 e2
  injection e2 with e2 _
  have m1 : b * 11 % 26 = c * 11 % 26 := by omega
  have m2 : b / 26 * 7 % 26 = c / 26 * 7 % 26 := by omega
  have q1 : b % 26 = c % 26 := by omega
  have q2 : b / 26 = c / 26 := by
    have : b / 26 < 26 := by omega
    have : c / 26 < 26 := by omega
    omega
  omega
structure Fr (lo hi : Nat) (ws : List Str) : Prop where
  nd : ws.Nodup
  at_ : ∀ x ∈ ws, ∃ b, lo < b ∧ b ≤ hi ∧ WordAt b x
theorem Fr.nil {lo : Nat} : Fr lo lo [] := ⟨List.nodup_nil, fun _ h => (nomatch h)⟩
theorem Fr.more {lo hi h2 : Nat} {ws : List Str} (f : Fr lo hi ws) (h : hi ≤ h2) : Fr lo h2 ws := ⟨f.nd, fun x m => let ⟨b, h1, h2, h3⟩ := f.at_ x m; ⟨b, h1, by omega, h3⟩⟩
theorem Fr.app {lo mid hi : Nat} {ws vs : List Str} (f : Fr lo mid ws) (g : Fr mid hi vs) (hm : mid ≤ hi) (hh : lo ≤ mid) (h : hi < 676) : Fr lo hi (ws ++ vs) := by
  refine ⟨List.nodup_append.mpr ⟨f.nd, g.nd, fun x hx y hy e => ?_⟩, fun x hx => ?_⟩
  · subst e
    obtain ⟨b, b1, b2, b3⟩ := f.at_ x hx
    obtain ⟨c, c1, c2, c3⟩ := g.at_ x hy
    have := wordAt_inj b3 c3 (by omega) (by omega)
    omega
  · rcases List.mem_append.mp hx with m | m
    · obtain ⟨b, b1, b2, b3⟩ := f.at_ x m
      exact ⟨b, b1, by omega, b3⟩
    · obtain ⟨b, b1, b2, b3⟩ := g.at_ x m
      exact ⟨b, by omega, b2, b3⟩
theorem Fr.one {lo b : Nat} {x : Str} (h : lo < b) (w : WordAt b x) : Fr lo b [x] := ⟨by simp, fun y hy => by simp at hy; subst hy; exact ⟨b, h, Nat.le_refl _, w⟩⟩
theorem Fr.name {lo hi : Nat} {ws : List Str} (f : Fr lo hi ws) {x : Str} (h : x ∈ ws) : isName x = true := let ⟨_, _, _, w⟩ := f.at_ x h; w.1
theorem Fr.perm {lo hi : Nat} {ws vs : List Str} (f : Fr lo hi ws) (p : ws.Perm vs) : Fr lo hi vs := ⟨p.nodup_iff.mp f.nd, fun x h => f.at_ x (p.mem_iff.mpr h)⟩
theorem Fr.sub {lo hi : Nat} {ws vs : List Str} (f : Fr lo hi ws) (p : vs.Sublist ws) : Fr lo hi vs := ⟨f.nd.sublist p, fun x h => f.at_ x (p.subset h)⟩
/-! ### good kinds in another order -/
theorem GoodK.perm {ks ls : Kds} (g : GoodK ks) (p : ks.Perm ls) : GoodK ls := by
  have pn : (kindNames ks).Perm (kindNames ls) := p.map _
  have pm : (makerNames ks).Perm (makerNames ls) := (p.flatMap_right _).map _
  obtain ⟨rank, hr⟩ := g.rk
  refine ⟨by rw [← p.length_eq]; exact g.l1, by rw [← p.length_eq]; exact g.l5, fun d h => g.kn d (p.mem_iff.mpr h), fun d h => g.m1 d (p.mem_iff.mpr h), fun d h => g.m4 d (p.mem_iff.mpr h), fun d h => g.mn d (p.mem_iff.mpr h),
    fun d h => g.p3 d (p.mem_iff.mpr h), fun d h r hr x hx => ?_, ?_, rank, fun d h => ?_⟩
  · rcases g.ps d (p.mem_iff.mpr h) r hr x hx with z | z
    · exact .inl z
    · exact .inr (pn.mem_iff.mp z)
  · exact ((pn.append pm).nodup_iff).mp g.nd
  · obtain ⟨h1, r, h2, h3⟩ := hr d (p.mem_iff.mpr h)
    refine ⟨by rw [← p.length_eq]; exact h1, r, h2, fun x hx => ?_⟩
    rcases h3 x hx with z | ⟨z, z2⟩
    · exact .inl z
    · exact .inr ⟨pn.mem_iff.mp z, z2⟩
/-- kinds made one by one, each with a way out -/
structure GenK (words : List Str) (bw b k : Nat) (ks : Kds) : Prop where
  ns : kindNames ks = words.take k
  m1 : ∀ d ∈ ks, 1 ≤ d.2.length
  m4 : ∀ d ∈ ks, d.2.length ≤ 4
  p3 : ∀ d ∈ ks, ∀ r ∈ d.2, r.2.length ≤ 3
  ps : ∀ d ∈ ks, ∀ r ∈ d.2, ∀ x ∈ r.2, x = ("mark" : Str) ∨ x ∈ words
  rk : ∀ i d, ks[i]? = some d → ∃ r ∈ d.2, ∀ x ∈ r.2, x = ("mark" : Str) ∨ x ∈ words.take i
  fr : Fr bw b (makerNames ks)
theorem idxOf_take {ws : List Str} {x : Str} {i : Nat} (h : x ∈ ws.take i) : ws.idxOf x < i := by
  induction ws generalizing i with
  | nil => simp at h
  | cons a r ih =>
    cases i with
    | zero => simp at h
    | succ i =>
      rw [List.idxOf_cons]
      by_cases e : a = x
      · subst e; simp
      · rw [List.take_succ_cons] at h
        rcases List.mem_cons.mp h with z | z
        · exact absurd z.symm e
        · have := ih z
          have e' : (a == x) = false := by simpa using e
          rw [e']
          simp only [cond_false]
          omega
theorem idxOf_nth {ws : List Str} (nd : ws.Nodup) {x : Str} {i : Nat} (h : ws[i]? = some x) : ws.idxOf x = i := by
  induction ws generalizing i with
  | nil => simp at h
  | cons a r ih =>
    rw [List.nodup_cons] at nd
    rw [List.idxOf_cons]
    cases i with
    | zero => simp at h; subst h; simp
    | succ i =>
      have h' : r[i]? = some x := by simpa using h
      have e : (a == x) = false := by
        simp
        intro z
        subst z
        exact nd.1 (List.mem_of_getElem? h')
      rw [e, ih nd.2 h']
      rfl
theorem GenK.good {words : List Str} {b0 bw b : Nat} {ks : Kds} (g : GenK words bw b words.length ks) (w1 : 1 ≤ words.length) (w5 : words.length ≤ 5) (fw : Fr b0 bw words) (h0 : b0 ≤ bw) (h1 : bw ≤ b) (hb : b < 676) : GoodK ks := by
  have ns := g.ns
  rw [List.take_length] at ns
  have kl : ks.length = words.length := by rw [← ns, kindNames, List.length_map]
  refine ⟨by omega, by omega, fun d h => fw.name ?_, g.m1, g.m4, fun d h r hr => g.fr.name ?_, g.p3, fun d h r hr x hx => by rw [ns]; exact g.ps d h r hr x hx, ?_, fun x => words.idxOf x, fun d h => ?_⟩
  · rw [← ns]; exact List.mem_map.mpr ⟨d, h, rfl⟩
  · exact List.mem_map.mpr ⟨r, List.mem_flatMap.mpr ⟨d, h, hr⟩, rfl⟩
  · rw [allNames, ns]; exact (fw.app g.fr h1 h0 hb).nd
  · obtain ⟨i, hi, e⟩ := List.getElem_of_mem h
    have e' : ks[i]? = some d := by rw [List.getElem?_eq_getElem hi, e]
    have ew : words[i]? = some d.1 := by rw [← ns, kindNames, List.getElem?_map, e']; rfl
    have ix := idxOf_nth fw.nd ew
    obtain ⟨r, hr, hp⟩ := g.rk i d e'
    refine ⟨by show words.idxOf d.1 < _; rw [ix]; omega, r, hr, fun x hx => ?_⟩
    rcases hp x hx with z | z
    · exact .inl z
    · exact .inr ⟨by rw [ns]; exact List.mem_of_mem_take z, by show words.idxOf x < words.idxOf d.1; rw [ix]; exact idxOf_take z⟩
theorem GenK.nil {words : List Str} {bw : Nat} : GenK words bw bw 0 [] :=
  ⟨rfl, fun _ h => (nomatch h), fun _ h => (nomatch h), fun _ h => (nomatch h), fun _ h => (nomatch h), fun _ _ h => (nomatch h), Fr.nil⟩
theorem GenK.snoc {words : List Str} {bw b b' k : Nat} {ks : Kds} {x : Str} {rs : List Rw} (g : GenK words bw b k ks) (hx : words[k]? = some x) (m1 : 1 ≤ rs.length) (m4 : rs.length ≤ 4) (p3 : ∀ r ∈ rs, r.2.length ≤ 3)
    (ps : ∀ r ∈ rs, ∀ y ∈ r.2, y = ("mark" : Str) ∨ y ∈ words) (rk : ∃ r ∈ rs, ∀ y ∈ r.2, y = ("mark" : Str) ∨ y ∈ words.take k) (fr : Fr b b' (rs.map (·.1))) (h0 : bw ≤ b) (h1 : b ≤ b') (hb : b' < 676) : GenK words bw b' (k + 1) (ks ++ [(x, rs)]) := by
  have hk := (List.getElem?_eq_some_iff.mp hx).1
  have hx' := (List.getElem?_eq_some_iff.mp hx).2
  have kl : ks.length = k := by
    have := congrArg List.length g.ns
    rw [kindNames, List.length_map, List.length_take] at this
    omega
  have mem : ∀ (d : Kd), d ∈ ks ++ [(x, rs)] → d ∈ ks ∨ d = (x, rs) := fun d h => by
    rcases List.mem_append.mp h with z | z
    · exact .inl z
    · exact .inr (by simpa using z)
  refine ⟨?_, fun d h => ?_, fun d h => ?_, fun d h => ?_, fun d h => ?_, fun i d h => ?_, ?_⟩
  · rw [kindNames, List.map_append, List.take_succ_eq_append_getElem hk, hx']
    show kindNames ks ++ [x] = _
    rw [g.ns]
  · rcases mem d h with z | z
    · exact g.m1 d z
    · subst z; exact m1
  · rcases mem d h with z | z
    · exact g.m4 d z
    · subst z; exact m4
  · rcases mem d h with z | z
    · exact g.p3 d z
    · subst z; exact p3
  · rcases mem d h with z | z
    · exact g.ps d z
    · subst z; exact ps
  · by_cases hi : i < ks.length
    · rw [List.getElem?_append_left hi] at h
      exact g.rk i d h
    · have e : i = ks.length := by
        have := (List.getElem?_eq_some_iff.mp h).1
        rw [List.length_append] at this
        simp at this
        omega
      subst e
      rw [List.getElem?_append_right (Nat.le_refl _)] at h
      simp at h
      subst h
      rw [kl]
      exact rk
  · have e : makerNames (ks ++ [(x, rs)]) = makerNames ks ++ rs.map (·.1) := by simp [makerNames, rowsOf]
    rw [e]
    exact g.fr.app fr h1 h0 hb
theorem rot_perm {α : Type} (l : List α) (n : Nat) : l.Perm (l.drop n ++ l.take n) := by
  conv => lhs; rw [← List.take_append_drop n l]
  exact List.perm_append_comm
/-! ### the written kinds -/
def rowsW (one a b c : Str) : Nat → List Rw
  | 0 => [(a, []), (b, [one])]
  | 1 => [(b, ["mark", one]), (a, [])]
  | 2 => [(a, []), (b, [])]
  | _ => [(b, [one, one]), (a, []), (c, ["mark"])]
def kssW (one a b c : Str) : List Kds := [[(one, rowsW one a b c 0)], [(one, rowsW one a b c 1)], [(one, rowsW one a b c 2)], [(one, rowsW one a b c 3)]]
theorem rowsW_ok (one a b c : Str) (w : Nat) : (1 ≤ (rowsW one a b c w).length ∧ (rowsW one a b c w).length ≤ 4) ∧ (∀ r ∈ rowsW one a b c w, (r.1 = a ∨ r.1 = b ∨ r.1 = c) ∧ r.2.length ≤ 3 ∧ ∀ x ∈ r.2, x = "mark" ∨ x = one) ∧ (a, []) ∈ rowsW one a b c w := by
  match w with
  | 0 => simp [rowsW]
  | 1 => simp [rowsW]
  | 2 => simp [rowsW]
  | w + 3 => simp [rowsW]
theorem rowsW_nd {one a b c : Str} (w : Nat) (ab : a ≠ b) (ac : a ≠ c) (bc : b ≠ c) : ((rowsW one a b c w).map (·.1)).Nodup := by
  match w with
  | 0 => simp [rowsW, ab]
  | 1 => simp [rowsW, ab.symm]
  | 2 => simp [rowsW, ab]
  | w + 3 => simp [rowsW, ab.symm, ac, bc]
theorem goodW {lo hi : Nat} {one a b c d e : Str} (w : Nat) (f : Fr lo hi [one, a, b, c, d, e]) : GoodK [(one, rowsW one a b c w)] := by
  have nd := f.nd
  simp only [List.nodup_cons, List.mem_cons, not_or, List.not_mem_nil, not_false_eq_true, and_true] at nd
  obtain ⟨⟨oa, ob, oc, _⟩, ⟨ab, ac, _⟩, ⟨bc, _⟩, _⟩ := nd
  obtain ⟨⟨l1, l4⟩, hr, ha⟩ := rowsW_ok one a b c w
  have nm : ∀ x, x = a ∨ x = b ∨ x = c → isName x = true := fun x hx => f.name (by rcases hx with z | z | z <;> subst z <;> simp)
  refine ⟨by simp, by simp, fun k hk => ?_, fun k hk => ?_, fun k hk => ?_, fun k hk => ?_, fun k hk => ?_, fun k hk => ?_, ?_, fun _ => 0, fun k hk => ?_⟩
  all_goals try (simp only [List.mem_singleton] at hk; subst hk)
  · exact f.name (by simp)
  · exact l1
  · exact l4
  · exact fun r h => nm _ (hr r h).1
  · exact fun r h => (hr r h).2.1
  · exact fun r h x hx => by
      rcases (hr r h).2.2 x hx with z | z
      · exact .inl z
      · subst z; exact .inr (by simp [kindNames])
  · have e : allNames [(one, rowsW one a b c w)] = one :: (rowsW one a b c w).map (·.1) := by simp [allNames, kindNames, makerNames, rowsOf]
    rw [e, List.nodup_cons]
    refine ⟨fun m => ?_, rowsW_nd w ab ac bc⟩
    obtain ⟨r, h1, h2⟩ := List.mem_map.mp m
    rcases (hr r h1).1 with z | z | z
    · exact oa (h2.symm.trans z)
    · exact ob (h2.symm.trans z)
    · exact oc (h2.symm.trans z)
  · exact ⟨by simp, _, ha, fun x hx => (nomatch hx)⟩
theorem goodW2 {lo hi : Nat} {one oth a b c d e : Str} (w : Nat) (f : Fr lo hi [one, oth, a, b, c, d, e]) : GoodK [(one, rowsW one a b c w), (oth, [(d, [one]), (e, [one, oth])])] := by
  have nd := f.nd
  simp only [List.nodup_cons, List.mem_cons, not_or, List.not_mem_nil, not_false_eq_true, and_true] at nd
  obtain ⟨⟨oo, oa, ob, oc, od, oe⟩, ⟨ta, tb, tc, td, te⟩, ⟨ab, ac, ad, ae⟩, ⟨bc, bd, be⟩, ⟨cd, ce⟩, de, _⟩ := nd
  obtain ⟨⟨l1, l4⟩, hr, ha⟩ := rowsW_ok one a b c w
  have nm : ∀ x, x = a ∨ x = b ∨ x = c → isName x = true := fun x hx => f.name (by rcases hx with z | z | z <;> subst z <;> simp)
  have kns : kindNames [(one, rowsW one a b c w), (oth, [(d, [one]), (e, [one, oth])])] = [one, oth] := rfl
  refine ⟨by simp, by simp, fun k hk => ?_, fun k hk => ?_, fun k hk => ?_, fun k hk => ?_, fun k hk => ?_, fun k hk => ?_, ?_, fun x => if x = oth then 1 else 0, fun k hk => ?_⟩
  all_goals try (simp only [List.mem_cons, List.not_mem_nil, or_false] at hk; rcases hk with rfl | rfl)
  · exact f.name (by simp)
  · exact f.name (by simp)
  · exact l1
  · simp
  · exact l4
  · simp
  · exact fun r h => nm _ (hr r h).1
  · intro r h
    simp at h
    rcases h with rfl | rfl <;> exact f.name (by simp)
  · exact fun r h => (hr r h).2.1
  · intro r h
    simp at h
    rcases h with rfl | rfl <;> simp
  · exact fun r h x hx => by
      rcases (hr r h).2.2 x hx with z | z
      · exact .inl z
      · subst z; exact .inr (by simp [kindNames])
  · intro r h x hx
    simp at h
    rcases h with rfl | rfl
    · simp at hx; subst hx; exact .inr (by simp [kindNames])
    · simp at hx; exact .inr (by simpa [kindNames] using hx)
  · have e : allNames [(one, rowsW one a b c w), (oth, [(d, [one]), (e, [one, oth])])] = one :: oth :: ((rowsW one a b c w).map (·.1) ++ [d, e]) := by simp [allNames, kindNames, makerNames, rowsOf]
    rw [e]
    have nmem : ∀ x, x ≠ a → x ≠ b → x ≠ c → x ∉ (rowsW one a b c w).map (·.1) := fun x h1 h2 h3 m => by
      obtain ⟨r, q1, q2⟩ := List.mem_map.mp m
      rcases (hr r q1).1 with z | z | z
      · exact h1 (q2.symm.trans z)
      · exact h2 (q2.symm.trans z)
      · exact h3 (q2.symm.trans z)
    refine List.nodup_cons.mpr ⟨fun m => ?_, List.nodup_cons.mpr ⟨fun m => ?_, List.nodup_append.mpr ⟨rowsW_nd w ab ac bc, by simp [de], fun x hx y hy z => ?_⟩⟩⟩
    · rcases List.mem_cons.mp m with z | z
      · exact oo z
      · rcases List.mem_append.mp z with z | z
        · exact nmem _ oa ob oc z
        · simp at z; rcases z with z | z
          · exact od z
          · exact oe z
    · rcases List.mem_append.mp m with z | z
      · exact nmem _ ta tb tc z
      · simp at z; rcases z with z | z
        · exact td z
        · exact te z
    · subst z
      simp at hy
      rcases hy with z | z
      · subst z; exact nmem _ (Ne.symm ad) (Ne.symm bd) (Ne.symm cd) hx
      · subst z; exact nmem _ (Ne.symm ae) (Ne.symm be) (Ne.symm ce) hx
  · exact ⟨by simp [oo], _, ha, fun x hx => (nomatch hx)⟩
  · refine ⟨by simp, (d, [one]), by simp, fun x hx => ?_⟩
    simp at hx
    subst hx
    exact .inr ⟨by simp [kindNames], by simp [oo]⟩
/-! ### literals, read forward -/
section
variable {K : PySem.W.Frag} {σ : L2.St}
def Ev (te : TE) (σ : L2.St) (R : V → Hp → Prop) : Prop := ∀ H Q, (∀ v H', Kp [] H H' → R v H' → Q v H') → te σ H Q
def EvL {α : Type} (F : Hp → V → α → Prop) (ta : TA) (σ : L2.St) (xs : List α) : Prop := ∀ H Q, (∀ vs H', Kp [] H H' → Paired (F H') vs xs → Q vs H') → ta σ H Q
theorem ev_var {i : Nat} {v : V} (h : σ[i]? = some (some v)) : Ev (tVar i) σ (fun u _ => u = v) := fun H Q k => ⟨v, h, k v H Kp.refl rfl⟩
theorem ev_str {x : Str} : Ev (tC (.str x)) σ (fun u _ => u = .str x) := fun H Q k => k _ H Kp.refl rfl
theorem evl_nil {α : Type} {F : Hp → V → α → Prop} : EvL F tNil σ [] := fun H Q k => k [] H Kp.refl .nil
theorem evl_cons {α : Type} {F : Hp → V → α → Prop} (mono : ∀ H H' v x, Kp [] H H' → F H v x → F H' v x) {te : TE} {ta : TA} {x : α} {xs : List α} (h : Ev te σ fun v H => F H v x) (t : EvL F ta σ xs) : EvL F (tCons te ta) σ (x :: xs) :=
  fun H Q k => h H _ fun v H1 k1 r1 => t H1 _ fun vs H2 k2 r2 => k (v :: vs) H2 (k1.trans k2) (.cons (mono _ _ _ _ k2 r1) r2)
abbrev FStr : Hp → V → Str → Prop := fun _ v x => v = .str x
theorem paired_strs {vs : List V} {xs : List Str} (h : Paired (fun v x => v = V.str x) vs xs) : vs = xs.map V.str := by
  induction h with
  | nil => rfl
  | cons e _ ih => rw [e, ih]; rfl
theorem ev_strs {ta : TA} {xs : List Str} (h : EvL FStr ta σ xs) (l : xs.length ≤ 900) : Ev (tTup ta) σ fun v H => StrsT K H v xs := by
  intro H Q k
  refine h H _ fun vs H1 k1 r => ⟨?_, fun p hp => ?_⟩
  · have := plen r
    exact Nat.le_of_lt (small1000 (by omega))
  · have e := paired_strs r
    subst e
    exact k _ _ (k1.new' hp) ⟨p, rfl, .inl (.inl upd_same)⟩
theorem ev_row {t1 t2 : TE} {m : Str} {ps : List Str} (h1 : Ev t1 σ fun v _ => v = .str m) (h2 : Ev t2 σ fun v H => StrsT K H v ps) : Ev (tTup (tCons t1 (tCons t2 tNil))) σ fun v H => RowT K H v (m, ps) := by
  intro H Q k
  refine h1 H _ fun v H1 k1 e => h2 H1 _ fun q H2 k2 r => ⟨(by show 2 ≤ sizeLine; decide), fun p hp => ?_⟩
  subst e
  exact k _ _ ((k1.trans k2).new' hp) ⟨p, q, rfl, .inl (.inl upd_same), r.kp (Kp.new (S := []) hp)⟩
theorem ev_rows {ta : TA} {rs : List Rw} (h : EvL (fun H v r => RowT K H v r) ta σ rs) (l : rs.length ≤ 900) : Ev (tTup ta) σ fun v H => RowsT K H v rs := by
  intro H Q k
  refine h H _ fun vs H1 k1 r => ⟨?_, fun p hp => ?_⟩
  · have := plen r
    exact Nat.le_of_lt (small1000 (by omega))
  · exact k _ _ (k1.new' hp) ⟨p, vs, rfl, .inl (.inl upd_same), pmap (fun _ _ z => z.kp (Kp.new (S := []) hp)) r⟩
theorem ev_kind {t1 t2 : TE} {m : Str} {rs : List Rw} (h1 : Ev t1 σ fun v _ => v = .str m) (h2 : Ev t2 σ fun v H => RowsT K H v rs) : Ev (tTup (tCons t1 (tCons t2 tNil))) σ fun v H => KindT K H v (m, rs) := by
  intro H Q k
  refine h1 H _ fun v H1 k1 e => h2 H1 _ fun q H2 k2 r => ⟨(by show 2 ≤ sizeLine; decide), fun p hp => ?_⟩
  subst e
  exact k _ _ ((k1.trans k2).new' hp) ⟨p, q, rfl, .inl (.inl upd_same), r.kp (Kp.new (S := []) hp)⟩
theorem ev_kds {ta : TA} {ks : Kds} (h : EvL (fun H v d => KindT K H v d) ta σ ks) (l : ks.length ≤ 900) : Ev (tTupO ta) σ fun v H => KdsO K H v ks := by
  intro H Q k
  refine h H _ fun vs H1 k1 r => ⟨?_, fun p o hp ho => ?_⟩
  · have := plen r
    exact Nat.le_of_lt (small1000 (by omega))
  · exact k _ _ (k1.new' hp) ⟨p, vs, rfl, ⟨o, upd_same, ho⟩, pmap (fun _ _ z => z.kp (Kp.new (S := []) hp)) r⟩
theorem ev_lstK {ta : TA} {kss : List Kds} (h : EvL (fun H v ks => KdsO K H v ks) ta σ kss) (l : kss.length ≤ 900) : Ev (tLst ta) σ fun v H => ∃ a vs, v = V.ref a ∧ H a = some (.lst vs) ∧ Paired (KdsO K H) vs kss := by
  intro H Q k
  refine h H _ fun vs H1 k1 r => ⟨?_, fun p hp => ?_⟩
  · have := plen r
    exact Nat.le_of_lt (small1000 (by omega))
  · exact k _ _ (k1.new' hp) ⟨p, vs, rfl, upd_same, pmap (fun _ _ z => z.kp (Kp.new (S := []) hp)) r⟩
theorem monoStr : ∀ (H H' : Hp) (v : V) (x : Str), Kp [] H H' → FStr H v x → FStr H' v x := fun _ _ _ _ _ h => h
theorem monoRow : ∀ (H H' : Hp) (v : V) (r : Rw), Kp [] H H' → RowT K H v r → RowT K H' v r := fun _ _ _ _ k h => h.kp k
theorem monoKind : ∀ (H H' : Hp) (v : V) (r : Kd), Kp [] H H' → KindT K H v r → KindT K H' v r := fun _ _ _ _ k h => h.kp k
theorem monoKds : ∀ (H H' : Hp) (v : V) (r : Kds), Kp [] H H' → KdsO K H v r → KdsO K H' v r := fun _ _ _ _ k h => h.kp k
end

end Md

namespace Md
open PySem PySem.Spec PyProof.Rows L2

theorem tyL {K : PySem.W.Frag} {H : Hp} {p : Addr} {xs : List V} (h : H p = some (.lst xs)) : tyV K "list" (.ref p) H := .inl ⟨rfl, xs, SqL.of h⟩
theorem cut_take (xs : List V) (k : Nat) : cutV xs none (some (k : Int)) = xs.take k := by
  unfold cutV
  rw [HT.sIx_none, HT.sIx_nat, List.drop_zero, Nat.sub_zero]
  exact List.take_eq_take_iff.mpr (by omega)
theorem cut_drop (xs : List V) (k : Nat) : cutV xs (some (k : Int)) none = xs.drop k := by
  unfold cutV
  rw [HT.sIx_none, HT.sIx_nat]
  by_cases h : k ≤ xs.length
  · rw [Nat.min_eq_left h]
    exact List.take_of_length_le (by rw [List.length_drop]; exact Nat.le_refl _)
  · rw [Nat.min_eq_right (by omega), List.drop_of_length_le (Nat.le_refl _), List.drop_of_length_le (by omega)]
    simp
theorem pair_get {α β : Type} {F : α → β → Prop} : ∀ {l₁ : List α} {l₂ : List β}, Paired F l₁ l₂ → ∀ {i : Nat} {b : β}, l₂[i]? = some b → ∃ a, l₁[i]? = some a ∧ F a b
  | _, _, .nil, _, _, e => by simp at e
  | _, _, .cons r t, 0, a, e => by simp at e; subst e; exact ⟨_, rfl, r⟩
  | _, _, .cons r t, i + 1, a, e => by
    obtain ⟨b, h1, h2⟩ := pair_get t (i := i) (b := a) (by simpa using e)
    exact ⟨b, by simpa using h1, h2⟩
theorem pair_app {α β : Type} {F : α → β → Prop} {l₁ m₁ : List α} {l₂ m₂ : List β} (h : Paired F l₁ l₂) (g : Paired F m₁ m₂) : Paired F (l₁ ++ m₁) (l₂ ++ m₂) := by
  induction h with
  | nil => exact g
  | cons r _ ih => exact .cons r ih
theorem pair_take {α β : Type} {F : α → β → Prop} : ∀ {l₁ : List α} {l₂ : List β}, Paired F l₁ l₂ → ∀ n, Paired F (l₁.take n) (l₂.take n)
  | _, _, h, 0 => by simp only [List.take_zero]; exact .nil
  | _, _, .nil, n + 1 => by simp only [List.take_nil]; exact .nil
  | _, _, .cons r t, n + 1 => by rw [List.take_succ_cons, List.take_succ_cons]; exact .cons r (pair_take t n)
theorem pair_drop {α β : Type} {F : α → β → Prop} : ∀ {l₁ : List α} {l₂ : List β}, Paired F l₁ l₂ → ∀ n, Paired F (l₁.drop n) (l₂.drop n)
  | _, _, h, 0 => h
  | _, _, .nil, n + 1 => by simp only [List.drop_nil]; exact .nil
  | _, _, .cons r t, n + 1 => by rw [List.drop_succ_cons, List.drop_succ_cons]; exact pair_drop t n
theorem PotOk.ne {H : Hp} {p a : Addr} {n : Nat} (h : PotOk H p n) (f : H a = none) : p ≠ a := by
  obtain ⟨xs, e, _⟩ := h.lst
  exact fun z => by subst z; rw [f] at e; cases e
/-- words drawn one behind another -/
theorem lc_words {p q D : Addr} {n b m i : Nat} {H : Hp} {σ : L2.St} {vs : List Nat} {Qd : Hp → Prop} (hD : H D = none) (hp : PotOk H p n) (hq : H q = some (.lst [.int (b : Nat)])) (hm : m ≤ 5) (hn : n ≤ 850000) (hb : b ≤ 550)
    (hw : ∀ x, wipe ((wipe σ vs).set i (some x)) vs = wipe σ vs) (h0 : ∀ x, ((wipe σ vs).set i (some x))[0]? = some (some (.ref p))) (h1 : ∀ x, ((wipe σ vs).set i (some x))[1]? = some (some (.ref q)))
    (hd : ∀ H' ws b', Kp [p, q] H H' → Fr b b' ws → b ≤ b' → b' ≤ b + 3 * m → PotOk H' p (n + 10 * m) → H' q = some (.lst [.int (b' : Nat)]) → H' D = some (.lst (ws.map V.str)) → ws.length = m → Qd H') :
    ∃ W : Nat → Nat → Hp → Prop, (∃ m, W 0 m (upd H D (.lst []))) ∧ ∀ j k H, W j k H → ((Itr 0 m).stop j H ∧ Qd H) ∨ ((Itr 0 m).go j H ∧ ∃ Nx : Hp → Prop, (∀ H', Nx H' → ∃ m', m' < k ∧ W (j + 1) m' H') ∧
      ∀ x H', (Itr 0 m).yld j H x H' → gName i x (wipe σ vs) H' fun σ2 H2 => wipe σ2 vs = wipe σ vs ∧ tYes σ2 H2 fun b H3 => if b = true then tCall spWord [] C8.E0 (tCons (tVar 0) (tCons (tVar 1) tNil)) σ2 H3 fun y H4 => ∃ acc, H4 D = some (.lst acc) ∧ acc.length < sizeLine ∧ Nx (upd H4 D (.lst (acc ++ [y]))) else Nx H3) := by
  have npD : p ≠ D := hp.ne hD
  have nqD : q ≠ D := ne_of_none hq hD
  refine lcA (S := [p, q]) walk_range (fun acc H' => ∃ ws b', acc = ws.map V.str ∧ Fr b b' ws ∧ b ≤ b' ∧ b' ≤ b + 3 * acc.length ∧ PotOk H' p (n + 10 * acc.length) ∧ H' q = some (.lst [.int (b' : Nat)])) (fun acc Ha Hb kk z => ?_)
    ⟨[], b, rfl, Fr.nil, Nat.le_refl _, by simp, hp, hq⟩ hD (by simp [Ne.symm npD, Ne.symm nqD]) (small1000 (by omega)) (fun _ _ => trivial) ?_ ?_
  · obtain ⟨ws, b', e1, e2, e3, e4, e5, e6⟩ := z
    exact ⟨ws, b', e1, e2, e3, e4, e5.kp kk (by simp [npD]), kk.old _ _ e6 (by simp [nqD])⟩
  · rintro j x H' H'' acc C hj hl kk ⟨ws, b', e1, e2, e3, e4, e5, e6⟩ ⟨rfl, rfl⟩ hC
    refine ⟨hw _, _, h0 _, _, h1 _, p, q, n + 10 * acc.length, b', rfl, e5, by omega, e6, by omega, fun x b2 H4 b0 b3 wx hp4 hq4 k4 => ?_⟩
    refine hC _ _ k4 ⟨ws ++ [x], b2, by rw [e1, List.map_append]; rfl, e2.app (Fr.one b0 wx) (by omega) e3 (by omega), by omega, ?_, ?_, hq4⟩
    · rw [List.length_append]; simp; omega
    · rw [List.length_append]; exact hp4.more (by simp; omega)
  · rintro H' ys k' ⟨ws, b', e1, e2, e3, e4, e5, e6⟩ hD' yl
    refine hd H' ws b' k' e2 e3 (by omega) (by rw [yl] at e5; exact e5) e6 (by rw [hD', e1]) ?_
    rw [← yl, e1, List.length_map]
theorem ev_written {K : PySem.W.Frag} {σ : L2.St} {one a b c : Str} (h4 : σ[4]? = some (some (.str one))) (h6 : σ[6]? = some (some (.str a))) (h7 : σ[7]? = some (some (.str b))) (h8 : σ[8]? = some (some (.str c))) :
    EvL (fun H v ks => KdsO K H v ks) (tCons (tTupO (tCons (tTup (tCons (tVar 4) (tCons (tTup (tCons (tTup (tCons (tVar 6) (tCons (tTup tNil) tNil))) (tCons (tTup (tCons (tVar 7) (tCons (tTup (tCons (tVar 4) tNil)) tNil))) tNil))) tNil))) tNil)) (tCons (tTupO (tCons (tTup (tCons (tVar 4) (tCons (tTup (tCons (tTup (tCons (tVar 7) (tCons (tTup (tCons (tC (.str "mark")) (tCons (tVar 4) tNil))) tNil))) (tCons (tTup (tCons (tVar 6) (tCons (tTup tNil) tNil))) tNil))) tNil))) tNil)) (tCons (tTupO (tCons (tTup (tCons (tVar 4) (tCons (tTup (tCons (tTup (tCons (tVar 6) (tCons (tTup tNil) tNil))) (tCons (tTup (tCons (tVar 7) (tCons (tTup tNil) tNil))) tNil))) tNil))) tNil)) (tCons (tTupO (tCons (tTup (tCons (tVar 4) (tCons (tTup (tCons (tTup (tCons (tVar 7) (tCons (tTup (tCons (tVar 4) (tCons (tVar 4) tNil))) tNil))) (tCons (tTup (tCons (tVar 6) (tCons (tTup tNil) tNil))) (tCons (tTup (tCons (tVar 8) (tCons (tTup (tCons (tC (.str "mark")) tNil)) tNil))) tNil)))) tNil))) tNil)) tNil)))) σ (kssW one a b c) :=
  (evl_cons monoKds (ev_kds (evl_cons monoKind (ev_kind (ev_var h4) (ev_rows (evl_cons monoRow (ev_row (ev_var h6) (ev_strs evl_nil (Nat.zero_le _))) (evl_cons monoRow (ev_row (ev_var h7) (ev_strs (evl_cons monoStr (ev_var h4) evl_nil) (by simp))) evl_nil)) (by simp [rowsW]))) evl_nil) (by simp)) (evl_cons monoKds (ev_kds (evl_cons monoKind (ev_kind (ev_var h4) (ev_rows (evl_cons monoRow (ev_row (ev_var h7) (ev_strs (evl_cons monoStr ev_str (evl_cons monoStr (ev_var h4) evl_nil)) (by simp))) (evl_cons monoRow (ev_row (ev_var h6) (ev_strs evl_nil (Nat.zero_le _))) evl_nil)) (by simp [rowsW]))) evl_nil) (by simp)) (evl_cons monoKds (ev_kds (evl_cons monoKind (ev_kind (ev_var h4) (ev_rows (evl_cons monoRow (ev_row (ev_var h6) (ev_strs evl_nil (Nat.zero_le _))) (evl_cons monoRow (ev_row (ev_var h7) (ev_strs evl_nil (Nat.zero_le _))) evl_nil)) (by simp [rowsW]))) evl_nil) (by simp)) (evl_cons monoKds (ev_kds (evl_cons monoKind (ev_kind (ev_var h4) (ev_rows (evl_cons monoRow (ev_row (ev_var h7) (ev_strs (evl_cons monoStr (ev_var h4) (evl_cons monoStr (ev_var h4) evl_nil)) (by simp))) (evl_cons monoRow (ev_row (ev_var h6) (ev_strs evl_nil (Nat.zero_le _))) (evl_cons monoRow (ev_row (ev_var h8) (ev_strs (evl_cons monoStr ev_str evl_nil) (by simp))) evl_nil))) (by simp [rowsW]))) evl_nil) (by simp)) evl_nil))))
theorem ev_other {K : PySem.W.Frag} {σ : L2.St} {one oth d e : Str} (h4 : σ[4]? = some (some (.str one))) (h5 : σ[5]? = some (some (.str oth))) (h9 : σ[9]? = some (some (.str d))) (h10 : σ[10]? = some (some (.str e))) :
    Ev (tTupO (tCons (tTup (tCons (tVar 5) (tCons (tTup (tCons (tTup (tCons (tVar 9) (tCons (tTup (tCons (tVar 4) tNil)) tNil))) (tCons (tTup (tCons (tVar 10) (tCons (tTup (tCons (tVar 4) (tCons (tVar 5) tNil))) tNil))) tNil))) tNil))) tNil)) σ fun v H => KdsO K H v [(oth, [(d, [one]), (e, [one, oth])])] :=
  (ev_kds (evl_cons monoKind (ev_kind (ev_var h5) (ev_rows (evl_cons monoRow (ev_row (ev_var h9) (ev_strs (evl_cons monoStr (ev_var h4) evl_nil) (by simp))) (evl_cons monoRow (ev_row (ev_var h10) (ev_strs (evl_cons monoStr (ev_var h4) (evl_cons monoStr (ev_var h5) evl_nil)) (by simp))) evl_nil)) (by simp))) evl_nil) (by simp))
section
variable {P : Program} {w : World} {K : PySem.W.Frag} {mg : Str → Option Value} {base : Heap} {aW : Addr}
/-- drawn kinds -/
def spLawKinds (K : PySem.W.Frag) : Sp := fun vs H Q _ => ∃ (p q : Addr) (n b : Nat), vs = [.ref p, .ref q] ∧ PotOk H p n ∧ n ≤ 800000 ∧ H q = some (.lst [.int (b : Nat)]) ∧ b ≤ 400 ∧
  ∀ (v : V) (ks : Kds) (H' : Hp), KdsO K H' v ks → GoodK ks → PotOk H' p (n + 1000) → Kp [p, q] H H' → (∃ b' : Nat, H' q = some (.lst [.int (b' : Nat)]) ∧ b' ≤ b + 100) → Q v H'
set_option maxHeartbeats 4000000 in
theorem c_law_kinds (T : Txt K mg aW) (c_law_take : C8.Cal P w K mg base 1 "_law_take" spTake []) (c_law_word : C8.Cal P w K mg base 2 "_law_word" spWord []) (c_law_row : C8.Cal P w K mg base 3 "_law_row" (spLawRow K) []) (F : At_law_kinds K mg) :
    C8.Cal P w K mg base 4 "_law_kinds" (spLawKinds K) [] := by
  refine F.cal sc_law_kinds (fun vs H Q E h => ?_) (fun f cdv A outer s H vs Q E hr h => ?_)
  · obtain ⟨p, q, n, b, rfl, _⟩ := h
    rfl
  · obtain ⟨p, q, n, b, rfl, hp, hn, hq, hb, k⟩ := h
    have nd := sc_law_kinds.nd
    have npq : q ≠ p := by
      obtain ⟨xs, e, l⟩ := hp.lst
      intro z
      subst z
      rw [hq] at e
      cases e
      cases l
    refine ⟨_, (pss_cons (ps_set (i := 2) nd rfl (by first | exact Or.inl rfl | exact Or.inr rfl) (C8.pe_c c_law_take hr (by decide) rfl (pa_cons (pv 0) (pa_cons pe_int pa_nil))))
      (pss_cons (ps_setLc (i := 3) (own := [("k", 13)]) (g := (gName 13)) (tt := tYes) rfl nd rfl rfl (sw_true rfl rfl rfl (by decide +kernel)) (pi_range1 (by rfl) T.z_range (pa_cons (pe_op op_add pe_int (C8.pe_c c_law_take hr (by decide) rfl (pa_cons (pv 0) (pa_cons pe_int pa_nil)))) pa_nil)) (blkOk_by (N := nn_law_kinds) (sc := defScope st_law_kinds) (own := [("k", 13)]) (by decide +kernel)) (fun _ _ _ _ _ => (pg_name (i := 13) nd rfl (by first | exact Or.inl rfl | exact Or.inr rfl))) (fun _ _ _ _ _ => pts_nil) (fun _ _ _ _ _ => (C8.pe_c c_law_word hr (by decide) rfl (pa_cons (pv 0) (pa_cons (pv 1) pa_nil)))))
      (pss_cons (ps_if (pt_cmpR op_lt (pv 2) pe_int (nomark _)) (pss_cons (ps_set (i := 3) nd rfl (by first | exact Or.inl rfl | exact Or.inr rfl) (pe_slice sl_list (pv 3) po_none (po_some pe_int)))
        (pss_cons (ps_par (i := 4) (j := 5) (by rfl) nd rfl rfl (by decide) rfl rfl (pa_cons (pe_ix ix_list (pv 3) pe_int (fun _ _ => rfl)) (pa_cons (pe_ix ix_list (pv 3) (pe_un un_neg pe_int) (fun _ _ => rfl)) pa_nil)) (by rfl))
        (pss_cons (ps_asg (pe_lc (own := [("k", 13)]) (g := (gName 13)) (tt := tYes) rfl nd (pi_range1 (by rfl) T.z_range (pa_cons pe_int pa_nil)) (blkOk_by (N := nn_law_kinds) (sc := defScope st_law_kinds) (own := [("k", 13)]) (by decide +kernel)) (fun _ _ _ _ _ => (pg_name (i := 13) nd rfl (by first | exact Or.inl rfl | exact Or.inr rfl))) (fun _ _ _ _ _ => pts_nil) (fun _ _ _ _ _ => (C8.pe_c c_law_word hr (by decide) rfl (pa_cons (pv 0) (pa_cons (pv 1) pa_nil))))) (pg_unl rfl (pgs_cons (pg_name (i := 6) nd rfl (by first | exact Or.inl rfl | exact Or.inr rfl)) (pgs_cons (pg_name (i := 7) nd rfl (by first | exact Or.inl rfl | exact Or.inr rfl)) (pgs_cons (pg_name (i := 8) nd rfl (by first | exact Or.inl rfl | exact Or.inr rfl)) (pgs_cons (pg_name (i := 9) nd rfl (by first | exact Or.inl rfl | exact Or.inr rfl)) (pgs_cons (pg_name (i := 10) nd rfl (by first | exact Or.inl rfl | exact Or.inr rfl)) pgs_nil)))))))
        (pss_cons (ps_set (i := 11) nd rfl (by first | exact Or.inl rfl | exact Or.inr rfl) (pe_lst (pa_cons (pe_tupO (pa_cons (pe_tup (pa_cons (pv 4) (pa_cons (pe_tup (pa_cons (pe_tup (pa_cons (pv 6) (pa_cons (pe_tup pa_nil) pa_nil))) (pa_cons (pe_tup (pa_cons (pv 7) (pa_cons (pe_tup (pa_cons (pv 4) pa_nil)) pa_nil))) pa_nil))) pa_nil))) pa_nil)) (pa_cons (pe_tupO (pa_cons (pe_tup (pa_cons (pv 4) (pa_cons (pe_tup (pa_cons (pe_tup (pa_cons (pv 7) (pa_cons (pe_tup (pa_cons pe_str (pa_cons (pv 4) pa_nil))) pa_nil))) (pa_cons (pe_tup (pa_cons (pv 6) (pa_cons (pe_tup pa_nil) pa_nil))) pa_nil))) pa_nil))) pa_nil)) (pa_cons (pe_tupO (pa_cons (pe_tup (pa_cons (pv 4) (pa_cons (pe_tup (pa_cons (pe_tup (pa_cons (pv 6) (pa_cons (pe_tup pa_nil) pa_nil))) (pa_cons (pe_tup (pa_cons (pv 7) (pa_cons (pe_tup pa_nil) pa_nil))) pa_nil))) pa_nil))) pa_nil)) (pa_cons (pe_tupO (pa_cons (pe_tup (pa_cons (pv 4) (pa_cons (pe_tup (pa_cons (pe_tup (pa_cons (pv 7) (pa_cons (pe_tup (pa_cons (pv 4) (pa_cons (pv 4) pa_nil))) pa_nil))) (pa_cons (pe_tup (pa_cons (pv 6) (pa_cons (pe_tup pa_nil) pa_nil))) (pa_cons (pe_tup (pa_cons (pv 8) (pa_cons (pe_tup (pa_cons pe_str pa_nil)) pa_nil))) pa_nil)))) pa_nil))) pa_nil)) pa_nil))))))
        (pss_cons (ps_if (PW.pt (pw_and (pt_cmpR op_gt (pe_callB call_len_seq (by rfl) T.z_len (by decide +kernel) (pa_cons (pv 3) pa_nil)) pe_int (nomark _)) (pw_and1 (pt_cmpR op_eq (C8.pe_c c_law_take hr (by decide) rfl (pa_cons (pv 0) (pa_cons pe_int pa_nil))) pe_int (nomark _))))) (pss_one (ps_ret (pe_op op_catO (pe_ix ix_list (pv 11) (pv 2) (fun _ _ => rfl)) (pe_tupO (pa_cons (pe_tup (pa_cons (pv 5) (pa_cons (pe_tup (pa_cons (pe_tup (pa_cons (pv 9) (pa_cons (pe_tup (pa_cons (pv 4) pa_nil)) pa_nil))) (pa_cons (pe_tup (pa_cons (pv 10) (pa_cons (pe_tup (pa_cons (pv 4) (pa_cons (pv 5) pa_nil))) pa_nil))) pa_nil))) pa_nil))) pa_nil))))) pss_nil)
        (pss_one (ps_ret (pe_ix ix_list (pv 11) (pv 2) (fun _ _ => rfl))))))))) pss_nil)
      (pss_cons (ps_set (i := 12) nd rfl (by first | exact Or.inl rfl | exact Or.inr rfl) (pe_lst pa_nil))
      (pss_cons (ps_for PassesOwn.never rfl (pi_range1 (by rfl) T.z_range (pa_cons (pe_callB call_len_seq (by rfl) T.z_len (by decide +kernel) (pa_cons (pv 3) pa_nil)) pa_nil)) (pg_name (i := 13) nd rfl (by first | exact Or.inl rfl | exact Or.inr rfl))
        (pss_cons (ps_set (i := 14) nd rfl (by first | exact Or.inl rfl | exact Or.inr rfl) (pe_lst (pa_cons (C8.pe_c c_law_row hr (by decide) rfl (pa_cons (pv 0) (pa_cons (pv 1) (pa_cons (pe_op op_cat (pe_slice sl_list (pv 3) po_none (po_some (pv 13))) (pe_lst (pa_cons pe_str pa_nil))) (pa_cons pe_int pa_nil))))) pa_nil)))
        (pss_cons (ps_for PassesOwn.never rfl (pi_range1 (by rfl) T.z_range (pa_cons (C8.pe_c c_law_take hr (by decide) rfl (pa_cons (pv 0) (pa_cons pe_int pa_nil))) pa_nil)) (pg_name (i := 15) nd rfl (by first | exact Or.inl rfl | exact Or.inr rfl))
          (pss_one (ps_expr (pe_bm PySem.F.plainAttrs_list PySem.F.slot_list_append PySem.F.type_list_append mt_append (pv 14) (pa_cons (C8.pe_c c_law_row hr (by decide) rfl (pa_cons (pv 0) (pa_cons (pv 1) (pa_cons (pe_op op_cat (pv 3) (pe_lst (pa_cons pe_str pa_nil))) (pa_cons pe_int pa_nil))))) pa_nil)))))
        (pss_cons (ps_set (i := 16) nd rfl (by first | exact Or.inl rfl | exact Or.inr rfl) (C8.pe_c c_law_take hr (by decide) rfl (pa_cons (pv 0) (pa_cons (pe_callB call_len_seq (by rfl) T.z_len (by decide +kernel) (pa_cons (pv 14) pa_nil)) pa_nil))))
        (pss_one (ps_expr (pe_bm PySem.F.plainAttrs_list PySem.F.slot_list_append PySem.F.type_list_append mt_append (pv 12) (pa_cons (pe_tup (pa_cons (pe_ix ix_list (pv 3) (pv 13) (fun _ _ => rfl)) (pa_cons (pe_callTy call_tuple_of (by rfl) T.z_tuple (by decide +kernel) (pa_cons (pe_op op_cat (pe_slice sl_list (pv 14) (po_some (pv 16)) po_none) (pe_slice sl_list (pv 14) po_none (po_some (pv 16)))) pa_nil)) pa_nil))) pa_nil))))))))
      (pss_cons (ps_set (i := 16) nd rfl (by first | exact Or.inl rfl | exact Or.inr rfl) (C8.pe_c c_law_take hr (by decide) rfl (pa_cons (pv 0) (pa_cons (pe_callB call_len_seq (by rfl) T.z_len (by decide +kernel) (pa_cons (pv 12) pa_nil)) pa_nil))))
      (pss_one (ps_ret (pe_callTy call_tupleO (by rfl) T.z_tuple (by decide +kernel) (pa_cons (pe_op op_cat (pe_slice sl_list (pv 12) (po_some (pv 16)) po_none) (pe_slice sl_list (pv 12) po_none (po_some (pv 16)))) pa_nil)))))))))), ?_⟩
    refine ⟨_, rfl, p, 8, n, rfl, hp, by decide, by decide, by omega, fun way H1 w0 w8 hp1 k1 => ?_⟩
    have hq1 : H1 q = some (.lst [.int (b : Nat)]) := k1.old _ _ hq (by simp [npq])
    refine ⟨_, rfl, p, _, n + 1, rfl, hp1, by decide, by decide, by omega, fun m H2 m0 m5 hp2 k2 => ⟨_, _, rfl, rfl, (1 + m), rfl, by omega, by omega, fun D hD => ?_⟩⟩
    have hq2 : H2 q = some (.lst [.int (b : Nat)]) := k2.old _ _ hq1 (by simp [npq])
    refine lc_words hD hp2 hq2 (by omega) (by omega) (by omega) (fun _ => rfl) (fun _ => rfl) (fun _ => rfl) ?_
    intro H3 ws b3 k3 fr b03 b33 hp3 hq3 hw wl
    have k03 : Kp [p, q] H H3 := ((k1.mono (by simp)).trans (k2.mono (by simp))).trans k3
    have npD : p ≠ D := hp2.ne hD
    have nqD : q ≠ D := ne_of_none hq2 hD
    have w1 : 1 ≤ ws.length := by omega
    have w5 : ws.length ≤ 5 := by omega
    have hp3' : PotOk H3 p (n + 60) := hp3.more (by omega)
    refine ⟨_, rfl, _, _, rfl, rfl, _, rfl, ?_⟩
    refine ite2 (fun c => ?_) (fun c => ?_)
--C1{
    · have w4 : way < 4 := of_decide_eq_true c
      refine ⟨_, rfl, 2, rfl, D, _, rfl, SqL.of hw, fun D2 hD2 => ?_⟩
      have e2 : cutV (ws.map V.str) none (some (2 : Int)) = (ws.take 2).map V.str := by
        rw [show (2 : Int) = ((2 : Nat) : Int) from rfl, cut_take, List.map_take]
      rw [e2]
      have k34 : Kp [] H3 (upd H3 D2 (.lst ((ws.take 2).map V.str))) := Kp.new hD2
      have hv4 : upd H3 D2 (.lst ((ws.take 2).map V.str)) D2 = some (.lst ((ws.take 2).map V.str)) := upd_same
      have npD2 : p ≠ D2 := hp3.ne hD2
      have nqD2 : q ≠ D2 := ne_of_none hq3 hD2
      generalize upd H3 D2 (.lst ((ws.take 2).map V.str)) = H4 at k34 hv4
      have hp4 : PotOk H4 p (n + 60) := hp3'.kp k34 (by simp)
      have hq4 := k34.old _ _ hq3 (by simp)
      have k04 : Kp [p, q] H H4 := k03.trans (k34.mono (by simp))
      obtain ⟨one, oth, x0, x1, hws⟩ : ∃ one oth, atI ((ws.take 2).map V.str) 0 = some (.str one) ∧ atI ((ws.take 2).map V.str) (-1) = some (.str oth) ∧ ((ws.take 2 = [one] ∧ oth = one) ∨ ws.take 2 = [one, oth]) := by
        match ws, w1 with
        | [x], _ => exact ⟨x, x, rfl, rfl, .inl ⟨rfl, rfl⟩⟩
        | x :: y :: r, _ => exact ⟨x, y, rfl, rfl, .inr rfl⟩
      refine ⟨_, rfl, D2, _, _, _, rfl, rfl, SqL.of hv4, x0, _, rfl, _, rfl, D2, _, _, _, rfl, rfl, SqL.of hv4, x1, _, _, rfl, ?_⟩
      refine ⟨_, rfl, by decide, by decide, fun D3 hD3 => ?_⟩
      refine lc_words hD3 hp4 hq4 (by decide) (by omega) (by omega) (fun _ => rfl) (fun _ => rfl) (fun _ => rfl) ?_
      intro H5 vs5 b5 k5 fr5 b35 b55 hp5 hq5 hv vl
      obtain ⟨a, b1, c1, d, e, rfl⟩ : ∃ a b c d e, vs5 = [a, b, c, d, e] := by
        match vs5, vl with
        | [a, b, c, d, e], _ => exact ⟨a, b, c, d, e, rfl⟩
      have hv5 : H5 D2 = some (.lst ((ws.take 2).map V.str)) := k5.old _ _ hv4 (by simp [Ne.symm npD2, Ne.symm nqD2])
      have k05 : Kp [p, q] H H5 := k04.trans k5
      refine ⟨D3, _, rfl, SqL.of hv, rfl, _, _, rfl, _, _, rfl, _, _, rfl, _, _, rfl, _, _, rfl, rfl, ?_⟩
      dsimp only [tSeq, tAsg]
      refine ev_lstK (K := K) (ev_written (one := one) (a := a) (b := b1) (c := c1) rfl rfl rfl rfl) (by simp [kssW]) _ _ ?_
      rintro _ H6 k6 ⟨L, us, rfl, hL, hus⟩
      have hp6 : PotOk H6 p (n + 200) := (hp5.kp k6 (by simp)).more (by omega)
      have k06 : Kp [p, q] H H6 := k05.trans (k6.mono (by simp))
      have hv6 := k6.old _ _ hv5 (by simp)
      have hq6 := k6.old _ _ hq5 (by simp)
      have npL : L ≠ p := by
        obtain ⟨x, y, z, e, _⟩ := hp6
        intro zz
        subst zz
        rw [hL] at e
        have := plen hus
        cases e
        simp [kssW] at this
      obtain ⟨wn, ew⟩ : ∃ wn : Nat, way = (wn : Int) := ⟨way.toNat, by omega⟩
      have hwn : wn < 4 := by omega
      have ek : (kssW one a b1 c1)[wn]? = some [(one, rowsW one a b1 c1 wn)] := by
        match wn, hwn with
        | 0, _ => rfl
        | 1, _ => rfl
        | 2, _ => rfl
        | 3, _ => rfl
      obtain ⟨u, hu, uk⟩ := pair_get hus ek
      have ui : atI us way = some u := by rw [ew]; exact atI_nat hu
      -- names unlike
      have frw : Fr b b5 (ws.take 2 ++ [a, b1, c1, d, e]) := (fr.sub (List.take_sublist 2 ws)).app fr5 b35 b03 (by have : (Int.toNat 5) = 5 := rfl; omega)
      have good1 : GoodK [(one, rowsW one a b1 c1 wn)] := by
        refine goodW (d := d) (e := e) wn (frw.sub ?_)
        rcases hws with ⟨z, _⟩ | z
        · rw [z]; exact List.Sublist.refl _
        · rw [z]; exact .cons_cons _ (.cons _ (List.Sublist.refl _))
      have last : ∀ (σ' : L2.St) (H7 : Hp), σ'[2]? = some (some (.int way)) → σ'[11]? = some (some (.ref L)) → Kp [p] H6 H7 → PotOk H7 p (n + 300) →
          tRet (tOp (rIxL K) (tVar 11) (tVar 2)) { nx := fun _ H' => Q .non H', rt := Q } σ' H7 := by
        intro σ' H7 s2 s11 k7 hp7
        have hL7 := k7.old _ _ hL (by simp [npL])
        refine ⟨_, s11, _, s2, L, us, way, u, rfl, rfl, SqL.of hL7, ui, ?_⟩
        exact k u _ H7 (uk.kp k7) good1 (hp7.more (by omega)) (k06.trans (k7.mono (by simp))) ⟨b5, k7.old _ _ hq6 (by simp [npq]), by omega⟩
      refine ⟨_, rfl, D2, _, rfl, .inl (SqL.of hv6), _, _, rfl, rfl, _, rfl, ?_⟩
      refine ite2 (fun c2 => ?_) (fun c2 => ?_)
      · refine ⟨_, rfl, p, 2, n + 200, rfl, hp6, by decide, by decide, by omega, fun t H7 t0 t2 hp7 k7 => ?_⟩
        refine ⟨rfl, _, rfl, ?_⟩
        refine ite2 (fun c3 => ?_) (fun c3 => ?_)
        · have hL7 := k7.old _ _ hL (by simp [npL])
          refine ⟨_, rfl, _, rfl, L, us, way, u, rfl, rfl, SqL.of hL7, ui, ?_⟩
          have hws2 : ws.take 2 = [one, oth] := by
            rcases hws with ⟨z, _⟩ | z
            · have : (1 : Int) < (((ws.take 2).map V.str).length : Int) := of_decide_eq_true c2
              rw [z] at this
              simp at this
            · exact z
          refine ev_other (K := K) (one := one) (oth := oth) (d := d) (e := e) rfl rfl rfl rfl _ _ ?_
          intro v8 H8 k8 r8
          obtain ⟨a1, us1, rfl, t1, q1⟩ := (uk.kp k7).kp k8
          obtain ⟨a2, us2, rfl, t2, q2⟩ := r8
          have n1 := plen q1
          have n2 := plen q2
          refine ⟨a1, a2, us1, us2, rfl, rfl, t1.sq, t2.sq, ?_, ?_, ?_, ?_⟩
          · intro z; subst z; simp at n1
          · intro z; subst z; simp at n2
          · rw [n1, n2]; exact (by show 2 ≤ sizeLine; decide)
          · intro pt o hpt ho
            have k9 : Kp [] H8 (upd H8 pt (.frz o (.tup (us1 ++ us2)))) := Kp.new hpt
            refine k _ _ _ ⟨pt, us1 ++ us2, rfl, ⟨o, upd_same, ho⟩, pmap (fun _ _ z => z.kp k9) (pair_app q1 q2)⟩ (goodW2 (d := d) (e := e) wn (by rw [hws2] at frw; exact frw)) (((hp7.kp k8 (by simp)).kp k9 (by simp)).more (by omega))
              (((k06.trans (k7.mono (by simp))).trans (k8.mono (by simp))).trans (k9.mono (by simp))) ⟨b5, k9.old _ _ (k8.old _ _ (k7.old _ _ hq6 (by simp [npq])) (by simp)) (by simp), by omega⟩
        · exact last _ H7 rfl rfl k7 (hp7.more (by omega))
      · exact last _ H6 rfl rfl Kp.refl (hp6.more (by omega))
--C1}
    · refine ⟨(by show 0 ≤ sizeLine; decide), fun G hG => ?_⟩
      have kG : Kp [] H3 (upd H3 G (.lst [])) := Kp.new hG
      have npG : p ≠ G := hp3.ne hG
      have nqG : q ≠ G := ne_of_none hq3 hG
      have nDG : D ≠ G := ne_of_none hw hG
      refine ⟨_, rfl, D, _, rfl, .inl (SqL.of (kG.old _ _ hw (by simp))), ((ws.map V.str).length : Int), rfl, by rw [List.length_map]; omega, by rw [List.length_map]; omega, ?_⟩
      have eN : ((ws.map V.str).length : Int).toNat = ws.length := by rw [List.length_map]; omega
      rw [eN]
      refine for_range (lo := 0) (n := ws.length) (fun i σ H' => ∃ v4 v5 v6 v7 v8 v9 v10 v11 v13 v14 v15 v16 vs ks b', σ = [some (.ref p), some (.ref q), some (.int way), some (.ref D), v4, v5, v6, v7, v8, v9, v10, v11, some (.ref G), v13, v14, v15, v16] ∧
          Kp [p, q] H H' ∧ H' G = some (.lst vs) ∧ Paired (KindT K H') vs ks ∧ GenK ws b3 b' i ks ∧ b3 ≤ b' ∧ b' ≤ b3 + 12 * i ∧ PotOk H' p (n + 60 + 100 * i) ∧ H' q = some (.lst [.int (b' : Nat)]) ∧ H' D = some (.lst (ws.map V.str))) ?_ ?_ ?_
      · exact ⟨_, _, _, _, _, _, _, _, _, _, _, _, [], [], b3, rfl, k03.trans (kG.mono (by simp)), upd_same, .nil, GenK.nil, Nat.le_refl _, Nat.le_refl _, hp3'.kp kG (by simp), kG.old _ _ hq3 (by simp), kG.old _ _ hw (by simp)⟩
      · rintro i σ H4 hi ⟨v4, v5, v6, v7, v8, v9, v10, v11, v13, v14, v15, v16, vs, ks, b', rfl, k4, hG4, pk, gk, b3', b3i, hp4, hq4, hD4⟩
        have hGH : H G = none := k03.free hG (by simp [Ne.symm npG, Ne.symm nqG])
        have nGp : G ≠ p := Ne.symm npG
        have nGq : G ≠ q := Ne.symm nqG
        have nDp : D ≠ p := Ne.symm npD
        have nDq : D ≠ q := Ne.symm nqD
        -- the first row
        refine ⟨_, rfl, _, rfl, _, rfl, _, rfl, _, rfl, D, _, rfl, SqL.of hD4, fun A1 hA1 => ?_⟩
        have eC : cutV (ws.map V.str) none (some (0 + (i : Int))) = (ws.take i).map V.str := by rw [Int.zero_add, cut_take, List.map_take]
        rw [eC]
        refine ⟨(by show 1 ≤ sizeLine; decide), fun A2 hA2 => ?_⟩
        have kA1 : Kp [] H4 (upd H4 A1 (.lst ((ws.take i).map V.str))) := Kp.new hA1
        have hA1' : upd (upd H4 A1 (.lst ((ws.take i).map V.str))) A2 (.lst [.str "mark"]) A1 = some (.lst ((ws.take i).map V.str)) := by rw [upd_ne (ne_of_none upd_same hA2)]; exact upd_same
        refine ⟨A1, A2, _, _, rfl, rfl, hA1', upd_same, ?_, fun A3 hA3 => ?_⟩
        · rw [List.length_map, List.length_take]
          exact Nat.le_of_lt (small1000 (by simp; omega))
        have eM : (ws.take i).map V.str ++ [V.str "mark"] = ((ws.take i ++ [("mark" : Str)]).map V.str) := by rw [List.map_append]; rfl
        rw [eM]
        have kA : Kp [] H4 (upd (upd (upd H4 A1 (.lst ((ws.take i).map V.str))) A2 (.lst [.str "mark"])) A3 (.lst ((ws.take i ++ [("mark" : Str)]).map V.str))) := (kA1.new' hA2).new' hA3
        have hA3' : upd (upd (upd H4 A1 (.lst ((ws.take i).map V.str))) A2 (.lst [.str "mark"])) A3 (.lst ((ws.take i ++ [("mark" : Str)]).map V.str)) A3 = some (.lst ((ws.take i ++ [("mark" : Str)]).map V.str)) := upd_same
        generalize upd (upd (upd H4 A1 (.lst ((ws.take i).map V.str))) A2 (.lst [.str "mark"])) A3 (.lst ((ws.take i ++ [("mark" : Str)]).map V.str)) = H5 at kA hA3'
        refine ⟨p, q, A3, n + 60 + 100 * i, b', ws.take i ++ [("mark" : Str)], 2, rfl, hp4.kp kA (by simp), by omega, kA.old _ _ hq4 (by simp), by omega, hA3', by simp, ?_, by decide, by decide, fun v r b6 H6 rT rP r3 b0 b13 wx hp6 hq6 k6 => ?_⟩
        · rw [List.length_append, List.length_take]; simp; omega
        have k46 : Kp [p, q] H4 H6 := (kA.mono (by simp)).trans k6
        refine ⟨(by show 1 ≤ sizeLine; decide), fun R hR => ?_⟩
        have kR : Kp [] H6 (upd H6 R (.lst [v])) := Kp.new hR
        have npR : R ≠ p := Ne.symm (hp6.ne hR)
        have nqR : R ≠ q := Ne.symm (ne_of_none hq6 hR)
        have hG6 : H6 G = some (.lst vs) := k46.old _ _ hG4 (by simp [nGp, nGq])
        have hD6 : H6 D = some (.lst (ws.map V.str)) := k46.old _ _ hD4 (by simp [nDp, nDq])
        have nGR : G ≠ R := ne_of_none hG6 hR
        have nDR : D ≠ R := ne_of_none hD6 hR
        have hRH : H R = none := (k4.trans k46).free hR (by simp [npR, nqR])
        refine ⟨_, rfl, p, _, n + 60 + 100 * i + 20, rfl, hp6.kp kR (by simp), by decide, by decide, by omega, fun m H7 m0 m4 hp7 k7 => ⟨m, rfl, by omega, by omega, ?_⟩⟩
        have k67 : Kp [p] H6 H7 := (kR.mono (by simp)).trans k7
        refine for_range (lo := 0) (n := m.toNat) (fun j σ H' => ∃ v15 vr rs b7, σ = [some (.ref p), some (.ref q), some (.int way), some (.ref D), v4, v5, v6, v7, v8, v9, v10, v11, some (.ref G), some (.int (0 + (i : Nat))), some (.ref R), v15, v16] ∧
            Kp [p, q] H H' ∧ H' G = some (.lst vs) ∧ Paired (KindT K H') vs ks ∧ H' D = some (.lst (ws.map V.str)) ∧ H' R = some (.lst vr) ∧ Paired (RowT K H') vr rs ∧ rs.length = 1 + j ∧ r ∈ rs ∧ (∀ s ∈ rs, s.2.length ≤ 3 ∧ ∀ y ∈ s.2, y = ("mark" : Str) ∨ y ∈ ws) ∧
            Fr b' b7 (rs.map (·.1)) ∧ b' ≤ b7 ∧ b7 ≤ b' + 3 * (1 + j) ∧ PotOk H' p (n + 60 + 100 * i + 21 + 20 * j) ∧ H' q = some (.lst [.int (b7 : Nat)])) ?_ ?_ ?_
        · refine ⟨_, [v], [r], b6, rfl, ((k4.trans k46).trans (k67.mono (by simp))), k67.old _ _ hG6 (by simp [nGp]), pmap (fun _ _ z => (z.kp k46).kp k67) pk, k67.old _ _ hD6 (by simp [nDp]), k7.old _ _ upd_same (by simp [npR]),
            .cons (rT.kp k67) .nil, rfl, by simp, fun s hs => ?_, by simpa using Fr.one b0 wx, by omega, by omega, hp7, k67.old _ _ hq6 (by simp [npq])⟩
          simp at hs
          subst hs
          refine ⟨r3, fun y hy => ?_⟩
          rcases List.mem_append.mp (rP y hy) with z | z
          · exact .inr (List.mem_of_mem_take z)
          · simp at z; exact .inl z
        · rintro j σ H8 hj ⟨v15, vr, rs, b7, rfl, k8, hG8, pk8, hD8, hR8, pr8, rl, rm, rok, frr, b71, b72, hp8, hq8⟩
          have vl := plen pr8
          refine ⟨_, rfl, tyL hR8, _, rfl, _, rfl, _, rfl, (by show 1 ≤ sizeLine; decide), fun A2 hA2 => ?_⟩
          have kB1 : Kp [] H8 (upd H8 A2 (.lst [.str "mark"])) := Kp.new hA2
          refine ⟨D, A2, _, _, rfl, rfl, kB1.old _ _ hD8 (by simp), upd_same, ?_, fun A3 hA3 => ?_⟩
          · rw [List.length_map]
            exact Nat.le_of_lt (small1000 (by simp; omega))
          have eM : ws.map V.str ++ [V.str "mark"] = ((ws ++ [("mark" : Str)]).map V.str) := by rw [List.map_append]; rfl
          rw [eM]
          have kB : Kp [] H8 (upd (upd H8 A2 (.lst [.str "mark"])) A3 (.lst ((ws ++ [("mark" : Str)]).map V.str))) := kB1.new' hA3
          have hB3 : upd (upd H8 A2 (.lst [.str "mark"])) A3 (.lst ((ws ++ [("mark" : Str)]).map V.str)) A3 = some (.lst ((ws ++ [("mark" : Str)]).map V.str)) := upd_same
          generalize upd (upd H8 A2 (.lst [.str "mark"])) A3 (.lst ((ws ++ [("mark" : Str)]).map V.str)) = H9 at kB hB3
          refine ⟨p, q, A3, n + 60 + 100 * i + 21 + 20 * j, b7, ws ++ [("mark" : Str)], 3, rfl, hp8.kp kB (by simp), by omega, kB.old _ _ hq8 (by simp), by omega, hB3, by simp, by simp; omega, by decide, by decide, fun v' r' b8 HA rT' rP' r3' b0' b13' wx' hpA hqA kA' => ?_⟩
          have k8A : Kp [p, q] H8 HA := (kB.mono (by simp)).trans kA'
          have hRA := k8A.old _ _ hR8 (by simp [npR, nqR])
          have kW : Kp [R] HA (upd HA R (.lst (vr ++ [v']))) := Kp.wr hRA (by simp)
          refine ⟨R, vr, v', rfl, rfl, hRA, small1000 (by omega), ?_⟩
          refine ⟨_, vr ++ [v'], rs ++ [r'], b8, rfl, (k8.trans k8A).own hRH, kW.old _ _ (k8A.old _ _ hG8 (by simp [nGp, nGq])) (by simp [nGR]), pmap (fun _ _ z => (z.kp k8A).kp kW) pk8, kW.old _ _ (k8A.old _ _ hD8 (by simp [nDp, nDq])) (by simp [nDR]), upd_same,
            pair_app (pmap (fun _ _ z => (z.kp k8A).kp kW) pr8) (.cons (rT'.kp kW) .nil), by rw [List.length_append]; simp; omega, List.mem_append_left _ rm, fun s hs => ?_, ?_, by omega, by omega, (hpA.kp kW (by simp [Ne.symm npR])).more (by omega), kW.old _ _ hqA (by simp [Ne.symm nqR])⟩
          · rcases List.mem_append.mp hs with z | z
            · exact rok s z
            · simp at z
              subst z
              refine ⟨r3', fun y hy => ?_⟩
              rcases List.mem_append.mp (rP' y hy) with z | z
              · exact .inr z
              · simp at z; exact .inl z
          · rw [List.map_append]
            exact frr.app (Fr.one b0' wx') (by omega) b71 (by omega)
        · rintro σ H8 ⟨v15, vr, rs, b7, rfl, k8, hG8, pk8, hD8, hR8, pr8, rl, rm, rok, frr, b71, b72, hp8, hq8⟩
          have vl := plen pr8
          refine ⟨_, rfl, _, rfl, R, _, rfl, .inl (SqL.of hR8), p, (vr.length : Int), n + 60 + 100 * i + 90, rfl, hp8.more (by omega), by omega, by omega, by omega, fun y H9 y0 y1 hp9 k9 => ?_⟩
          obtain ⟨yn, ey⟩ : ∃ yn : Nat, y = (yn : Int) := ⟨y.toNat, by omega⟩
          subst ey
          have hR9 := k9.old _ _ hR8 (by simp [npR])
          have hD9 := k9.old _ _ hD8 (by simp [nDp])
          have hG9 := k9.old _ _ hG8 (by simp [nGp])
          have hwi : ws[i]? = some ws[i] := List.getElem?_eq_getElem hi
          have ewi : atI (ws.map V.str) (0 + (i : Int)) = some (.str ws[i]) := by rw [Int.zero_add]; exact atI_nat (by rw [List.getElem?_map, hwi]; rfl)
          refine ⟨_, rfl, tyL hG9, _, rfl, _, rfl, D, _, _, _, rfl, rfl, SqL.of hD9, ewi, ?_⟩
          refine ⟨_, rfl, _, rfl, _, rfl, R, _, rfl, SqL.of hR9, fun A1 hA1 => ?_⟩
          rw [cut_drop]
          have kC1 : Kp [] H9 (upd H9 A1 (.lst (vr.drop yn))) := Kp.new hA1
          refine ⟨_, rfl, _, rfl, _, rfl, R, _, rfl, SqL.of (kC1.old _ _ hR9 (by simp)), fun A2 hA2 => ?_⟩
          rw [cut_take]
          have kC2 : Kp [] H9 (upd (upd H9 A1 (.lst (vr.drop yn))) A2 (.lst (vr.take yn))) := kC1.new' hA2
          refine ⟨A1, A2, _, _, rfl, rfl, by rw [upd_ne (ne_of_none upd_same hA2)]; exact upd_same, upd_same, ?_, fun A3 hA3 => ?_⟩
          · rw [List.length_drop, List.length_take]
            exact Nat.le_of_lt (small1000 (by omega))
          have kC3 : Kp [] H9 (upd (upd (upd H9 A1 (.lst (vr.drop yn))) A2 (.lst (vr.take yn))) A3 (.lst (vr.drop yn ++ vr.take yn))) := kC2.new' hA3
          refine ⟨A3, _, rfl, .inl ⟨SqL.of upd_same, fun A4 hA4 => ?_⟩⟩
          have kC4 : Kp [] H9 (upd (upd (upd (upd H9 A1 (.lst (vr.drop yn))) A2 (.lst (vr.take yn))) A3 (.lst (vr.drop yn ++ vr.take yn))) A4 (.tup (vr.drop yn ++ vr.take yn))) := kC3.new' hA4
          have hA4' : upd (upd (upd (upd H9 A1 (.lst (vr.drop yn))) A2 (.lst (vr.take yn))) A3 (.lst (vr.drop yn ++ vr.take yn))) A4 (.tup (vr.drop yn ++ vr.take yn)) A4 = some (.tup (vr.drop yn ++ vr.take yn)) := upd_same
          generalize upd (upd (upd (upd H9 A1 (.lst (vr.drop yn))) A2 (.lst (vr.take yn))) A3 (.lst (vr.drop yn ++ vr.take yn))) A4 (.tup (vr.drop yn ++ vr.take yn)) = HA at kC4 hA4'
          refine ⟨(by show 2 ≤ sizeLine; decide), fun A5 hA5 => ?_⟩
          have kC5 : Kp [] HA (upd HA A5 (.tup [.str ws[i], .ref A4])) := Kp.new hA5
          have k9B := kC4.trans kC5
          have hGB := k9B.old _ _ hG9 (by simp)
          have kl : ks.length = i := by
            have := congrArg List.length gk.ns
            rw [kindNames, List.length_map, List.length_take] at this
            omega
          have vkl := plen pk
          refine ⟨G, vs, _, rfl, rfl, hGB, small1000 (by omega), ?_⟩
          have kW : Kp [G] (upd HA A5 (.tup [.str ws[i], .ref A4])) (upd (upd HA A5 (.tup [.str ws[i], .ref A4])) G (.lst (vs ++ [.ref A5]))) := Kp.wr hGB (by simp)
          have rp := rot_perm rs yn
          refine ⟨_, _, _, _, _, _, _, _, _, _, _, _, vs ++ [.ref A5], ks ++ [(ws[i], rs.drop yn ++ rs.take yn)], b7, rfl, ((k8.trans (k9.mono (by simp))).trans (k9B.mono (by simp))).own hGH, upd_same,
            pair_app (pmap (fun _ _ z => ((z.kp k9).kp k9B).kp kW) pk8) (.cons ⟨A5, .ref A4, rfl, kW.sqt (.inl (.inl upd_same)), A4, vr.drop yn ++ vr.take yn, rfl, kW.sqt (kC5.sqt (.inl (.inl hA4'))), ?_⟩ .nil), ?_, by omega, by omega, ((hp9.kp k9B (by simp)).kp kW (by simp [npG])).more (by omega),
            kW.old _ _ (k9B.old _ _ (k9.old _ _ hq8 (by simp [npq])) (by simp)) (by simp [nqG]), kW.old _ _ (k9B.old _ _ hD9 (by simp)) (by simp [nDG])⟩
          · exact pmap (fun _ _ z => ((z.kp k9).kp k9B).kp kW) (pair_app (pair_drop pr8 yn) (pair_take pr8 yn))
          · refine gk.snoc hwi ?_ ?_ (fun s hs => (rok s (rp.mem_iff.mpr hs)).1) (fun s hs => (rok s (rp.mem_iff.mpr hs)).2) ⟨r, rp.mem_iff.mp rm, fun y hy => ?_⟩ (frr.perm (rp.map _)) b3' b71 (by omega)
            · have := rp.length_eq; omega
            · have := rp.length_eq; omega
            · rcases List.mem_append.mp (rP y hy) with z | z
              · exact .inr z
              · simp at z; exact .inl z
      · rintro σ H4 ⟨v4, v5, v6, v7, v8, v9, v10, v11, v13, v14, v15, v16, vs, ks, b', rfl, k4, hG4, pk, gk, b3', b3i, hp4, hq4, hD4⟩
        have vkl := plen pk
        have kl : ks.length = ws.length := by
          have := congrArg List.length gk.ns
          rw [kindNames, List.length_map, List.length_take] at this
          omega
        refine ⟨_, rfl, _, rfl, G, _, rfl, .inl (SqL.of hG4), p, (vs.length : Int), n + 600, rfl, hp4.more (by omega), by omega, by omega, by omega, fun y H9 y0 y1 hp9 k9 => ?_⟩
        obtain ⟨yn, ey⟩ : ∃ yn : Nat, y = (yn : Int) := ⟨y.toNat, by omega⟩
        subst ey
        have hG9 := k9.old _ _ hG4 (by simp [Ne.symm npG])
        refine ⟨_, rfl, _, rfl, _, rfl, G, _, rfl, SqL.of hG9, fun A1 hA1 => ?_⟩
        rw [cut_drop]
        have kC1 : Kp [] H9 (upd H9 A1 (.lst (vs.drop yn))) := Kp.new hA1
        refine ⟨_, rfl, _, rfl, _, rfl, G, _, rfl, SqL.of (kC1.old _ _ hG9 (by simp)), fun A2 hA2 => ?_⟩
        rw [cut_take]
        have kC2 : Kp [] H9 (upd (upd H9 A1 (.lst (vs.drop yn))) A2 (.lst (vs.take yn))) := kC1.new' hA2
        refine ⟨A1, A2, _, _, rfl, rfl, by rw [upd_ne (ne_of_none upd_same hA2)]; exact upd_same, upd_same, ?_, fun A3 hA3 => ?_⟩
        · rw [List.length_drop, List.length_take]
          exact Nat.le_of_lt (small1000 (by omega))
        have kC3 : Kp [] H9 (upd (upd (upd H9 A1 (.lst (vs.drop yn))) A2 (.lst (vs.take yn))) A3 (.lst (vs.drop yn ++ vs.take yn))) := kC2.new' hA3
        refine ⟨A3, _, rfl, SqL.of upd_same, fun A4 o hA4 ho => ?_⟩
        have kC4 : Kp [] H9 (upd (upd (upd (upd H9 A1 (.lst (vs.drop yn))) A2 (.lst (vs.take yn))) A3 (.lst (vs.drop yn ++ vs.take yn))) A4 (.frz o (.tup (vs.drop yn ++ vs.take yn)))) := kC3.new' hA4
        have pk9 := pmap (fun _ _ (z : KindT K H4 _ _) => (z.kp k9).kp kC4) pk
        refine k _ (ks.drop yn ++ ks.take yn) _ ⟨A4, _, rfl, ⟨o, upd_same, ho⟩, pair_app (pair_drop pk9 yn) (pair_take pk9 yn)⟩ ((gk.good w1 w5 fr b03 b3' (by omega)).perm (rot_perm ks yn)) ((hp9.kp kC4 (by simp)).more (by omega)) ((k4.trans (k9.mono (by simp))).trans (kC4.mono (by simp))) ⟨b', kC4.old _ _ (k9.old _ _ hq4 (by simp [npq])) (by simp), by omega⟩
end

end Md

namespace Md
open PySem PySem.Spec PyProof.Rows L2

/-! ### sizes of trees -/
/-- trees of these kinds, one behind another, of this size together -/
inductive Fs (ks : Kds) : List Str → Nat → Prop
  | nil : Fs ks [] 0
  | mark {ps : List Str} {n : Nat} : Fs ks ps n → Fs ks ("mark" :: ps) (1 + n)
  | made {d : Kd} {r : Rw} {ps : List Str} {m n : Nat} : d ∈ ks → r ∈ d.2 → Fs ks r.2 m → Fs ks ps n → Fs ks (d.1 :: ps) (1 + m + n)
theorem Fs.inv {ks : Kds} {p : Str} {ps : List Str} {n : Nat} (h : Fs ks (p :: ps) n) : ∃ a b, n = a + b ∧ 1 ≤ a ∧ Fs ks [p] a ∧ Fs ks ps b := by
  cases h with
  | mark h => exact ⟨1, _, rfl, Nat.le_refl _, .mark .nil, h⟩
  | made h1 h2 h3 h4 => exact ⟨_, _, rfl, by omega, .made h1 h2 h3 .nil, h4⟩
theorem Fs.join {ks : Kds} {p : Str} {ps : List Str} {a b : Nat} (h : Fs ks [p] a) (g : Fs ks ps b) : Fs ks (p :: ps) (a + b) := by
  cases h with
  | mark h => cases h; exact Fs.mark g
  | made h1 h2 h3 h4 => cases h4; exact Fs.made h1 h2 h3 g
theorem least_of {P : Nat → Prop} : (∃ n, P n) → ∃ m, P m ∧ ∀ n, P n → m ≤ n := by
  rintro ⟨n, h⟩
  induction n using Nat.strongRecOn with
  | ind n ih =>
    by_cases c : ∃ m, m < n ∧ P m
    · obtain ⟨m, hm, pm⟩ := c
      exact ih m hm pm
    · exact ⟨n, h, fun m pm => Nat.le_of_not_lt fun z => c ⟨m, z, pm⟩⟩
open Classical in
/-- the size of the least tree -/
noncomputable def leastT (ks : Kds) (p : Str) : Nat := if h : ∃ n, Fs ks [p] n then Classical.choose (least_of h) else 0
theorem leastT_is {ks : Kds} {p : Str} (h : ∃ n, Fs ks [p] n) : Fs ks [p] (leastT ks p) := by
  unfold leastT
  rw [dif_pos h]
  exact (Classical.choose_spec (least_of h)).1
theorem leastT_le {ks : Kds} {p : Str} {n : Nat} (h : Fs ks [p] n) : leastT ks p ≤ n := by
  unfold leastT
  rw [dif_pos ⟨n, h⟩]
  exact (Classical.choose_spec (least_of ⟨n, h⟩)).2 n h
noncomputable def leastAll (ks : Kds) (ps : List Str) : Nat := (ps.map (leastT ks)).sum
theorem Fs.all {ks : Kds} {ps : List Str} : ∀ {n : Nat}, Fs ks ps n → leastAll ks ps ≤ n ∧ ∀ p ∈ ps, ∃ m, Fs ks [p] m := by
  induction ps with
  | nil => intro n _; exact ⟨Nat.zero_le _, fun _ h => (nomatch h)⟩
  | cons p r ih =>
    intro n h
    obtain ⟨a, b, e, _, h1, h2⟩ := h.inv
    obtain ⟨i1, i2⟩ := ih h2
    have := leastT_le h1
    refine ⟨?_, fun q hq => ?_⟩
    · show leastT ks p + leastAll ks r ≤ n
      omega
    · rcases List.mem_cons.mp hq with z | z
      · subst z; exact ⟨_, h1⟩
      · exact i2 q z
theorem Fs.of_all {ks : Kds} : ∀ {ps : List Str}, (∀ p ∈ ps, ∃ m, Fs ks [p] m) → Fs ks ps (leastAll ks ps)
  | [], _ => .nil
  | p :: r, h => (leastT_is (h p List.mem_cons_self)).join (Fs.of_all fun q hq => h q (List.mem_cons_of_mem _ hq))
theorem leastT_part {ks : Kds} {ps : List Str} {p : Str} (h : p ∈ ps) : leastT ks p ≤ leastAll ks ps := by
  induction ps with
  | nil => cases h
  | cons q r ih =>
    show _ ≤ leastT ks q + leastAll ks r
    rcases List.mem_cons.mp h with z | z
    · subst z; omega
    · have := ih z; omega
theorem GoodK.mark_no {ks : Kds} (g : GoodK ks) {d : Kd} (hd : d ∈ ks) : d.1 ≠ "mark" := fun z => by
  have := g.kn d hd
  rw [z] at this
  exact absurd this (by decide +kernel)
theorem GoodK.nomark2 {ks : Kds} (g : GoodK ks) : ("mark" : Str) ∉ kindNames ks := fun h => by
  obtain ⟨d, hd, e⟩ := List.mem_map.mp h
  exact g.mark_no hd e
theorem leastT_mark {ks : Kds} (g : GoodK ks) : leastT ks "mark" = 1 := by
  have h1 : Fs ks ["mark"] (1 + 0) := .mark .nil
  have h2 := leastT_le h1
  obtain ⟨a, b, e, h3, _, _⟩ := (leastT_is ⟨_, h1⟩).inv
  omega
/-- each kind has a tree -/
theorem GoodK.tree {ks : Kds} (g : GoodK ks) : ∀ p : Str, p = "mark" ∨ p ∈ kindNames ks → ∃ n, Fs ks [p] n := by
  obtain ⟨rank, hr⟩ := g.rk
  have main : ∀ n, ∀ d ∈ ks, rank d.1 < n → ∃ m, Fs ks [d.1] m := by
    intro n
    induction n with
    | zero => intro d _ h; omega
    | succ n ih =>
      intro d hd h
      obtain ⟨_, r, hr1, hp⟩ := hr d hd
      refine ⟨_, .made hd hr1 (Fs.of_all fun p hp' => ?_) .nil⟩
      rcases hp p hp' with z | ⟨z1, z2⟩
      · subst z; exact ⟨_, .mark .nil⟩
      · obtain ⟨e, he, rfl⟩ := List.mem_map.mp z1
        exact ih e he (by omega)
  intro p hp
  rcases hp with z | z
  · subst z; exact ⟨_, .mark .nil⟩
  · obtain ⟨d, hd, rfl⟩ := List.mem_map.mp z
    exact main _ d hd (Nat.lt_succ_self _)
theorem GoodK.parts_tree {ks : Kds} (g : GoodK ks) {d : Kd} (hd : d ∈ ks) {r : Rw} (hr : r ∈ d.2) : ∀ p ∈ r.2, ∃ n, Fs ks [p] n := fun p hp => g.tree p (g.ps d hd r hr p hp)
theorem GoodK.row_le {ks : Kds} (g : GoodK ks) {d : Kd} (hd : d ∈ ks) {r : Rw} (hr : r ∈ d.2) : leastT ks d.1 ≤ 1 + leastAll ks r.2 := by
  have h := leastT_le (Fs.made hd hr (Fs.of_all (g.parts_tree hd hr)) .nil)
  omega
theorem kd_unique {ks : Kds} (nd : (kindNames ks).Nodup) {d e : Kd} (hd : d ∈ ks) (he : e ∈ ks) (h : d.1 = e.1) : d = e := by
  induction ks with
  | nil => cases hd
  | cons c r ih =>
    rw [kindNames, List.map_cons, List.nodup_cons] at nd
    rcases List.mem_cons.mp hd with z | z <;> rcases List.mem_cons.mp he with y | y
    · rw [z, y]
    · subst z; exact absurd (List.mem_map.mpr ⟨e, y, h.symm⟩) nd.1
    · subst y; exact absurd (List.mem_map.mpr ⟨d, z, h⟩) nd.1
    · exact ih nd.2 z y
theorem GoodK.ndk' {ks : Kds} (g : GoodK ks) : (kindNames ks).Nodup := by
  have h := g.nd
  rw [allNames, List.nodup_append] at h
  exact h.1
/-- a maker of the least tree -/
theorem GoodK.best {ks : Kds} (g : GoodK ks) {d : Kd} (hd : d ∈ ks) : ∃ r ∈ d.2, leastT ks d.1 = 1 + leastAll ks r.2 := by
  have ht := leastT_is (g.tree d.1 (.inr (List.mem_map.mpr ⟨d, hd, rfl⟩)))
  generalize hn : leastT ks d.1 = n at ht
  generalize hx : [d.1] = xs at ht
  cases ht with
  | nil => cases hx
  | mark h =>
    injection hx with hx1 _
    exact absurd hx1 (g.mark_no hd)
  | @made e r ps m n' h1 h2 h3 h4 =>
    injection hx with hx1 hx2
    subst hx2
    have de := kd_unique g.ndk' hd h1 hx1
    subst de
    cases h4
    refine ⟨r, h2, ?_⟩
    have a := h3.all.1
    have b := g.row_le hd h2
    omega
/-- how many kinds have lesser trees -/
noncomputable def rankT (ks : Kds) (x : Str) : Nat := ((kindNames ks).filter fun y => decide (leastT ks y < leastT ks x)).length
theorem filter_len_le {α : Type} {p q : α → Bool} : ∀ {l : List α}, (∀ x ∈ l, p x = true → q x = true) → (l.filter p).length ≤ (l.filter q).length
  | [], _ => Nat.le_refl _
  | c :: s, hh => by
    have i1 := filter_len_le (p := p) (q := q) (l := s) fun x hx => hh x (List.mem_cons_of_mem _ hx)
    rw [List.filter_cons, List.filter_cons]
    have hc := hh c List.mem_cons_self
    cases e1 : p c <;> cases e2 : q c <;> simp
    · exact i1
    · omega
    · rw [hc e1] at e2; cases e2
    · exact i1
theorem filter_len_lt {α : Type} {p q : α → Bool} {l : List α} (h : ∀ x ∈ l, p x = true → q x = true) {a : α} (ha : a ∈ l) (hp : p a = false) (hq : q a = true) : (l.filter p).length < (l.filter q).length := by
  induction l with
  | nil => cases ha
  | cons b r ih =>
    have mono : ∀ l' : List α, (∀ x ∈ l', p x = true → q x = true) → (l'.filter p).length ≤ (l'.filter q).length := by
      intro l'
      induction l' with
      | nil => intro _; exact Nat.le_refl _
      | cons c s ihs =>
        intro hh
        have i1 := ihs fun x hx => hh x (List.mem_cons_of_mem _ hx)
        rw [List.filter_cons, List.filter_cons]
        have hc := hh c List.mem_cons_self
        cases e1 : p c <;> cases e2 : q c <;> simp
        · exact i1
        · omega
        · rw [hc e1] at e2; cases e2
        · exact i1
    have i0 := mono r fun x hx => h x (List.mem_cons_of_mem _ hx)
    rw [List.filter_cons, List.filter_cons]
    rcases List.mem_cons.mp ha with z | z
    · subst z
      rw [hp, hq]
      simp
      omega
    · have i2 := ih (fun x hx => h x (List.mem_cons_of_mem _ hx)) z
      have hb := h b List.mem_cons_self
      cases e1 : p b <;> cases e2 : q b <;> simp
      · exact i2
      · omega
      · rw [hb e1] at e2; cases e2
      · exact i2
theorem rankT_lt {ks : Kds} {x y : Str} (hy : y ∈ kindNames ks) (h : leastT ks y < leastT ks x) : rankT ks y < rankT ks x :=
  filter_len_lt (fun z _ hz => by have := of_decide_eq_true hz; exact decide_eq_true (by omega)) hy (decide_eq_false (by omega)) (decide_eq_true h)
theorem rankT_le {ks : Kds} {x : Str} (hx : x ∈ kindNames ks) : rankT ks x < ks.length := by
  have h := filter_len_lt (p := fun y => decide (leastT ks y < leastT ks x)) (q := fun _ => true) (l := kindNames ks) (fun _ _ _ => rfl) hx (decide_eq_false (by omega)) rfl
  rw [List.filter_eq_self.mpr (fun _ _ => rfl), kindNames, List.length_map] at h
  exact h
/-- how great it may be -/
theorem leastT_bound {ks : Kds} (g : GoodK ks) : ∀ n, ∀ d ∈ ks, rankT ks d.1 < n → leastT ks d.1 ≤ 4 ^ n := by
  intro n
  induction n with
  | zero => intro d _ h; omega
  | succ n ih =>
    intro d hd h
    obtain ⟨r, hr, e⟩ := g.best hd
    have one : ∀ p ∈ r.2, leastT ks p ≤ 4 ^ n := fun p hp => by
      rcases g.ps d hd r hr p hp with z | z
      · subst z; rw [leastT_mark g]; exact Nat.one_le_pow _ _ (by decide)
      · obtain ⟨c, hc, rfl⟩ := List.mem_map.mp z
        have l := leastT_part (ks := ks) hp
        have := rankT_lt z (x := d.1) (by omega)
        exact ih c hc (by omega)
    have all : ∀ l : List Str, (∀ p ∈ l, leastT ks p ≤ 4 ^ n) → leastAll ks l ≤ l.length * 4 ^ n := by
      intro l
      induction l with
      | nil => intro _; exact Nat.zero_le _
      | cons p s ihs =>
        intro hh
        have a := ihs fun q hq => hh q (List.mem_cons_of_mem _ hq)
        have b := hh p List.mem_cons_self
        show leastT ks p + leastAll ks s ≤ (s.length + 1) * 4 ^ n
        rw [Nat.add_mul, Nat.one_mul]
        omega
    have a := all r.2 one
    have b := g.p3 d hd r hr
    have c : r.2.length * 4 ^ n ≤ 3 * 4 ^ n := Nat.mul_le_mul_right _ b
    have p1 : 1 ≤ 4 ^ n := Nat.one_le_pow _ _ (by decide)
    rw [Nat.pow_succ]
    omega
theorem leastT_small {ks : Kds} (g : GoodK ks) {x : Str} (hx : x = "mark" ∨ x ∈ kindNames ks) : leastT ks x ≤ 1024 := by
  rcases hx with z | z
  · subst z; rw [leastT_mark g]; decide
  · obtain ⟨d, hd, rfl⟩ := List.mem_map.mp z
    have h := leastT_bound g 5 d hd (by have := rankT_le z; have := g.l5; omega)
    exact h
/-! ### the rounds find them -/
structure Snd (ks : Kds) (n : Nat) (S : Szs) : Prop where
  mk_ : lookS S "mark" = some 1
  snd : ∀ x v, lookS S x = some v → ∃ m : Nat, v = (m : Int) ∧ Fs ks [x] m
  at_ : ∀ d ∈ ks, rankT ks d.1 < n → lookS S d.1 = some (leastT ks d.1 : Int)
theorem sizeMade_of {ks : Kds} {S : Szs} (snd : ∀ x v, lookS S x = some v → ∃ m : Nat, v = (m : Int) ∧ Fs ks [x] m) : ∀ {ps : List Str}, (ps.all (fun p => (lookS S p).isSome) = true) → ∃ m : Nat, (ps.map fun p => (lookS S p).getD 0).sum = (m : Int) ∧ Fs ks ps m
  | [], _ => ⟨0, rfl, .nil⟩
  | p :: r, h => by
    rw [List.all_cons, Bool.and_eq_true] at h
    obtain ⟨m, e, f⟩ := sizeMade_of snd h.2
    cases q : lookS S p with
    | none => rw [q] at h; exact absurd h.1 (by decide)
    | some v =>
      obtain ⟨a, rfl, fa⟩ := snd p v q
      refine ⟨a + m, ?_, fa.join f⟩
      rw [List.map_cons, List.sum_cons, e, q]
      simp
theorem sizeMade_best {ks : Kds} {S : Szs} : ∀ {ps : List Str}, (∀ p ∈ ps, lookS S p = some (leastT ks p : Int)) → (ps.map fun p => (lookS S p).getD 0).sum = (leastAll ks ps : Int)
  | [], _ => rfl
  | p :: r, h => by
    rw [List.map_cons, List.sum_cons, sizeMade_best (fun q hq => h q (List.mem_cons_of_mem _ hq)), h p List.mem_cons_self]
    show (leastT ks p : Int) + _ = ((leastT ks p + leastAll ks r : Nat) : Int)
    omega
theorem minL_in : ∀ {l : List Int}, l ≠ [] → minL l ∈ l ∧ ∀ y ∈ l, minL l ≤ y
  | [], h => absurd rfl h
  | [a], _ => ⟨by simp [minL], fun y hy => by simp at hy; subst hy; exact Int.le_refl _⟩
  | a :: b :: r, _ => by
    obtain ⟨h1, h2⟩ := minL_in (l := b :: r) (by simp)
    rw [minL]
    refine ⟨?_, fun y hy => ?_⟩
    · rcases Int.le_total a (minL (b :: r)) with h | h
      · rw [Int.min_eq_left h]; exact List.mem_cons_self
      · rw [Int.min_eq_right h]; exact List.mem_cons_of_mem _ h1
    · rcases List.mem_cons.mp hy with e | e
      · subst e; exact Int.min_le_left _ _
      · exact Int.le_trans (Int.min_le_right _ _) (h2 y e)
theorem Snd.step {ks : Kds} (g : GoodK ks) {n : Nat} {S : Szs} (s : Snd ks n S) {d : Kd} (hd : d ∈ ks) : Snd ks n (stepK S d) ∧ (rankT ks d.1 < n + 1 → lookS (stepK S d) d.1 = some (leastT ks d.1 : Int)) ∧ ∀ e ∈ ks, lookS S e.1 = some (leastT ks e.1 : Int) → rankT ks e.1 < n + 1 → lookS (stepK S d) e.1 = some (leastT ks e.1 : Int) := by
  -- what is found are sizes of trees
  have fnd : ∀ v ∈ foundS S d.2, ∃ m : Nat, v = (m : Int) ∧ Fs ks [d.1] m := fun v hv => by
    obtain ⟨r, hr, e⟩ := List.mem_filterMap.mp hv
    split at e
    · rename_i c
      obtain ⟨m, em, fm⟩ := sizeMade_of s.snd c
      cases e
      refine ⟨1 + m, ?_, by have := Fs.made hd hr fm .nil; exact this⟩
      rw [sizeMade, em]
      omega
    · cases e
  -- the best one is among them
  have bst : rankT ks d.1 < n + 1 → (leastT ks d.1 : Int) ∈ foundS S d.2 := fun hn => by
    obtain ⟨r, hr, e⟩ := g.best hd
    have lk : ∀ p ∈ r.2, lookS S p = some (leastT ks p : Int) := fun p hp => by
      rcases g.ps d hd r hr p hp with z | z
      · subst z; rw [leastT_mark g]; exact s.mk_
      · obtain ⟨c, hc, rfl⟩ := List.mem_map.mp z
        have l := leastT_part (ks := ks) hp
        have := rankT_lt z (x := d.1) (by omega)
        exact s.at_ c hc (by omega)
    refine List.mem_filterMap.mpr ⟨r, hr, ?_⟩
    rw [if_pos (List.all_eq_true.mpr fun p hp => by rw [lk p hp]; rfl), sizeMade, sizeMade_best lk, e]
    congr 1
  have val : rankT ks d.1 < n + 1 → lookS (stepK S d) d.1 = some (leastT ks d.1 : Int) := fun hn => by
    have b := bst hn
    have ne : foundS S d.2 ≠ [] := fun z => by rw [z] at b; cases b
    unfold stepK
    rw [if_neg ne, lookS_put, if_pos rfl]
    obtain ⟨m1, m2⟩ := minL_in ne
    obtain ⟨m, em, fm⟩ := fnd _ m1
    have := m2 _ b
    have := leastT_le fm
    congr 1
    omega
  have other : ∀ x, x ≠ d.1 → lookS (stepK S d) x = lookS S x := fun x hx => by
    unfold stepK
    split
    · rfl
    · rw [lookS_put, if_neg hx]
  refine ⟨⟨?_, fun x v hv => ?_, fun e he hn => ?_⟩, val, fun e he h1 h2 => ?_⟩
  · rw [other _ (Ne.symm (g.mark_no hd))]; exact s.mk_
  · by_cases c : x = d.1
    · subst c
      unfold stepK at hv
      split at hv
      · exact s.snd _ _ hv
      · rename_i ne
        rw [lookS_put, if_pos rfl] at hv
        cases hv
        exact fnd _ (minL_in ne).1
    · rw [other x c] at hv
      exact s.snd x v hv
  · by_cases c : e.1 = d.1
    · rw [c]; rw [c] at hn; exact val (by omega)
    · rw [other _ c]; exact s.at_ e he hn
  · by_cases c : e.1 = d.1
    · rw [c]; rw [c] at h2; exact val h2
    · rw [other _ c]; exact h1
theorem Snd.round {ks : Kds} (g : GoodK ks) {n : Nat} {S : Szs} (s : Snd ks n S) : Snd ks (n + 1) (roundK ks S) := by
  have main : ∀ (ls : Kds) (S : Szs), (∀ d ∈ ls, d ∈ ks) → Snd ks n S → Snd ks n (roundK ls S) ∧ (∀ e ∈ ks, lookS S e.1 = some (leastT ks e.1 : Int) → rankT ks e.1 < n + 1 → lookS (roundK ls S) e.1 = some (leastT ks e.1 : Int)) ∧
      ∀ d ∈ ls, rankT ks d.1 < n + 1 → lookS (roundK ls S) d.1 = some (leastT ks d.1 : Int) := by
    intro ls
    induction ls with
    | nil => intro S _ s; exact ⟨s, fun _ _ h _ => h, fun _ h => (nomatch h)⟩
    | cons d r ih =>
      intro S hs s
      obtain ⟨s1, s2, s3⟩ := s.step g (hs d List.mem_cons_self)
      obtain ⟨i1, i2, i3⟩ := ih (stepK S d) (fun e he => hs e (List.mem_cons_of_mem _ he)) s1
      refine ⟨i1, fun e he h1 h2 => i2 e he (s3 e he h1 h2) h2, fun e he hn => ?_⟩
      rcases List.mem_cons.mp he with z | z
      · subst z; exact i2 e (hs e List.mem_cons_self) (s2 hn) hn
      · exact i3 e z hn
  obtain ⟨m1, _, m3⟩ := main ks S (fun _ h => h) s
  exact ⟨m1.mk_, m1.snd, fun d hd hn => m3 d hd hn⟩
theorem snd0 {ks : Kds} : Snd ks 0 sizes0 := by
  refine ⟨by decide +kernel, fun x v h => ?_, fun d _ h => by omega⟩
  unfold lookS sizes0 at h
  rw [List.lookup_cons] at h
  split at h
  · rename_i e
    have : x = "mark" := by simpa using e
    subst this
    cases h
    exact ⟨1, rfl, .mark .nil⟩
  · cases h
theorem sizesN_snd {ks : Kds} (g : GoodK ks) : ∀ n, Snd ks n (sizesN ks n)
  | 0 => snd0
  | n + 1 => (sizesN_snd g n).round g
theorem sizes_are {ks : Kds} (g : GoodK ks) {n : Nat} (hn : ks.length ≤ n) {x : Str} (hx : x = "mark" ∨ x ∈ kindNames ks) : lookS (sizesN ks n) x = some (leastT ks x : Int) := by
  have s := sizesN_snd g n
  rcases hx with z | z
  · subst z; rw [leastT_mark g]; exact s.mk_
  · obtain ⟨d, hd, rfl⟩ := List.mem_map.mp z
    exact s.at_ d hd (by have := rankT_le z; omega)
end Md

namespace Md
open PySem PySem.Spec PyProof.Rows L2

/-! ### where a kind's parts lead -/
def Leads (ks : Kds) (x p : Str) : Prop := ∃ d ∈ ks, d.1 = x ∧ ∃ r ∈ d.2, p ∈ r.2
inductive Rch (ks : Kds) : Str → Str → Prop
  | one {x p : Str} : Leads ks x p → Rch ks x p
  | more {x p q : Str} : Leads ks x p → Rch ks p q → Rch ks x q
theorem Rch.tr {ks : Kds} {x y z : Str} (h : Rch ks x y) (g : Rch ks y z) : Rch ks x z := by
  induction h with
  | one l => exact .more l g
  | more l _ ih => exact .more l (ih g)
theorem Rch.head {ks : Kds} {x y : Str} (h : Rch ks x y) : x ∈ kindNames ks := by
  cases h with
  | one l => obtain ⟨d, hd, e, _⟩ := l; subst e; exact List.mem_map.mpr ⟨d, hd, rfl⟩
  | more l _ => obtain ⟨d, hd, e, _⟩ := l; subst e; exact List.mem_map.mpr ⟨d, hd, rfl⟩
theorem Leads.known {ks : Kds} (g : GoodK ks) {x p : Str} (h : Leads ks x p) : p = "mark" ∨ p ∈ kindNames ks := by
  obtain ⟨d, hd, _, r, hr, hp⟩ := h
  exact g.ps d hd r hr p hp
theorem Rch.known {ks : Kds} (g : GoodK ks) {x p : Str} (h : Rch ks x p) : p = "mark" ∨ p ∈ kindNames ks := by
  induction h with
  | one l => exact l.known g
  | more _ _ ih => exact ih
/-- the program's rounds -/
def finStep (ks : Kds) (fs : List Str) : List Str := (ks.filter fun d => d.2.all fun r => r.2.all fun p => fs.contains p).map (·.1)
def finN (ks : Kds) : Nat → List Str
  | 0 => []
  | n + 1 => finStep ks (finN ks n)
theorem fin_mem {ks : Kds} {fs : List Str} {x : Str} : x ∈ finStep ks fs ↔ ∃ d ∈ ks, d.1 = x ∧ ∀ r ∈ d.2, ∀ p ∈ r.2, p ∈ fs := by
  unfold finStep
  rw [List.mem_map]
  constructor
  · rintro ⟨d, hd, e⟩
    obtain ⟨h1, h2⟩ := List.mem_filter.mp hd
    exact ⟨d, h1, e, fun r hr p hp => by simpa using List.all_eq_true.mp (List.all_eq_true.mp h2 r hr) p hp⟩
  · rintro ⟨d, hd, e, h⟩
    exact ⟨d, List.mem_filter.mpr ⟨hd, List.all_eq_true.mpr fun r hr => List.all_eq_true.mpr fun p hp => by simpa using h r hr p hp⟩, e⟩
theorem finN_mono {ks : Kds} : ∀ {n : Nat} {x : Str}, x ∈ finN ks n → x ∈ finN ks (n + 1)
  | 0, _, h => by cases h
  | n + 1, x, h => by
    obtain ⟨d, hd, e, q⟩ := fin_mem.mp (show x ∈ finStep ks (finN ks n) from h)
    exact fin_mem.mpr ⟨d, hd, e, fun r hr p hp => finN_mono (q r hr p hp)⟩
theorem finN_le {ks : Kds} {n m : Nat} (h : n ≤ m) {x : Str} (hx : x ∈ finN ks n) : x ∈ finN ks m := by
  induction h with
  | refl => exact hx
  | step _ ih => exact finN_mono ih
theorem finN_leads {ks : Kds} (g : GoodK ks) {n : Nat} {x p : Str} (h : x ∈ finN ks (n + 1)) (l : Leads ks x p) : p ∈ finN ks n := by
  obtain ⟨d, hd, e, q⟩ := fin_mem.mp (show x ∈ finStep ks (finN ks n) from h)
  obtain ⟨c, hc, e2, r, hr, hp⟩ := l
  have := kd_unique g.ndk' hd hc (e.trans e2.symm)
  subst this
  exact q r hr p hp
theorem finN_rch {ks : Kds} (g : GoodK ks) {x y : Str} (h : Rch ks x y) : ∀ {n : Nat}, x ∈ finN ks (n + 1) → y ∈ finN ks n := by
  induction h with
  | one l => intro n hx; exact finN_leads g hx l
  | more l _ ih =>
    intro n hx
    have hp := finN_leads g hx l
    cases n with
    | zero => cases hp
    | succ n => exact finN_mono (ih hp)
def EndsP (ks : Kds) (k : Str) : Prop := (¬ (k = "mark" ∨ Rch ks k "mark")) ∧ ∀ p, (Rch ks k p ∨ p = k) → ¬ Rch ks p p
theorem finN_kind {ks : Kds} {n : Nat} {x : Str} (h : x ∈ finN ks n) : x ∈ kindNames ks := by
  cases n with
  | zero => cases h
  | succ n =>
    obtain ⟨d, hd, e, _⟩ := fin_mem.mp (show x ∈ finStep ks (finN ks n) from h)
    subst e
    exact List.mem_map.mpr ⟨d, hd, rfl⟩
theorem fin_ends {ks : Kds} (g : GoodK ks) {k : Str} {n : Nat} (h : k ∈ finN ks n) : EndsP ks k := by
  cases n with
  | zero => cases h
  | succ n =>
  have nom : ∀ {m : Nat}, (("mark" : Str) ∉ finN ks m) := fun z => g.nomark2 (finN_kind z)
  refine ⟨fun z => ?_, fun p hp hr => ?_⟩
  · rcases z with z | z
    · subst z; exact nom h
    · exact nom (finN_rch g z h)
  · have hpn : p ∈ finN ks (n + 1) := by
      rcases hp with z | z
      · exact finN_mono (finN_rch g z h)
      · subst z; exact h
    have down : ∀ m, p ∈ finN ks m → False := by
      intro m
      induction m with
      | zero => intro z; cases z
      | succ m ih => exact fun z => ih (finN_rch g hr z)
    exact down _ hpn
open Classical in
noncomputable def rchN (ks : Kds) (x : Str) : Nat := ((kindNames ks).filter fun y => decide (Rch ks x y)).length
theorem rchN_lt {ks : Kds} {x p : Str} (l : Leads ks x p) (hp : p ∈ kindNames ks) (no : ¬ Rch ks p p) : rchN ks p < rchN ks x := by
  classical
  unfold rchN
  refine filter_len_lt (fun z _ hz => ?_) hp (decide_eq_false no) (decide_eq_true (.one l))
  exact decide_eq_true (.more l (of_decide_eq_true hz))
theorem rchN_le {ks : Kds} {x : Str} (hx : x ∈ kindNames ks) (no : ¬ Rch ks x x) : rchN ks x < ks.length := by
  classical
  have h := filter_len_lt (p := fun y => decide (Rch ks x y)) (q := fun _ => true) (l := kindNames ks) (fun _ _ _ => rfl) hx (decide_eq_false no) rfl
  rw [List.filter_eq_self.mpr (fun _ _ => rfl), kindNames, List.length_map] at h
  exact h
theorem ends_fin {ks : Kds} (g : GoodK ks) : ∀ n, ∀ k ∈ kindNames ks, EndsP ks k → rchN ks k < n → k ∈ finN ks n := by
  intro n
  induction n with
  | zero => intro k _ _ h; omega
  | succ n ih =>
    intro k hk he hn
    obtain ⟨d, hd, rfl⟩ := List.mem_map.mp hk
    refine fin_mem.mpr ⟨d, hd, rfl, fun r hr p hp => ?_⟩
    have l : Leads ks d.1 p := ⟨d, hd, rfl, r, hr, hp⟩
    rcases g.ps d hd r hr p hp with z | z
    · subst z; exact absurd (Or.inr (.one l)) he.1
    · have no := he.2 p (.inl (.one l))
      refine ih p z ⟨fun q => ?_, fun q hq => ?_⟩ (by have := rchN_lt l z no; omega)
      · rcases q with q | q
        · subst q; exact he.1 (.inr (.one l))
        · exact he.1 (.inr (.more l q))
      · rcases hq with q' | q'
        · exact he.2 q (.inl (.more l q'))
        · subst q'; exact no
theorem fin_iff {ks : Kds} (g : GoodK ks) {k : Str} (hk : k = "mark" ∨ k ∈ kindNames ks) : k ∈ finN ks ks.length ↔ EndsP ks k := by
  refine ⟨fin_ends g, fun h => ?_⟩
  rcases hk with z | z
  · exact absurd (Or.inl z) h.1
  · exact ends_fin g _ k z h (rchN_le z (h.2 k (.inr rfl)))
/-! ### the law's own way -/
def missing (ks : Kds) (fs : List Str) : Nat := ((("mark" : Str) :: kindNames ks).filter fun y => !fs.contains y).length
structure Led (ks : Kds) (k : Str) (fs ws : List Str) : Prop where
  rch : ∀ x ∈ fs, Rch ks k x
  wai : ∀ x ∈ ws, x = k ∨ x ∈ fs
  cls : ∀ x, x = k ∨ x ∈ fs → x ∈ ws ∨ ∀ p, Leads ks x p → p ∈ fs
  len : fs.length + 3 * missing ks fs ≤ 18
  wln : ws.length + 4 * missing ks fs ≤ 25
theorem missing_mono {ks : Kds} {fs gs : List Str} (h : ∀ x ∈ fs, x ∈ gs) : missing ks gs ≤ missing ks fs := by
  exact filter_len_le fun x _ hx => by
    have hx' : x ∉ gs := by simpa using hx
    have : x ∉ fs := fun z => hx' (h x z)
    simpa using this
theorem missing_lt {ks : Kds} {fs gs : List Str} (h : ∀ x ∈ fs, x ∈ gs) {p : Str} (hp : p = "mark" ∨ p ∈ kindNames ks) (n1 : p ∉ fs) (n2 : p ∈ gs) : missing ks gs < missing ks fs := by
  unfold missing
  refine filter_len_lt (fun x _ hx => ?_) (a := p) (hp.elim (fun z => by subst z; exact List.mem_cons_self) (List.mem_cons_of_mem _)) ?_ ?_
  · simp at hx ⊢
    exact fun z => hx (h x z)
  · simpa using n2
  · simpa using n1
/-- what is new of a maker's parts -/
def newOf (fs ps : List Str) : List Str := ps.filter fun p => !fs.contains p
theorem newOf_all {fs ps : List Str} {p : Str} (h : p ∈ ps) : p ∈ fs ++ newOf fs ps := by
  by_cases c : p ∈ fs
  · exact List.mem_append_left _ c
  · exact List.mem_append_right _ (List.mem_filter.mpr ⟨h, by simpa using c⟩)
/-- under way in a turn: here is going through -/
structure LedT (ks : Kds) (k here : Str) (m : Nat) (fs ws : List Str) : Prop where
  rch : ∀ x ∈ fs, Rch ks k x
  her : here = k ∨ here ∈ fs
  wai : ∀ x ∈ ws, x = k ∨ x ∈ fs
  cls : ∀ x, x = k ∨ x ∈ fs → x = here ∨ x ∈ ws ∨ ∀ p, Leads ks x p → p ∈ fs
  len : fs.length + 3 * missing ks fs ≤ 18
  wln : ws.length + 4 * missing ks fs ≤ m
theorem LedT.add {ks : Kds} (g : GoodK ks) {k here : Str} {m : Nat} {fs ws ps : List Str} (t : LedT ks k here m fs ws) (hp : ∀ p ∈ ps, Leads ks here p) (h3 : ps.length ≤ 3) : LedT ks k here m (fs ++ newOf fs ps) (ws ++ newOf fs ps) := by
  have nl : (newOf fs ps).length ≤ 3 := Nat.le_trans (List.length_filter_le _ _) h3
  have mz : newOf fs ps = [] ∨ missing ks (fs ++ newOf fs ps) < missing ks fs := by
    cases e : newOf fs ps with
    | nil => exact .inl rfl
    | cons p r =>
      right
      have hm : p ∈ newOf fs ps := by rw [e]; exact List.mem_cons_self
      obtain ⟨h1, h2⟩ := List.mem_filter.mp hm
      exact missing_lt (fun x hx => List.mem_append_left _ hx) ((hp p h1).known g) (by simpa using h2) (List.mem_append_right _ List.mem_cons_self)
  have rn : ∀ x ∈ newOf fs ps, Rch ks k x := fun x hx => by
    have l := hp x (List.mem_filter.mp hx).1
    rcases t.her with z | z
    · rw [← z]; exact .one l
    · exact (t.rch _ z).tr (.one l)
  have ml := missing_mono (ks := ks) (fs := fs) (gs := fs ++ newOf fs ps) (fun x hx => List.mem_append_left _ hx)
  refine ⟨fun x hx => ?_, ?_, fun x hx => ?_, fun x hx => ?_, ?_, ?_⟩
  · rcases List.mem_append.mp hx with z | z
    · exact t.rch x z
    · exact rn x z
  · rcases t.her with z | z
    · exact .inl z
    · exact .inr (List.mem_append_left _ z)
  · rcases List.mem_append.mp hx with z | z
    · rcases t.wai x z with y | y
      · exact .inl y
      · exact .inr (List.mem_append_left _ y)
    · exact .inr (List.mem_append_right _ z)
  · by_cases c : x ∈ newOf fs ps
    · exact .inr (.inl (List.mem_append_right _ c))
    · have hx' : x = k ∨ x ∈ fs := by
        rcases hx with z | z
        · exact .inl z
        · rcases List.mem_append.mp z with y | y
          · exact .inr y
          · exact absurd y c
      rcases t.cls x hx' with z | z | z
      · exact .inl z
      · exact .inr (.inl (List.mem_append_left _ z))
      · exact .inr (.inr fun p hp => List.mem_append_left _ (z p hp))
  · have := t.len
    rw [List.length_append]
    rcases mz with z | z
    · rw [z]; simp; exact this
    · omega
  · have := t.wln
    rw [List.length_append]
    rcases mz with z | z
    · rw [z]; simp; exact this
    · omega
theorem missing_nil {ks : Kds} (g : GoodK ks) : missing ks [] ≤ 6 := by
  refine Nat.le_trans (List.length_filter_le _ _) ?_
  rw [List.length_cons, kindNames, List.length_map]
  have := g.l5
  omega
theorem Led.first {ks : Kds} (g : GoodK ks) {k : Str} : Led ks k [] [k] := by
  have h1 := missing_nil g
  exact ⟨fun _ h => (nomatch h), fun x hx => .inl (by simpa using hx), fun x hx => .inl (hx.elim (fun z => by subst z; exact List.mem_cons_self) (fun z => nomatch z)), by simp; omega, by simp; omega⟩
theorem Led.pop {ks : Kds} {k here : Str} {fs ws : List Str} (l : Led ks k fs (ws ++ [here])) : LedT ks k here (ws.length + 4 * missing ks fs) fs ws := by
  refine ⟨l.rch, l.wai here (by simp), fun x hx => l.wai x (List.mem_append_left _ hx), fun x hx => ?_, l.len, Nat.le_refl _⟩
  rcases l.cls x hx with z | z
  · rcases List.mem_append.mp z with y | y
    · exact .inr (.inl y)
    · exact .inl (by simpa using y)
  · exact .inr (.inr z)
theorem LedT.turn {ks : Kds} {k here : Str} {m : Nat} {fs ws : List Str} (t : LedT ks k here m fs ws) (hm : m ≤ 25) (all : ∀ p, Leads ks here p → p ∈ fs) : Led ks k fs ws := by
  refine ⟨t.rch, t.wai, fun x hx => ?_, t.len, by have := t.wln; omega⟩
  rcases t.cls x hx with z | z | z
  · subst z; exact .inr all
  · exact .inl z
  · exact .inr z
theorem Led.done {ks : Kds} {k : Str} {fs : List Str} (l : Led ks k fs []) (x : Str) : x ∈ fs ↔ Rch ks k x := by
  refine ⟨l.rch x, fun h => ?_⟩
  have cl : ∀ y, y = k ∨ y ∈ fs → ∀ p, Leads ks y p → p ∈ fs := fun y hy => by
    rcases l.cls y hy with z | z
    · cases z
    · exact z
  have go : ∀ y z, Rch ks y z → (y = k ∨ y ∈ fs) → z ∈ fs := by
    intro y z h
    induction h with
    | one q => intro hy; exact cl _ hy _ q
    | more q _ ih => intro hy; exact ih (.inr (cl _ hy _ q))
  exact go k x h (.inl rfl)
end Md

namespace Md
open PySem PySem.Spec PyProof.Rows L2

section
variable {P : Program} {w : World} {K : PySem.W.Frag} {mg : Str → Option Value} {base : Heap} {aW : Addr}
def spLeastSize (K : PySem.W.Frag) : Sp := fun vs H Q _ => ∃ (v : V) (ks : Kds) (x : Str), vs = [v, .str x] ∧ KdsT K H v ks ∧ GoodK ks ∧ (x = "mark" ∨ x ∈ kindNames ks) ∧ ∀ H', Kp [] H H' → Q (.int (leastT ks x : Nat)) H'
theorem c_least_size (c_check_kind : C8.Cal P w K mg base 6 "check_kind" (spCheckKind K) []) (c_least_sizes : C8.Cal P w K mg base 2 "least_sizes" (spLeastSizes K) []) (F : At_least_size K mg) : C8.Cal P w K mg base 7 "least_size" (spLeastSize K) [] := by
  refine F.cal sc_least_size (fun vs H Q E h => ?_) (fun f cdv A outer s H vs Q E hr h => ?_)
  · obtain ⟨v, ks, x, rfl, _⟩ := h
    rfl
  · obtain ⟨v, ks, x, rfl, hk, g, hx, k⟩ := h
    have nd := sc_least_size.nd
    have hu := hu_of hr
    refine ⟨_, (pss_cons (ps_expr (C8.pe_c c_check_kind hr (by decide) rfl (pa_cons (pv 0) (pa_cons (pv 1) pa_nil))))
      (pss_one (ps_ret (pe_dget hu (C8.pe_c c_least_sizes hr (by decide) rfl (pa_cons (pv 0) pa_nil)) (pv 1) (fun _ _ => rfl))))), ?_⟩
    refine ⟨_, rfl, _, rfl, _, ks, x, rfl, hk, g, hx, fun H1 k1 => ?_⟩
    refine ⟨_, rfl, _, ks, rfl, hk.kp k1, g.small, fun H2 p k2 hp e => ?_⟩
    refine ⟨_, rfl, p, _, rfl, ?_, k H2 (k1.trans k2)⟩
    have gg := DGet.k (k := (Sum.inr x : Key)) e
    rw [dictS_val, leastS, sizes_are g (Nat.le_refl _) hx] at gg
    exact gg
def spIsFinite (K : PySem.W.Frag) : Sp := fun vs H Q _ => ∃ (v : V) (ks : Kds) (x : Str), vs = [v, .str x] ∧ KdsT K H v ks ∧ GoodK ks ∧ (x = "mark" ∨ x ∈ kindNames ks) ∧ ∀ H', Kp [] H H' → Q (.bl ((finN ks ks.length).contains x)) H'
set_option maxHeartbeats 1000000 in
theorem c_is_finite (T : Txt K mg aW) (c_check_kind : C8.Cal P w K mg base 6 "check_kind" (spCheckKind K) []) (c_u_has_all_parts : C8.Cal P w K mg base 2 "_has_all_parts" (spHasAll K) []) (F : At_is_finite K mg) : C8.Cal P w K mg base 7 "is_finite" (spIsFinite K) [] := by
  refine F.cal sc_is_finite (fun vs H Q E h => ?_) (fun f cdv A outer s H vs Q E hr h => ?_)
  · obtain ⟨v, ks, x, rfl, _⟩ := h
    rfl
  · obtain ⟨v, ks, x, rfl, hk, g, hx, k⟩ := h
    have nd := sc_is_finite.nd
    have hu := hu_of hr
    have kl := g.l5
    refine ⟨_, (pss_cons (ps_expr (C8.pe_c c_check_kind hr (by decide) rfl (pa_cons (pv 0) (pa_cons (pv 1) pa_nil))))
      (pss_cons (ps_set (i := 2) nd rfl (by first | exact Or.inl rfl | exact Or.inr rfl) (pe_lst pa_nil))
      (pss_cons (ps_for PassesOwn.never rfl (pi_tup (pv 0)) (pg_name (i := 3) nd rfl (by first | exact Or.inl rfl | exact Or.inr rfl))
        (pss_one (ps_set (i := 2) nd rfl (by first | exact Or.inl rfl | exact Or.inr rfl) (pe_lc (own := [("name", 4), ("makers", 5)]) (g := (gTup _ 2 (gCons (gName 4) (gCons (gName 5) gNil)))) rfl nd (pi_tup (pv 0)) (blkOk_by (N := nn_is_finite) (sc := defScope st_is_finite) (own := [("name", 4), ("makers", 5)]) (by decide +kernel)) (fun _ _ _ _ _ => (pg_tup rfl (pgs_cons (pg_name (i := 4) nd rfl (by first | exact Or.inl rfl | exact Or.inr rfl)) (pgs_cons (pg_name (i := 5) nd rfl (by first | exact Or.inl rfl | exact Or.inr rfl)) pgs_nil)))) (fun _ _ _ _ _ => (pts_one (pt_val (C8.pe_c c_u_has_all_parts hr (by decide) rfl (pa_cons (pv 5) (pa_cons (pv 2) pa_nil)))))) (fun _ _ _ _ _ => (pv 4))))))
      (pss_one (ps_ret (pe_cmpR op_in_seq (pv 1) (pv 2) (by rfl))))))), ?_⟩
    refine ⟨_, rfl, _, rfl, _, ks, x, rfl, hk, g, hx, fun H1 k1 => ?_⟩
    obtain ⟨a, us, rfl, hq, hp⟩ := hk.kp k1
    have ul := plen hp
    refine ⟨(by show 0 ≤ sizeLine; decide), fun f0 hf0 => ?_⟩
    refine ⟨_, rfl, a, rfl, ⟨_, (Kp.new (S := []) hf0).sqt hq⟩, for_tup (K := K) (a := a) (xs := us) (fun i σ H' => ∃ fa v3 v4 v5, σ = [some (.ref a), some (.str x), some (.ref fa), v3, v4, v5] ∧ Kp [] H1 H' ∧ H' fa = some (.lst ((finN ks i).map V.str)))
      ⟨f0, _, _, _, rfl, Kp.new hf0, upd_same⟩ (fun i σ H' _ z => by obtain ⟨_, _, _, _, _, kk, _⟩ := z; exact kk.sqt hq) ?_ ?_⟩
    · rintro i y σ H2 hy ⟨fa, v3, v4, v5, rfl, k2, e2⟩
      refine ⟨_, rfl, a, rfl, ⟨_, k2.sqt hq⟩, fun D hD => ?_⟩
      refine lcW (S := []) walk_tup (fun j => (ks[j]?).bind fun d => if (d.2.all fun r => r.2.all fun p => (finN ks i).contains p) = true then some (V.str d.1) else none) hD (by simp) (small1000 (by omega)) (fun H' kk => kk.sqt (k2.sqt hq)) ?_ ?_
      · rintro j z H3 H4 C N hj kk ⟨rfl, hz⟩ hC hN
        obtain ⟨d, hd, b, q, rfl, hb, hrs⟩ := pget hp hz
        have dm := List.mem_of_getElem? hd
        refine ⟨b, _, rfl, kk.sqt (k2.sqt hb), rfl, _, _, rfl, _, _, rfl, rfl, rfl, ?_⟩
        refine ⟨_, rfl, _, rfl, _, _, d.2, (fun p => (finN ks i).contains p), rfl, hrs.kp (k2.trans kk), by have := g.m4 d dm; omega, fun r hr => by have := g.p3 d dm r hr; omega, .inl ⟨fa, _, rfl, SqL.of (kk.old _ _ e2 (by simp)), rfl⟩, fun H5 k5 => ?_⟩
        refine ⟨_, rfl, ?_⟩
        by_cases c : (d.2.all fun r => r.2.all fun p => (finN ks i).contains p) = true
        · refine iteB c ⟨_, rfl, hC _ _ k5 ?_⟩
          rw [hd]
          exact if_pos c
        · refine iteBn (by simpa using c) (hN _ k5 ?_)
          rw [hd]
          exact if_neg c
      · intro H3 kk e
        rw [ul, range_bind] at e
        refine ⟨D, _, _, _, rfl, k2.trans kk, ?_⟩
        rw [e]
        congr 2
        show _ = (finStep ks (finN ks i)).map V.str
        unfold finStep
        rw [List.map_map, ← List.filterMap_eq_map, ← List.filterMap_filter]
        rfl
    · rintro σ H2 ⟨fa, v3, v4, v5, rfl, k2, e2⟩
      rw [ul] at e2
      refine ⟨_, rfl, _, rfl, fa, _, rfl, .inl (SqL.of e2), rfl, flats _, ?_⟩
      rw [inV_strs]
      exact k H2 (k1.trans k2)
end

end Md

namespace Md
open PySem PySem.Spec PyProof.Rows L2

/-! ### written out -/
structure Sh (D W : Nat) (d : PyData) : Prop where
  sh : d.showable = true
  nd : d.hasDict = false
  lv : d.leavesShort 13 = true
  dp : d.depth ≤ D
  wt : d.weight ≤ W
theorem Sh.shows {D W : Nat} {d : PyData} (s : Sh D W d) (hD : D ≤ 40) (hW : W ≤ 1000000) : Shows d :=
  ⟨s.sh, s.nd, Nat.le_trans s.dp hD, by
    have h := PyData.shown_le 13 (by decide) d s.lv
    have w := s.wt
    have z : sizeLine = 16777216 := rfl
    omega⟩
theorem Sh.more {D W D' W' : Nat} {d : PyData} (s : Sh D W d) (hD : D ≤ D') (hW : W ≤ W') : Sh D' W' d := ⟨s.sh, s.nd, s.lv, Nat.le_trans s.dp hD, Nat.le_trans s.wt hW⟩
theorem Sh.tup {D W L : Nat} {ds : List PyData} (h : ∀ d ∈ ds, Sh D W d) (hl : ds.length ≤ L) : Sh (D + 1) (L * (W + 1)) (.tuple ds) := by
  have aux : ∀ ds : List PyData, (∀ d ∈ ds, Sh D W d) → PyData.showableAll ds = true ∧ PyData.hasDictAll ds = false ∧ PyData.leavesShortAll 13 ds = true ∧ PyData.depthAll ds ≤ D ∧ PyData.weightAll ds ≤ ds.length * (W + 1) := by
    intro ds
    induction ds with
    | nil => intro _; exact ⟨by simp only [PyData.showableAll], by simp only [PyData.hasDictAll], by simp only [PyData.leavesShortAll], by simp only [PyData.depthAll]; exact Nat.zero_le _, by simp only [PyData.weightAll]; exact Nat.zero_le _⟩
    | cons d r ih =>
      intro h
      obtain ⟨a1, a2, a3, a4, a5⟩ := ih fun x hx => h x (List.mem_cons_of_mem _ hx)
      have s := h d List.mem_cons_self
      refine ⟨by simp only [PyData.showableAll, s.sh, a1, Bool.and_self], by simp only [PyData.hasDictAll, s.nd, a2, Bool.or_self], by simp only [PyData.leavesShortAll, s.lv, a3, Bool.and_self], ?_, ?_⟩
      · simp only [PyData.depthAll]
        have := s.dp
        omega
      · simp only [PyData.weightAll, List.length_cons, Nat.add_mul]
        have := s.wt
        omega
  obtain ⟨a1, a2, a3, a4, a5⟩ := aux ds h
  refine ⟨by simp only [PyData.showable, a1], by simp only [PyData.hasDict, a2], by simp only [PyData.leavesShort, a3], by simp only [PyData.depth]; omega, ?_⟩
  simp only [PyData.weight]
  exact Nat.le_trans a5 (Nat.mul_le_mul_right _ hl)
def LowS (x : Str) : Prop := x.length ≤ 20 ∧ ∀ c ∈ x.cps.toList, c < 4294967296
theorem Sh.str {x : Str} (h : LowS x) : Sh 0 20 (.str x) :=
  ⟨by simp only [PyData.showable], by simp only [PyData.hasDict], by
    simp only [PyData.leavesShort]
    exact List.all_eq_true.mpr fun c m => decide_eq_true (Nat.lt_of_lt_of_le (h.2 c m) (by decide)), by simp only [PyData.depth]; exact Nat.le_refl _, by simp only [PyData.weight]; exact h.1⟩
theorem LowS.name {x : Str} (h : isName x = true) : LowS x := by
  unfold isName at h
  simp only [Bool.and_eq_true, decide_eq_true_eq, List.all_eq_true] at h
  exact ⟨by omega, fun c m => by have := h.2 c m; omega⟩
theorem LowS.mark : LowS "mark" := ⟨by decide +kernel, by decide +kernel⟩
def dStrs (ps : List Str) : PyData := .tuple (ps.map .str)
def dRow (r : Rw) : PyData := .tuple [.str r.1, dStrs r.2]
def dRows (rs : List Rw) : PyData := .tuple (rs.map dRow)
def dKind (d : Kd) : PyData := .tuple [.str d.1, dRows d.2]
def dKds (ks : Kds) : PyData := .tuple (ks.map dKind)
section
variable {K : PySem.W.Frag} {H : Hp}
theorem dpAll_strs : ∀ ps : List Str, DpAll K H (ps.map V.str) (ps.map .str)
  | [] => .nil
  | x :: r => .cons (.str x) (dpAll_strs r)
theorem dp_strs {v : V} {ps : List Str} (h : StrsT K H v ps) : Dp K H v (dStrs ps) := by
  obtain ⟨a, rfl, q⟩ := h
  exact .tup q (dpAll_strs ps)
theorem dp_row {v : V} {r : Rw} (h : RowT K H v r) : Dp K H v (dRow r) := by
  obtain ⟨a, q, rfl, e, p⟩ := h
  exact .tup e (.cons (.str _) (.cons (dp_strs p) .nil))
theorem dpAll_of {α : Type} {F : V → α → Prop} {g : α → PyData} (f : ∀ v x, F v x → Dp K H v (g x)) : ∀ {vs : List V} {xs : List α}, Paired F vs xs → DpAll K H vs (xs.map g)
  | _, _, .nil => .nil
  | _, _, .cons h t => .cons (f _ _ h) (dpAll_of f t)
theorem dp_rows {v : V} {rs : List Rw} (h : RowsT K H v rs) : Dp K H v (dRows rs) := by
  obtain ⟨a, vs, rfl, e, p⟩ := h
  exact .tup e (dpAll_of (fun _ _ z => dp_row z) p)
theorem dp_kind {v : V} {d : Kd} (h : KindT K H v d) : Dp K H v (dKind d) := by
  obtain ⟨a, q, rfl, e, p⟩ := h
  exact .tup e (.cons (.str _) (.cons (dp_rows p) .nil))
theorem dp_kds {v : V} {ks : Kds} (h : KdsT K H v ks) : Dp K H v (dKds ks) := by
  obtain ⟨a, vs, rfl, e, p⟩ := h
  exact .tup e (dpAll_of (fun _ _ z => dp_kind z) p)
end

/-! ### lists against the empty one -/
theorem eqv_nil : ∀ ds : List PyData, PyData.eqv (.list ds) (.list []) = ds.isEmpty
  | [] => by decide
  | d :: r => by simp only [PyData.eqv, PyData.eqvAll, List.isEmpty]
structure Shp (D : Nat) (d : PyData) : Prop where
  cl : d.canLay0 = true
  dp : d.depth ≤ D
theorem Shp.shaped {D : Nat} {d : PyData} (h : Shp D d) (hD : D ≤ 64) : SeqAt.shaped d = true := by
  unfold SeqAt.shaped
  rw [h.cl, decide_eq_true (Nat.le_trans h.dp hD)]
  rfl
theorem Shp.all {D : Nat} {ds : List PyData} (h : ∀ d ∈ ds, Shp D d) : PyData.canLayAll0 ds = true ∧ PyData.depthAll ds ≤ D := by
  induction ds with
  | nil => exact ⟨by simp only [PyData.canLayAll0], by simp only [PyData.depthAll]; exact Nat.zero_le _⟩
  | cons d r ih =>
    obtain ⟨a, b⟩ := ih fun x hx => h x (List.mem_cons_of_mem _ hx)
    have s := h d List.mem_cons_self
    refine ⟨by simp only [PyData.canLayAll0, s.cl, a, Bool.and_self], ?_⟩
    simp only [PyData.depthAll]
    have := s.dp
    omega
theorem Shp.lst {D : Nat} {ds : List PyData} (h : ∀ d ∈ ds, Shp D d) : Shp (D + 1) (.list ds) := by
  obtain ⟨a, b⟩ := Shp.all h
  exact ⟨by simp only [PyData.canLay0, a], by simp only [PyData.depth]; omega⟩
theorem Shp.tup {D : Nat} {ds : List PyData} (h : ∀ d ∈ ds, Shp D d) : Shp (D + 1) (.tuple ds) := by
  obtain ⟨a, b⟩ := Shp.all h
  exact ⟨by simp only [PyData.canLay0, a], by simp only [PyData.depth]; omega⟩
theorem Shp.int (i : Int) : Shp 0 (.int i) := ⟨by simp only [PyData.canLay0], by simp only [PyData.depth]; exact Nat.le_refl _⟩
def LowA (x : Str) : Prop := ∀ c ∈ x.cps.toList, c < 1000
theorem LowA.name {x : Str} (h : isName x = true) : LowA x := by
  unfold isName at h
  simp only [Bool.and_eq_true, decide_eq_true_eq, List.all_eq_true] at h
  exact fun c m => by have := h.2 c m; omega
theorem LowA.mark : LowA "mark" := by unfold LowA; decide +kernel
theorem strOk_low {x : Str} (h : LowA x) : PyData.strOk x = true := by
  unfold PyData.strOk
  rw [← Array.all_toList]
  exact List.all_eq_true.mpr fun c m => decide_eq_true (by have := h c m; omega)
theorem GoodK.lowN {ks : Kds} (g : GoodK ks) {x : Str} (h : x = "mark" ∨ x ∈ kindNames ks) : LowA x := by
  rcases h with z | z
  · subst z; exact LowA.mark
  · obtain ⟨e, he, rfl⟩ := List.mem_map.mp z
    exact LowA.name (g.kn e he)
theorem Shp.str {x : Str} (h : LowA x) : Shp 0 (.str x) := ⟨by simp only [PyData.canLay0]; exact strOk_low h, by simp only [PyData.depth]; exact Nat.le_refl _⟩
/-! ### comprehensions with a test whose items are objects -/
section
variable {J : It} {n : Nat} {G : Hp → Prop} {Y : Nat → Hp → V → Hp → Prop} {S : List Addr} {D : Addr} {H : Hp} {g : TG} {tt : TT} {te : TE} {vs : List Nat} {σ : L2.St} {Qd : Hp → Prop}
theorem lcB (wk : Walk J n G Y) (I : Nat → List V → Hp → Prop) (hI : ∀ i acc H1 H2, Kp [D] H1 H2 → I i acc H1 → I i acc H2) (I0 : I 0 [] H) (hD : H D = none) (hS : D ∉ S) (hz : n < sizeLine) (hG : ∀ H', Kp S H H' → G H')
    (hs : ∀ i x H' H'' acc (C : V → Hp → Prop) (N : Hp → Prop), i < n → acc.length ≤ i → Kp S H H' → I i acc H' → Y i H' x H'' → (∀ y H4, Kp S H' H4 → I (i + 1) (acc ++ [y]) H4 → C y H4) → (∀ H4, Kp S H' H4 → I (i + 1) acc H4 → N H4) →
      g x (wipe σ vs) H'' fun σ2 H2 => wipe σ2 vs = wipe σ vs ∧ tt σ2 H2 fun b H3 => if b = true then te σ2 H3 C else N H3)
    (hd : ∀ H' ys, Kp S H H' → I n ys H' → H' D = some (.lst ys) → ys.length ≤ n → Qd H') :
    ∃ W : Nat → Nat → Hp → Prop, (∃ m, W 0 m (upd H D (.lst []))) ∧ ∀ i m H, W i m H → (J.stop i H ∧ Qd H) ∨ (J.go i H ∧ ∃ Nx : Hp → Prop, (∀ H', Nx H' → ∃ m', m' < m ∧ W (i + 1) m' H') ∧
      ∀ x H', J.yld i H x H' → g x (wipe σ vs) H' fun σ2 H2 => wipe σ2 vs = wipe σ vs ∧ tt σ2 H2 fun b H3 => if b = true then te σ2 H3 fun y H4 => ∃ acc, H4 D = some (.lst acc) ∧ acc.length < sizeLine ∧ Nx (upd H4 D (.lst (acc ++ [y]))) else Nx H3) := by
  refine lc_it wk (fun i H' => Kp S H H' ∧ ∃ ys : List V, H' D = some (.lst ys) ∧ ys.length ≤ i ∧ I i ys H') ⟨Kp.new hD, [], upd_same, Nat.le_refl _, hI _ _ _ _ (Kp.new hD) I0⟩ (fun i H' _ p => hG H' p.1) ?_ (fun H' p => ?_)
  · intro i x H' H'' hi p y
    obtain ⟨p1, ys, p2, p3, p4⟩ := p
    exact hs i x H' H'' ys _ _ hi p3 p1 p4 y
      (fun v H4 k e => ⟨ys, k.old _ _ p2 hS, by omega, (p1.trans k).own hD, ys ++ [v], upd_same, by rw [List.length_append]; simp; omega, hI _ _ _ _ (Kp.wr (k.old _ _ p2 hS) (by simp)) e⟩)
      (fun H4 k e => ⟨p1.trans k, ys, k.old _ _ p2 hS, by omega, e⟩)
  · obtain ⟨p1, ys, p2, p3, p4⟩ := p
    exact hd H' ys p1 p4 p2 p3
end

section
variable {P : Program} {w : World} {K : PySem.W.Frag} {mg : Str → Option Value} {base : Heap} {aW : Addr}
def spLawSizes (K : PySem.W.Frag) : Sp := fun vs H Q _ => ∃ (v : V) (ks : Kds), vs = [v] ∧ KdsT K H v ks ∧ GoodK ks ∧ ∀ H' p, Kp [] H H' → H p = none → H' p = some (.dK (dictS (sizesN ks (ks.length + 1)))) → Q (.ref p) H'
set_option maxHeartbeats 1000000 in
theorem c_law_sizes (T : Txt K mg aW) (F : At_law_sizes K mg) : C8.Cal P w K mg base 1 "_law_sizes" (spLawSizes K) [] := by
  refine F.cal sc_law_sizes (fun vs H Q E h => ?_) (fun f cdv A outer s H vs Q E hr h => ?_)
  · obtain ⟨v, ks, rfl, _⟩ := h
    rfl
  · obtain ⟨v, ks, rfl, ⟨a, us, rfl, hq, hp⟩, g, k⟩ := h
    have nd := sc_law_sizes.nd
    have hu := hu_of hr
    have hu64 := h64 hr
    have ul := plen hp
    have kl := g.l5
    refine ⟨_, (pss_cons (ps_set (i := 1) nd rfl (by first | exact Or.inl rfl | exact Or.inr rfl) (pe_disp (pps_cons pe_str pe_int pps_nil) (by rfl) (by rfl) (fun z => by cases z) (by decide)))
      (pss_cons (ps_for PassesOwn.never rfl (pi_range1 (by rfl) T.z_range (pa_cons (pe_op op_add (pe_callB call_len_seq (by rfl) T.z_len (by decide +kernel) (pa_cons (pv 0) pa_nil)) pe_int) pa_nil)) (pg_name (i := 2) nd rfl (by first | exact Or.inl rfl | exact Or.inr rfl))
        (pss_one (ps_for PassesOwn.never rfl (pi_tup (pv 0)) (pg_tup rfl (pgs_cons (pg_name (i := 3) nd rfl (by first | exact Or.inl rfl | exact Or.inr rfl)) (pgs_cons (pg_name (i := 4) nd rfl (by first | exact Or.inl rfl | exact Or.inr rfl)) pgs_nil)))
          (pss_cons (ps_setLc (i := 5) (own := [("maker", 6), ("parts", 7)]) (g := (gTup _ 2 (gCons (gName 6) (gCons (gName 7) gNil)))) (tt := tTest (tOp (rEqD K) (tLc (iTup K (tVar 7)) (gName 8) (tB (tDNotIn (tVar 8) (tVar 1))) (tC (.int 1)) [8]) (tLst tNil))) rfl nd rfl rfl (sw_true rfl rfl rfl (by decide +kernel)) (pi_tup (pv 4)) (blkOk_by (N := nn_law_sizes) (sc := defScope st_law_sizes) (own := [("maker", 6), ("parts", 7)]) (by decide +kernel)) (fun _ _ _ _ _ => (pg_tup rfl (pgs_cons (pg_name (i := 6) nd rfl (by first | exact Or.inl rfl | exact Or.inr rfl)) (pgs_cons (pg_name (i := 7) nd rfl (by first | exact Or.inl rfl | exact Or.inr rfl)) pgs_nil)))) (fun _ _ _ _ _ => (pts_one (pt_cmpR (op_eqD hu64) (pe_lc (own := [("part", 8)]) (g := (gName 8)) rfl nd (pi_tup (pv 7)) (blkOk_by (N := nn_law_sizes) (own := [("part", 8)]) (by rfl)) (fun _ _ _ _ _ => (pg_name (i := 8) nd rfl (by first | exact Or.inl rfl | exact Or.inr rfl))) (fun _ _ _ _ _ => (pts_one (pt_cmp (pc_dnotin hu (pv 8) (pv 1))))) (fun _ _ _ _ _ => pe_int)) (pe_lst pa_nil) (nomark _)))) (fun _ _ _ _ _ => (pv 7)))
          (pss_one (ps_if (pt_cmpR (op_neD hu64) (pv 5) (pe_lst pa_nil) (nomark _)) (pss_one (ps_dput hu (pv 1) (pv 3) (pe_callB (cr_min rfl) (by rfl) T.z_min (by decide +kernel) (pa_cons (pe_lc (own := [("parts", 7)]) (te := tOp (rI0 fun i j => .int (i + j)) (tC (.int 1)) (tCB (rSum K) (tCons (tLc (iTup K (tVar 7)) (gName 8) tYes (tDGet (tVar 1) (tVar 8)) [8]) tNil))) (g := (gName 7)) (tt := tYes) rfl nd (pi_list (pv 5)) (blkOk_by (N := nn_law_sizes) (sc := defScope st_law_sizes) (own := [("parts", 7)]) (by decide +kernel)) (fun _ _ _ _ _ => (pg_name (i := 7) nd rfl (by first | exact Or.inl rfl | exact Or.inr rfl))) (fun _ _ _ _ _ => pts_nil) (fun _ _ _ _ _ => (pe_op op_add pe_int (pe_callB (cr_sum rfl) (by rfl) T.z_sum (by decide +kernel) (pa_cons (pe_lc (own := [("part", 8)]) (g := (gName 8)) (tt := tYes) rfl nd (pi_tup (pv 7)) (blkOk_by (N := nn_law_sizes) (own := [("part", 8)]) (by rfl)) (fun _ _ _ _ _ => (pg_name (i := 8) nd rfl (by first | exact Or.inl rfl | exact Or.inr rfl))) (fun _ _ _ _ _ => pts_nil) (fun _ _ _ _ _ => (pe_dget hu (pv 1) (pv 8) (fun _ _ => rfl)))) pa_nil))))) pa_nil)) rfl)) pss_nil))))))
      (pss_one (ps_ret (pv 1))))), ?_⟩
    intro d hd
    refine ⟨upd_same, [(Sum.inr "mark", V.int 1)], rfl, (by decide), ?_⟩
    have e0 : mergeK ([] : List (Key × V)) [(Sum.inr "mark", V.int 1)] = dictS (sizesN ks 0) := rfl
    rw [e0]
    have k0 : Kp [] H (upd (upd H d (.dK [])) d (.dK (dictS (sizesN ks 0)))) := (Kp.new hd).own hd
    have hd0 : upd (upd H d (.dK [])) d (.dK (dictS (sizesN ks 0))) d = some (.dK (dictS (sizesN ks 0))) := upd_same
    generalize upd (upd H d (.dK [])) d (.dK (dictS (sizesN ks 0))) = H0 at k0 hd0
    refine ⟨_, rfl, a, _, rfl, .inr (k0.sqt hq), _, _, rfl, rfl, ((us.length : Int) + 1), rfl, by omega, by omega, ?_⟩
    have eN : ((us.length : Int) + 1).toNat = ks.length + 1 := by omega
    rw [eN]
    refine for_range (lo := 0) (n := ks.length + 1) (fun i σ H' => ∃ v2 v3 v4 v5 v6 v7 v8, σ = [some (.ref a), some (.ref d), v2, v3, v4, v5, v6, v7, v8] ∧ Kp [] H H' ∧ H' d = some (.dK (dictS (sizesN ks i)))) ?_ ?_ ?_
    · exact ⟨_, _, _, _, _, _, _, rfl, k0, hd0⟩
    · rintro i σ H1 hi ⟨v2, v3, v4, v5, v6, v7, v8, rfl, k1, e1⟩
      refine ⟨_, rfl, a, rfl, ⟨_, k1.sqt hq⟩, for_tup (K := K) (a := a) (xs := us) (fun j σ H' => ∃ v2 v3 v4 v5 v6 v7 v8, σ = [some (.ref a), some (.ref d), v2, v3, v4, v5, v6, v7, v8] ∧ Kp [] H H' ∧ H' d = some (.dK (dictS (roundK (ks.take j) (sizesN ks i)))))
        ⟨_, _, _, _, _, _, _, rfl, k1, e1⟩ (fun j σ H' _ z => by obtain ⟨_, _, _, _, _, _, _, _, kk, _⟩ := z; exact kk.sqt hq) ?_ ?_⟩
      · rintro j y σ H2 hy ⟨v2, v3, v4, v5, v6, v7, v8, rfl, k2, e2⟩
        obtain ⟨c, hc, b, q, rfl, hb, ⟨b2, ws, rfl, hb2, hrs⟩⟩ := pget hp hy
        have cm := List.mem_of_getElem? hc
        have wl := plen hrs
        have cb := g.m4 c cm
        have jl : j < ks.length := (List.getElem?_eq_some_iff.mp hc).1
        have sl : (roundK (ks.take j) (sizesN ks i)).length ≤ 20101 := by
          have h1 := roundK_len (ks.take j) (sizesN ks i)
          have h2 := sizesN_len ks i
          have h3 := List.length_take_le j ks
          have h4 : i * ks.length ≤ 100 * 100 := Nat.mul_le_mul (by omega) (by omega)
          omega
        generalize hS : roundK (ks.take j) (sizesN ks i) = S at e2 sl
        have rt := roundK_take (sizesN ks i) hc
        rw [hS] at rt
        refine ⟨b, _, rfl, k2.sqt hb, rfl, _, _, rfl, _, _, rfl, rfl, ?_⟩
        refine ⟨_, rfl, b2, rfl, ⟨_, k2.sqt hb2⟩, fun D hD => ?_⟩
        refine lcB (S := []) walk_tup (fun m acc H' => Paired (fun v ps => StrsT K H' v ps) acc (((c.2.take m).filter fun r => r.2.all fun p => (lookS S p).isSome).map (·.2))) (fun m acc Ha Hb kk z => pmap (fun _ _ w => w.kp kk) z)
          .nil hD (by simp) (small1000 (by omega)) (fun H' kk => kk.sqt (k2.sqt hb2)) ?_ ?_
        · rintro m z H3 H4 acc C N hm al k3 ia ⟨rfl, hz⟩ hC hN
          obtain ⟨r, hr3, b3, q3, rfl, hb3, hps⟩ := pget hrs hz
          have rmem := List.mem_of_getElem? hr3
          have rl := g.p3 c cm r rmem
          have tk : c.2.take (m + 1) = c.2.take m ++ [r] := by
            have h1 := (List.getElem?_eq_some_iff.mp hr3).1
            have h2 := (List.getElem?_eq_some_iff.mp hr3).2
            rw [List.take_succ_eq_append_getElem h1, h2]
          refine ⟨b3, _, rfl, k3.sqt (k2.sqt hb3), rfl, _, _, rfl, _, _, rfl, rfl, rfl, ?_⟩
          obtain ⟨b4, rfl, hq4⟩ := hps
          -- the parts that are not there yet
          refine ⟨_, rfl, b4, rfl, ⟨_, k3.sqt (k2.sqt hq4)⟩, fun D2 hD2 => ?_⟩
          refine lcW (S := []) walk_tup (fun t => (r.2[t]?).bind fun p => if (lookS S p).isSome = true then none else some (V.int 1)) hD2 (by simp) (small1000 (by rw [List.length_map]; omega)) (fun H' kk => kk.sqt (k3.sqt (k2.sqt hq4))) ?_ ?_
          · rintro t w H5 H6 C2 N2 ht k5 ⟨rfl, hw⟩ hC2 hN2
            rw [List.getElem?_map] at hw
            obtain ⟨p, hp2, rfl⟩ := Option.map_eq_some_iff.mp hw
            have d5 := k5.old _ _ (k3.old _ _ e2 (by simp)) (by simp)
            have gg := DGet.k (k := (Sum.inr p : Key)) d5
            rw [dictS_val] at gg
            refine ⟨rfl, _, rfl, _, rfl, d, _, rfl, gg, _, rfl, ?_⟩
            rw [Option.isSome_map]
            cases cc : (lookS S p).isSome with
            | true => exact iteBn rfl (hN2 _ Kp.refl (by rw [hp2]; show (if _ then _ else _) = _; rw [if_pos cc]))
            | false => exact iteB rfl (hC2 _ _ Kp.refl (by rw [hp2]; show (if _ then _ else _) = _; rw [if_neg (by rw [cc]; decide)]))
          · intro H5 k5 e5
            rw [List.length_map, range_bind] at e5
            refine ⟨(by show 0 ≤ sizeLine; decide), fun D3 hD3 => ?_⟩
            have k6 : Kp [] H5 (upd H5 D3 (.lst [])) := Kp.new hD3
            have ds : ∀ l : List Str, DpAll K (upd H5 D3 (.lst [])) (l.filterMap fun p => if (lookS S p).isSome = true then none else some (V.int 1)) (l.filterMap fun p => if (lookS S p).isSome = true then none else some (PyData.int 1)) ∧
                (∀ x ∈ (l.filterMap fun p => if (lookS S p).isSome = true then none else some (PyData.int 1)), Shp 0 x) ∧ (l.filterMap fun p => if (lookS S p).isSome = true then none else some (PyData.int 1)).isEmpty = l.all fun p => (lookS S p).isSome := by
              intro l
              induction l with
              | nil => exact ⟨.nil, fun _ h => (nomatch h), rfl⟩
              | cons p s ih =>
                obtain ⟨i1, i2, i3⟩ := ih
                rw [List.filterMap_cons, List.filterMap_cons, List.all_cons]
                cases cc : (lookS S p).isSome with
                | true => exact ⟨i1, i2, i3⟩
                | false =>
                  refine ⟨.cons (.int 1) i1, fun x hx => ?_, rfl⟩
                  rcases List.mem_cons.mp hx with z | z
                  · subst z; exact Shp.int 1
                  · exact i2 x z
            obtain ⟨j1, j2, j3⟩ := ds r.2
            refine ⟨_, .list [], .lst (SqL.of (k6.old _ _ e5 (by simp))) j1, .lst (SqL.of upd_same) .nil, (Shp.lst j2).shaped (by decide), by decide, _, rfl, ?_⟩
            rw [eqv_nil, j3]
            have k36 := k5.trans k6
            cases ca : (r.2.all fun p => (lookS S p).isSome) with
            | true =>
              refine iteB rfl ⟨_, rfl, hC _ _ k36 ?_⟩
              rw [tk, List.filter_append, List.map_append]
              refine pair_app (pmap (fun _ _ w => w.kp k36) ia) ?_
              rw [List.filter_cons, ca]
              exact .cons ⟨b4, rfl, k36.sqt (k3.sqt (k2.sqt hq4))⟩ .nil
            | false =>
              refine iteBn rfl (hN _ k36 ?_)
              rw [tk, List.filter_append, List.map_append, List.filter_cons, ca]
              simpa using pmap (fun _ _ w => StrsT.kp k36 w) ia
        · intro H3 ys k3 ia e3 yl
          rw [wl, List.take_length] at ia
          generalize hL : (c.2.filter fun r => r.2.all fun p => (lookS S p).isSome) = L at ia
          have Lm : ∀ r ∈ L, r ∈ c.2 ∧ (r.2.all fun p => (lookS S p).isSome) = true := fun r hr => by rw [← hL] at hr; exact List.mem_filter.mp hr
          have fs : foundS S c.2 = L.map fun r => sizeMade S r.2 := by
            rw [← hL]
            show c.2.filterMap _ = _
            rw [← List.filterMap_eq_map, List.filterMap_filter]
            rfl
          have pl := plen ia
          rw [List.length_map] at pl
          refine ⟨_, rfl, (by show 0 ≤ sizeLine; decide), fun D3 hD3 => ?_⟩
          have k4 : Kp [] H3 (upd H3 D3 (.lst [])) := Kp.new hD3
          have dpL : DpAll K (upd H3 D3 (.lst [])) ys ((L.map (·.2)).map dStrs) := dpAll_of (fun v x w => dp_strs (StrsT.kp k4 w)) ia
          have shL : ∀ x ∈ (L.map (·.2)).map dStrs, Shp 1 x := fun x hx => by
            obtain ⟨ps, h1, rfl⟩ := List.mem_map.mp hx
            obtain ⟨r, h2, rfl⟩ := List.mem_map.mp h1
            refine Shp.tup fun y hy => ?_
            obtain ⟨p, h3, rfl⟩ := List.mem_map.mp hy
            exact Shp.str (g.lowN (g.ps c cm r (Lm r h2).1 p h3))
          refine ⟨_, .list [], .lst (SqL.of (k4.old _ _ e3 (by simp))) dpL, .lst (SqL.of upd_same) .nil, (Shp.lst shL).shaped (by decide), by decide, _, rfl, ?_⟩
          rw [eqv_nil]
          have k24 : Kp [] H2 (upd H3 D3 (.lst [])) := k3.trans k4
          have e24 := k24.old _ _ e2 (by simp)
          generalize upd H3 D3 (.lst []) = H4 at k4 k24 e24
          have yE := k4.old _ _ e3 (by simp)
          have iaE : Paired (fun v ps => StrsT K H4 v ps) ys (L.map (·.2)) := pmap (fun _ _ w => StrsT.kp k4 w) ia
          cases hLe : L with
          | nil =>
            refine iteBn rfl ?_
            refine ⟨_, _, _, _, _, _, _, rfl, k2.trans k24, ?_⟩
            have st : stepK S c = S := by unfold stepK; rw [fs, hLe]; rfl
            rw [rt, st]
            exact e24
          | cons r0 L0 =>
            refine iteB rfl ?_
            refine ⟨_, rfl, D, rfl, ⟨_, SqL.of yE⟩, fun D4 hD4 => ?_⟩
            refine lcW (S := []) walk_list (fun m => (L[m]?).map fun r => V.int (sizeMade S r.2)) hD4 (by simp) (small1000 (by omega)) (fun H' kk => SqL.of (kk.old _ _ yE (by simp))) ?_ ?_
            · rintro m z H5 H6 C N hm k5 ⟨rfl, hz⟩ hC hN
              obtain ⟨ps, hps0, b5, rfl, hq5⟩ := pget iaE hz
              rw [List.getElem?_map] at hps0
              obtain ⟨r, hr3, rfl⟩ := Option.map_eq_some_iff.mp hps0
              have lr := Lm r (List.mem_of_getElem? hr3)
              have rl := g.p3 c cm r lr.1
              refine ⟨rfl, ?_⟩
              refine ⟨_, rfl, b5, rfl, ⟨_, k5.sqt hq5⟩, fun D5 hD5 => ?_⟩
              refine lcW (S := []) walk_tup (fun t => (r.2[t]?).map fun p => V.int ((lookS S p).getD 0)) hD5 (by simp) (small1000 (by rw [List.length_map]; omega)) (fun H' kk => kk.sqt (k5.sqt hq5)) ?_ ?_
              · rintro t w H7 H8 C2 N2 ht k7 ⟨rfl, hw⟩ hC2 hN2
                rw [List.getElem?_map] at hw
                obtain ⟨p, hp2, rfl⟩ := Option.map_eq_some_iff.mp hw
                have d7 := k7.old _ _ (k5.old _ _ e24 (by simp)) (by simp)
                have gg := DGet.k (k := (Sum.inr p : Key)) d7
                rw [dictS_val] at gg
                have some_ : (lookS S p).isSome = true := List.all_eq_true.mp lr.2 p (List.mem_of_getElem? hp2)
                obtain ⟨v, ev⟩ := Option.isSome_iff_exists.mp some_
                rw [ev] at gg
                refine ⟨rfl, _, rfl, _, rfl, d, _, rfl, gg, ?_⟩
                exact hC2 _ _ Kp.refl (by rw [hp2]; show some (V.int ((lookS S p).getD 0)) = _; rw [ev]; rfl)
              · intro H7 k7 e7
                rw [List.length_map, range_map] at e7
                refine ⟨D5, r.2.map fun p => (lookS S p).getD 0, rfl, by rw [List.map_map]; exact SqL.of e7, _, _, rfl, rfl, ?_⟩
                exact hC _ _ k7 (by rw [hr3]; rfl)
            · intro H5 k5 e5
              rw [pl, range_map] at e5
              have e5' : H5 D4 = some (.lst ((foundS S c.2).map V.int)) := by rw [e5, fs, List.map_map]; rfl
              have fne : foundS S c.2 ≠ [] := by rw [fs, hLe]; simp
              refine ⟨D4, _, rfl, SqL.of e5', List.length_pos_iff.mpr fne, fun mm hm hle => ?_⟩
              have mE := minL_is hm hle
              refine ⟨_, rfl, _, rfl, d, _, rfl, DPut.k (k := (Sum.inr c.1 : Key)) (k5.old _ _ e24 (by simp)) ?_, ?_⟩
              · unfold dictS
                rw [List.length_map]
                exact Nat.lt_of_le_of_lt sl (by decide)
              · refine ⟨_, _, _, _, _, _, _, rfl, ?_, ?_⟩
                · exact ((k2.trans k24).trans k5).own hd
                · rw [upd_same, rt, dictS_put]
                  unfold stepK
                  rw [if_neg fne, mE]
      · rintro σ H2 ⟨v2, v3, v4, v5, v6, v7, v8, rfl, k2, e2⟩
        rw [ul, List.take_length] at e2
        exact ⟨_, _, _, _, _, _, _, rfl, k2, e2⟩
    · rintro σ H1 ⟨v2, v3, v4, v5, v6, v7, v8, rfl, k1, e1⟩
      exact ⟨_, rfl, k H1 d k1 hd e1⟩
end

end Md

namespace Md
open PySem PySem.Spec PyProof.Rows L2

section
variable {P : Program} {w : World} {K : PySem.W.Frag} {mg : Str → Option Value} {base : Heap} {aW : Addr}
def spLawLed (K : PySem.W.Frag) : Sp := fun vs H Q _ => ∃ (v : V) (ks : Kds) (x : Str), vs = [v, .str x] ∧ KdsT K H v ks ∧ GoodK ks ∧ (x = "mark" ∨ x ∈ kindNames ks) ∧
  ∀ (H' : Hp) (p : Addr) (fs : List Str), Kp [] H H' → H p = none → H' p = some (.lst (fs.map V.str)) → fs.length ≤ 18 → (∀ y, y ∈ fs ↔ Rch ks x y) → Q (.ref p) H'
theorem dp_lst {H : Hp} {p : Addr} {ws : List Str} (h : H p = some (.lst (ws.map V.str))) : Dp K H (.ref p) (.list (ws.map .str)) := .lst (SqL.of h) (dpAll_strs ws)
theorem shp_lst {ws : List Str} (h : ∀ x ∈ ws, LowA x) : SeqAt.shaped (.list (ws.map .str)) = true := (Shp.lst fun d hd => by obtain ⟨x, hx, rfl⟩ := List.mem_map.mp hd; exact Shp.str (h x hx)).shaped (by decide)
theorem new_is (fs ps : List Str) : (ps.filterMap fun p => if fs.contains p = true then none else some (V.str p)) = (newOf fs ps).map V.str := by
  unfold newOf
  induction ps with
  | nil => rfl
  | cons p r ih =>
    rw [List.filterMap_cons, List.filter_cons]
    cases c : fs.contains p with
    | true => exact ih
    | false => 
      show V.str p :: _ = _
      rw [ih]; rfl
set_option maxHeartbeats 2000000 in
theorem c_law_led (F : At_law_led K mg) : C8.Cal P w K mg base 1 "_law_led" (spLawLed K) [] := by
  refine F.cal sc_law_led (fun vs H Q E h => ?_) (fun f cdv A outer s H vs Q E hr h => ?_)
  · obtain ⟨v, ks, x, rfl, _⟩ := h
    rfl
  · obtain ⟨v, ks, x, rfl, ⟨a, us, rfl, hq, hp⟩, g, hx, k⟩ := h
    have nd := sc_law_led.nd
    have hu64 := h64 hr
    have ul := plen hp
    have kl := g.l5
    refine ⟨_, (pss_cons (ps_set (i := 2) nd rfl (by first | exact Or.inl rfl | exact Or.inr rfl) (pe_lst pa_nil))
      (pss_cons (ps_set (i := 3) nd rfl (by first | exact Or.inl rfl | exact Or.inr rfl) (pe_lst (pa_cons (pv 1) pa_nil)))
      (pss_cons (ps_while PassesOwn.never (pt_cmpR (op_neD hu64) (pv 3) (pe_lst pa_nil) (nomark _))
        (pss_cons (ps_set (i := 4) nd rfl (by first | exact Or.inl rfl | exact Or.inr rfl) (pe_bm0 PySem.F.plainAttrs_list PySem.F.slot_list_pop PySem.F.type_list_pop mt_pop (pv 3)))
        (pss_one (ps_for PassesOwn.never rfl (pi_tup (pv 0)) (pg_tup rfl (pgs_cons (pg_name (i := 5) nd rfl (by first | exact Or.inl rfl | exact Or.inr rfl)) (pgs_cons (pg_name (i := 6) nd rfl (by first | exact Or.inl rfl | exact Or.inr rfl)) pgs_nil)))
          (pss_one (ps_for PassesOwn.never rfl (pi_tup (pv 6)) (pg_tup rfl (pgs_cons (pg_name (i := 7) nd rfl (by first | exact Or.inl rfl | exact Or.inr rfl)) (pgs_cons (pg_name (i := 8) nd rfl (by first | exact Or.inl rfl | exact Or.inr rfl)) pgs_nil)))
            (pss_one (ps_if (pt_cmpR op_eq (pv 5) (pv 4) (nomark _)) (pss_cons (ps_expr (pe_bm PySem.F.plainAttrs_list PySem.F.slot_list_extend PySem.F.type_list_extend mt_extend (pv 3) (pa_cons (pe_lc (own := [("part", 9)]) (g := (gName 9)) (tt := tTest (tOp (rIn K true) (tVar 9) (tVar 2))) rfl nd (pi_tup (pv 8)) (blkOk_by (N := nn_law_led) (sc := defScope st_law_led) (own := [("part", 9)]) (by decide +kernel)) (fun _ _ _ _ _ => (pg_name (i := 9) nd rfl (by first | exact Or.inl rfl | exact Or.inr rfl))) (fun _ _ _ _ _ => (pts_one (pt_cmpR op_notIn_seq (pv 9) (pv 2) (by rfl)))) (fun _ _ _ _ _ => (pv 9))) pa_nil)))
              (pss_one (ps_expr (pe_bm PySem.F.plainAttrs_list PySem.F.slot_list_extend PySem.F.type_list_extend mt_extend (pv 2) (pa_cons (pe_lc (own := [("part", 9)]) (g := (gName 9)) (tt := tTest (tOp (rIn K true) (tVar 9) (tVar 2))) rfl nd (pi_tup (pv 8)) (blkOk_by (N := nn_law_led) (sc := defScope st_law_led) (own := [("part", 9)]) (by decide +kernel)) (fun _ _ _ _ _ => (pg_name (i := 9) nd rfl (by first | exact Or.inl rfl | exact Or.inr rfl))) (fun _ _ _ _ _ => (pts_one (pt_cmpR op_notIn_seq (pv 9) (pv 2) (by rfl)))) (fun _ _ _ _ _ => (pv 9))) pa_nil))))) pss_nil))))))))
      (pss_one (ps_ret (pv 2)))))), ?_⟩
    refine ⟨(by show 0 ≤ sizeLine; decide), fun fo hfo => ?_⟩
    have kf : Kp [] H (upd H fo (.lst [])) := Kp.new hfo
    refine ⟨_, rfl, (by show 1 ≤ sizeLine; decide), fun wa hwa => ?_⟩
    have nfw : fo ≠ wa := ne_of_none upd_same hwa
    have e0 : upd (upd H fo (.lst [])) wa (.lst [.str x]) fo = some (.lst ([].map V.str)) := by rw [upd_ne nfw]; exact upd_same
    have hwaH : H wa = none := kf.free hwa (by simp)
    have k0 : Kp [] H (upd (upd H fo (.lst [])) wa (.lst [.str x])) := kf.new' hwa
    refine ⟨fun m σ H' => ∃ v4 v5 v6 v7 v8 v9 fs ws, σ = [some (.ref a), some (.str x), some (.ref fo), some (.ref wa), v4, v5, v6, v7, v8, v9] ∧ Kp [] H H' ∧ H' fo = some (.lst (fs.map V.str)) ∧ H' wa = some (.lst (ws.map V.str)) ∧ Led ks x fs ws ∧ m = ws.length + 4 * missing ks fs, ?_, ?_⟩
    · exact ⟨_, _, _, _, _, _, _, [], [x], rfl, k0, e0, upd_same, Led.first g, rfl⟩
    · rintro m σ H1 ⟨v4, v5, v6, v7, v8, v9, fs, ws, rfl, k1, ef1, ew1, led, rfl⟩
      have lowF : ∀ y ∈ fs, LowA y := fun y hy => g.lowN ((led.rch y hy).known g)
      have lowW : ∀ y ∈ ws, LowA y := fun y hy => by
        rcases led.wai y hy with z | z
        · subst z; exact g.lowN hx
        · exact lowF y z
      refine ⟨_, rfl, (by show 0 ≤ sizeLine; decide), fun D0 hD0 => ?_⟩
      have k2 : Kp [] H1 (upd H1 D0 (.lst [])) := Kp.new hD0
      refine ⟨_, .list [], dp_lst (k2.old _ _ ew1 (by simp)), .lst (SqL.of upd_same) .nil, shp_lst lowW, by decide, _, rfl, ?_⟩
      rw [eqv_nil]
      have ef2 := k2.old _ _ ef1 (by simp)
      have ew2 := k2.old _ _ ew1 (by simp)
      have k02 := k1.trans k2
      generalize upd H1 D0 (.lst []) = H2 at k2 ef2 ew2 k02
      rcases List.eq_nil_or_concat ws with e | ⟨ws', here, e⟩
      · subst e
        refine iteBn rfl ?_
        exact ⟨_, rfl, k H2 fo fs k02 hfo ef2 (by have := led.len; omega) (led.done)⟩
      · rw [List.concat_eq_append] at e
        subst e
        refine iteB (by simp) ?_
        have lt := led.pop
        have wl : ws'.length + 1 + 4 * missing ks fs ≤ 25 := by
          have := led.wln
          rw [List.length_append] at this
          exact this
        refine ⟨fun σ H' => ∃ m', m' < (ws' ++ [here]).length + 4 * missing ks fs ∧ ∃ v4 v5 v6 v7 v8 v9 fs ws, σ = [some (.ref a), some (.str x), some (.ref fo), some (.ref wa), v4, v5, v6, v7, v8, v9] ∧ Kp [] H H' ∧ H' fo = some (.lst (fs.map V.str)) ∧ H' wa = some (.lst (ws.map V.str)) ∧ Led ks x fs ws ∧ m' = ws.length + 4 * missing ks fs, fun _ _ h => h, ?_⟩
        refine ⟨_, rfl, tyL ew2, wa, _, .str here, rfl, rfl, ew2, by simp, ?_⟩
        have dl : ((ws' ++ [here]).map V.str).dropLast = ws'.map V.str := by simp
        rw [dl]
        have nfw2 : fo ≠ wa := nfw
        have k3 : Kp [wa] H2 (upd H2 wa (.lst (ws'.map V.str))) := Kp.wr ew2 (by simp)
        have ef3 := k3.old _ _ ef2 (by simp [nfw])
        have ew3 : upd H2 wa (.lst (ws'.map V.str)) wa = some (.lst (ws'.map V.str)) := upd_same
        have k03 : Kp [] H (upd H2 wa (.lst (ws'.map V.str))) := k02.own hwaH
        generalize upd H2 wa (.lst (ws'.map V.str)) = H3 at k3 ef3 ew3 k03
        have hqH : ∀ {H' : Hp}, Kp [] H H' → SqT K H' a us := fun kk => kk.sqt hq
        refine ⟨_, rfl, a, rfl, ⟨_, hqH k03⟩, for_tup (K := K) (a := a) (xs := us) (fun i σ H' => ∃ v5 v6 v7 v8 v9 fs2 ws2, σ = [some (.ref a), some (.str x), some (.ref fo), some (.ref wa), some (.str here), v5, v6, v7, v8, v9] ∧ Kp [] H H' ∧ H' fo = some (.lst (fs2.map V.str)) ∧ H' wa = some (.lst (ws2.map V.str)) ∧
            LedT ks x here (ws'.length + 4 * missing ks fs) fs2 ws2 ∧ ∀ d ∈ ks.take i, d.1 = here → ∀ r ∈ d.2, ∀ p ∈ r.2, p ∈ fs2)
          ⟨_, _, _, _, _, fs, ws', rfl, k03, ef3, ew3, lt, fun d hd => (nomatch hd)⟩ (fun i σ H' _ z => by obtain ⟨_, _, _, _, _, _, _, _, kk, _⟩ := z; exact hqH kk) ?_ ?_⟩
        · rintro i y σ H4 hy ⟨v5, v6, v7, v8, v9, fs2, ws2, rfl, k4, ef4, ew4, lt4, pr4⟩
          obtain ⟨c, hc, b, q, rfl, hb, ⟨b2, rows, rfl, hb2, hrs⟩⟩ := pget hp hy
          have cm := List.mem_of_getElem? hc
          have wl4 := plen hrs
          have tk : ks.take (i + 1) = ks.take i ++ [c] := by
            have h1 := (List.getElem?_eq_some_iff.mp hc).1
            have h2 := (List.getElem?_eq_some_iff.mp hc).2
            rw [List.take_succ_eq_append_getElem h1, h2]
          refine ⟨b, _, rfl, k4.sqt hb, rfl, _, _, rfl, _, _, rfl, rfl, ?_⟩
          refine ⟨_, rfl, b2, rfl, ⟨_, k4.sqt hb2⟩, for_tup (K := K) (a := b2) (xs := rows) (fun j σ H' => ∃ v7 v8 v9 fs3 ws3, σ = [some (.ref a), some (.str x), some (.ref fo), some (.ref wa), some (.str here), some (.str c.1), some (.ref b2), v7, v8, v9] ∧ Kp [] H H' ∧ H' fo = some (.lst (fs3.map V.str)) ∧ H' wa = some (.lst (ws3.map V.str)) ∧
              LedT ks x here (ws'.length + 4 * missing ks fs) fs3 ws3 ∧ (∀ d ∈ ks.take i, d.1 = here → ∀ r ∈ d.2, ∀ p ∈ r.2, p ∈ fs3) ∧ ∀ r ∈ c.2.take j, c.1 = here → ∀ p ∈ r.2, p ∈ fs3)
            ⟨_, _, _, fs2, ws2, rfl, k4, ef4, ew4, lt4, pr4, fun d hd => (nomatch hd)⟩ (fun i σ H' _ z => by obtain ⟨_, _, _, _, _, _, kk, _⟩ := z; exact kk.sqt hb2) ?_ ?_⟩
          · rintro j z σ H5 hz ⟨v7, v8, v9, fs3, ws3, rfl, k5, ef5, ew5, lt5, pr5, rw5⟩
            obtain ⟨r, hr3, b3, q3, rfl, hb3, ⟨b4, rfl, hq4⟩⟩ := pget hrs hz
            have rm := List.mem_of_getElem? hr3
            have r3 := g.p3 c cm r rm
            have tk2 : c.2.take (j + 1) = c.2.take j ++ [r] := by
              have h1 := (List.getElem?_eq_some_iff.mp hr3).1
              have h2 := (List.getElem?_eq_some_iff.mp hr3).2
              rw [List.take_succ_eq_append_getElem h1, h2]
            refine ⟨b3, _, rfl, k5.sqt hb3, rfl, _, _, rfl, _, _, rfl, rfl, ?_⟩
            refine ⟨_, rfl, _, rfl, rfl, _, rfl, ?_⟩
            by_cases ch : c.1 = here
            · refine iteB (by rw [ch]; simp) ?_
              have len5 := lt5.len
              have wln5 := lt5.wln
              have nl : (newOf fs3 r.2).length ≤ 3 := Nat.le_trans (List.length_filter_le _ _) r3
              -- what waits
              refine ⟨_, rfl, tyL ew5, _, rfl, b4, rfl, ⟨_, k5.sqt hq4⟩, fun D hD => ?_⟩
              refine lcW (S := []) walk_tup (fun t => (r.2[t]?).bind fun p => if fs3.contains p = true then none else some (V.str p)) hD (by simp) (small1000 (by rw [List.length_map]; omega)) (fun H' kk => kk.sqt (k5.sqt hq4)) ?_ ?_
              · rintro t w H6 H7 C N ht k6 ⟨rfl, hw⟩ hC hN
                rw [List.getElem?_map] at hw
                obtain ⟨p, hp2, rfl⟩ := Option.map_eq_some_iff.mp hw
                refine ⟨rfl, _, rfl, _, rfl, fo, _, rfl, .inl (SqL.of (k6.old _ _ ef5 (by simp))), rfl, flats _, _, rfl, ?_⟩
                have iv : (if true = true then !inV (.str p) (fs3.map V.str) else inV (.str p) (fs3.map V.str)) = !fs3.contains p := by rw [inV_strs]; rfl
                rw [iv]
                cases cc : fs3.contains p with
                | true => exact iteBn rfl (hN _ Kp.refl (by rw [hp2]; show (if _ then _ else _) = _; rw [if_pos cc]))
                | false => exact iteB rfl ⟨_, rfl, hC _ _ Kp.refl (by rw [hp2]; show (if _ then _ else _) = _; rw [if_neg (by rw [cc]; decide)])⟩
              intro H6 k6 e6
              rw [List.length_map, range_bind, new_is] at e6
              have ew6 := k6.old _ _ ew5 (by simp)
              have ef6 := k6.old _ _ ef5 (by simp)
              refine ⟨wa, D, _, _, rfl, rfl, ew6, e6, ?_, ?_⟩
              · rw [List.length_map, List.length_map]
                exact Nat.le_of_lt (small1000 (by omega))
              rw [← List.map_append]
              have k7 : Kp [wa] H6 (upd H6 wa (.lst ((ws3 ++ newOf fs3 r.2).map V.str))) := Kp.wr ew6 (by simp)
              have ew7 : upd H6 wa (.lst ((ws3 ++ newOf fs3 r.2).map V.str)) wa = some (.lst ((ws3 ++ newOf fs3 r.2).map V.str)) := upd_same
              have ef7 := k7.old _ _ ef6 (by simp [nfw])
              have k07 : Kp [] H (upd H6 wa (.lst ((ws3 ++ newOf fs3 r.2).map V.str))) := (k5.trans k6).own hwaH
              generalize upd H6 wa (.lst ((ws3 ++ newOf fs3 r.2).map V.str)) = H7 at k7 ew7 ef7 k07
              -- what is found
              refine ⟨_, rfl, tyL ef7, _, rfl, b4, rfl, ⟨_, k07.sqt hq4⟩, fun D' hD' => ?_⟩
              refine lcW (S := []) walk_tup (fun t => (r.2[t]?).bind fun p => if fs3.contains p = true then none else some (V.str p)) hD' (by simp) (small1000 (by rw [List.length_map]; omega)) (fun H' kk => kk.sqt (k07.sqt hq4)) ?_ ?_
              · rintro t w H8 H9 C N ht k8 ⟨rfl, hw⟩ hC hN
                rw [List.getElem?_map] at hw
                obtain ⟨p, hp2, rfl⟩ := Option.map_eq_some_iff.mp hw
                refine ⟨rfl, _, rfl, _, rfl, fo, _, rfl, .inl (SqL.of (k8.old _ _ ef7 (by simp))), rfl, flats _, _, rfl, ?_⟩
                have iv : (if true = true then !inV (.str p) (fs3.map V.str) else inV (.str p) (fs3.map V.str)) = !fs3.contains p := by rw [inV_strs]; rfl
                rw [iv]
                cases cc : fs3.contains p with
                | true => exact iteBn rfl (hN _ Kp.refl (by rw [hp2]; show (if _ then _ else _) = _; rw [if_pos cc]))
                | false => exact iteB rfl ⟨_, rfl, hC _ _ Kp.refl (by rw [hp2]; show (if _ then _ else _) = _; rw [if_neg (by rw [cc]; decide)])⟩
              intro H8 k8 e8
              rw [List.length_map, range_bind, new_is] at e8
              have ew8 := k8.old _ _ ew7 (by simp)
              have ef8 := k8.old _ _ ef7 (by simp)
              refine ⟨fo, D', _, _, rfl, rfl, ef8, e8, ?_, ?_⟩
              · rw [List.length_map, List.length_map]
                exact Nat.le_of_lt (small1000 (by omega))
              rw [← List.map_append]
              have k9 : Kp [fo] H8 (upd H8 fo (.lst ((fs3 ++ newOf fs3 r.2).map V.str))) := Kp.wr ef8 (by simp)
              refine ⟨_, _, _, fs3 ++ newOf fs3 r.2, ws3 ++ newOf fs3 r.2, rfl, (k07.trans k8).own hfo, upd_same, k9.old _ _ ew8 (by simp [Ne.symm nfw]), ?_, fun d hd e r' hr' p hp' => List.mem_append_left _ (pr5 d hd e r' hr' p hp'), fun r' hr' e p hp' => ?_⟩
              · exact lt5.add g (fun p hp' => ⟨c, cm, ch, r, rm, hp'⟩) r3
              · rw [tk2] at hr'
                rcases List.mem_append.mp hr' with z | z
                · exact List.mem_append_left _ (rw5 r' z e p hp')
                · simp at z; subst z; exact newOf_all hp'
            · refine iteBn (by simpa using fun z => ch (V.str.inj z)) ?_
              refine ⟨_, _, _, fs3, ws3, rfl, k5, ef5, ew5, lt5, pr5, fun r' _ e => absurd e ch⟩
          · rintro σ H5 ⟨v7, v8, v9, fs3, ws3, rfl, k5, ef5, ew5, lt5, pr5, rw5⟩
            rw [wl4, List.take_length] at rw5
            refine ⟨_, _, _, _, _, fs3, ws3, rfl, k5, ef5, ew5, lt5, fun d hd e r hr p hp' => ?_⟩
            rw [tk] at hd
            rcases List.mem_append.mp hd with z | z
            · exact pr5 d z e r hr p hp'
            · simp at z; subst z; exact rw5 r hr e p hp'
        · rintro σ H4 ⟨v5, v6, v7, v8, v9, fs2, ws2, rfl, k4, ef4, ew4, lt4, pr4⟩
          rw [ul, List.take_length] at pr4
          have w4 := lt4.wln
          have wl2 : (ws' ++ [here]).length = ws'.length + 1 := by rw [List.length_append]; rfl
          have len0 := led.len
          refine ⟨_, ?_, _, _, _, _, _, _, fs2, ws2, rfl, k4, ef4, ew4, ?_, rfl⟩
          · omega
          · refine lt4.turn ?_ (fun p l => ?_)
            · omega
            · obtain ⟨d, hd, e, r, hr, hp'⟩ := l
              exact pr4 d hd e r hr p hp'
end

end Md

namespace Md
open PySem PySem.Spec PyProof.Rows L2

section
variable {P : Program} {w : World} {K : PySem.W.Frag} {mg : Str → Option Value} {base : Heap} {aW : Addr}
def spLawEnds (K : PySem.W.Frag) : Sp := fun vs H Q _ => ∃ (v : V) (ks : Kds) (x : Str), vs = [v, .str x] ∧ KdsT K H v ks ∧ GoodK ks ∧ (x = "mark" ∨ x ∈ kindNames ks) ∧
  ∀ (H' : Hp) (b : Bool), Kp [] H H' → (b = true ↔ EndsP ks x) → Q (.bl b) H'
set_option maxHeartbeats 1000000 in
theorem c_law_ends (c_law_led : C8.Cal P w K mg base 1 "_law_led" (spLawLed K) []) (F : At_law_ends K mg) : C8.Cal P w K mg base 2 "_law_ends" (spLawEnds K) [] := by
  refine F.cal sc_law_ends (fun vs H Q E h => ?_) (fun f cdv A outer s H vs Q E hr h => ?_)
  · obtain ⟨v, ks, x, rfl, _⟩ := h
    rfl
  · obtain ⟨v, ks, x, rfl, hk, g, hx, k⟩ := h
    have nd := sc_law_ends.nd
    have hu64 := h64 hr
    refine ⟨_, (pss_cons (ps_set (i := 2) nd rfl (by first | exact Or.inl rfl | exact Or.inr rfl) (pe_op op_cat (C8.pe_c c_law_led hr (by decide) rfl (pa_cons (pv 0) (pa_cons (pv 1) pa_nil))) (pe_lst (pa_cons (pv 1) pa_nil))))
      (pss_cons (ps_if (pt_cmpR op_in_seq pe_str (pv 2) (by rfl)) (pss_one (ps_ret pe_bl)) pss_nil)
      (pss_one (ps_ret (pe_cmpR (op_eqD hu64) (pe_lc (own := [("part", 3)]) (g := (gName 3)) (tt := tTest (tOp (rIn K false) (tVar 3) (tCall (spLawLed K) [] E0 (tCons (tVar 0) (tCons (tVar 3) tNil))))) rfl nd (pi_list (pv 2)) (blkOk_by (N := nn_law_ends) (sc := defScope st_law_ends) (own := [("part", 3)]) (by decide +kernel)) (fun _ _ _ _ _ => (pg_name (i := 3) nd rfl (by first | exact Or.inl rfl | exact Or.inr rfl))) (fun _ _ _ _ _ => (pts_one (pt_cmpR op_in_seq (pv 3) (C8.pe_c c_law_led hr (by decide) rfl (pa_cons (pv 0) (pa_cons (pv 3) pa_nil))) (by rfl)))) (fun _ _ _ _ _ => (pv 3))) (pe_lst pa_nil) (nomark _)))))), ?_⟩
    refine ⟨_, rfl, _, rfl, v, ks, x, rfl, hk, g, hx, fun H1 p fs k1 fp e1 fl iff => ⟨_, rfl, (by show 1 ≤ sizeLine; decide), fun B hB => ?_⟩⟩
    have k2 : Kp [] H1 (upd H1 B (.lst [.str x])) := Kp.new hB
    refine ⟨p, B, _, _, rfl, rfl, k2.old _ _ e1 (by simp), upd_same, ?_, fun l hl => ?_⟩
    · rw [List.length_map]
      exact Nat.le_of_lt (small1000 (by simp; omega))
    have eM : fs.map V.str ++ [V.str x] = ((fs ++ [x]).map V.str) := by rw [List.map_append]; rfl
    rw [eM]
    have k3 : Kp [] H (upd (upd H1 B (.lst [.str x])) l (.lst ((fs ++ [x]).map V.str))) := (k1.trans k2).new' hl
    have e3 : upd (upd H1 B (.lst [.str x])) l (.lst ((fs ++ [x]).map V.str)) l = some (.lst ((fs ++ [x]).map V.str)) := upd_same
    generalize upd (upd H1 B (.lst [.str x])) l (.lst ((fs ++ [x]).map V.str)) = H3 at k3 e3
    have mem : ∀ y, y ∈ fs ++ [x] ↔ (Rch ks x y ∨ y = x) := fun y => by rw [List.mem_append, iff y]; simp
    have len : (fs ++ [x]).length ≤ 19 := by rw [List.length_append]; simp; omega
    generalize fs ++ [x] = led at e3 mem len
    refine ⟨_, rfl, l, _, rfl, .inl (SqL.of e3), rfl, flats _, _, rfl, ?_⟩
    have iv : (if false = true then !inV (.str "mark") (led.map V.str) else inV (.str "mark") (led.map V.str)) = led.contains "mark" := by rw [inV_strs]; rfl
    rw [iv]
    by_cases cm : ("mark" : Str) ∈ led
    · refine iteB (by simpa using cm) ?_
      refine k H3 false k3 ⟨(fun z => by cases z), fun z => absurd ?_ z.1⟩
      rcases (mem _).mp cm with y | y
      · exact .inr y
      · exact .inl y.symm
    · refine iteBn (by simpa using cm) ?_
      refine ⟨_, rfl, l, rfl, ⟨_, SqL.of e3⟩, fun D hD => ?_⟩
      classical
      refine lcW (S := []) walk_list (fun i => (led[i]?).bind fun y => if Rch ks y y then some (V.str y) else none) hD (by simp) (small1000 (by rw [List.length_map]; omega)) (fun H' kk => SqL.of (kk.old _ _ e3 (by simp))) ?_ ?_
      · rintro i z H4 H5 C N hi k4 ⟨rfl, hz⟩ hC hN
        rw [List.getElem?_map] at hz
        obtain ⟨y, hy, rfl⟩ := Option.map_eq_some_iff.mp hz
        have ym := (mem y).mp (List.mem_of_getElem? hy)
        have yk : y = "mark" ∨ y ∈ kindNames ks := by
          rcases ym with q | q
          · exact q.known g
          · subst q; exact hx
        refine ⟨rfl, _, rfl, _, rfl, _, rfl, v, ks, y, rfl, (hk.kp k3).kp k4, g, yk, fun H6 q gs k6 fq e6 gl iff' => ?_⟩
        refine ⟨q, _, rfl, .inl (SqL.of e6), rfl, flats _, _, rfl, ?_⟩
        have iv : (if false = true then !inV (.str y) (gs.map V.str) else inV (.str y) (gs.map V.str)) = gs.contains y := by rw [inV_strs]; rfl
        rw [iv]
        by_cases c : Rch ks y y
        · exact iteB (by simpa using (iff' y).mpr c) ⟨_, rfl, hC _ _ k6 (by rw [hy]; exact if_pos c)⟩
        · exact iteBn (by simpa using fun z => c ((iff' y).mp z)) (hN _ k6 (by rw [hy]; exact if_neg c))
      · intro H4 k4 e4
        rw [List.length_map, range_bind] at e4
        have eF : (led.filterMap fun y => if Rch ks y y then some (V.str y) else none) = (led.filter fun y => decide (Rch ks y y)).map V.str := by
          rw [← List.filterMap_eq_map, List.filterMap_filter]
          congr 1
          funext y
          by_cases c : Rch ks y y
          · simp [c]
          · simp [c]
        rw [eF] at e4
        refine ⟨(by show 0 ≤ sizeLine; decide), fun D3 hD3 => ?_⟩
        have k6 : Kp [] H4 (upd H4 D3 (.lst [])) := Kp.new hD3
        refine ⟨_, .list [], dp_lst (k6.old _ _ e4 (by simp)), .lst (SqL.of upd_same) .nil, shp_lst (fun y hy => ?_), by decide, ?_⟩
        · have ym := (mem y).mp (List.mem_filter.mp hy).1
          rcases ym with q | q
          · exact g.lowN (q.known g)
          · subst q; exact g.lowN hx
        · rw [eqv_nil]
          refine k _ _ ((k3.trans k4).trans k6) ?_
          rw [List.isEmpty_iff, List.map_eq_nil_iff, List.filter_eq_nil_iff]
          constructor
          · intro z
            refine ⟨fun q => ?_, fun y hy hr => ?_⟩
            · exact cm ((mem _).mpr (q.elim (fun q => .inr q.symm) .inl))
            · exact z y ((mem y).mpr hy) (decide_eq_true hr)
          · rintro ⟨z1, z2⟩ y hy c
            exact z2 y ((mem y).mp hy) (of_decide_eq_true c)
def spLawRight (K : PySem.W.Frag) : Sp := fun vs H Q _ => ∃ (v : V) (ks : Kds) (x : Str), vs = [v, .str x] ∧ KdsT K H v ks ∧ GoodK ks ∧ (x = "mark" ∨ x ∈ kindNames ks) ∧ ∀ H', Kp [] H H' → Q (.bl true) H'
theorem log_small {n : Nat} (h : n ≤ 1024) : (n : Int).natAbs.log2 < 1920 := by
  rw [Int.natAbs_natCast]
  have : n.log2 ≤ n := Nat.log2_le_self n
  omega
set_option maxHeartbeats 1000000 in
theorem c_law_right (T : Txt K mg aW) (c_least_size : C8.Cal P w K mg base 7 "least_size" (spLeastSize K) []) (c_is_finite : C8.Cal P w K mg base 7 "is_finite" (spIsFinite K) []) (c_law_sizes : C8.Cal P w K mg base 1 "_law_sizes" (spLawSizes K) [])
    (c_law_ends : C8.Cal P w K mg base 2 "_law_ends" (spLawEnds K) []) (F : At_law_right K mg) : C8.Cal P w K mg base 8 "_law_right" (spLawRight K) [] := by
  refine F.cal sc_law_right (fun vs H Q E h => ?_) (fun f cdv A outer s H vs Q E hr h => ?_)
  · obtain ⟨v, ks, x, rfl, _⟩ := h
    rfl
  · obtain ⟨v, ks, x, rfl, hk, g, hx, k⟩ := h
    have nd := sc_law_right.nd
    have hu := hu_of hr
    refine ⟨_, (pss_cons (ps_for PassesOwn.never rfl (pi_range1 (by rfl) T.z_range (pa_cons pe_int pa_nil)) (pg_name (i := 2) nd rfl (by first | exact Or.inl rfl | exact Or.inr rfl))
        (pss_cons (ps_if (pt_cmpR op_ne (pe_callB SkE.call_repr_int (by rfl) T.z_repr (by decide +kernel) (pa_cons (C8.pe_c c_least_size hr (by decide) rfl (pa_cons (pv 0) (pa_cons (pv 1) pa_nil))) pa_nil)) (pe_callB SkE.call_repr_int (by rfl) T.z_repr (by decide +kernel) (pa_cons (pe_dget hu (C8.pe_c c_law_sizes hr (by decide) rfl (pa_cons (pv 0) pa_nil)) (pv 1) (fun _ _ => rfl)) pa_nil)) (nomark _)) (pss_one (ps_ret pe_bl)) pss_nil)
        (pss_cons (ps_set (i := 3) nd rfl (by first | exact Or.inl rfl | exact Or.inr rfl) (C8.pe_c c_is_finite hr (by decide) rfl (pa_cons (pv 0) (pa_cons (pv 1) pa_nil))))
        (pss_one (ps_if (PW.pt (pw_or (pt_not (pt_val (pe_callB call_isi (by rfl) T.z_isinstance (by decide +kernel) (pa_cons (pv 3) (pa_cons (pe_bltn (v := .ty "bool") (by rfl) T.z_bool (by decide +kernel) rfl) pa_nil))))) (pw_or1 (pt_cmpR op_ne (pv 3) (C8.pe_c c_law_ends hr (by decide) rfl (pa_cons (pv 0) (pa_cons (pv 1) pa_nil))) (nomark _))))) (pss_one (ps_ret pe_bl)) pss_nil)))))
      (pss_one (ps_ret pe_bl))), ?_⟩
    refine ⟨_, rfl, by decide, by decide, ?_⟩
    refine for_range (lo := 0) (n := 2) (fun i σ H' => ∃ v2 v3, σ = [some v, some (.str x), v2, v3] ∧ Kp [] H H') ?_ ?_ ?_
    · exact ⟨_, _, rfl, Kp.refl⟩
    · rintro i σ H1 hi ⟨v2, v3, rfl, k1⟩
      have sm := leastT_small g hx
      refine ⟨_, rfl, _, rfl, v, ks, x, rfl, hk.kp k1, g, hx, fun H2 k2 => ⟨_, rfl, log_small sm, ?_⟩⟩
      refine ⟨_, rfl, v, ks, rfl, (hk.kp k1).kp k2, g, fun H3 p k3 hp e3 => ⟨_, rfl, p, _, rfl, ?_, _, rfl, log_small sm, ?_⟩⟩
      · have gg := DGet.k (k := (Sum.inr x : Key)) e3
        rw [dictS_val, sizes_are g (by omega) hx] at gg
        exact gg
      refine ⟨rfl, _, rfl, iteBn (by simp) ?_⟩
      have hk3 := ((hk.kp k1).kp k2).kp k3
      refine ⟨_, rfl, _, rfl, v, ks, x, rfl, hk3, g, hx, fun H4 k4 => ?_⟩
      refine ⟨_, rfl, _, _, _, _, true, rfl, .ty "bool", .base (.bl _), kit_ty (by decide +kernel), _, rfl, ?_⟩
      refine iteBn rfl ?_
      refine ⟨_, rfl, _, rfl, _, rfl, v, ks, x, rfl, hk3.kp k4, g, hx, fun H5 b k5 ib => ?_⟩
      have eb : (finN ks ks.length).contains x = b := by
        have h1 := fin_iff g hx
        cases c : (finN ks ks.length).contains x with
        | true => exact (ib.mpr (h1.mp (by simpa using c))).symm
        | false =>
          cases b with
          | false => rfl
          | true => exact absurd (h1.mpr (ib.mp rfl)) (by simpa using c)
      rw [eb]
      refine ⟨rfl, _, rfl, iteBn (by simp) ?_⟩
      exact ⟨_, _, rfl, ((((k1.trans k2).trans k3).trans k4).trans k5)⟩
    · rintro σ H1 ⟨v2, v3, rfl, k1⟩
      exact k H1 k1
end

end Md

namespace Md
open PySem PySem.Spec PyProof.Rows L2

/-! ### kinds written out -/
def goodB (ks : Kds) (rank : List (Str × Nat)) : Bool :=
  decide (1 ≤ ks.length) && decide (ks.length ≤ 5) && ks.all (fun k => isName k.1 && decide (1 ≤ k.2.length) && decide (k.2.length ≤ 4) && k.2.all fun r => isName r.1 && decide (r.2.length ≤ 3) && r.2.all fun p => p == "mark" || (kindNames ks).contains p) &&
  decide (allNames ks).Nodup && ks.all fun k => decide ((rank.lookup k.1).getD 0 < ks.length) && k.2.any fun r => r.2.all fun p => p == "mark" || ((kindNames ks).contains p && decide ((rank.lookup p).getD 0 < (rank.lookup k.1).getD 0))
theorem good_of {ks : Kds} (rank : List (Str × Nat)) (h : goodB ks rank = true) : GoodK ks := by
  unfold goodB at h
  simp only [Bool.and_eq_true, List.all_eq_true, decide_eq_true_eq, Bool.or_eq_true, beq_iff_eq, List.contains_iff_mem, List.any_eq_true] at h
  obtain ⟨⟨⟨⟨h1, h2⟩, h3⟩, h4⟩, h5⟩ := h
  exact ⟨h1, h2, fun k hk => (h3 k hk).1.1.1, fun k hk => (h3 k hk).1.1.2, fun k hk => (h3 k hk).1.2, fun k hk r hr => ((h3 k hk).2 r hr).1.1, fun k hk r hr => ((h3 k hk).2 r hr).1.2, fun k hk r hr p hp => ((h3 k hk).2 r hr).2 p hp, h4,
    fun x => (rank.lookup x).getD 0, fun k hk => ⟨(h5 k hk).1, let ⟨r, hr, hp⟩ := (h5 k hk).2; ⟨r, hr, hp⟩⟩⟩
def someL : List Str := ["ka", "kb", "kc", "kd", "ke"]
def wRows : Kds := [("ka", [("mka", ["kb", "kb", "kb"])]), ("kb", [("mkb", ["kc", "kc", "kc"])]), ("kc", [("mkc", ["kd", "kd", "kd"])]), ("kd", [("mkd", ["ke", "ke", "ke"])]), ("ke", [("mke", [])])]
def wRound : Kds := [("ka", [("ma", ["kb"])]), ("kb", [("mb", ["ka", "ka"]), ("mc", ["kc", "kc"])]), ("kc", [("md", [])])]
def wAlone : Kds := [("ka", [("ma", ["kb", "kb"])]), ("kb", [("mb", [])]), ("kc", [("mc", ["kc"]), ("md", ["ka"])]), ("kd", [("me", ["kc"])])]
def wMarks : Kds := [("ka", [("ma", ["mark", "mark"]), ("mb", ["kb", "kb", "kb"])]), ("kb", [("mc", []), ("md", [])])]
def wMarked : Kds := wRows.take 4 ++ ([("ke", [("mke", ["mark"])])] : Kds)
def wRinged : Kds := wRows.take 4 ++ ([("ke", [("mke", ["ke"]), ("nke", [])])] : Kds)
def wAround : Kds := [("ka", [("mka", ["kb"]), ("nka", [])]), ("kb", [("mkb", ["kc"]), ("nkb", [])]), ("kc", [("mkc", ["kd"]), ("nkc", [])]), ("kd", [("mkd", ["ke"]), ("nkd", [])]), ("ke", [("mke", ["ka"]), ("nke", [])])]
def writtenL : List Kds := [wRows, wRows.reverse, wRound, wAlone, wMarks, wMarked, wRinged, wRinged.reverse, wAround]
def rnk : List (Str × Nat) := [("ka", 4), ("kb", 3), ("kc", 2), ("kd", 1), ("ke", 0)]
theorem writtenL_good : ∀ ks ∈ writtenL, GoodK ks := by
  intro ks h
  simp only [writtenL, List.mem_cons, List.not_mem_nil, or_false] at h
  rcases h with rfl | rfl | rfl | rfl | rfl | rfl | rfl | rfl | rfl
  · exact good_of rnk (by decide +kernel)
  · exact good_of rnk (by decide +kernel)
  · exact good_of [("ka", 2), ("kb", 1), ("kc", 0)] (by decide +kernel)
  · exact good_of [("ka", 1), ("kb", 0), ("kc", 2), ("kd", 3)] (by decide +kernel)
  · exact good_of [("ka", 0), ("kb", 0)] (by decide +kernel)
  · exact good_of rnk (by decide +kernel)
  · exact good_of rnk (by decide +kernel)
  · exact good_of rnk (by decide +kernel)
  · exact good_of [] (by decide +kernel)

end Md

namespace Md
open PySem PySem.Spec PyProof.Rows L2

/-! ### t[::-1], t a tuple -/
section
open HT
variable {prog : Program} {w : World} {A : Around} {E : Value → Shared → Prop} {s : Shared}
theorem adjust_rev (n : Nat) : Builtin.Slice.sliceAdjust none none (-1) (n : Int) = ((n : Int) - 1, -1) := by
  unfold Builtin.Slice.sliceAdjust
  rfl
theorem places_rev (n : Nat) : Builtin.Slice.slicePlaces ((n : Int) - 1) (-1) (-1) = n := by
  unfold Builtin.Slice.slicePlaces
  have h1 : ¬ ((-1 : Int) > 0) := by omega
  simp only [h1, if_false]
  split <;> simp <;> omega
theorem sliceApplied_rev {sl : Addr} {vs : Value} {n : Nat} {Q : Int × Int × Nat → Shared → Prop} (hs : s.heap.IsSliceOf sl .none .none vs) (ps : IsPart vs (some (-1)))
    (h : Q ((n : Int) - 1, -1, n) s) : wpAny (model prog w) A (Builtin.Slice.sliceApplied (.ref sl) (pure (n : Int))) Q E s := by
  obtain ⟨os, hos, hcs, hds⟩ := id hs
  unfold Builtin.Slice.sliceApplied Builtin.Slice.sliceFields
  refine wpAny_bind (wpAny_bind (wpAny_field hos hds (x := .none) rfl (wpAny_bind (wpAny_field hos hds (x := .none) rfl (wpAny_bind (wpAny_field hos hds (x := vs) rfl (wpAny_pure ?_)))))))
  refine wpAny_bind (slicePart_ ps ?_)
  show wpAny _ _ (if ((-1 : Int) == 0) = true then _ else _) _ _ s
  rw [if_neg (by decide)]
  refine wpAny_bind (slicePart_none (wpAny_bind (slicePart_none (wpAny_bind (wpAny_pure ?_)))))
  show wpAny _ _ (match Builtin.Slice.sliceAdjust none none (-1) (n : Int) with | (lo, hi) => pure (lo, (-1 : Int), Builtin.Slice.slicePlaces lo hi (-1))) _ _ s
  rw [adjust_rev n]
  show wpAny _ _ (pure ((n : Int) - 1, (-1 : Int), Builtin.Slice.slicePlaces ((n : Int) - 1) (-1) (-1))) _ _ s
  rw [places_rev]
  exact wpAny_pure h
theorem fm_congr {α β : Type} {f g : α → Option β} : ∀ {l : List α}, (∀ x ∈ l, f x = g x) → l.filterMap f = l.filterMap g
  | [], _ => rfl
  | a :: r, h => by
    rw [List.filterMap_cons, List.filterMap_cons, h a List.mem_cons_self, fm_congr fun x hx => h x (List.mem_cons_of_mem _ hx)]
theorem pick_rev (xs : Array Value) : ((List.range xs.size).filterMap fun (m : Nat) => xs[(((xs.size : Int) - 1) + (m : Int) * (-1)).toNat]?).toArray = xs.toList.reverse.toArray := by
  congr 1
  have e : (List.range xs.size).filterMap (fun (m : Nat) => xs[(((xs.size : Int) - 1) + (m : Int) * (-1)).toNat]?) = ((List.range xs.size).map (fun k => xs.size - 1 - k)).filterMap (xs[·]?) := by
    rw [List.filterMap_map]
    refine fm_congr fun m hm => ?_
    have := List.mem_range.mp hm
    have z : (((xs.size : Int) - 1) + (m : Int) * (-1)).toNat = xs.size - 1 - m := by omega
    rw [z]
    rfl
  rw [e, PySem.W.krv_range, List.filterMap_reverse, PySem.W.krv_all]
theorem getItem_tuple_rev {t sl : Addr} {items : Array Value} {vs : Value} {Q : Value → Shared → Prop} (ht : IsTup s.heap t items) (hs : s.heap.IsSliceOf sl .none .none vs) (ps : IsPart vs (some (-1)))
    (h : Q (.ref s.heap.objs.size) { s with heap := s.heap.push { cls := .type "tuple", data := .seq items.toList.reverse.toArray } })
    (hsz : items.size ≤ sizeLine) : wpAny (model prog w) A (getItem (.ref t) (.ref sl)) Q E s := by
  have htake : sizeOk (.seq items.toList.reverse.toArray) := by
    show items.toList.reverse.toArray.size ≤ sizeLine
    rw [List.size_toArray, List.length_reverse, Array.length_toList]
    exact hsz
  obtain ⟨os, hos, hcs, hds⟩ := id hs
  have hTs : s.TypeIs (.ref sl) "slice" := ⟨os, hos, hcs⟩
  unfold getItem
  try with_reducible refine wpAny_holding ?_
  first | refine wpAny_bind (wpAny_pure ?_) | skip
  refine wpAny_bind (wpAny_sequenceKey ht.typeIs (by decide) ?_)
  refine wpAny_bind (wpAny_callSpecial?_slot (name := Str.ofString "__getitem__") ht.typeIs PyProof.Rows.slot_tuple_getitem
    (wpAny_call_entry PyProof.Rows.slot_tuple_getitem ht.typeIs entry_tuple_getitem ?_ (args_tuple_getitem _ _)))
  show wpAny _ _ (Builtin.Tuple.tupleItemsOf (.ref t) >>= _) _ _ s
  refine wpAny_bind (tupleItemsOf_ ht ?_)
  refine wpAny_bind (wpAny_typeOf hTs ?_)
  rw [if_pos (by decide)]
  refine wpAny_bind (sliceApplied_rev hs ps ?_)
  have hno : ¬ ((((items.size : Int) - 1) == 0 && (-1 : Int) == 1 && items.size == items.size) = true) := by
    intro q
    rw [Bool.and_eq_true, Bool.and_eq_true] at q
    exact absurd q.1.2 (by decide)
  show wpAny _ _ (if (((items.size : Int) - 1) == 0 && (-1 : Int) == 1 && items.size == items.size) = true then _ else _) _ _ s
  rw [if_neg hno, pick_rev]
  first
    | exact wpAny_bind (m := Builtin.Tuple.tupleExact _) (wpAny_newObj_type (wpAny_pure ⟨_, rfl, wpAny_pure h⟩) htake)
    | exact wpAny_bind (m := Builtin.Tuple.tupleExact _) (wpAny_newObj_type (wpAny_bind (wpAny_pure (wpAny_pure ⟨_, rfl, wpAny_pure h⟩))) htake)
    | exact wpAny_bind (wpAny_bind (m := Builtin.Tuple.tupleExact _) (wpAny_newObj_type (wpAny_pure (wpAny_pure ⟨_, rfl, wpAny_pure h⟩)) htake))
    | exact wpAny_bind (wpAny_bind (m := Builtin.Tuple.tupleExact _) (wpAny_newObj_type (wpAny_pure ⟨_, rfl, wpAny_pure h⟩) htake))
end
section
variable {X : Cx}
def tRevT (K : PySem.W.Frag) (te : TE) : TE := fun σ H Q => te σ H fun x H1 => ∃ a xs, x = .ref a ∧ SqT K H1 a xs ∧ ∀ p, H1 p = none → Q (.ref p) (upd H1 p (.tup xs.reverse))
theorem pe_revT {e : Expr} {te : TE} {k : Nat} {p1 p2 p3 pos : Pos} (he : PE X e te) : PE X (.Subscript e (.Slice none none (some (.UnaryOp .USub (.Constant (.int 1) k p1) p2)) p3) pos) (tRevT X.K te) := by
  refine ⟨fun pins s σ H Q I h => ?_⟩
  refine Subscript_ (thn (he.run pins s σ H _ I h) fun v s1 ⟨x, H1, I1, r1, q1⟩ => ?_)
  obtain ⟨a, xs, ex, hx, q⟩ := q1
  subst ex
  cases r1
  have hst : PO X (some (.UnaryOp .USub (.Constant (.int 1) k p1) p2)) (tPart (tUn (rU fun i => .int (-i)) (tC (.int 1)))) := po_some (pe_un un_neg pe_int)
  refine wpAny_Slice (thn (po_none.run pins s1 σ H1 (fun o H2 => o = none ∧ H2 = H1) I1 ⟨rfl, rfl⟩) fun vl s2 ⟨l, H2, I2, pl, el, e2⟩ => ?_)
  subst el e2
  refine thn (po_none.run pins s2 σ H2 (fun o H3 => o = none ∧ H3 = H2) I2 ⟨rfl, rfl⟩) fun vu s3 ⟨u, H3, I3, pu, eu, e3⟩ => ?_
  subst eu e3
  refine thn (hst.run pins s3 σ H3 (fun o H4 => o = some (-1) ∧ H4 = H3) I3 ⟨1, rfl, -1, rfl, rfl, rfl⟩) fun vs s4 ⟨o, H4, I4, ps, eo, e4⟩ => ?_
  subst eo e4
  have I5 : Inv X pins σ H4 { s4 with heap := s4.heap.push { cls := .type "slice", data := .fields #[vl, vu, vs] } } := I4.kept (t' := s4.toks) fun b ob q => Heap.get?_push_of_some _ q
  obtain ⟨its, r, ht, hz⟩ := I5.tuple hx
  have hlen := r.length
  cases pl
  cases pu
  show wpAny (model X.prog X.w) X.A (subscriptTail e (.Slice none none (some (.UnaryOp .USub (.Constant (.int 1) k p1) p2)) p3) (.ref a) (.ref s4.heap.objs.size)) (EP X pins σ Q) X.xe { s4 with heap := s4.heap.push { cls := .type "slice", data := .fields #[.none, .none, vs] } }
  refine tail_any (ops := [.ref a, .ref s4.heap.objs.size]) ht.typeIs (PyProof.Rows.slot_tuple_getitem.lookup) ?_ (by with_unfolding_all rfl)
  refine getItem_tuple_rev ht (Heap.IsSliceOf.new _ .none .none vs) ps ?_ (by rw [List.size_toArray]; omega)
  refine ⟨.ref _, _, I5.laid (t' := s4.toks) (o := .tup xs.reverse) (fun b ob q => Heap.get?_push_of_some _ q) (Nat.le_refl _) ?_, rfl, q _ (I5.hok.fresh (Nat.le_refl _))⟩
  exact ⟨by rw [List.length_reverse]; exact hz, _, r.reverse, IsTup.new _ _⟩
end

end Md

namespace Md
open PySem PySem.Spec PyProof.Rows L2

theorem pe_c0 {X : Cx} {k j : Nat} {x : Str} {sp : Sp} {p pos : Pos} (c : C8.Cal X.prog X.w X.K X.mg X.base k x sp []) (hr : Room j X.A) (hk : k ≤ j) (hg : Gl X x) (hdb : (x == ("__debug__" : Str)) = false := by decide) :
    PE X (.Call (.Name x p) [] [] pos) (tCall sp [] C8.E0 tNil) := by
  obtain ⟨f, fd, ps, ds, F, hm, kp, b, d⟩ := c.ex
  exact pe_call0 F (hr.mono hk) hg hm kp b d C8.pass0 hdb
theorem ev_kdsT {K : PySem.W.Frag} {σ : L2.St} {ta : TA} {ks : Kds} (h : EvL (fun H v d => KindT K H v d) ta σ ks) (l : ks.length ≤ 900) : Ev (tTup ta) σ fun v H => KdsT K H v ks := by
  intro H Q k
  refine h H _ fun vs H1 k1 r => ⟨?_, fun p hp => ?_⟩
  · have := plen r
    exact Nat.le_of_lt (small1000 (by omega))
  · exact k _ _ (k1.new' hp) ⟨p, vs, rfl, .inl (.inl upd_same), pmap (fun _ _ z => z.kp (Kp.new (S := []) hp)) r⟩
theorem rows_at (i : Nat) (hi : i < 5) : ∃ (nm : Str) (ps : List Str), atI (someL.map V.str) (0 + (i : Int)) = some (.str nm) ∧ (List.replicate 3 (cutV (someL.map V.str) (some (0 + (i : Int) + 1)) (some (0 + (i : Int) + 2)))).flatten = ps.map V.str ∧
    wRows[i]? = some (nm, [("m" ++ nm, ps)]) ∧ nm.length ≤ 2 ∧ ps.length ≤ 3 := by
  match i, hi with
  | 0, _ => exact ⟨"ka", ["kb", "kb", "kb"], rfl, rfl, by decide +kernel, by decide +kernel, by decide⟩
  | 1, _ => exact ⟨"kb", ["kc", "kc", "kc"], rfl, rfl, by decide +kernel, by decide +kernel, by decide⟩
  | 2, _ => exact ⟨"kc", ["kd", "kd", "kd"], rfl, rfl, by decide +kernel, by decide +kernel, by decide⟩
  | 3, _ => exact ⟨"kd", ["ke", "ke", "ke"], rfl, rfl, by decide +kernel, by decide +kernel, by decide⟩
  | 4, _ => exact ⟨"ke", [], rfl, rfl, by decide +kernel, by decide +kernel, by decide⟩
theorem pair_of {α β : Type} {F : α → β → Prop} : ∀ {l₁ : List α} {l₂ : List β}, l₁.length = l₂.length → (∀ (i : Nat) (a : α), l₁[i]? = some a → ∃ b, l₂[i]? = some b ∧ F a b) → Paired F l₁ l₂
  | [], [], _, _ => .nil
  | [], _ :: _, h, _ => by simp at h
  | _ :: _, [], h, _ => by simp at h
  | a :: r, b :: s, h, f => by
    obtain ⟨b', e, q⟩ := f 0 a rfl
    simp at e
    subst e
    exact .cons q (pair_of (by simpa using h) fun i x hx => by
      obtain ⟨b2, e2, q2⟩ := f (i + 1) x (by simpa using hx)
      exact ⟨b2, by simpa using e2, q2⟩)
theorem around_at (i : Nat) (hi : i < 5) : ∃ (nm pn : Str), atI (someL.map V.str) (0 + (i : Int)) = some (.str nm) ∧ atI (someL.map V.str) (0 + (i : Int) + 1 - 5 * (if decide (V.int (0 + (i : Int)) = V.int 4) = true then 1 else 0)) = some (.str pn) ∧
    wAround[i]? = some (nm, [("m" ++ nm, [pn]), ("n" ++ nm, [])]) ∧ nm.length ≤ 2 := by
  match i, hi with
  | 0, _ => exact ⟨"ka", "kb", rfl, rfl, by decide +kernel, by decide +kernel⟩
  | 1, _ => exact ⟨"kb", "kc", rfl, rfl, by decide +kernel, by decide +kernel⟩
  | 2, _ => exact ⟨"kc", "kd", rfl, rfl, by decide +kernel, by decide +kernel⟩
  | 3, _ => exact ⟨"kd", "ke", rfl, rfl, by decide +kernel, by decide +kernel⟩
  | 4, _ => exact ⟨"ke", "ka", rfl, rfl, by decide +kernel, by decide +kernel⟩
theorem pair_rev {α β : Type} {F : α → β → Prop} {l₁ : List α} {l₂ : List β} (h : Paired F l₁ l₂) : Paired F l₁.reverse l₂.reverse := by
  induction h with
  | nil => exact .nil
  | cons r _ ih => rw [List.reverse_cons, List.reverse_cons]; exact pair_app ih (.cons r .nil)
theorem ev_lstKd {K : PySem.W.Frag} {σ : L2.St} {ta : TA} {ks : Kds} (h : EvL (fun H v d => KindT K H v d) ta σ ks) (l : ks.length ≤ 900) : Ev (tLst ta) σ fun v H => ∃ a vs, v = V.ref a ∧ H a = some (.lst vs) ∧ Paired (KindT K H) vs ks := by
  intro H Q k
  refine h H _ fun vs H1 k1 r => ⟨?_, fun p hp => ?_⟩
  · have := plen r
    exact Nat.le_of_lt (small1000 (by omega))
  · exact k _ _ (k1.new' hp) ⟨p, vs, rfl, upd_same, pmap (fun _ _ z => z.kp (Kp.new (S := []) hp)) r⟩
section
variable {P : Program} {w : World} {K : PySem.W.Frag} {mg : Str → Option Value} {base : Heap} {aW : Addr}
def spWritten (K : PySem.W.Frag) : Sp := fun vs H Q _ => vs = [] ∧ ∀ (H' : Hp) (p : Addr) (us : List V), Kp [] H H' → H p = none → H' p = some (.lst us) → Paired (KdsT K H') us writtenL → Q (.ref p) H'
set_option maxHeartbeats 4000000 in
theorem c_law_written (T : Txt K mg aW) (F : At_law_written K mg) : C8.Cal P w K mg base 1 "_law_written" (spWritten K) [] := by
  refine F.cal sc_law_written (fun vs H Q E h => ?_) (fun f cdv A outer s H vs Q E hr h => ?_)
  · obtain ⟨rfl, _⟩ := h
    rfl
  · obtain ⟨rfl, k⟩ := h
    have nd := sc_law_written.nd
    refine ⟨_, (pss_cons (ps_set (i := 0) nd rfl (by first | exact Or.inl rfl | exact Or.inr rfl) (pe_lst (pa_cons pe_str (pa_cons pe_str (pa_cons pe_str (pa_cons pe_str (pa_cons pe_str pa_nil)))))))
      (pss_cons (ps_setLc (i := 1) (own := [("k", 8)]) (te := tTup (tCons (tOp (rIxL K) (tVar 0) (tVar 8)) (tCons (tTup (tCons (tTup (tCons (tOp (fun x y H Q => ∃ i j, x = .str i ∧ y = .str j ∧ i.length + j.length ≤ sizeLine ∧ Q (.str (i ++ j)) H) (tC (.str "m")) (tOp (rIxL K) (tVar 0) (tVar 8))) (tCons (tCB (fun xs H Q => ∃ p ys, xs = [.ref p] ∧ ((SqL K H p ys ∧ ∀ l, H l = none → Q (.ref l) (upd H l (.tup ys))) ∨ (SqT K H p ys ∧ Q (.ref p) H))) (tCons (tOp rRep (tSl (rSlL K) (tVar 0) (tPart (tOp (rI0 fun i j => .int (i + j)) (tVar 8) (tC (.int 1)))) (tPart (tOp (rI0 fun i j => .int (i + j)) (tVar 8) (tC (.int 2))))) (tC (.int 3))) tNil)) tNil))) tNil)) tNil))) (g := (gName 8)) (tt := tYes) rfl nd rfl rfl (sw_true rfl rfl rfl (by decide +kernel)) (pi_range1 (by rfl) T.z_range (pa_cons pe_int pa_nil)) (blkOk_by (N := nn_law_written) (sc := defScope st_law_written) (own := [("k", 8)]) (by decide +kernel)) (fun _ _ _ _ _ => (pg_name (i := 8) nd rfl (by first | exact Or.inl rfl | exact Or.inr rfl))) (fun _ _ _ _ _ => pts_nil) (fun _ _ _ _ _ => (pe_tup (pa_cons (pe_ix ix_list (pv 0) (pv 8) (fun _ _ => rfl)) (pa_cons (pe_tup (pa_cons (pe_tup (pa_cons (pe_op op_add_str pe_str (pe_ix ix_list (pv 0) (pv 8) (fun _ _ => rfl))) (pa_cons (pe_callTy call_tuple_of (by rfl) T.z_tuple (by decide +kernel) (pa_cons (pe_op op_rep (pe_slice sl_list (pv 0) (po_some (pe_op op_add (pv 8) pe_int)) (po_some (pe_op op_add (pv 8) pe_int))) pe_int) pa_nil)) pa_nil))) pa_nil)) pa_nil)))))
      (pss_cons (ps_set (i := 2) nd rfl (by first | exact Or.inl rfl | exact Or.inr rfl) (pe_tup (pa_cons (pe_tup (pa_cons pe_str (pa_cons (pe_tup (pa_cons (pe_tup (pa_cons pe_str (pa_cons (pe_tup (pa_cons pe_str pa_nil)) pa_nil))) pa_nil)) pa_nil))) (pa_cons (pe_tup (pa_cons pe_str (pa_cons (pe_tup (pa_cons (pe_tup (pa_cons pe_str (pa_cons (pe_tup (pa_cons pe_str (pa_cons pe_str pa_nil))) pa_nil))) (pa_cons (pe_tup (pa_cons pe_str (pa_cons (pe_tup (pa_cons pe_str (pa_cons pe_str pa_nil))) pa_nil))) pa_nil))) pa_nil))) (pa_cons (pe_tup (pa_cons pe_str (pa_cons (pe_tup (pa_cons (pe_tup (pa_cons pe_str (pa_cons (pe_tup pa_nil) pa_nil))) pa_nil)) pa_nil))) pa_nil)))))
      (pss_cons (ps_set (i := 3) nd rfl (by first | exact Or.inl rfl | exact Or.inr rfl) (pe_tup (pa_cons (pe_tup (pa_cons pe_str (pa_cons (pe_tup (pa_cons (pe_tup (pa_cons pe_str (pa_cons (pe_tup (pa_cons pe_str (pa_cons pe_str pa_nil))) pa_nil))) pa_nil)) pa_nil))) (pa_cons (pe_tup (pa_cons pe_str (pa_cons (pe_tup (pa_cons (pe_tup (pa_cons pe_str (pa_cons (pe_tup pa_nil) pa_nil))) pa_nil)) pa_nil))) (pa_cons (pe_tup (pa_cons pe_str (pa_cons (pe_tup (pa_cons (pe_tup (pa_cons pe_str (pa_cons (pe_tup (pa_cons pe_str pa_nil)) pa_nil))) (pa_cons (pe_tup (pa_cons pe_str (pa_cons (pe_tup (pa_cons pe_str pa_nil)) pa_nil))) pa_nil))) pa_nil))) (pa_cons (pe_tup (pa_cons pe_str (pa_cons (pe_tup (pa_cons (pe_tup (pa_cons pe_str (pa_cons (pe_tup (pa_cons pe_str pa_nil)) pa_nil))) pa_nil)) pa_nil))) pa_nil))))))
      (pss_cons (ps_set (i := 4) nd rfl (by first | exact Or.inl rfl | exact Or.inr rfl) (pe_tup (pa_cons (pe_tup (pa_cons pe_str (pa_cons (pe_tup (pa_cons (pe_tup (pa_cons pe_str (pa_cons (pe_tup (pa_cons pe_str (pa_cons pe_str pa_nil))) pa_nil))) (pa_cons (pe_tup (pa_cons pe_str (pa_cons (pe_tup (pa_cons pe_str (pa_cons pe_str (pa_cons pe_str pa_nil)))) pa_nil))) pa_nil))) pa_nil))) (pa_cons (pe_tup (pa_cons pe_str (pa_cons (pe_tup (pa_cons (pe_tup (pa_cons pe_str (pa_cons (pe_tup pa_nil) pa_nil))) (pa_cons (pe_tup (pa_cons pe_str (pa_cons (pe_tup pa_nil) pa_nil))) pa_nil))) pa_nil))) pa_nil))))
      (pss_cons (ps_set (i := 5) nd rfl (by first | exact Or.inl rfl | exact Or.inr rfl) (pe_callTy call_tuple_of (by rfl) T.z_tuple (by decide +kernel) (pa_cons (pe_op op_cat (pe_slice sl_list (pv 1) po_none (po_some pe_int)) (pe_lst (pa_cons (pe_tup (pa_cons pe_str (pa_cons (pe_tup (pa_cons (pe_tup (pa_cons pe_str (pa_cons (pe_tup (pa_cons pe_str pa_nil)) pa_nil))) pa_nil)) pa_nil))) pa_nil))) pa_nil)))
      (pss_cons (ps_set (i := 6) nd rfl (by first | exact Or.inl rfl | exact Or.inr rfl) (pe_callTy call_tuple_of (by rfl) T.z_tuple (by decide +kernel) (pa_cons (pe_op op_cat (pe_slice sl_list (pv 1) po_none (po_some pe_int)) (pe_lst (pa_cons (pe_tup (pa_cons pe_str (pa_cons (pe_tup (pa_cons (pe_tup (pa_cons pe_str (pa_cons (pe_tup (pa_cons pe_str pa_nil)) pa_nil))) (pa_cons (pe_tup (pa_cons pe_str (pa_cons (pe_tup pa_nil) pa_nil))) pa_nil))) pa_nil))) pa_nil))) pa_nil)))
      (pss_cons (ps_set (i := 7) nd rfl (by first | exact Or.inl rfl | exact Or.inr rfl) (pe_callTy call_tuple_of (by rfl) T.z_tuple (by decide +kernel) (pa_cons (pe_lc (own := [("k", 8)]) (te := tTup (tCons (tOp (rIxL K) (tVar 0) (tVar 8)) (tCons (tTup (tCons (tTup (tCons (tOp (fun x y H Q => ∃ i j, x = .str i ∧ y = .str j ∧ i.length + j.length ≤ sizeLine ∧ Q (.str (i ++ j)) H) (tC (.str "m")) (tOp (rIxL K) (tVar 0) (tVar 8))) (tCons (tTup (tCons (tOp (rIxL K) (tVar 0) (tOp (rI0 fun i j => .int (i - j)) (tOp (rI0 fun i j => .int (i + j)) (tVar 8) (tC (.int 1))) (tOp (rI CMul fun i j => .int (i * j)) (tC (.int 5)) (tCB (fun xs H Q => (∃ i, xs = [.int i] ∧ Q (.int i) H) ∨ ∃ k, xs = [.bl k] ∧ Q (.int (if k then 1 else 0)) H) (tCons (tOp rEq (tVar 8) (tC (.int 4))) tNil))))) tNil)) tNil))) (tCons (tTup (tCons (tOp (fun x y H Q => ∃ i j, x = .str i ∧ y = .str j ∧ i.length + j.length ≤ sizeLine ∧ Q (.str (i ++ j)) H) (tC (.str "n")) (tOp (rIxL K) (tVar 0) (tVar 8))) (tCons (tTup tNil) tNil))) tNil))) tNil))) (g := (gName 8)) (tt := tYes) rfl nd (pi_range1 (by rfl) T.z_range (pa_cons pe_int pa_nil)) (blkOk_by (N := nn_law_written) (sc := defScope st_law_written) (own := [("k", 8)]) (by decide +kernel)) (fun _ _ _ _ _ => (pg_name (i := 8) nd rfl (by first | exact Or.inl rfl | exact Or.inr rfl))) (fun _ _ _ _ _ => pts_nil) (fun _ _ _ _ _ => (pe_tup (pa_cons (pe_ix ix_list (pv 0) (pv 8) (fun _ _ => rfl)) (pa_cons (pe_tup (pa_cons (pe_tup (pa_cons (pe_op op_add_str pe_str (pe_ix ix_list (pv 0) (pv 8) (fun _ _ => rfl))) (pa_cons (pe_tup (pa_cons (pe_ix ix_list (pv 0) (pe_op op_sub (pe_op op_add (pv 8) pe_int) (pe_op op_mul pe_int (pe_callTy call_int1 (by rfl) T.z_int (by decide +kernel) (pa_cons (pe_cmpR op_eq (pv 8) pe_int (nomark _)) pa_nil)))) (fun _ _ => rfl)) pa_nil)) pa_nil))) (pa_cons (pe_tup (pa_cons (pe_op op_add_str pe_str (pe_ix ix_list (pv 0) (pv 8) (fun _ _ => rfl))) (pa_cons (pe_tup pa_nil) pa_nil))) pa_nil))) pa_nil))))) pa_nil)))
      (pss_one (ps_ret (pe_lst (pa_cons (pe_callTy call_tuple_of (by rfl) T.z_tuple (by decide +kernel) (pa_cons (pv 1) pa_nil)) (pa_cons (pe_callTy call_tuple_of (by rfl) T.z_tuple (by decide +kernel) (pa_cons (pe_revL (pv 1)) pa_nil)) (pa_cons (pv 2) (pa_cons (pv 3) (pa_cons (pv 4) (pa_cons (pv 5) (pa_cons (pv 6) (pa_cons (pe_revT (pv 6)) (pa_cons (pv 7) pa_nil)))))))))))))))))))), ?_⟩
    refine ⟨(by show 5 ≤ sizeLine; decide), fun so hso => ?_⟩
    have k0 : Kp [] H (upd H so (.lst [.str "ka", .str "kb", .str "kc", .str "kd", .str "ke"])) := Kp.new hso
    have e0 : upd H so (.lst [.str "ka", .str "kb", .str "kc", .str "kd", .str "ke"]) so = some (.lst (someL.map V.str)) := upd_same
    generalize upd H so (.lst [.str "ka", .str "kb", .str "kc", .str "kd", .str "ke"]) = H0 at k0 e0
    refine ⟨_, rfl, by decide, by decide, fun D hD => ?_⟩
    refine lcR (S := []) walk_range (fun i y H' => ∃ d, wRows[i]? = some d ∧ KindT K H' y d) (fun i y H1 H2 T k z => let ⟨d, h1, h2⟩ := z; ⟨d, h1, h2.kp k⟩) hD (by simp) (by decide) (fun _ _ => trivial) ?_ ?_
    · rintro i x Hx H1 C hi k1 ⟨rfl, rfl⟩ hC
      refine ⟨rfl, ?_⟩
      have e1 := k1.old _ _ e0 (by simp)
      obtain ⟨nm, ps, f1, f2, f3, f4, f5⟩ := rows_at i hi
      refine ⟨_, rfl, _, rfl, so, _, _, _, rfl, rfl, SqL.of e1, f1, ?_⟩
      refine ⟨_, rfl, _, rfl, so, _, _, _, rfl, rfl, SqL.of e1, f1, _, _, rfl, rfl, ?_, ?_⟩
      · have m1 : ("m" : Str).length = 1 := by decide +kernel
        exact Nat.le_of_lt (small1000 (by omega))
      refine ⟨_, rfl, _, rfl, _, _, rfl, rfl, _, rfl, _, rfl, _, _, rfl, rfl, _, rfl, so, _, rfl, SqL.of e1, fun A1 hA1 => ?_⟩
      have k2 : Kp [] H1 (upd H1 A1 (.lst (cutV (someL.map V.str) (some (0 + (i : Int) + 1)) (some (0 + (i : Int) + 2))))) := Kp.new hA1
      refine ⟨A1, 3, _, rfl, rfl, upd_same, by decide, by decide, ?_, fun A2 hA2 => ?_⟩
      · have := cutV_length (someL.map V.str) (some (0 + (i : Int) + 1)) (some (0 + (i : Int) + 2))
        have l5 : (someL.map V.str).length = 5 := rfl
        have t3 : (3 : Int).toNat = 3 := rfl
        rw [t3]
        exact Nat.le_of_lt (small1000 (by omega))
      have t3 : (List.replicate (3 : Int).toNat (cutV (someL.map V.str) (some (0 + (i : Int) + 1)) (some (0 + (i : Int) + 2)))).flatten = ps.map V.str := f2
      rw [t3]
      have k3 := k2.new' (o := .lst (ps.map V.str)) hA2
      refine ⟨A2, _, rfl, .inl ⟨SqL.of upd_same, fun A3 hA3 => ?_⟩⟩
      have k4 := k3.new' (o := .tup (ps.map V.str)) hA3
      have t4 : upd (upd (upd H1 A1 (.lst (cutV (someL.map V.str) (some (0 + (i : Int) + 1)) (some (0 + (i : Int) + 2))))) A2 (.lst (ps.map V.str))) A3 (.tup (ps.map V.str)) A3 = some (.tup (ps.map V.str)) := upd_same
      generalize upd (upd (upd H1 A1 (.lst (cutV (someL.map V.str) (some (0 + (i : Int) + 1)) (some (0 + (i : Int) + 2))))) A2 (.lst (ps.map V.str))) A3 (.tup (ps.map V.str)) = H4 at k4 t4
      refine ⟨(by show 2 ≤ sizeLine; decide), fun A4 hA4 => ⟨(by show 1 ≤ sizeLine; decide), fun A5 hA5 => ⟨(by show 2 ≤ sizeLine; decide), fun A6 hA6 => ?_⟩⟩⟩
      have k5 : Kp [] H4 (upd H4 A4 (.tup [.str ("m" ++ nm), .ref A3])) := Kp.new hA4
      have k6 : Kp [] (upd H4 A4 (.tup [.str ("m" ++ nm), .ref A3])) (upd (upd H4 A4 (.tup [.str ("m" ++ nm), .ref A3])) A5 (.tup [.ref A4])) := Kp.new hA5
      have k7 : Kp [] (upd (upd H4 A4 (.tup [.str ("m" ++ nm), .ref A3])) A5 (.tup [.ref A4])) (upd (upd (upd H4 A4 (.tup [.str ("m" ++ nm), .ref A3])) A5 (.tup [.ref A4])) A6 (.tup [.str nm, .ref A5])) := Kp.new hA6
      refine hC _ _ (((k4.trans k5).trans k6).trans k7) ⟨_, f3, A6, .ref A5, rfl, .inl (.inl upd_same), A5, [.ref A4], rfl, k7.sqt (.inl (.inl upd_same)), .cons ⟨A4, .ref A3, rfl, k7.sqt (k6.sqt (.inl (.inl upd_same))), A3, rfl, k7.sqt (k6.sqt (k5.sqt (.inl (.inl t4))))⟩ .nil⟩
    · intro H1 ys k1 hD1 yl yR
      have e1 := k1.old _ _ e0 (by simp)
      have pR : Paired (KindT K H1) ys wRows := by
        refine pair_of (by rw [yl]; rfl) fun i y hy => ?_
        obtain ⟨d, h1, h2⟩ := yR i y hy
        exact ⟨d, h1, h2⟩
      -- the written ones
      try dsimp only [tSeq, tAsg, gName]
      refine ev_kdsT (K := K) (ks := wRound) (evl_cons monoKind (ev_kind ev_str (ev_rows (evl_cons monoRow (ev_row ev_str (ev_strs (evl_cons monoStr ev_str evl_nil) (by decide))) evl_nil) (by decide))) (evl_cons monoKind (ev_kind ev_str (ev_rows (evl_cons monoRow (ev_row ev_str (ev_strs (evl_cons monoStr ev_str (evl_cons monoStr ev_str evl_nil)) (by decide))) (evl_cons monoRow (ev_row ev_str (ev_strs (evl_cons monoStr ev_str (evl_cons monoStr ev_str evl_nil)) (by decide))) evl_nil)) (by decide))) (evl_cons monoKind (ev_kind ev_str (ev_rows (evl_cons monoRow (ev_row ev_str (ev_strs evl_nil (Nat.zero_le _))) evl_nil) (by decide))) evl_nil))) (by decide) _ _ ?_
      intro v2 H2 k2 r2
      try dsimp only [tSeq, tAsg, gName]
      refine ev_kdsT (K := K) (ks := wAlone) (evl_cons monoKind (ev_kind ev_str (ev_rows (evl_cons monoRow (ev_row ev_str (ev_strs (evl_cons monoStr ev_str (evl_cons monoStr ev_str evl_nil)) (by decide))) evl_nil) (by decide))) (evl_cons monoKind (ev_kind ev_str (ev_rows (evl_cons monoRow (ev_row ev_str (ev_strs evl_nil (Nat.zero_le _))) evl_nil) (by decide))) (evl_cons monoKind (ev_kind ev_str (ev_rows (evl_cons monoRow (ev_row ev_str (ev_strs (evl_cons monoStr ev_str evl_nil) (by decide))) (evl_cons monoRow (ev_row ev_str (ev_strs (evl_cons monoStr ev_str evl_nil) (by decide))) evl_nil)) (by decide))) (evl_cons monoKind (ev_kind ev_str (ev_rows (evl_cons monoRow (ev_row ev_str (ev_strs (evl_cons monoStr ev_str evl_nil) (by decide))) evl_nil) (by decide))) evl_nil)))) (by decide) _ _ ?_
      intro v3 H3 k3 r3
      try dsimp only [tSeq, tAsg, gName]
      refine ev_kdsT (K := K) (ks := wMarks) (evl_cons monoKind (ev_kind ev_str (ev_rows (evl_cons monoRow (ev_row ev_str (ev_strs (evl_cons monoStr ev_str (evl_cons monoStr ev_str evl_nil)) (by decide))) (evl_cons monoRow (ev_row ev_str (ev_strs (evl_cons monoStr ev_str (evl_cons monoStr ev_str (evl_cons monoStr ev_str evl_nil))) (by decide))) evl_nil)) (by decide))) (evl_cons monoKind (ev_kind ev_str (ev_rows (evl_cons monoRow (ev_row ev_str (ev_strs evl_nil (Nat.zero_le _))) (evl_cons monoRow (ev_row ev_str (ev_strs evl_nil (Nat.zero_le _))) evl_nil)) (by decide))) evl_nil)) (by decide) _ _ ?_
      intro v4 H4 k4 r4
      have k14 := (k2.trans k3).trans k4
      have hD4 := k14.old _ _ hD1 (by simp)
      refine ⟨_, rfl, 4, rfl, D, _, rfl, SqL.of hD4, fun A1 hA1 => ?_⟩
      rw [show (4 : Int) = ((4 : Nat) : Int) from rfl, cut_take]
      have k5 : Kp [] H4 (upd H4 A1 (.lst (ys.take 4))) := Kp.new hA1
      refine ev_lstKd (K := K) (ks := [("ke", [("mke", ["mark"])])]) (evl_cons monoKind (ev_kind ev_str (ev_rows (evl_cons monoRow (ev_row ev_str (ev_strs (evl_cons monoStr ev_str evl_nil) (by decide))) evl_nil) (by decide))) evl_nil) (by decide) _ _ ?_
      rintro _ H6 k6 ⟨B1, bs, rfl, eB1, pB1⟩
      refine ⟨A1, B1, _, _, rfl, rfl, k6.old _ _ upd_same (by simp), eB1, ?_, fun A3 hA3 => ⟨A3, _, rfl, .inl ⟨SqL.of upd_same, fun A4 hA4 => ?_⟩⟩⟩
      · have := plen pB1
        rw [List.length_take]
        exact Nat.le_of_lt (small1000 (by simp at this; omega))
      have k7 : Kp [] H6 (upd H6 A3 (.lst (ys.take 4 ++ bs))) := Kp.new hA3
      have k8 := k7.new' (o := .tup (ys.take 4 ++ bs)) hA4
      have r5 : KdsT K (upd (upd H6 A3 (.lst (ys.take 4 ++ bs))) A4 (.tup (ys.take 4 ++ bs))) (.ref A4) wMarked :=
        ⟨A4, _, rfl, .inl (.inl upd_same), pair_app (pair_take (pmap (fun _ _ z => ((((z.kp k14).kp k5).kp k6).kp k8)) pR) 4) (pmap (fun _ _ z => z.kp k8) pB1)⟩
      generalize upd (upd H6 A3 (.lst (ys.take 4 ++ bs))) A4 (.tup (ys.take 4 ++ bs)) = H8 at k8 r5
      have k48 := (k5.trans k6).trans k8
      have hD8 := k48.old _ _ hD4 (by simp)
      -- ringed
      refine ⟨_, rfl, 4, rfl, D, _, rfl, SqL.of hD8, fun A1 hA1 => ?_⟩
      rw [show (4 : Int) = ((4 : Nat) : Int) from rfl, cut_take]
      have k9 : Kp [] H8 (upd H8 A1 (.lst (ys.take 4))) := Kp.new hA1
      refine ev_lstKd (K := K) (ks := [("ke", [("mke", ["ke"]), ("nke", [])])]) (evl_cons monoKind (ev_kind ev_str (ev_rows (evl_cons monoRow (ev_row ev_str (ev_strs (evl_cons monoStr ev_str evl_nil) (by decide))) (evl_cons monoRow (ev_row ev_str (ev_strs evl_nil (Nat.zero_le _))) evl_nil)) (by decide))) evl_nil) (by decide) _ _ ?_
      rintro _ H10 k10 ⟨B2, cs, rfl, eB2, pB2⟩
      refine ⟨A1, B2, _, _, rfl, rfl, k10.old _ _ upd_same (by simp), eB2, ?_, fun A5 hA5 => ⟨A5, _, rfl, .inl ⟨SqL.of upd_same, fun A6 hA6 => ?_⟩⟩⟩
      · have := plen pB2
        rw [List.length_take]
        exact Nat.le_of_lt (small1000 (by simp at this; omega))
      have k11 : Kp [] H10 (upd H10 A5 (.lst (ys.take 4 ++ cs))) := Kp.new hA5
      have k12 := k11.new' (o := .tup (ys.take 4 ++ cs)) hA6
      have q6 : SqT K (upd (upd H10 A5 (.lst (ys.take 4 ++ cs))) A6 (.tup (ys.take 4 ++ cs))) A6 (ys.take 4 ++ cs) := .inl (.inl upd_same)
      have p6 : Paired (KindT K (upd (upd H10 A5 (.lst (ys.take 4 ++ cs))) A6 (.tup (ys.take 4 ++ cs)))) (ys.take 4 ++ cs) wRinged :=
        pair_app (pair_take (pmap (fun _ _ z => ((((((z.kp k14).kp k48).kp k9).kp k10).kp k12))) pR) 4) (pmap (fun _ _ z => z.kp k12) pB2)
      generalize upd (upd H10 A5 (.lst (ys.take 4 ++ cs))) A6 (.tup (ys.take 4 ++ cs)) = H12 at k12 q6 p6
      have k812 := (k9.trans k10).trans k12
      have k112 := (k14.trans k48).trans k812
      have e12 := k112.old _ _ e1 (by simp)
      -- around
      refine ⟨_, rfl, by decide, by decide, fun D2 hD2 => ?_⟩
      refine lcR (S := []) walk_range (fun i y H' => ∃ d, wAround[i]? = some d ∧ KindT K H' y d) (fun i y H1 H2 T k z => let ⟨d, h1, h2⟩ := z; ⟨d, h1, h2.kp k⟩) hD2 (by simp) (by decide) (fun _ _ => trivial) ?_ ?_
      · rintro i x Hx Ha C hi ka ⟨rfl, rfl⟩ hC
        refine ⟨rfl, ?_⟩
        have ea := ka.old _ _ e12 (by simp)
        obtain ⟨nm, pn, f1, f2, f3, f4⟩ := around_at i hi
        refine ⟨_, rfl, _, rfl, so, _, _, _, rfl, rfl, SqL.of ea, f1, ?_⟩
        refine ⟨_, rfl, _, rfl, so, _, _, _, rfl, rfl, SqL.of ea, f1, _, _, rfl, rfl, ?_, ?_⟩
        · have m1 : ("m" : Str).length = 1 := by decide +kernel
          exact Nat.le_of_lt (small1000 (by omega))
        refine ⟨_, rfl, _, rfl, _, _, rfl, rfl, _, rfl, rfl, .inr ⟨_, rfl, _, _, rfl, rfl, .inl (by constructor <;> decide), _, _, rfl, rfl, so, _, _, _, rfl, rfl, SqL.of ea, f2, ?_⟩⟩
        refine ⟨(by show 1 ≤ sizeLine; decide), fun t1 ht1 => ⟨(by show 2 ≤ sizeLine; decide), fun t2 ht2 => ?_⟩⟩
        have kb1 : Kp [] Ha (upd Ha t1 (.tup [.str pn])) := Kp.new ht1
        have kb2 : Kp [] (upd Ha t1 (.tup [.str pn])) (upd (upd Ha t1 (.tup [.str pn])) t2 (.tup [.str ("m" ++ nm), .ref t1])) := Kp.new ht2
        have rA : RowT K (upd (upd Ha t1 (.tup [.str pn])) t2 (.tup [.str ("m" ++ nm), .ref t1])) (.ref t2) ("m" ++ nm, [pn]) := ⟨t2, .ref t1, rfl, .inl (.inl upd_same), t1, rfl, kb2.sqt (.inl (.inl upd_same))⟩
        have kb := kb1.trans kb2
        generalize upd (upd Ha t1 (.tup [.str pn])) t2 (.tup [.str ("m" ++ nm), .ref t1]) = Hb at kb rA
        refine ⟨_, rfl, _, rfl, so, _, _, _, rfl, rfl, SqL.of (kb.old _ _ ea (by simp)), f1, _, _, rfl, rfl, ?_, ?_⟩
        · have m1 : ("n" : Str).length = 1 := by decide +kernel
          exact Nat.le_of_lt (small1000 (by omega))
        refine ⟨(by show 0 ≤ sizeLine; decide), fun t3 ht3 => ⟨(by show 2 ≤ sizeLine; decide), fun t4 ht4 => ?_⟩⟩
        have kc1 : Kp [] Hb (upd Hb t3 (.tup [])) := Kp.new ht3
        have kc2 : Kp [] (upd Hb t3 (.tup [])) (upd (upd Hb t3 (.tup [])) t4 (.tup [.str ("n" ++ nm), .ref t3])) := Kp.new ht4
        have rB : RowT K (upd (upd Hb t3 (.tup [])) t4 (.tup [.str ("n" ++ nm), .ref t3])) (.ref t4) ("n" ++ nm, []) := ⟨t4, .ref t3, rfl, .inl (.inl upd_same), t3, rfl, kc2.sqt (.inl (.inl upd_same))⟩
        have kc := kc1.trans kc2
        generalize upd (upd Hb t3 (.tup [])) t4 (.tup [.str ("n" ++ nm), .ref t3]) = Hc at kc rB
        refine ⟨(by show 2 ≤ sizeLine; decide), fun t5 ht5 => ⟨(by show 2 ≤ sizeLine; decide), fun t6 ht6 => ?_⟩⟩
        have kd : Kp [] Hc (upd Hc t5 (.tup [.ref t2, .ref t4])) := Kp.new ht5
        have ke : Kp [] (upd Hc t5 (.tup [.ref t2, .ref t4])) (upd (upd Hc t5 (.tup [.ref t2, .ref t4])) t6 (.tup [.str nm, .ref t5])) := Kp.new ht6
        exact hC _ _ (((kb.trans kc).trans kd).trans ke) ⟨_, f3, t6, .ref t5, rfl, .inl (.inl upd_same), t5, [.ref t2, .ref t4], rfl, ke.sqt (.inl (.inl upd_same)), .cons (((rA.kp kc).kp kd).kp ke) (.cons ((rB.kp kd).kp ke) .nil)⟩
      · intro H13 zs k13 eZ zl zR
        have pZ : Paired (KindT K H13) zs wAround := by
          refine pair_of (by rw [zl]; rfl) fun i y hy => ?_
          obtain ⟨d, h1, h2⟩ := zR i y hy
          exact ⟨d, h1, h2⟩
        refine ⟨D2, _, rfl, .inl ⟨SqL.of eZ, fun aT haT => ?_⟩⟩
        have k14' : Kp [] H13 (upd H13 aT (.tup zs)) := Kp.new haT
        have r7 : KdsT K (upd H13 aT (.tup zs)) (.ref aT) wAround := ⟨aT, zs, rfl, .inl (.inl upd_same), pmap (fun _ _ z => z.kp k14') pZ⟩
        generalize upd H13 aT (.tup zs) = H14 at k14' r7
        have kE := k13.trans k14'
        have hDE := kE.old _ _ (k812.old _ _ hD8 (by simp)) (by simp)
        -- all of them
        refine ⟨_, rfl, D, ys, rfl, .inl ⟨SqL.of hDE, fun t1 ht1 => ?_⟩⟩
        have kF : Kp [] H14 (upd H14 t1 (.tup ys)) := Kp.new ht1
        refine ⟨_, rfl, D, ys, rfl, SqL.of (kF.old _ _ hDE (by simp)), fun r1 hr1 => ⟨r1, _, rfl, .inl ⟨SqL.of upd_same, fun t2 ht2 => ?_⟩⟩⟩
        have kG : Kp [] (upd H14 t1 (.tup ys)) (upd (upd H14 t1 (.tup ys)) r1 (.lst ys.reverse)) := Kp.new hr1
        have kH : Kp [] (upd (upd H14 t1 (.tup ys)) r1 (.lst ys.reverse)) (upd (upd (upd H14 t1 (.tup ys)) r1 (.lst ys.reverse)) t2 (.tup ys.reverse)) := Kp.new ht2
        have s1 : SqT K (upd (upd (upd H14 t1 (.tup ys)) r1 (.lst ys.reverse)) t2 (.tup ys.reverse)) t1 ys := kH.sqt (kG.sqt (.inl (.inl upd_same)))
        have s2 : SqT K (upd (upd (upd H14 t1 (.tup ys)) r1 (.lst ys.reverse)) t2 (.tup ys.reverse)) t2 ys.reverse := .inl (.inl upd_same)
        have kI := (kF.trans kG).trans kH
        generalize upd (upd (upd H14 t1 (.tup ys)) r1 (.lst ys.reverse)) t2 (.tup ys.reverse) = H15 at kI s1 s2
        have q15 := kI.sqt (kE.sqt q6)
        refine ⟨_, rfl, _, rfl, _, rfl, _, rfl, _, rfl, _, rfl, A6, _, rfl, q15, fun t3 ht3 => ?_⟩
        have kJ : Kp [] H15 (upd H15 t3 (.tup (ys.take 4 ++ cs).reverse)) := Kp.new ht3
        have s3 : SqT K (upd H15 t3 (.tup (ys.take 4 ++ cs).reverse)) t3 (ys.take 4 ++ cs).reverse := .inl (.inl upd_same)
        generalize upd H15 t3 (.tup (ys.take 4 ++ cs).reverse) = H16 at kJ s3
        refine ⟨_, rfl, (by show 9 ≤ sizeLine; decide), fun L hL => ?_⟩
        have kK : Kp [] H16 (upd H16 L (.lst [.ref t1, .ref t2, v2, v3, v4, .ref A4, .ref A6, .ref t3, .ref aT])) := Kp.new hL
        have kEI := kE.trans kI
        have kall : Kp [] H1 H16 := ((k112.trans kEI).trans kJ)
        have fL : H L = none := ((k0.trans k1).trans kall).free hL (by simp)
        have pR16 := pmap (fun _ _ (z : KindT K H1 _ _) => (z.kp kall).kp kK) pR
        refine k _ L _ (((k0.trans k1).trans kall).trans kK) fL upd_same ?_
        have up : ∀ {v : V} {ks : Kds}, KdsT K H12 v ks → KdsT K (upd H16 L (.lst [.ref t1, .ref t2, v2, v3, v4, .ref A4, .ref A6, .ref t3, .ref aT])) v ks := fun z => ((z.kp kEI).kp kJ).kp kK
        refine .cons ⟨t1, ys, rfl, kK.sqt (kJ.sqt s1), pR16⟩ (.cons ⟨t2, _, rfl, kK.sqt (kJ.sqt s2), pair_rev pR16⟩ (.cons (up ((((r2.kp k3).kp k4).kp k48).kp k812)) (.cons (up (((r3.kp k4).kp k48).kp k812)) (.cons (up ((r4.kp k48).kp k812)) (.cons (up (r5.kp k812))
          (.cons ⟨A6, _, rfl, kK.sqt (kJ.sqt q15), ?_⟩ (.cons ⟨t3, _, rfl, kK.sqt s3, ?_⟩ (.cons (((r7.kp kI).kp kJ).kp kK) .nil))))))))
        · exact pmap (fun _ _ (z : KindT K H12 _ _) => ((z.kp kEI).kp kJ).kp kK) p6
        · exact pair_rev (pmap (fun _ _ (z : KindT K H12 _ _) => ((z.kp kEI).kp kJ).kp kK) p6)
end

end Md

namespace Md
open PySem PySem.Spec PyProof.Rows L2

theorem sh_strs {ps : List Str} (h : ∀ x ∈ ps, LowS x) (hl : ps.length ≤ 3) : Sh 1 63 (dStrs ps) :=
  (Sh.tup (D := 0) (W := 20) (L := 3) (fun d hd => by obtain ⟨x, hx, rfl⟩ := List.mem_map.mp hd; exact Sh.str (h x hx)) (by rw [List.length_map]; exact hl))
theorem sh_row {r : Rw} (h0 : LowS r.1) (h : ∀ x ∈ r.2, LowS x) (hl : r.2.length ≤ 3) : Sh 2 128 (dRow r) :=
  (Sh.tup (D := 1) (W := 63) (L := 2) (fun d hd => by
    rcases List.mem_cons.mp hd with rfl | hd
    · exact (Sh.str h0).more (by decide) (by decide)
    · rcases List.mem_cons.mp hd with rfl | hd
      · exact sh_strs h hl
      · cases hd) (Nat.le_refl 2))
theorem sh_rows {rs : List Rw} (h : ∀ r ∈ rs, LowS r.1 ∧ (∀ x ∈ r.2, LowS x) ∧ r.2.length ≤ 3) (hl : rs.length ≤ 4) : Sh 3 516 (dRows rs) :=
  (Sh.tup (D := 2) (W := 128) (L := 4) (fun d hd => by obtain ⟨x, hx, rfl⟩ := List.mem_map.mp hd; obtain ⟨a, b, c⟩ := h x hx; exact sh_row a b c) (by rw [List.length_map]; exact hl))
theorem sh_kind {d : Kd} (h0 : LowS d.1) (h : ∀ r ∈ d.2, LowS r.1 ∧ (∀ x ∈ r.2, LowS x) ∧ r.2.length ≤ 3) (hl : d.2.length ≤ 4) : Sh 4 1034 (dKind d) :=
  (Sh.tup (D := 3) (W := 516) (L := 2) (fun e he => by
    rcases List.mem_cons.mp he with rfl | he
    · exact (Sh.str h0).more (by decide) (by decide)
    · rcases List.mem_cons.mp he with rfl | he
      · exact sh_rows h hl
      · cases he) (Nat.le_refl 2))
theorem GoodK.lowP {ks : Kds} (g : GoodK ks) {d : Kd} (hd : d ∈ ks) {r : Rw} (hr : r ∈ d.2) {x : Str} (hx : x ∈ r.2) : LowS x := by
  rcases g.ps d hd r hr x hx with z | z
  · subst z; exact LowS.mark
  · obtain ⟨e, he, rfl⟩ := List.mem_map.mp z
    exact LowS.name (g.kn e he)
theorem GoodK.rowsLow {ks : Kds} (g : GoodK ks) {d : Kd} (hd : d ∈ ks) : ∀ r ∈ d.2, LowS r.1 ∧ (∀ x ∈ r.2, LowS x) ∧ r.2.length ≤ 3 :=
  fun r hr => ⟨LowS.name (g.mn d hd r hr), fun _ hx => g.lowP hd hr hx, g.p3 d hd r hr⟩
theorem GoodK.shows {ks : Kds} (g : GoodK ks) : Shows (dKds ks) :=
  (Sh.tup (D := 4) (W := 1034) (L := 5) (fun d hd => by obtain ⟨x, hx, rfl⟩ := List.mem_map.mp hd; exact sh_kind (LowS.name (g.kn x hx)) (g.rowsLow hx) (g.m4 x hx)) (by rw [List.length_map]; exact g.l5)).shows (by decide) (by decide)
theorem GoodK.showsRows {ks : Kds} (g : GoodK ks) (x : Str) : Shows (dRows (rowsBy ks x)) := by
  unfold rowsBy
  cases e : ks.find? (fun d => decide (d.1 = x)) with
  | none => exact (sh_rows (rs := []) (fun _ h => (nomatch h)) (by decide)).shows (by decide) (by decide)
  | some d =>
    have hd := List.mem_of_find?_eq_some e
    exact (sh_rows (rs := d.2) (g.rowsLow hd) (g.m4 d hd)).shows (by decide) (by decide)

section
variable {P : Program} {w : World} {K : PySem.W.Frag} {mg : Str → Option Value} {base : Heap} {aW : Addr}
def spLaw (K : PySem.W.Frag) : Sp := fun vs H Q _ => ∃ (a : Addr) (ns : List Int), vs = [.ref a] ∧ SqL K H a (ns.map V.int) ∧ ns.length ≤ 1000 ∧ ∀ H', Q (.bl true) H'
set_option maxHeartbeats 4000000 in
theorem law_pass (T : Txt K mg aW) (c_law_take : C8.Cal P w K mg base 1 "_law_take" spTake []) (c_law_pot : C8.Cal P w K mg base 1 "_law_pot" (spPot K) []) (c_law_kinds : C8.Cal P w K mg base 4 "_law_kinds" (spLawKinds K) [])
    (c_law_written : C8.Cal P w K mg base 1 "_law_written" (spWritten K) []) (c_law_right : C8.Cal P w K mg base 8 "_law_right" (spLawRight K) []) (c_least_size : C8.Cal P w K mg base 7 "least_size" (spLeastSize K) []) (c_is_finite : C8.Cal P w K mg base 7 "is_finite" (spIsFinite K) [])
    {f : Addr} {cdv : Value} {A : Around} {outer : List Env} {s : Shared} {H : Hp} {vs : List V} {Q : VK} {E : XK} (hr : Room 8 (A.deeper (envOfC "law" (defScope st_law) s.heap.objs.size f cdv))) (hg : A.guards = some []) (h : spLaw K vs H Q E) :
    ∃ t, PSs (cxOf CX0 P w K mg base nn_law "law" (defScope st_law) f cdv A outer s H E).nox (defBody st_law) t ∧ t { nx := fun _ H' => Q .non H', rt := Q } (L2.start nn_law vs) H := by
  obtain ⟨a, ns, rfl, hq, nl, k⟩ := h
  have nd := sc_law.nd
  have hu := hu_of hr
  have hu64 := h64 hr
  refine ⟨_, (pss_cons (ps_for PassesOwn.never rfl (pi_range1 (by rfl) T.z_range (pa_cons (pe_callB (call_max2 rfl) (by rfl) T.z_max (by decide +kernel) (pa_cons pe_int (pa_cons (pe_callB (call_min2 rfl) (by rfl) T.z_min (by decide +kernel) (pa_cons pe_int (pa_cons (pe_callB call_len_seq (by rfl) T.z_len (by decide +kernel) (pa_cons (pv 0) pa_nil)) pa_nil))) pa_nil))) pa_nil)) (pg_name (i := 1) nd rfl (by first | exact Or.inl rfl | exact Or.inr rfl))
        (pss_cons (ps_set (i := 2) nd rfl (by first | exact Or.inl rfl | exact Or.inr rfl) (C8.pe_c c_law_pot hr (by decide) rfl (pa_cons (pv 0) (pa_cons (pv 1) pa_nil))))
        (pss_cons (ps_set (i := 3) nd rfl (by first | exact Or.inl rfl | exact Or.inr rfl) (C8.pe_c c_law_kinds hr (by decide) rfl (pa_cons (pv 2) (pa_cons (pe_lst (pa_cons (C8.pe_c c_law_take hr (by decide) rfl (pa_cons (pv 2) (pa_cons pe_int pa_nil))) pa_nil)) pa_nil))))
        (pss_one (ps_for PassesOwn.never rfl (pi_list (pe_op op_cat (pe_lst (pa_cons (pv 3) pa_nil)) (pe_op op_rep (pe_c0 c_law_written hr (by decide) rfl) (pe_callTy call_int1 (by rfl) T.z_int (by decide +kernel) (pa_cons (pe_cmpR op_eq (pv 1) pe_int (nomark _)) pa_nil))))) (pg_name (i := 4) nd rfl (by first | exact Or.inl rfl | exact Or.inr rfl))
          (pss_cons (ps_set (i := 5) nd rfl (by first | exact Or.inl rfl | exact Or.inr rfl) (pe_callB (call_reprD hg hu64) (by rfl) T.z_repr (by decide +kernel) (pa_cons (pv 4) pa_nil)))
          (pss_cons (ps_set (i := 6) nd rfl (by first | exact Or.inl rfl | exact Or.inr rfl) (pe_op op_cat (pe_lc (own := [("kind", 8), ("rows", 7)]) (g := (gTup _ 2 (gCons (gName 8) (gCons (gName 7) gNil)))) (tt := tYes) rfl nd (pi_tup (pv 4)) (blkOk_by (N := nn_law) (sc := defScope st_law) (own := [("kind", 8), ("rows", 7)]) (by decide +kernel)) (fun _ _ _ _ _ => (pg_tup rfl (pgs_cons (pg_name (i := 8) nd rfl (by first | exact Or.inl rfl | exact Or.inr rfl)) (pgs_cons (pg_name (i := 7) nd rfl (by first | exact Or.inl rfl | exact Or.inr rfl)) pgs_nil)))) (fun _ _ _ _ _ => pts_nil) (fun _ _ _ _ _ => (pv 8))) (pe_lst (pa_cons pe_str pa_nil))))
          (pss_cons (ps_if (pt_cmpR (op_neD hu64) (pe_lc (own := [("kind", 8)]) (g := (gName 8)) rfl nd (pi_list (pv 6)) (blkOk_by (N := nn_law) (sc := defScope st_law) (own := [("kind", 8)]) (by decide +kernel)) (fun _ _ _ _ _ => (pg_name (i := 8) nd rfl (by first | exact Or.inl rfl | exact Or.inr rfl))) (fun _ _ _ _ _ => (pts_one (pt_not (pt_val (C8.pe_c c_law_right hr (by decide) rfl (pa_cons (pv 4) (pa_cons (pv 8) pa_nil))))))) (fun _ _ _ _ _ => (pv 8))) (pe_lst pa_nil) (nomark _)) (pss_one (ps_ret pe_bl)) pss_nil)
          (pss_one (ps_if (pt_cmpR op_ne (pe_callB (call_reprD hg hu64) (by rfl) T.z_repr (by decide +kernel) (pa_cons (pv 4) pa_nil)) (pv 5) (nomark _)) (pss_one (ps_ret pe_bl)) pss_nil))))))))))
      (pss_cons (ps_set (i := 7) nd rfl (by first | exact Or.inl rfl | exact Or.inr rfl) (pe_c0 c_law_written hr (by decide) rfl))
      (pss_cons (ps_if (PW.pt (pw_or (pt_cmpR op_ne (C8.pe_c c_least_size hr (by decide) rfl (pa_cons (pe_ix ix_list (pv 7) pe_int (fun _ _ => rfl)) (pa_cons pe_str pa_nil))) pe_int (nomark _)) (pw_or1 (pt_cmpR op_isnot_bl (C8.pe_c c_is_finite hr (by decide) rfl (pa_cons (pe_ix ix_list (pv 7) pe_int (fun _ _ => rfl)) (pa_cons pe_str pa_nil))) pe_bl (nomark _))))) (pss_one (ps_ret pe_bl)) pss_nil)
      (pss_cons (ps_if (PW.pt (pw_or (pt_cmpR op_ne (C8.pe_c c_least_size hr (by decide) rfl (pa_cons (pe_ix ix_list (pv 7) pe_int (fun _ _ => rfl)) (pa_cons pe_str pa_nil))) pe_int (nomark _)) (pw_or1 (pt_cmpR op_isnot_bl (C8.pe_c c_is_finite hr (by decide) rfl (pa_cons (pe_ix ix_list (pv 7) pe_int (fun _ _ => rfl)) (pa_cons pe_str pa_nil))) pe_bl (nomark _))))) (pss_one (ps_ret pe_bl)) pss_nil)
      (pss_one (ps_ret (pe_and (pe_cmpR op_is_bl (C8.pe_c c_is_finite hr (by decide) rfl (pa_cons (pe_ix ix_list (pv 7) pe_int (fun _ _ => rfl)) (pa_cons pe_str pa_nil))) pe_bl (nomark _)) (pe_one (pe_cmpR op_is_bl (C8.pe_c c_is_finite hr (by decide) rfl (pa_cons (pe_ix ix_list (pv 7) pe_int (fun _ _ => rfl)) (pa_cons pe_str pa_nil))) pe_bl (nomark _)))))))))), ?_⟩
  obtain ⟨M, eM, M0, M1⟩ : ∃ M : Int, (if (if ((ns.map V.int).length : Int) < 16 then ((ns.map V.int).length : Int) else 16) > 4 then (if ((ns.map V.int).length : Int) < 16 then ((ns.map V.int).length : Int) else 16) else 4) = M ∧ 0 ≤ M ∧ M ≤ 16 :=
    ⟨_, rfl, by repeat' split <;> omega, by repeat' split <;> omega⟩
  refine ⟨_, rfl, a, _, rfl, .inl hq, _, _, rfl, _, _, rfl, M, by rw [← eM], by omega, by omega, ?_⟩
  refine for_range (lo := 0) (n := M.toNat) (fun i σ H' => ∃ v1 v2 v3 v4 v5 v6 v7 v8, σ = [some (.ref a), v1, v2, v3, v4, v5, v6, v7, v8] ∧ ∃ H0 : Hp, H0 = H' ∧ SqL K H0 a (ns.map V.int)) ?_ ?_ ?_
  · exact ⟨_, _, _, _, _, _, _, _, rfl, _, rfl, hq⟩
  · rintro i σ H' hi ⟨v1, v2, v3, v4, v5, v6, v7, v8, rfl, H0, rfl, hq0⟩
    refine ⟨_, rfl, _, rfl, a, ns, 0 + (i : Nat), rfl, hq0, by omega, by omega, fun H1 p k1 fp hp1 => ?_⟩
    -- the kinds
    refine ⟨_, rfl, _, rfl, p, 26, 0, rfl, hp1, by decide, by decide, by decide, fun r H2 r0 r26 hp2 k2 => ⟨(by show 1 ≤ sizeLine; decide), fun B hB => ?_⟩⟩
    obtain ⟨rn, er⟩ : ∃ rn : Nat, r = (rn : Int) := ⟨r.toNat, by omega⟩
    subst er
    have kB : Kp [] H2 (upd H2 B (.lst [.int (rn : Int)])) := Kp.new hB
    have k02 : Kp [] H0 H2 := k1.sub k2 (fun b m => .inr (by simp at m; subst m; exact fp))
    have fB : H0 B = none := k02.free hB (by simp)
    refine ⟨p, B, 1, rn, rfl, hp2.kp kB (by simp), by decide, upd_same, by omega, fun v ks H4 kO g hp4 k4 _ => ?_⟩
    have k04 : Kp [] H0 H4 := (k02.trans kB).sub k4 (fun b m => .inr (by simp at m; rcases m with rfl | rfl; exact fp; exact fB))
    obtain ⟨ka, us, rfl, hto, hpk⟩ := id kO
    have ul := plen hpk
    -- the kinds in turn
    refine ⟨_, rfl, (by show 1 ≤ sizeLine; decide), fun L1 hL1 => ?_⟩
    have k5 : Kp [] H4 (upd H4 L1 (.lst [.ref ka])) := Kp.new hL1
    refine ⟨rfl, fun H6 wr ws kw fw ew pw => ?_⟩
    have wsl := plen pw
    have wl9 : writtenL.length = 9 := rfl
    refine ⟨_, rfl, rfl, .inr ⟨_, rfl, wr, _, _, rfl, rfl, ew, ?_, ?_, ?_, fun L2 hL2 => ?_⟩⟩
    · split <;> decide
    · split <;> decide
    · refine Nat.le_of_lt (small1000 ?_)
      split
      · have : (1 : Int).toNat = 1 := rfl
        rw [this]; omega
      · have : (0 : Int).toNat = 0 := rfl
        rw [this]; omega
    generalize hm : (if decide (V.int (0 + (i : Nat)) = V.int 0) = true then (1 : Int) else 0) = mm at hL2 ⊢
    have mok : mm = 1 ∨ mm = 0 := by
      rw [← hm]
      split
      · exact .inl rfl
      · exact .inr rfl
    obtain ⟨wks, pL, gL⟩ : ∃ wks : List Kds, Paired (KdsT K H6) (List.replicate mm.toNat ws).flatten wks ∧ ∀ x ∈ wks, GoodK x := by
      rcases mok with z | z
      · subst z
        refine ⟨writtenL, ?_, writtenL_good⟩
        have : (List.replicate (1 : Int).toNat ws).flatten = ws := by
          show (List.replicate 1 ws).flatten = ws
          simp
        rw [this]; exact pw
      · subst z
        exact ⟨[], .nil, fun _ h => (nomatch h)⟩
    have Ll : ((List.replicate mm.toNat ws).flatten).length ≤ 9 := by
      rcases mok with z | z
      · subst z
        show (List.replicate 1 ws).flatten.length ≤ 9
        simp; omega
      · subst z
        show (List.replicate 0 ws).flatten.length ≤ 9
        simp
    generalize (List.replicate mm.toNat ws).flatten = wl at hL2 pL Ll ⊢
    have k7 : Kp [] H6 (upd H6 L2 (.lst wl)) := Kp.new hL2
    refine ⟨L1, L2, _, _, rfl, rfl, k7.old _ _ (kw.old _ _ upd_same (by simp)) (by simp), upd_same, ?_, fun LL hLL => ?_⟩
    · exact Nat.le_of_lt (small1000 (by simp; omega))
    have k8 := k7.new' (o := .lst ([.ref ka] ++ wl)) hLL
    have k48 := (k5.trans kw).trans k8
    have eLL : upd (upd H6 L2 (.lst wl)) LL (.lst ([.ref ka] ++ wl)) LL = some (.lst ([.ref ka] ++ wl)) := upd_same
    have pLL : Paired (KdsT K (upd (upd H6 L2 (.lst wl)) LL (.lst ([.ref ka] ++ wl)))) ([.ref ka] ++ wl) (ks :: wks) := .cons (kO.t.kp k48) (pmap (fun _ _ z => z.kp k8) pL)
    have gAll : ∀ x ∈ ks :: wks, GoodK x := fun x hx => by
      rcases List.mem_cons.mp hx with z | z
      · subst z; exact g
      · exact gL x z
    generalize upd (upd H6 L2 (.lst wl)) LL (.lst ([.ref ka] ++ wl)) = H8 at k8 k48 eLL pLL
    have k08 := k04.trans k48
    refine ⟨LL, rfl, ⟨_, SqL.of eLL⟩, for_list (K := K) (a := LL) (xs := [.ref ka] ++ wl) (fun j σ H' => ∃ v4 v5 v6 v7 v8, σ = [some (.ref a), some (.int (0 + (i : Nat))), some (.ref p), some (.ref ka), v4, v5, v6, v7, v8] ∧ Kp [] H8 H')
      ⟨_, _, _, _, _, rfl, Kp.refl⟩ (fun j σ H' _ z => by obtain ⟨_, _, _, _, _, _, kk⟩ := z; exact SqL.of (kk.old _ _ eLL (by simp))) ?_ ?_⟩
    · rintro j x σ H9 hx ⟨v4, v5, v6, v7, v8, rfl, k9⟩
      obtain ⟨kj, hkj, hT0⟩ := pget pLL hx
      have gj := gAll kj (List.mem_of_getElem? hkj)
      have hT := hT0.kp k9
      obtain ⟨ja, us2, rfl, hsq, hpk2⟩ := id hT
      have ul2 := plen hpk2
      have kl2 := gj.l5
      refine ⟨_, rfl, ja, dKds kj, rfl, dp_kds hT, gj.shows, ?_⟩
      refine ⟨_, rfl, ja, rfl, ⟨us2, hsq⟩, fun D hD => ?_⟩
      refine lcW (S := []) walk_tup (fun i => (kj[i]?).map fun d => V.str d.1) hD (by simp) (small1000 (by omega)) (fun H' kk => kk.sqt hsq) ?_ ?_
      · rintro m x H' H'' C N hj kk ⟨rfl, hx⟩ hC hN
        obtain ⟨d, hd, b, q, rfl, hb, _⟩ := pget hpk2 hx
        refine ⟨b, _, rfl, kk.sqt hb, rfl, _, _, rfl, _, _, rfl, rfl, rfl, ?_⟩
        exact ⟨_, rfl, hC _ _ Kp.refl (by rw [hd]; rfl)⟩
      intro H10 k10 e10
      have e10' : H10 D = some (.lst ((kindNames kj).map V.str)) := by
        rw [ul2, range_map] at e10
        rw [e10, kindNames, List.map_map]
        rfl
      refine ⟨(by show 1 ≤ sizeLine; decide), fun B2 hB2 => ?_⟩
      have k11 : Kp [] H10 (upd H10 B2 (.lst [.str "mark"])) := Kp.new hB2
      refine ⟨D, B2, _, _, rfl, rfl, k11.old _ _ e10' (by simp), upd_same, ?_, fun sa hsa => ?_⟩
      · rw [List.length_map, kindNames, List.length_map]
        exact Nat.le_of_lt (small1000 (by simp; omega))
      have eW : (kindNames kj).map V.str ++ [V.str "mark"] = ((kindNames kj ++ [("mark" : Str)]).map V.str) := by rw [List.map_append]; rfl
      rw [eW]
      have wsl2 : (kindNames kj ++ [("mark" : Str)]).length = kj.length + 1 := by rw [List.length_append, kindNames, List.length_map]; rfl
      have wsm : ∀ x ∈ kindNames kj ++ [("mark" : Str)], x = "mark" ∨ x ∈ kindNames kj := fun x hx => by
        rcases List.mem_append.mp hx with z | z
        · exact .inr z
        · exact .inl (by simpa using z)
      generalize kindNames kj ++ [("mark" : Str)] = nws at wsl2 wsm
      have k12 := (k10.trans k11).new' (o := .lst (nws.map V.str)) hsa
      have hsa2 : upd (upd H10 B2 (.lst [.str "mark"])) sa (.lst (nws.map V.str)) sa = some (.lst (nws.map V.str)) := upd_same
      generalize upd (upd H10 B2 (.lst [.str "mark"])) sa (.lst (nws.map V.str)) = H12 at k12 hsa2
      have hT12 := hT.kp k12
      refine ⟨_, rfl, sa, rfl, ⟨_, SqL.of hsa2⟩, fun D2 hD2 => ?_⟩
      refine lcW (S := []) (walk_list (xs := nws.map V.str)) (fun _ => none) hD2 (by simp) (small1000 (by rw [List.length_map]; omega)) (fun H' kk => SqL.of (kk.old _ _ hsa2 (by simp))) ?_ ?_
      · rintro m x H' H'' C N hj kk ⟨rfl, hx⟩ hC hN
        rw [List.getElem?_map] at hx
        obtain ⟨y, hy, rfl⟩ := Option.map_eq_some_iff.mp hx
        refine ⟨rfl, _, rfl, _, rfl, .ref ja, kj, y, rfl, hT12.kp kk, gj, wsm y (List.mem_of_getElem? hy), fun H13 k13 => ⟨_, rfl, ?_⟩⟩
        exact iteBn rfl (hN _ k13 rfl)
      intro H13 k13 e13
      have e13' : H13 D2 = some (.lst []) := by
        rw [e13]
        congr 2
        exact List.filterMap_eq_nil_iff.mpr fun _ _ => rfl
      refine ⟨(by show 0 ≤ sizeLine; decide), fun D3 hD3 => ?_⟩
      have k14 : Kp [] H13 (upd H13 D3 (.lst [])) := Kp.new hD3
      refine ⟨.list [], .list [], .lst (SqL.of (k14.old _ _ e13' (by simp))) .nil, .lst (SqL.of upd_same) .nil, by decide, by decide, _, rfl, iteBn (by decide) ?_⟩
      refine ⟨_, rfl, ja, dKds kj, rfl, dp_kds ((hT12.kp k13).kp k14), gj.shows, _, rfl, rfl, _, rfl, iteBn (by simp) ?_⟩
      exact ⟨_, _, _, _, _, rfl, ((k9.trans k12).trans k13).trans k14⟩
    · rintro σ H9 ⟨v4, v5, v6, v7, v8, rfl, k9⟩
      exact ⟨_, _, _, _, _, _, _, _, rfl, _, rfl, (k08.trans k9).sql hq0 (by simp)⟩
  · rintro σ H' ⟨v1, v2, v3, v4, v5, v6, v7, v8, rfl, H0, rfl, hq0⟩
    -- the written ones, by word
    refine ⟨rfl, fun H1 wr ws k1 fw ew pw => ?_⟩
    have gw := writtenL_good
    obtain ⟨u0, hu0, t0⟩ := pair_get pw (i := 0) (b := wRows) rfl
    obtain ⟨u2, hu2, t2⟩ := pair_get pw (i := 2) (b := wRound) rfl
    obtain ⟨u3, hu3, t3⟩ := pair_get pw (i := 3) (b := wAlone) rfl
    have a0 : atI ws 0 = some u0 := atI_nat hu0
    have a2 : atI ws 2 = some u2 := atI_nat hu2
    have a3 : atI ws 3 = some u3 := atI_nat hu3
    have g0 : GoodK wRows := gw _ (by simp [writtenL])
    have g2 : GoodK wRound := gw _ (by simp [writtenL])
    have g3 : GoodK wAlone := gw _ (by simp [writtenL])
    have m0 : ("ka" : Str) = "mark" ∨ ("ka" : Str) ∈ kindNames wRows := .inr (by decide +kernel)
    have m2 : ("ka" : Str) = "mark" ∨ ("ka" : Str) ∈ kindNames wRound := .inr (by decide +kernel)
    have m2c : ("kc" : Str) = "mark" ∨ ("kc" : Str) ∈ kindNames wRound := .inr (by decide +kernel)
    have m3 : ("kd" : Str) = "mark" ∨ ("kd" : Str) ∈ kindNames wAlone := .inr (by decide +kernel)
    have l0 : leastT wRows "ka" = 121 := by
      have h := sizes_are g0 (n := 5) (by decide) m0
      have h2 : lookS (sizesN wRows 5) "ka" = some 121 := by decide +kernel
      rw [h2] at h
      have := Option.some.inj h
      omega
    have l2 : leastT wRound "ka" = 4 := by
      have h := sizes_are g2 (n := 3) (by decide) m2
      have h2 : lookS (sizesN wRound 3) "ka" = some 4 := by decide +kernel
      rw [h2] at h
      have := Option.some.inj h
      omega
    refine ⟨_, rfl, wr, ws, 0, u0, rfl, rfl, SqL.of ew, a0, u0, wRows, "ka", rfl, t0, g0, m0, fun H2 k2 => ?_⟩
    rw [l0]
    refine ⟨rfl, _, rfl, iteBn (by decide) ?_⟩
    refine ⟨_, rfl, wr, ws, 0, u0, rfl, rfl, SqL.of (k2.old _ _ ew (by simp)), a0, u0, wRows, "ka", rfl, t0.kp k2, g0, m0, fun H3 k3 => ?_⟩
    have f0 : (finN wRows wRows.length).contains "ka" = true := by decide +kernel
    rw [f0]
    refine ⟨_, _, rfl, rfl, _, rfl, iteBn (by decide) ?_⟩
    have e3 := k3.old _ _ (k2.old _ _ ew (by simp)) (by simp)
    refine ⟨_, rfl, wr, ws, 2, u2, rfl, rfl, SqL.of e3, a2, u2, wRound, "ka", rfl, (t2.kp k2).kp k3, g2, m2, fun H4 k4 => ?_⟩
    rw [l2]
    refine ⟨rfl, _, rfl, iteBn (by decide) ?_⟩
    have e4 := k4.old _ _ e3 (by simp)
    refine ⟨_, rfl, wr, ws, 3, u3, rfl, rfl, SqL.of e4, a3, u3, wAlone, "kd", rfl, ((t3.kp k2).kp k3).kp k4, g3, m3, fun H5 k5 => ?_⟩
    have f3 : (finN wAlone wAlone.length).contains "kd" = false := by decide +kernel
    rw [f3]
    refine ⟨_, _, rfl, rfl, _, rfl, iteBn (by decide) ?_⟩
    have e5 := k5.old _ _ e4 (by simp)
    have t25 := (((t2.kp k2).kp k3).kp k4).kp k5
    refine ⟨_, rfl, wr, ws, 2, u2, rfl, rfl, SqL.of e5, a2, u2, wRound, "kc", rfl, t25, g2, m2c, fun H6 k6 => ?_⟩
    have fc : (finN wRound wRound.length).contains "kc" = true := by decide +kernel
    have fa : (finN wRound wRound.length).contains "ka" = false := by decide +kernel
    rw [fc]
    refine ⟨_, _, rfl, rfl, _, rfl, iteB (by decide) ?_⟩
    have e6 := k6.old _ _ e5 (by simp)
    refine ⟨_, rfl, wr, ws, 2, u2, rfl, rfl, SqL.of e6, a2, u2, wRound, "ka", rfl, t25.kp k6, g2, m2, fun H7 k7 => ?_⟩
    rw [fa]
    exact ⟨_, _, rfl, rfl, k _⟩
end

end Md

namespace Md
open PySem PySem.Spec PyProof.Rows L2

theorem all_mk {l : PySem.W.OpenLaw} {w : World} {K : PySem.W.Frag} {h : Heap} {mg : Str → Option Value} {fa f0 f1 f2 f3 f4 f5 f6 f7 f8 f9 f10 f11 f12 f13 f14 f15 f16 f17 f18 f19 f20 f21 f22 f23 f24 f25 f26 f27 a_WORDS : Addr} (X : K.In h) (G : h.Ns mainGlobals mg) (hfa : mg "law" = some (.ref fa))
    {od0 an0 od1 an1 od2 an2 od3 an3 od4 an4 od5 an5 od6 an6 od7 an7 od8 an8 od9 an9 od10 an10 od11 an11 od12 an12 od13 an13 od14 an14 od15 an15 od16 an16 od17 an17 od18 an18 od19 an19 od20 an20 od21 an21 od22 an22 od23 an23 od24 an24 od25 an25 od26 an26 od27 an27 dd_WORDS : Option Addr} {sl0 sl1 sl2 sl3 sl4 sl5 sl6 sl7 sl8 sl9 sl10 sl11 sl12 sl13 sl14 sl15 sl16 sl17 sl18 sl19 sl20 sl21 sl22 sl23 sl24 sl25 sl26 sl27 ds_WORDS : Array (Option Value)} {oc0 kV0 dc0 pm0 cd0 ct0 oc1 kV1 dc1 pm1 cd1 ct1 oc2 kV2 dc2 pm2 cd2 ct2 oc3 kV3 dc3 pm3 cd3 ct3 oc4 kV4 dc4 pm4 cd4 ct4 oc5 kV5 dc5 pm5 cd5 ct5 oc6 kV6 dc6 pm6 cd6 ct6 oc7 kV7 dc7 pm7 cd7 ct7 oc8 kV8 dc8 pm8 cd8 ct8 oc9 kV9 dc9 pm9 cd9 ct9 oc10 kV10 dc10 pm10 cd10 ct10 oc11 kV11 dc11 pm11 cd11 ct11 oc12 kV12 dc12 pm12 cd12 ct12 oc13 kV13 dc13 pm13 cd13 ct13 oc14 kV14 dc14 pm14 cd14 ct14 oc15 kV15 dc15 pm15 cd15 ct15 oc16 kV16 dc16 pm16 cd16 ct16 oc17 kV17 dc17 pm17 cd17 ct17 oc18 kV18 dc18 pm18 cd18 ct18 oc19 kV19 dc19 pm19 cd19 ct19 oc20 kV20 dc20 pm20 cd20 ct20 oc21 kV21 dc21 pm21 cd21 ct21 oc22 kV22 dc22 pm22 cd22 ct22 oc23 kV23 dc23 pm23 cd23 ct23 oc24 kV24 dc24 pm24 cd24 ct24 oc25 kV25 dc25 pm25 cd25 ct25 oc26 kV26 dc26 pm26 cd26 ct26 oc27 kV27 dc27 pm27 cd27 ct27 : Value}
    {di_WORDS : Array Value} {dn_WORDS : Nat}
    (a0 : PySem.W.nsIn K mainGlobals "is_name" = some (some (.ref f0))) (l0 : K.lookup f0 = some ⟨oc0, od0, .func (PySem.W.fnOf "is_name" "is_name" (defArgs st_is_name) (defBody st_is_name) (defScope st_is_name) .none kV0 dc0 pm0 an0 cd0 ct0), sl0⟩) (b0 : PySem.W.codeIn K cd0 "is_name" = true) (k0 : PySem.W.keepIn K (.ref f0) = true)
    (a1 : PySem.W.nsIn K mainGlobals "is_kinds" = some (some (.ref f1))) (l1 : K.lookup f1 = some ⟨oc1, od1, .func (PySem.W.fnOf "is_kinds" "is_kinds" (defArgs st_is_kinds) (defBody st_is_kinds) (defScope st_is_kinds) .none kV1 dc1 pm1 an1 cd1 ct1), sl1⟩) (b1 : PySem.W.codeIn K cd1 "is_kinds" = true) (k1 : PySem.W.keepIn K (.ref f1) = true)
    (a2 : PySem.W.nsIn K mainGlobals "least_size" = some (some (.ref f2))) (l2 : K.lookup f2 = some ⟨oc2, od2, .func (PySem.W.fnOf "least_size" "least_size" (defArgs st_least_size) (defBody st_least_size) (defScope st_least_size) .none kV2 dc2 pm2 an2 cd2 ct2), sl2⟩) (b2 : PySem.W.codeIn K cd2 "least_size" = true) (k2 : PySem.W.keepIn K (.ref f2) = true)
    (a3 : PySem.W.nsIn K mainGlobals "is_finite" = some (some (.ref f3))) (l3 : K.lookup f3 = some ⟨oc3, od3, .func (PySem.W.fnOf "is_finite" "is_finite" (defArgs st_is_finite) (defBody st_is_finite) (defScope st_is_finite) .none kV3 dc3 pm3 an3 cd3 ct3), sl3⟩) (b3 : PySem.W.codeIn K cd3 "is_finite" = true) (k3 : PySem.W.keepIn K (.ref f3) = true)
    (a4 : PySem.W.nsIn K mainGlobals "check_kinds" = some (some (.ref f4))) (l4 : K.lookup f4 = some ⟨oc4, od4, .func (PySem.W.fnOf "check_kinds" "check_kinds" (defArgs st_check_kinds) (defBody st_check_kinds) (defScope st_check_kinds) .none kV4 dc4 pm4 an4 cd4 ct4), sl4⟩) (b4 : PySem.W.codeIn K cd4 "check_kinds" = true) (k4 : PySem.W.keepIn K (.ref f4) = true)
    (a5 : PySem.W.nsIn K mainGlobals "check_kind" = some (some (.ref f5))) (l5 : K.lookup f5 = some ⟨oc5, od5, .func (PySem.W.fnOf "check_kind" "check_kind" (defArgs st_check_kind) (defBody st_check_kind) (defScope st_check_kind) .none kV5 dc5 pm5 an5 cd5 ct5), sl5⟩) (b5 : PySem.W.codeIn K cd5 "check_kind" = true) (k5 : PySem.W.keepIn K (.ref f5) = true)
    (a6 : PySem.W.nsIn K mainGlobals "least_sizes" = some (some (.ref f6))) (l6 : K.lookup f6 = some ⟨oc6, od6, .func (PySem.W.fnOf "least_sizes" "least_sizes" (defArgs st_least_sizes) (defBody st_least_sizes) (defScope st_least_sizes) .none kV6 dc6 pm6 an6 cd6 ct6), sl6⟩) (b6 : PySem.W.codeIn K cd6 "least_sizes" = true) (k6 : PySem.W.keepIn K (.ref f6) = true)
    (a7 : PySem.W.nsIn K mainGlobals "size_made" = some (some (.ref f7))) (l7 : K.lookup f7 = some ⟨oc7, od7, .func (PySem.W.fnOf "size_made" "size_made" (defArgs st_size_made) (defBody st_size_made) (defScope st_size_made) .none kV7 dc7 pm7 an7 cd7 ct7), sl7⟩) (b7 : PySem.W.codeIn K cd7 "size_made" = true) (k7 : PySem.W.keepIn K (.ref f7) = true)
    (a8 : PySem.W.nsIn K mainGlobals "_is_row" = some (some (.ref f8))) (l8 : K.lookup f8 = some ⟨oc8, od8, .func (PySem.W.fnOf "_is_row" "_is_row" (defArgs st_u_is_row) (defBody st_u_is_row) (defScope st_u_is_row) .none kV8 dc8 pm8 an8 cd8 ct8), sl8⟩) (b8 : PySem.W.codeIn K cd8 "_is_row" = true) (k8 : PySem.W.keepIn K (.ref f8) = true)
    (a9 : PySem.W.nsIn K mainGlobals "_is_named" = some (some (.ref f9))) (l9 : K.lookup f9 = some ⟨oc9, od9, .func (PySem.W.fnOf "_is_named" "_is_named" (defArgs st_u_is_named) (defBody st_u_is_named) (defScope st_u_is_named) .none kV9 dc9 pm9 an9 cd9 ct9), sl9⟩) (b9 : PySem.W.codeIn K cd9 "_is_named" = true) (k9 : PySem.W.keepIn K (.ref f9) = true)
    (a10 : PySem.W.nsIn K mainGlobals "_kind_names" = some (some (.ref f10))) (l10 : K.lookup f10 = some ⟨oc10, od10, .func (PySem.W.fnOf "_kind_names" "_kind_names" (defArgs st_u_kind_names) (defBody st_u_kind_names) (defScope st_u_kind_names) .none kV10 dc10 pm10 an10 cd10 ct10), sl10⟩) (b10 : PySem.W.codeIn K cd10 "_kind_names" = true) (k10 : PySem.W.keepIn K (.ref f10) = true)
    (a11 : PySem.W.nsIn K mainGlobals "_maker_names" = some (some (.ref f11))) (l11 : K.lookup f11 = some ⟨oc11, od11, .func (PySem.W.fnOf "_maker_names" "_maker_names" (defArgs st_u_maker_names) (defBody st_u_maker_names) (defScope st_u_maker_names) .none kV11 dc11 pm11 an11 cd11 ct11), sl11⟩) (b11 : PySem.W.codeIn K cd11 "_maker_names" = true) (k11 : PySem.W.keepIn K (.ref f11) = true)
    (a12 : PySem.W.nsIn K mainGlobals "_are_names_unlike" = some (some (.ref f12))) (l12 : K.lookup f12 = some ⟨oc12, od12, .func (PySem.W.fnOf "_are_names_unlike" "_are_names_unlike" (defArgs st_u_are_names_unlike) (defBody st_u_are_names_unlike) (defScope st_u_are_names_unlike) .none kV12 dc12 pm12 an12 cd12 ct12), sl12⟩) (b12 : PySem.W.codeIn K cd12 "_are_names_unlike" = true) (k12 : PySem.W.keepIn K (.ref f12) = true)
    (a13 : PySem.W.nsIn K mainGlobals "_are_parts_kinds" = some (some (.ref f13))) (l13 : K.lookup f13 = some ⟨oc13, od13, .func (PySem.W.fnOf "_are_parts_kinds" "_are_parts_kinds" (defArgs st_u_are_parts_kinds) (defBody st_u_are_parts_kinds) (defScope st_u_are_parts_kinds) .none kV13 dc13 pm13 an13 cd13 ct13), sl13⟩) (b13 : PySem.W.codeIn K cd13 "_are_parts_kinds" = true) (k13 : PySem.W.keepIn K (.ref f13) = true)
    (a14 : PySem.W.nsIn K mainGlobals "_has_all_parts" = some (some (.ref f14))) (l14 : K.lookup f14 = some ⟨oc14, od14, .func (PySem.W.fnOf "_has_all_parts" "_has_all_parts" (defArgs st_u_has_all_parts) (defBody st_u_has_all_parts) (defScope st_u_has_all_parts) .none kV14 dc14 pm14 an14 cd14 ct14), sl14⟩) (b14 : PySem.W.codeIn K cd14 "_has_all_parts" = true) (k14 : PySem.W.keepIn K (.ref f14) = true)
    (a15 : PySem.W.nsIn K mainGlobals "_are_in" = some (some (.ref f15))) (l15 : K.lookup f15 = some ⟨oc15, od15, .func (PySem.W.fnOf "_are_in" "_are_in" (defArgs st_u_are_in) (defBody st_u_are_in) (defScope st_u_are_in) .none kV15 dc15 pm15 an15 cd15 ct15), sl15⟩) (b15 : PySem.W.codeIn K cd15 "_are_in" = true) (k15 : PySem.W.keepIn K (.ref f15) = true)
    (a16 : PySem.W.nsIn K mainGlobals "_have_trees" = some (some (.ref f16))) (l16 : K.lookup f16 = some ⟨oc16, od16, .func (PySem.W.fnOf "_have_trees" "_have_trees" (defArgs st_u_have_trees) (defBody st_u_have_trees) (defScope st_u_have_trees) .none kV16 dc16 pm16 an16 cd16 ct16), sl16⟩) (b16 : PySem.W.codeIn K cd16 "_have_trees" = true) (k16 : PySem.W.keepIn K (.ref f16) = true)
    (a17 : PySem.W.nsIn K mainGlobals "_law_pot" = some (some (.ref f17))) (l17 : K.lookup f17 = some ⟨oc17, od17, .func (PySem.W.fnOf "_law_pot" "_law_pot" (defArgs st_law_pot) (defBody st_law_pot) (defScope st_law_pot) .none kV17 dc17 pm17 an17 cd17 ct17), sl17⟩) (b17 : PySem.W.codeIn K cd17 "_law_pot" = true) (k17 : PySem.W.keepIn K (.ref f17) = true)
    (a18 : PySem.W.nsIn K mainGlobals "_law_take" = some (some (.ref f18))) (l18 : K.lookup f18 = some ⟨oc18, od18, .func (PySem.W.fnOf "_law_take" "_law_take" (defArgs st_law_take) (defBody st_law_take) (defScope st_law_take) .none kV18 dc18 pm18 an18 cd18 ct18), sl18⟩) (b18 : PySem.W.codeIn K cd18 "_law_take" = true) (k18 : PySem.W.keepIn K (.ref f18) = true)
    (a19 : PySem.W.nsIn K mainGlobals "_law_word" = some (some (.ref f19))) (l19 : K.lookup f19 = some ⟨oc19, od19, .func (PySem.W.fnOf "_law_word" "_law_word" (defArgs st_law_word) (defBody st_law_word) (defScope st_law_word) .none kV19 dc19 pm19 an19 cd19 ct19), sl19⟩) (b19 : PySem.W.codeIn K cd19 "_law_word" = true) (k19 : PySem.W.keepIn K (.ref f19) = true)
    (a20 : PySem.W.nsIn K mainGlobals "_law_row" = some (some (.ref f20))) (l20 : K.lookup f20 = some ⟨oc20, od20, .func (PySem.W.fnOf "_law_row" "_law_row" (defArgs st_law_row) (defBody st_law_row) (defScope st_law_row) .none kV20 dc20 pm20 an20 cd20 ct20), sl20⟩) (b20 : PySem.W.codeIn K cd20 "_law_row" = true) (k20 : PySem.W.keepIn K (.ref f20) = true)
    (a21 : PySem.W.nsIn K mainGlobals "_law_kinds" = some (some (.ref f21))) (l21 : K.lookup f21 = some ⟨oc21, od21, .func (PySem.W.fnOf "_law_kinds" "_law_kinds" (defArgs st_law_kinds) (defBody st_law_kinds) (defScope st_law_kinds) .none kV21 dc21 pm21 an21 cd21 ct21), sl21⟩) (b21 : PySem.W.codeIn K cd21 "_law_kinds" = true) (k21 : PySem.W.keepIn K (.ref f21) = true)
    (a22 : PySem.W.nsIn K mainGlobals "_law_sizes" = some (some (.ref f22))) (l22 : K.lookup f22 = some ⟨oc22, od22, .func (PySem.W.fnOf "_law_sizes" "_law_sizes" (defArgs st_law_sizes) (defBody st_law_sizes) (defScope st_law_sizes) .none kV22 dc22 pm22 an22 cd22 ct22), sl22⟩) (b22 : PySem.W.codeIn K cd22 "_law_sizes" = true) (k22 : PySem.W.keepIn K (.ref f22) = true)
    (a23 : PySem.W.nsIn K mainGlobals "_law_led" = some (some (.ref f23))) (l23 : K.lookup f23 = some ⟨oc23, od23, .func (PySem.W.fnOf "_law_led" "_law_led" (defArgs st_law_led) (defBody st_law_led) (defScope st_law_led) .none kV23 dc23 pm23 an23 cd23 ct23), sl23⟩) (b23 : PySem.W.codeIn K cd23 "_law_led" = true) (k23 : PySem.W.keepIn K (.ref f23) = true)
    (a24 : PySem.W.nsIn K mainGlobals "_law_ends" = some (some (.ref f24))) (l24 : K.lookup f24 = some ⟨oc24, od24, .func (PySem.W.fnOf "_law_ends" "_law_ends" (defArgs st_law_ends) (defBody st_law_ends) (defScope st_law_ends) .none kV24 dc24 pm24 an24 cd24 ct24), sl24⟩) (b24 : PySem.W.codeIn K cd24 "_law_ends" = true) (k24 : PySem.W.keepIn K (.ref f24) = true)
    (a25 : PySem.W.nsIn K mainGlobals "_law_right" = some (some (.ref f25))) (l25 : K.lookup f25 = some ⟨oc25, od25, .func (PySem.W.fnOf "_law_right" "_law_right" (defArgs st_law_right) (defBody st_law_right) (defScope st_law_right) .none kV25 dc25 pm25 an25 cd25 ct25), sl25⟩) (b25 : PySem.W.codeIn K cd25 "_law_right" = true) (k25 : PySem.W.keepIn K (.ref f25) = true)
    (a26 : PySem.W.nsIn K mainGlobals "_law_written" = some (some (.ref f26))) (l26 : K.lookup f26 = some ⟨oc26, od26, .func (PySem.W.fnOf "_law_written" "_law_written" (defArgs st_law_written) (defBody st_law_written) (defScope st_law_written) .none kV26 dc26 pm26 an26 cd26 ct26), sl26⟩) (b26 : PySem.W.codeIn K cd26 "_law_written" = true) (k26 : PySem.W.keepIn K (.ref f26) = true)
    (a27 : PySem.W.nsIn K mainGlobals "law" = some (some (.ref f27))) (l27 : K.lookup f27 = some ⟨oc27, od27, .func (PySem.W.fnOf "law" "law" (defArgs st_law) (defBody st_law) (defScope st_law) .none kV27 dc27 pm27 an27 cd27 ct27), sl27⟩) (b27 : PySem.W.codeIn K cd27 "law" = true) (k27 : PySem.W.keepIn K (.ref f27) = true)
    (z_abs : PySem.W.nsIn K mainGlobals "abs" = some none)
    (z_all : PySem.W.nsIn K mainGlobals "all" = some none)
    (z_bool : PySem.W.nsIn K mainGlobals "bool" = some none)
    (z_int : PySem.W.nsIn K mainGlobals "int" = some none)
    (z_isinstance : PySem.W.nsIn K mainGlobals "isinstance" = some none)
    (z_len : PySem.W.nsIn K mainGlobals "len" = some none)
    (z_max : PySem.W.nsIn K mainGlobals "max" = some none)
    (z_min : PySem.W.nsIn K mainGlobals "min" = some none)
    (z_range : PySem.W.nsIn K mainGlobals "range" = some none)
    (z_repr : PySem.W.nsIn K mainGlobals "repr" = some none)
    (z_set : PySem.W.nsIn K mainGlobals "set" = some none)
    (z_str : PySem.W.nsIn K mainGlobals "str" = some none)
    (z_sum : PySem.W.nsIn K mainGlobals "sum" = some none)
    (z_tuple : PySem.W.nsIn K mainGlobals "tuple" = some none)
    (g_MARK : ∃ u, PySem.W.nsIn K mainGlobals "MARK" = some (some u) ∧ RelV (.str "mark") u)
    (g_WORDS : PySem.W.nsIn K mainGlobals "WORDS" = some (some (.ref a_WORDS))) (t_WORDS : K.lookup a_WORDS = some ⟨.type "tuple", dd_WORDS, .seq di_WORDS dn_WORDS, ds_WORDS⟩) (y_WORDS : di_WORDS.size ≤ sizeLine ∧ Vals ((["mark", "part", "same", "test", "sum", "not", "both", "either"] : List Str).map V.str) di_WORDS.toList)
    (g_MOST_LETTERS : ∃ u, PySem.W.nsIn K mainGlobals "MOST_LETTERS" = some (some u) ∧ RelV (.int 8) u)
    (g_MOST_KINDS : ∃ u, PySem.W.nsIn K mainGlobals "MOST_KINDS" = some (some u) ∧ RelV (.int 5) u)
    (g_MOST_MAKERS : ∃ u, PySem.W.nsIn K mainGlobals "MOST_MAKERS" = some (some u) ∧ RelV (.int 4) u)
    (g_MOST_PARTS : ∃ u, PySem.W.nsIn K mainGlobals "MOST_PARTS" = some (some u) ∧ RelV (.int 3) u)
    : ∃ fd : FuncData, (∀ (s : Shared) (v : Value), BindsTo s fd ⟨[v], []⟩ [("script", v)]) ∧ ∀ base : Heap, K.In base → base.Ns mainGlobals mg → LawOk l.prog w K mg base fa fd ["script"] (spLaw K) := by
  have e := hfa.symm.trans (PySem.W.mg_of X G a27)
  cases e
  have T : Txt K mg a_WORDS := ⟨PySem.W.mg_none_of X G z_abs, PySem.W.mg_none_of X G z_all, PySem.W.mg_none_of X G z_bool, PySem.W.mg_none_of X G z_int, PySem.W.mg_none_of X G z_isinstance, PySem.W.mg_none_of X G z_len, PySem.W.mg_none_of X G z_max, PySem.W.mg_none_of X G z_min, PySem.W.mg_none_of X G z_range, PySem.W.mg_none_of X G z_repr, PySem.W.mg_none_of X G z_set, PySem.W.mg_none_of X G z_str, PySem.W.mg_none_of X G z_sum, PySem.W.mg_none_of X G z_tuple, ⟨_, PySem.W.mg_of X G g_MARK.choose_spec.1, g_MARK.choose_spec.2⟩, PySem.W.mg_of X G g_WORDS, ⟨_, _, _, t_WORDS, rfl, rfl, y_WORDS.1, y_WORDS.2⟩, ⟨_, PySem.W.mg_of X G g_MOST_LETTERS.choose_spec.1, g_MOST_LETTERS.choose_spec.2⟩, ⟨_, PySem.W.mg_of X G g_MOST_KINDS.choose_spec.1, g_MOST_KINDS.choose_spec.2⟩, ⟨_, PySem.W.mg_of X G g_MOST_MAKERS.choose_spec.1, g_MOST_MAKERS.choose_spec.2⟩, ⟨_, PySem.W.mg_of X G g_MOST_PARTS.choose_spec.1, g_MOST_PARTS.choose_spec.2⟩⟩
  have F0 := fun_mk (st := st_is_name) l0 b0 k0
  have D0 : At_is_name K mg := ⟨_, _, F0, PySem.W.mg_of X G a0, F0.binds (ps := ["thing"]) fun _ _ _ _ _ _ us hl => match us, hl with | [_], _ => rfl⟩
  have F1 := fun_mk (st := st_is_kinds) l1 b1 k1
  have D1 : At_is_kinds K mg := ⟨_, _, F1, PySem.W.mg_of X G a1, F1.binds (ps := ["thing"]) fun _ _ _ _ _ _ us hl => match us, hl with | [_], _ => rfl⟩
  have F2 := fun_mk (st := st_least_size) l2 b2 k2
  have D2 : At_least_size K mg := ⟨_, _, F2, PySem.W.mg_of X G a2, F2.binds (ps := ["kinds", "kind"]) fun _ _ _ _ _ _ us hl => match us, hl with | [_, _], _ => rfl⟩
  have F3 := fun_mk (st := st_is_finite) l3 b3 k3
  have D3 : At_is_finite K mg := ⟨_, _, F3, PySem.W.mg_of X G a3, F3.binds (ps := ["kinds", "kind"]) fun _ _ _ _ _ _ us hl => match us, hl with | [_, _], _ => rfl⟩
  have F4 := fun_mk (st := st_check_kinds) l4 b4 k4
  have D4 : At_check_kinds K mg := ⟨_, _, F4, PySem.W.mg_of X G a4, F4.binds (ps := ["kinds"]) fun _ _ _ _ _ _ us hl => match us, hl with | [_], _ => rfl⟩
  have F5 := fun_mk (st := st_check_kind) l5 b5 k5
  have D5 : At_check_kind K mg := ⟨_, _, F5, PySem.W.mg_of X G a5, F5.binds (ps := ["kinds", "kind"]) fun _ _ _ _ _ _ us hl => match us, hl with | [_, _], _ => rfl⟩
  have F6 := fun_mk (st := st_least_sizes) l6 b6 k6
  have D6 : At_least_sizes K mg := ⟨_, _, F6, PySem.W.mg_of X G a6, F6.binds (ps := ["kinds"]) fun _ _ _ _ _ _ us hl => match us, hl with | [_], _ => rfl⟩
  have F7 := fun_mk (st := st_size_made) l7 b7 k7
  have D7 : At_size_made K mg := ⟨_, _, F7, PySem.W.mg_of X G a7, F7.binds (ps := ["sizes", "parts"]) fun _ _ _ _ _ _ us hl => match us, hl with | [_, _], _ => rfl⟩
  have F8 := fun_mk (st := st_u_is_row) l8 b8 k8
  have D8 : At_u_is_row K mg := ⟨_, _, F8, PySem.W.mg_of X G a8, F8.binds (ps := ["thing", "least", "most"]) fun _ _ _ _ _ _ us hl => match us, hl with | [_, _, _], _ => rfl⟩
  have F9 := fun_mk (st := st_u_is_named) l9 b9 k9
  have D9 : At_u_is_named K mg := ⟨_, _, F9, PySem.W.mg_of X G a9, F9.binds (ps := ["thing", "least", "most"]) fun _ _ _ _ _ _ us hl => match us, hl with | [_, _, _], _ => rfl⟩
  have F10 := fun_mk (st := st_u_kind_names) l10 b10 k10
  have D10 : At_u_kind_names K mg := ⟨_, _, F10, PySem.W.mg_of X G a10, F10.binds (ps := ["kinds"]) fun _ _ _ _ _ _ us hl => match us, hl with | [_], _ => rfl⟩
  have F11 := fun_mk (st := st_u_maker_names) l11 b11 k11
  have D11 : At_u_maker_names K mg := ⟨_, _, F11, PySem.W.mg_of X G a11, F11.binds (ps := ["kinds"]) fun _ _ _ _ _ _ us hl => match us, hl with | [_], _ => rfl⟩
  have F12 := fun_mk (st := st_u_are_names_unlike) l12 b12 k12
  have D12 : At_u_are_names_unlike K mg := ⟨_, _, F12, PySem.W.mg_of X G a12, F12.binds (ps := ["kinds"]) fun _ _ _ _ _ _ us hl => match us, hl with | [_], _ => rfl⟩
  have F13 := fun_mk (st := st_u_are_parts_kinds) l13 b13 k13
  have D13 : At_u_are_parts_kinds K mg := ⟨_, _, F13, PySem.W.mg_of X G a13, F13.binds (ps := ["kinds"]) fun _ _ _ _ _ _ us hl => match us, hl with | [_], _ => rfl⟩
  have F14 := fun_mk (st := st_u_has_all_parts) l14 b14 k14
  have D14 : At_u_has_all_parts K mg := ⟨_, _, F14, PySem.W.mg_of X G a14, F14.binds (ps := ["makers", "names"]) fun _ _ _ _ _ _ us hl => match us, hl with | [_, _], _ => rfl⟩
  have F15 := fun_mk (st := st_u_are_in) l15 b15 k15
  have D15 : At_u_are_in K mg := ⟨_, _, F15, PySem.W.mg_of X G a15, F15.binds (ps := ["parts", "names"]) fun _ _ _ _ _ _ us hl => match us, hl with | [_, _], _ => rfl⟩
  have F16 := fun_mk (st := st_u_have_trees) l16 b16 k16
  have D16 : At_u_have_trees K mg := ⟨_, _, F16, PySem.W.mg_of X G a16, F16.binds (ps := ["kinds"]) fun _ _ _ _ _ _ us hl => match us, hl with | [_], _ => rfl⟩
  have F17 := fun_mk (st := st_law_pot) l17 b17 k17
  have D17 : At_law_pot K mg := ⟨_, _, F17, PySem.W.mg_of X G a17, F17.binds (ps := ["script", "k"]) fun _ _ _ _ _ _ us hl => match us, hl with | [_, _], _ => rfl⟩
  have F18 := fun_mk (st := st_law_take) l18 b18 k18
  have D18 : At_law_take K mg := ⟨_, _, F18, PySem.W.mg_of X G a18, F18.binds (ps := ["pot", "many"]) fun _ _ _ _ _ _ us hl => match us, hl with | [_, _], _ => rfl⟩
  have F19 := fun_mk (st := st_law_word) l19 b19 k19
  have D19 : At_law_word K mg := ⟨_, _, F19, PySem.W.mg_of X G a19, F19.binds (ps := ["pot", "book"]) fun _ _ _ _ _ _ us hl => match us, hl with | [_, _], _ => rfl⟩
  have F20 := fun_mk (st := st_law_row) l20 b20 k20
  have D20 : At_law_row K mg := ⟨_, _, F20, PySem.W.mg_of X G a20, F20.binds (ps := ["pot", "book", "some", "most"]) fun _ _ _ _ _ _ us hl => match us, hl with | [_, _, _, _], _ => rfl⟩
  have F21 := fun_mk (st := st_law_kinds) l21 b21 k21
  have D21 : At_law_kinds K mg := ⟨_, _, F21, PySem.W.mg_of X G a21, F21.binds (ps := ["pot", "book"]) fun _ _ _ _ _ _ us hl => match us, hl with | [_, _], _ => rfl⟩
  have F22 := fun_mk (st := st_law_sizes) l22 b22 k22
  have D22 : At_law_sizes K mg := ⟨_, _, F22, PySem.W.mg_of X G a22, F22.binds (ps := ["kinds"]) fun _ _ _ _ _ _ us hl => match us, hl with | [_], _ => rfl⟩
  have F23 := fun_mk (st := st_law_led) l23 b23 k23
  have D23 : At_law_led K mg := ⟨_, _, F23, PySem.W.mg_of X G a23, F23.binds (ps := ["kinds", "kind"]) fun _ _ _ _ _ _ us hl => match us, hl with | [_, _], _ => rfl⟩
  have F24 := fun_mk (st := st_law_ends) l24 b24 k24
  have D24 : At_law_ends K mg := ⟨_, _, F24, PySem.W.mg_of X G a24, F24.binds (ps := ["kinds", "kind"]) fun _ _ _ _ _ _ us hl => match us, hl with | [_, _], _ => rfl⟩
  have F25 := fun_mk (st := st_law_right) l25 b25 k25
  have D25 : At_law_right K mg := ⟨_, _, F25, PySem.W.mg_of X G a25, F25.binds (ps := ["kinds", "kind"]) fun _ _ _ _ _ _ us hl => match us, hl with | [_, _], _ => rfl⟩
  have F26 := fun_mk (st := st_law_written) l26 b26 k26
  have D26 : At_law_written K mg := ⟨_, _, F26, PySem.W.mg_of X G a26, F26.binds (ps := []) fun _ _ _ _ _ _ us hl => match us, hl with | [], _ => rfl⟩
  have F27 := fun_mk (st := st_law) l27 b27 k27
  have D27 : At_law K mg := ⟨_, _, F27, PySem.W.mg_of X G a27, F27.binds (ps := ["script"]) fun _ _ _ _ _ _ us hl => match us, hl with | [_], _ => rfl⟩
  refine ⟨PySem.W.fnOf "law" "law" (defArgs st_law) (defBody st_law) (defScope st_law) .none kV27 dc27 pm27 an27 cd27 ct27, fun s v => .of_eq rfl, fun base _ _ => ?_⟩
  have m_law_take := c_law_take (P := l.prog) (w := w) (K := K) (mg := mg) (base := base) D18
  have m_is_name := c_is_name (P := l.prog) (w := w) (K := K) (mg := mg) (base := base) T D0
  have m_u_is_row := c_u_is_row (P := l.prog) (w := w) (K := K) (mg := mg) (base := base) T D8
  have m_u_is_named := c_u_is_named (P := l.prog) (w := w) (K := K) (mg := mg) (base := base) m_u_is_row m_is_name D9
  have m_u_kind_names := c_u_kind_names (P := l.prog) (w := w) (K := K) (mg := mg) (base := base) D10
  have m_u_maker_names := c_u_maker_names (P := l.prog) (w := w) (K := K) (mg := mg) (base := base) D11
  have m_u_are_in := c_u_are_in (P := l.prog) (w := w) (K := K) (mg := mg) (base := base) T D15
  have m_u_has_all_parts := c_u_has_all_parts (P := l.prog) (w := w) (K := K) (mg := mg) (base := base) T m_u_are_in D14
  have m_u_are_parts_kinds := c_u_are_parts_kinds (P := l.prog) (w := w) (K := K) (mg := mg) (base := base) T m_u_kind_names m_u_has_all_parts D13
  have m_size_made := c_size_made (P := l.prog) (w := w) (K := K) (mg := mg) (base := base) T D7
  have m_least_sizes := c_least_sizes (P := l.prog) (w := w) (K := K) (mg := mg) (base := base) T m_size_made m_u_are_in D6
  have m_u_have_trees := c_u_have_trees (P := l.prog) (w := w) (K := K) (mg := mg) (base := base) T m_least_sizes m_u_kind_names D16
  have m_u_are_names_unlike := c_u_are_names_unlike (P := l.prog) (w := w) (K := K) (mg := mg) (base := base) T m_u_kind_names m_u_maker_names D12
  have m_is_kinds := c_is_kinds (P := l.prog) (w := w) (K := K) (mg := mg) (base := base) T m_u_is_row m_u_is_named m_u_are_names_unlike m_u_are_parts_kinds m_u_have_trees D1
  have m_check_kinds := c_check_kinds (P := l.prog) (w := w) (K := K) (mg := mg) (base := base) m_is_kinds D4
  have m_check_kind := c_check_kind (P := l.prog) (w := w) (K := K) (mg := mg) (base := base) T m_check_kinds m_u_kind_names D5
  have m_law_pot := c_law_pot (P := l.prog) (w := w) (K := K) (mg := mg) (base := base) T D17
  have m_law_word := c_law_word (P := l.prog) (w := w) (K := K) (mg := mg) (base := base) T m_law_take D19
  have m_law_row := c_law_row (P := l.prog) (w := w) (K := K) (mg := mg) (base := base) T m_law_take m_law_word D20
  have m_law_kinds := c_law_kinds (P := l.prog) (w := w) (K := K) (mg := mg) (base := base) T m_law_take m_law_word m_law_row D21
  have m_least_size := c_least_size (P := l.prog) (w := w) (K := K) (mg := mg) (base := base) m_check_kind m_least_sizes D2
  have m_is_finite := c_is_finite (P := l.prog) (w := w) (K := K) (mg := mg) (base := base) T m_check_kind m_u_has_all_parts D3
  have m_law_sizes := c_law_sizes (P := l.prog) (w := w) (K := K) (mg := mg) (base := base) T D22
  have m_law_led := c_law_led (P := l.prog) (w := w) (K := K) (mg := mg) (base := base) D23
  have m_law_ends := c_law_ends (P := l.prog) (w := w) (K := K) (mg := mg) (base := base) m_law_led D24
  have m_law_right := c_law_right (P := l.prog) (w := w) (K := K) (mg := mg) (base := base) T m_least_size m_is_finite m_law_sizes m_law_ends D25
  have m_law_written := c_law_written (P := l.prog) (w := w) (K := K) (mg := mg) (base := base) T D26
  exact law_body F27 sc_law (k := 8) ⟨rfl, by decide, by decide⟩ fun cdv A outer s H vs Q E hr hg h => law_pass T m_law_take m_law_pot m_law_kinds m_law_written m_law_right m_least_size m_is_finite hr hg h
theorem walk {l : PySem.W.OpenLaw} {q : Program} {loose : List Str} {XP : (Str → Option Value) → Heap → Prop} {YP : World → Heap → Prop} {d : DefRec} {K : Params → PySem.W.Frag} (hn : l.most = some 63) (hdf : d.params.defaults = [])
    (hY : ∀ (w : World) (h : Heap), YP w h → (K w.params).In h)
    (F : ∀ (w : World) (mg : Str → Option Value) (fa : Addr) (h : Heap), (K w.params).In h → h.Ns mainGlobals mg → mg d.name = some (.ref fa) →
      ∃ fd : FuncData, (∀ (s : Shared) (u : Value), BindsTo s fd ⟨[u], []⟩ [("script", u)]) ∧ ∀ base : Heap, (K w.params).In base → base.Ns mainGlobals mg → LawOk l.prog w (K w.params) mg base fa fd ["script"] (spLaw (K w.params))) :
    PySem.W.WalkO q loose XP YP l.row.toRowW d [] (fun f vs => PySem.call f vs) :=
  walk_law (n := 63) (x := "script") (sp := fun w => spLaw (K w.params)) hn (by decide) hdf hY F fun w H a ns hl bits only hS => ⟨a, ns, rfl, hS, by omega, fun _ => rfl⟩
end Md
open PySem PySem.W PyProof.Rows
set_option maxRecDepth 100000 in
set_option maxHeartbeats 0 in
theorem PySem.Challenge.cw_madesure_k03_least_sizes_and_ends_holds : PySem.Challenge.rw_madesure_k03_least_sizes_and_ends.Holds := by
  w_on; o_law; k_head; (case hw => w_witness2)
  k_fill
  refine Md.walk (l := PySem.Challenge.rw_madesure_k03_least_sizes_and_ends) rfl rfl (fun w h Y => PySem.W.kIn_of Y) ?F
  case F =>
    intro w mg fa h KX G hmg
    refine' Md.all_mk KX G hmg ?a0 ?l0 ?b0 ?k0 ?a1 ?l1 ?b1 ?k1 ?a2 ?l2 ?b2 ?k2 ?a3 ?l3 ?b3 ?k3 ?a4 ?l4 ?b4 ?k4 ?a5 ?l5 ?b5 ?k5 ?a6 ?l6 ?b6 ?k6 ?a7 ?l7 ?b7 ?k7 ?a8 ?l8 ?b8 ?k8 ?a9 ?l9 ?b9 ?k9 ?a10 ?l10 ?b10 ?k10 ?a11 ?l11 ?b11 ?k11 ?a12 ?l12 ?b12 ?k12 ?a13 ?l13 ?b13 ?k13 ?a14 ?l14 ?b14 ?k14 ?a15 ?l15 ?b15 ?k15 ?a16 ?l16 ?b16 ?k16 ?a17 ?l17 ?b17 ?k17 ?a18 ?l18 ?b18 ?k18 ?a19 ?l19 ?b19 ?k19 ?a20 ?l20 ?b20 ?k20 ?a21 ?l21 ?b21 ?k21 ?a22 ?l22 ?b22 ?k22 ?a23 ?l23 ?b23 ?k23 ?a24 ?l24 ?b24 ?k24 ?a25 ?l25 ?b25 ?k25 ?a26 ?l26 ?b26 ?k26 ?a27 ?l27 ?b27 ?k27 ?z_abs ?z_all ?z_bool ?z_int ?z_isinstance ?z_len ?z_max ?z_min ?z_range ?z_repr ?z_set ?z_str ?z_sum ?z_tuple ?g_MARK ?g_WORDS ?t_WORDS ?y_WORDS ?g_MOST_LETTERS ?g_MOST_KINDS ?g_MOST_MAKERS ?g_MOST_PARTS
    (case a0 => k_is); (case l0 => k_is); (case b0 => k_is); (case k0 => k_is)
    (case a1 => k_is); (case l1 => k_is); (case b1 => k_is); (case k1 => k_is)
    (case a2 => k_is); (case l2 => k_is); (case b2 => k_is); (case k2 => k_is)
    (case a3 => k_is); (case l3 => k_is); (case b3 => k_is); (case k3 => k_is)
    (case a4 => k_is); (case l4 => k_is); (case b4 => k_is); (case k4 => k_is)
    (case a5 => k_is); (case l5 => k_is); (case b5 => k_is); (case k5 => k_is)
    (case a6 => k_is); (case l6 => k_is); (case b6 => k_is); (case k6 => k_is)
    (case a7 => k_is); (case l7 => k_is); (case b7 => k_is); (case k7 => k_is)
    (case a8 => k_is); (case l8 => k_is); (case b8 => k_is); (case k8 => k_is)
    (case a9 => k_is); (case l9 => k_is); (case b9 => k_is); (case k9 => k_is)
    (case a10 => k_is); (case l10 => k_is); (case b10 => k_is); (case k10 => k_is)
    (case a11 => k_is); (case l11 => k_is); (case b11 => k_is); (case k11 => k_is)
    (case a12 => k_is); (case l12 => k_is); (case b12 => k_is); (case k12 => k_is)
    (case a13 => k_is); (case l13 => k_is); (case b13 => k_is); (case k13 => k_is)
    (case a14 => k_is); (case l14 => k_is); (case b14 => k_is); (case k14 => k_is)
    (case a15 => k_is); (case l15 => k_is); (case b15 => k_is); (case k15 => k_is)
    (case a16 => k_is); (case l16 => k_is); (case b16 => k_is); (case k16 => k_is)
    (case a17 => k_is); (case l17 => k_is); (case b17 => k_is); (case k17 => k_is)
    (case a18 => k_is); (case l18 => k_is); (case b18 => k_is); (case k18 => k_is)
    (case a19 => k_is); (case l19 => k_is); (case b19 => k_is); (case k19 => k_is)
    (case a20 => k_is); (case l20 => k_is); (case b20 => k_is); (case k20 => k_is)
    (case a21 => k_is); (case l21 => k_is); (case b21 => k_is); (case k21 => k_is)
    (case a22 => k_is); (case l22 => k_is); (case b22 => k_is); (case k22 => k_is)
    (case a23 => k_is); (case l23 => k_is); (case b23 => k_is); (case k23 => k_is)
    (case a24 => k_is); (case l24 => k_is); (case b24 => k_is); (case k24 => k_is)
    (case a25 => k_is); (case l25 => k_is); (case b25 => k_is); (case k25 => k_is)
    (case a26 => k_is); (case l26 => k_is); (case b26 => k_is); (case k26 => k_is)
    (case a27 => k_is); (case l27 => k_is); (case b27 => k_is); (case k27 => k_is)
    (case z_abs => k_is)
    (case z_all => k_is)
    (case z_bool => k_is)
    (case z_int => k_is)
    (case z_isinstance => k_is)
    (case z_len => k_is)
    (case z_max => k_is)
    (case z_min => k_is)
    (case z_range => k_is)
    (case z_repr => k_is)
    (case z_set => k_is)
    (case z_str => k_is)
    (case z_sum => k_is)
    (case z_tuple => k_is)
    (case g_MARK => exact ⟨_, by k_is, ⟨_, rfl⟩⟩)
    (case g_WORDS => k_is); (case t_WORDS => k_is)
    (case y_WORDS => exact ⟨by decide, .cons ⟨_, rfl⟩ (.cons ⟨_, rfl⟩ (.cons ⟨_, rfl⟩ (.cons ⟨_, rfl⟩ (.cons ⟨_, rfl⟩ (.cons ⟨_, rfl⟩ (.cons ⟨_, rfl⟩ (.cons ⟨_, rfl⟩ (.nil))))))))⟩)
    (case g_MOST_LETTERS => exact ⟨_, by k_is, ⟨_, rfl⟩⟩)
    (case g_MOST_KINDS => exact ⟨_, by k_is, ⟨_, rfl⟩⟩)
    (case g_MOST_MAKERS => exact ⟨_, by k_is, ⟨_, rfl⟩⟩)
    (case g_MOST_PARTS => exact ⟨_, by k_is, ⟨_, rfl⟩⟩)
#print axioms PySem.Challenge.cw_madesure_k03_least_sizes_and_ends_holds

