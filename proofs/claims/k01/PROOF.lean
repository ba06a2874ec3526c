import PyProof.Rows.All
import Wide.All
import OpenK.AllK
import Wide.FinOn
import HandS.Base
import HandS.Call
import HandS.List
import HandS.Comp
import HandS.Ends
import HandS.EndBits
import HandS.Dict
import HandS.Iter
import HandS.Text
import HandS.Words
import HandS.WordsList
import HandS.Wide
import HandS.Zip
import HandS.Conv
import HandS.Strs
import HandS.NoneIn
import HandS.IsInst
import HandS.Walk
import HandS.TupAny
import HandS.TupMul
import HandS.Codes
import HandS.More
import HandS.WordsDict
import HandS.TupLe
import HandS.SetKeys
import KE.KDictPairs
import KE.GoesMore
import PyProof.ReprRoads
import PySem.Challenge.RW_madesure_k01_names_and_kinds_known
import PyProof.EqKinds
import PyProof.FactsAll.dict
import PyProof.CallFns
set_option Elab.async false
set_option maxRecDepth 100000
set_option linter.all false
namespace Md
open PySem PySem.Spec PyProof.Rows L2

/-! ### what a call leaves alone -/
structure Kp (S : List Addr) (H H' : Hp) : Prop where
  old : ∀ b o, H b = some o → b ∉ S → H' b = some o
  tup : ∀ b xs, H b = some (.tup xs) → H' b = some (.tup xs)
  frz : ∀ b o u, H b = some (.frz o u) → H' b = some (.frz o u)
section
variable {K : PySem.W.Frag} {S T : List Addr} {H H1 H2 : Hp} {a p : Addr} {xs : List V} {o : HO}
theorem Kp.refl : Kp S H H := ⟨fun _ _ h _ => h, fun _ _ h => h, fun _ _ _ h => h⟩
theorem Kp.trans (x : Kp S H H1) (y : Kp S H1 H2) : Kp S H H2 :=
  ⟨fun b o h n => y.old b o (x.old b o h n) n, fun b xs h => y.tup b xs (x.tup b xs h), fun b o u h => y.frz b o u (x.frz b o u h)⟩
theorem Kp.mono (x : Kp S H H1) (h : ∀ b ∈ S, b ∈ T) : Kp T H H1 := ⟨fun b o e n => x.old b o e fun z => n (h b z), x.tup, x.frz⟩
theorem Kp.new (h : H p = none) : Kp S H (upd H p o) :=
  ⟨fun b u e _ => by rw [upd_ne (ne_of_none e h)]; exact e, fun b u e => by rw [upd_ne (ne_of_none e h)]; exact e, fun b u w e => by rw [upd_ne (ne_of_none e h)]; exact e⟩
theorem Kp.wr (h : H p = some (.lst xs)) (m : p ∈ S) : Kp S H (upd H p o) :=
  ⟨fun b u e n => by rw [upd_ne (fun z : b = p => n (by rw [z]; exact m))]; exact e, fun b u e => by rw [upd_ne (ne_of e h (by intro z; cases z))]; exact e,
   fun b u w e => by rw [upd_ne (ne_of e h (by intro z; cases z))]; exact e⟩
theorem Kp.wrD {kvs : List (Key × V)} (h : H p = some (.dK kvs)) (m : p ∈ S) : Kp S H (upd H p o) :=
  ⟨fun b u e n => by rw [upd_ne (fun z : b = p => n (by rw [z]; exact m))]; exact e, fun b u e => by rw [upd_ne (ne_of e h (by intro z; cases z))]; exact e,
   fun b u w e => by rw [upd_ne (ne_of e h (by intro z; cases z))]; exact e⟩
theorem Kp.new' (x : Kp S H H1) (h : H1 p = none) : Kp S H (upd H1 p o) := x.trans (Kp.new h)
/-- what was not there may be written freely -/
theorem Kp.own (x : Kp S H H1) (h : H p = none) : Kp S H (upd H1 p o) :=
  ⟨fun b u e n => by rw [upd_ne (ne_of_none e h)]; exact x.old b u e n, fun b u e => by rw [upd_ne (ne_of_none e h)]; exact x.tup b u e,
   fun b u w e => by rw [upd_ne (ne_of_none e h)]; exact x.frz b u w e⟩
/-- .. by a call that writes it -/
theorem Kp.sub (x : Kp S H H1) (y : Kp T H1 H2) (h : ∀ b ∈ T, b ∈ S ∨ H b = none) : Kp S H H2 :=
  ⟨fun b o e n => y.old b o (x.old b o e n) fun z => (h b z).elim n fun q => (by rw [e] at q; cases q), fun b xs e => y.tup b xs (x.tup b xs e), fun b o u e => y.frz b o u (x.frz b o u e)⟩
theorem Kp.free (x : Kp S H H1) (h : H1 p = none) (m : p ∉ S) : H p = none := by
  cases e : H p with
  | none => rfl
  | some o => rw [x.old p o e m] at h; cases h
theorem Kp.sqt (x : Kp S H H1) (h : SqT K H a xs) : SqT K H1 a xs := by
  rcases h with (h | ⟨o, h⟩) | h
  · exact .inl (.inl (x.tup _ _ h))
  · exact .inl (.inr ⟨o, x.frz _ _ _ h⟩)
  · exact .inr h
theorem Kp.sql (x : Kp S H H1) (h : SqL K H a xs) (m : a ∉ S) : SqL K H1 a xs := by
  rcases h with (h | ⟨o, h⟩) | h
  · exact .inl (.inl (x.old _ _ h m))
  · exact .inl (.inr ⟨o, x.frz _ _ _ h⟩)
  · exact .inr h
end
/-! ### the pot of drawn numbers -/
def PotOk (H : Hp) (p : Addr) (n : Nat) : Prop := ∃ x y z : Int, H p = some (.lst [.int x, .int y, .int z]) ∧ 0 ≤ x ∧ 0 ≤ y ∧ y < 2305843009213693951 ∧ 0 ≤ z ∧ z ≤ n
def spTake : Sp := fun vs H Q _ => ∃ (p : Addr) (m : Int) (n : Nat), vs = [.ref p, .int m] ∧ PotOk H p n ∧ 0 < m ∧ m < 1073741824 ∧ n ≤ 1000000 ∧
  ∀ (r : Int) (H' : Hp), 0 ≤ r → r < m → PotOk H' p (n + 1) → Kp [p] H H' → Q (.int r) H'

/-! ### comprehensions -/
section
variable {J : It} {n : Nat} {G : Hp → Prop} {Y : Nat → Hp → V → Hp → Prop} {S : List Addr} {D : Addr} {H : Hp} {g : TG} {tt : TT} {te : TE} {vs : List Nat} {σ : L2.St} {Qd : Hp → Prop}
/-- a comprehension whose items are plain values: out i is the i-th one's, or none where it is left out -/
theorem lcW (wk : Walk J n G Y) (out : Nat → Option V) (hD : H D = none) (hS : D ∉ S) (hz : n < sizeLine) (hG : ∀ H', Kp S H H' → G H')
    (hs : ∀ i x H' H'' (C : V → Hp → Prop) (N : Hp → Prop), i < n → Kp S H H' → Y i H' x H'' → (∀ y H4, Kp S H' H4 → out i = some y → C y H4) → (∀ H4, Kp S H' H4 → out i = none → N H4) →
      g x (wipe σ vs) H'' fun σ2 H2 => wipe σ2 vs = wipe σ vs ∧ tt σ2 H2 fun b H3 => if b = true then te σ2 H3 C else N H3)
    (hd : ∀ H', Kp S H H' → H' D = some (.lst ((List.range n).filterMap out)) → Qd H') :
    ∃ W : Nat → Nat → Hp → Prop, (∃ m, W 0 m (upd H D (.lst []))) ∧ ∀ i m H, W i m H → (J.stop i H ∧ Qd H) ∨ (J.go i H ∧ ∃ Nx : Hp → Prop, (∀ H', Nx H' → ∃ m', m' < m ∧ W (i + 1) m' H') ∧
      ∀ x H', J.yld i H x H' → g x (wipe σ vs) H' fun σ2 H2 => wipe σ2 vs = wipe σ vs ∧ tt σ2 H2 fun b H3 => if b = true then te σ2 H3 fun y H4 => ∃ acc, H4 D = some (.lst acc) ∧ acc.length < sizeLine ∧ Nx (upd H4 D (.lst (acc ++ [y]))) else Nx H3) := by
  have len : ∀ i, ((List.range i).filterMap out).length ≤ i := fun i => Nat.le_trans (List.length_filterMap_le _ _) (by rw [List.length_range]; exact Nat.le_refl _)
  refine lc_it wk (fun i H' => Kp S H H' ∧ H' D = some (.lst ((List.range i).filterMap out))) ⟨Kp.new hD, upd_same⟩ (fun i H' _ p => hG H' p.1) ?_ (fun H' p => hd H' p.1 p.2)
  intro i x H' H'' hi p y
  refine hs i x H' H'' _ _ hi p.1 y (fun v H4 k e => ⟨_, k.old _ _ p.2 hS, Nat.lt_of_le_of_lt (len i) (by omega), (p.1.trans k).own hD, ?_⟩) (fun H4 k e => ⟨p.1.trans k, ?_⟩)
  · rw [upd_same, List.range_succ, List.filterMap_append]; simp [e]
  · rw [k.old _ _ p.2 hS, List.range_succ, List.filterMap_append]; simp [e]
/-- .. whose items are objects: R tells of each what it is -/
theorem lcR (wk : Walk J n G Y) (R : Nat → V → Hp → Prop) (mono : ∀ i y H1 H2 T, Kp T H1 H2 → R i y H1 → R i y H2) (hD : H D = none) (hS : D ∉ S) (hz : n < sizeLine) (hG : ∀ H', Kp S H H' → G H')
    (hs : ∀ i x H' H'' (C : V → Hp → Prop), i < n → Kp S H H' → Y i H' x H'' → (∀ y H4, Kp S H' H4 → R i y H4 → C y H4) → g x (wipe σ vs) H'' fun σ2 H2 => wipe σ2 vs = wipe σ vs ∧ te σ2 H2 C)
    (hd : ∀ H' ys, Kp S H H' → H' D = some (.lst ys) → ys.length = n → (∀ i y, ys[i]? = some y → R i y H') → Qd H') :
    ∃ W : Nat → Nat → Hp → Prop, (∃ m, W 0 m (upd H D (.lst []))) ∧ ∀ i m H, W i m H → (J.stop i H ∧ Qd H) ∨ (J.go i H ∧ ∃ Nx : Hp → Prop, (∀ H', Nx H' → ∃ m', m' < m ∧ W (i + 1) m' H') ∧
      ∀ x H', J.yld i H x H' → g x (wipe σ vs) H' fun σ2 H2 => wipe σ2 vs = wipe σ vs ∧ tYes σ2 H2 fun b H3 => if b = true then te σ2 H3 fun y H4 => ∃ acc, H4 D = some (.lst acc) ∧ acc.length < sizeLine ∧ Nx (upd H4 D (.lst (acc ++ [y]))) else Nx H3) := by
  have sub : ∀ (A B : Prop), A → (if true = true then A else B) := fun A B a => by rw [if_pos rfl]; exact a
  refine lc_it wk (fun i H' => Kp S H H' ∧ ∃ ys : List V, H' D = some (.lst ys) ∧ ys.length = i ∧ ∀ j y, ys[j]? = some y → R j y H') ⟨Kp.new hD, [], upd_same, rfl, fun j y e => by simp at e⟩ (fun i H' _ p => hG H' p.1) ?_ (fun H' p => ?_)
  · intro i x H' H'' hi p y
    obtain ⟨p1, ys, p2, p3, p4⟩ := p
    have q := hs i x H' H'' (fun y H4 => ∃ acc, H4 D = some (.lst acc) ∧ acc.length < sizeLine ∧ (Kp S H (upd H4 D (.lst (acc ++ [y]))) ∧ ∃ ys : List V, upd H4 D (.lst (acc ++ [y])) D = some (.lst ys) ∧ ys.length = i + 1 ∧ ∀ j z, ys[j]? = some z → R j z (upd H4 D (.lst (acc ++ [y]))))) hi p1 y
      (fun v H4 k e => ⟨ys, k.old _ _ p2 hS, by omega, (p1.trans k).own hD, ys ++ [v], upd_same, by simp [p3], fun j z ez => ?_⟩)
    · exact q
    · have kd : Kp (D :: S) H4 (upd H4 D (.lst (ys ++ [v]))) := Kp.wr (k.old _ _ p2 hS) (by simp)
      by_cases hj : j < ys.length
      · rw [List.getElem?_append_left hj] at ez
        exact mono j z _ _ _ kd (mono j z _ _ _ k (p4 j z ez))
      · have hj2 : j = ys.length := by
          have := (List.getElem?_eq_some_iff.mp ez).1
          rw [List.length_append] at this
          simp at this
          omega
        subst hj2
        rw [List.getElem?_append_right (Nat.le_refl _)] at ez
        simp at ez
        subst ez
        rw [p3]
        exact mono i v _ _ _ kd e
  · obtain ⟨p1, ys, p2, p3, p4⟩ := p
    exact hd H' ys p1 p2 p3 p4
end

section
variable {J : It} {n : Nat} {G : Hp → Prop} {Y : Nat → Hp → V → Hp → Prop} {S : List Addr} {D : Addr} {H H0 : Hp} {g : TG} {tt : TT} {te : TE} {vs : List Nat} {σ : L2.St} {Qd : Hp → Prop} {B : L2.St → Hp → (Hp → Prop) → Prop}
/-- the outer loop of a comprehension of two: outs i is what stands there behind i of its items -/
theorem lcO (wk : Walk J n G Y) (outs : Nat → List V) (h0 : outs 0 = []) (hD : H D = none) (hG : ∀ H', Kp S H H' → G H')
    (hs : ∀ i x H' H'', i < n → Kp S H H' → H' D = some (.lst (outs i)) → Y i H' x H'' → g x (wipe σ vs) H'' fun σ2 H2 => wipe σ2 vs = wipe σ vs ∧ tt σ2 H2 fun b H3 =>
      if b = true then B σ2 H3 (fun H4 => Kp S H H4 ∧ H4 D = some (.lst (outs (i + 1)))) else Kp S H H3 ∧ H3 D = some (.lst (outs (i + 1))))
    (hd : ∀ H', Kp S H H' → H' D = some (.lst (outs n)) → Qd H') :
    ∃ W : Nat → Nat → Hp → Prop, (∃ m, W 0 m (upd H D (.lst []))) ∧ ∀ i m H, W i m H → (J.stop i H ∧ Qd H) ∨ (J.go i H ∧ ∃ Nx : Hp → Prop, (∀ H', Nx H' → ∃ m', m' < m ∧ W (i + 1) m' H') ∧
      ∀ x H', J.yld i H x H' → g x (wipe σ vs) H' fun σ2 H2 => wipe σ2 vs = wipe σ vs ∧ tt σ2 H2 fun b H3 => if b = true then B σ2 H3 Nx else Nx H3) := by
  refine ⟨fun i m H' => m = n - i ∧ i ≤ n ∧ Kp S H H' ∧ H' D = some (.lst (outs i)), ⟨n, by simp, Nat.zero_le _, Kp.new hD, by rw [h0]; exact upd_same⟩, ?_⟩
  rintro i m H' ⟨rfl, hi, p, e⟩
  by_cases hlt : i < n
  · refine .inr ⟨wk.goes i H' hlt (hG H' p), fun H4 => Kp S H H4 ∧ H4 D = some (.lst (outs (i + 1))), fun H4 z => ⟨n - (i + 1), by omega, rfl, hlt, z.1, z.2⟩, fun x H'' y => ?_⟩
    exact hs i x H' H'' hlt p e (wk.yields i H' x H'' hlt (hG H' p) y)
  · have e' : i = n := by omega
    subst e'
    exact .inl ⟨wk.stops H' (hG H' p), hd H' p e⟩
/-- its inner loop, from acc on -/
theorem lcI (wk : Walk J n G Y) (out : Nat → Option V) (acc0 : List V) (hD : H D = none) (hS : D ∉ S) (k0 : Kp S H H0) (hacc : H0 D = some (.lst acc0)) (hz : acc0.length + n < sizeLine) (hG : ∀ H', Kp S H H' → G H')
    (hs : ∀ i x H' H'' (C : V → Hp → Prop) (N : Hp → Prop), i < n → Kp S H H' → Y i H' x H'' → (∀ y H4, Kp S H' H4 → out i = some y → C y H4) → (∀ H4, Kp S H' H4 → out i = none → N H4) →
      g x (wipe σ vs) H'' fun σ2 H2 => wipe σ2 vs = wipe σ vs ∧ tt σ2 H2 fun b H3 => if b = true then te σ2 H3 C else N H3)
    (hd : ∀ H', Kp S H H' → H' D = some (.lst (acc0 ++ (List.range n).filterMap out)) → Qd H') :
    ∃ W : Nat → Nat → Hp → Prop, (∃ m, W 0 m H0) ∧ ∀ i m H, W i m H → (J.stop i H ∧ Qd H) ∨ (J.go i H ∧ ∃ Nx : Hp → Prop, (∀ H', Nx H' → ∃ m', m' < m ∧ W (i + 1) m' H') ∧
      ∀ x H', J.yld i H x H' → g x (wipe σ vs) H' fun σ2 H2 => wipe σ2 vs = wipe σ vs ∧ tt σ2 H2 fun b H3 => if b = true then te σ2 H3 fun y H4 => ∃ acc, H4 D = some (.lst acc) ∧ acc.length < sizeLine ∧ Nx (upd H4 D (.lst (acc ++ [y]))) else Nx H3) := by
  have len : ∀ i, ((List.range i).filterMap out).length ≤ i := fun i => Nat.le_trans (List.length_filterMap_le _ _) (by rw [List.length_range]; exact Nat.le_refl _)
  refine ⟨fun i m H' => m = n - i ∧ i ≤ n ∧ Kp S H H' ∧ H' D = some (.lst (acc0 ++ (List.range i).filterMap out)), ⟨n, by simp, Nat.zero_le _, k0, by simpa using hacc⟩, ?_⟩
  rintro i m H' ⟨rfl, hi, p, e⟩
  by_cases hlt : i < n
  · refine .inr ⟨wk.goes i H' hlt (hG H' p), fun H4 => Kp S H H4 ∧ H4 D = some (.lst (acc0 ++ (List.range (i + 1)).filterMap out)), fun H4 z => ⟨n - (i + 1), by omega, rfl, hlt, z.1, z.2⟩, fun x H'' y => ?_⟩
    refine hs i x H' H'' _ _ hlt p (wk.yields i H' x H'' hlt (hG H' p) y) (fun v H4 k ev => ⟨_, k.old _ _ e hS, ?_, (p.trans k).own hD, ?_⟩) (fun H4 k ev => ⟨p.trans k, ?_⟩)
    · rw [List.length_append]
      have := len i
      omega
    · rw [upd_same, List.range_succ, List.filterMap_append]; simp [ev]
    · rw [k.old _ _ e hS, List.range_succ, List.filterMap_append]; simp [ev]
  · have e' : i = n := by omega
    subst e'
    exact .inl ⟨wk.stops H' (hG H' p), hd H' p e⟩
end
/-! ### a def of the text where the top has left it -/
structure DefAt (K : PySem.W.Frag) (mg : Str → Option Value) (x : Str) (st : Stmt) (ps : List Str) : Prop where
  ex : ∃ (f : Addr) (fd : FuncData), Fun K x x st f fd ∧ mg x = some (.ref f) ∧ Binds K fd ps []
theorem DefAt.cal {P : Program} {w : World} {K : PySem.W.Frag} {mg : Str → Option Value} {base : Heap} {x : Str} {st : Stmt} {N ps : List Str} {k : Nat} {sp : Sp} (D : DefAt K mg x st ps) (S : FnScope N ps (defScope st))
    (len : ∀ vs H Q E, sp vs H Q E → vs.length = ps.length)
    (hbody : ∀ (f : Addr) (cdv : Value) (A : Around) (outer : List Env) (s : Shared) (H : Hp) (vs : List V) (Q : VK) (E : XK), Room k (A.deeper (envOfC x (defScope st) s.heap.objs.size f cdv)) → sp vs H Q E →
      ∃ t, PSs (cxOf CX0 P w K mg base N x (defScope st) f cdv A outer s H E).nox (defBody st) t ∧ t { nx := fun _ H' => Q .non H', rt := Q } (start N vs) H) :
    C8.Cal P w K mg base (k + 1) x sp [] := by
  obtain ⟨f, fd, F, hm, hb⟩ := D.ex
  exact ⟨f, fd, ps, [], F.ok S len (hbody f), hm, F.kp, hb, .nil⟩
theorem h64 {A : Around} {k : Nat} (hr : Room k A) : A.units + 64 < cLine := hr.units
end Md

namespace Md
open PySem PySem.Spec PyProof.Rows L2

/-! ### kinds as plain data -/
abbrev Rw := Str × List Str
abbrev Kd := Str × List Rw
abbrev Kds := List Kd
def kindNames (ks : Kds) : List Str := ks.map (·.1)
def rowsOf (ks : Kds) : List Rw := ks.flatMap (·.2)
def makerNames (ks : Kds) : List Str := (rowsOf ks).map (·.1)
def allNames (ks : Kds) : List Str := kindNames ks ++ makerNames ks
def wordsL : List Str := ["mark", "part", "same", "test", "sum", "not", "both", "either"]
def isName (x : Str) : Bool := decide (1 ≤ x.length) && decide (x.length ≤ 8) && !wordsL.contains x && x.cps.toList.all fun c => decide (97 ≤ c) && decide (c ≤ 122)

/-! ### as they lie in the heap -/
section
variable (K : PySem.W.Frag) (H : Hp)
def StrsT (v : V) (ps : List Str) : Prop := ∃ a, v = V.ref a ∧ SqT K H a (ps.map V.str)
def RowT (v : V) (r : Rw) : Prop := ∃ a q, v = V.ref a ∧ SqT K H a [.str r.1, q] ∧ StrsT K H q r.2
def RowsT (v : V) (rs : List Rw) : Prop := ∃ a vs, v = V.ref a ∧ SqT K H a vs ∧ Paired (RowT K H) vs rs
def KindT (v : V) (k : Kd) : Prop := ∃ a q, v = V.ref a ∧ SqT K H a [.str k.1, q] ∧ RowsT K H q k.2
def KdsT (v : V) (ks : Kds) : Prop := ∃ a vs, v = V.ref a ∧ SqT K H a vs ∧ Paired (KindT K H) vs ks
end
theorem pmap {α β : Type} {F G : α → β → Prop} (f : ∀ a b, F a b → G a b) {l₁ : List α} {l₂ : List β} (h : Paired F l₁ l₂) : Paired G l₁ l₂ := Paired.mapP h f
theorem pget {α β : Type} {F : α → β → Prop} : ∀ {l₁ : List α} {l₂ : List β}, Paired F l₁ l₂ → ∀ {i : Nat} {a : α}, l₁[i]? = some a → ∃ b, l₂[i]? = some b ∧ F a b
  | _, _, .nil, _, _, e => by simp at e
  | _, _, .cons r t, 0, a, e => by simp at e; subst e; exact ⟨_, rfl, r⟩
  | _, _, .cons r t, i + 1, a, e => by
    obtain ⟨b, h1, h2⟩ := pget t (i := i) (a := a) (by simpa using e)
    exact ⟨b, by simpa using h1, h2⟩
theorem plen {α β : Type} {F : α → β → Prop} {l₁ : List α} {l₂ : List β} (h : Paired F l₁ l₂) : l₁.length = l₂.length := Paired.length h
section
variable {K : PySem.W.Frag} {S : List Addr} {H H' : Hp} {v : V}
theorem StrsT.kp {ps : List Str} (k : Kp S H H') (h : StrsT K H v ps) : StrsT K H' v ps := let ⟨a, e, q⟩ := h; ⟨a, e, k.sqt q⟩
theorem RowT.kp {r : Rw} (k : Kp S H H') (h : RowT K H v r) : RowT K H' v r := let ⟨a, q, e, x, y⟩ := h; ⟨a, q, e, k.sqt x, y.kp k⟩
theorem RowsT.kp {rs : List Rw} (k : Kp S H H') (h : RowsT K H v rs) : RowsT K H' v rs := let ⟨a, vs, e, x, y⟩ := h; ⟨a, vs, e, k.sqt x, pmap (fun _ _ z => z.kp k) y⟩
theorem KindT.kp {d : Kd} (k : Kp S H H') (h : KindT K H v d) : KindT K H' v d := let ⟨a, q, e, x, y⟩ := h; ⟨a, q, e, k.sqt x, y.kp k⟩
theorem KdsT.kp {ks : Kds} (k : Kp S H H') (h : KdsT K H v ks) : KdsT K H' v ks := let ⟨a, vs, e, x, y⟩ := h; ⟨a, vs, e, k.sqt x, pmap (fun _ _ z => z.kp k) y⟩
end

/-! ### least sizes: the very rounds of the program -/
abbrev Szs := List (Str × Int)
def lookS (S : Szs) (x : Str) : Option Int := S.lookup x
def putS (S : Szs) (x : Str) (n : Int) : Szs := if S.any (fun p => decide (p.1 = x)) = true then S.map (fun p => if p.1 = x then (p.1, n) else p) else S ++ [(x, n)]
def sizeMade (S : Szs) (ps : List Str) : Int := 1 + (ps.map fun p => (lookS S p).getD 0).sum
def foundS (S : Szs) (rs : List Rw) : List Int := rs.filterMap fun r => if r.2.all (fun p => (lookS S p).isSome) = true then some (sizeMade S r.2) else none
def minL : List Int → Int
  | [] => 0
  | [a] => a
  | a :: b :: r => min a (minL (b :: r))
def stepK (S : Szs) (k : Kd) : Szs := if foundS S k.2 = [] then S else putS S k.1 (minL (foundS S k.2))
def roundK (ks : Kds) (S : Szs) : Szs := ks.foldl stepK S
def sizes0 : Szs := [("mark", 1)]
def sizesN (ks : Kds) : Nat → Szs
  | 0 => sizes0
  | n + 1 => roundK ks (sizesN ks n)
def leastS (ks : Kds) : Szs := sizesN ks ks.length

/-! ### good kinds -/
structure GoodK (ks : Kds) : Prop where
  l1 : 1 ≤ ks.length
  l5 : ks.length ≤ 5
  kn : ∀ k ∈ ks, isName k.1 = true
  m1 : ∀ k ∈ ks, 1 ≤ k.2.length
  m4 : ∀ k ∈ ks, k.2.length ≤ 4
  mn : ∀ k ∈ ks, ∀ r ∈ k.2, isName r.1 = true
  p3 : ∀ k ∈ ks, ∀ r ∈ k.2, r.2.length ≤ 3
  ps : ∀ k ∈ ks, ∀ r ∈ k.2, ∀ p ∈ r.2, p = "mark" ∨ p ∈ kindNames ks
  nd : (allNames ks).Nodup
  rk : ∃ rank : Str → Nat, ∀ k ∈ ks, rank k.1 < ks.length ∧ ∃ r ∈ k.2, ∀ p ∈ r.2, p = "mark" ∨ (p ∈ kindNames ks ∧ rank p < rank k.1)

def dictS (S : Szs) : List (Key × V) := S.map fun p => (Sum.inr p.1, V.int p.2)
theorem dictS_val (S : Szs) (x : Str) : valV (dictS S) (Sum.inr x : Key) = (lookS S x).map V.int := by
  induction S with
  | nil => rfl
  | cons p r ih =>
    obtain ⟨y, n⟩ := p
    by_cases e : y = x
    · subst e
      rw [show dictS ((y, n) :: r) = (Sum.inr y, V.int n) :: dictS r from rfl, valV_pos (by rfl)]
      simp [lookS, List.lookup]
    · rw [show dictS ((y, n) :: r) = (Sum.inr y, V.int n) :: dictS r from rfl, valV_neg (by intro z; exact e (Sum.inr.inj z)), ih]
      have : (x == y) = false := by simpa using fun z : x = y => e z.symm
      simp [lookS, List.lookup, this]
theorem dictS_put (S : Szs) (x : Str) (n : Int) : putK (dictS S) (Sum.inr x : Key) (V.int n) = dictS (putS S x n) := by
  have e1 : ((dictS S).any fun kv => decide (kv.1 = (Sum.inr x : Key))) = S.any fun p => decide (p.1 = x) := by
    unfold dictS
    rw [List.any_map]
    congr 1
    funext p
    show decide ((Sum.inr p.1 : Key) = Sum.inr x) = _
    exact key_rr _ _
  unfold putK putS
  rw [e1]
  split
  · unfold dictS
    rw [List.map_map, List.map_map]
    refine List.map_congr_left fun p _ => ?_
    by_cases e : p.1 = x
    · simp [e]
    · have e' : ¬ (Sum.inr p.1 : Key) = Sum.inr x := fun z => e (Sum.inr.inj z)
      simp [e, e']
  · simp [dictS]
theorem lookS_put (S : Szs) (x y : Str) (n : Int) : lookS (putS S x n) y = if y = x then some n else lookS S y := by
  have h := valV_put (dictS S) (Sum.inr x : Key) (Sum.inr y) (V.int n)
  rw [dictS_put, dictS_val, dictS_val] at h
  by_cases e : y = x
  · subst e
    rw [if_pos rfl] at h ⊢
    cases q : lookS (putS S y n) y with
    | none => rw [q] at h; cases h
    | some m => rw [q] at h; cases h; rfl
  · have e' : ¬ (Sum.inr y : Key) = Sum.inr x := fun z => e (Sum.inr.inj z)
    rw [if_neg e'] at h
    rw [if_neg e]
    cases q : lookS (putS S x n) y <;> cases q2 : lookS S y <;> rw [q, q2] at h
    · cases h
    · cases h
    · cases h; rfl
theorem putS_len (S : Szs) (x : Str) (n : Int) : (putS S x n).length ≤ S.length + 1 := by
  unfold putS
  split
  · rw [List.length_map]; omega
  · rw [List.length_append]; exact Nat.le_refl _
/-- a name that is there stays -/
theorem stepK_mono (S : Szs) (k : Kd) (x : Str) (h : (lookS S x).isSome = true) : (lookS (stepK S k) x).isSome = true := by
  unfold stepK
  split
  · exact h
  · rw [lookS_put]
    split
    · rfl
    · exact h
theorem roundK_mono : ∀ (ks : Kds) (S : Szs) (x : Str), (lookS S x).isSome = true → (lookS (roundK ks S) x).isSome = true
  | [], _, _, h => h
  | k :: ks, S, x, h => roundK_mono ks (stepK S k) x (stepK_mono S k x h)
theorem sizesN_mono (ks : Kds) (x : Str) (n : Nat) : ∀ m, (lookS (sizesN ks n) x).isSome = true → (lookS (sizesN ks (n + m)) x).isSome = true
  | 0, h => h
  | m + 1, h => roundK_mono ks _ x (sizesN_mono ks x n m h)
theorem mark_there (ks : Kds) (n : Nat) : (lookS (sizesN ks n) "mark").isSome = true := by
  have h := sizesN_mono ks "mark" 0 n (show (lookS sizes0 "mark").isSome = true by decide +kernel)
  rw [Nat.zero_add] at h
  exact h
theorem stepK_there (S : Szs) (k : Kd) (h : ∃ r ∈ k.2, ∀ p ∈ r.2, (lookS S p).isSome = true) : (lookS (stepK S k) k.1).isSome = true := by
  obtain ⟨r, hr, hp⟩ := h
  unfold stepK
  have ne : foundS S k.2 ≠ [] := by
    intro z
    unfold foundS at z
    have := (List.filterMap_eq_nil_iff.mp z) r hr
    rw [if_pos (List.all_eq_true.mpr fun p hp' => by simpa using hp p hp')] at this
    cases this
  rw [if_neg ne, lookS_put, if_pos rfl]
  rfl
theorem roundK_there : ∀ (ks : Kds) (S : Szs) (k : Kd), k ∈ ks → (∃ r ∈ k.2, ∀ p ∈ r.2, (lookS S p).isSome = true) → (lookS (roundK ks S) k.1).isSome = true
  | [], _, _, h, _ => by cases h
  | k0 :: ks, S, k, h, r => by
    rcases List.mem_cons.mp h with e | h
    · subst e
      exact roundK_mono ks _ _ (stepK_there S k r)
    · exact roundK_there ks _ k h (let ⟨r, hr, hp⟩ := r; ⟨r, hr, fun p q => stepK_mono S k0 p (hp p q)⟩)
theorem trees_there {ks : Kds} (g : GoodK ks) : ∀ k ∈ ks, (lookS (leastS ks) k.1).isSome = true := by
  obtain ⟨rank, hr⟩ := g.rk
  have main : ∀ n, ∀ k ∈ ks, rank k.1 < n → (lookS (sizesN ks n) k.1).isSome = true := by
    intro n
    induction n with
    | zero => intro k _ h; omega
    | succ n ih =>
      intro k hk h
      refine roundK_there ks _ k hk ?_
      obtain ⟨_, r, hr1, hp⟩ := hr k hk
      refine ⟨r, hr1, fun p q => ?_⟩
      rcases hp p q with e | ⟨e1, e2⟩
      · subst e; exact mark_there ks n
      · obtain ⟨k', hk', e⟩ := List.mem_map.mp e1
        subst e
        exact ih k' hk' (by omega)
  intro k hk
  exact main _ k hk (hr k hk).1

/-! ### small things -/
theorem range_bind {α β : Type} (f : α → Option β) : ∀ l : List α, (List.range l.length).filterMap (fun i => (l[i]?).bind f) = l.filterMap f
  | [] => rfl
  | a :: l => by
    rw [List.length_cons, List.range_succ_eq_map, List.filterMap_cons, List.filterMap_map]
    have ih := range_bind f l
    show (match f a with | none => _ | some b => b :: _) = _
    rw [List.filterMap_cons]
    have e : (List.range l.length).filterMap ((fun i => ((a :: l)[i]?).bind f) ∘ Nat.succ) = (List.range l.length).filterMap (fun i => (l[i]?).bind f) := rfl
    rw [e, ih]
    cases f a <;> rfl
theorem range_map {α β : Type} (f : α → β) (l : List α) : (List.range l.length).filterMap (fun i => (l[i]?).map f) = l.map f := by
  have e : (fun (i : Nat) => (l[i]?).map f) = fun (i : Nat) => (l[i]?).bind fun a => some (f a) := by
    funext i
    cases l[i]? <;> rfl
  rw [e, range_bind]
  rw [List.filterMap_eq_map']
theorem iteD {c A B : Prop} [Decidable c] (hc : c) (h : A) : if decide c = true then A else B := by rw [decide_eq_true hc]; exact iteT h
theorem iteDn {c A B : Prop} [Decidable c] (hc : ¬ c) (h : B) : if decide c = true then A else B := by rw [decide_eq_false hc]; exact iteF h
theorem iteB {c : Bool} {A B : Prop} (hc : c = true) (h : A) : if c = true then A else B := by rw [hc]; exact iteT h
theorem iteBn {c : Bool} {A B : Prop} (hc : c = false) (h : B) : if c = true then A else B := by rw [hc]; exact iteF h
theorem inV_strs (x : Str) (ws : List Str) : inV (.str x) (ws.map V.str) = ws.contains x := by
  induction ws with
  | nil => rfl
  | cons a r ih =>
    show (eqV (.str a) (.str x) || inV (.str x) (r.map V.str)) = _
    rw [ih]
    show ((a == x) || r.contains x) = _
    rw [List.contains_cons]
    congr 1
    by_cases e : a = x
    · subst e; simp
    · rw [beq_eq_false_iff_ne.mpr e, beq_eq_false_iff_ne.mpr (Ne.symm e)]
theorem flats (ws : List Str) : (ws.map V.str).all flatV = true := by rw [List.all_map]; exact List.all_eq_true.mpr fun _ _ => rfl
theorem lt_one (c d : Nat) : decide ((⟨#[c]⟩ : Str).cps.toList < (⟨#[d]⟩ : Str).cps.toList) = decide (c < d) := by
  by_cases h : c < d
  · have h1 : [c] < [d] := List.cons_lt_cons_iff.mpr (.inl h)
    rw [decide_eq_true h]
    exact decide_eq_true h1
  · have h1 : ¬ [c] < [d] := fun z => by
      rcases List.cons_lt_cons_iff.mp z with q | ⟨_, q⟩
      · exact h q
      · cases q
    rw [decide_eq_false h]
    exact decide_eq_false h1
end Md

set_option maxHeartbeats 4000000
namespace Md
open PySem PySem.Spec PyProof.Rows L2
section
variable {X : Cx}
/-- a ** b of great whole numbers -/
theorem op_powB : OpR X (binaryOp .Pow) (rI (fun i j => 0 ≤ j ∧ (Builtin.Int.intBits i : Int) * j ≤ 2 ^ 27) fun i j => .int (i ^ j.toNat)) := opI fun _ _ _ _ _ _ _ hc q => pow_int hc.1 hc.2 q
/-- x in d, d a dict -/
def rInDct : R2 := fun x y H Q => ∃ a o, y = .ref a ∧ DGet H a x o ∧ Q (.bl o.isSome) H
theorem op_in_dct (hu : X.A.units + 1 < cLine) : OpR X (compareOp .In) rInDct := by
  intro pins s σ H x y v u Q I rx ry h
  obtain ⟨a, o, rfl, g, q⟩ := h
  cases ry
  exact d_in hu I g rx fun s3 I3 => ⟨.bl o.isSome, H, I3, rfl, q⟩

/-! ### tuples of which also the object is known: such may be handed to dict() -/
/-- a tuple made here, by its very object -/
def TupO (H : Hp) (a : Addr) (xs : List V) : Prop := ∃ o : Obj, H a = some (.frz o (.tup xs)) ∧ o.dict = none
theorem TupO.sq {K : PySem.W.Frag} {H : Hp} {a : Addr} {xs : List V} (h : TupO H a xs) : SqT K H a xs := let ⟨o, e, _⟩ := h; .inl (.inr ⟨o, e⟩)
theorem TupO.kp {S : List Addr} {H H' : Hp} {a : Addr} {xs : List V} (k : Kp S H H') (h : TupO H a xs) : TupO H' a xs := let ⟨o, e, d⟩ := h; ⟨o, k.frz _ _ _ e, d⟩
/-- what is told of a new tuple by its object -/
def NewO (H : Hp) (xs : List V) (Q : VK) : Prop := ∀ (p : Addr) (o : Obj), H p = none → o.dict = none → Q (.ref p) (upd H p (.frz o (.tup xs)))
theorem newO_laid {pins : List (Addr × Obj)} {σ : L2.St} {H : Hp} {s : Shared} {h1 : Heap} {xs : List V} {us : List Value} {n : Nat} {Q : VK} (I : Inv X pins σ H { s with heap := h1 }) (r : Vals xs us) (hz : xs.length ≤ sizeLine) (q : NewO H xs Q) :
    EP X pins σ Q (.ref h1.objs.size) { s with heap := h1.push { cls := .type "tuple", data := .seq us.toArray n } } := by
  have hf : H h1.objs.size = none := I.hok.fresh (Nat.le_refl _)
  refine ⟨.ref h1.objs.size, upd H h1.objs.size (.frz { cls := .type "tuple", data := .seq us.toArray n } (.tup xs)), ?_, rfl, q _ _ hf rfl⟩
  exact I.laid (t' := s.toks) (fun b u e => Heap.get?_push_of_some _ e) (Nat.le_refl _) ⟨Heap.get?_push_size _ rfl, hz, us, r, ⟨_, Heap.get?_push_size _ rfl, rfl, _, rfl⟩⟩
def tTupO (t : TA) : TE := fun σ H Q => t σ H fun xs H1 => xs.length ≤ sizeLine ∧ NewO H1 xs Q
theorem pe_tupO {es : List Expr} {t : TA} {x1} {pos : Pos} (h : PA X es t) : PE X (.Tuple es x1 pos) (tTupO t) := by
  refine ⟨fun pins s σ H Q I hq => ?_⟩
  refine wpAny_Tuple_spliced (thn (h.run pos pins s σ H _ I hq) fun us s1 ⟨xs, H1, I1, r, z, q⟩ => ⟨by rw [← r.length]; exact z, ?_⟩)
  exact newO_laid I1 r z q
theorem call_tupleO : CallR X (.type "tuple") (fun xs H Q => ∃ p ys, xs = [.ref p] ∧ SqL X.K H p ys ∧ NewO H ys Q) := by
  intro pins s σ H xs us Q I r h
  obtain ⟨p, ys, rfl, hq, q⟩ := h
  obtain ⟨u, rfl, rx⟩ := vals1 r
  cases rx
  obtain ⟨its, r', pl, hz⟩ := I.list hq
  have hlen := r'.length
  refine call_tuple_list pl.isList (fun h' kp => ?_) (by simp only [List.size_toArray]; omega)
  exact newO_laid (I.kept (t' := s.toks) kp) r' hz q
/-- t + u of two that are not empty -/
theorem op_catO : OpR X (binaryOp .Add) (fun x y H Q => ∃ a b xs ys, x = .ref a ∧ y = .ref b ∧ SqT X.K H a xs ∧ SqT X.K H b ys ∧ xs ≠ [] ∧ ys ≠ [] ∧ xs.length + ys.length ≤ sizeLine ∧ NewO H (xs ++ ys) Q) := by
  intro pins s σ H x y v u Q I rx ry h
  obtain ⟨a, b, xs, ys, rfl, rfl, ha, hb, hx, hy, hz, q⟩ := h
  cases rx
  cases ry
  obtain ⟨i1, r1, p1, _⟩ := I.tuple ha
  obtain ⟨i2, r2, p2, _⟩ := I.tuple hb
  refine HT.cat_tup p1 p2 (fun z => hx (r1.nil_iff.mp z)) (fun z => absurd (r2.nil_iff.mp z) hy) (fun z => ?_) (by rw [← r1.length, ← r2.length]; exact hz)
  exact newO_laid (h1 := s.heap) (s := s) (I.tok s.toks) (r1.append r2) (by rw [List.length_append]; exact hz) q
/-- dict(t), t a tuple of pairs -/
theorem call_dictT (hcalm : X.calm = true) : CallR X (.type "dict") (fun xs H Q => ∃ (a : Addr) (ps : List Addr) (kvs : List (Key × V)), xs = [.ref a] ∧ TupO H a (ps.map V.ref) ∧ Paired (fun p kv => SqT X.K H p [kV kv.1, kv.2]) ps kvs ∧
    ∀ p, H p = none → Q (.ref p) (upd H p (.dK (mergeK [] kvs)))) := by
  intro pins s σ H xs us Q I r q
  obtain ⟨a, ps, kvs, rfl, ⟨o, ho, hd⟩, hp, q⟩ := q
  obtain ⟨u, rfl, rx⟩ := vals1 r
  cases rx
  obtain ⟨hg, hz, its, rv, ⟨o', ho', hc, n, hdat⟩⟩ := (show ObjOk X.prog X.w H s.heap a (.frz o (.tup (ps.map V.ref))) from I.hok a _ ho)
  rw [hg] at ho'
  cases ho'
  have ei := refs_at rv
  subst ei
  rw [List.length_map] at hz
  obtain ⟨prs, rel, hl, hpr⟩ := pairs_of I hp
  let Ts : Nat → Addr := fun j => ps.getD j 0
  have hu : ∀ (j : Nat) (e : Key × Value), prs[j]? = some e → ∃ u, ps[j]? = some (Ts j) ∧ IsTup s.heap (Ts j) #[u, e.2] ∧ keyIs e.1 u = true := fun j e he => by
    obtain ⟨b, u, h1, h2, h3⟩ := hpr j e he
    have hb : Ts j = b := by show ps.getD j 0 = b; rw [List.getD_eq_getElem?_getD, h1]; rfl
    exact ⟨u, by rw [hb]; exact h1, by rw [hb]; exact h2, h3⟩
  -- the pairs' keys as values
  have keysEx : ∃ ws : List (Value × Value), ws.length = prs.length ∧ ∀ (j : Nat) (e : Key × Value), prs[j]? = some e → ∃ u, ws[j]? = some (u, e.2) ∧ IsTup s.heap (Ts j) #[u, e.2] ∧ keyIs e.1 u = true := by
    refine ⟨(List.range prs.length).map fun j => match prs[j]? with | none => (Value.none, Value.none) | some e => (match s.heap.get? (Ts j) with | some ob => (match ob.data with | .seq it _ => it.getD 0 .none | _ => .none) | none => .none, e.2), by simp, fun j e he => ?_⟩
    obtain ⟨u, h1, h2, h3⟩ := hu j e he
    have hj : j < prs.length := (List.getElem?_eq_some_iff.mp he).1
    refine ⟨u, ?_, h2, h3⟩
    obtain ⟨ob, g1, g2, g3, g4⟩ := h2
    simp only [List.getElem?_map, List.getElem?_range hj, Option.map_some, he, g1, g4]
    rfl
  obtain ⟨ws, wl, hw⟩ := keysEx
  have wsz : ps.length = ws.length := by rw [wl, hl]
  have hok : PlainSeq "tuple" s.heap a (ps.map Value.ref).toArray ∧ PairItems s.heap (ps.map Value.ref).toArray Ts ws := by
    refine ⟨⟨o, n, hg, hc, hd, hdat⟩, by simp [wsz], fun j k v hj => ?_⟩
    have hjl : j < prs.length := by rw [← wl]; exact (List.getElem?_eq_some_iff.mp hj).1
    obtain ⟨u, h1, h2, _⟩ := hw j _ (List.getElem?_eq_getElem hjl)
    rw [hj] at h1
    cases h1
    obtain ⟨_, h3, _⟩ := hu j _ (List.getElem?_eq_getElem hjl)
    exact ⟨by simp [h3], .inl h2⟩
  refine call_dict_pairs (knd := mixKind X.prog X.w) (kvs := prs) (PairArg.tuple a (ps.map Value.ref).toArray Ts ws) (I.ok.hd hcalm) hok ⟨wl.symm, fun i key v hr => ?_⟩ (by rw [← wsz]; exact hz) fun h' tk hd' k => ?_
  · have hr' : ws[i]? = some (key, v) := hr
    have hjl : i < prs.length := by rw [← wl]; exact (List.getElem?_eq_some_iff.mp hr').1
    obtain ⟨u, h1, _, h3⟩ := hw i _ (List.getElem?_eq_getElem hjl)
    rw [hr'] at h1
    injection h1 with h1
    injection h1 with h4 h5
    subst h4
    exact ⟨prs[i].1, by rw [List.getElem?_eq_getElem hjl, h5], h3⟩
  · have hm : (s.heap.objs.size == sysModules) = false := beq_eq_false_iff_ne.mpr (Nat.ne_of_gt I.big)
    have hlen : (mergeK [] kvs).length ≤ sizeLine := by
      have h1 := length_mergeK kvs []
      have h2 : kvs.length = ps.length := by rw [rel.length, hl]
      rw [List.length_nil, Nat.zero_add, h2] at h1
      exact Nat.le_trans h1 hz
    have new : ObjOk X.prog X.w (upd H s.heap.objs.size (.dK (mergeK [] kvs))) h' s.heap.objs.size (.dK (mergeK [] kvs)) := ⟨hlen, hm, merged [] prs, KV.merge rel .nil, hd'⟩
    exact ⟨.ref s.heap.objs.size, _, I.laid (t' := tk) (fun b o e => k b o (by simp) e) (Nat.le_refl _) new, rfl, q _ (I.hok.fresh (Nat.le_refl _))⟩
end

/-! ### for i, x in enumerate(t), t a tuple -/
theorem enumT_new (l : Addr) (items : Array Value) (n : Nat) (dct : Option Addr) (sl : Array (Option Value)) :
    Meets (Builtin.«enumerate.__new__» ⟨[.type "enumerate", .ref l], []⟩) (fun _ R s => s.heap.get? l = some ⟨.type "tuple", dct, .seq items n, sl⟩ ∧
      R (.ok (.ret (.ref (s.heap.objs.size + 1)))) { s with heap := (s.heap.push { cls := .type "tuple_iterator", data := .fields #[.ref l, .int 0 0] }).push { cls := .type "enumerate", data := .fields #[.none, .bool false, .ref s.heap.objs.size, rawInt 0, .none, .none] } }) :=
  .of_wp fun prog w A R s h => by
    obtain ⟨hp, g, d, tk, os⟩ := s
    obtain ⟨hl, h⟩ := h
    have sub := sub_enumerate
    have hT : Heap.IsTuple (Shared.heap ⟨hp, g, d, tk, os⟩) l items := ⟨_, hl, rfl, n, rfl⟩
    have sz : (hp.push { cls := .type "tuple_iterator", data := .fields #[.ref l, .int 0 0] }).objs.size = hp.objs.size + 1 := Heap.size_push ..
    wp_walk using AutoSeq1.wpAny_loadPart' hl
    refine wpAny_stack_any fun st => wpAny_pure ?_
    split
    · rename_i c _ _ _ _ _
      cases (c == Value.type "enumerate") <;>
        (wp_walk using AutoSeq1.wpAny_loadPart' hl, wpAny_pyIter_tuple hT
         exact ⟨_, rfl, by rw [← sz] at h; exact h⟩)
    · wp_walk using AutoSeq1.wpAny_loadPart' hl, wpAny_pyIter_tuple hT
      exact ⟨_, rfl, by rw [← sz] at h; exact h⟩
theorem call_enumT {prog : Program} {w : World} {A : Around} {E : Value → Shared → Prop} {s : Shared} {l : Addr} {items : Array Value} {Q : Value → Shared → Prop} (hL : s.heap.IsTuple l items)
    (h : ∀ h', IsEnum h' (s.heap.objs.size + 1) s.heap.objs.size 0 .none → h'.IsTupleIter s.heap.objs.size l 0 → (∀ b o, s.heap.get? b = some o → h'.get? b = some o) → Q (.ref (s.heap.objs.size + 1)) { s with heap := h' }) :
    wpAny (model prog w) A (call (.type "enumerate") [.ref l]) Q E s := by
  obtain ⟨⟨c, dct, dt, sl⟩, hl, hc, n, hd⟩ := hL
  cases (show c = .type "tuple" from hc)
  cases (show dt = .seq items n from hd)
  refine callType_new F.called_enumerate (by decide) (F.typeCall_enumerate_1 _) (F.newCall_enumerate_1 _) (fun obj => F.args_object_init_2 obj _) F.entry_enumerate_new (enumT_new l items n dct sl) ⟨hl, ?_⟩
  have sz : (s.heap.push { cls := .type "tuple_iterator", data := .fields #[.ref l, .int 0 0] }).objs.size = s.heap.objs.size + 1 := Heap.size_push ..
  have ie : IsEnum ((s.heap.push { cls := .type "tuple_iterator", data := .fields #[.ref l, .int 0 0] }).push { cls := .type "enumerate", data := .fields #[.none, .bool false, .ref s.heap.objs.size, rawInt 0, .none, .none] }) (s.heap.objs.size + 1) s.heap.objs.size 0 .none := by
    rw [← sz]
    exact Heap.get?_push_size _ rfl
  exact ⟨⟨_, ie, rfl⟩, h _ ie ⟨_, Heap.get?_push_of_some _ (Heap.get?_push_size _ rfl), rfl, rfl⟩ fun b o x => Heap.get?_push_of_some _ (Heap.get?_push_of_some _ x)⟩
/-- the tuple at a, each item in a new pair with its number -/
def IteT (K : PySem.W.Frag) (a : Addr) : It :=
  ⟨fun i H => ∃ xs x, SqT K H a xs ∧ xs[i]? = some x, fun i H v H' => ∃ T x, v = .ref T ∧ H T = none ∧ H' = upd H T (.tup [.int (i : Nat), x]) ∧ ∀ xs, SqT K H a xs → xs[i]? = some x, fun i H => ∃ xs, SqT K H a xs ∧ xs.length = i⟩
theorem turn_enumT {P : Program} {w : World} {K : PySem.W.Frag} {elts : List Expr} {kk : Nat} {tpos : Pos} (a e it : Addr) :
    Turn P w K (.Tuple elts kk tpos) (IteT K a) [e, it] e (fun i h => (∃ old, IsEnum h e it ((i : Nat) : Int) old) ∧ h.IsTupleIter it a i ∧ e ≠ it ∧ a ≠ e ∧ a ≠ it) where
  mem := by simp
  obj := by
    rintro i h ⟨⟨old, he⟩, ⟨o, ho, hc, hd⟩, _⟩ b hb
    rcases (by simpa using hb : b = e ∨ b = it) with z | z <;> subst z
    · exact ⟨_, he, fun v q => nomatch q⟩
    · exact ⟨o, ho, fun v q => by rw [hd] at q; cases q⟩
  keep := by
    rintro i h h' ⟨⟨old, he⟩, hi, hn⟩ k
    exact ⟨⟨old, k e (by simp) _ he⟩, hi.at fun o q => k it (by simp) o q, hn⟩
  item := by
    intro X hP hw hK hc i pins s σ H E I hf st hg
    subst hP hw hK
    obtain ⟨⟨old, he⟩, hit, hne, hae, hai⟩ := st
    obtain ⟨xs, x, hq, hx⟩ := hg
    obtain ⟨its, rv, p, hz⟩ := I.tuple hq
    obtain ⟨u, hu, ru⟩ := rv.get hx
    have elt : e < s.heap.objs.size := Heap.lt_size he
    have ilt : it < s.heap.objs.size := by obtain ⟨_, q, _⟩ := hit; exact Heap.lt_size q
    have pT : s.heap.IsTuple a its.toArray := p
    have hui : its.toArray[i]? = some u := by simpa using hu
    have hil : i < its.toArray.size := (Array.getElem?_eq_some_iff.mp hui).1
    refine wpAny_pyNext_enum_itemD (Draws.tuple (A := X.A.in1) (by simpa using I.ok.hd hc) it a hai its.toArray) he ⟨hit, pT⟩ hil hne (by simp [hne, Ne.symm hae]) fun x' h' tk hPx ho hst hT hsz hk => ?_
    rw [hui] at hPx
    cases hPx
    refine ⟨_, rfl, wpAny_letOwnedTupleGo_enum (s := { s with heap := h', toks := tk + 1 }) ho fun h'' he' sb => ?_⟩
    have hT2 : h''.get? s.heap.objs.size = some { cls := .type "tuple", data := .seq #[.int i tk, u] } := (sb.2 _ (Nat.ne_of_gt elt)).trans hT
    have new : ObjOk X.prog X.w (upd H s.heap.objs.size (.tup [.int (i : Nat), x])) h'' s.heap.objs.size (.tup [.int (i : Nat), x]) := ⟨(show 2 ≤ sizeLine by decide), [.int i tk, u], .cons ⟨_, rfl⟩ (.cons ru .nil), ⟨_, hT2, rfl, _, rfl⟩⟩
    have I1 : Inv X pins σ (upd H s.heap.objs.size (.tup [.int (i : Nat), x])) { s with heap := h'', toks := tk + 1 } := by
      refine I.turnedNew (ch := [e, it]) (fun b ob hb q => ?_) hf (Nat.le_refl _) new
      have b1 : b ≠ e := fun z => hb (by simp [z])
      have b2 : b ≠ it := fun z => hb (by simp [z])
      exact (sb.2 b b1).trans (hk b ob b1 b2 q)
    have nx : ((i + 1 : Nat) : Int) = (i : Int) + 1 := by omega
    refine ⟨.ref s.heap.objs.size, _, I1, rfl, ⟨_, x, rfl, I.hok.fresh (Nat.le_refl _), rfl, fun ys hy => by rw [I.tuple_inj hy hq]; exact hx⟩, ⟨⟨u, by rw [nx]; exact he'⟩, hst.1.at fun o q => (sb.2 it (Ne.symm hne)).trans q, hne, hae, hai⟩, fun b hb => ?_⟩
    have bl : b < s.heap.objs.size := by
      rcases (by simpa using hb : b = e ∨ b = it) with z | z <;> subst z <;> assumption
    rw [upd_ne (Nat.ne_of_lt bl)]
    exact (hf b hb).1
  done := by
    intro X hP hw hK hc i pins s σ H E I hf st hg
    subst hP hw hK
    obtain ⟨⟨old, he⟩, hit, hne, hae, hai⟩ := st
    obtain ⟨xs, hq, hx⟩ := hg
    obtain ⟨its, rv, p, hz⟩ := I.tuple hq
    obtain ⟨f0, f1, f2, f3, f4, f5⟩ := hf it (by simp)
    have hl := rv.length
    have pT : s.heap.IsTuple a its.toArray := p
    have il : i = its.toArray.size := by simp; omega
    subst il
    exact wpAny_pyNext_enum_endD (Draws.tuple (A := X.A.in1) (by simpa using I.ok.hd hc) it a hai its.toArray) he ⟨hit, pT⟩ fun h' eb => ⟨rfl, I.turned (t' := s.toks) (fun b o hb q => eb b o hb q) f0 f1 f3 f4 f5⟩
  self := fun A i s Q E st h => let ⟨⟨_, he⟩, _⟩ := st; wpAny_pyIter_enum he h
def iEnumT (K : PySem.W.Frag) (ta : TA) : TI := fun σ H R => ta σ H fun vs H1 => ∃ a xs, vs = [.ref a] ∧ SqT K H1 a xs ∧ R (IteT K a) H1
theorem pi_enumT {X : Cx} {e : Expr} {ta : TA} {p pos tpos : Pos} {elts : List Expr} {kk : Nat} (hg : Gl X "enumerate") (hm : X.mg "enumerate" = none) (ha : PA X [e] ta) (hs : starEach [e] X.env = [(false, eval e X.env)] := by rfl) :
    PI X (.Tuple elts kk tpos) (.Call (.Name "enumerate" p) [e] [] pos) (iEnumT X.K ta) := by
  refine ⟨fun pins s σ H R I h => ?_⟩
  refine Call_ (ld_blt I hg hm boot_enumerate (PyProof.Rows.callWith_type1 (thn (ha.run pos pins s σ H _ I h) fun us s1 ⟨vs, H1, I1, r1, a, xs, ex, hq, q⟩ => ?_) hs rfl))
  subst ex
  obtain ⟨u, rfl, r⟩ := vals1 r1
  cases r
  obtain ⟨its, rv, p', hz⟩ := I1.tuple hq
  have pT : s1.heap.IsTuple a its.toArray := p'
  have alt : a < s1.heap.objs.size := by obtain ⟨o, ho, _⟩ := pT; exact Heap.lt_size ho
  refine call_enumT pT fun h' he hit hk => wpAny_pyIter_enum he ?_
  have I2 : Inv X pins σ H1 { s1 with heap := h' } := I1.kept (t' := s1.toks) hk
  refine ⟨s1.heap.objs.size + 1, [s1.heap.objs.size + 1, s1.heap.objs.size], _, _, H1, rfl, I2, turn_enumT a (s1.heap.objs.size + 1) s1.heap.objs.size, ⟨⟨.none, he⟩, hit, Nat.succ_ne_self _, Nat.ne_of_lt (Nat.lt_succ_of_lt alt), Nat.ne_of_lt alt⟩, fun b hb => ?_, q⟩
  have hle : s1.heap.objs.size ≤ b := by
    rcases (by simpa using hb : b = s1.heap.objs.size + 1 ∨ b = s1.heap.objs.size) with z | z <;> subst z <;> omega
  exact I1.fpOk hle (I1.hok.fresh hle)
theorem walk_enumT {K : PySem.W.Frag} {a : Addr} {xs : List V} : Walk (IteT K a) xs.length (fun H => SqT K H a xs) (YPair (fun i => some (.int (i : Nat))) (fun i => xs[i]?)) where
  goes := fun i H hi hq => ⟨xs, xs[i], hq, List.getElem?_eq_getElem hi⟩
  stops := fun H hq => ⟨xs, hq, rfl⟩
  yields := fun i H x H' hi hq y => by
    obtain ⟨T, z, e1, e2, e3, e4⟩ := y
    exact ⟨T, .int (i : Nat), z, e1, e2, e3, rfl, e4 xs hq⟩

/-! ### len(set(l)), l a list of texts -/
/-- each text at its first place -/
def firsts : List Str → List Str → List Str
  | acc, [] => acc
  | acc, x :: r => firsts (if acc.contains x then acc else acc ++ [x]) r
theorem firsts_len (l : List Str) : ∀ acc, (firsts acc l).length ≤ acc.length + l.length := by
  induction l with
  | nil => intro acc; exact Nat.le_refl _
  | cons x r ih =>
    intro acc
    refine Nat.le_trans (ih _) ?_
    split
    · rw [List.length_cons]; omega
    · rw [List.length_append, List.length_cons]; simp; omega
theorem firsts_nd : ∀ (l acc : List Str), (acc ++ l).Nodup → firsts acc l = acc ++ l
  | [], acc, _ => by simp [firsts]
  | x :: r, acc, h => by
    have hx : ¬ x ∈ acc := fun m => by
      have := (List.nodup_append.mp h).2.2 x m x List.mem_cons_self
      exact this rfl
    have hc : acc.contains x = false := by simpa using hx
    rw [firsts, hc]
    have h2 : ((acc ++ [x]) ++ r).Nodup := by rw [List.append_assoc]; exact h
    rw [if_neg (by simp), firsts_nd r (acc ++ [x]) h2, List.append_assoc]
    rfl
section
variable {prog : Program} {w : World} {A : Around} {R : Result → Shared → Prop} {I : Addr} {fp wr : List Addr} {G : Array GenState → Array GenState → Prop} {n : Nat} {P : Nat → Value → Prop} {St : Nat → Shared → Prop}
theorem set_loopS (W : WalksS prog w A.in1 I fp wr G n P St) (S : Addr) (nf : S ∉ fp) (xs : List Str) (hl : xs.length = n) (hb : n + 1 < scanBound)
    (hv : ∀ i v, P i v → ∃ x t, xs[i]? = some x ∧ v = .str x t) :
    ∀ (m i : Nat) (acc : List Str) (s : Shared), n = i + m → acc.length ≤ i → St i s → s.heap.SetOf (PySem.strKind prog w) S (fun y => acc.contains y) acc.length →
      (∀ s', Moved (S :: wr) G s s' → s'.heap.SetOf (PySem.strKind prog w) S (fun y => (firsts acc (xs.drop i)).contains y) (firsts acc (xs.drop i)).length → R (.ok (.ret .none)) s') →
      codeAny (model prog w) A (.builtin "set.update.loop" ⟨[.ref S, .ref I], []⟩) R s := by
  have nw : S ∉ wr := fun h => nf (W.sub _ h)
  have up : ∀ b ∈ wr, b ∈ S :: wr := fun b hb => List.mem_cons_of_mem _ hb
  intro m
  induction m with
  | zero =>
    intro i acc s e la st hS fin
    have ei : i = n := by omega
    subst ei
    refine codeAny_builtin PyProof.Rows.F.entry_set_update_loop ?_
    rw [Around.under_plainId PyProof.Rows.F.plain_set_update_loop _]
    show wpAny _ A.in1 (pyNext (.ref I) >>= _) _ _ s
    refine wpAny_bind (W.done s _ _ st fun s' hm => ?_)
    show wpAny _ A.in1 (ret Value.none) _ _ s'
    have dz : xs.drop i = [] := List.drop_eq_nil_of_le (Nat.le_of_eq hl)
    rw [dz] at fin
    obtain ⟨o, es, ep, t, ho, more⟩ := hS
    exact wpAny_pure (fin s' (hm.mono up) ⟨o, es, ep, t, hm.heap S _ nw ho, more⟩)
  | succ m ih =>
    intro i acc s e la st hS fin
    have il : i < n := by omega
    refine codeAny_builtin PyProof.Rows.F.entry_set_update_loop ?_
    rw [Around.under_plainId PyProof.Rows.F.plain_set_update_loop _]
    show wpAny _ A.in1 (pyNext (.ref I) >>= _) _ _ s
    refine wpAny_bind (W.item i s _ _ il st fun v s' hP st' hm => ?_)
    obtain ⟨x, t, hx, rfl⟩ := hv i v hP
    have hS' : s'.heap.SetOf (PySem.strKind prog w) S (fun y => acc.contains y) acc.length := by
      obtain ⟨o, es, ep, tb, ho, more⟩ := hS
      exact ⟨o, es, ep, tb, hm.heap S _ nw ho, more⟩
    show wpAny _ A.in1 (holding [Value.str x t] (setAdd S (.str x t)) >>= _) _ _ s'
    refine wpAny_bind (wpAny_holding ?_)
    unfold setAdd
    refine wpAny_holding (wpAny_bind ((PySem.strKind prog w).pyHash (k := x) (strKind_is _ _ _ _) ?_))
    refine wpAny_setAddHashed_of (knd := PySem.strKind prog w) (s := { s' with toks := s'.toks + 1 }) (strKind_is _ _ _ _) rfl hS' (by omega) fun h' sb new => ?_
    have dr : xs.drop i = x :: xs.drop (i + 1) := by
      have hlt : i < xs.length := by omega
      rw [List.drop_eq_getElem_cons hlt]
      congr 1
      exact Option.some.inj ((List.getElem?_eq_getElem hlt).symm.trans hx)
    have nxt : h'.SetOf (PySem.strKind prog w) S (fun y => (if acc.contains x then acc else acc ++ [x]).contains y) (if acc.contains x then acc else acc ++ [x]).length := by
      refine PyProof.Rows.SetOf_congr new (fun y => ?_) ?_
      · show (acc.contains y || decide (y = x)) = _
        by_cases c : acc.contains x = true
        · rw [if_pos c]
          by_cases ey : y = x
          · subst ey; rw [c]; rfl
          · rw [decide_eq_false ey, Bool.or_false]
        · rw [if_neg c]
          simp
      · show (if acc.contains x = true then _ else _) = _
        split <;> simp_all
    refine wpAny_pure ⟨plainId_quiet PyProof.Rows.F.plain_set_update_loop _, ih (i + 1) _ _ (by omega) ?_ (W.frame _ s' _ _ st' (Nat.le_succ _) fun b hb o e => ?_) nxt fun s'' hm'' hS'' => ?_⟩
    · split
      · omega
      · rw [List.length_append]; simp; omega
    · rw [sb.2 b (fun h : b = S => nf (by rw [← h]; exact hb))]
      exact e
    · rw [dr] at fin
      refine fin s'' (Moved.trans W.gtrans ((hm.mono up).then_heap (Nat.le_succ _) fun b o hb e => ?_) hm'') hS''
      rw [sb.2 b (fun h : b = S => hb (by rw [h]; exact List.mem_cons_self))]
      exact e
end
end Md

set_option maxHeartbeats 4000000
namespace Md
open PySem PySem.Spec PyProof.Rows L2
section
variable {prog : Program} {w : World} {A : Around} {E : Value → Shared → Prop} {s : Shared}
theorem texts_at : ∀ {xs : List Str} {us : List Value}, Vals (xs.map V.str) us → ∀ (i : Nat) (v : Value), us[i]? = some v → ∃ x t, xs[i]? = some x ∧ v = .str x t
  | [], _, .nil, i, v, h => by simp at h
  | x :: xs, _, .cons r t, 0, v, h => by
    obtain ⟨k, e⟩ := r
    simp at h
    exact ⟨x, k, rfl, by rw [← h]; exact e⟩
  | x :: xs, _, .cons r t, i + 1, v, h => by
    simp only [List.getElem?_cons_succ] at h
    obtain ⟨y, k, e1, e2⟩ := texts_at t i v h
    exact ⟨y, k, by simpa using e1, e2⟩
/-- set(l) of a list of texts -/
theorem call_setG {l : Addr} {us : List Value} {xs : List Str} {Q : Value → Shared → Prop} (hh : A.handled = none) (hl : s.heap.IsList l us.toArray) (hv : Vals (xs.map V.str) us) (hb : xs.length + 1 < scanBound)
    (h : ∀ (h' : Heap) (tk : Nat), h'.SetOf (PySem.strKind prog w) s.heap.objs.size (fun y => (firsts [] xs).contains y) (firsts [] xs).length →
      (∀ b o, b < s.heap.objs.size → s.heap.get? b = some o → h'.get? b = some o) → Q (.ref s.heap.objs.size) { s with heap := h', toks := tk }) :
    wpAny (model prog w) A (call (.type "set") [.ref l]) Q E s := by
  have hsz : xs.length = us.length := by rw [← hv.length, List.length_map]
  obtain ⟨cc, tl, m0⟩ := PySem.F.called_set.mro
  have m1 := PySem.F.called_set.made
  have m2 := PySem.F.called_set.sub
  have m3 := PySem.F.called_set.notType
  have m4 := PySem.F.called_set.canCreate
  have m5 := PySem.F.typeCall_set_1 (.ref l)
  refine wpAny_call (codeAny_of_tree (show wpAny _ _ (callAny (.type "set") _) _ _ _ from ?_))
  refine wpAny_pure ⟨Code.quiet_builtin _ (by decide +kernel), codeAny_builtin PySem.F.entry_type_call ?_⟩
  rw [Around.under_plain (weight_type_call_type "set" [.ref l] []) rfl]
  repeat (any_goals (first | assumption | wp_step))
  refine codeAny_mono (code_set_new_1 (.ref l) (E := E) (Q₁ := fun ob s1 => ∃ led, ob = .ref s.heap.objs.size ∧ s1 = { s with heap := s.heap.push ⟨.type "set", none, .set #[] 0 (.fresh 0 0 led), #[]⟩ }) fun led => ⟨led, rfl, rfl⟩) fun r s1 hr => ?_
  rcases r with e | fl
  · exact hr
  cases fl with
  | ret ob =>
    obtain ⟨led, rfl, rfl⟩ := hr
    have g0 : (s.heap.push ⟨.type "set", none, .set #[] 0 (.fresh 0 0 led), #[]⟩).get? s.heap.objs.size = some ⟨.type "set", none, .set #[] 0 (.fresh 0 0 led), #[]⟩ := Heap.get?_push_size _ rfl
    have tS : Shared.TypeIs { s with heap := s.heap.push ⟨.type "set", none, .set #[] 0 (.fresh 0 0 led), #[]⟩ } (.ref s.heap.objs.size) "set" := ⟨_, g0, rfl⟩
    have n1 := PySem.F.called_set.init.lookup
    have n2 := PySem.F.called_set.init.bind (.ref s.heap.objs.size)
    repeat (any_goals (first | assumption | wp_step))
    refine codeAny_mono (codeAny_call_builtin (R := wants (fun r s2 => r = .none ∧ ∃ h' tk, s2 = { s with heap := h', toks := tk } ∧
        h'.SetOf (PySem.strKind prog w) s.heap.objs.size (fun y => (firsts [] xs).contains y) (firsts [] xs).length ∧
        (∀ b o, b < s.heap.objs.size → s.heap.get? b = some o → h'.get? b = some o)) E) PySem.F.called_set.init.plain PySem.F.entry_set_init (check_set_init_1 tS ?_)) fun r2 s2 hr2 => ?_
    · obtain ⟨⟨c1, c2, c3, c4⟩, hol, hcl, nl, hdl⟩ := hl
      cases (show c1 = .type "list" from hcl)
      cases (show c3 = .seq us.toArray nl from hdl)
      have lS : l < s.heap.objs.size := Heap.lt_size hol
      have hol' : (s.heap.push ⟨.type "set", none, .set #[] 0 (.fresh 0 0 led), #[]⟩).get? l = some ⟨.type "list", c2, .seq us.toArray nl, c4⟩ := Heap.get?_push_of_some _ hol
      have l1 : (s.heap.push ⟨.type "set", none, .set #[] 0 (.fresh 0 0 led), #[]⟩).IsList l us.toArray := ⟨_, hol', rfl, nl, rfl⟩
      have q1 := PySem.F.sub_list_set
      have q2 := PySem.F.sub_list_frozenset
      have q3 : (Value.type "list" == Value.type "dict") = false := by decide
      have z1 : (s.heap.push ⟨.type "set", none, .set #[] 0 (.fresh 0 0 led), #[]⟩).objs.size = s.heap.objs.size + 1 := Heap.size_push ..
      unfold Builtin.«set.__init__» noKeywords Builtin.Frozenset.updateFrom
      generalize hPI : pyIter = PI
      wp_walk
      subst hPI
      refine wpAny_pyIter_list l1 (wpAny_bind (wpAny_runValue ?_))
      have h3 : A.in1.in1.in1.handled = none := by simp [hh]
      have ne1 : l ≠ (s.heap.push ⟨.type "set", none, .set #[] 0 (.fresh 0 0 led), #[]⟩).objs.size := by rw [z1]; exact Nat.ne_of_lt (Nat.lt_succ_of_lt lS)
      have ne2 : s.heap.objs.size ∉ [(s.heap.push ⟨.type "set", none, .set #[] 0 (.fresh 0 0 led), #[]⟩).objs.size, l] := by
        rw [z1]
        intro m
        rcases (by simpa using m : s.heap.objs.size = s.heap.objs.size + 1 ∨ s.heap.objs.size = l) with z | z
        · exact absurd z (Nat.ne_of_lt (Nat.lt_succ_self _))
        · exact absurd z (Nat.ne_of_gt lS)
      refine set_loopS ((Walks.list h3 _ l ne1 us.toArray).toS) s.heap.objs.size ne2 xs (by simp [hsz]) (by simp only [List.size_toArray]; omega) (fun i v hv' => texts_at hv i v (by simpa using hv')) us.toArray.size 0 [] _ (by omega) (Nat.le_refl _)
        ⟨⟨_, Heap.get?_push_size _ rfl, rfl, rfl⟩, l1.push _⟩ ?s0 ?fin
      case s0 =>
        have g1 := Heap.get?_push_of_some { cls := .type "list_iterator", data := .fields #[.ref l, .int 0 0] } g0
        exact PyProof.Rows.SetOf_congr ((PyProof.Rows.setObjOf_fresh (knd := PySem.strKind prog w) led).setOf g1 (by unfold scanBound; omega)) (fun _ => rfl) rfl
      case fin =>
        intro s' hm hS'
        obtain ⟨h', g', d', tk', os'⟩ := s'
        cases (show g' = s.gens from hm.gens)
        cases (show d' = s.drawn from hm.drawn)
        cases (show os' = s.os from hm.os)
        show wpAny _ _ _ _ _ _
        refine wpAny_pure (show wpAny _ _ (ret Value.none) _ _ _ from wpAny_pure ⟨rfl, h', tk', rfl, hS', fun b o hb e => ?_⟩)
        refine hm.heap b o (fun m => ?_) (Heap.get?_push_of_some _ (Heap.get?_push_of_some _ e))
        rcases (by simpa using m : b = s.heap.objs.size ∨ b = (s.heap.push ⟨.type "set", none, .set #[] 0 (.fresh 0 0 led), #[]⟩).objs.size) with z | z
        · exact absurd z (Nat.ne_of_lt hb)
        · rw [z1] at z; exact absurd z (Nat.ne_of_lt (Nat.lt_succ_of_lt hb))
    · rcases r2 with e | f2
      · exact hr2
      cases f2 with
      | ret r =>
        obtain ⟨rfl, h', tk, rfl, hS', hk'⟩ := hr2
        repeat (any_goals (first | assumption | wp_step))
        exact h _ _ hS' hk'
      | _ => exact hr2.elim
  | _ => exact hr.elim
end
section
variable {X : Cx}
def tLenSetS (K : PySem.W.Frag) (ta : TE) : TE := fun σ H Q => ta σ H fun x H1 => ∃ (l : Addr) (xs : List Str), x = V.ref l ∧ SqL K H1 l (xs.map V.str) ∧ xs.length ≤ 1000 ∧ Q (.int (firsts [] xs).length) H1
theorem pe_lenSetS {a : Expr} {ta : TE} {p p2 q pos : Pos} (hc : X.calm = true) (hg : Gl X "len") (hm : X.mg "len" = none) (hg2 : Gl X "set") (hm2 : X.mg "set" = none) (ha : PE X a ta)
    (na : starEach [a] X.env = (false, eval a X.env) :: starEach [] X.env := by rfl) : PE X (.Call (.Name "len" p) [.Call (.Name "set" p2) [a] [] q] [] pos) (tLenSetS X.K ta) := by
  refine ⟨fun pins s σ H Q I h => ?_⟩
  refine Call_ (ld_blt I hg hm PySem.boot_len (PyProof.Rows.callWith_builtin1 (PyProof.Rows.args_cons ?_ rfl) rfl rfl))
  refine Call_ (ld_blt I hg2 hm2 PyProof.Rows.boot_set (PyProof.Rows.callWith_type1 (PyProof.Rows.args_cons (thn (ha.run pins s σ H _ I h) fun v s1 ⟨x, H1, I1, r1, q1⟩ => PyProof.Rows.args_nil ?_) na) na rfl))
  obtain ⟨l, xs, rfl, hq, h1, q1⟩ := q1
  cases r1
  obtain ⟨its, r, pl, hz⟩ := I1.list hq
  have fl : (firsts [] xs).length ≤ xs.length := by
    have := firsts_len xs []
    simpa using this
  refine call_setG (I1.ok.hd hc) pl.isList r (by unfold scanBound; omega) fun h' tk hS hk => PyProof.Rows.args_nil ?_
  obtain ⟨o, es, ep, t, ho, hex, hd, _, _, _, hf, hn⟩ := hS
  have I2 : Inv X pins σ H1 { s1 with heap := h', toks := tk } := I1.kept fun b o e => hk b o (Heap.lt_size e) e
  refine call_len_set ho hex hd hf (by rw [hn]; omega) ⟨.int (firsts [] xs).length, H1, I2.tok _, ⟨_, by rw [hn]⟩, q1⟩
end
end Md

set_option maxHeartbeats 4000000
namespace Md
open PySem PySem.Spec PyProof.Rows L2
section
variable {X : Cx}
/-- what may be written out: data of few levels, its text not too long -/
structure Shows (d : PyData) : Prop where
  sh : d.showable = true
  nd : d.hasDict = false
  dp : d.depth ≤ 40
  ln : d.shown.length ≤ sizeLine
theorem call_reprD (hg : X.A.guards = some []) (hu : X.A.units + 64 < cLine) : CallR X (.builtin "repr") (fun xs H Q => ∃ (a : Addr) (d : PyData), xs = [.ref a] ∧ Dp X.K H (.ref a) d ∧ Shows d ∧ Q (.str d.shown) H) := by
  intro pins s σ H xs us Q I r h
  obtain ⟨a, d, rfl, hd, S, q⟩ := h
  obtain ⟨u, rfl, ru⟩ := vals1 r
  cases ru
  obtain ⟨as, hr⟩ := Dp.reads I d (.ref a) (.ref a) hd rfl
  have dp := S.dp
  exact repr_of_reads' hr S.sh (fun z => by rw [S.nd] at z; cases z) hg (by omega) (fun _ _ e => e) (fun h' u tk k => ⟨.str d.shown, H, I.kept k, ⟨_, rfl⟩, q⟩) S.ln
end

/-! ### the law's own def, called with nothing under way -/
/-- the promise of the law's def where the caller is the claim itself -/
def LawOk (P : Program) (w : World) (K : PySem.W.Frag) (mg : Str → Option Value) (base : Heap) (f : Addr) (fd : FuncData) (ps : List Str) (sp : Sp) : Prop :=
  ∀ (s : Shared) (H : Hp) (args : Args) (us : List Value) (vs : List V) (Q : VK), Env0 P w K mg base callerA [] s H → BindsTo s fd args (ps.zip us) → Vals vs us → vs.length = ps.length → sp vs H Q E0 →
    codeAny (model P w) callerA (.call (.ref f) args) (CR CX0 [] P w H s Q E0) s
section
variable {P : Program} {w : World} {K : PySem.W.Frag} {mg : Str → Option Value} {base : Heap}
theorem law_body {x qual : Str} {st : Stmt} {f : Addr} {fd : FuncData} {N ps : List Str} {k : Nat} {sp : Sp} (F : Fun K x qual st f fd) (S : FnScope N ps (defScope st)) (room : Room (k + 1) callerA)
    (hbody : ∀ (cdv : Value) (A : Around) (outer : List Env) (s : Shared) (H : Hp) (vs : List V) (Q : VK) (E : XK), Room k (A.deeper (envOfC qual (defScope st) s.heap.objs.size f cdv)) → A.guards = some [] → sp vs H Q E →
      ∃ t, PSs (cxOf CX0 P w K mg base N qual (defScope st) f cdv A outer s H E).nox (defBody st) t ∧ t { nx := fun _ H' => Q .non H', rt := Q } (start N vs) H) : LawOk P w K mg base f fd ps sp := by
  obtain ⟨oc, od, kV, doc, pm, an, cdv, ct, osl, rfl, lk, hcd⟩ := F.ex
  intro s H args us vs Q e0 hb r hl hsp
  have ks : ∀ b o, base.get? b = some o → s.heap.get? b = some o := fun b o e => (e0.bs b o e).1
  have lims := e0.mod.nolimit.keeps ks
  have kinds : ∀ y ∈ ps.zip us, (defScope st).names.lookup y.1 = some .local ∨ ((defScope st).names.lookup y.1 = some .cell ∧ ((cellsFrom (s.heap.objs.size + 1) (defScope st).names []).lookup y.1).isSome = true) := by
    rintro ⟨n, v⟩ hy
    rcases S.par n (List.of_mem_zip hy).1 with q | q
    · exact .inl q
    · exact .inr ⟨q, PySem.W.cellsFrom_some _ _ _ (.inl q)⟩
  have KX : K.In s.heap := e0.mod.kin.keeps ks
  refine codeAny_call_function room.depth (KX _ _ lk) rfl S.co S.gen rfl (PySem.W.codeRec_of KX hcd) (hb _ _ _ _ (wpAny_newFunctionEnv_cells S.kind kinds fun env he s1 x => ?_))
  subst he
  refine ⟨lims.keeps x.toInCall.keep, codeAny_func ?_⟩
  obtain ⟨t, ht, hq⟩ := hbody cdv callerA [] s H vs Q E0 (room.deeper _) rfl hsp
  have I : L2.Inv (cxOf CX0 P w K mg base N qual (defScope st) f cdv callerA [] s H E0) [] (L2.start N vs) H s1 := inv_start S room.hd e0 hl r x
  refine wpAny_mono (ht.nox.run [] s1 (start N vs) H _ I hq) (fun fl s' hs => ?_) fun e s' hs => hs
  cases fl with
  | ret u =>
    obtain ⟨v, σ', H', J, rv, q⟩ := hs
    exact ⟨v, H', J.os, J.bare, J.base, J.hok, rv, q⟩
  | next =>
    obtain ⟨σ', H', J, q⟩ := hs
    exact ⟨V.non, H', J.os, J.bare, J.base, J.hok, rfl, q⟩
  | brk => obtain ⟨_, _, _, q⟩ := hs; exact False.elim q
  | cont => obtain ⟨_, _, _, q⟩ := hs; exact False.elim q
end
/-- the claim's call of the law: from the promise of its def -/
theorem law_end {P : Program} {w : World} {K : PySem.W.Frag} {mg mb : Str → Option Value} {fa a : Addr} {fd : FuncData} {x : Str} {sp : Sp} {s1 : Shared} {vs : List Value} {ns : List Int}
    (KX : K.In s1.heap) (hns : s1.heap.Ns mainGlobals mg) (hb : s1.heap.Ns builtinsNs mb) (hbb : ∀ y : Str, y ≠ "__name__" → mb y = bootBuiltins y) (nl : s1.heap.NoLimit) (hg : s1.gens = #[])
    (ha : s1.heap.get? a = some { cls := .type "list", data := .seq vs.toArray }) (hi : IntsAre vs ns) (hl : ns.length ≤ sizeLine)
    (F : ∀ base : Heap, K.In base → base.Ns mainGlobals mg → LawOk P w K mg base fa fd [x] sp) (bind : ∀ (s : Shared) (u : Value), BindsTo s fd ⟨[u], []⟩ [(x, u)])
    (hsp : ∀ H : Hp, Only H → SqL K H a (ns.map V.int) → sp [.ref a] H (fun v _ => v = .bl true) E0) :
    codeAny (model P w) callerA (.call (.ref fa) ⟨[.ref a], []⟩) (fun r s' => r = .ok (.ret (.bool true)) ∧ OldK s1.heap s'.heap ∧ s'.os = s1.os ∧ AllBare s'.gens) s1 := by
  have rv := vals_ints hi
  have nlen := hi.length
  have main : ∀ H : Hp, Only H → SqL K H a (ns.map V.int) → HOk P w H s1.heap → (∀ b, H b ≠ none → b = a ∧ K.lookup a = none) →
      codeAny (model P w) callerA (.call (.ref fa) ⟨[.ref a], []⟩) (fun r s' => r = .ok (.ret (.bool true)) ∧ OldK s1.heap s'.heap ∧ s'.os = s1.os ∧ AllBare s'.gens) s1 := by
    intro H only sq ok at1
    have isnone : ∀ b, (b = a → K.lookup a ≠ none) → H b = none := fun b h => by
      cases q : H b with
      | none => rfl
      | some u =>
        have z := at1 b (by rw [q]; simp)
        exact absurd z.2 (h z.1)
    have dicts : ∀ {b : Addr} {o : Obj} {es : Array DictEntry} {ep : Nat}, s1.heap.get? b = some o → o.data = .dict es ep → H b = none := fun {b o es ep} e d => by
      cases q : H b with
      | none => rfl
      | some u =>
        have z := (at1 b (by rw [q]; simp)).1
        subst z
        rw [ha] at e
        cases e
        cases d
    have names : ∀ {b : Addr} {m : Str → Option Value}, s1.heap.Ns b m → (hidT s1.heap H).Ns b m := fun {b m} h => by
      obtain ⟨o, es, ep, e, d, more⟩ := h
      exact ⟨o, es, ep, hidT_get e (dicts e d), d, more⟩
    have kin : K.In (hidT s1.heap H) := fun b o e => hidT_get (KX b o e) (isnone b fun z q => by subst z; rw [q] at e; cases e)
    have md : Mod K mg (hidT s1.heap H) := ⟨kin, names hns, ⟨mb, names hb, hbb⟩, let ⟨mc, h1, h2⟩ := nl; ⟨mc, names h1, h2⟩⟩
    have env0 : Env0 P w K mg (hidT s1.heap H) callerA [] s1 H :=
      ⟨rfl, md, fun b o e => of_hidT e, Nat.le_of_eq (hidT_size _ _), trivial, fun b z => absurd (show b ∈ ([] : List Addr) from z) (by simp), ok, .of_eq hg⟩
    refine codeAny_mono (F _ kin (names hns) s1 H ⟨[.ref a], []⟩ [.ref a] [.ref a] _ env0 (bind s1 (.ref a)) (.cons rfl .nil) rfl (hsp H only sq)) fun r s' h => ?_
    rcases r with e | fl
    · exact False.elim h
    cases fl with
    | ret u =>
      obtain ⟨v, H', os, bare, un, ok', r', q⟩ := h
      cases (show v = .bl true from q)
      cases (show u = Value.bool true from r')
      refine ⟨rfl, OldK.of_keep fun b o e => ?_, os, bare⟩
      cases q : H b with
      | none => exact un.keep b o e q (fun z => absurd (show b ∈ ([] : List Addr) from z) (by simp)) (by simp)
      | some u =>
        rcases only b with z | ⟨ob, xs, z⟩
        · rw [q] at z; cases z
        · obtain ⟨e1, _⟩ := ok b _ z
          obtain ⟨e2, _⟩ := ok' b _ (un.frzs b ob _ z)
          rw [e] at e1
          cases e1
          exact e2
    | next => exact False.elim h
    | brk => exact False.elim h
    | cont => exact False.elim h
  cases hk : K.lookup a with
  | some o =>
    have e := KX a o hk
    rw [ha] at e
    cases e
    exact main (fun _ => none) (fun _ => .inl rfl) (.inr ⟨_, vs.toArray, _, hk, rfl, rfl, rfl, by rw [List.size_toArray, nlen]; exact hl, by simpa using rv⟩) (fun b u z => nomatch (show (none : Option HO) = some u from z)) (fun b z => absurd rfl z)
  | none =>
    refine main (fun b => if b = a then some (.frz { cls := .type "list", data := .seq vs.toArray } (.lst (ns.map V.int))) else none) (fun b => ?_) (.inl (.inr ⟨_, if_pos rfl⟩)) (fun b u z => ?_) (fun b z => ?_)
    · by_cases e : b = a
      · exact .inr ⟨_, _, if_pos e⟩
      · exact .inl (if_neg e)
    · by_cases e : b = a
      · cases (if_pos e).symm.trans z
        subst e
        exact ⟨ha, by rw [List.length_map]; exact hl, vs, _, rv, ha⟩
      · cases (if_neg e).symm.trans z
    · by_cases e : b = a
      · exact ⟨e, hk⟩
      · exact absurd (if_neg e) z
/-- the goal behind the head, from the law's promise -/
theorem walk_law {l : PySem.W.OpenLaw} {n : Nat} {q : Program} {loose : List Str} {XP : (Str → Option Value) → Heap → Prop} {YP : World → Heap → Prop} {d : DefRec} {K : Params → PySem.W.Frag} {sp : World → Sp} {x : Str}
    (hn : l.most = some n) (hn2 : n ≤ sizeLine) (hdf : d.params.defaults = []) (hY : ∀ (w : World) (h : Heap), YP w h → (K w.params).In h)
    (F : ∀ (w : World) (mg : Str → Option Value) (fa : Addr) (h : Heap), (K w.params).In h → h.Ns mainGlobals mg → mg d.name = some (.ref fa) →
      ∃ fd : FuncData, (∀ (s : Shared) (u : Value), BindsTo s fd ⟨[u], []⟩ [(x, u)]) ∧ ∀ base : Heap, (K w.params).In base → base.Ns mainGlobals mg → LawOk l.prog w (K w.params) mg base fa fd [x] (sp w))
    (hsp : ∀ (w : World) (H : Hp) (a : Addr) (ns : List Int), ns.length ≤ n → (∀ z ∈ ns, Builtin.Int.intBits z ≤ 1048576) → Only H → SqL (K w.params) H a (ns.map V.int) → sp w [.ref a] H (fun v _ => v = .bl true) E0) :
    PySem.W.WalkO q loose XP YP l.row.toRowW d [] (fun f vs => PySem.call f vs) := by
  refine Att.attach_callB hn hdf fun w s0 s1 mg mb fa o pm cd doc a vs ns G Y ho hd hcd hmg hobj hints hlen bits hg => ?_
  have KX := hY w _ Y
  obtain ⟨fd, hb, hF⟩ := F w mg fa _ KX G.T.g hmg
  exact law_end KX G.T.g G.T.b G.T.builtins G.T.nolimit hg hobj hints (Nat.le_trans hlen hn2) hF hb fun H hO hS => hsp w H a ns hlen bits hO hS
end Md

namespace Md
open PySem PySem.Spec PyProof.Rows L2
def top (i : Nat) : Stmt := PySem.Challenge.pw_madesure_k01_names_and_kinds_known.main.body.getD i (.Pass ⟨0, 0, 0, 0⟩)
abbrev st_is_name : Stmt := top 7
abbrev nn_is_name : List Str := ["thing", "letter"]
theorem sc_is_name : FnScope nn_is_name ["thing"] (defScope st_is_name) := ⟨rfl, rfl, rfl, by decide +kernel, rfl, by decide +kernel, by decide +kernel⟩
abbrev At_is_name (K : PySem.W.Frag) (mg : Str → Option Value) : Prop := DefAt K mg "is_name" st_is_name ["thing"]
abbrev st_is_kinds : Stmt := top 8
abbrev nn_is_kinds : List Str := ["thing", "makers", "named", "_", "row"]
theorem sc_is_kinds : FnScope nn_is_kinds ["thing"] (defScope st_is_kinds) := ⟨rfl, rfl, rfl, by decide +kernel, rfl, by decide +kernel, by decide +kernel⟩
abbrev At_is_kinds (K : PySem.W.Frag) (mg : Str → Option Value) : Prop := DefAt K mg "is_kinds" st_is_kinds ["thing"]
abbrev st_least_sizes : Stmt := top 9
abbrev nn_least_sizes : List Str := ["kinds", "sizes", "_", "kind", "makers", "found", "parts"]
theorem sc_least_sizes : FnScope nn_least_sizes ["kinds"] (defScope st_least_sizes) := ⟨rfl, rfl, rfl, by decide +kernel, rfl, by decide +kernel, by decide +kernel⟩
abbrev At_least_sizes (K : PySem.W.Frag) (mg : Str → Option Value) : Prop := DefAt K mg "least_sizes" st_least_sizes ["kinds"]
abbrev st_size_made : Stmt := top 10
abbrev nn_size_made : List Str := ["sizes", "parts", "part"]
theorem sc_size_made : FnScope nn_size_made ["sizes", "parts"] (defScope st_size_made) := ⟨rfl, rfl, rfl, by decide +kernel, rfl, by decide +kernel, by decide +kernel⟩
abbrev At_size_made (K : PySem.W.Frag) (mg : Str → Option Value) : Prop := DefAt K mg "size_made" st_size_made ["sizes", "parts"]
abbrev st_u_is_row : Stmt := top 11
abbrev nn_u_is_row : List Str := ["thing", "least", "most"]
theorem sc_u_is_row : FnScope nn_u_is_row ["thing", "least", "most"] (defScope st_u_is_row) := ⟨rfl, rfl, rfl, by decide +kernel, rfl, by decide +kernel, by decide +kernel⟩
abbrev At_u_is_row (K : PySem.W.Frag) (mg : Str → Option Value) : Prop := DefAt K mg "_is_row" st_u_is_row ["thing", "least", "most"]
abbrev st_u_is_named : Stmt := top 12
abbrev nn_u_is_named : List Str := ["thing", "least", "most"]
theorem sc_u_is_named : FnScope nn_u_is_named ["thing", "least", "most"] (defScope st_u_is_named) := ⟨rfl, rfl, rfl, by decide +kernel, rfl, by decide +kernel, by decide +kernel⟩
abbrev At_u_is_named (K : PySem.W.Frag) (mg : Str → Option Value) : Prop := DefAt K mg "_is_named" st_u_is_named ["thing", "least", "most"]
abbrev st_u_kind_names : Stmt := top 13
abbrev nn_u_kind_names : List Str := ["kinds", "kind", "_"]
theorem sc_u_kind_names : FnScope nn_u_kind_names ["kinds"] (defScope st_u_kind_names) := ⟨rfl, rfl, rfl, by decide +kernel, rfl, by decide +kernel, by decide +kernel⟩
abbrev At_u_kind_names (K : PySem.W.Frag) (mg : Str → Option Value) : Prop := DefAt K mg "_kind_names" st_u_kind_names ["kinds"]
abbrev st_u_maker_names : Stmt := top 14
abbrev nn_u_maker_names : List Str := ["kinds", "_", "makers", "maker"]
theorem sc_u_maker_names : FnScope nn_u_maker_names ["kinds"] (defScope st_u_maker_names) := ⟨rfl, rfl, rfl, by decide +kernel, rfl, by decide +kernel, by decide +kernel⟩
abbrev At_u_maker_names (K : PySem.W.Frag) (mg : Str → Option Value) : Prop := DefAt K mg "_maker_names" st_u_maker_names ["kinds"]
abbrev st_u_are_names_unlike : Stmt := top 15
abbrev nn_u_are_names_unlike : List Str := ["kinds", "names"]
theorem sc_u_are_names_unlike : FnScope nn_u_are_names_unlike ["kinds"] (defScope st_u_are_names_unlike) := ⟨rfl, rfl, rfl, by decide +kernel, rfl, by decide +kernel, by decide +kernel⟩
abbrev At_u_are_names_unlike (K : PySem.W.Frag) (mg : Str → Option Value) : Prop := DefAt K mg "_are_names_unlike" st_u_are_names_unlike ["kinds"]
abbrev st_u_are_parts_kinds : Stmt := top 16
abbrev nn_u_are_parts_kinds : List Str := ["kinds", "names", "_", "makers"]
theorem sc_u_are_parts_kinds : FnScope nn_u_are_parts_kinds ["kinds"] (defScope st_u_are_parts_kinds) := ⟨rfl, rfl, rfl, by decide +kernel, rfl, by decide +kernel, by decide +kernel⟩
abbrev At_u_are_parts_kinds (K : PySem.W.Frag) (mg : Str → Option Value) : Prop := DefAt K mg "_are_parts_kinds" st_u_are_parts_kinds ["kinds"]
abbrev st_u_has_all_parts : Stmt := top 17
abbrev nn_u_has_all_parts : List Str := ["makers", "names", "_", "parts"]
theorem sc_u_has_all_parts : FnScope nn_u_has_all_parts ["makers", "names"] (defScope st_u_has_all_parts) := ⟨rfl, rfl, rfl, by decide +kernel, rfl, by decide +kernel, by decide +kernel⟩
abbrev At_u_has_all_parts (K : PySem.W.Frag) (mg : Str → Option Value) : Prop := DefAt K mg "_has_all_parts" st_u_has_all_parts ["makers", "names"]
abbrev st_u_are_in : Stmt := top 18
abbrev nn_u_are_in : List Str := ["parts", "names", "part"]
theorem sc_u_are_in : FnScope nn_u_are_in ["parts", "names"] (defScope st_u_are_in) := ⟨rfl, rfl, rfl, by decide +kernel, rfl, by decide +kernel, by decide +kernel⟩
abbrev At_u_are_in (K : PySem.W.Frag) (mg : Str → Option Value) : Prop := DefAt K mg "_are_in" st_u_are_in ["parts", "names"]
abbrev st_u_have_trees : Stmt := top 19
abbrev nn_u_have_trees : List Str := ["kinds", "sizes", "kind"]
theorem sc_u_have_trees : FnScope nn_u_have_trees ["kinds"] (defScope st_u_have_trees) := ⟨rfl, rfl, rfl, by decide +kernel, rfl, by decide +kernel, by decide +kernel⟩
abbrev At_u_have_trees (K : PySem.W.Frag) (mg : Str → Option Value) : Prop := DefAt K mg "_have_trees" st_u_have_trees ["kinds"]
abbrev st_law_pot : Stmt := top 21
abbrev nn_law_pot : List Str := ["script", "k", "cell"]
theorem sc_law_pot : FnScope nn_law_pot ["script", "k"] (defScope st_law_pot) := ⟨rfl, rfl, rfl, by decide +kernel, rfl, by decide +kernel, by decide +kernel⟩
abbrev At_law_pot (K : PySem.W.Frag) (mg : Str → Option Value) : Prop := DefAt K mg "_law_pot" st_law_pot ["script", "k"]
abbrev st_law_take : Stmt := top 22
abbrev nn_law_take : List Str := ["pot", "many", "found", "one", "other"]
theorem sc_law_take : FnScope nn_law_take ["pot", "many"] (defScope st_law_take) := ⟨rfl, rfl, rfl, by decide +kernel, rfl, by decide +kernel, by decide +kernel⟩
abbrev At_law_take (K : PySem.W.Frag) (mg : Str → Option Value) : Prop := DefAt K mg "_law_take" st_law_take ["pot", "many"]
abbrev st_law_words : Stmt := top 23
abbrev nn_law_words : List Str := []
theorem sc_law_words : FnScope nn_law_words [] (defScope st_law_words) := ⟨rfl, rfl, rfl, by decide +kernel, rfl, by decide +kernel, by decide +kernel⟩
abbrev At_law_words (K : PySem.W.Frag) (mg : Str → Option Value) : Prop := DefAt K mg "_law_words" st_law_words []
abbrev st_law_is_name : Stmt := top 24
abbrev nn_law_is_name : List Str := ["thing", "sign"]
theorem sc_law_is_name : FnScope nn_law_is_name ["thing"] (defScope st_law_is_name) := ⟨rfl, rfl, rfl, by decide +kernel, rfl, by decide +kernel, by decide +kernel⟩
abbrev At_law_is_name (K : PySem.W.Frag) (mg : Str → Option Value) : Prop := DefAt K mg "_law_is_name" st_law_is_name ["thing"]
abbrev st_law_word : Stmt := top 25
abbrev nn_law_word : List Str := ["pot", "book", "letters", "word", "turn"]
theorem sc_law_word : FnScope nn_law_word ["pot", "book"] (defScope st_law_word) := ⟨rfl, rfl, rfl, by decide +kernel, rfl, by decide +kernel, by decide +kernel⟩
abbrev At_law_word (K : PySem.W.Frag) (mg : Str → Option Value) : Prop := DefAt K mg "_law_word" st_law_word ["pot", "book"]
abbrev st_law_row : Stmt := top 26
abbrev nn_law_row : List Str := ["pot", "book", "some", "most", "parts", "k"]
theorem sc_law_row : FnScope nn_law_row ["pot", "book", "some", "most"] (defScope st_law_row) := ⟨rfl, rfl, rfl, by decide +kernel, rfl, by decide +kernel, by decide +kernel⟩
abbrev At_law_row (K : PySem.W.Frag) (mg : Str → Option Value) : Prop := DefAt K mg "_law_row" st_law_row ["pot", "book", "some", "most"]
abbrev st_law_kinds : Stmt := top 27
abbrev nn_law_kinds : List Str := ["pot", "book", "way", "words", "one", "other", "a", "b", "c", "d", "e", "some", "found", "k", "rows", "turn", "by"]
theorem sc_law_kinds : FnScope nn_law_kinds ["pot", "book"] (defScope st_law_kinds) := ⟨rfl, rfl, rfl, by decide +kernel, rfl, by decide +kernel, by decide +kernel⟩
abbrev At_law_kinds (K : PySem.W.Frag) (mg : Str → Option Value) : Prop := DefAt K mg "_law_kinds" st_law_kinds ["pot", "book"]
abbrev st_law_sizes : Stmt := top 28
abbrev nn_law_sizes : List Str := ["kinds", "found", "turn", "kind", "rows", "some", "maker", "parts", "part"]
theorem sc_law_sizes : FnScope nn_law_sizes ["kinds"] (defScope st_law_sizes) := ⟨rfl, rfl, rfl, by decide +kernel, rfl, by decide +kernel, by decide +kernel⟩
abbrev At_law_sizes (K : PySem.W.Frag) (mg : Str → Option Value) : Prop := DefAt K mg "_law_sizes" st_law_sizes ["kinds"]
abbrev st_law_odd : Stmt := top 29
abbrev nn_law_odd : List Str := ["pot"]
theorem sc_law_odd : FnScope nn_law_odd ["pot"] (defScope st_law_odd) := ⟨rfl, rfl, rfl, by decide +kernel, rfl, by decide +kernel, by decide +kernel⟩
abbrev At_law_odd (K : PySem.W.Frag) (mg : Str → Option Value) : Prop := DefAt K mg "_law_odd" st_law_odd ["pot"]
abbrev st_law_bent : Stmt := top 30
abbrev nn_law_bent : List Str := ["pot", "thing", "deep", "way", "odd", "at", "sign", "to", "some"]
theorem sc_law_bent : FnScope nn_law_bent ["pot", "thing", "deep"] (defScope st_law_bent) := ⟨rfl, rfl, rfl, by decide +kernel, rfl, by decide +kernel, by decide +kernel⟩
abbrev At_law_bent (K : PySem.W.Frag) (mg : Str → Option Value) : Prop := DefAt K mg "_law_bent" st_law_bent ["pot", "thing", "deep"]
abbrev st_law_are_kinds : Stmt := top 31
abbrev nn_law_are_kinds : List Str := ["thing", "found", "parts", "pair", "row", "kinds", "part"]
theorem sc_law_are_kinds : FnScope nn_law_are_kinds ["thing"] (defScope st_law_are_kinds) := ⟨rfl, rfl, rfl, by decide +kernel, rfl, by decide +kernel, by decide +kernel⟩
abbrev At_law_are_kinds (K : PySem.W.Frag) (mg : Str → Option Value) : Prop := DefAt K mg "_law_are_kinds" st_law_are_kinds ["thing"]
abbrev st_law_written : Stmt := top 32
abbrev nn_law_written : List Str := ["some", "rows", "four", "found", "later", "full", "k", "word", "sign"]
theorem sc_law_written : FnScope nn_law_written [] (defScope st_law_written) := ⟨rfl, rfl, rfl, by decide +kernel, rfl, by decide +kernel, by decide +kernel⟩
abbrev At_law_written (K : PySem.W.Frag) (mg : Str → Option Value) : Prop := DefAt K mg "_law_written" st_law_written []
abbrev st_law_texts : Stmt := top 33
abbrev nn_law_texts : List Str := ["pot", "kinds", "signs", "text", "turn", "word"]
theorem sc_law_texts : FnScope nn_law_texts ["pot", "kinds"] (defScope st_law_texts) := ⟨rfl, rfl, rfl, by decide +kernel, rfl, by decide +kernel, by decide +kernel⟩
abbrev At_law_texts (K : PySem.W.Frag) (mg : Str → Option Value) : Prop := DefAt K mg "_law_texts" st_law_texts ["pot", "kinds"]
abbrev st_law : Stmt := top 34
abbrev nn_law : List Str := ["script", "k", "pot", "kinds", "thing", "shown", "found", "turn"]
theorem sc_law : FnScope nn_law ["script"] (defScope st_law) := ⟨rfl, rfl, rfl, by decide +kernel, rfl, by decide +kernel, by decide +kernel⟩
abbrev At_law (K : PySem.W.Frag) (mg : Str → Option Value) : Prop := DefAt K mg "law" st_law ["script"]
structure Txt (K : PySem.W.Frag) (mg : Str → Option Value) (a_WORDS : Addr) : Prop where
  z_abs : mg "abs" = none
  z_all : mg "all" = none
  z_bool : mg "bool" = none
  z_int : mg "int" = none
  z_isinstance : mg "isinstance" = none
  z_len : mg "len" = none
  z_list : mg "list" = none
  z_max : mg "max" = none
  z_min : mg "min" = none
  z_range : mg "range" = none
  z_repr : mg "repr" = none
  z_set : mg "set" = none
  z_str : mg "str" = none
  z_sum : mg "sum" = none
  z_tuple : mg "tuple" = none
  g_MARK : ∃ u, mg "MARK" = some u ∧ RelV (.str "mark") u
  g_WORDS : mg "WORDS" = some (.ref a_WORDS)
  t_WORDS : ∃ (o : Obj) (its : Array Value) (n : Nat), K.lookup a_WORDS = some o ∧ o.cls = .type "tuple" ∧ o.data = .seq its n ∧ its.size ≤ sizeLine ∧ Vals ((["mark", "part", "same", "test", "sum", "not", "both", "either"] : List Str).map V.str) its.toList
  g_MOST_LETTERS : ∃ u, mg "MOST_LETTERS" = some u ∧ RelV (.int 8) u
  g_MOST_KINDS : ∃ u, mg "MOST_KINDS" = some u ∧ RelV (.int 5) u
  g_MOST_MAKERS : ∃ u, mg "MOST_MAKERS" = some u ∧ RelV (.int 4) u
  g_MOST_PARTS : ∃ u, mg "MOST_PARTS" = some u ∧ RelV (.int 3) u
section
variable {P : Program} {w : World} {K : PySem.W.Frag} {mg : Str → Option Value} {base : Heap} {aW : Addr}
theorem c_law_take (F : At_law_take K mg) : C8.Cal P w K mg base 1 "_law_take" spTake [] := by
  refine F.cal sc_law_take (fun vs H Q E h => ?_) (fun f cdv A outer s H vs Q E hr h => ?_)
  · obtain ⟨p, m, n, rfl, _⟩ := h
    rfl
  · obtain ⟨p, m, n, rfl, ⟨x, y, z, hp, x0, y0, y1, z0, z1⟩, m0, m1, hn, k⟩ := h
    have nd := sc_law_take.nd
    refine ⟨_, (pss_cons (ps_if (pt_cmpR op_gt (pe_ix ix_list (pv 0) pe_int (fun _ _ => rfl)) pe_int (nomark _)) (pss_cons (ps_set (i := 2) nd rfl (by first | exact Or.inl rfl | exact Or.inr rfl) (pe_op op_mod (pe_ix ix_list (pv 0) pe_int (fun _ _ => rfl)) (pv 1)))
        (pss_cons (ps_asg (pe_op op_fdiv (pe_ix ix_list (pv 0) pe_int (fun _ _ => rfl)) (pv 1)) (pg_sub (pv 0) pe_int set_list))
        (pss_one (ps_ret (pv 2))))) pss_nil)
      (pss_cons (ps_asg (pe_op op_add (pe_ix ix_list (pv 0) pe_int (fun _ _ => rfl)) pe_int) (pg_sub (pv 0) pe_int set_list))
      (pss_cons (ps_set (i := 3) nd rfl (by first | exact Or.inl rfl | exact Or.inr rfl) (pe_op op_mod (pe_op op_pow (pe_op op_add (pe_ix ix_list (pv 0) pe_int (fun _ _ => rfl)) (pe_op op_mul pe_int (pe_ix ix_list (pv 0) pe_int (fun _ _ => rfl)))) pe_int) pe_int))
      (pss_cons (ps_set (i := 4) nd rfl (by first | exact Or.inl rfl | exact Or.inr rfl) (pe_op op_mod (pe_op op_pow (pe_op op_add (pe_op op_add (pv 3) (pe_op op_mod (pe_ix ix_list (pv 0) pe_int (fun _ _ => rfl)) pe_int)) (pe_op op_mul pe_int (pe_ix ix_list (pv 0) pe_int (fun _ _ => rfl)))) pe_int) pe_int))
      (pss_one (ps_ret (pe_op op_mod (pe_op op_fdiv (pv 4) pe_int) (pv 1)))))))), ?_⟩
    refine ⟨_, rfl, p, _, _, _, rfl, rfl, SqL.of hp, rfl, _, _, rfl, rfl, _, rfl, ?_⟩
    refine ite2 (fun c => ?_) (fun c => ?_)
    · refine ⟨_, rfl, p, _, _, _, rfl, rfl, SqL.of hp, rfl, _, rfl, _, _, rfl, rfl, m0, ?_⟩
      refine ⟨_, rfl, p, _, _, _, rfl, rfl, SqL.of hp, rfl, _, rfl, _, _, rfl, rfl, ⟨m0, m1⟩, ?_⟩
      refine ⟨_, rfl, p, _, _, _, rfl, rfl, hp, rfl, _, rfl, ?_⟩
      refine k (x % m) _ (Int.emod_nonneg x (by omega)) (Int.emod_lt_of_pos x m0) ⟨x / m, y, z, upd_same, Int.ediv_nonneg x0 (by omega), y0, y1, z0, by omega⟩ (Kp.wr hp (by simp))
    · have hz : ∀ (v : Int), upd H p (.lst ([V.int x, V.int y, V.int z].set (Int.toNat 2) (V.int v))) p = some (.lst [.int x, .int y, .int v]) := fun v => upd_same
      refine ⟨_, rfl, p, _, _, _, rfl, rfl, SqL.of hp, rfl, _, _, rfl, rfl, _, rfl, p, _, _, _, rfl, rfl, hp, rfl, ?_⟩
      refine ⟨_, rfl, p, _, _, _, rfl, rfl, SqL.of (hz _), rfl, _, rfl, p, _, _, _, rfl, rfl, SqL.of (hz _), rfl, _, _, rfl, rfl, .inl (by constructor <;> decide), _, _, rfl, rfl, _, _, rfl, rfl, ?_, ?_⟩
      · exact ⟨by decide, by decide, by show (y + 104729 * (z + 1)).natAbs < 18446744073709551616; omega⟩
      refine ⟨_, _, rfl, rfl, (by show (0 : Int) < 2305843009213693921; decide), ?_⟩
      refine ⟨_, rfl, _, rfl, p, _, _, _, rfl, rfl, SqL.of (hz _), rfl, _, _, rfl, rfl, (by show (0 : Int) < 65537; decide), _, _, rfl, rfl, _, rfl, p, _, _, _, rfl, rfl, SqL.of (hz _), rfl, _, _, rfl, rfl, .inl (by constructor <;> decide), _, _, rfl, rfl, _, _, rfl, rfl, ?_, ?_⟩
      · refine ⟨by decide, by decide, ?_⟩
        show ((y + 104729 * (z + 1)) ^ 3 % 2305843009213693921 + y % 65537 + 31 * (z + 1)).natAbs < 18446744073709551616
        omega
      refine ⟨_, _, rfl, rfl, (by show (0 : Int) < 2305843009213693907; decide), ?_⟩
      refine ⟨_, rfl, _, _, rfl, rfl, ⟨by decide, by decide⟩, _, rfl, _, _, rfl, rfl, m0, ?_⟩
      exact k _ _ (Int.emod_nonneg _ (by omega)) (Int.emod_lt_of_pos _ m0) ⟨x, y, z + 1, hz _, x0, y0, y1, by omega, by omega⟩ (Kp.wr hp (by simp))
/-- a text alone: whether it is a name -/
def spIsName : Sp := fun vs H Q _ => ∃ x : Str, vs = [.str x] ∧ x.length ≤ 1000 ∧ ∀ H', Kp [] H H' → Q (.bl (isName x)) H'
theorem c_is_name (T : Txt K mg aW) (F : At_is_name K mg) : C8.Cal P w K mg base 1 "is_name" spIsName [] := by
  refine F.cal sc_is_name (fun vs H Q E h => ?_) (fun f cdv A outer s H vs Q E hr h => ?_)
  · obtain ⟨x, rfl, _⟩ := h
    rfl
  · obtain ⟨x, rfl, hx, k⟩ := h
    have nd := sc_is_name.nd
    refine ⟨_, (pss_cons (ps_if (PW.pt (pw_or (pt_not (pt_val (pe_callB call_isi (by rfl) T.z_isinstance (by decide +kernel) (pa_cons (pv 0) (pa_cons (pe_bltn (v := .ty "str") (by rfl) T.z_str (by decide +kernel) rfl) pa_nil))))) (pw_or1 (pt_not (pt_chain op_le op_le pe_int (pe_callB call_len_str (by rfl) T.z_len (by decide +kernel) (pa_cons (pv 0) pa_nil)) (C8.pe_gc rfl T.g_MOST_LETTERS)))))) (pss_one (ps_ret pe_bl)) pss_nil)
      (pss_one (ps_ret (pe_and (pe_cmpR op_notIn_seq (pv 0) (pe_glob (v := .ref _) rfl T.g_WORDS rfl) (by rfl)) (pe_one (pe_callB (cr_all rfl) (by rfl) T.z_all (by decide +kernel) (pa_cons (pe_lc (own := [("letter", 1)]) (g := (gName 1)) (tt := tYes) rfl nd (pi_str (pv 0)) (blkOk_by (N := nn_is_name) (sc := defScope st_is_name) (own := [("letter", 1)]) (by decide +kernel)) (fun _ _ _ _ _ => (pg_name (i := 1) nd rfl (by first | exact Or.inl rfl | exact Or.inr rfl))) (fun _ _ _ _ _ => pts_nil) (fun _ _ _ _ _ => (pe_chain op_le_str op_le_str pe_str (pv 1) pe_str))) pa_nil))))))), ?_⟩
    have hsz : x.length ≤ sizeLine := Nat.le_of_lt (small1000 hx)
    refine ⟨_, rfl, _, _, _, _, true, rfl, .ty "str", .base (.str x), kit_ty (by decide +kernel), _, rfl, iteF ?_⟩
    refine ⟨_, rfl, x, rfl, hsz, _, _, rfl, rfl, _, rfl, ?_⟩
    by_cases h1 : (1 : Int) ≤ (x.length : Int)
    · refine iteD h1 ⟨_, _, rfl, rfl, _, rfl, ?_⟩
      by_cases h8 : (x.length : Int) ≤ 8
      · refine iteBn (by simp [h8]) ?_
        refine ⟨_, rfl, aW, _, rfl, .inr (.inr T.t_WORDS), rfl, flats _, _, rfl, ?_⟩
        have e1 : decide (1 ≤ x.length) = true := decide_eq_true (by omega)
        have e8 : decide (x.length ≤ 8) = true := decide_eq_true (by omega)
        by_cases hw : wordsL.contains x = true
        · refine iteBn (by rw [inV_strs]; show (!wordsL.contains x) = false; rw [hw]; rfl) ?_
          have en : isName x = false := by unfold isName; rw [hw]; simp
          rw [← en]
          exact k H Kp.refl
        · have hw' : wordsL.contains x = false := by simpa using hw
          refine iteB (by rw [inV_strs]; show (!wordsL.contains x) = true; rw [hw']; rfl) ?_
          refine ⟨_, rfl, x, rfl, fun D hD => ?_⟩
          refine lcW (S := []) walk_str (fun i => (x.cps.toList[i]?).map fun c => V.bl (decide (97 ≤ c) && decide (c ≤ 122))) hD (by simp) (small1000 hx) (fun _ _ => trivial) ?_ ?_
          · rintro i v H' H'' C N hi kp ⟨rfl, c, hc, rfl⟩ hC hN
            refine ⟨rfl, ?_⟩
            have hout : ∀ b : Bool, b = (decide (97 ≤ c) && decide (c ≤ 122)) → C (.bl b) H'' := fun b hb => hC _ _ Kp.refl (by rw [Array.getElem?_toList, hc, hb]; rfl)
            refine ⟨_, rfl, _, _, rfl, rfl, _, rfl, ?_⟩
            have ea : (("a" : Str)) = (⟨#[97]⟩ : Str) := by decide +kernel
            have ez : (("z" : Str)) = (⟨#[122]⟩ : Str) := by decide +kernel
            rw [ea, ez, lt_one]
            by_cases c1 : c < 97
            · refine iteBn (by simp [c1]) ?_
              exact hout _ (by simp; omega)
            · refine iteB (by simp [c1]) ⟨_, _, rfl, rfl, ?_⟩
              rw [lt_one]
              refine hout _ ?_
              by_cases c2 : 122 < c
              · rw [decide_eq_true c2, decide_eq_false (show ¬ c ≤ 122 by omega)]; simp
              · rw [decide_eq_false c2, decide_eq_true (show c ≤ 122 by omega), decide_eq_true (show 97 ≤ c by omega)]; rfl
          · intro H' kp hH'
            have hl := range_map (fun c : Nat => V.bl (decide (97 ≤ c) && decide (c ≤ 122))) x.cps.toList
            rw [Array.length_toList] at hl
            rw [hl] at hH'
            refine ⟨D, x.cps.toList.map (fun c => decide (97 ≤ c) && decide (c ≤ 122)), rfl, ?_, ?_⟩
            · rw [List.map_map]; exact SqL.of hH'
            · rw [List.all_map]
              have en : isName x = x.cps.toList.all (id ∘ fun c => decide (97 ≤ c) && decide (c ≤ 122)) := by
                unfold isName
                rw [e1, e8, hw']
                rfl
              rw [← en]
              exact k H' kp
      · refine iteB (by simp; omega) ?_
        have en : isName x = false := by unfold isName; rw [decide_eq_false (show ¬ x.length ≤ 8 by omega)]; simp
        rw [← en]
        exact k H Kp.refl
    · refine iteDn h1 ⟨_, rfl, ?_⟩
      have en : isName x = false := by unfold isName; rw [decide_eq_false (show ¬ 1 ≤ x.length by omega)]; simp
      have z := k H Kp.refl
      rw [en] at z
      exact z
end
end Md

namespace Md
open PySem PySem.Spec PyProof.Rows L2

section
variable {P : Program} {w : World} {K : PySem.W.Frag} {mg : Str → Option Value} {base : Heap} {aW : Addr}
theorem tyx_tup {H : Hp} {a : Addr} {xs : List V} (h : SqT K H a xs) : TyX K H (.ref a) (.type "tuple") := by
  rcases h with (h | ⟨o, h⟩) | ⟨o, its, n, hk, hc, _⟩
  · exact .base (.tup h)
  · exact .fTuple h
  · exact .kTuple hk hc
/-- a tuple alone: whether it has so many items -/
def spIsRow (K : PySem.W.Frag) : Sp := fun vs H Q _ => ∃ (a : Addr) (xs : List V) (l m : Int), vs = [.ref a, .int l, .int m] ∧ SqT K H a xs ∧ Q (.bl (decide (l ≤ (xs.length : Int)) && decide ((xs.length : Int) ≤ m))) H
theorem c_u_is_row (T : Txt K mg aW) (F : At_u_is_row K mg) : C8.Cal P w K mg base 1 "_is_row" (spIsRow K) [] := by
  refine F.cal sc_u_is_row (fun vs H Q E h => ?_) (fun f cdv A outer s H vs Q E hr h => ?_)
  · obtain ⟨a, xs, l, m, rfl, _⟩ := h
    rfl
  · obtain ⟨a, xs, l, m, rfl, hq, k⟩ := h
    have nd := sc_u_is_row.nd
    refine ⟨_, (pss_one (ps_ret (pe_and (pe_callB call_isi (by rfl) T.z_isinstance (by decide +kernel) (pa_cons (pv 0) (pa_cons (pe_bltn (v := .ty "tuple") (by rfl) T.z_tuple (by decide +kernel) rfl) pa_nil))) (pe_one (pe_chain op_le op_le (pv 1) (pe_callB call_len_seq (by rfl) T.z_len (by decide +kernel) (pa_cons (pv 0) pa_nil)) (pv 2)))))), ?_⟩
    refine ⟨_, rfl, _, _, _, _, true, rfl, .ty "tuple", tyx_tup hq, kit_ty (by decide +kernel), _, rfl, iteT ?_⟩
    refine ⟨_, rfl, _, rfl, a, xs, rfl, .inr hq, _, _, rfl, rfl, _, rfl, ?_⟩
    by_cases h1 : l ≤ (xs.length : Int)
    · rw [decide_eq_true h1, Bool.true_and] at k
      exact iteD h1 ⟨_, rfl, _, _, rfl, rfl, k⟩
    · rw [decide_eq_false h1, Bool.false_and] at k
      exact iteDn h1 k
/-- a pair of a text and a tuple: whether it is named, with so many items -/
def spIsNamed (K : PySem.W.Frag) : Sp := fun vs H Q _ => ∃ (a b : Addr) (n : Str) (xs : List V) (l m : Int), vs = [.ref a, .int l, .int m] ∧ SqT K H a [.str n, .ref b] ∧ SqT K H b xs ∧ n.length ≤ 1000 ∧
  ∀ H', Kp [] H H' → Q (.bl (isName n && (decide (l ≤ (xs.length : Int)) && decide ((xs.length : Int) ≤ m)))) H'
theorem c_u_is_named (c_u_is_row : C8.Cal P w K mg base 1 "_is_row" (spIsRow K) []) (c_is_name : C8.Cal P w K mg base 1 "is_name" spIsName []) (F : At_u_is_named K mg) : C8.Cal P w K mg base 2 "_is_named" (spIsNamed K) [] := by
  refine F.cal sc_u_is_named (fun vs H Q E h => ?_) (fun f cdv A outer s H vs Q E hr h => ?_)
  · obtain ⟨a, b, n, xs, l, m, rfl, _⟩ := h
    rfl
  · obtain ⟨a, b, n, xs, l, m, rfl, ha, hb, hn, k⟩ := h
    have nd := sc_u_is_named.nd
    refine ⟨_, (pss_one (ps_ret (pe_and (C8.pe_c c_u_is_row hr (by decide) rfl (pa_cons (pv 0) (pa_cons pe_int (pa_cons pe_int pa_nil)))) (pe_and (C8.pe_c c_is_name hr (by decide) rfl (pa_cons (pe_ix ix_tup (pv 0) pe_int (fun _ _ => rfl)) pa_nil)) (pe_one (C8.pe_c c_u_is_row hr (by decide) rfl (pa_cons (pe_ix ix_tup (pv 0) pe_int (fun _ _ => rfl)) (pa_cons (pv 1) (pa_cons (pv 2) pa_nil))))))))), ?_⟩
    refine ⟨_, rfl, a, _, 2, 2, rfl, ha, _, rfl, iteT ?_⟩
    refine ⟨_, rfl, _, _, _, _, rfl, rfl, ha, rfl, n, rfl, hn, fun H1 k1 => ⟨_, rfl, ?_⟩⟩
    by_cases h1 : isName n = true
    · refine iteB h1 ⟨_, rfl, _, _, _, _, rfl, rfl, k1.sqt ha, rfl, _, rfl, _, rfl, b, xs, l, m, rfl, k1.sqt hb, ?_⟩
      have z := k H1 k1
      rw [h1, Bool.true_and] at z
      exact z
    · have h1' : isName n = false := by simpa using h1
      refine iteBn h1' ?_
      have z := k H1 k1
      rw [h1', Bool.false_and] at z
      exact z
/-- the kinds' names, in a new list -/
def spKindNames (K : PySem.W.Frag) : Sp := fun vs H Q _ => ∃ (v : V) (ks : Kds), vs = [v] ∧ KdsT K H v ks ∧ ks.length ≤ 100 ∧
  ∀ H' p, Kp [] H H' → H p = none → H' p = some (.lst ((kindNames ks).map V.str)) → Q (.ref p) H'
theorem c_u_kind_names (F : At_u_kind_names K mg) : C8.Cal P w K mg base 1 "_kind_names" (spKindNames K) [] := by
  refine F.cal sc_u_kind_names (fun vs H Q E h => ?_) (fun f cdv A outer s H vs Q E hr h => ?_)
  · obtain ⟨v, ks, rfl, _⟩ := h
    rfl
  · obtain ⟨v, ks, rfl, ⟨a, us, rfl, hq, hp⟩, hl, k⟩ := h
    have nd := sc_u_kind_names.nd
    have ul := plen hp
    refine ⟨_, (pss_one (ps_ret (pe_lc (own := [("kind", 1), ("_", 2)]) (g := (gTup _ 2 (gCons (gName 1) (gCons (gName 2) gNil)))) (tt := tYes) rfl nd (pi_tup (pv 0)) (blkOk_by (N := nn_u_kind_names) (sc := defScope st_u_kind_names) (own := [("kind", 1), ("_", 2)]) (by decide +kernel)) (fun _ _ _ _ _ => (pg_tup rfl (pgs_cons (pg_name (i := 1) nd rfl (by first | exact Or.inl rfl | exact Or.inr rfl)) (pgs_cons (pg_name (i := 2) nd rfl (by first | exact Or.inl rfl | exact Or.inr rfl)) pgs_nil)))) (fun _ _ _ _ _ => pts_nil) (fun _ _ _ _ _ => (pv 1))))), ?_⟩
    refine ⟨_, rfl, a, rfl, ⟨_, hq⟩, fun D hD => ?_⟩
    refine lcW (S := []) walk_tup (fun i => (ks[i]?).map fun d => V.str d.1) hD (by simp) (small1000 (by omega)) (fun H' kk => kk.sqt hq) ?_ ?_
    · rintro i x H' H'' C N hi kk ⟨rfl, hx⟩ hC hN
      obtain ⟨d, hd, b, q, rfl, hb, _⟩ := pget hp hx
      refine ⟨b, _, rfl, kk.sqt hb, rfl, _, _, rfl, _, _, rfl, rfl, rfl, ?_⟩
      exact ⟨_, rfl, hC _ _ Kp.refl (by rw [hd]; rfl)⟩
    · intro H' kk e
      rw [ul, range_map] at e
      refine k H' D kk hD ?_
      rw [e, kindNames, List.map_map]
      rfl
/-- the makers' names, in a new list -/
def spMakerNames (K : PySem.W.Frag) : Sp := fun vs H Q _ => ∃ (v : V) (ks : Kds), vs = [v] ∧ KdsT K H v ks ∧ ks.length ≤ 100 ∧ (∀ d ∈ ks, d.2.length ≤ 100) ∧
  ∀ H' p, Kp [] H H' → H p = none → H' p = some (.lst ((makerNames ks).map V.str)) → Q (.ref p) H'
theorem flat_len {ks : Kds} {m : Nat} (h : ∀ d ∈ ks, d.2.length ≤ m) : (rowsOf ks).length ≤ ks.length * m := by
  induction ks with
  | nil => simp [rowsOf]
  | cons d r ih =>
    have h1 := ih fun d hd => h d (List.mem_cons_of_mem _ hd)
    have h2 := h d List.mem_cons_self
    rw [rowsOf, List.flatMap_cons, List.length_append, List.length_cons, Nat.add_mul, Nat.one_mul]
    rw [rowsOf] at h1
    omega
theorem take_flat {ks : Kds} {i : Nat} {d : Kd} (h : ks[i]? = some d) : rowsOf (ks.take (i + 1)) = rowsOf (ks.take i) ++ d.2 := by
  have hi := (List.getElem?_eq_some_iff.mp h).1
  have hd := (List.getElem?_eq_some_iff.mp h).2
  rw [List.take_succ_eq_append_getElem hi, hd, rowsOf, List.flatMap_append]
  simp [rowsOf]
theorem c_u_maker_names (F : At_u_maker_names K mg) : C8.Cal P w K mg base 1 "_maker_names" (spMakerNames K) [] := by
  refine F.cal sc_u_maker_names (fun vs H Q E h => ?_) (fun f cdv A outer s H vs Q E hr h => ?_)
  · obtain ⟨v, ks, rfl, _⟩ := h
    rfl
  · obtain ⟨v, ks, rfl, ⟨a, us, rfl, hq, hp⟩, hl, hl2, k⟩ := h
    have nd := sc_u_maker_names.nd
    have ul := plen hp
    refine ⟨_, (pss_one (ps_ret (pe_lc2 (own := [("_", 1), ("makers", 2), ("maker", 3), ("_", 1)]) (vs1 := [3, 1]) (wi1 := iTup K (tVar 2)) (g := (gTup _ 2 (gCons (gName 1) (gCons (gName 2) gNil)))) (g1 := (gTup _ 2 (gCons (gName 3) (gCons (gName 1) gNil)))) (tt := tYes) (tt1 := tYes) rfl nd (pi_tup (pv 0)) (blkOk_by (N := nn_u_maker_names) (sc := defScope st_u_maker_names) (own := [("_", 1), ("makers", 2), ("maker", 3), ("_", 1)]) (by decide +kernel)) (by decide) (fun _ _ _ _ _ => (pg_tup rfl (pgs_cons (pg_name (i := 1) nd rfl (by first | exact Or.inl rfl | exact Or.inr rfl)) (pgs_cons (pg_name (i := 2) nd rfl (by first | exact Or.inl rfl | exact Or.inr rfl)) pgs_nil)))) (fun _ _ _ _ _ => pts_nil) (by exact fun _ _ _ _ _ => (pi_tup (pv 2))) (fun _ _ _ _ _ => (pg_tup rfl (pgs_cons (pg_name (i := 3) nd rfl (by first | exact Or.inl rfl | exact Or.inr rfl)) (pgs_cons (pg_name (i := 1) nd rfl (by first | exact Or.inl rfl | exact Or.inr rfl)) pgs_nil)))) (fun _ _ _ _ _ => pts_nil) (fun _ _ _ _ _ => (pv 3))))), ?_⟩
    refine ⟨_, rfl, a, rfl, ⟨_, hq⟩, fun D hD => ?_⟩
    refine lcO (S := []) walk_tup (fun i => (rowsOf (ks.take i)).map fun r => V.str r.1) (by simp [rowsOf]) hD (fun H' kk => kk.sqt hq) ?_ ?_
    · rintro i x H' H'' hi kk e ⟨rfl, hx⟩
      obtain ⟨d, hd, b, q, rfl, hb, ⟨c, ws, rfl, hc, hr2⟩⟩ := pget hp hx
      have dm : d ∈ ks := List.mem_of_getElem? hd
      have wl := plen hr2
      refine ⟨b, _, rfl, kk.sqt hb, rfl, _, _, rfl, _, _, rfl, rfl, rfl, ?_⟩
      refine ⟨_, rfl, c, rfl, ⟨_, kk.sqt hc⟩, ?_⟩
      have zl : ((rowsOf (ks.take i)).map fun r => V.str r.1).length ≤ 10000 := by
        rw [List.length_map]
        refine Nat.le_trans (flat_len (m := 100) fun d hd => hl2 d (List.mem_of_mem_take hd)) ?_
        have := List.length_take_le i ks
        omega
      have d100 := hl2 d dm
      refine lcI (S := []) walk_tup (fun j => (d.2[j]?).map fun r => V.str r.1) _ hD (by simp) kk e (Nat.lt_of_le_of_lt (show _ ≤ 20000 by omega) (by decide)) (fun H' k2 => k2.sqt hc) ?_ ?_
      · rintro j y H3 H4 C N hj k3 ⟨rfl, hy⟩ hC hN
        obtain ⟨r, hr3, b2, q2, rfl, hb2, _⟩ := pget hr2 hy
        refine ⟨b2, _, rfl, k3.sqt hb2, rfl, _, _, rfl, _, _, rfl, rfl, rfl, ?_⟩
        exact ⟨_, rfl, hC _ _ Kp.refl (by rw [hr3]; rfl)⟩
      · intro H3 k3 e3
        refine ⟨k3, ?_⟩
        rw [wl, range_map] at e3
        rw [e3, take_flat hd, List.map_append]
    · intro H' kk e
      rw [ul, List.take_length] at e
      refine k H' D kk hD ?_
      rw [e, makerNames, List.map_map]
      rfl
end

end Md

namespace Md
open PySem PySem.Spec PyProof.Rows L2

section
variable {P : Program} {w : World} {K : PySem.W.Frag} {mg : Str → Option Value} {base : Heap} {aW : Addr}
/-- what names may be: a list of texts, or the dict of sizes -/
def NamesT (K : PySem.W.Frag) (H : Hp) (v : V) (f : Str → Bool) : Prop :=
  (∃ (p : Addr) (ns : List Str), v = .ref p ∧ SqL K H p (ns.map V.str) ∧ f = fun x => ns.contains x) ∨ ∃ (p : Addr) (S : Szs), v = .ref p ∧ H p = some (.dK (dictS S)) ∧ f = fun x => (lookS S x).isSome
theorem NamesT.kp {H H' : Hp} {v : V} {f : Str → Bool} (k : Kp [] H H') (h : NamesT K H v f) : NamesT K H' v f := by
  rcases h with ⟨p, ns, e, q, ef⟩ | ⟨p, S, e, q, ef⟩
  · exact .inl ⟨p, ns, e, k.sql q (by simp), ef⟩
  · exact .inr ⟨p, S, e, k.old _ _ q (by simp), ef⟩
/-- all([b for ..]) of truths -/
theorem allB (bs : List Bool) : bs.all id = bs.all fun b => b := rfl
def spAreIn (K : PySem.W.Frag) : Sp := fun vs H Q _ => ∃ (v u : V) (ps : List Str) (f : Str → Bool), vs = [v, u] ∧ StrsT K H v ps ∧ ps.length ≤ 100 ∧ NamesT K H u f ∧ ∀ H', Kp [] H H' → Q (.bl (ps.all f)) H'
theorem c_u_are_in (T : Txt K mg aW) (F : At_u_are_in K mg) : C8.Cal P w K mg base 1 "_are_in" (spAreIn K) [] := by
  refine F.cal sc_u_are_in (fun vs H Q E h => ?_) (fun f cdv A outer s H vs Q E hr h => ?_)
  · obtain ⟨v, u, ps, f, rfl, _⟩ := h
    rfl
  · obtain ⟨v, u, ps, f, rfl, ⟨a, rfl, hq⟩, hl, hn, k⟩ := h
    have nd := sc_u_are_in.nd
    have hu := hu_of hr
    refine ⟨_, (pss_one (ps_ret (pe_callB (cr_all rfl) (by rfl) T.z_all (by decide +kernel) (pa_cons (pe_lc (own := [("part", 2)]) (te := tOp (fun x y H Q => rIn K false x y H Q ∨ rInDct x y H Q) (tVar 2) (tVar 1)) (g := (gName 2)) (tt := tYes) rfl nd (pi_tup (pv 0)) (blkOk_by (N := nn_u_are_in) (sc := defScope st_u_are_in) (own := [("part", 2)]) (by decide +kernel)) (fun _ _ _ _ _ => (pg_name (i := 2) nd rfl (by first | exact Or.inl rfl | exact Or.inr rfl))) (fun _ _ _ _ _ => pts_nil) (fun _ _ _ _ _ => (pe_cmpR (OpR.or op_in_seq (op_in_dct hu)) (pv 2) (pv 1) (by rfl)))) pa_nil)))), ?_⟩
    refine ⟨_, rfl, a, rfl, ⟨_, hq⟩, fun D hD => ?_⟩
    refine lcW (S := []) walk_tup (fun i => (ps[i]?).map fun p => V.bl (f p)) hD (by simp) (small1000 (by rw [List.length_map]; omega)) (fun H' kk => kk.sqt hq) ?_ ?_
    · rintro i x H' H'' C N hi kk ⟨rfl, hx⟩ hC hN
      rw [List.getElem?_map] at hx
      obtain ⟨p, hp, rfl⟩ := Option.map_eq_some_iff.mp hx
      refine ⟨rfl, ⟨_, rfl, _, rfl, ?_⟩⟩
      rcases hn.kp kk with ⟨q, ns, rfl, hs, ef⟩ | ⟨q, S, rfl, hs, ef⟩
      · refine .inl ⟨q, _, rfl, .inl hs, rfl, flats _, ?_⟩
        refine hC _ _ Kp.refl ?_
        rw [hp, ef]
        show some (V.bl (ns.contains p)) = some (V.bl (inV (.str p) (ns.map V.str)))
        rw [inV_strs]
      · refine .inr ⟨q, _, rfl, DGet.k (k := Sum.inr p) hs, ?_⟩
        refine hC _ _ Kp.refl ?_
        rw [hp, ef, dictS_val, Option.isSome_map]
        rfl
    · intro H' kk e
      rw [List.length_map, range_map] at e
      refine ⟨D, ps.map f, rfl, by rw [List.map_map]; exact SqL.of e, ?_⟩
      rw [List.all_map]
      exact k H' kk
def spHasAll (K : PySem.W.Frag) : Sp := fun vs H Q _ => ∃ (v u : V) (rs : List Rw) (f : Str → Bool), vs = [v, u] ∧ RowsT K H v rs ∧ rs.length ≤ 100 ∧ (∀ r ∈ rs, r.2.length ≤ 100) ∧ NamesT K H u f ∧ ∀ H', Kp [] H H' → Q (.bl (rs.all fun r => r.2.all f)) H'
theorem c_u_has_all_parts (T : Txt K mg aW) (c_u_are_in : C8.Cal P w K mg base 1 "_are_in" (spAreIn K) []) (F : At_u_has_all_parts K mg) : C8.Cal P w K mg base 2 "_has_all_parts" (spHasAll K) [] := by
  refine F.cal sc_u_has_all_parts (fun vs H Q E h => ?_) (fun f cdv A outer s H vs Q E hr h => ?_)
  · obtain ⟨v, u, rs, f, rfl, _⟩ := h
    rfl
  · obtain ⟨v, u, rs, f, rfl, ⟨a, us, rfl, hq, hp⟩, hl, hl2, hn, k⟩ := h
    have nd := sc_u_has_all_parts.nd
    have ul := plen hp
    refine ⟨_, (pss_one (ps_ret (pe_callB (cr_all rfl) (by rfl) T.z_all (by decide +kernel) (pa_cons (pe_lc (own := [("_", 2), ("parts", 3)]) (g := (gTup _ 2 (gCons (gName 2) (gCons (gName 3) gNil)))) (tt := tYes) rfl nd (pi_tup (pv 0)) (blkOk_by (N := nn_u_has_all_parts) (sc := defScope st_u_has_all_parts) (own := [("_", 2), ("parts", 3)]) (by decide +kernel)) (fun _ _ _ _ _ => (pg_tup rfl (pgs_cons (pg_name (i := 2) nd rfl (by first | exact Or.inl rfl | exact Or.inr rfl)) (pgs_cons (pg_name (i := 3) nd rfl (by first | exact Or.inl rfl | exact Or.inr rfl)) pgs_nil)))) (fun _ _ _ _ _ => pts_nil) (fun _ _ _ _ _ => (C8.pe_c c_u_are_in hr (by decide) rfl (pa_cons (pv 3) (pa_cons (pv 1) pa_nil))))) pa_nil)))), ?_⟩
    refine ⟨_, rfl, a, rfl, ⟨_, hq⟩, fun D hD => ?_⟩
    refine lcW (S := []) walk_tup (fun i => (rs[i]?).map fun r => V.bl (r.2.all f)) hD (by simp) (small1000 (by omega)) (fun H' kk => kk.sqt hq) ?_ ?_
    · rintro i x H' H'' C N hi kk ⟨rfl, hx⟩ hC hN
      obtain ⟨r, hr3, b, q, rfl, hb, hps⟩ := pget hp hx
      refine ⟨b, _, rfl, kk.sqt hb, rfl, _, _, rfl, _, _, rfl, rfl, rfl, ?_⟩
      refine ⟨_, rfl, _, rfl, _, _, r.2, f, rfl, hps.kp kk, hl2 r (List.mem_of_getElem? hr3), hn.kp kk, fun H1 k1 => ?_⟩
      exact hC _ _ k1 (by rw [hr3]; rfl)
    · intro H' kk e
      rw [ul, range_map] at e
      refine ⟨D, rs.map fun r => r.2.all f, rfl, by rw [List.map_map]; exact SqL.of e, ?_⟩
      rw [List.all_map]
      exact k H' kk
def spPartsKinds (K : PySem.W.Frag) : Sp := fun vs H Q _ => ∃ (v : V) (ks : Kds), vs = [v] ∧ KdsT K H v ks ∧ GoodK ks ∧ ∀ H', Kp [] H H' → Q (.bl true) H'
theorem c_u_are_parts_kinds (T : Txt K mg aW) (c_u_kind_names : C8.Cal P w K mg base 1 "_kind_names" (spKindNames K) []) (c_u_has_all_parts : C8.Cal P w K mg base 2 "_has_all_parts" (spHasAll K) []) (F : At_u_are_parts_kinds K mg) :
    C8.Cal P w K mg base 3 "_are_parts_kinds" (spPartsKinds K) [] := by
  refine F.cal sc_u_are_parts_kinds (fun vs H Q E h => ?_) (fun f cdv A outer s H vs Q E hr h => ?_)
  · obtain ⟨v, ks, rfl, _⟩ := h
    rfl
  · obtain ⟨v, ks, rfl, hk, g, k⟩ := h
    have nd := sc_u_are_parts_kinds.nd
    have l5 := g.l5
    refine ⟨_, (pss_cons (ps_set (i := 1) nd rfl (by first | exact Or.inl rfl | exact Or.inr rfl) (pe_op op_cat (pe_lst (pa_cons (C8.pe_gc rfl T.g_MARK) pa_nil)) (C8.pe_c c_u_kind_names hr (by decide) rfl (pa_cons (pv 0) pa_nil))))
      (pss_one (ps_ret (pe_callB (cr_all rfl) (by rfl) T.z_all (by decide +kernel) (pa_cons (pe_lc (own := [("_", 2), ("makers", 3)]) (g := (gTup _ 2 (gCons (gName 2) (gCons (gName 3) gNil)))) (tt := tYes) rfl nd (pi_tup (pv 0)) (blkOk_by (N := nn_u_are_parts_kinds) (sc := defScope st_u_are_parts_kinds) (own := [("_", 2), ("makers", 3)]) (by decide +kernel)) (fun _ _ _ _ _ => (pg_tup rfl (pgs_cons (pg_name (i := 2) nd rfl (by first | exact Or.inl rfl | exact Or.inr rfl)) (pgs_cons (pg_name (i := 3) nd rfl (by first | exact Or.inl rfl | exact Or.inr rfl)) pgs_nil)))) (fun _ _ _ _ _ => pts_nil) (fun _ _ _ _ _ => (C8.pe_c c_u_has_all_parts hr (by decide) rfl (pa_cons (pv 3) (pa_cons (pv 1) pa_nil))))) pa_nil))))), ?_⟩
    refine ⟨(by show 1 ≤ sizeLine; decide), fun p hp => ?_⟩
    have k0 : Kp [] H (upd H p (.lst [.str "mark"])) := Kp.new hp
    refine ⟨_, rfl, _, ks, rfl, hk.kp k0, by omega, fun H1 q k1 hq e1 => ?_⟩
    have ep : H1 p = some (.lst [.str "mark"]) := k1.old _ _ upd_same (by simp)
    refine ⟨p, q, _, _, rfl, rfl, ep, e1, ?_, fun r hr2 => ?_⟩
    · rw [List.length_map]
      exact Nat.le_of_lt (small1000 (by simp [kindNames]; omega))
    have k2 : Kp [] H (upd H1 r (.lst ([V.str "mark"] ++ (kindNames ks).map V.str))) := (k0.trans k1).new' hr2
    have sr : SqL K (upd H1 r (.lst ([V.str "mark"] ++ (kindNames ks).map V.str))) r ((("mark" : Str) :: kindNames ks).map V.str) := SqL.of upd_same
    obtain ⟨a, us, rfl, hq2, hp2⟩ := hk
    have ul := plen hp2
    refine ⟨_, rfl, a, rfl, ⟨_, k2.sqt hq2⟩, fun D hD => ?_⟩
    refine lcW (S := []) walk_tup (fun i => (ks[i]?).map fun d => V.bl (d.2.all fun r => r.2.all fun x => (("mark" : Str) :: kindNames ks).contains x)) hD (by simp) (small1000 (by omega)) (fun H' kk => kk.sqt (k2.sqt hq2)) ?_ ?_
    · rintro i x H' H'' C N hi kk ⟨rfl, hx⟩ hC hN
      obtain ⟨d, hd, b, q, rfl, hb, hrs⟩ := pget hp2 hx
      have dm := List.mem_of_getElem? hd
      have m4 := g.m4 d dm
      refine ⟨b, _, rfl, kk.sqt (k2.sqt hb), rfl, _, _, rfl, _, _, rfl, rfl, rfl, ?_⟩
      refine ⟨_, rfl, _, rfl, _, _, d.2, _, rfl, (hrs.kp k2).kp kk, by omega, fun r hr3 => ?_, .inl ⟨r, _, rfl, kk.sql sr (by simp), rfl⟩, fun H3 k3 => ?_⟩
      · have := g.p3 d dm r hr3
        omega
      · exact hC _ _ k3 (by rw [hd]; rfl)
    · intro H' kk e
      rw [ul, range_map] at e
      refine ⟨D, ks.map fun d => d.2.all fun r => r.2.all fun x => (("mark" : Str) :: kindNames ks).contains x, rfl, by rw [List.map_map]; exact SqL.of e, ?_⟩
      have et : (ks.map fun d => d.2.all fun r => r.2.all fun x => (("mark" : Str) :: kindNames ks).contains x).all id = true := by
        rw [List.all_map]
        refine List.all_eq_true.mpr fun d hd => ?_
        refine List.all_eq_true.mpr fun r hr3 => List.all_eq_true.mpr fun x hx => ?_
        rcases g.ps d hd r hr3 x hx with z | z
        · subst z; simp
        · simp [z]
      rw [et]
      exact k H' (k2.trans kk)
def spSizeMade (K : PySem.W.Frag) : Sp := fun vs H Q _ => ∃ (d : Addr) (S : Szs) (v : V) (ps : List Str), vs = [.ref d, v] ∧ H d = some (.dK (dictS S)) ∧ StrsT K H v ps ∧ ps.length ≤ 100 ∧ (∀ p ∈ ps, (lookS S p).isSome = true) ∧ ∀ H', Kp [] H H' → Q (.int (sizeMade S ps)) H'
theorem c_size_made (T : Txt K mg aW) (F : At_size_made K mg) : C8.Cal P w K mg base 1 "size_made" (spSizeMade K) [] := by
  refine F.cal sc_size_made (fun vs H Q E h => ?_) (fun f cdv A outer s H vs Q E hr h => ?_)
  · obtain ⟨d, S, v, ps, rfl, _⟩ := h
    rfl
  · obtain ⟨d, S, v, ps, rfl, hd, ⟨a, rfl, hq⟩, hl, ha, k⟩ := h
    have nd := sc_size_made.nd
    have hu := hu_of hr
    refine ⟨_, (pss_one (ps_ret (pe_op op_add pe_int (pe_callB (cr_sum rfl) (by rfl) T.z_sum (by decide +kernel) (pa_cons (pe_lc (own := [("part", 2)]) (g := (gName 2)) (tt := tYes) rfl nd (pi_tup (pv 1)) (blkOk_by (N := nn_size_made) (sc := defScope st_size_made) (own := [("part", 2)]) (by decide +kernel)) (fun _ _ _ _ _ => (pg_name (i := 2) nd rfl (by first | exact Or.inl rfl | exact Or.inr rfl))) (fun _ _ _ _ _ => pts_nil) (fun _ _ _ _ _ => (pe_dget hu (pv 0) (pv 2) (fun _ _ => rfl)))) pa_nil))))), ?_⟩
    refine ⟨_, rfl, a, rfl, ⟨_, hq⟩, fun D hD => ?_⟩
    refine lcW (S := []) walk_tup (fun i => (ps[i]?).map fun p => V.int ((lookS S p).getD 0)) hD (by simp) (small1000 (by rw [List.length_map]; omega)) (fun H' kk => kk.sqt hq) ?_ ?_
    · rintro i x H' H'' C N hi kk ⟨rfl, hx⟩ hC hN
      rw [List.getElem?_map] at hx
      obtain ⟨p, hp, rfl⟩ := Option.map_eq_some_iff.mp hx
      obtain ⟨n, en⟩ := Option.isSome_iff_exists.mp (ha p (List.mem_of_getElem? hp))
      have g := DGet.k (k := (Sum.inr p : Key)) (kk.old _ _ hd (by simp))
      rw [dictS_val, en] at g
      refine ⟨rfl, ⟨_, rfl, _, rfl, d, _, rfl, g, ?_⟩⟩
      exact hC _ _ Kp.refl (by rw [hp]; simp [en])
    · intro H' kk e
      rw [List.length_map, range_map] at e
      refine ⟨D, ps.map fun p => (lookS S p).getD 0, rfl, by rw [List.map_map]; exact SqL.of e, _, _, rfl, rfl, ?_⟩
      exact k H' kk
end

end Md

namespace Md
open PySem PySem.Spec PyProof.Rows L2

section
variable {P : Program} {w : World} {K : PySem.W.Frag} {mg : Str → Option Value} {base : Heap} {aW : Addr}
structure SmallK (ks : Kds) : Prop where
  a : ks.length ≤ 100
  b : ∀ d ∈ ks, d.2.length ≤ 100
  c : ∀ d ∈ ks, ∀ r ∈ d.2, r.2.length ≤ 100
theorem GoodK.small {ks : Kds} (g : GoodK ks) : SmallK ks :=
  ⟨by have := g.l5; omega, fun d h => by have := g.m4 d h; omega, fun d h r hr => by have := g.p3 d h r hr; omega⟩
theorem minL_spec : ∀ l : List Int, l ≠ [] → minL l ∈ l ∧ ∀ y ∈ l, minL l ≤ y
  | [], h => absurd rfl h
  | [a], _ => ⟨by simp [minL], fun y hy => by simp at hy; subst hy; exact Int.le_refl _⟩
  | a :: b :: r, _ => by
    obtain ⟨h1, h2⟩ := minL_spec (b :: r) (by simp)
    rw [minL]
    refine ⟨?_, fun y hy => ?_⟩
    · rcases Int.le_total a (minL (b :: r)) with h | h
      · rw [Int.min_eq_left h]; exact List.mem_cons_self
      · rw [Int.min_eq_right h]; exact List.mem_cons_of_mem _ h1
    · rcases List.mem_cons.mp hy with e | e
      · subst e; exact Int.min_le_left _ _
      · exact Int.le_trans (Int.min_le_right _ _) (h2 y e)
theorem minL_is {l : List Int} {m : Int} (hm : m ∈ l) (hle : ∀ y ∈ l, m ≤ y) : m = minL l := by
  obtain ⟨h1, h2⟩ := minL_spec l (fun z => by subst z; cases hm)
  exact Int.le_antisymm (hle _ h1) (h2 _ hm)
theorem stepK_len (S : Szs) (k : Kd) : (stepK S k).length ≤ S.length + 1 := by
  unfold stepK
  split
  · omega
  · exact putS_len _ _ _
theorem roundK_len : ∀ (ks : Kds) (S : Szs), (roundK ks S).length ≤ S.length + ks.length
  | [], S => Nat.le_refl _
  | k :: ks, S => by
    have h1 := roundK_len ks (stepK S k)
    have h2 := stepK_len S k
    rw [List.length_cons]
    show (roundK ks (stepK S k)).length ≤ _
    omega
theorem sizesN_len (ks : Kds) : ∀ n, (sizesN ks n).length ≤ 1 + n * ks.length
  | 0 => by simp [sizesN, sizes0]
  | n + 1 => by
    have h1 := sizesN_len ks n
    have h2 := roundK_len ks (sizesN ks n)
    show (roundK ks (sizesN ks n)).length ≤ _
    rw [Nat.add_mul, Nat.one_mul]
    omega
theorem roundK_take {ks : Kds} {j : Nat} {d : Kd} (S : Szs) (h : ks[j]? = some d) : roundK (ks.take (j + 1)) S = stepK (roundK (ks.take j) S) d := by
  have hi := (List.getElem?_eq_some_iff.mp h).1
  have hd := (List.getElem?_eq_some_iff.mp h).2
  rw [List.take_succ_eq_append_getElem hi, hd, roundK, List.foldl_append]
  rfl
/-- the least sizes in a new dict -/
def spLeastSizes (K : PySem.W.Frag) : Sp := fun vs H Q _ => ∃ (v : V) (ks : Kds), vs = [v] ∧ KdsT K H v ks ∧ SmallK ks ∧ ∀ H' p, Kp [] H H' → H p = none → H' p = some (.dK (dictS (leastS ks))) → Q (.ref p) H'
set_option maxHeartbeats 1000000 in
theorem c_least_sizes (T : Txt K mg aW) (c_size_made : C8.Cal P w K mg base 1 "size_made" (spSizeMade K) []) (c_u_are_in : C8.Cal P w K mg base 1 "_are_in" (spAreIn K) []) (F : At_least_sizes K mg) :
    C8.Cal P w K mg base 2 "least_sizes" (spLeastSizes K) [] := by
  refine F.cal sc_least_sizes (fun vs H Q E h => ?_) (fun f cdv A outer s H vs Q E hr h => ?_)
  · obtain ⟨v, ks, rfl, _⟩ := h
    rfl
  · obtain ⟨v, ks, rfl, ⟨a, us, rfl, hq, hp⟩, sm, k⟩ := h
    have nd := sc_least_sizes.nd
    have hu := hu_of hr
    have ul := plen hp
    have la := sm.a
    refine ⟨_, (pss_cons (ps_set (i := 1) nd rfl (by first | exact Or.inl rfl | exact Or.inr rfl) (pe_disp (pps_cons (C8.pe_gc rfl T.g_MARK) pe_int pps_nil) (by rfl) (by rfl) (fun z => by cases z) (by decide)))
      (pss_cons (ps_for PassesOwn.never rfl (pi_tup (pv 0)) (pg_name (i := 2) nd rfl (by first | exact Or.inl rfl | exact Or.inr rfl))
        (pss_one (ps_for PassesOwn.never rfl (pi_tup (pv 0)) (pg_tup rfl (pgs_cons (pg_name (i := 3) nd rfl (by first | exact Or.inl rfl | exact Or.inr rfl)) (pgs_cons (pg_name (i := 4) nd rfl (by first | exact Or.inl rfl | exact Or.inr rfl)) pgs_nil)))
          (pss_cons (ps_setLc (i := 5) (own := [("_", 2), ("parts", 6)]) (g := (gTup _ 2 (gCons (gName 2) (gCons (gName 6) gNil)))) rfl nd rfl rfl (sw_true rfl rfl rfl (by decide +kernel)) (pi_tup (pv 4)) (blkOk_by (N := nn_least_sizes) (sc := defScope st_least_sizes) (own := [("_", 2), ("parts", 6)]) (by decide +kernel)) (fun _ _ _ _ _ => (pg_tup rfl (pgs_cons (pg_name (i := 2) nd rfl (by first | exact Or.inl rfl | exact Or.inr rfl)) (pgs_cons (pg_name (i := 6) nd rfl (by first | exact Or.inl rfl | exact Or.inr rfl)) pgs_nil)))) (fun _ _ _ _ _ => (pts_one (pt_val (C8.pe_c c_u_are_in hr (by decide) rfl (pa_cons (pv 6) (pa_cons (pv 1) pa_nil)))))) (fun _ _ _ _ _ => (C8.pe_c c_size_made hr (by decide) rfl (pa_cons (pv 1) (pa_cons (pv 6) pa_nil)))))
          (pss_one (ps_if (pt_truth (pv 5) (by intro _; rfl)) (pss_one (ps_dput hu (pv 1) (pv 3) (pe_callB (cr_min rfl) (by rfl) T.z_min (by decide +kernel) (pa_cons (pv 5) pa_nil)) rfl)) pss_nil))))))
      (pss_one (ps_ret (pv 1))))), ?_⟩
    intro d hd
    refine ⟨upd_same, [(Sum.inr "mark", V.int 1)], rfl, (by decide), ?_⟩
    have e0 : mergeK ([] : List (Key × V)) [(Sum.inr "mark", V.int 1)] = dictS (sizesN ks 0) := rfl
    rw [e0]
    have k0 : Kp [] H (upd (upd H d (.dK [])) d (.dK (dictS (sizesN ks 0)))) := (Kp.new hd).own hd
    refine ⟨_, rfl, a, rfl, ⟨_, k0.sqt hq⟩, for_tup (K := K) (a := a) (xs := us) (fun i σ H' => ∃ v2 v3 v4 v5 v6, σ = [some (.ref a), some (.ref d), v2, v3, v4, v5, v6] ∧ Kp [] H H' ∧ H' d = some (.dK (dictS (sizesN ks i))))
      ⟨_, _, _, _, _, rfl, k0, upd_same⟩ (fun i σ H' _ z => by obtain ⟨_, _, _, _, _, _, kk, _⟩ := z; exact kk.sqt hq) ?_ ?_⟩
    · rintro i x σ H1 hx ⟨v2, v3, v4, v5, v6, rfl, k1, e1⟩
      have hi : i < ks.length := by rw [← ul]; exact (List.getElem?_eq_some_iff.mp hx).1
      refine ⟨_, rfl, a, rfl, ⟨_, k1.sqt hq⟩, for_tup (K := K) (a := a) (xs := us) (fun j σ H' => ∃ v2 v3 v4 v5 v6, σ = [some (.ref a), some (.ref d), v2, v3, v4, v5, v6] ∧ Kp [] H H' ∧ H' d = some (.dK (dictS (roundK (ks.take j) (sizesN ks i)))))
        ⟨_, _, _, _, _, rfl, k1, e1⟩ (fun j σ H' _ z => by obtain ⟨_, _, _, _, _, _, kk, _⟩ := z; exact kk.sqt hq) ?_ ?_⟩
      · rintro j y σ H2 hy ⟨v2, v3, v4, v5, v6, rfl, k2, e2⟩
        obtain ⟨c, hc, b, q, rfl, hb, ⟨b2, ws, rfl, hb2, hrs⟩⟩ := pget hp hy
        have cm := List.mem_of_getElem? hc
        have wl := plen hrs
        have cb := sm.b c cm
        have jl : j < ks.length := (List.getElem?_eq_some_iff.mp hc).1
        have sl : (roundK (ks.take j) (sizesN ks i)).length ≤ 20101 := by
          have h1 := roundK_len (ks.take j) (sizesN ks i)
          have h2 := sizesN_len ks i
          have h3 := List.length_take_le j ks
          have h4 : i * ks.length ≤ 100 * 100 := Nat.mul_le_mul (by omega) (by omega)
          omega
        generalize hS : roundK (ks.take j) (sizesN ks i) = S at e2 sl
        have rt := roundK_take (sizesN ks i) hc
        rw [hS] at rt
        refine ⟨b, _, rfl, k2.sqt hb, rfl, _, _, rfl, _, _, rfl, rfl, ?_⟩
        refine ⟨_, rfl, b2, rfl, ⟨_, k2.sqt hb2⟩, fun D hD => ?_⟩
        refine lcW (S := []) walk_tup (fun m => (c.2[m]?).bind fun r => if r.2.all (fun p => (lookS S p).isSome) = true then some (V.int (sizeMade S r.2)) else none) hD (by simp) (small1000 (by omega)) (fun H' kk => kk.sqt (k2.sqt hb2)) ?_ ?_
        · rintro m z H3 H4 C N hm k3 ⟨rfl, hz⟩ hC hN
          obtain ⟨r, hr3, b3, q3, rfl, hb3, hps⟩ := pget hrs hz
          have rl := sm.c c cm r (List.mem_of_getElem? hr3)
          have d3 := k3.old _ _ e2 (by simp)
          refine ⟨b3, _, rfl, k3.sqt (k2.sqt hb3), rfl, _, _, rfl, _, _, rfl, rfl, rfl, ?_⟩
          refine ⟨_, rfl, _, rfl, _, _, r.2, _, rfl, (hps.kp k2).kp k3, rl, .inr ⟨d, S, rfl, d3, rfl⟩, fun H5 k5 => ⟨_, rfl, ?_⟩⟩
          by_cases ca : r.2.all (fun p => (lookS S p).isSome) = true
          · refine iteB ca ⟨_, rfl, _, rfl, d, S, _, r.2, rfl, k5.old _ _ d3 (by simp), ((hps.kp k2).kp k3).kp k5, rl, fun p hp' => ?_, fun H6 k6 => ?_⟩
            · exact List.all_eq_true.mp ca p hp'
            · exact hC _ _ (k5.trans k6) (by rw [hr3]; show (if _ then _ else _) = _; rw [if_pos ca])
          · refine iteBn (by simpa using ca) (hN _ k5 (by rw [hr3]; show (if _ then _ else _) = _; rw [if_neg ca]))
        · intro H3 k3 e3
          have el : (List.range ws.length).filterMap (fun (m : Nat) => (c.2[m]?).bind fun r => if r.2.all (fun p => (lookS S p).isSome) = true then some (V.int (sizeMade S r.2)) else none) = (foundS S c.2).map V.int := by
            rw [wl, range_bind, foundS, List.map_filterMap]
            congr 1
            funext r
            split <;> rfl
          rw [el] at e3
          have k23 := k2.trans k3
          have d3 := k3.old _ _ e2 (by simp)
          refine ⟨_, rfl, !((foundS S c.2).map V.int).isEmpty, .inl ⟨_, SqL.of e3, rfl⟩, ?_⟩
          by_cases ce : foundS S c.2 = []
          · refine iteBn (by rw [ce]; rfl) ?_
            refine ⟨_, _, _, _, _, rfl, k23, ?_⟩
            rw [rt, stepK, if_pos ce]
            exact d3
          · refine iteB (by cases h : foundS S c.2 with | nil => exact absurd h ce | cons _ _ => rfl) ?_
            refine ⟨_, rfl, D, foundS S c.2, rfl, SqL.of e3, ?_, fun m hm hle => ?_⟩
            · cases h : foundS S c.2 with
              | nil => exact absurd h ce
              | cons _ _ => simp
            have em := minL_is hm hle
            subst em
            refine ⟨_, rfl, _, rfl, d, _, rfl, DPut.k (k := (Sum.inr c.1 : Key)) d3 (by simp only [dictS, List.length_map]; exact Nat.lt_of_le_of_lt sl (by decide)), ?_⟩
            refine ⟨_, _, _, _, _, rfl, k23.own hd, ?_⟩
            rw [upd_same, dictS_put, rt, stepK, if_neg ce]
      · rintro σ H2 ⟨v2, v3, v4, v5, v6, rfl, k2, e2⟩
        rw [ul, List.take_length] at e2
        exact ⟨_, _, _, _, _, rfl, k2, e2⟩
    · rintro σ H1 ⟨v2, v3, v4, v5, v6, rfl, k1, e1⟩
      rw [ul] at e1
      exact ⟨_, rfl, k H1 d k1 hd e1⟩
end

end Md

namespace Md
open PySem PySem.Spec PyProof.Rows L2

section
variable {P : Program} {w : World} {K : PySem.W.Frag} {mg : Str → Option Value} {base : Heap} {aW : Addr}
/-- good kinds: True -/
def spGood (K : PySem.W.Frag) : Sp := fun vs H Q _ => ∃ (v : V) (ks : Kds), vs = [v] ∧ KdsT K H v ks ∧ GoodK ks ∧ ∀ H', Kp [] H H' → Q (.bl true) H'
theorem c_u_have_trees (T : Txt K mg aW) (c_least_sizes : C8.Cal P w K mg base 2 "least_sizes" (spLeastSizes K) []) (c_u_kind_names : C8.Cal P w K mg base 1 "_kind_names" (spKindNames K) []) (F : At_u_have_trees K mg) :
    C8.Cal P w K mg base 3 "_have_trees" (spGood K) [] := by
  refine F.cal sc_u_have_trees (fun vs H Q E h => ?_) (fun f cdv A outer s H vs Q E hr h => ?_)
  · obtain ⟨v, ks, rfl, _⟩ := h
    rfl
  · obtain ⟨v, ks, rfl, hk, g, k⟩ := h
    have nd := sc_u_have_trees.nd
    have hu := hu_of hr
    have l5 := g.l5
    refine ⟨_, (pss_cons (ps_set (i := 1) nd rfl (by first | exact Or.inl rfl | exact Or.inr rfl) (C8.pe_c c_least_sizes hr (by decide) rfl (pa_cons (pv 0) pa_nil)))
      (pss_one (ps_ret (pe_callB (cr_all rfl) (by rfl) T.z_all (by decide +kernel) (pa_cons (pe_lc (own := [("kind", 2)]) (g := (gName 2)) (tt := tYes) rfl nd (pi_list (C8.pe_c c_u_kind_names hr (by decide) rfl (pa_cons (pv 0) pa_nil))) (blkOk_by (N := nn_u_have_trees) (sc := defScope st_u_have_trees) (own := [("kind", 2)]) (by decide +kernel)) (fun _ _ _ _ _ => (pg_name (i := 2) nd rfl (by first | exact Or.inl rfl | exact Or.inr rfl))) (fun _ _ _ _ _ => pts_nil) (fun _ _ _ _ _ => (pe_cmp (pc_din hu (pv 2) (pv 1)) rfl))) pa_nil))))), ?_⟩
    refine ⟨_, rfl, _, ks, rfl, hk, g.small, fun H1 d k1 hd e1 => ?_⟩
    refine ⟨_, rfl, _, ks, rfl, hk.kp k1, by omega, fun H2 p k2 hp e2 => ⟨p, rfl, ⟨_, SqL.of e2⟩, fun D hD => ?_⟩⟩
    have d2 := k2.old _ _ e1 (by simp)
    refine lcW (S := []) walk_list (fun i => ((kindNames ks)[i]?).map fun _ => V.bl true) hD (by simp) (small1000 (by simp [kindNames]; omega)) (fun H' kk => kk.sql (SqL.of e2) (by simp)) ?_ ?_
    · rintro i x H' H'' C N hi kk ⟨rfl, hx⟩ hC hN
      rw [List.getElem?_map] at hx
      obtain ⟨p, hp, rfl⟩ := Option.map_eq_some_iff.mp hx
      have there : (lookS (leastS ks) p).isSome = true := by
        obtain ⟨d', hd', e⟩ := List.mem_map.mp (List.mem_of_getElem? hp)
        subst e
        exact trees_there g d' hd'
      refine ⟨rfl, ⟨_, rfl, _, rfl, d, _, rfl, DGet.k (k := (Sum.inr p : Key)) (kk.old _ _ d2 (by simp)), ?_⟩⟩
      refine hC _ _ Kp.refl ?_
      rw [hp, dictS_val, Option.isSome_map, there]
      rfl
    · intro H' kk e
      rw [List.length_map, range_map] at e
      refine ⟨D, (kindNames ks).map fun _ => true, rfl, by rw [List.map_map]; exact SqL.of e, ?_⟩
      have et : ((kindNames ks).map fun _ => true).all id = true := by rw [List.all_map]; exact List.all_eq_true.mpr fun _ _ => rfl
      rw [et]
      exact k H' ((k1.trans k2).trans kk)
theorem c_u_are_names_unlike (T : Txt K mg aW) (c_u_kind_names : C8.Cal P w K mg base 1 "_kind_names" (spKindNames K) []) (c_u_maker_names : C8.Cal P w K mg base 1 "_maker_names" (spMakerNames K) []) (F : At_u_are_names_unlike K mg) :
    C8.Cal P w K mg base 2 "_are_names_unlike" (spGood K) [] := by
  refine F.cal sc_u_are_names_unlike (fun vs H Q E h => ?_) (fun f cdv A outer s H vs Q E hr h => ?_)
  · obtain ⟨v, ks, rfl, _⟩ := h
    rfl
  · obtain ⟨v, ks, rfl, hk, g, k⟩ := h
    have nd := sc_u_are_names_unlike.nd
    have l5 := g.l5
    have ml : (makerNames ks).length ≤ 20 := by
      rw [makerNames, List.length_map]
      have h1 := flat_len (ks := ks) (m := 4) g.m4
      omega
    have kl : (kindNames ks).length ≤ 5 := by rw [kindNames, List.length_map]; exact l5
    refine ⟨_, (pss_cons (ps_set (i := 1) nd rfl (by first | exact Or.inl rfl | exact Or.inr rfl) (pe_op op_cat (C8.pe_c c_u_kind_names hr (by decide) rfl (pa_cons (pv 0) pa_nil)) (C8.pe_c c_u_maker_names hr (by decide) rfl (pa_cons (pv 0) pa_nil))))
      (pss_one (ps_ret (pe_cmpR op_eq (pe_lenSetS rfl rfl T.z_len rfl T.z_set (pv 1)) (pe_callB call_len_seq (by rfl) T.z_len (by decide +kernel) (pa_cons (pv 1) pa_nil)) (nomark _))))), ?_⟩
    refine ⟨_, rfl, _, ks, rfl, hk, by omega, fun H1 p k1 hp e1 => ?_⟩
    refine ⟨_, rfl, _, ks, rfl, hk.kp k1, by omega, fun d hd => by have := g.m4 d hd; omega, fun H2 q k2 hq e2 => ?_⟩
    have e1' := k2.old _ _ e1 (by simp)
    refine ⟨p, q, _, _, rfl, rfl, e1', e2, ?_, fun r hr2 => ?_⟩
    · rw [List.length_map, List.length_map]
      exact Nat.le_of_lt (small1000 (by omega))
    have k3 : Kp [] H (upd H2 r (.lst ((kindNames ks).map V.str ++ (makerNames ks).map V.str))) := (k1.trans k2).new' hr2
    have sr : SqL K (upd H2 r (.lst ((kindNames ks).map V.str ++ (makerNames ks).map V.str))) r ((allNames ks).map V.str) := by rw [allNames, List.map_append]; exact SqL.of upd_same
    have al : (allNames ks).length ≤ 25 := by rw [allNames, List.length_append]; omega
    have fl : firsts [] (allNames ks) = allNames ks := by have := firsts_nd (allNames ks) [] (by simpa using g.nd); simpa using this
    refine ⟨_, rfl, r, allNames ks, rfl, sr, by omega, ?_⟩
    refine ⟨_, rfl, r, _, rfl, .inl sr, rfl, ?_⟩
    rw [fl, List.length_map, decide_eq_true rfl]
    exact k _ k3
theorem range_self {α : Type} (l : List α) : (List.range l.length).filterMap (fun (i : Nat) => l[i]?) = l := by
  have h := range_map (fun x : α => x) l
  simpa using h
theorem pappend {α β : Type} {F : α → β → Prop} : ∀ {a c : List α} {b d : List β}, Paired F a b → Paired F c d → Paired F (a ++ c) (b ++ d)
  | _, _, _, _, .nil, h => h
  | _, _, _, _, .cons r t, h => .cons r (pappend t h)
/-- the rows of all kinds, as they lie -/
theorem rows_lie {H : Hp} : ∀ {us : List V} {ks : Kds}, Paired (KindT K H) us ks → ∃ wss : List (List V), wss.length = us.length ∧ Paired (RowT K H) wss.flatten (rowsOf ks) ∧
    ∀ (i : Nat) (x : V), us[i]? = some x → ∃ (d : Kd) (b b2 : Addr) (ws : List V), ks[i]? = some d ∧ x = .ref b ∧ SqT K H b [.str d.1, .ref b2] ∧ SqT K H b2 ws ∧ wss[i]? = some ws ∧ Paired (RowT K H) ws d.2
  | _, _, .nil => ⟨[], rfl, .nil, fun i x e => by simp at e⟩
  | _, _, .cons (a := u) (b := d) h t => by
    obtain ⟨wss, e1, e2, e3⟩ := rows_lie t
    obtain ⟨b, q, rfl, hb, ⟨b2, ws, rfl, hb2, hr⟩⟩ := h
    refine ⟨ws :: wss, by simp [e1], ?_, fun i x e => ?_⟩
    · rw [List.flatten_cons, rowsOf, List.flatMap_cons]
      exact pappend hr e2
    · cases i with
      | zero =>
        simp at e
        subst e
        exact ⟨d, b, b2, ws, rfl, rfl, hb, hb2, rfl, hr⟩
      | succ i =>
        obtain ⟨d', c, c2, zs, h1, h2, h3, h4, h5, h6⟩ := e3 i x (by simpa using e)
        exact ⟨d', c, c2, zs, by simpa using h1, h2, h3, h4, by simpa using h5, h6⟩
theorem flatten_take {α : Type} {l : List (List α)} {i : Nat} {x : List α} (h : l[i]? = some x) : (l.take (i + 1)).flatten = (l.take i).flatten ++ x := by
  have hi := (List.getElem?_eq_some_iff.mp h).1
  have hd := (List.getElem?_eq_some_iff.mp h).2
  rw [List.take_succ_eq_append_getElem hi, hd, List.flatten_append]
  simp
theorem c_is_kinds (T : Txt K mg aW) (c_u_is_row : C8.Cal P w K mg base 1 "_is_row" (spIsRow K) []) (c_u_is_named : C8.Cal P w K mg base 2 "_is_named" (spIsNamed K) []) (c_u_are_names_unlike : C8.Cal P w K mg base 2 "_are_names_unlike" (spGood K) [])
    (c_u_are_parts_kinds : C8.Cal P w K mg base 3 "_are_parts_kinds" (spPartsKinds K) []) (c_u_have_trees : C8.Cal P w K mg base 3 "_have_trees" (spGood K) []) (F : At_is_kinds K mg) : C8.Cal P w K mg base 4 "is_kinds" (spGood K) [] := by
  refine F.cal sc_is_kinds (fun vs H Q E h => ?_) (fun f cdv A outer s H vs Q E hr h => ?_)
  · obtain ⟨v, ks, rfl, _⟩ := h
    rfl
  · obtain ⟨v, ks, rfl, hk0, g, k⟩ := h
    obtain ⟨a, us, rfl, hq, hp⟩ := id hk0
    have nd := sc_is_kinds.nd
    have ul := plen hp
    have l1 := g.l1
    have l5 := g.l5
    have namelen : ∀ x, isName x = true → x.length ≤ 1000 := fun x hx => by
      unfold isName at hx
      simp only [Bool.and_eq_true, decide_eq_true_eq] at hx
      omega
    refine ⟨_, (pss_cons (ps_if (pt_not (pt_val (C8.pe_c c_u_is_row hr (by decide) rfl (pa_cons (pv 0) (pa_cons pe_int (pa_cons (C8.pe_gc rfl T.g_MOST_KINDS) pa_nil)))))) (pss_one (ps_ret pe_bl)) pss_nil)
      (pss_cons (ps_if (pt_not (pt_val (pe_callB (cr_all rfl) (by rfl) T.z_all (by decide +kernel) (pa_cons (pe_lc (own := [("named", 2)]) (g := (gName 2)) (tt := tYes) rfl nd (pi_tup (pv 0)) (blkOk_by (N := nn_is_kinds) (sc := defScope st_is_kinds) (own := [("named", 2)]) (by decide +kernel)) (fun _ _ _ _ _ => (pg_name (i := 2) nd rfl (by first | exact Or.inl rfl | exact Or.inr rfl))) (fun _ _ _ _ _ => pts_nil) (fun _ _ _ _ _ => (C8.pe_c c_u_is_named hr (by decide) rfl (pa_cons (pv 2) (pa_cons pe_int (pa_cons (C8.pe_gc rfl T.g_MOST_MAKERS) pa_nil)))))) pa_nil)))) (pss_one (ps_ret pe_bl)) pss_nil)
      (pss_cons (ps_setLc2 (i := 1) (own := [("_", 3), ("row", 4), ("named", 2)]) (vs1 := [2]) (wi1 := iTup K (tVar 4)) (g := (gTup _ 2 (gCons (gName 3) (gCons (gName 4) gNil)))) (g1 := (gName 2)) (tt := tYes) (tt1 := tYes) rfl nd rfl rfl (sw_true rfl rfl rfl (by decide +kernel)) (pi_tup (pv 0)) (blkOk_by (N := nn_is_kinds) (sc := defScope st_is_kinds) (own := [("_", 3), ("row", 4), ("named", 2)]) (by decide +kernel)) (by decide) (fun _ _ _ _ _ => (pg_tup rfl (pgs_cons (pg_name (i := 3) nd rfl (by first | exact Or.inl rfl | exact Or.inr rfl)) (pgs_cons (pg_name (i := 4) nd rfl (by first | exact Or.inl rfl | exact Or.inr rfl)) pgs_nil)))) (fun _ _ _ _ _ => pts_nil) (by exact fun _ _ _ _ _ => (pi_tup (pv 4))) (fun _ _ _ _ _ => (pg_name (i := 2) nd rfl (by first | exact Or.inl rfl | exact Or.inr rfl))) (fun _ _ _ _ _ => pts_nil) (fun _ _ _ _ _ => (pv 2)))
      (pss_cons (ps_if (pt_not (pt_val (pe_callB (cr_all rfl) (by rfl) T.z_all (by decide +kernel) (pa_cons (pe_lc (own := [("named", 2)]) (g := (gName 2)) (tt := tYes) rfl nd (pi_list (pv 1)) (blkOk_by (N := nn_is_kinds) (sc := defScope st_is_kinds) (own := [("named", 2)]) (by decide +kernel)) (fun _ _ _ _ _ => (pg_name (i := 2) nd rfl (by first | exact Or.inl rfl | exact Or.inr rfl))) (fun _ _ _ _ _ => pts_nil) (fun _ _ _ _ _ => (C8.pe_c c_u_is_named hr (by decide) rfl (pa_cons (pv 2) (pa_cons pe_int (pa_cons (C8.pe_gc rfl T.g_MOST_PARTS) pa_nil)))))) pa_nil)))) (pss_one (ps_ret pe_bl)) pss_nil)
      (pss_one (ps_ret (pe_and (C8.pe_c c_u_are_names_unlike hr (by decide) rfl (pa_cons (pv 0) pa_nil)) (pe_and (C8.pe_c c_u_are_parts_kinds hr (by decide) rfl (pa_cons (pv 0) pa_nil)) (pe_one (C8.pe_c c_u_have_trees hr (by decide) rfl (pa_cons (pv 0) pa_nil))))))))))), ?_⟩
    refine ⟨_, rfl, a, us, 1, 5, rfl, hq, _, rfl, ?_⟩
    refine iteBn (by rw [decide_eq_true (show (1 : Int) ≤ (us.length : Int) by omega), decide_eq_true (show (us.length : Int) ≤ 5 by omega)]; rfl) ?_
    refine ⟨_, rfl, a, rfl, ⟨_, hq⟩, fun D hD => ?_⟩
    refine lcW (S := []) walk_tup (fun i => (ks[i]?).map fun _ => V.bl true) hD (by simp) (small1000 (by omega)) (fun H' kk => kk.sqt hq) ?_ ?_
    · rintro i x H' H'' C N hi kk ⟨rfl, hx⟩ hC hN
      obtain ⟨d, hd, b, q, rfl, hb, ⟨b2, ws, rfl, hb2, hrs⟩⟩ := pget hp hx
      have dm := List.mem_of_getElem? hd
      have wl := plen hrs
      have m1 := g.m1 d dm
      have m4 := g.m4 d dm
      refine ⟨rfl, ⟨_, rfl, b, b2, d.1, ws, 1, 4, rfl, kk.sqt hb, kk.sqt hb2, namelen _ (g.kn d dm), fun H1 k1 => ?_⟩⟩
      refine hC _ _ k1 ?_
      rw [hd, g.kn d dm, decide_eq_true (show (1 : Int) ≤ (ws.length : Int) by omega), decide_eq_true (show (ws.length : Int) ≤ 4 by omega)]
      rfl
    intro H1 k1 e1
    rw [ul, range_map] at e1
    refine ⟨D, ks.map fun _ => true, rfl, by rw [List.map_map]; exact SqL.of e1, _, rfl, ?_⟩
    refine iteBn (by rw [List.all_map, show (id ∘ fun (_ : Kd) => true) = fun _ => true from rfl]; simp) ?_
    -- makers
    refine ⟨_, rfl, a, rfl, ⟨_, k1.sqt hq⟩, fun D2 hD2 => ?_⟩
    obtain ⟨wss, wl, wp, wi⟩ := rows_lie hp
    have fl := plen wp
    have rl : (rowsOf ks).length ≤ 20 := by have := flat_len (ks := ks) (m := 4) g.m4; omega
    refine lcO (S := []) walk_tup (fun i => (wss.take i).flatten) (by simp) hD2 (fun H' kk => kk.sqt (k1.sqt hq)) ?_ ?_
    · rintro i x H' H'' hi kk e ⟨rfl, hx⟩
      obtain ⟨d, b, b2, ws, hd, rfl, hb, hb2, hw, hr2⟩ := wi i x hx
      have dm := List.mem_of_getElem? hd
      have m4 := g.m4 d dm
      have wl2 := plen hr2
      have kz := k1.trans kk
      refine ⟨b, _, rfl, kz.sqt hb, rfl, _, _, rfl, _, _, rfl, rfl, rfl, ?_⟩
      refine ⟨_, rfl, b2, rfl, ⟨_, kz.sqt hb2⟩, ?_⟩
      have zl : (wss.take i).flatten.length ≤ 20 := by
        have h1 : (wss.take i).flatten.length ≤ wss.flatten.length := by
          conv => rhs; rw [← List.take_append_drop i wss, List.flatten_append, List.length_append]
          omega
        omega
      refine lcI (S := []) walk_tup (fun j => ws[j]?) _ hD2 (by simp) kk e (small1000 (by omega)) (fun H' k2 => k2.sqt (k1.sqt hb2)) ?_ ?_
      · rintro j y H3 H4 C N hj k3 ⟨rfl, hy⟩ hC hN
        exact ⟨rfl, ⟨_, rfl, hC _ _ Kp.refl hy⟩⟩
      · intro H3 k3 e3
        refine ⟨k3, ?_⟩
        rw [range_self] at e3
        rw [e3, flatten_take hw]
    intro H2 k2 e2
    have tk : wss.take us.length = wss := by rw [← wl, List.take_length]
    rw [tk] at e2
    have k12 := k1.trans k2
    refine ⟨_, rfl, D2, rfl, ⟨_, SqL.of e2⟩, fun D3 hD3 => ?_⟩
    refine lcW (S := []) walk_list (fun i => ((rowsOf ks)[i]?).map fun _ => V.bl true) hD3 (by simp) (small1000 (by omega)) (fun H' kk => kk.sql (SqL.of e2) (by simp)) ?_ ?_
    · rintro i x H' H'' C N hi kk ⟨rfl, hx⟩ hC hN
      obtain ⟨r, hr3, b, q, rfl, hb, ⟨b2, rfl, hb2⟩⟩ := pget wp hx
      have rm := List.mem_of_getElem? hr3
      obtain ⟨d, dm, rm2⟩ := List.mem_flatMap.mp rm
      have p3 := g.p3 d dm r rm2
      have kz := k12.trans kk
      refine ⟨rfl, ⟨_, rfl, b, b2, r.1, r.2.map V.str, 0, 3, rfl, kz.sqt hb, kz.sqt hb2, namelen _ (g.mn d dm r rm2), fun H3 k3 => ?_⟩⟩
      refine hC _ _ k3 ?_
      rw [hr3, g.mn d dm r rm2, decide_eq_true (show (0 : Int) ≤ ((r.2.map V.str).length : Int) by omega), decide_eq_true (show ((r.2.map V.str).length : Int) ≤ 3 by rw [List.length_map]; omega)]
      rfl
    intro H3 k3 e3
    rw [fl, range_map] at e3
    have k13 := k12.trans k3
    refine ⟨D3, (rowsOf ks).map fun _ => true, rfl, by rw [List.map_map]; exact SqL.of e3, _, rfl, ?_⟩
    refine iteBn (by rw [List.all_map, show (id ∘ fun (_ : Rw) => true) = fun _ => true from rfl]; simp) ?_
    refine ⟨_, rfl, _, ks, rfl, hk0.kp k13, g, fun H4 k4 => ⟨_, rfl, iteT ?_⟩⟩
    refine ⟨_, rfl, _, ks, rfl, (hk0.kp k13).kp k4, g, fun H5 k5 => ⟨_, rfl, iteT ?_⟩⟩
    exact ⟨_, rfl, _, ks, rfl, ((hk0.kp k13).kp k4).kp k5, g, fun H6 k6 => k H6 (((k13.trans k4).trans k5).trans k6)⟩
/-- good kinds are let by -/
def spCheckKinds (K : PySem.W.Frag) : Sp := fun vs H Q _ => ∃ (v : V) (ks : Kds), vs = [v] ∧ KdsT K H v ks ∧ GoodK ks ∧ ∀ H', Kp [] H H' → Q .non H'
def spCheckKind (K : PySem.W.Frag) : Sp := fun vs H Q _ => ∃ (v : V) (ks : Kds) (x : Str), vs = [v, .str x] ∧ KdsT K H v ks ∧ GoodK ks ∧ (x = "mark" ∨ x ∈ kindNames ks) ∧ ∀ H', Kp [] H H' → Q .non H'
def spCheckMaker (K : PySem.W.Frag) : Sp := fun vs H Q _ => ∃ (v : V) (ks : Kds) (x : Str), vs = [v, .str x] ∧ KdsT K H v ks ∧ GoodK ks ∧ x ∈ makerNames ks ∧ ∀ H', Kp [] H H' → Q .non H'
end

end Md

namespace Md
open PySem PySem.Spec PyProof.Rows L2

/-! ### the kinds as a dict -/
def rowsBy (ks : Kds) (x : Str) : List Rw := ((ks.find? fun d => decide (d.1 = x)).map (·.2)).getD []
theorem kp_putK {κ : Type} [DecidableEq κ] : True := trivial
theorem mergeK_nd : ∀ (kvs acc : List (Key × V)), ((acc ++ kvs).map (·.1)).Nodup → mergeK acc kvs = acc ++ kvs
  | [], acc, _ => by simp [mergeK]
  | kv :: r, acc, h => by
    have hn : valV acc kv.1 = none := by
      cases e : valV acc kv.1 with
      | none => rfl
      | some v =>
        have m := valV_in e
        rw [List.map_append, List.nodup_append] at h
        exact absurd rfl (h.2.2 _ m kv.1 (by simp))
    show mergeK (putK acc kv.1 kv.2) r = _
    rw [putK_new _ hn, mergeK_nd r _ (by simpa using h)]
    simp
theorem valV_nd {κ : Type} [DecidableEq κ] : ∀ {kvs : List (κ × V)} {i : Nat} {k : κ} {v : V}, (kvs.map (·.1)).Nodup → kvs[i]? = some (k, v) → valV kvs k = some v
  | p :: r, 0, k, v, _, e => by
    simp at e
    subst e
    exact valV_pos rfl
  | p :: r, i + 1, k, v, h, e => by
    have e' : r[i]? = some (k, v) := by simpa using e
    rw [List.map_cons, List.nodup_cons] at h
    have ne : ¬ p.1 = k := fun z => h.1 (by rw [z]; exact List.mem_map.mpr ⟨(k, v), List.mem_of_getElem? e', rfl⟩)
    rw [valV_neg ne]
    exact valV_nd h.2 e'
section
variable {P : Program} {w : World} {K : PySem.W.Frag} {mg : Str → Option Value} {base : Heap} {aW : Addr}
/-- kinds that may be handed to dict() -/
def KdsO (K : PySem.W.Frag) (H : Hp) (v : V) (ks : Kds) : Prop := ∃ a us, v = V.ref a ∧ TupO H a us ∧ Paired (KindT K H) us ks
theorem KdsO.t {H : Hp} {v : V} {ks : Kds} (h : KdsO K H v ks) : KdsT K H v ks := let ⟨a, us, e, t, p⟩ := h; ⟨a, us, e, t.sq, p⟩
theorem KdsO.kp {S : List Addr} {H H' : Hp} {v : V} {ks : Kds} (k : Kp S H H') (h : KdsO K H v ks) : KdsO K H' v ks := let ⟨a, us, e, t, p⟩ := h; ⟨a, us, e, t.kp k, pmap (fun _ _ z => z.kp k) p⟩
theorem kinds_dict {H : Hp} : ∀ {us : List V} {ks : Kds}, Paired (KindT K H) us ks → ∃ (ps : List Addr) (kvs : List (Key × V)), us = ps.map V.ref ∧ Paired (fun p (kv : Key × V) => SqT K H p [kV kv.1, kv.2]) ps kvs ∧
    Paired (fun (kv : Key × V) (d : Kd) => kv.1 = Sum.inr d.1 ∧ RowsT K H kv.2 d.2) kvs ks
  | _, _, .nil => ⟨[], [], rfl, .nil, .nil⟩
  | _, _, .cons (a := u) (b := d) h t => by
    obtain ⟨ps, kvs, e, p1, p2⟩ := kinds_dict t
    obtain ⟨b, q, rfl, hb, hr⟩ := h
    exact ⟨b :: ps, (Sum.inr d.1, q) :: kvs, by rw [e]; rfl, .cons hb p1, .cons ⟨rfl, hr⟩ p2⟩
theorem keys_are {H : Hp} : ∀ {kvs : List (Key × V)} {ks : Kds}, Paired (fun (kv : Key × V) (d : Kd) => kv.1 = Sum.inr d.1 ∧ RowsT K H kv.2 d.2) kvs ks → kvs.map (·.1) = (kindNames ks).map Sum.inr
  | _, _, .nil => rfl
  | _, _, .cons h t => by rw [List.map_cons, keys_are t, h.1]; rfl
theorem nd_inr {l : List Str} (h : l.Nodup) : (l.map (Sum.inr : Str → Key)).Nodup := by
  induction l with
  | nil => exact List.nodup_nil
  | cons a r ih =>
    rw [List.nodup_cons] at h
    rw [List.map_cons, List.nodup_cons]
    refine ⟨fun m => ?_, ih h.2⟩
    obtain ⟨b, hb, e⟩ := List.mem_map.mp m
    cases e
    exact h.1 hb
theorem find_at {ks : Kds} (nd : (kindNames ks).Nodup) {i : Nat} {d : Kd} (h : ks[i]? = some d) : rowsBy ks d.1 = d.2 := by
  have aux : ∀ (ks : Kds) (i : Nat), (kindNames ks).Nodup → ks[i]? = some d → ks.find? (fun e => decide (e.1 = d.1)) = some d := by
    intro ks
    induction ks with
    | nil => intro i _ h; simp at h
    | cons c r ih =>
      intro i nd h
      rw [kindNames, List.map_cons, List.nodup_cons] at nd
      cases i with
      | zero =>
        simp at h
        subst h
        simp
      | succ i =>
        have h' : r[i]? = some d := by simpa using h
        have ne : ¬ c.1 = d.1 := fun z => nd.1 (by rw [z]; exact List.mem_map.mpr ⟨d, List.mem_of_getElem? h', rfl⟩)
        rw [List.find?_cons, decide_eq_false ne]
        exact ih i nd.2 h'
  rw [rowsBy, aux ks i nd h]
  rfl
theorem GoodK.ndk {ks : Kds} (g : GoodK ks) : (kindNames ks).Nodup := by
  have h := g.nd
  rw [allNames, List.nodup_append] at h
  exact h.1
theorem GoodK.nomark {ks : Kds} (g : GoodK ks) : ("mark" : Str) ∉ kindNames ks := fun h => by
  obtain ⟨d, hd, e⟩ := List.mem_map.mp h
  have z := g.kn d hd
  rw [e] at z
  exact absurd z (by decide +kernel)
theorem rowsBy_mark {ks : Kds} (g : GoodK ks) : rowsBy ks "mark" = [] := by
  have e : ks.find? (fun d => decide (d.1 = ("mark" : Str))) = none := List.find?_eq_none.mpr fun d hd => by
    intro z
    exact g.nomark (List.mem_map.mpr ⟨d, hd, of_decide_eq_true z⟩)
  rw [rowsBy, e]
  rfl
/-- dict(kinds): its entries -/
theorem dict_of {H : Hp} {us : List V} {ks : Kds} (g : GoodK ks) (hp : Paired (KindT K H) us ks) : ∃ (ps : List Addr) (kvs : List (Key × V)), us = ps.map V.ref ∧ Paired (fun p (kv : Key × V) => SqT K H p [kV kv.1, kv.2]) ps kvs ∧ mergeK [] kvs = kvs ∧
    (∀ x, x ∈ kindNames ks → ∃ v, valV kvs (Sum.inr x : Key) = some v ∧ RowsT K H v (rowsBy ks x)) ∧ valV kvs (Sum.inr "mark" : Key) = none := by
  obtain ⟨ps, kvs, e, p1, p2⟩ := kinds_dict hp
  have ke := keys_are p2
  have knd : (kvs.map (·.1)).Nodup := by rw [ke]; exact nd_inr g.ndk
  refine ⟨ps, kvs, e, p1, by simpa using mergeK_nd kvs [] (by simpa using knd), fun x hx => ?_, ?_⟩
  · obtain ⟨d, hd, ex⟩ := List.mem_map.mp hx
    subst ex
    obtain ⟨i, hi, ei⟩ := List.getElem_of_mem hd
    have hi2 : i < kvs.length := by rw [plen p2]; exact hi
    obtain ⟨d', h1, h2, h3⟩ := pget p2 (List.getElem?_eq_getElem hi2)
    rw [List.getElem?_eq_getElem hi, ei] at h1
    cases h1
    refine ⟨kvs[i].2, valV_nd knd (i := i) ?_, ?_⟩
    · rw [List.getElem?_eq_getElem hi2, ← h2]
    · rw [find_at g.ndk (i := i) (by rw [List.getElem?_eq_getElem hi, ei])]
      exact h3
  · cases z : valV kvs (Sum.inr "mark" : Key) with
    | none => rfl
    | some v =>
      have m := valV_in z
      rw [ke] at m
      obtain ⟨b, hb, eb⟩ := List.mem_map.mp m
      cases eb
      exact absurd hb g.nomark
def spMakersOf (K : PySem.W.Frag) : Sp := fun vs H Q _ => ∃ (v : V) (ks : Kds) (x : Str), vs = [v, .str x] ∧ KdsO K H v ks ∧ GoodK ks ∧ (x = "mark" ∨ x ∈ kindNames ks) ∧ ∀ H' u, Kp [] H H' → RowsT K H' u (rowsBy ks x) → Q u H'
end

end Md

namespace Md
open PySem PySem.Spec PyProof.Rows L2

/-! ### tables by makers -/
/-- maker, kind, place, parts -/
abbrev Ent := Str × Str × Nat × List Str
def entsAt (kind : Str) (n : Nat) : List Rw → List Ent
  | [] => []
  | r :: rs => (r.1, kind, n, r.2) :: entsAt kind (n + 1) rs
def entries (ks : Kds) : List Ent := ks.flatMap fun d => entsAt d.1 0 d.2
def lastE (es : List Ent) (m : Str) : Option Ent := es.foldl (fun o e => if e.1 = m then some e else o) none
theorem lastE_snoc (es : List Ent) (e : Ent) (m : Str) : lastE (es ++ [e]) m = if e.1 = m then some e else lastE es m := by
  unfold lastE
  rw [List.foldl_append]
  rfl
theorem lastE_mem {m : Str} {e : Ent} : ∀ {es : List Ent}, lastE es m = some e → e ∈ es ∧ e.1 = m := by
  intro es
  unfold lastE
  have aux : ∀ (es : List Ent) (o : Option Ent), es.foldl (fun o e => if e.1 = m then some e else o) o = some e → (e ∈ es ∧ e.1 = m) ∨ o = some e := by
    intro es
    induction es with
    | nil => intro o h; exact .inr h
    | cons a r ih =>
      intro o h
      rcases ih _ h with ⟨h1, h2⟩ | h1
      · exact .inl ⟨List.mem_cons_of_mem _ h1, h2⟩
      · dsimp only at h1
        split at h1
        · rename_i hc
          cases h1
          exact .inl ⟨List.mem_cons_self, hc⟩
        · exact .inr h1
  intro h
  rcases aux es none h with h1 | h1
  · exact h1
  · cases h1
theorem lastE_there {m : Str} : ∀ {es : List Ent}, (∃ e ∈ es, e.1 = m) → ∃ e, lastE es m = some e := by
  intro es h
  obtain ⟨e, he, hm⟩ := h
  unfold lastE
  have keep : ∀ (es : List Ent) (o : Option Ent), (∃ e, o = some e) → ∃ e, es.foldl (fun o e => if e.1 = m then some e else o) o = some e := by
    intro es
    induction es with
    | nil => intro o h; exact h
    | cons a r ih =>
      intro o h
      refine ih _ ?_
      dsimp only
      split
      · exact ⟨a, rfl⟩
      · exact h
  have aux : ∀ (es : List Ent) (o : Option Ent), e ∈ es → ∃ e, es.foldl (fun o e => if e.1 = m then some e else o) o = some e := by
    intro es
    induction es with
    | nil => intro o h; cases h
    | cons a r ih =>
      intro o h
      rcases List.mem_cons.mp h with z | z
      · subst z
        exact keep r _ (by dsimp only; rw [if_pos hm]; exact ⟨e, rfl⟩)
      · exact ih _ z
  exact aux es none he
theorem entsAt_names (kind : Str) : ∀ (rs : List Rw) (n : Nat), (entsAt kind n rs).map (·.1) = rs.map (·.1)
  | [], _ => rfl
  | r :: rs, n => by rw [entsAt, List.map_cons, entsAt_names kind rs (n + 1), List.map_cons]
theorem entries_names (ks : Kds) : (entries ks).map (·.1) = makerNames ks := by
  induction ks with
  | nil => rfl
  | cons d r ih =>
    rw [makerNames, rowsOf] at ih ⊢
    rw [entries, List.flatMap_cons, List.map_append, List.flatMap_cons, List.map_append, entsAt_names, ← ih]
    rfl
theorem entsAt_take (kind : Str) : ∀ (rs : List Rw) (n j : Nat) (r : Rw), rs[j]? = some r → entsAt kind n (rs.take (j + 1)) = entsAt kind n (rs.take j) ++ [(r.1, kind, n + j, r.2)]
  | r0 :: rs, n, 0, r, h => by
    simp at h
    subst h
    simp [entsAt]
  | r0 :: rs, n, j + 1, r, h => by
    have h' : rs[j]? = some r := by simpa using h
    have ih := entsAt_take kind rs (n + 1) j r h'
    rw [List.take_succ_cons, List.take_succ_cons, entsAt, entsAt, ih, List.cons_append]
    rw [show n + 1 + j = n + (j + 1) by omega]
theorem entries_take {ks : Kds} {i : Nat} {d : Kd} (h : ks[i]? = some d) : entries (ks.take (i + 1)) = entries (ks.take i) ++ entsAt d.1 0 d.2 := by
  have hi := (List.getElem?_eq_some_iff.mp h).1
  have hd := (List.getElem?_eq_some_iff.mp h).2
  rw [List.take_succ_eq_append_getElem hi, hd, entries, List.flatMap_append]
  simp [entries]
theorem entsAt_len (kind : Str) : ∀ (rs : List Rw) (n : Nat), (entsAt kind n rs).length = rs.length
  | [], _ => rfl
  | r :: rs, n => by rw [entsAt, List.length_cons, entsAt_len kind rs, List.length_cons]
theorem entries_len {ks : Kds} (s : SmallK ks) : (entries ks).length ≤ 10000 := by
  have h1 : (entries ks).length = (rowsOf ks).length := by
    have := congrArg List.length (entries_names ks)
    rw [List.length_map, makerNames, List.length_map] at this
    exact this
  have h2 := flat_len (ks := ks) (m := 100) s.b
  have := s.a
  omega
structure TabT (R : V → Ent → Prop) (kvs : List (Key × V)) (es : List Ent) : Prop where
  len : kvs.length ≤ es.length
  key : ∀ kv ∈ kvs, ∃ m : Str, kv.1 = Sum.inr m
  non : ∀ m, lastE es m = none → valV kvs (Sum.inr m : Key) = none
  som : ∀ m e, lastE es m = some e → ∃ v, valV kvs (Sum.inr m : Key) = some v ∧ R v e
theorem TabT.nil {R : V → Ent → Prop} : TabT R [] [] := ⟨Nat.le_refl _, fun _ h => (nomatch h), fun _ _ => rfl, fun m e h => by cases h⟩
theorem TabT.imp {R R' : V → Ent → Prop} {kvs : List (Key × V)} {es : List Ent} (t : TabT R kvs es) (h : ∀ v e, R v e → R' v e) : TabT R' kvs es :=
  ⟨t.len, t.key, t.non, fun m e x => let ⟨v, h1, h2⟩ := t.som m e x; ⟨v, h1, h _ _ h2⟩⟩
theorem TabT.put {R : V → Ent → Prop} {kvs : List (Key × V)} {es : List Ent} (t : TabT R kvs es) {v : V} {e : Ent} (r : R v e) : TabT R (putK kvs (Sum.inr e.1) v) (es ++ [e]) := by
  refine ⟨?_, fun kv h => ?_, fun m h => ?_, fun m e' h => ?_⟩
  · have := length_putK kvs (Sum.inr e.1 : Key) v
    rw [List.length_append]
    have := t.len
    simp
    omega
  · unfold putK at h
    split at h
    · obtain ⟨kv', h1, h2⟩ := List.mem_map.mp h
      obtain ⟨m, hm⟩ := t.key kv' h1
      split at h2 <;> (subst h2; exact ⟨m, hm⟩)
    · rcases List.mem_append.mp h with h | h
      · exact t.key kv h
      · simp at h
        subst h
        exact ⟨_, rfl⟩
  · rw [lastE_snoc] at h
    by_cases c : e.1 = m
    · rw [if_pos c] at h; cases h
    · rw [if_neg c] at h
      rw [valV_put, if_neg (fun z => c (Sum.inr.inj z).symm)]
      exact t.non m h
  · rw [lastE_snoc] at h
    by_cases c : e.1 = m
    · rw [if_pos c] at h
      cases h
      exact ⟨v, by rw [valV_put, if_pos (by rw [c])], r⟩
    · rw [if_neg c] at h
      obtain ⟨u, h1, h2⟩ := t.som m e' h
      exact ⟨u, by rw [valV_put, if_neg (fun z => c (Sum.inr.inj z).symm)]; exact h1, h2⟩
section
variable {P : Program} {w : World} {K : PySem.W.Frag} {mg : Str → Option Value} {base : Heap} {aW : Addr}
def EntT (K : PySem.W.Frag) (H : Hp) (v : V) (e : Ent) : Prop := ∃ t q, v = V.ref t ∧ SqT K H t [.str e.2.1, .int (e.2.2.1 : Nat), q] ∧ StrsT K H q e.2.2.2
theorem EntT.kp {S : List Addr} {H H' : Hp} {v : V} {e : Ent} (k : Kp S H H') (h : EntT K H v e) : EntT K H' v e := let ⟨t, q, e1, e2, e3⟩ := h; ⟨t, q, e1, k.sqt e2, e3.kp k⟩
def spMakerTable (K : PySem.W.Frag) : Sp := fun vs H Q _ => ∃ (v : V) (ks : Kds), vs = [v] ∧ KdsT K H v ks ∧ SmallK ks ∧ ∀ H' d kvs, Kp [] H H' → H d = none → H' d = some (.dK kvs) → TabT (EntT K H') kvs (entries ks) → Q (.ref d) H'
def kindBy (ks : Kds) (x : Str) : Str := ((lastE (entries ks) x).map fun e => e.2.1).getD Str.empty
def spKindBy (K : PySem.W.Frag) : Sp := fun vs H Q _ => ∃ (v : V) (ks : Kds) (x : Str), vs = [v, .str x] ∧ KdsT K H v ks ∧ GoodK ks ∧ x ∈ makerNames ks ∧ ∀ H', Kp [] H H' → Q (.str (kindBy ks x)) H'
theorem maker_there {ks : Kds} {x : Str} (h : x ∈ makerNames ks) : ∃ e, lastE (entries ks) x = some e := by
  rw [← entries_names] at h
  obtain ⟨e, he, ex⟩ := List.mem_map.mp h
  exact lastE_there ⟨e, he, ex⟩
end

end Md

namespace Md
open PySem PySem.Spec PyProof.Rows L2

/-! ### the law's own drawing -/
/-- a word drawn as the b-th of its book -/
def WordAt (b : Nat) (x : Str) : Prop := isName x = true ∧ x.cps.toList.take 2 = [97 + b * 11 % 26, 97 + b / 26 * 7 % 26]
def lettersL : List Nat := (List.range 26).map fun i => 97 + i
theorem letters_are : ("abcdefghijklmnopqrstuvwxyz" : Str).cps.toList = lettersL := by decide +kernel
theorem letter_at {i : Int} (h0 : 0 ≤ i) (h1 : i < 26) : atI ("abcdefghijklmnopqrstuvwxyz" : Str).cps.toList i = some (97 + i.toNat) := by
  rw [letters_are]
  have e : i = ((i.toNat : Nat) : Int) := by omega
  have hl : i.toNat < 26 := by omega
  conv => lhs; rw [e]
  exact atI_nat (by simp [lettersL, hl])
theorem PotOk.kp {S : List Addr} {H H' : Hp} {p : Addr} {n : Nat} (k : Kp S H H') (h : PotOk H p n) (m : p ∉ S) : PotOk H' p n := let ⟨x, y, z, e, r⟩ := h; ⟨x, y, z, k.old _ _ e m, r⟩
theorem PotOk.more {H : Hp} {p : Addr} {n m : Nat} (h : PotOk H p n) (l : n ≤ m) : PotOk H p m := by
  obtain ⟨x, y, z, e, r1, r2, r3, r4, r5⟩ := h
  exact ⟨x, y, z, e, r1, r2, r3, r4, by omega⟩
theorem PotOk.lst {H : Hp} {p : Addr} {n : Nat} (h : PotOk H p n) : ∃ xs, H p = some (.lst xs) ∧ xs.length = 3 := let ⟨x, y, z, e, _⟩ := h; ⟨_, e, rfl⟩
abbrev S1 (l : List Nat) : Str := ⟨l.toArray⟩
theorem s1_cat (a b : List Nat) : S1 a ++ S1 b = S1 (a ++ b) := SX.S_cat a b
theorem s1_len (a : List Nat) : (S1 a).length = a.length := SX.S_len a
theorem s1_tl (a : List Nat) : (S1 a).cps.toList = a := rfl
section
variable {P : Program} {w : World} {K : PySem.W.Frag} {mg : Str → Option Value} {base : Heap} {aW : Addr}
def spPot (K : PySem.W.Frag) : Sp := fun vs H Q _ => ∃ (a : Addr) (ns : List Int) (k : Int), vs = [.ref a, .int k] ∧ SqL K H a (ns.map V.int) ∧ 0 ≤ k ∧ k ≤ 100 ∧ ∀ H' p, Kp [] H H' → H p = none → PotOk H' p 0 → Q (.ref p) H'
theorem big_pos : (0 : Int) < ((10 : Int) ^ (60 : Int).toNat) ^ (10 : Int).toNat := Int.pow_pos (Int.pow_pos (by decide))
theorem c_law_pot (T : Txt K mg aW) (F : At_law_pot K mg) : C8.Cal P w K mg base 1 "_law_pot" (spPot K) [] := by
  refine F.cal sc_law_pot (fun vs H Q E h => ?_) (fun f cdv A outer s H vs Q E hr h => ?_)
  · obtain ⟨a, ns, k, rfl, _⟩ := h
    rfl
  · obtain ⟨a, ns, k, rfl, hs, k0, k1, kk⟩ := h
    have nd := sc_law_pot.nd
    refine ⟨_, (pss_cons (ps_set (i := 2) nd rfl (by first | exact Or.inl rfl | exact Or.inr rfl) pe_int)
      (pss_cons (ps_if (pt_cmpR op_lt (pv 1) (pe_callB call_len_seq (by rfl) T.z_len (by decide +kernel) (pa_cons (pv 0) pa_nil)) (nomark _)) (pss_one (ps_set (i := 2) nd rfl (by first | exact Or.inl rfl | exact Or.inr rfl) (pe_op op_mod (pe_callB call_abs (by rfl) T.z_abs (by decide +kernel) (pa_cons (pe_ix ix_list (pv 0) (pv 1) (fun _ _ => rfl)) pa_nil)) (pe_op op_powB (pe_op op_pow pe_int pe_int) pe_int)))) pss_nil)
      (pss_one (ps_ret (pe_lst (pa_cons (pe_op op_mul (pv 2) (pe_callTy call_int1 (by rfl) T.z_int (by decide +kernel) (pa_cons (pe_cmpR op_ge (pv 2) (pe_op op_pow pe_int pe_int) (nomark _)) pa_nil))) (pa_cons (pe_op op_mod (pe_op op_pow (pe_op op_add (pe_op op_add (pe_op op_mod (pv 2) pe_int) (pe_op op_mul pe_int (pv 1))) pe_int) pe_int) pe_int) (pa_cons pe_int pa_nil)))))))), ?_⟩
    have fin : ∀ (cell : Int), 0 ≤ cell → ∀ (Q' : VK), (∀ H' p, Kp [] H H' → H p = none → PotOk H' p 0 → Q' (.ref p) H') →
        tRet (tLst (tCons (tOp (rI CMul fun i j => .int (i * j)) (tVar 2) (tCB (fun xs H Q => (∃ i, xs = [.int i] ∧ Q (.int i) H) ∨ ∃ k, xs = [.bl k] ∧ Q (.int (if k then 1 else 0)) H) (tCons (tOp (rI0 fun i j => .bl (decide (j ≤ i))) (tVar 2) (tOp (rI CPow fun i j => .int (i ^ j.toNat)) (tC (.int 10)) (tC (.int 18)))) tNil)))
          (tCons (tOp (rI (fun _ j => 0 < j) fun i j => .int (i % j)) (tOp (rI CPow fun i j => .int (i ^ j.toNat)) (tOp (rI0 fun i j => .int (i + j)) (tOp (rI0 fun i j => .int (i + j)) (tOp (rI (fun _ j => 0 < j) fun i j => .int (i % j)) (tVar 2) (tC (.int 2147483629))) (tOp (rI CMul fun i j => .int (i * j)) (tC (.int 7919)) (tVar 1))) (tC (.int 1))) (tC (.int 5))) (tC (.int 2305843009213693951)))
          (tCons (tC (.int 0)) tNil)))) { nx := fun _ H' => Q' .non H', rt := Q' } [some (.ref a), some (.int k), some (.int cell)] H := by
      intro cell c0 Q' kq
      refine ⟨_, rfl, _, rfl, _, _, rfl, rfl, ⟨by decide, by decide, by decide⟩, _, _, rfl, rfl, .inr ⟨_, rfl, _, _, rfl, rfl, ?_, ?_⟩⟩
      · split
        · exact .inr (by constructor <;> decide)
        · exact .inr (by constructor <;> decide)
      refine ⟨_, rfl, _, _, rfl, rfl, (by show (0 : Int) < 2147483629; decide), _, rfl, _, _, rfl, rfl, .inl (by constructor <;> decide), _, _, rfl, rfl, _, _, rfl, rfl, _, _, rfl, rfl, ?_, ?_⟩
      · refine ⟨by decide, by decide, ?_⟩
        show (cell % 2147483629 + 7919 * k + 1).natAbs < 18446744073709551616
        omega
      refine ⟨_, _, rfl, rfl, (by show (0 : Int) < 2305843009213693951; decide), ?_⟩
      refine ⟨(by show 3 ≤ sizeLine; decide), fun p hp => ?_⟩
      refine kq _ p (Kp.new hp) hp ⟨_, _, _, upd_same, ?_, Int.emod_nonneg _ (by decide), Int.emod_lt_of_pos _ (by decide), by decide, by decide⟩
      split
      · rw [Int.mul_one]; exact c0
      · rw [Int.mul_zero]; decide
    refine ⟨_, rfl, _, rfl, a, _, rfl, .inl hs, _, _, rfl, rfl, _, rfl, ?_⟩
    refine ite2 (fun c => ?_) (fun c => ?_)
    · have c' : k < ((ns.map V.int).length : Int) := of_decide_eq_true c
      rw [List.length_map] at c'
      have hk : k.toNat < ns.length := by omega
      have ha : atI (ns.map V.int) k = some (.int ns[k.toNat]) := by
        have e : k = ((k.toNat : Nat) : Int) := by omega
        conv => lhs; rw [e]
        exact atI_nat (by rw [List.getElem?_map, List.getElem?_eq_getElem hk]; rfl)
      refine ⟨_, rfl, _, rfl, a, _, _, _, rfl, rfl, hs, ha, _, rfl, _, _, rfl, rfl, ⟨by decide, by decide, by decide⟩, _, _, rfl, rfl, ⟨by decide, by decide +kernel⟩, _, _, rfl, rfl, big_pos, ?_⟩
      exact fin _ (Int.emod_nonneg _ (Int.ne_of_gt big_pos)) Q kk
    · exact fin 0 (Int.le_refl 0) Q kk
/-- a word, by the book's next place -/
def spWord : Sp := fun vs H Q _ => ∃ (p q : Addr) (n b : Nat), vs = [.ref p, .ref q] ∧ PotOk H p n ∧ n ≤ 990000 ∧ H q = some (.lst [.int (b : Nat)]) ∧ b ≤ 600 ∧
  ∀ (x : Str) (b' : Nat) (H' : Hp), b < b' → b' ≤ b + 3 → WordAt b' x → PotOk H' p (n + 10) → H' q = some (.lst [.int (b' : Nat)]) → Kp [p, q] H H' → Q (.str x) H'
theorem words_q : ∀ x ∈ wordsL, ∀ y ∈ wordsL, ¬ x.cps.toList ++ [113] = y.cps.toList := by decide +kernel
theorem words_len : ∀ x ∈ wordsL, x.cps.toList.length ≤ 6 := by decide +kernel
theorem isName_of {l : List Nat} (h1 : 1 ≤ l.length) (h8 : l.length ≤ 8) (hc : ∀ c ∈ l, 97 ≤ c ∧ c ≤ 122) (hw : wordsL.contains (S1 l) = false) : isName (S1 l) = true := by
  unfold isName
  rw [s1_len, decide_eq_true h1, decide_eq_true h8, hw]
  simp only [Bool.not_false, Bool.and_true, Bool.true_and]
  refine List.all_eq_true.mpr fun c m => ?_
  have := hc c m
  rw [decide_eq_true this.1, decide_eq_true this.2]
  rfl
theorem c_law_word (T : Txt K mg aW) (c_law_take : C8.Cal P w K mg base 1 "_law_take" spTake []) (F : At_law_word K mg) : C8.Cal P w K mg base 2 "_law_word" spWord [] := by
  refine F.cal sc_law_word (fun vs H Q E h => ?_) (fun f cdv A outer s H vs Q E hr h => ?_)
  · obtain ⟨p, q, n, b, rfl, _⟩ := h
    rfl
  · obtain ⟨p, q, n, b, rfl, hp, hn, hq, hb, k⟩ := h
    have nd := sc_law_word.nd
    have npq : q ≠ p := by
      obtain ⟨xs, e, l⟩ := hp.lst
      intro z
      subst z
      rw [hq] at e
      cases e
      cases l
    refine ⟨_, (pss_cons (ps_set (i := 2) nd rfl (by first | exact Or.inl rfl | exact Or.inr rfl) pe_str)
      (pss_cons (ps_asg (pe_op op_add (pe_op op_add (pe_ix ix_list (pv 1) pe_int (fun _ _ => rfl)) pe_int) (C8.pe_c c_law_take hr (by decide) rfl (pa_cons (pv 0) (pa_cons pe_int pa_nil)))) (pg_sub (pv 1) pe_int set_list))
      (pss_cons (ps_set (i := 3) nd rfl (by first | exact Or.inl rfl | exact Or.inr rfl) (pe_op op_add_str (pe_ix ix_str (pv 2) (pe_op op_mod (pe_op op_mul (pe_ix ix_list (pv 1) pe_int (fun _ _ => rfl)) pe_int) pe_int) (fun _ _ => rfl)) (pe_ix ix_str (pv 2) (pe_op op_mod (pe_op op_mul (pe_op op_fdiv (pe_ix ix_list (pv 1) pe_int (fun _ _ => rfl)) pe_int) pe_int) pe_int) (fun _ _ => rfl))))
      (pss_cons (ps_for PassesOwn.never rfl (pi_range1 (by rfl) T.z_range (pa_cons (C8.pe_c c_law_take hr (by decide) rfl (pa_cons (pv 0) (pa_cons pe_int pa_nil))) pa_nil)) (pg_name (i := 4) nd rfl (by first | exact Or.inl rfl | exact Or.inr rfl))
        (pss_one (ps_set (i := 3) nd rfl (by first | exact Or.inl rfl | exact Or.inr rfl) (pe_op op_add_str (pv 3) (pe_ix ix_str (pv 2) (C8.pe_c c_law_take hr (by decide) rfl (pa_cons (pv 0) (pa_cons pe_int pa_nil))) (fun _ _ => rfl))))))
      (pss_cons (ps_if (pt_cmpR op_in_seq (pv 3) (pe_lst (pa_cons pe_str (pa_cons pe_str (pa_cons pe_str (pa_cons pe_str (pa_cons pe_str (pa_cons pe_str (pa_cons pe_str (pa_cons pe_str pa_nil))))))))) (by rfl)) (pss_one (ps_set (i := 3) nd rfl (by first | exact Or.inl rfl | exact Or.inr rfl) (pe_op op_add_str (pv 3) pe_str))) pss_nil)
      (pss_one (ps_ret (pv 3)))))))), ?_⟩
    refine ⟨_, rfl, q, _, _, _, rfl, rfl, SqL.of hq, rfl, _, _, rfl, rfl, _, rfl, p, 3, n, rfl, hp, by decide, by decide, by omega, fun r H1 r0 r3 hp1 k1 => ?_⟩
    have hq1 : H1 q = some (.lst [.int (b : Nat)]) := k1.old _ _ hq (by simp [npq])
    refine ⟨_, _, rfl, rfl, _, rfl, q, _, _, _, rfl, rfl, hq1, rfl, ?_⟩
    -- the book's next place
    obtain ⟨b', eb⟩ : ∃ b' : Nat, (b : Int) + 1 + r = (b' : Int) := ⟨((b : Int) + 1 + r).toNat, by omega⟩
    have hset : ([V.int (b : Nat)] : List V).set (Int.toNat 0) (V.int ((b : Int) + 1 + r)) = [V.int (b' : Nat)] := by rw [eb]; rfl
    have hq2 : upd H1 q (.lst ([V.int (b : Nat)].set (Int.toNat 0) (V.int ((b : Int) + 1 + r)))) q = some (.lst [.int (b' : Nat)]) := by rw [hset]; exact upd_same
    have k2 : Kp [p, q] H (upd H1 q (.lst ([V.int (b : Nat)].set (Int.toNat 0) (V.int ((b : Int) + 1 + r))))) := (k1.mono (by simp)).trans (Kp.wr hq1 (by simp))
    have hp2 : PotOk (upd H1 q (.lst ([V.int (b : Nat)].set (Int.toNat 0) (V.int ((b : Int) + 1 + r))))) p (n + 1) := hp1.kp (Kp.wr (S := [q]) hq1 (by simp)) (by simp [Ne.symm npq])
    generalize upd H1 q (.lst ([V.int (b : Nat)].set (Int.toNat 0) (V.int ((b : Int) + 1 + r)))) = H2 at hq2 k2 hp2
    have i1 : (0 : Int) ≤ (b' : Int) * 11 % 26 := Int.emod_nonneg _ (by decide)
    have i2 : (b' : Int) * 11 % 26 < 26 := Int.emod_lt_of_pos _ (by decide)
    have j1 : (0 : Int) ≤ (b' : Int) / 26 * 7 % 26 := Int.emod_nonneg _ (by decide)
    have j2 : (b' : Int) / 26 * 7 % 26 < 26 := Int.emod_lt_of_pos _ (by decide)
    have lz : ("abcdefghijklmnopqrstuvwxyz" : Str).length ≤ sizeLine := Nat.le_of_lt (small1000 (by decide +kernel))
    refine ⟨_, rfl, _, rfl, q, _, _, _, rfl, rfl, SqL.of hq2, rfl, _, _, rfl, rfl, .inr (by constructor <;> decide), _, _, rfl, rfl, (by show (0 : Int) < 26; decide), _, _, _, rfl, rfl, lz, letter_at i1 i2, ?_⟩
    refine ⟨_, rfl, _, rfl, q, _, _, _, rfl, rfl, SqL.of hq2, rfl, _, _, rfl, rfl, ⟨by decide, by decide⟩, _, _, rfl, rfl, .inr (by constructor <;> decide), _, _, rfl, rfl, (by show (0 : Int) < 26; decide), _, _, _, rfl, rfl, lz, letter_at j1 j2, ?_⟩
    refine ⟨_, _, rfl, rfl, (by show 2 ≤ sizeLine; decide), ?_⟩
    refine ⟨_, rfl, p, 7, n + 1, rfl, hp2, by decide, by decide, by omega, fun m H3 m0 m7 hp3 k3 => ⟨m, rfl, by omega, by omega, ?_⟩⟩
    have hq3 : H3 q = some (.lst [.int (b' : Nat)]) := k3.old _ _ hq2 (by simp [npq])
    have k23 : Kp [p, q] H H3 := k2.trans (k3.mono (by simp))
    have c1 : 97 + ((b' : Int) * 11 % 26).toNat = 97 + b' * 11 % 26 := by omega
    have c2 : 97 + ((b' : Int) / 26 * 7 % 26).toNat = 97 + b' / 26 * 7 % 26 := by omega
    refine for_range (lo := 0) (n := m.toNat) (fun i σ H' => ∃ (l : List Nat) (v4 : Option V), σ = [some (.ref p), some (.ref q), some (.str "abcdefghijklmnopqrstuvwxyz"), some (.str (S1 l)), v4] ∧ l.length = 2 + i ∧ (∀ c ∈ l, 97 ≤ c ∧ c ≤ 122) ∧ l.take 2 = [97 + b' * 11 % 26, 97 + b' / 26 * 7 % 26] ∧
        PotOk H' p (n + 2 + i) ∧ H' q = some (.lst [.int (b' : Nat)]) ∧ Kp [p, q] H H') ?_ ?_ ?_
    · refine ⟨[97 + b' * 11 % 26, 97 + b' / 26 * 7 % 26], none, ?_, rfl, ?_, rfl, hp3, hq3, k23⟩
      · show [_, _, _, some (V.str (S1 [97 + ((b' : Int) * 11 % 26).toNat] ++ S1 [97 + ((b' : Int) / 26 * 7 % 26).toNat])), _] = _
        rw [s1_cat, c1, c2]
        rfl
      · intro c hc
        simp at hc
        rcases hc with z | z <;> omega
    · rintro i σ H' hi ⟨l, v4, rfl, ll, lc, lt, hp', hq', k'⟩
      refine ⟨_, rfl, _, rfl, _, rfl, p, 26, n + 2 + i, rfl, hp', by decide, by decide, by omega, fun r2 H4 r20 r26 hp4 k4 => ?_⟩
      refine ⟨_, _, _, rfl, rfl, lz, letter_at r20 r26, _, _, rfl, rfl, ?_, ?_⟩
      · show (S1 l).length + (S1 [97 + r2.toNat]).length ≤ sizeLine
        rw [s1_len, s1_len]
        exact Nat.le_of_lt (small1000 (by simp; omega))
      · refine ⟨l ++ [97 + r2.toNat], some (.int (0 + (i : Nat))), ?_, by rw [List.length_append]; simp; omega, ?_, ?_, hp4, k4.old _ _ hq' (by simp [npq]), k'.trans (k4.mono (by simp))⟩
        · show [_, _, _, some (V.str (S1 l ++ S1 [97 + r2.toNat])), _] = _
          rw [s1_cat]
        · intro c hc
          rcases List.mem_append.mp hc with z | z
          · exact lc c z
          · simp at z; omega
        · rw [List.take_append_of_le_length (by omega)]
          exact lt
    · rintro σ H' ⟨l, v4, rfl, ll, lc, lt, hp', hq', k'⟩
      have l8 : l.length ≤ 8 := by omega
      refine ⟨_, rfl, (by show 8 ≤ sizeLine; decide), fun D hD => ?_⟩
      have k5 : Kp [p, q] H (upd H' D (.lst (wordsL.map V.str))) := k'.new' hD
      have kD : Kp [] H' (upd H' D (.lst (wordsL.map V.str))) := Kp.new hD
      have hp5 : PotOk (upd H' D (.lst (wordsL.map V.str))) p (n + 10) := (hp'.kp kD (by simp)).more (by omega)
      have hq5 := kD.old _ _ hq' (by simp)
      refine ⟨D, wordsL.map V.str, rfl, .inl (SqL.of upd_same), rfl, flats _, _, rfl, ?_⟩
      have er : b < b' := by omega
      have er3 : b' ≤ b + 3 := by omega
      by_cases hw : wordsL.contains (S1 l) = true
      · refine iteB (by rw [inV_strs]; exact hw) ?_
        have hm : S1 l ∈ wordsL := by simpa using hw
        have l6 := words_len _ hm
        rw [s1_tl] at l6
        refine ⟨_, rfl, _, _, rfl, rfl, ?_, ?_⟩
        · show (S1 l).length + (S1 [113]).length ≤ sizeLine
          rw [s1_len, s1_len]
          exact Nat.le_of_lt (small1000 (by simp; omega))
        · refine ⟨_, rfl, ?_⟩
          show Q (V.str (S1 l ++ S1 [113])) _
          rw [s1_cat]
          refine k _ b' _ er er3 ⟨isName_of (by simp) (by simp; omega) (fun c hc => ?_) ?_, ?_⟩ hp5 hq5 k5
          · rcases List.mem_append.mp hc with z | z
            · exact lc c z
            · simp at z; omega
          · have hno : S1 (l ++ [113]) ∉ wordsL := fun z => words_q _ hm _ z rfl
            simpa using hno
          · rw [s1_tl, List.take_append_of_le_length (by omega)]
            exact lt
      · have hw' : wordsL.contains (S1 l) = false := by simpa using hw
        refine iteBn (by rw [inV_strs]; exact hw') ?_
        refine ⟨_, rfl, ?_⟩
        exact k _ b' _ er er3 ⟨isName_of (by omega) l8 lc hw', lt⟩ hp5 hq5 k5
end

end Md

namespace Md
open PySem PySem.Spec PyProof.Rows L2

/-! ### comprehensions whose items write: what is carried speaks of all so far -/
section
variable {J : It} {n : Nat} {G : Hp → Prop} {Y : Nat → Hp → V → Hp → Prop} {S : List Addr} {D : Addr} {H : Hp} {g : TG} {tt : TT} {te : TE} {vs : List Nat} {σ : L2.St} {Qd : Hp → Prop}
theorem lcA (wk : Walk J n G Y) (I : List V → Hp → Prop) (hI : ∀ acc H1 H2, Kp [D] H1 H2 → I acc H1 → I acc H2) (I0 : I [] H) (hD : H D = none) (hS : D ∉ S) (hz : n < sizeLine) (hG : ∀ H', Kp S H H' → G H')
    (hs : ∀ i x H' H'' acc (C : V → Hp → Prop), i < n → acc.length = i → Kp S H H' → I acc H' → Y i H' x H'' → (∀ y H4, Kp S H' H4 → I (acc ++ [y]) H4 → C y H4) → g x (wipe σ vs) H'' fun σ2 H2 => wipe σ2 vs = wipe σ vs ∧ te σ2 H2 C)
    (hd : ∀ H' ys, Kp S H H' → I ys H' → H' D = some (.lst ys) → ys.length = n → Qd H') :
    ∃ W : Nat → Nat → Hp → Prop, (∃ m, W 0 m (upd H D (.lst []))) ∧ ∀ i m H, W i m H → (J.stop i H ∧ Qd H) ∨ (J.go i H ∧ ∃ Nx : Hp → Prop, (∀ H', Nx H' → ∃ m', m' < m ∧ W (i + 1) m' H') ∧
      ∀ x H', J.yld i H x H' → g x (wipe σ vs) H' fun σ2 H2 => wipe σ2 vs = wipe σ vs ∧ tYes σ2 H2 fun b H3 => if b = true then te σ2 H3 fun y H4 => ∃ acc, H4 D = some (.lst acc) ∧ acc.length < sizeLine ∧ Nx (upd H4 D (.lst (acc ++ [y]))) else Nx H3) := by
  refine lc_it wk (fun i H' => Kp S H H' ∧ ∃ ys : List V, H' D = some (.lst ys) ∧ ys.length = i ∧ I ys H') ⟨Kp.new hD, [], upd_same, rfl, hI _ _ _ (Kp.new hD) I0⟩ (fun i H' _ p => hG H' p.1) ?_ (fun H' p => ?_)
  · intro i x H' H'' hi p y
    obtain ⟨p1, ys, p2, p3, p4⟩ := p
    have q := hs i x H' H'' ys (fun y H4 => ∃ acc, H4 D = some (.lst acc) ∧ acc.length < sizeLine ∧ (Kp S H (upd H4 D (.lst (acc ++ [y]))) ∧ ∃ ys : List V, upd H4 D (.lst (acc ++ [y])) D = some (.lst ys) ∧ ys.length = i + 1 ∧ I ys (upd H4 D (.lst (acc ++ [y]))))) hi p3 p1 p4 y
      (fun v H4 k e => ⟨ys, k.old _ _ p2 hS, by omega, (p1.trans k).own hD, ys ++ [v], upd_same, by simp [p3], hI _ _ _ (Kp.wr (k.old _ _ p2 hS) (by simp)) e⟩)
    exact q
  · obtain ⟨p1, ys, p2, p3, p4⟩ := p
    exact hd H' ys p1 p4 p2 p3
end
theorem atI_some {α : Type} {l : List α} {i : Int} (h0 : 0 ≤ i) (h1 : i < l.length) : ∃ x, x ∈ l ∧ l[i.toNat]? = some x ∧ atI l i = some x := by
  have hi : i.toNat < l.length := by omega
  refine ⟨l[i.toNat], List.getElem_mem hi, List.getElem?_eq_getElem hi, ?_⟩
  have e : i = ((i.toNat : Nat) : Int) := by omega
  conv => lhs; rw [e]
  exact atI_nat (List.getElem?_eq_getElem hi)
theorem atI_map {α β : Type} {l : List α} (f : α → β) {i : Int} (h0 : 0 ≤ i) (h1 : i < l.length) : ∃ x, x ∈ l ∧ l[i.toNat]? = some x ∧ atI (l.map f) i = some (f x) := by
  have hi : i.toNat < l.length := by omega
  refine ⟨l[i.toNat], List.getElem_mem hi, List.getElem?_eq_getElem hi, ?_⟩
  have e : i = ((i.toNat : Nat) : Int) := by omega
  conv => lhs; rw [e]
  exact atI_nat (by rw [List.getElem?_map, List.getElem?_eq_getElem hi]; rfl)
section
variable {P : Program} {w : World} {K : PySem.W.Frag} {mg : Str → Option Value} {base : Heap} {aW : Addr}
/-- a row: a maker drawn as a word, with parts of what is handed in -/
def spLawRow (K : PySem.W.Frag) : Sp := fun vs H Q _ => ∃ (p q so : Addr) (n b : Nat) (ws : List Str) (most : Int), vs = [.ref p, .ref q, .ref so, .int most] ∧ PotOk H p n ∧ n ≤ 900000 ∧ H q = some (.lst [.int (b : Nat)]) ∧ b ≤ 600 ∧
  H so = some (.lst (ws.map V.str)) ∧ ws ≠ [] ∧ ws.length ≤ 1000 ∧ 0 ≤ most ∧ most ≤ 3 ∧
  ∀ (v : V) (r : Rw) (b' : Nat) (H' : Hp), RowT K H' v r → (∀ x ∈ r.2, x ∈ ws) → r.2.length ≤ 3 → b < b' → b' ≤ b + 3 → WordAt b' r.1 → PotOk H' p (n + 20) → H' q = some (.lst [.int (b' : Nat)]) → Kp [p, q] H H' → Q v H'
set_option maxHeartbeats 1000000 in
theorem c_law_row (T : Txt K mg aW) (c_law_take : C8.Cal P w K mg base 1 "_law_take" spTake []) (c_law_word : C8.Cal P w K mg base 2 "_law_word" spWord []) (F : At_law_row K mg) : C8.Cal P w K mg base 3 "_law_row" (spLawRow K) [] := by
  refine F.cal sc_law_row (fun vs H Q E h => ?_) (fun f cdv A outer s H vs Q E hr h => ?_)
  · obtain ⟨p, q, so, n, b, ws, most, rfl, _⟩ := h
    rfl
  · obtain ⟨p, q, so, n, b, ws, most, rfl, hp, hn, hq, hb, hso, wne, wl, m0, m3, k⟩ := h
    have nd := sc_law_row.nd
    have wpos : 1 ≤ ws.length := by
      cases ws with
      | nil => exact absurd rfl wne
      | cons a r => simp
    have nps : so ≠ p := by
      obtain ⟨x, y, z, e, _⟩ := hp
      intro c
      subst c
      rw [hso] at e
      cases ws with
      | nil => exact absurd rfl wne
      | cons a r => cases e
    have npq : q ≠ p := by
      obtain ⟨xs, e, l⟩ := hp.lst
      intro z
      subst z
      rw [hq] at e
      cases e
      cases l
    refine ⟨_, (pss_cons (ps_set (i := 4) nd rfl (by first | exact Or.inl rfl | exact Or.inr rfl) (pe_callTy call_tuple_of (by rfl) T.z_tuple (by decide +kernel) (pa_cons (pe_lc (own := [("k", 5)]) (te := tOp (rIxL K) (tVar 2) (tCall spTake [] E0 (tCons (tVar 0) (tCons (tCB (fun xs H Q => ∃ p ys, xs = [.ref p] ∧ (SqL K H p ys ∨ SqT K H p ys) ∧ Q (.int ys.length) H) (tCons (tVar 2) tNil)) tNil)))) (g := (gName 5)) (tt := tYes) rfl nd (pi_range1 (by rfl) T.z_range (pa_cons (pe_callB (call_min2 rfl) (by rfl) T.z_min (by decide +kernel) (pa_cons (pv 3) (pa_cons (pe_ix ix_list (pe_lst (pa_cons pe_int (pa_cons pe_int (pa_cons pe_int (pa_cons pe_int (pa_cons pe_int (pa_cons pe_int pa_nil))))))) (C8.pe_c c_law_take hr (by decide) rfl (pa_cons (pv 0) (pa_cons pe_int pa_nil))) (fun _ _ => rfl)) pa_nil))) pa_nil)) (blkOk_by (N := nn_law_row) (sc := defScope st_law_row) (own := [("k", 5)]) (by decide +kernel)) (fun _ _ _ _ _ => (pg_name (i := 5) nd rfl (by first | exact Or.inl rfl | exact Or.inr rfl))) (fun _ _ _ _ _ => pts_nil) (fun _ _ _ _ _ => (pe_ix ix_list (pv 2) (C8.pe_c c_law_take hr (by decide) rfl (pa_cons (pv 0) (pa_cons (pe_callB call_len_seq (by rfl) T.z_len (by decide +kernel) (pa_cons (pv 2) pa_nil)) pa_nil))) (fun _ _ => rfl)))) pa_nil)))
      (pss_one (ps_ret (pe_tup (pa_cons (C8.pe_c c_law_word hr (by decide) rfl (pa_cons (pv 0) (pa_cons (pv 1) pa_nil))) (pa_cons (pv 4) pa_nil)))))), ?_⟩
    -- how many parts
    refine ⟨_, rfl, (by show 6 ≤ sizeLine; decide), fun L hL => ?_⟩
    have k1 : Kp [] H (upd H L (.lst [.int 0, .int 1, .int 2, .int 2, .int 1, .int 3])) := Kp.new hL
    generalize hH1 : upd H L (.lst [.int 0, .int 1, .int 2, .int 2, .int 1, .int 3]) = H1 at k1
    have hL1 : H1 L = some (.lst [.int 0, .int 1, .int 2, .int 2, .int 1, .int 3]) := by subst hH1; exact upd_same
    have nLp : L ≠ p := by
      obtain ⟨xs, e, _⟩ := hp.lst
      exact fun z => by subst z; rw [hL] at e; cases e
    refine ⟨_, rfl, p, 6, n, rfl, hp.kp k1 (by simp), by decide, by decide, by omega, fun t H2 t0 t6 hp2 k2 => ?_⟩
    have hL2 : H2 L = some (.lst [.int 0, .int 1, .int 2, .int 2, .int 1, .int 3]) := k2.old _ _ hL1 (by simp [nLp])
    obtain ⟨c, hc, _, ec⟩ := atI_map (l := [(0 : Int), 1, 2, 2, 1, 3]) V.int t0 (by simpa using t6)
    refine ⟨L, _, _, _, rfl, rfl, SqL.of hL2, ec, ?_⟩
    have c0 : 0 ≤ c ∧ c ≤ 3 := by simp at hc; omega
    have k12 : Kp [p] H H2 := (k1.mono (by simp)).trans k2
    have hso2 : H2 so = some (.lst (ws.map V.str)) := k12.old _ _ hso (by simp [nps])
    have hq2 : H2 q = some (.lst [.int (b : Nat)]) := k12.old _ _ hq (by simp [npq])
    have mm : 0 ≤ (if c < most then c else most) ∧ (if c < most then c else most) ≤ 3 := by split <;> omega
    refine ⟨_, _, rfl, (if c < most then c else most), rfl, by omega, by omega, fun D hD => ?_⟩
    generalize (if c < most then c else most) = m at mm
    refine lcA (S := [p]) walk_range (fun acc H' => ∃ ps : List Str, acc = ps.map V.str ∧ (∀ x ∈ ps, x ∈ ws) ∧ PotOk H' p (n + 1 + acc.length)) (fun acc Ha Hb kk z => ?_) ⟨[], rfl, fun x h => (nomatch h), hp2⟩ hD ?_ (small1000 (by omega)) (fun _ _ => trivial) ?_ ?_
    · obtain ⟨ps, e1, e2, e3⟩ := z
      refine ⟨ps, e1, e2, e3.kp kk ?_⟩
      obtain ⟨xs, e, _⟩ := hp2.lst
      simp
      exact fun z => by subst z; rw [hD] at e; cases e
    · obtain ⟨xs, e, _⟩ := hp2.lst
      simp
      exact fun z => by subst z; rw [hD] at e; cases e
    · rintro i x H' H'' acc C hi hl kk ⟨ps, e1, e2, e3⟩ ⟨rfl, rfl⟩ hC
      have hso3 := kk.old _ _ hso2 (by simp [nps])
      refine ⟨rfl, ?_⟩
      refine ⟨_, rfl, _, rfl, _, rfl, ⟨so, _, rfl, .inl (SqL.of hso3), p, (ws.length : Int), n + 1 + acc.length, by rw [List.length_map]; rfl, e3, by omega, by omega, by omega, fun r H4 r0 r1 hp4 k4 => ?_⟩⟩
      have hso4 := k4.old _ _ hso3 (by simp [nps])
      obtain ⟨y, hy, _, ey⟩ := atI_map (l := ws) V.str r0 r1
      refine ⟨so, _, _, _, rfl, rfl, SqL.of hso4, ey, ?_⟩
      refine hC _ _ k4 ⟨ps ++ [y], by rw [e1, List.map_append]; rfl, fun x hx => ?_, by rw [List.length_append]; exact hp4⟩
      rcases List.mem_append.mp hx with z | z
      · exact e2 x z
      · simp at z; subst z; exact hy
    · rintro H3 ys k3 ⟨ps, e1, e2, e3⟩ hD3 yl
      refine ⟨D, ys, rfl, .inl ⟨SqL.of hD3, fun l hl => ?_⟩⟩
      have kl : Kp [] H3 (upd H3 l (.tup ys)) := Kp.new hl
      have hl4 : upd H3 l (.tup ys) l = some (.tup ys) := upd_same
      generalize upd H3 l (.tup ys) = H4 at kl hl4
      have hp4 : PotOk H4 p (n + 4) := (e3.kp kl (by simp)).more (by omega)
      have hq4 : H4 q = some (.lst [.int (b : Nat)]) := kl.old _ _ (k3.old _ _ hq2 (by simp [npq])) (by simp)
      have k4 : Kp [p] H H4 := (k12.trans k3).trans (kl.mono (by simp))
      refine ⟨_, rfl, _, rfl, p, q, n + 4, b, rfl, hp4, by omega, hq4, hb, fun x b' H5 b0 b3 wx hp5 hq5 k5 => ?_⟩
      refine ⟨_, rfl, (by show 2 ≤ sizeLine; decide), fun u hu => ?_⟩
      have ku : Kp [] H5 (upd H5 u (.tup [.str x, .ref l])) := Kp.new hu
      have hl6 : SqT K (upd H5 u (.tup [.str x, .ref l])) l (ps.map V.str) := by
        have z : SqT K H4 l (ps.map V.str) := .inl (.inl (by rw [hl4, e1]))
        exact ku.sqt (k5.sqt z)
      refine k _ (x, ps) b' _ ⟨u, .ref l, rfl, .inl (.inl upd_same), l, rfl, hl6⟩ e2 ?_ b0 b3 wx ((hp5.kp ku (by simp)).more (by omega)) (ku.old _ _ hq5 (by simp)) (((k4.mono (by simp)).trans k5).trans (ku.mono (by simp)))
      have : ps.length = ys.length := by rw [e1, List.length_map]
      show ps.length ≤ 3
      omega
end

end Md

namespace Md
open PySem PySem.Spec PyProof.Rows L2

/-! ### fresh words -/
theorem wordAt_inj {b c : Nat} {x : Str} (h1 : WordAt b x) (h2 : WordAt c x) (hb : b < 676) (hc : c < 676) : b = c := by
  have e := h1.2.symm.trans h2.2
  injection e with e1 e2
  injection e2 with e2 _
  have m1 : b * 11 % 26 = c * 11 % 26 := by omega
  have m2 : b / 26 * 7 % 26 = c / 26 * 7 % 26 := by omega
  have q1 : b % 26 = c % 26 := by omega
  have q2 : b / 26 = c / 26 := by
    have : b / 26 < 26 := by omega
    have : c / 26 < 26 := by omega
    omega
  omega
structure Fr (lo hi : Nat) (ws : List Str) : Prop where
  nd : ws.Nodup
  at_ : ∀ x ∈ ws, ∃ b, lo < b ∧ b ≤ hi ∧ WordAt b x
theorem Fr.nil {lo : Nat} : Fr lo lo [] := ⟨List.nodup_nil, fun _ h => (nomatch h)⟩
theorem Fr.more {lo hi h2 : Nat} {ws : List Str} (f : Fr lo hi ws) (h : hi ≤ h2) : Fr lo h2 ws := ⟨f.nd, fun x m => let ⟨b, h1, h2, h3⟩ := f.at_ x m; ⟨b, h1, by omega, h3⟩⟩
theorem Fr.app {lo mid hi : Nat} {ws vs : List Str} (f : Fr lo mid ws) (g : Fr mid hi vs) (hm : mid ≤ hi) (hh : lo ≤ mid) (h : hi < 676) : Fr lo hi (ws ++ vs) := by
  refine ⟨List.nodup_append.mpr ⟨f.nd, g.nd, fun x hx y hy e => ?_⟩, fun x hx => ?_⟩
  · subst e
    obtain ⟨b, b1, b2, b3⟩ := f.at_ x hx
    obtain ⟨c, c1, c2, c3⟩ := g.at_ x hy
    have := wordAt_inj b3 c3 (by omega) (by omega)
    omega
  · rcases List.mem_append.mp hx with m | m
    · obtain ⟨b, b1, b2, b3⟩ := f.at_ x m
      exact ⟨b, b1, by omega, b3⟩
    · obtain ⟨b, b1, b2, b3⟩ := g.at_ x m
      exact ⟨b, by omega, b2, b3⟩
theorem Fr.one {lo b : Nat} {x : Str} (h : lo < b) (w : WordAt b x) : Fr lo b [x] := ⟨by simp, fun y hy => by simp at hy; subst hy; exact ⟨b, h, Nat.le_refl _, w⟩⟩
theorem Fr.name {lo hi : Nat} {ws : List Str} (f : Fr lo hi ws) {x : Str} (h : x ∈ ws) : isName x = true := let ⟨_, _, _, w⟩ := f.at_ x h; w.1
theorem Fr.perm {lo hi : Nat} {ws vs : List Str} (f : Fr lo hi ws) (p : ws.Perm vs) : Fr lo hi vs := ⟨p.nodup_iff.mp f.nd, fun x h => f.at_ x (p.mem_iff.mpr h)⟩
theorem Fr.sub {lo hi : Nat} {ws vs : List Str} (f : Fr lo hi ws) (p : vs.Sublist ws) : Fr lo hi vs := ⟨f.nd.sublist p, fun x h => f.at_ x (p.subset h)⟩
/-! ### good kinds in another order -/
theorem GoodK.perm {ks ls : Kds} (g : GoodK ks) (p : ks.Perm ls) : GoodK ls := by
  have pn : (kindNames ks).Perm (kindNames ls) := p.map _
  have pm : (makerNames ks).Perm (makerNames ls) := (p.flatMap_right _).map _
  obtain ⟨rank, hr⟩ := g.rk
  refine ⟨by rw [← p.length_eq]; exact g.l1, by rw [← p.length_eq]; exact g.l5, fun d h => g.kn d (p.mem_iff.mpr h), fun d h => g.m1 d (p.mem_iff.mpr h), fun d h => g.m4 d (p.mem_iff.mpr h), fun d h => g.mn d (p.mem_iff.mpr h),
    fun d h => g.p3 d (p.mem_iff.mpr h), fun d h r hr x hx => ?_, ?_, rank, fun d h => ?_⟩
  · rcases g.ps d (p.mem_iff.mpr h) r hr x hx with z | z
    · exact .inl z
    · exact .inr (pn.mem_iff.mp z)
  · exact ((pn.append pm).nodup_iff).mp g.nd
  · obtain ⟨h1, r, h2, h3⟩ := hr d (p.mem_iff.mpr h)
    refine ⟨by rw [← p.length_eq]; exact h1, r, h2, fun x hx => ?_⟩
    rcases h3 x hx with z | ⟨z, z2⟩
    · exact .inl z
    · exact .inr ⟨pn.mem_iff.mp z, z2⟩
/-- kinds made one by one, each with a way out -/
structure GenK (words : List Str) (bw b k : Nat) (ks : Kds) : Prop where
  ns : kindNames ks = words.take k
  m1 : ∀ d ∈ ks, 1 ≤ d.2.length
  m4 : ∀ d ∈ ks, d.2.length ≤ 4
  p3 : ∀ d ∈ ks, ∀ r ∈ d.2, r.2.length ≤ 3
  ps : ∀ d ∈ ks, ∀ r ∈ d.2, ∀ x ∈ r.2, x = ("mark" : Str) ∨ x ∈ words
  rk : ∀ i d, ks[i]? = some d → ∃ r ∈ d.2, ∀ x ∈ r.2, x = ("mark" : Str) ∨ x ∈ words.take i
  fr : Fr bw b (makerNames ks)
theorem idxOf_take {ws : List Str} {x : Str} {i : Nat} (h : x ∈ ws.take i) : ws.idxOf x < i := by
  induction ws generalizing i with
  | nil => simp at h
  | cons a r ih =>
    cases i with
    | zero => simp at h
    | succ i =>
      rw [List.idxOf_cons]
      by_cases e : a = x
      · subst e; simp
      · rw [List.take_succ_cons] at h
        rcases List.mem_cons.mp h with z | z
        · exact absurd z.symm e
        · have := ih z
          have e' : (a == x) = false := by simpa using e
          rw [e']
          simp only [cond_false]
          omega
theorem idxOf_nth {ws : List Str} (nd : ws.Nodup) {x : Str} {i : Nat} (h : ws[i]? = some x) : ws.idxOf x = i := by
  induction ws generalizing i with
  | nil => simp at h
  | cons a r ih =>
    rw [List.nodup_cons] at nd
    rw [List.idxOf_cons]
    cases i with
    | zero => simp at h; subst h; simp
    | succ i =>
      have h' : r[i]? = some x := by simpa using h
      have e : (a == x) = false := by
        simp
        intro z
        subst z
        exact nd.1 (List.mem_of_getElem? h')
      rw [e, ih nd.2 h']
      rfl
theorem GenK.good {words : List Str} {b0 bw b : Nat} {ks : Kds} (g : GenK words bw b words.length ks) (w1 : 1 ≤ words.length) (w5 : words.length ≤ 5) (fw : Fr b0 bw words) (h0 : b0 ≤ bw) (h1 : bw ≤ b) (hb : b < 676) : GoodK ks := by
  have ns := g.ns
  rw [List.take_length] at ns
  have kl : ks.length = words.length := by rw [← ns, kindNames, List.length_map]
  refine ⟨by omega, by omega, fun d h => fw.name ?_, g.m1, g.m4, fun d h r hr => g.fr.name ?_, g.p3, fun d h r hr x hx => by rw [ns]; exact g.ps d h r hr x hx, ?_, fun x => words.idxOf x, fun d h => ?_⟩
  · rw [← ns]; exact List.mem_map.mpr ⟨d, h, rfl⟩
  · exact List.mem_map.mpr ⟨r, List.mem_flatMap.mpr ⟨d, h, hr⟩, rfl⟩
  · rw [allNames, ns]; exact (fw.app g.fr h1 h0 hb).nd
  · obtain ⟨i, hi, e⟩ := List.getElem_of_mem h
    have e' : ks[i]? = some d := by rw [List.getElem?_eq_getElem hi, e]
    have ew : words[i]? = some d.1 := by rw [← ns, kindNames, List.getElem?_map, e']; rfl
    have ix := idxOf_nth fw.nd ew
    obtain ⟨r, hr, hp⟩ := g.rk i d e'
    refine ⟨by show words.idxOf d.1 < _; rw [ix]; omega, r, hr, fun x hx => ?_⟩
    rcases hp x hx with z | z
    · exact .inl z
    · exact .inr ⟨by rw [ns]; exact List.mem_of_mem_take z, by show words.idxOf x < words.idxOf d.1; rw [ix]; exact idxOf_take z⟩
theorem GenK.nil {words : List Str} {bw : Nat} : GenK words bw bw 0 [] :=
  ⟨rfl, fun _ h => (nomatch h), fun _ h => (nomatch h), fun _ h => (nomatch h), fun _ h => (nomatch h), fun _ _ h => (nomatch h), Fr.nil⟩
theorem GenK.snoc {words : List Str} {bw b b' k : Nat} {ks : Kds} {x : Str} {rs : List Rw} (g : GenK words bw b k ks) (hx : words[k]? = some x) (m1 : 1 ≤ rs.length) (m4 : rs.length ≤ 4) (p3 : ∀ r ∈ rs, r.2.length ≤ 3)
    (ps : ∀ r ∈ rs, ∀ y ∈ r.2, y = ("mark" : Str) ∨ y ∈ words) (rk : ∃ r ∈ rs, ∀ y ∈ r.2, y = ("mark" : Str) ∨ y ∈ words.take k) (fr : Fr b b' (rs.map (·.1))) (h0 : bw ≤ b) (h1 : b ≤ b') (hb : b' < 676) : GenK words bw b' (k + 1) (ks ++ [(x, rs)]) := by
  have hk := (List.getElem?_eq_some_iff.mp hx).1
  have hx' := (List.getElem?_eq_some_iff.mp hx).2
  have kl : ks.length = k := by
    have := congrArg List.length g.ns
    rw [kindNames, List.length_map, List.length_take] at this
    omega
  have mem : ∀ (d : Kd), d ∈ ks ++ [(x, rs)] → d ∈ ks ∨ d = (x, rs) := fun d h => by
    rcases List.mem_append.mp h with z | z
    · exact .inl z
    · exact .inr (by simpa using z)
  refine ⟨?_, fun d h => ?_, fun d h => ?_, fun d h => ?_, fun d h => ?_, fun i d h => ?_, ?_⟩
  · rw [kindNames, List.map_append, List.take_succ_eq_append_getElem hk, hx']
    show kindNames ks ++ [x] = _
    rw [g.ns]
  · rcases mem d h with z | z
    · exact g.m1 d z
    · subst z; exact m1
  · rcases mem d h with z | z
    · exact g.m4 d z
    · subst z; exact m4
  · rcases mem d h with z | z
    · exact g.p3 d z
    · subst z; exact p3
  · rcases mem d h with z | z
    · exact g.ps d z
    · subst z; exact ps
  · by_cases hi : i < ks.length
    · rw [List.getElem?_append_left hi] at h
      exact g.rk i d h
    · have e : i = ks.length := by
        have := (List.getElem?_eq_some_iff.mp h).1
        rw [List.length_append] at this
        simp at this
        omega
      subst e
      rw [List.getElem?_append_right (Nat.le_refl _)] at h
      simp at h
      subst h
      rw [kl]
      exact rk
  · have e : makerNames (ks ++ [(x, rs)]) = makerNames ks ++ rs.map (·.1) := by simp [makerNames, rowsOf]
    rw [e]
    exact g.fr.app fr h1 h0 hb
theorem rot_perm {α : Type} (l : List α) (n : Nat) : l.Perm (l.drop n ++ l.take n) := by
  conv => lhs; rw [← List.take_append_drop n l]
  exact List.perm_append_comm
/-! ### the written kinds -/
def rowsW (one a b c : Str) : Nat → List Rw
  | 0 => [(a, []), (b, [one])]
  | 1 => [(b, ["mark", one]), (a, [])]
  | 2 => [(a, []), (b, [])]
  | _ => [(b, [one, one]), (a, []), (c, ["mark"])]
def kssW (one a b c : Str) : List Kds := [[(one, rowsW one a b c 0)], [(one, rowsW one a b c 1)], [(one, rowsW one a b c 2)], [(one, rowsW one a b c 3)]]
theorem rowsW_ok (one a b c : Str) (w : Nat) : (1 ≤ (rowsW one a b c w).length ∧ (rowsW one a b c w).length ≤ 4) ∧ (∀ r ∈ rowsW one a b c w, (r.1 = a ∨ r.1 = b ∨ r.1 = c) ∧ r.2.length ≤ 3 ∧ ∀ x ∈ r.2, x = "mark" ∨ x = one) ∧ (a, []) ∈ rowsW one a b c w := by
  match w with
  | 0 => simp [rowsW]
  | 1 => simp [rowsW]
  | 2 => simp [rowsW]
  | w + 3 => simp [rowsW]
theorem rowsW_nd {one a b c : Str} (w : Nat) (ab : a ≠ b) (ac : a ≠ c) (bc : b ≠ c) : ((rowsW one a b c w).map (·.1)).Nodup := by
  match w with
  | 0 => simp [rowsW, ab]
  | 1 => simp [rowsW, ab.symm]
  | 2 => simp [rowsW, ab]
  | w + 3 => simp [rowsW, ab.symm, ac, bc]
theorem goodW {lo hi : Nat} {one a b c d e : Str} (w : Nat) (f : Fr lo hi [one, a, b, c, d, e]) : GoodK [(one, rowsW one a b c w)] := by
  have nd := f.nd
  simp only [List.nodup_cons, List.mem_cons, not_or, List.not_mem_nil, not_false_eq_true, and_true] at nd
  obtain ⟨⟨oa, ob, oc, _⟩, ⟨ab, ac, _⟩, ⟨bc, _⟩, _⟩ := nd
  obtain ⟨⟨l1, l4⟩, hr, ha⟩ := rowsW_ok one a b c w
  have nm : ∀ x, x = a ∨ x = b ∨ x = c → isName x = true := fun x hx => f.name (by rcases hx with z | z | z <;> subst z <;> simp)
  refine ⟨by simp, by simp, fun k hk => ?_, fun k hk => ?_, fun k hk => ?_, fun k hk => ?_, fun k hk => ?_, fun k hk => ?_, ?_, fun _ => 0, fun k hk => ?_⟩
  all_goals try (simp only [List.mem_singleton] at hk; subst hk)
  · exact f.name (by simp)
  · exact l1
  · exact l4
  · exact fun r h => nm _ (hr r h).1
  · exact fun r h => (hr r h).2.1
  · exact fun r h x hx => by
      rcases (hr r h).2.2 x hx with z | z
      · exact .inl z
      · subst z; exact .inr (by simp [kindNames])
  · have e : allNames [(one, rowsW one a b c w)] = one :: (rowsW one a b c w).map (·.1) := by simp [allNames, kindNames, makerNames, rowsOf]
    rw [e, List.nodup_cons]
    refine ⟨fun m => ?_, rowsW_nd w ab ac bc⟩
    obtain ⟨r, h1, h2⟩ := List.mem_map.mp m
    rcases (hr r h1).1 with z | z | z
    · exact oa (h2.symm.trans z)
    · exact ob (h2.symm.trans z)
    · exact oc (h2.symm.trans z)
  · exact ⟨by simp, _, ha, fun x hx => (nomatch hx)⟩
theorem goodW2 {lo hi : Nat} {one oth a b c d e : Str} (w : Nat) (f : Fr lo hi [one, oth, a, b, c, d, e]) : GoodK [(one, rowsW one a b c w), (oth, [(d, [one]), (e, [one, oth])])] := by
  have nd := f.nd
  simp only [List.nodup_cons, List.mem_cons, not_or, List.not_mem_nil, not_false_eq_true, and_true] at nd
  obtain ⟨⟨oo, oa, ob, oc, od, oe⟩, ⟨ta, tb, tc, td, te⟩, ⟨ab, ac, ad, ae⟩, ⟨bc, bd, be⟩, ⟨cd, ce⟩, de, _⟩ := nd
  obtain ⟨⟨l1, l4⟩, hr, ha⟩ := rowsW_ok one a b c w
  have nm : ∀ x, x = a ∨ x = b ∨ x = c → isName x = true := fun x hx => f.name (by rcases hx with z | z | z <;> subst z <;> simp)
  have kns : kindNames [(one, rowsW one a b c w), (oth, [(d, [one]), (e, [one, oth])])] = [one, oth] := rfl
  refine ⟨by simp, by simp, fun k hk => ?_, fun k hk => ?_, fun k hk => ?_, fun k hk => ?_, fun k hk => ?_, fun k hk => ?_, ?_, fun x => if x = oth then 1 else 0, fun k hk => ?_⟩
  all_goals try (simp only [List.mem_cons, List.not_mem_nil, or_false] at hk; rcases hk with rfl | rfl)
  · exact f.name (by simp)
  · exact f.name (by simp)
  · exact l1
  · simp
  · exact l4
  · simp
  · exact fun r h => nm _ (hr r h).1
  · intro r h
    simp at h
    rcases h with rfl | rfl <;> exact f.name (by simp)
  · exact fun r h => (hr r h).2.1
  · intro r h
    simp at h
    rcases h with rfl | rfl <;> simp
  · exact fun r h x hx => by
      rcases (hr r h).2.2 x hx with z | z
      · exact .inl z
      · subst z; exact .inr (by simp [kindNames])
  · intro r h x hx
    simp at h
    rcases h with rfl | rfl
    · simp at hx; subst hx; exact .inr (by simp [kindNames])
    · simp at hx; exact .inr (by simpa [kindNames] using hx)
  · have e : allNames [(one, rowsW one a b c w), (oth, [(d, [one]), (e, [one, oth])])] = one :: oth :: ((rowsW one a b c w).map (·.1) ++ [d, e]) := by simp [allNames, kindNames, makerNames, rowsOf]
    rw [e]
    have nmem : ∀ x, x ≠ a → x ≠ b → x ≠ c → x ∉ (rowsW one a b c w).map (·.1) := fun x h1 h2 h3 m => by
      obtain ⟨r, q1, q2⟩ := List.mem_map.mp m
      rcases (hr r q1).1 with z | z | z
      · exact h1 (q2.symm.trans z)
      · exact h2 (q2.symm.trans z)
      · exact h3 (q2.symm.trans z)
    refine List.nodup_cons.mpr ⟨fun m => ?_, List.nodup_cons.mpr ⟨fun m => ?_, List.nodup_append.mpr ⟨rowsW_nd w ab ac bc, by simp [de], fun x hx y hy z => ?_⟩⟩⟩
    · rcases List.mem_cons.mp m with z | z
      · exact oo z
      · rcases List.mem_append.mp z with z | z
        · exact nmem _ oa ob oc z
        · simp at z; rcases z with z | z
          · exact od z
          · exact oe z
    · rcases List.mem_append.mp m with z | z
      · exact nmem _ ta tb tc z
      · simp at z; rcases z with z | z
        · exact td z
        · exact te z
    · subst z
      simp at hy
      rcases hy with z | z
      · subst z; exact nmem _ (Ne.symm ad) (Ne.symm bd) (Ne.symm cd) hx
      · subst z; exact nmem _ (Ne.symm ae) (Ne.symm be) (Ne.symm ce) hx
  · exact ⟨by simp [oo], _, ha, fun x hx => (nomatch hx)⟩
  · refine ⟨by simp, (d, [one]), by simp, fun x hx => ?_⟩
    simp at hx
    subst hx
    exact .inr ⟨by simp [kindNames], by simp [oo]⟩
/-! ### literals, read forward -/
section
variable {K : PySem.W.Frag} {σ : L2.St}
def Ev (te : TE) (σ : L2.St) (R : V → Hp → Prop) : Prop := ∀ H Q, (∀ v H', Kp [] H H' → R v H' → Q v H') → te σ H Q
def EvL {α : Type} (F : Hp → V → α → Prop) (ta : TA) (σ : L2.St) (xs : List α) : Prop := ∀ H Q, (∀ vs H', Kp [] H H' → Paired (F H') vs xs → Q vs H') → ta σ H Q
theorem ev_var {i : Nat} {v : V} (h : σ[i]? = some (some v)) : Ev (tVar i) σ (fun u _ => u = v) := fun H Q k => ⟨v, h, k v H Kp.refl rfl⟩
theorem ev_str {x : Str} : Ev (tC (.str x)) σ (fun u _ => u = .str x) := fun H Q k => k _ H Kp.refl rfl
theorem evl_nil {α : Type} {F : Hp → V → α → Prop} : EvL F tNil σ [] := fun H Q k => k [] H Kp.refl .nil
theorem evl_cons {α : Type} {F : Hp → V → α → Prop} (mono : ∀ H H' v x, Kp [] H H' → F H v x → F H' v x) {te : TE} {ta : TA} {x : α} {xs : List α} (h : Ev te σ fun v H => F H v x) (t : EvL F ta σ xs) : EvL F (tCons te ta) σ (x :: xs) :=
  fun H Q k => h H _ fun v H1 k1 r1 => t H1 _ fun vs H2 k2 r2 => k (v :: vs) H2 (k1.trans k2) (.cons (mono _ _ _ _ k2 r1) r2)
abbrev FStr : Hp → V → Str → Prop := fun _ v x => v = .str x
theorem paired_strs {vs : List V} {xs : List Str} (h : Paired (fun v x => v = V.str x) vs xs) : vs = xs.map V.str := by
  induction h with
  | nil => rfl
  | cons e _ ih => rw [e, ih]; rfl
theorem ev_strs {ta : TA} {xs : List Str} (h : EvL FStr ta σ xs) (l : xs.length ≤ 900) : Ev (tTup ta) σ fun v H => StrsT K H v xs := by
  intro H Q k
  refine h H _ fun vs H1 k1 r => ⟨?_, fun p hp => ?_⟩
  · have := plen r
    exact Nat.le_of_lt (small1000 (by omega))
  · have e := paired_strs r
    subst e
    exact k _ _ (k1.new' hp) ⟨p, rfl, .inl (.inl upd_same)⟩
theorem ev_row {t1 t2 : TE} {m : Str} {ps : List Str} (h1 : Ev t1 σ fun v _ => v = .str m) (h2 : Ev t2 σ fun v H => StrsT K H v ps) : Ev (tTup (tCons t1 (tCons t2 tNil))) σ fun v H => RowT K H v (m, ps) := by
  intro H Q k
  refine h1 H _ fun v H1 k1 e => h2 H1 _ fun q H2 k2 r => ⟨(by show 2 ≤ sizeLine; decide), fun p hp => ?_⟩
  subst e
  exact k _ _ ((k1.trans k2).new' hp) ⟨p, q, rfl, .inl (.inl upd_same), r.kp (Kp.new (S := []) hp)⟩
theorem ev_rows {ta : TA} {rs : List Rw} (h : EvL (fun H v r => RowT K H v r) ta σ rs) (l : rs.length ≤ 900) : Ev (tTup ta) σ fun v H => RowsT K H v rs := by
  intro H Q k
  refine h H _ fun vs H1 k1 r => ⟨?_, fun p hp => ?_⟩
  · have := plen r
    exact Nat.le_of_lt (small1000 (by omega))
  · exact k _ _ (k1.new' hp) ⟨p, vs, rfl, .inl (.inl upd_same), pmap (fun _ _ z => z.kp (Kp.new (S := []) hp)) r⟩
theorem ev_kind {t1 t2 : TE} {m : Str} {rs : List Rw} (h1 : Ev t1 σ fun v _ => v = .str m) (h2 : Ev t2 σ fun v H => RowsT K H v rs) : Ev (tTup (tCons t1 (tCons t2 tNil))) σ fun v H => KindT K H v (m, rs) := by
  intro H Q k
  refine h1 H _ fun v H1 k1 e => h2 H1 _ fun q H2 k2 r => ⟨(by show 2 ≤ sizeLine; decide), fun p hp => ?_⟩
  subst e
  exact k _ _ ((k1.trans k2).new' hp) ⟨p, q, rfl, .inl (.inl upd_same), r.kp (Kp.new (S := []) hp)⟩
theorem ev_kds {ta : TA} {ks : Kds} (h : EvL (fun H v d => KindT K H v d) ta σ ks) (l : ks.length ≤ 900) : Ev (tTupO ta) σ fun v H => KdsO K H v ks := by
  intro H Q k
  refine h H _ fun vs H1 k1 r => ⟨?_, fun p o hp ho => ?_⟩
  · have := plen r
    exact Nat.le_of_lt (small1000 (by omega))
  · exact k _ _ (k1.new' hp) ⟨p, vs, rfl, ⟨o, upd_same, ho⟩, pmap (fun _ _ z => z.kp (Kp.new (S := []) hp)) r⟩
theorem ev_lstK {ta : TA} {kss : List Kds} (h : EvL (fun H v ks => KdsO K H v ks) ta σ kss) (l : kss.length ≤ 900) : Ev (tLst ta) σ fun v H => ∃ a vs, v = V.ref a ∧ H a = some (.lst vs) ∧ Paired (KdsO K H) vs kss := by
  intro H Q k
  refine h H _ fun vs H1 k1 r => ⟨?_, fun p hp => ?_⟩
  · have := plen r
    exact Nat.le_of_lt (small1000 (by omega))
  · exact k _ _ (k1.new' hp) ⟨p, vs, rfl, upd_same, pmap (fun _ _ z => z.kp (Kp.new (S := []) hp)) r⟩
theorem monoStr : ∀ (H H' : Hp) (v : V) (x : Str), Kp [] H H' → FStr H v x → FStr H' v x := fun _ _ _ _ _ h => h
theorem monoRow : ∀ (H H' : Hp) (v : V) (r : Rw), Kp [] H H' → RowT K H v r → RowT K H' v r := fun _ _ _ _ k h => h.kp k
theorem monoKind : ∀ (H H' : Hp) (v : V) (r : Kd), Kp [] H H' → KindT K H v r → KindT K H' v r := fun _ _ _ _ k h => h.kp k
theorem monoKds : ∀ (H H' : Hp) (v : V) (r : Kds), Kp [] H H' → KdsO K H v r → KdsO K H' v r := fun _ _ _ _ k h => h.kp k
end

end Md

namespace Md
open PySem PySem.Spec PyProof.Rows L2

theorem tyL {K : PySem.W.Frag} {H : Hp} {p : Addr} {xs : List V} (h : H p = some (.lst xs)) : tyV K "list" (.ref p) H := .inl ⟨rfl, xs, SqL.of h⟩
theorem cut_take (xs : List V) (k : Nat) : cutV xs none (some (k : Int)) = xs.take k := by
  unfold cutV
  rw [HT.sIx_none, HT.sIx_nat, List.drop_zero, Nat.sub_zero]
  exact List.take_eq_take_iff.mpr (by omega)
theorem cut_drop (xs : List V) (k : Nat) : cutV xs (some (k : Int)) none = xs.drop k := by
  unfold cutV
  rw [HT.sIx_none, HT.sIx_nat]
  by_cases h : k ≤ xs.length
  · rw [Nat.min_eq_left h]
    exact List.take_of_length_le (by rw [List.length_drop]; exact Nat.le_refl _)
  · rw [Nat.min_eq_right (by omega), List.drop_of_length_le (Nat.le_refl _), List.drop_of_length_le (by omega)]
    simp
theorem pair_get {α β : Type} {F : α → β → Prop} : ∀ {l₁ : List α} {l₂ : List β}, Paired F l₁ l₂ → ∀ {i : Nat} {b : β}, l₂[i]? = some b → ∃ a, l₁[i]? = some a ∧ F a b
  | _, _, .nil, _, _, e => by simp at e
  | _, _, .cons r t, 0, a, e => by simp at e; subst e; exact ⟨_, rfl, r⟩
  | _, _, .cons r t, i + 1, a, e => by
    obtain ⟨b, h1, h2⟩ := pair_get t (i := i) (b := a) (by simpa using e)
    exact ⟨b, by simpa using h1, h2⟩
theorem pair_app {α β : Type} {F : α → β → Prop} {l₁ m₁ : List α} {l₂ m₂ : List β} (h : Paired F l₁ l₂) (g : Paired F m₁ m₂) : Paired F (l₁ ++ m₁) (l₂ ++ m₂) := by
  induction h with
  | nil => exact g
  | cons r _ ih => exact .cons r ih
theorem pair_take {α β : Type} {F : α → β → Prop} : ∀ {l₁ : List α} {l₂ : List β}, Paired F l₁ l₂ → ∀ n, Paired F (l₁.take n) (l₂.take n)
  | _, _, h, 0 => by simp only [List.take_zero]; exact .nil
  | _, _, .nil, n + 1 => by simp only [List.take_nil]; exact .nil
  | _, _, .cons r t, n + 1 => by rw [List.take_succ_cons, List.take_succ_cons]; exact .cons r (pair_take t n)
theorem pair_drop {α β : Type} {F : α → β → Prop} : ∀ {l₁ : List α} {l₂ : List β}, Paired F l₁ l₂ → ∀ n, Paired F (l₁.drop n) (l₂.drop n)
  | _, _, h, 0 => h
  | _, _, .nil, n + 1 => by simp only [List.drop_nil]; exact .nil
  | _, _, .cons r t, n + 1 => by rw [List.drop_succ_cons, List.drop_succ_cons]; exact pair_drop t n
theorem PotOk.ne {H : Hp} {p a : Addr} {n : Nat} (h : PotOk H p n) (f : H a = none) : p ≠ a := by
  obtain ⟨xs, e, _⟩ := h.lst
  exact fun z => by subst z; rw [f] at e; cases e
/-- words drawn one behind another -/
theorem lc_words {p q D : Addr} {n b m i : Nat} {H : Hp} {σ : L2.St} {vs : List Nat} {Qd : Hp → Prop} (hD : H D = none) (hp : PotOk H p n) (hq : H q = some (.lst [.int (b : Nat)])) (hm : m ≤ 5) (hn : n ≤ 850000) (hb : b ≤ 550)
    (hw : ∀ x, wipe ((wipe σ vs).set i (some x)) vs = wipe σ vs) (h0 : ∀ x, ((wipe σ vs).set i (some x))[0]? = some (some (.ref p))) (h1 : ∀ x, ((wipe σ vs).set i (some x))[1]? = some (some (.ref q)))
    (hd : ∀ H' ws b', Kp [p, q] H H' → Fr b b' ws → b ≤ b' → b' ≤ b + 3 * m → PotOk H' p (n + 10 * m) → H' q = some (.lst [.int (b' : Nat)]) → H' D = some (.lst (ws.map V.str)) → ws.length = m → Qd H') :
    ∃ W : Nat → Nat → Hp → Prop, (∃ m, W 0 m (upd H D (.lst []))) ∧ ∀ j k H, W j k H → ((Itr 0 m).stop j H ∧ Qd H) ∨ ((Itr 0 m).go j H ∧ ∃ Nx : Hp → Prop, (∀ H', Nx H' → ∃ m', m' < k ∧ W (j + 1) m' H') ∧
      ∀ x H', (Itr 0 m).yld j H x H' → gName i x (wipe σ vs) H' fun σ2 H2 => wipe σ2 vs = wipe σ vs ∧ tYes σ2 H2 fun b H3 => if b = true then tCall spWord [] C8.E0 (tCons (tVar 0) (tCons (tVar 1) tNil)) σ2 H3 fun y H4 => ∃ acc, H4 D = some (.lst acc) ∧ acc.length < sizeLine ∧ Nx (upd H4 D (.lst (acc ++ [y]))) else Nx H3) := by
  have npD : p ≠ D := hp.ne hD
  have nqD : q ≠ D := ne_of_none hq hD
  refine lcA (S := [p, q]) walk_range (fun acc H' => ∃ ws b', acc = ws.map V.str ∧ Fr b b' ws ∧ b ≤ b' ∧ b' ≤ b + 3 * acc.length ∧ PotOk H' p (n + 10 * acc.length) ∧ H' q = some (.lst [.int (b' : Nat)])) (fun acc Ha Hb kk z => ?_)
    ⟨[], b, rfl, Fr.nil, Nat.le_refl _, by simp, hp, hq⟩ hD (by simp [Ne.symm npD, Ne.symm nqD]) (small1000 (by omega)) (fun _ _ => trivial) ?_ ?_
  · obtain ⟨ws, b', e1, e2, e3, e4, e5, e6⟩ := z
    exact ⟨ws, b', e1, e2, e3, e4, e5.kp kk (by simp [npD]), kk.old _ _ e6 (by simp [nqD])⟩
  · rintro j x H' H'' acc C hj hl kk ⟨ws, b', e1, e2, e3, e4, e5, e6⟩ ⟨rfl, rfl⟩ hC
    refine ⟨hw _, _, h0 _, _, h1 _, p, q, n + 10 * acc.length, b', rfl, e5, by omega, e6, by omega, fun x b2 H4 b0 b3 wx hp4 hq4 k4 => ?_⟩
    refine hC _ _ k4 ⟨ws ++ [x], b2, by rw [e1, List.map_append]; rfl, e2.app (Fr.one b0 wx) (by omega) e3 (by omega), by omega, ?_, ?_, hq4⟩
    · rw [List.length_append]; simp; omega
    · rw [List.length_append]; exact hp4.more (by simp; omega)
  · rintro H' ys k' ⟨ws, b', e1, e2, e3, e4, e5, e6⟩ hD' yl
    refine hd H' ws b' k' e2 e3 (by omega) (by rw [yl] at e5; exact e5) e6 (by rw [hD', e1]) ?_
    rw [← yl, e1, List.length_map]
theorem ev_written {K : PySem.W.Frag} {σ : L2.St} {one a b c : Str} (h4 : σ[4]? = some (some (.str one))) (h6 : σ[6]? = some (some (.str a))) (h7 : σ[7]? = some (some (.str b))) (h8 : σ[8]? = some (some (.str c))) :
    EvL (fun H v ks => KdsO K H v ks) (tCons (tTupO (tCons (tTup (tCons (tVar 4) (tCons (tTup (tCons (tTup (tCons (tVar 6) (tCons (tTup tNil) tNil))) (tCons (tTup (tCons (tVar 7) (tCons (tTup (tCons (tVar 4) tNil)) tNil))) tNil))) tNil))) tNil)) (tCons (tTupO (tCons (tTup (tCons (tVar 4) (tCons (tTup (tCons (tTup (tCons (tVar 7) (tCons (tTup (tCons (tC (.str "mark")) (tCons (tVar 4) tNil))) tNil))) (tCons (tTup (tCons (tVar 6) (tCons (tTup tNil) tNil))) tNil))) tNil))) tNil)) (tCons (tTupO (tCons (tTup (tCons (tVar 4) (tCons (tTup (tCons (tTup (tCons (tVar 6) (tCons (tTup tNil) tNil))) (tCons (tTup (tCons (tVar 7) (tCons (tTup tNil) tNil))) tNil))) tNil))) tNil)) (tCons (tTupO (tCons (tTup (tCons (tVar 4) (tCons (tTup (tCons (tTup (tCons (tVar 7) (tCons (tTup (tCons (tVar 4) (tCons (tVar 4) tNil))) tNil))) (tCons (tTup (tCons (tVar 6) (tCons (tTup tNil) tNil))) (tCons (tTup (tCons (tVar 8) (tCons (tTup (tCons (tC (.str "mark")) tNil)) tNil))) tNil)))) tNil))) tNil)) tNil)))) σ (kssW one a b c) :=
  (evl_cons monoKds (ev_kds (evl_cons monoKind (ev_kind (ev_var h4) (ev_rows (evl_cons monoRow (ev_row (ev_var h6) (ev_strs evl_nil (Nat.zero_le _))) (evl_cons monoRow (ev_row (ev_var h7) (ev_strs (evl_cons monoStr (ev_var h4) evl_nil) (by simp))) evl_nil)) (by simp [rowsW]))) evl_nil) (by simp)) (evl_cons monoKds (ev_kds (evl_cons monoKind (ev_kind (ev_var h4) (ev_rows (evl_cons monoRow (ev_row (ev_var h7) (ev_strs (evl_cons monoStr ev_str (evl_cons monoStr (ev_var h4) evl_nil)) (by simp))) (evl_cons monoRow (ev_row (ev_var h6) (ev_strs evl_nil (Nat.zero_le _))) evl_nil)) (by simp [rowsW]))) evl_nil) (by simp)) (evl_cons monoKds (ev_kds (evl_cons monoKind (ev_kind (ev_var h4) (ev_rows (evl_cons monoRow (ev_row (ev_var h6) (ev_strs evl_nil (Nat.zero_le _))) (evl_cons monoRow (ev_row (ev_var h7) (ev_strs evl_nil (Nat.zero_le _))) evl_nil)) (by simp [rowsW]))) evl_nil) (by simp)) (evl_cons monoKds (ev_kds (evl_cons monoKind (ev_kind (ev_var h4) (ev_rows (evl_cons monoRow (ev_row (ev_var h7) (ev_strs (evl_cons monoStr (ev_var h4) (evl_cons monoStr (ev_var h4) evl_nil)) (by simp))) (evl_cons monoRow (ev_row (ev_var h6) (ev_strs evl_nil (Nat.zero_le _))) (evl_cons monoRow (ev_row (ev_var h8) (ev_strs (evl_cons monoStr ev_str evl_nil) (by simp))) evl_nil))) (by simp [rowsW]))) evl_nil) (by simp)) evl_nil))))
theorem ev_other {K : PySem.W.Frag} {σ : L2.St} {one oth d e : Str} (h4 : σ[4]? = some (some (.str one))) (h5 : σ[5]? = some (some (.str oth))) (h9 : σ[9]? = some (some (.str d))) (h10 : σ[10]? = some (some (.str e))) :
    Ev (tTupO (tCons (tTup (tCons (tVar 5) (tCons (tTup (tCons (tTup (tCons (tVar 9) (tCons (tTup (tCons (tVar 4) tNil)) tNil))) (tCons (tTup (tCons (tVar 10) (tCons (tTup (tCons (tVar 4) (tCons (tVar 5) tNil))) tNil))) tNil))) tNil))) tNil)) σ fun v H => KdsO K H v [(oth, [(d, [one]), (e, [one, oth])])] :=
  (ev_kds (evl_cons monoKind (ev_kind (ev_var h5) (ev_rows (evl_cons monoRow (ev_row (ev_var h9) (ev_strs (evl_cons monoStr (ev_var h4) evl_nil) (by simp))) (evl_cons monoRow (ev_row (ev_var h10) (ev_strs (evl_cons monoStr (ev_var h4) (evl_cons monoStr (ev_var h5) evl_nil)) (by simp))) evl_nil)) (by simp))) evl_nil) (by simp))
section
variable {P : Program} {w : World} {K : PySem.W.Frag} {mg : Str → Option Value} {base : Heap} {aW : Addr}
/-- drawn kinds -/
def spLawKinds (K : PySem.W.Frag) : Sp := fun vs H Q _ => ∃ (p q : Addr) (n b : Nat), vs = [.ref p, .ref q] ∧ PotOk H p n ∧ n ≤ 800000 ∧ H q = some (.lst [.int (b : Nat)]) ∧ b ≤ 400 ∧
  ∀ (v : V) (ks : Kds) (H' : Hp), KdsO K H' v ks → GoodK ks → PotOk H' p (n + 1000) → Kp [p, q] H H' → (∃ b' : Nat, H' q = some (.lst [.int (b' : Nat)]) ∧ b' ≤ b + 100) → Q v H'
set_option maxHeartbeats 4000000 in
theorem c_law_kinds (T : Txt K mg aW) (c_law_take : C8.Cal P w K mg base 1 "_law_take" spTake []) (c_law_word : C8.Cal P w K mg base 2 "_law_word" spWord []) (c_law_row : C8.Cal P w K mg base 3 "_law_row" (spLawRow K) []) (F : At_law_kinds K mg) :
    C8.Cal P w K mg base 4 "_law_kinds" (spLawKinds K) [] := by
  refine F.cal sc_law_kinds (fun vs H Q E h => ?_) (fun f cdv A outer s H vs Q E hr h => ?_)
  · obtain ⟨p, q, n, b, rfl, _⟩ := h
    rfl
  · obtain ⟨p, q, n, b, rfl, hp, hn, hq, hb, k⟩ := h
    have nd := sc_law_kinds.nd
    have npq : q ≠ p := by
      obtain ⟨xs, e, l⟩ := hp.lst
      intro z
      subst z
      rw [hq] at e
      cases e
      cases l
    refine ⟨_, (pss_cons (ps_set (i := 2) nd rfl (by first | exact Or.inl rfl | exact Or.inr rfl) (C8.pe_c c_law_take hr (by decide) rfl (pa_cons (pv 0) (pa_cons pe_int pa_nil))))
      (pss_cons (ps_setLc (i := 3) (own := [("k", 13)]) (g := (gName 13)) (tt := tYes) rfl nd rfl rfl (sw_true rfl rfl rfl (by decide +kernel)) (pi_range1 (by rfl) T.z_range (pa_cons (pe_op op_add pe_int (C8.pe_c c_law_take hr (by decide) rfl (pa_cons (pv 0) (pa_cons pe_int pa_nil)))) pa_nil)) (blkOk_by (N := nn_law_kinds) (sc := defScope st_law_kinds) (own := [("k", 13)]) (by decide +kernel)) (fun _ _ _ _ _ => (pg_name (i := 13) nd rfl (by first | exact Or.inl rfl | exact Or.inr rfl))) (fun _ _ _ _ _ => pts_nil) (fun _ _ _ _ _ => (C8.pe_c c_law_word hr (by decide) rfl (pa_cons (pv 0) (pa_cons (pv 1) pa_nil)))))
      (pss_cons (ps_if (pt_cmpR op_lt (pv 2) pe_int (nomark _)) (pss_cons (ps_set (i := 3) nd rfl (by first | exact Or.inl rfl | exact Or.inr rfl) (pe_slice sl_list (pv 3) po_none (po_some pe_int)))
        (pss_cons (ps_par (i := 4) (j := 5) (by rfl) nd rfl rfl (by decide) rfl rfl (pa_cons (pe_ix ix_list (pv 3) pe_int (fun _ _ => rfl)) (pa_cons (pe_ix ix_list (pv 3) (pe_un un_neg pe_int) (fun _ _ => rfl)) pa_nil)) (by rfl))
        (pss_cons (ps_asg (pe_lc (own := [("k", 13)]) (g := (gName 13)) (tt := tYes) rfl nd (pi_range1 (by rfl) T.z_range (pa_cons pe_int pa_nil)) (blkOk_by (N := nn_law_kinds) (sc := defScope st_law_kinds) (own := [("k", 13)]) (by decide +kernel)) (fun _ _ _ _ _ => (pg_name (i := 13) nd rfl (by first | exact Or.inl rfl | exact Or.inr rfl))) (fun _ _ _ _ _ => pts_nil) (fun _ _ _ _ _ => (C8.pe_c c_law_word hr (by decide) rfl (pa_cons (pv 0) (pa_cons (pv 1) pa_nil))))) (pg_unl rfl (pgs_cons (pg_name (i := 6) nd rfl (by first | exact Or.inl rfl | exact Or.inr rfl)) (pgs_cons (pg_name (i := 7) nd rfl (by first | exact Or.inl rfl | exact Or.inr rfl)) (pgs_cons (pg_name (i := 8) nd rfl (by first | exact Or.inl rfl | exact Or.inr rfl)) (pgs_cons (pg_name (i := 9) nd rfl (by first | exact Or.inl rfl | exact Or.inr rfl)) (pgs_cons (pg_name (i := 10) nd rfl (by first | exact Or.inl rfl | exact Or.inr rfl)) pgs_nil)))))))
        (pss_cons (ps_set (i := 11) nd rfl (by first | exact Or.inl rfl | exact Or.inr rfl) (pe_lst (pa_cons (pe_tupO (pa_cons (pe_tup (pa_cons (pv 4) (pa_cons (pe_tup (pa_cons (pe_tup (pa_cons (pv 6) (pa_cons (pe_tup pa_nil) pa_nil))) (pa_cons (pe_tup (pa_cons (pv 7) (pa_cons (pe_tup (pa_cons (pv 4) pa_nil)) pa_nil))) pa_nil))) pa_nil))) pa_nil)) (pa_cons (pe_tupO (pa_cons (pe_tup (pa_cons (pv 4) (pa_cons (pe_tup (pa_cons (pe_tup (pa_cons (pv 7) (pa_cons (pe_tup (pa_cons pe_str (pa_cons (pv 4) pa_nil))) pa_nil))) (pa_cons (pe_tup (pa_cons (pv 6) (pa_cons (pe_tup pa_nil) pa_nil))) pa_nil))) pa_nil))) pa_nil)) (pa_cons (pe_tupO (pa_cons (pe_tup (pa_cons (pv 4) (pa_cons (pe_tup (pa_cons (pe_tup (pa_cons (pv 6) (pa_cons (pe_tup pa_nil) pa_nil))) (pa_cons (pe_tup (pa_cons (pv 7) (pa_cons (pe_tup pa_nil) pa_nil))) pa_nil))) pa_nil))) pa_nil)) (pa_cons (pe_tupO (pa_cons (pe_tup (pa_cons (pv 4) (pa_cons (pe_tup (pa_cons (pe_tup (pa_cons (pv 7) (pa_cons (pe_tup (pa_cons (pv 4) (pa_cons (pv 4) pa_nil))) pa_nil))) (pa_cons (pe_tup (pa_cons (pv 6) (pa_cons (pe_tup pa_nil) pa_nil))) (pa_cons (pe_tup (pa_cons (pv 8) (pa_cons (pe_tup (pa_cons pe_str pa_nil)) pa_nil))) pa_nil)))) pa_nil))) pa_nil)) pa_nil))))))
        (pss_cons (ps_if (PW.pt (pw_and (pt_cmpR op_gt (pe_callB call_len_seq (by rfl) T.z_len (by decide +kernel) (pa_cons (pv 3) pa_nil)) pe_int (nomark _)) (pw_and1 (pt_cmpR op_eq (C8.pe_c c_law_take hr (by decide) rfl (pa_cons (pv 0) (pa_cons pe_int pa_nil))) pe_int (nomark _))))) (pss_one (ps_ret (pe_op op_catO (pe_ix ix_list (pv 11) (pv 2) (fun _ _ => rfl)) (pe_tupO (pa_cons (pe_tup (pa_cons (pv 5) (pa_cons (pe_tup (pa_cons (pe_tup (pa_cons (pv 9) (pa_cons (pe_tup (pa_cons (pv 4) pa_nil)) pa_nil))) (pa_cons (pe_tup (pa_cons (pv 10) (pa_cons (pe_tup (pa_cons (pv 4) (pa_cons (pv 5) pa_nil))) pa_nil))) pa_nil))) pa_nil))) pa_nil))))) pss_nil)
        (pss_one (ps_ret (pe_ix ix_list (pv 11) (pv 2) (fun _ _ => rfl))))))))) pss_nil)
      (pss_cons (ps_set (i := 12) nd rfl (by first | exact Or.inl rfl | exact Or.inr rfl) (pe_lst pa_nil))
      (pss_cons (ps_for PassesOwn.never rfl (pi_range1 (by rfl) T.z_range (pa_cons (pe_callB call_len_seq (by rfl) T.z_len (by decide +kernel) (pa_cons (pv 3) pa_nil)) pa_nil)) (pg_name (i := 13) nd rfl (by first | exact Or.inl rfl | exact Or.inr rfl))
        (pss_cons (ps_set (i := 14) nd rfl (by first | exact Or.inl rfl | exact Or.inr rfl) (pe_lst (pa_cons (C8.pe_c c_law_row hr (by decide) rfl (pa_cons (pv 0) (pa_cons (pv 1) (pa_cons (pe_op op_cat (pe_slice sl_list (pv 3) po_none (po_some (pv 13))) (pe_lst (pa_cons pe_str pa_nil))) (pa_cons pe_int pa_nil))))) pa_nil)))
        (pss_cons (ps_for PassesOwn.never rfl (pi_range1 (by rfl) T.z_range (pa_cons (C8.pe_c c_law_take hr (by decide) rfl (pa_cons (pv 0) (pa_cons pe_int pa_nil))) pa_nil)) (pg_name (i := 15) nd rfl (by first | exact Or.inl rfl | exact Or.inr rfl))
          (pss_one (ps_expr (pe_bm PySem.F.plainAttrs_list PySem.F.slot_list_append PySem.F.type_list_append mt_append (pv 14) (pa_cons (C8.pe_c c_law_row hr (by decide) rfl (pa_cons (pv 0) (pa_cons (pv 1) (pa_cons (pe_op op_cat (pv 3) (pe_lst (pa_cons pe_str pa_nil))) (pa_cons pe_int pa_nil))))) pa_nil)))))
        (pss_cons (ps_set (i := 16) nd rfl (by first | exact Or.inl rfl | exact Or.inr rfl) (C8.pe_c c_law_take hr (by decide) rfl (pa_cons (pv 0) (pa_cons (pe_callB call_len_seq (by rfl) T.z_len (by decide +kernel) (pa_cons (pv 14) pa_nil)) pa_nil))))
        (pss_one (ps_expr (pe_bm PySem.F.plainAttrs_list PySem.F.slot_list_append PySem.F.type_list_append mt_append (pv 12) (pa_cons (pe_tup (pa_cons (pe_ix ix_list (pv 3) (pv 13) (fun _ _ => rfl)) (pa_cons (pe_callTy call_tuple_of (by rfl) T.z_tuple (by decide +kernel) (pa_cons (pe_op op_cat (pe_slice sl_list (pv 14) (po_some (pv 16)) po_none) (pe_slice sl_list (pv 14) po_none (po_some (pv 16)))) pa_nil)) pa_nil))) pa_nil))))))))
      (pss_cons (ps_set (i := 16) nd rfl (by first | exact Or.inl rfl | exact Or.inr rfl) (C8.pe_c c_law_take hr (by decide) rfl (pa_cons (pv 0) (pa_cons (pe_callB call_len_seq (by rfl) T.z_len (by decide +kernel) (pa_cons (pv 12) pa_nil)) pa_nil))))
      (pss_one (ps_ret (pe_callTy call_tupleO (by rfl) T.z_tuple (by decide +kernel) (pa_cons (pe_op op_cat (pe_slice sl_list (pv 12) (po_some (pv 16)) po_none) (pe_slice sl_list (pv 12) po_none (po_some (pv 16)))) pa_nil)))))))))), ?_⟩
    refine ⟨_, rfl, p, 8, n, rfl, hp, by decide, by decide, by omega, fun way H1 w0 w8 hp1 k1 => ?_⟩
    have hq1 : H1 q = some (.lst [.int (b : Nat)]) := k1.old _ _ hq (by simp [npq])
    refine ⟨_, rfl, p, _, n + 1, rfl, hp1, by decide, by decide, by omega, fun m H2 m0 m5 hp2 k2 => ⟨_, _, rfl, rfl, (1 + m), rfl, by omega, by omega, fun D hD => ?_⟩⟩
    have hq2 : H2 q = some (.lst [.int (b : Nat)]) := k2.old _ _ hq1 (by simp [npq])
    refine lc_words hD hp2 hq2 (by omega) (by omega) (by omega) (fun _ => rfl) (fun _ => rfl) (fun _ => rfl) ?_
    intro H3 ws b3 k3 fr b03 b33 hp3 hq3 hw wl
    have k03 : Kp [p, q] H H3 := ((k1.mono (by simp)).trans (k2.mono (by simp))).trans k3
    have npD : p ≠ D := hp2.ne hD
    have nqD : q ≠ D := ne_of_none hq2 hD
    have w1 : 1 ≤ ws.length := by omega
    have w5 : ws.length ≤ 5 := by omega
    have hp3' : PotOk H3 p (n + 60) := hp3.more (by omega)
    refine ⟨_, rfl, _, _, rfl, rfl, _, rfl, ?_⟩
    refine ite2 (fun c => ?_) (fun c => ?_)
--C1{
    · have w4 : way < 4 := of_decide_eq_true c
      refine ⟨_, rfl, 2, rfl, D, _, rfl, SqL.of hw, fun D2 hD2 => ?_⟩
      have e2 : cutV (ws.map V.str) none (some (2 : Int)) = (ws.take 2).map V.str := by
        rw [show (2 : Int) = ((2 : Nat) : Int) from rfl, cut_take, List.map_take]
      rw [e2]
      have k34 : Kp [] H3 (upd H3 D2 (.lst ((ws.take 2).map V.str))) := Kp.new hD2
      have hv4 : upd H3 D2 (.lst ((ws.take 2).map V.str)) D2 = some (.lst ((ws.take 2).map V.str)) := upd_same
      have npD2 : p ≠ D2 := hp3.ne hD2
      have nqD2 : q ≠ D2 := ne_of_none hq3 hD2
      generalize upd H3 D2 (.lst ((ws.take 2).map V.str)) = H4 at k34 hv4
      have hp4 : PotOk H4 p (n + 60) := hp3'.kp k34 (by simp)
      have hq4 := k34.old _ _ hq3 (by simp)
      have k04 : Kp [p, q] H H4 := k03.trans (k34.mono (by simp))
      obtain ⟨one, oth, x0, x1, hws⟩ : ∃ one oth, atI ((ws.take 2).map V.str) 0 = some (.str one) ∧ atI ((ws.take 2).map V.str) (-1) = some (.str oth) ∧ ((ws.take 2 = [one] ∧ oth = one) ∨ ws.take 2 = [one, oth]) := by
        match ws, w1 with
        | [x], _ => exact ⟨x, x, rfl, rfl, .inl ⟨rfl, rfl⟩⟩
        | x :: y :: r, _ => exact ⟨x, y, rfl, rfl, .inr rfl⟩
      refine ⟨_, rfl, D2, _, _, _, rfl, rfl, SqL.of hv4, x0, _, rfl, _, rfl, D2, _, _, _, rfl, rfl, SqL.of hv4, x1, _, _, rfl, ?_⟩
      refine ⟨_, rfl, by decide, by decide, fun D3 hD3 => ?_⟩
      refine lc_words hD3 hp4 hq4 (by decide) (by omega) (by omega) (fun _ => rfl) (fun _ => rfl) (fun _ => rfl) ?_
      intro H5 vs5 b5 k5 fr5 b35 b55 hp5 hq5 hv vl
      obtain ⟨a, b1, c1, d, e, rfl⟩ : ∃ a b c d e, vs5 = [a, b, c, d, e] := by
        match vs5, vl with
        | [a, b, c, d, e], _ => exact ⟨a, b, c, d, e, rfl⟩
      have hv5 : H5 D2 = some (.lst ((ws.take 2).map V.str)) := k5.old _ _ hv4 (by simp [Ne.symm npD2, Ne.symm nqD2])
      have k05 : Kp [p, q] H H5 := k04.trans k5
      refine ⟨D3, _, rfl, SqL.of hv, rfl, _, _, rfl, _, _, rfl, _, _, rfl, _, _, rfl, _, _, rfl, rfl, ?_⟩
      dsimp only [tSeq, tAsg]
      refine ev_lstK (K := K) (ev_written (one := one) (a := a) (b := b1) (c := c1) rfl rfl rfl rfl) (by simp [kssW]) _ _ ?_
      rintro _ H6 k6 ⟨L, us, rfl, hL, hus⟩
      have hp6 : PotOk H6 p (n + 200) := (hp5.kp k6 (by simp)).more (by omega)
      have k06 : Kp [p, q] H H6 := k05.trans (k6.mono (by simp))
      have hv6 := k6.old _ _ hv5 (by simp)
      have hq6 := k6.old _ _ hq5 (by simp)
      have npL : L ≠ p := by
        obtain ⟨x, y, z, e, _⟩ := hp6
        intro zz
        subst zz
        rw [hL] at e
        have := plen hus
        cases e
        simp [kssW] at this
      obtain ⟨wn, ew⟩ : ∃ wn : Nat, way = (wn : Int) := ⟨way.toNat, by omega⟩
      have hwn : wn < 4 := by omega
      have ek : (kssW one a b1 c1)[wn]? = some [(one, rowsW one a b1 c1 wn)] := by
        match wn, hwn with
        | 0, _ => rfl
        | 1, _ => rfl
        | 2, _ => rfl
        | 3, _ => rfl
      obtain ⟨u, hu, uk⟩ := pair_get hus ek
      have ui : atI us way = some u := by rw [ew]; exact atI_nat hu
      -- names unlike
      have frw : Fr b b5 (ws.take 2 ++ [a, b1, c1, d, e]) := (fr.sub (List.take_sublist 2 ws)).app fr5 b35 b03 (by have : (Int.toNat 5) = 5 := rfl; omega)
      have good1 : GoodK [(one, rowsW one a b1 c1 wn)] := by
        refine goodW (d := d) (e := e) wn (frw.sub ?_)
        rcases hws with ⟨z, _⟩ | z
        · rw [z]; exact List.Sublist.refl _
        · rw [z]; exact .cons_cons _ (.cons _ (List.Sublist.refl _))
      have last : ∀ (σ' : L2.St) (H7 : Hp), σ'[2]? = some (some (.int way)) → σ'[11]? = some (some (.ref L)) → Kp [p] H6 H7 → PotOk H7 p (n + 300) →
          tRet (tOp (rIxL K) (tVar 11) (tVar 2)) { nx := fun _ H' => Q .non H', rt := Q } σ' H7 := by
        intro σ' H7 s2 s11 k7 hp7
        have hL7 := k7.old _ _ hL (by simp [npL])
        refine ⟨_, s11, _, s2, L, us, way, u, rfl, rfl, SqL.of hL7, ui, ?_⟩
        exact k u _ H7 (uk.kp k7) good1 (hp7.more (by omega)) (k06.trans (k7.mono (by simp))) ⟨b5, k7.old _ _ hq6 (by simp [npq]), by omega⟩
      refine ⟨_, rfl, D2, _, rfl, .inl (SqL.of hv6), _, _, rfl, rfl, _, rfl, ?_⟩
      refine ite2 (fun c2 => ?_) (fun c2 => ?_)
      · refine ⟨_, rfl, p, 2, n + 200, rfl, hp6, by decide, by decide, by omega, fun t H7 t0 t2 hp7 k7 => ?_⟩
        refine ⟨rfl, _, rfl, ?_⟩
        refine ite2 (fun c3 => ?_) (fun c3 => ?_)
        · have hL7 := k7.old _ _ hL (by simp [npL])
          refine ⟨_, rfl, _, rfl, L, us, way, u, rfl, rfl, SqL.of hL7, ui, ?_⟩
          have hws2 : ws.take 2 = [one, oth] := by
            rcases hws with ⟨z, _⟩ | z
            · have : (1 : Int) < (((ws.take 2).map V.str).length : Int) := of_decide_eq_true c2
              rw [z] at this
              simp at this
            · exact z
          refine ev_other (K := K) (one := one) (oth := oth) (d := d) (e := e) rfl rfl rfl rfl _ _ ?_
          intro v8 H8 k8 r8
          obtain ⟨a1, us1, rfl, t1, q1⟩ := (uk.kp k7).kp k8
          obtain ⟨a2, us2, rfl, t2, q2⟩ := r8
          have n1 := plen q1
          have n2 := plen q2
          refine ⟨a1, a2, us1, us2, rfl, rfl, t1.sq, t2.sq, ?_, ?_, ?_, ?_⟩
          · intro z; subst z; simp at n1
          · intro z; subst z; simp at n2
          · rw [n1, n2]; exact (by show 2 ≤ sizeLine; decide)
          · intro pt o hpt ho
            have k9 : Kp [] H8 (upd H8 pt (.frz o (.tup (us1 ++ us2)))) := Kp.new hpt
            refine k _ _ _ ⟨pt, us1 ++ us2, rfl, ⟨o, upd_same, ho⟩, pmap (fun _ _ z => z.kp k9) (pair_app q1 q2)⟩ (goodW2 (d := d) (e := e) wn (by rw [hws2] at frw; exact frw)) (((hp7.kp k8 (by simp)).kp k9 (by simp)).more (by omega))
              (((k06.trans (k7.mono (by simp))).trans (k8.mono (by simp))).trans (k9.mono (by simp))) ⟨b5, k9.old _ _ (k8.old _ _ (k7.old _ _ hq6 (by simp [npq])) (by simp)) (by simp), by omega⟩
        · exact last _ H7 rfl rfl k7 (hp7.more (by omega))
      · exact last _ H6 rfl rfl Kp.refl (hp6.more (by omega))
--C1}
    · refine ⟨(by show 0 ≤ sizeLine; decide), fun G hG => ?_⟩
      have kG : Kp [] H3 (upd H3 G (.lst [])) := Kp.new hG
      have npG : p ≠ G := hp3.ne hG
      have nqG : q ≠ G := ne_of_none hq3 hG
      have nDG : D ≠ G := ne_of_none hw hG
      refine ⟨_, rfl, D, _, rfl, .inl (SqL.of (kG.old _ _ hw (by simp))), ((ws.map V.str).length : Int), rfl, by rw [List.length_map]; omega, by rw [List.length_map]; omega, ?_⟩
      have eN : ((ws.map V.str).length : Int).toNat = ws.length := by rw [List.length_map]; omega
      rw [eN]
      refine for_range (lo := 0) (n := ws.length) (fun i σ H' => ∃ v4 v5 v6 v7 v8 v9 v10 v11 v13 v14 v15 v16 vs ks b', σ = [some (.ref p), some (.ref q), some (.int way), some (.ref D), v4, v5, v6, v7, v8, v9, v10, v11, some (.ref G), v13, v14, v15, v16] ∧
          Kp [p, q] H H' ∧ H' G = some (.lst vs) ∧ Paired (KindT K H') vs ks ∧ GenK ws b3 b' i ks ∧ b3 ≤ b' ∧ b' ≤ b3 + 12 * i ∧ PotOk H' p (n + 60 + 100 * i) ∧ H' q = some (.lst [.int (b' : Nat)]) ∧ H' D = some (.lst (ws.map V.str))) ?_ ?_ ?_
      · exact ⟨_, _, _, _, _, _, _, _, _, _, _, _, [], [], b3, rfl, k03.trans (kG.mono (by simp)), upd_same, .nil, GenK.nil, Nat.le_refl _, Nat.le_refl _, hp3'.kp kG (by simp), kG.old _ _ hq3 (by simp), kG.old _ _ hw (by simp)⟩
      · rintro i σ H4 hi ⟨v4, v5, v6, v7, v8, v9, v10, v11, v13, v14, v15, v16, vs, ks, b', rfl, k4, hG4, pk, gk, b3', b3i, hp4, hq4, hD4⟩
        have hGH : H G = none := k03.free hG (by simp [Ne.symm npG, Ne.symm nqG])
        have nGp : G ≠ p := Ne.symm npG
        have nGq : G ≠ q := Ne.symm nqG
        have nDp : D ≠ p := Ne.symm npD
        have nDq : D ≠ q := Ne.symm nqD
        -- the first row
        refine ⟨_, rfl, _, rfl, _, rfl, _, rfl, _, rfl, D, _, rfl, SqL.of hD4, fun A1 hA1 => ?_⟩
        have eC : cutV (ws.map V.str) none (some (0 + (i : Int))) = (ws.take i).map V.str := by rw [Int.zero_add, cut_take, List.map_take]
        rw [eC]
        refine ⟨(by show 1 ≤ sizeLine; decide), fun A2 hA2 => ?_⟩
        have kA1 : Kp [] H4 (upd H4 A1 (.lst ((ws.take i).map V.str))) := Kp.new hA1
        have hA1' : upd (upd H4 A1 (.lst ((ws.take i).map V.str))) A2 (.lst [.str "mark"]) A1 = some (.lst ((ws.take i).map V.str)) := by rw [upd_ne (ne_of_none upd_same hA2)]; exact upd_same
        refine ⟨A1, A2, _, _, rfl, rfl, hA1', upd_same, ?_, fun A3 hA3 => ?_⟩
        · rw [List.length_map, List.length_take]
          exact Nat.le_of_lt (small1000 (by simp; omega))
        have eM : (ws.take i).map V.str ++ [V.str "mark"] = ((ws.take i ++ [("mark" : Str)]).map V.str) := by rw [List.map_append]; rfl
        rw [eM]
        have kA : Kp [] H4 (upd (upd (upd H4 A1 (.lst ((ws.take i).map V.str))) A2 (.lst [.str "mark"])) A3 (.lst ((ws.take i ++ [("mark" : Str)]).map V.str))) := (kA1.new' hA2).new' hA3
        have hA3' : upd (upd (upd H4 A1 (.lst ((ws.take i).map V.str))) A2 (.lst [.str "mark"])) A3 (.lst ((ws.take i ++ [("mark" : Str)]).map V.str)) A3 = some (.lst ((ws.take i ++ [("mark" : Str)]).map V.str)) := upd_same
        generalize upd (upd (upd H4 A1 (.lst ((ws.take i).map V.str))) A2 (.lst [.str "mark"])) A3 (.lst ((ws.take i ++ [("mark" : Str)]).map V.str)) = H5 at kA hA3'
        refine ⟨p, q, A3, n + 60 + 100 * i, b', ws.take i ++ [("mark" : Str)], 2, rfl, hp4.kp kA (by simp), by omega, kA.old _ _ hq4 (by simp), by omega, hA3', by simp, ?_, by decide, by decide, fun v r b6 H6 rT rP r3 b0 b13 wx hp6 hq6 k6 => ?_⟩
        · rw [List.length_append, List.length_take]; simp; omega
        have k46 : Kp [p, q] H4 H6 := (kA.mono (by simp)).trans k6
        refine ⟨(by show 1 ≤ sizeLine; decide), fun R hR => ?_⟩
        have kR : Kp [] H6 (upd H6 R (.lst [v])) := Kp.new hR
        have npR : R ≠ p := Ne.symm (hp6.ne hR)
        have nqR : R ≠ q := Ne.symm (ne_of_none hq6 hR)
        have hG6 : H6 G = some (.lst vs) := k46.old _ _ hG4 (by simp [nGp, nGq])
        have hD6 : H6 D = some (.lst (ws.map V.str)) := k46.old _ _ hD4 (by simp [nDp, nDq])
        have nGR : G ≠ R := ne_of_none hG6 hR
        have nDR : D ≠ R := ne_of_none hD6 hR
        have hRH : H R = none := (k4.trans k46).free hR (by simp [npR, nqR])
        refine ⟨_, rfl, p, _, n + 60 + 100 * i + 20, rfl, hp6.kp kR (by simp), by decide, by decide, by omega, fun m H7 m0 m4 hp7 k7 => ⟨m, rfl, by omega, by omega, ?_⟩⟩
        have k67 : Kp [p] H6 H7 := (kR.mono (by simp)).trans k7
        refine for_range (lo := 0) (n := m.toNat) (fun j σ H' => ∃ v15 vr rs b7, σ = [some (.ref p), some (.ref q), some (.int way), some (.ref D), v4, v5, v6, v7, v8, v9, v10, v11, some (.ref G), some (.int (0 + (i : Nat))), some (.ref R), v15, v16] ∧
            Kp [p, q] H H' ∧ H' G = some (.lst vs) ∧ Paired (KindT K H') vs ks ∧ H' D = some (.lst (ws.map V.str)) ∧ H' R = some (.lst vr) ∧ Paired (RowT K H') vr rs ∧ rs.length = 1 + j ∧ r ∈ rs ∧ (∀ s ∈ rs, s.2.length ≤ 3 ∧ ∀ y ∈ s.2, y = ("mark" : Str) ∨ y ∈ ws) ∧
            Fr b' b7 (rs.map (·.1)) ∧ b' ≤ b7 ∧ b7 ≤ b' + 3 * (1 + j) ∧ PotOk H' p (n + 60 + 100 * i + 21 + 20 * j) ∧ H' q = some (.lst [.int (b7 : Nat)])) ?_ ?_ ?_
        · refine ⟨_, [v], [r], b6, rfl, ((k4.trans k46).trans (k67.mono (by simp))), k67.old _ _ hG6 (by simp [nGp]), pmap (fun _ _ z => (z.kp k46).kp k67) pk, k67.old _ _ hD6 (by simp [nDp]), k7.old _ _ upd_same (by simp [npR]),
            .cons (rT.kp k67) .nil, rfl, by simp, fun s hs => ?_, by simpa using Fr.one b0 wx, by omega, by omega, hp7, k67.old _ _ hq6 (by simp [npq])⟩
          simp at hs
          subst hs
          refine ⟨r3, fun y hy => ?_⟩
          rcases List.mem_append.mp (rP y hy) with z | z
          · exact .inr (List.mem_of_mem_take z)
          · simp at z; exact .inl z
        · rintro j σ H8 hj ⟨v15, vr, rs, b7, rfl, k8, hG8, pk8, hD8, hR8, pr8, rl, rm, rok, frr, b71, b72, hp8, hq8⟩
          have vl := plen pr8
          refine ⟨_, rfl, tyL hR8, _, rfl, _, rfl, _, rfl, (by show 1 ≤ sizeLine; decide), fun A2 hA2 => ?_⟩
          have kB1 : Kp [] H8 (upd H8 A2 (.lst [.str "mark"])) := Kp.new hA2
          refine ⟨D, A2, _, _, rfl, rfl, kB1.old _ _ hD8 (by simp), upd_same, ?_, fun A3 hA3 => ?_⟩
          · rw [List.length_map]
            exact Nat.le_of_lt (small1000 (by simp; omega))
          have eM : ws.map V.str ++ [V.str "mark"] = ((ws ++ [("mark" : Str)]).map V.str) := by rw [List.map_append]; rfl
          rw [eM]
          have kB : Kp [] H8 (upd (upd H8 A2 (.lst [.str "mark"])) A3 (.lst ((ws ++ [("mark" : Str)]).map V.str))) := kB1.new' hA3
          have hB3 : upd (upd H8 A2 (.lst [.str "mark"])) A3 (.lst ((ws ++ [("mark" : Str)]).map V.str)) A3 = some (.lst ((ws ++ [("mark" : Str)]).map V.str)) := upd_same
          generalize upd (upd H8 A2 (.lst [.str "mark"])) A3 (.lst ((ws ++ [("mark" : Str)]).map V.str)) = H9 at kB hB3
          refine ⟨p, q, A3, n + 60 + 100 * i + 21 + 20 * j, b7, ws ++ [("mark" : Str)], 3, rfl, hp8.kp kB (by simp), by omega, kB.old _ _ hq8 (by simp), by omega, hB3, by simp, by simp; omega, by decide, by decide, fun v' r' b8 HA rT' rP' r3' b0' b13' wx' hpA hqA kA' => ?_⟩
          have k8A : Kp [p, q] H8 HA := (kB.mono (by simp)).trans kA'
          have hRA := k8A.old _ _ hR8 (by simp [npR, nqR])
          have kW : Kp [R] HA (upd HA R (.lst (vr ++ [v']))) := Kp.wr hRA (by simp)
          refine ⟨R, vr, v', rfl, rfl, hRA, small1000 (by omega), ?_⟩
          refine ⟨_, vr ++ [v'], rs ++ [r'], b8, rfl, (k8.trans k8A).own hRH, kW.old _ _ (k8A.old _ _ hG8 (by simp [nGp, nGq])) (by simp [nGR]), pmap (fun _ _ z => (z.kp k8A).kp kW) pk8, kW.old _ _ (k8A.old _ _ hD8 (by simp [nDp, nDq])) (by simp [nDR]), upd_same,
            pair_app (pmap (fun _ _ z => (z.kp k8A).kp kW) pr8) (.cons (rT'.kp kW) .nil), by rw [List.length_append]; simp; omega, List.mem_append_left _ rm, fun s hs => ?_, ?_, by omega, by omega, (hpA.kp kW (by simp [Ne.symm npR])).more (by omega), kW.old _ _ hqA (by simp [Ne.symm nqR])⟩
          · rcases List.mem_append.mp hs with z | z
            · exact rok s z
            · simp at z
              subst z
              refine ⟨r3', fun y hy => ?_⟩
              rcases List.mem_append.mp (rP' y hy) with z | z
              · exact .inr z
              · simp at z; exact .inl z
          · rw [List.map_append]
            exact frr.app (Fr.one b0' wx') (by omega) b71 (by omega)
        · rintro σ H8 ⟨v15, vr, rs, b7, rfl, k8, hG8, pk8, hD8, hR8, pr8, rl, rm, rok, frr, b71, b72, hp8, hq8⟩
          have vl := plen pr8
          refine ⟨_, rfl, _, rfl, R, _, rfl, .inl (SqL.of hR8), p, (vr.length : Int), n + 60 + 100 * i + 90, rfl, hp8.more (by omega), by omega, by omega, by omega, fun y H9 y0 y1 hp9 k9 => ?_⟩
          obtain ⟨yn, ey⟩ : ∃ yn : Nat, y = (yn : Int) := ⟨y.toNat, by omega⟩
          subst ey
          have hR9 := k9.old _ _ hR8 (by simp [npR])
          have hD9 := k9.old _ _ hD8 (by simp [nDp])
          have hG9 := k9.old _ _ hG8 (by simp [nGp])
          have hwi : ws[i]? = some ws[i] := List.getElem?_eq_getElem hi
          have ewi : atI (ws.map V.str) (0 + (i : Int)) = some (.str ws[i]) := by rw [Int.zero_add]; exact atI_nat (by rw [List.getElem?_map, hwi]; rfl)
          refine ⟨_, rfl, tyL hG9, _, rfl, _, rfl, D, _, _, _, rfl, rfl, SqL.of hD9, ewi, ?_⟩
          refine ⟨_, rfl, _, rfl, _, rfl, R, _, rfl, SqL.of hR9, fun A1 hA1 => ?_⟩
          rw [cut_drop]
          have kC1 : Kp [] H9 (upd H9 A1 (.lst (vr.drop yn))) := Kp.new hA1
          refine ⟨_, rfl, _, rfl, _, rfl, R, _, rfl, SqL.of (kC1.old _ _ hR9 (by simp)), fun A2 hA2 => ?_⟩
          rw [cut_take]
          have kC2 : Kp [] H9 (upd (upd H9 A1 (.lst (vr.drop yn))) A2 (.lst (vr.take yn))) := kC1.new' hA2
          refine ⟨A1, A2, _, _, rfl, rfl, by rw [upd_ne (ne_of_none upd_same hA2)]; exact upd_same, upd_same, ?_, fun A3 hA3 => ?_⟩
          · rw [List.length_drop, List.length_take]
            exact Nat.le_of_lt (small1000 (by omega))
          have kC3 : Kp [] H9 (upd (upd (upd H9 A1 (.lst (vr.drop yn))) A2 (.lst (vr.take yn))) A3 (.lst (vr.drop yn ++ vr.take yn))) := kC2.new' hA3
          refine ⟨A3, _, rfl, .inl ⟨SqL.of upd_same, fun A4 hA4 => ?_⟩⟩
          have kC4 : Kp [] H9 (upd (upd (upd (upd H9 A1 (.lst (vr.drop yn))) A2 (.lst (vr.take yn))) A3 (.lst (vr.drop yn ++ vr.take yn))) A4 (.tup (vr.drop yn ++ vr.take yn))) := kC3.new' hA4
          have hA4' : upd (upd (upd (upd H9 A1 (.lst (vr.drop yn))) A2 (.lst (vr.take yn))) A3 (.lst (vr.drop yn ++ vr.take yn))) A4 (.tup (vr.drop yn ++ vr.take yn)) A4 = some (.tup (vr.drop yn ++ vr.take yn)) := upd_same
          generalize upd (upd (upd (upd H9 A1 (.lst (vr.drop yn))) A2 (.lst (vr.take yn))) A3 (.lst (vr.drop yn ++ vr.take yn))) A4 (.tup (vr.drop yn ++ vr.take yn)) = HA at kC4 hA4'
          refine ⟨(by show 2 ≤ sizeLine; decide), fun A5 hA5 => ?_⟩
          have kC5 : Kp [] HA (upd HA A5 (.tup [.str ws[i], .ref A4])) := Kp.new hA5
          have k9B := kC4.trans kC5
          have hGB := k9B.old _ _ hG9 (by simp)
          have kl : ks.length = i := by
            have := congrArg List.length gk.ns
            rw [kindNames, List.length_map, List.length_take] at this
            omega
          have vkl := plen pk
          refine ⟨G, vs, _, rfl, rfl, hGB, small1000 (by omega), ?_⟩
          have kW : Kp [G] (upd HA A5 (.tup [.str ws[i], .ref A4])) (upd (upd HA A5 (.tup [.str ws[i], .ref A4])) G (.lst (vs ++ [.ref A5]))) := Kp.wr hGB (by simp)
          have rp := rot_perm rs yn
          refine ⟨_, _, _, _, _, _, _, _, _, _, _, _, vs ++ [.ref A5], ks ++ [(ws[i], rs.drop yn ++ rs.take yn)], b7, rfl, ((k8.trans (k9.mono (by simp))).trans (k9B.mono (by simp))).own hGH, upd_same,
            pair_app (pmap (fun _ _ z => ((z.kp k9).kp k9B).kp kW) pk8) (.cons ⟨A5, .ref A4, rfl, kW.sqt (.inl (.inl upd_same)), A4, vr.drop yn ++ vr.take yn, rfl, kW.sqt (kC5.sqt (.inl (.inl hA4'))), ?_⟩ .nil), ?_, by omega, by omega, ((hp9.kp k9B (by simp)).kp kW (by simp [npG])).more (by omega),
            kW.old _ _ (k9B.old _ _ (k9.old _ _ hq8 (by simp [npq])) (by simp)) (by simp [nqG]), kW.old _ _ (k9B.old _ _ hD9 (by simp)) (by simp [nDG])⟩
          · exact pmap (fun _ _ z => ((z.kp k9).kp k9B).kp kW) (pair_app (pair_drop pr8 yn) (pair_take pr8 yn))
          · refine gk.snoc hwi ?_ ?_ (fun s hs => (rok s (rp.mem_iff.mpr hs)).1) (fun s hs => (rok s (rp.mem_iff.mpr hs)).2) ⟨r, rp.mem_iff.mp rm, fun y hy => ?_⟩ (frr.perm (rp.map _)) b3' b71 (by omega)
            · have := rp.length_eq; omega
            · have := rp.length_eq; omega
            · rcases List.mem_append.mp (rP y hy) with z | z
              · exact .inr z
              · simp at z; exact .inl z
      · rintro σ H4 ⟨v4, v5, v6, v7, v8, v9, v10, v11, v13, v14, v15, v16, vs, ks, b', rfl, k4, hG4, pk, gk, b3', b3i, hp4, hq4, hD4⟩
        have vkl := plen pk
        have kl : ks.length = ws.length := by
          have := congrArg List.length gk.ns
          rw [kindNames, List.length_map, List.length_take] at this
          omega
        refine ⟨_, rfl, _, rfl, G, _, rfl, .inl (SqL.of hG4), p, (vs.length : Int), n + 600, rfl, hp4.more (by omega), by omega, by omega, by omega, fun y H9 y0 y1 hp9 k9 => ?_⟩
        obtain ⟨yn, ey⟩ : ∃ yn : Nat, y = (yn : Int) := ⟨y.toNat, by omega⟩
        subst ey
        have hG9 := k9.old _ _ hG4 (by simp [Ne.symm npG])
        refine ⟨_, rfl, _, rfl, _, rfl, G, _, rfl, SqL.of hG9, fun A1 hA1 => ?_⟩
        rw [cut_drop]
        have kC1 : Kp [] H9 (upd H9 A1 (.lst (vs.drop yn))) := Kp.new hA1
        refine ⟨_, rfl, _, rfl, _, rfl, G, _, rfl, SqL.of (kC1.old _ _ hG9 (by simp)), fun A2 hA2 => ?_⟩
        rw [cut_take]
        have kC2 : Kp [] H9 (upd (upd H9 A1 (.lst (vs.drop yn))) A2 (.lst (vs.take yn))) := kC1.new' hA2
        refine ⟨A1, A2, _, _, rfl, rfl, by rw [upd_ne (ne_of_none upd_same hA2)]; exact upd_same, upd_same, ?_, fun A3 hA3 => ?_⟩
        · rw [List.length_drop, List.length_take]
          exact Nat.le_of_lt (small1000 (by omega))
        have kC3 : Kp [] H9 (upd (upd (upd H9 A1 (.lst (vs.drop yn))) A2 (.lst (vs.take yn))) A3 (.lst (vs.drop yn ++ vs.take yn))) := kC2.new' hA3
        refine ⟨A3, _, rfl, SqL.of upd_same, fun A4 o hA4 ho => ?_⟩
        have kC4 : Kp [] H9 (upd (upd (upd (upd H9 A1 (.lst (vs.drop yn))) A2 (.lst (vs.take yn))) A3 (.lst (vs.drop yn ++ vs.take yn))) A4 (.frz o (.tup (vs.drop yn ++ vs.take yn)))) := kC3.new' hA4
        have pk9 := pmap (fun _ _ (z : KindT K H4 _ _) => (z.kp k9).kp kC4) pk
        refine k _ (ks.drop yn ++ ks.take yn) _ ⟨A4, _, rfl, ⟨o, upd_same, ho⟩, pair_app (pair_drop pk9 yn) (pair_take pk9 yn)⟩ ((gk.good w1 w5 fr b03 b3' (by omega)).perm (rot_perm ks yn)) ((hp9.kp kC4 (by simp)).more (by omega)) ((k4.trans (k9.mono (by simp))).trans (kC4.mono (by simp))) ⟨b', kC4.old _ _ (k9.old _ _ hq4 (by simp [npq])) (by simp), by omega⟩
end

end Md

namespace Md
open PySem PySem.Spec PyProof.Rows L2

/-! ### sizes of trees -/
/-- trees of these kinds, one behind another, of this size together -/
inductive Fs (ks : Kds) : List Str → Nat → Prop
  | nil : Fs ks [] 0
  | mark {ps : List Str} {n : Nat} : Fs ks ps n → Fs ks ("mark" :: ps) (1 + n)
  | made {d : Kd} {r : Rw} {ps : List Str} {m n : Nat} : d ∈ ks → r ∈ d.2 → Fs ks r.2 m → Fs ks ps n → Fs ks (d.1 :: ps) (1 + m + n)
theorem Fs.inv {ks : Kds} {p : Str} {ps : List Str} {n : Nat} (h : Fs ks (p :: ps) n) : ∃ a b, n = a + b ∧ 1 ≤ a ∧ Fs ks [p] a ∧ Fs ks ps b := by
  cases h with
  | mark h => exact ⟨1, _, rfl, Nat.le_refl _, .mark .nil, h⟩
  | made h1 h2 h3 h4 => exact ⟨_, _, rfl, by omega, .made h1 h2 h3 .nil, h4⟩
theorem Fs.join {ks : Kds} {p : Str} {ps : List Str} {a b : Nat} (h : Fs ks [p] a) (g : Fs ks ps b) : Fs ks (p :: ps) (a + b) := by
  cases h with
  | mark h => cases h; exact Fs.mark g
  | made h1 h2 h3 h4 => cases h4; exact Fs.made h1 h2 h3 g
theorem least_of {P : Nat → Prop} : (∃ n, P n) → ∃ m, P m ∧ ∀ n, P n → m ≤ n := by
  rintro ⟨n, h⟩
  induction n using Nat.strongRecOn with
  | ind n ih =>
    by_cases c : ∃ m, m < n ∧ P m
    · obtain ⟨m, hm, pm⟩ := c
      exact ih m hm pm
    · exact ⟨n, h, fun m pm => Nat.le_of_not_lt fun z => c ⟨m, z, pm⟩⟩
open Classical in
/-- the size of the least tree -/
noncomputable def leastT (ks : Kds) (p : Str) : Nat := if h : ∃ n, Fs ks [p] n then Classical.choose (least_of h) else 0
theorem leastT_is {ks : Kds} {p : Str} (h : ∃ n, Fs ks [p] n) : Fs ks [p] (leastT ks p) := by
  unfold leastT
  rw [dif_pos h]
  exact (Classical.choose_spec (least_of h)).1
theorem leastT_le {ks : Kds} {p : Str} {n : Nat} (h : Fs ks [p] n) : leastT ks p ≤ n := by
  unfold leastT
  rw [dif_pos ⟨n, h⟩]
  exact (Classical.choose_spec (least_of ⟨n, h⟩)).2 n h
noncomputable def leastAll (ks : Kds) (ps : List Str) : Nat := (ps.map (leastT ks)).sum
theorem Fs.all {ks : Kds} {ps : List Str} : ∀ {n : Nat}, Fs ks ps n → leastAll ks ps ≤ n ∧ ∀ p ∈ ps, ∃ m, Fs ks [p] m := by
  induction ps with
  | nil => intro n _; exact ⟨Nat.zero_le _, fun _ h => (nomatch h)⟩
  | cons p r ih =>
    intro n h
    obtain ⟨a, b, e, _, h1, h2⟩ := h.inv
    obtain ⟨i1, i2⟩ := ih h2
    have := leastT_le h1
    refine ⟨?_, fun q hq => ?_⟩
    · show leastT ks p + leastAll ks r ≤ n
      omega
    · rcases List.mem_cons.mp hq with z | z
      · subst z; exact ⟨_, h1⟩
      · exact i2 q z
theorem Fs.of_all {ks : Kds} : ∀ {ps : List Str}, (∀ p ∈ ps, ∃ m, Fs ks [p] m) → Fs ks ps (leastAll ks ps)
  | [], _ => .nil
  | p :: r, h => (leastT_is (h p List.mem_cons_self)).join (Fs.of_all fun q hq => h q (List.mem_cons_of_mem _ hq))
theorem leastT_part {ks : Kds} {ps : List Str} {p : Str} (h : p ∈ ps) : leastT ks p ≤ leastAll ks ps := by
  induction ps with
  | nil => cases h
  | cons q r ih =>
    show _ ≤ leastT ks q + leastAll ks r
    rcases List.mem_cons.mp h with z | z
    · subst z; omega
    · have := ih z; omega
theorem GoodK.mark_no {ks : Kds} (g : GoodK ks) {d : Kd} (hd : d ∈ ks) : d.1 ≠ "mark" := fun z => by
  have := g.kn d hd
  rw [z] at this
  exact absurd this (by decide +kernel)
theorem GoodK.nomark2 {ks : Kds} (g : GoodK ks) : ("mark" : Str) ∉ kindNames ks := fun h => by
  obtain ⟨d, hd, e⟩ := List.mem_map.mp h
  exact g.mark_no hd e
theorem leastT_mark {ks : Kds} (g : GoodK ks) : leastT ks "mark" = 1 := by
  have h1 : Fs ks ["mark"] (1 + 0) := .mark .nil
  have h2 := leastT_le h1
  obtain ⟨a, b, e, h3, _, _⟩ := (leastT_is ⟨_, h1⟩).inv
  omega
/-- each kind has a tree -/
theorem GoodK.tree {ks : Kds} (g : GoodK ks) : ∀ p : Str, p = "mark" ∨ p ∈ kindNames ks → ∃ n, Fs ks [p] n := by
  obtain ⟨rank, hr⟩ := g.rk
  have main : ∀ n, ∀ d ∈ ks, rank d.1 < n → ∃ m, Fs ks [d.1] m := by
    intro n
    induction n with
    | zero => intro d _ h; omega
    | succ n ih =>
      intro d hd h
      obtain ⟨_, r, hr1, hp⟩ := hr d hd
      refine ⟨_, .made hd hr1 (Fs.of_all fun p hp' => ?_) .nil⟩
      rcases hp p hp' with z | ⟨z1, z2⟩
      · subst z; exact ⟨_, .mark .nil⟩
      · obtain ⟨e, he, rfl⟩ := List.mem_map.mp z1
        exact ih e he (by omega)
  intro p hp
  rcases hp with z | z
  · subst z; exact ⟨_, .mark .nil⟩
  · obtain ⟨d, hd, rfl⟩ := List.mem_map.mp z
    exact main _ d hd (Nat.lt_succ_self _)
theorem GoodK.parts_tree {ks : Kds} (g : GoodK ks) {d : Kd} (hd : d ∈ ks) {r : Rw} (hr : r ∈ d.2) : ∀ p ∈ r.2, ∃ n, Fs ks [p] n := fun p hp => g.tree p (g.ps d hd r hr p hp)
theorem GoodK.row_le {ks : Kds} (g : GoodK ks) {d : Kd} (hd : d ∈ ks) {r : Rw} (hr : r ∈ d.2) : leastT ks d.1 ≤ 1 + leastAll ks r.2 := by
  have h := leastT_le (Fs.made hd hr (Fs.of_all (g.parts_tree hd hr)) .nil)
  omega
theorem kd_unique {ks : Kds} (nd : (kindNames ks).Nodup) {d e : Kd} (hd : d ∈ ks) (he : e ∈ ks) (h : d.1 = e.1) : d = e := by
  induction ks with
  | nil => cases hd
  | cons c r ih =>
    rw [kindNames, List.map_cons, List.nodup_cons] at nd
    rcases List.mem_cons.mp hd with z | z <;> rcases List.mem_cons.mp he with y | y
    · rw [z, y]
    · subst z; exact absurd (List.mem_map.mpr ⟨e, y, h.symm⟩) nd.1
    · subst y; exact absurd (List.mem_map.mpr ⟨d, z, h⟩) nd.1
    · exact ih nd.2 z y
theorem GoodK.ndk' {ks : Kds} (g : GoodK ks) : (kindNames ks).Nodup := by
  have h := g.nd
  rw [allNames, List.nodup_append] at h
  exact h.1
/-- a maker of the least tree -/
theorem GoodK.best {ks : Kds} (g : GoodK ks) {d : Kd} (hd : d ∈ ks) : ∃ r ∈ d.2, leastT ks d.1 = 1 + leastAll ks r.2 := by
  have ht := leastT_is (g.tree d.1 (.inr (List.mem_map.mpr ⟨d, hd, rfl⟩)))
  generalize hn : leastT ks d.1 = n at ht
  generalize hx : [d.1] = xs at ht
  cases ht with
  | nil => cases hx
  | mark h =>
    injection hx with hx1 _
    exact absurd hx1 (g.mark_no hd)
  | @made e r ps m n' h1 h2 h3 h4 =>
    injection hx with hx1 hx2
    subst hx2
    have de := kd_unique g.ndk' hd h1 hx1
    subst de
    cases h4
    refine ⟨r, h2, ?_⟩
    have a := h3.all.1
    have b := g.row_le hd h2
    omega
/-- how many kinds have lesser trees -/
noncomputable def rankT (ks : Kds) (x : Str) : Nat := ((kindNames ks).filter fun y => decide (leastT ks y < leastT ks x)).length
theorem filter_len_le {α : Type} {p q : α → Bool} : ∀ {l : List α}, (∀ x ∈ l, p x = true → q x = true) → (l.filter p).length ≤ (l.filter q).length
  | [], _ => Nat.le_refl _
  | c :: s, hh => by
    have i1 := filter_len_le (p := p) (q := q) (l := s) fun x hx => hh x (List.mem_cons_of_mem _ hx)
    rw [List.filter_cons, List.filter_cons]
    have hc := hh c List.mem_cons_self
    cases e1 : p c <;> cases e2 : q c <;> simp
    · exact i1
    · omega
    · rw [hc e1] at e2; cases e2
    · exact i1
theorem filter_len_lt {α : Type} {p q : α → Bool} {l : List α} (h : ∀ x ∈ l, p x = true → q x = true) {a : α} (ha : a ∈ l) (hp : p a = false) (hq : q a = true) : (l.filter p).length < (l.filter q).length := by
  induction l with
  | nil => cases ha
  | cons b r ih =>
    have mono : ∀ l' : List α, (∀ x ∈ l', p x = true → q x = true) → (l'.filter p).length ≤ (l'.filter q).length := by
      intro l'
      induction l' with
      | nil => intro _; exact Nat.le_refl _
      | cons c s ihs =>
        intro hh
        have i1 := ihs fun x hx => hh x (List.mem_cons_of_mem _ hx)
        rw [List.filter_cons, List.filter_cons]
        have hc := hh c List.mem_cons_self
        cases e1 : p c <;> cases e2 : q c <;> simp
        · exact i1
        · omega
        · rw [hc e1] at e2; cases e2
        · exact i1
    have i0 := mono r fun x hx => h x (List.mem_cons_of_mem _ hx)
    rw [List.filter_cons, List.filter_cons]
    rcases List.mem_cons.mp ha with z | z
    · subst z
      rw [hp, hq]
      simp
      omega
    · have i2 := ih (fun x hx => h x (List.mem_cons_of_mem _ hx)) z
      have hb := h b List.mem_cons_self
      cases e1 : p b <;> cases e2 : q b <;> simp
      · exact i2
      · omega
      · rw [hb e1] at e2; cases e2
      · exact i2
theorem rankT_lt {ks : Kds} {x y : Str} (hy : y ∈ kindNames ks) (h : leastT ks y < leastT ks x) : rankT ks y < rankT ks x :=
  filter_len_lt (fun z _ hz => by have := of_decide_eq_true hz; exact decide_eq_true (by omega)) hy (decide_eq_false (by omega)) (decide_eq_true h)
theorem rankT_le {ks : Kds} {x : Str} (hx : x ∈ kindNames ks) : rankT ks x < ks.length := by
  have h := filter_len_lt (p := fun y => decide (leastT ks y < leastT ks x)) (q := fun _ => true) (l := kindNames ks) (fun _ _ _ => rfl) hx (decide_eq_false (by omega)) rfl
  rw [List.filter_eq_self.mpr (fun _ _ => rfl), kindNames, List.length_map] at h
  exact h
/-- how great it may be -/
theorem leastT_bound {ks : Kds} (g : GoodK ks) : ∀ n, ∀ d ∈ ks, rankT ks d.1 < n → leastT ks d.1 ≤ 4 ^ n := by
  intro n
  induction n with
  | zero => intro d _ h; omega
  | succ n ih =>
    intro d hd h
    obtain ⟨r, hr, e⟩ := g.best hd
    have one : ∀ p ∈ r.2, leastT ks p ≤ 4 ^ n := fun p hp => by
      rcases g.ps d hd r hr p hp with z | z
      · subst z; rw [leastT_mark g]; exact Nat.one_le_pow _ _ (by decide)
      · obtain ⟨c, hc, rfl⟩ := List.mem_map.mp z
        have l := leastT_part (ks := ks) hp
        have := rankT_lt z (x := d.1) (by omega)
        exact ih c hc (by omega)
    have all : ∀ l : List Str, (∀ p ∈ l, leastT ks p ≤ 4 ^ n) → leastAll ks l ≤ l.length * 4 ^ n := by
      intro l
      induction l with
      | nil => intro _; exact Nat.zero_le _
      | cons p s ihs =>
        intro hh
        have a := ihs fun q hq => hh q (List.mem_cons_of_mem _ hq)
        have b := hh p List.mem_cons_self
        show leastT ks p + leastAll ks s ≤ (s.length + 1) * 4 ^ n
        rw [Nat.add_mul, Nat.one_mul]
        omega
    have a := all r.2 one
    have b := g.p3 d hd r hr
    have c : r.2.length * 4 ^ n ≤ 3 * 4 ^ n := Nat.mul_le_mul_right _ b
    have p1 : 1 ≤ 4 ^ n := Nat.one_le_pow _ _ (by decide)
    rw [Nat.pow_succ]
    omega
theorem leastT_small {ks : Kds} (g : GoodK ks) {x : Str} (hx : x = "mark" ∨ x ∈ kindNames ks) : leastT ks x ≤ 1024 := by
  rcases hx with z | z
  · subst z; rw [leastT_mark g]; decide
  · obtain ⟨d, hd, rfl⟩ := List.mem_map.mp z
    have h := leastT_bound g 5 d hd (by have := rankT_le z; have := g.l5; omega)
    exact h
/-! ### the rounds find them -/
structure Snd (ks : Kds) (n : Nat) (S : Szs) : Prop where
  mk_ : lookS S "mark" = some 1
  snd : ∀ x v, lookS S x = some v → ∃ m : Nat, v = (m : Int) ∧ Fs ks [x] m
  at_ : ∀ d ∈ ks, rankT ks d.1 < n → lookS S d.1 = some (leastT ks d.1 : Int)
theorem sizeMade_of {ks : Kds} {S : Szs} (snd : ∀ x v, lookS S x = some v → ∃ m : Nat, v = (m : Int) ∧ Fs ks [x] m) : ∀ {ps : List Str}, (ps.all (fun p => (lookS S p).isSome) = true) → ∃ m : Nat, (ps.map fun p => (lookS S p).getD 0).sum = (m : Int) ∧ Fs ks ps m
  | [], _ => ⟨0, rfl, .nil⟩
  | p :: r, h => by
    rw [List.all_cons, Bool.and_eq_true] at h
    obtain ⟨m, e, f⟩ := sizeMade_of snd h.2
    cases q : lookS S p with
    | none => rw [q] at h; exact absurd h.1 (by decide)
    | some v =>
      obtain ⟨a, rfl, fa⟩ := snd p v q
      refine ⟨a + m, ?_, fa.join f⟩
      rw [List.map_cons, List.sum_cons, e, q]
      simp
theorem sizeMade_best {ks : Kds} {S : Szs} : ∀ {ps : List Str}, (∀ p ∈ ps, lookS S p = some (leastT ks p : Int)) → (ps.map fun p => (lookS S p).getD 0).sum = (leastAll ks ps : Int)
  | [], _ => rfl
  | p :: r, h => by
    rw [List.map_cons, List.sum_cons, sizeMade_best (fun q hq => h q (List.mem_cons_of_mem _ hq)), h p List.mem_cons_self]
    show (leastT ks p : Int) + _ = ((leastT ks p + leastAll ks r : Nat) : Int)
    omega
theorem minL_in : ∀ {l : List Int}, l ≠ [] → minL l ∈ l ∧ ∀ y ∈ l, minL l ≤ y
  | [], h => absurd rfl h
  | [a], _ => ⟨by simp [minL], fun y hy => by simp at hy; subst hy; exact Int.le_refl _⟩
  | a :: b :: r, _ => by
    obtain ⟨h1, h2⟩ := minL_in (l := b :: r) (by simp)
    rw [minL]
    refine ⟨?_, fun y hy => ?_⟩
    · rcases Int.le_total a (minL (b :: r)) with h | h
      · rw [Int.min_eq_left h]; exact List.mem_cons_self
      · rw [Int.min_eq_right h]; exact List.mem_cons_of_mem _ h1
    · rcases List.mem_cons.mp hy with e | e
      · subst e; exact Int.min_le_left _ _
      · exact Int.le_trans (Int.min_le_right _ _) (h2 y e)
theorem Snd.step {ks : Kds} (g : GoodK ks) {n : Nat} {S : Szs} (s : Snd ks n S) {d : Kd} (hd : d ∈ ks) : Snd ks n (stepK S d) ∧ (rankT ks d.1 < n + 1 → lookS (stepK S d) d.1 = some (leastT ks d.1 : Int)) ∧ ∀ e ∈ ks, lookS S e.1 = some (leastT ks e.1 : Int) → rankT ks e.1 < n + 1 → lookS (stepK S d) e.1 = some (leastT ks e.1 : Int) := by
  -- what is found are sizes of trees
  have fnd : ∀ v ∈ foundS S d.2, ∃ m : Nat, v = (m : Int) ∧ Fs ks [d.1] m := fun v hv => by
    obtain ⟨r, hr, e⟩ := List.mem_filterMap.mp hv
    split at e
    · rename_i c
      obtain ⟨m, em, fm⟩ := sizeMade_of s.snd c
      cases e
      refine ⟨1 + m, ?_, by have := Fs.made hd hr fm .nil; exact this⟩
      rw [sizeMade, em]
      omega
    · cases e
  -- the best one is among them
  have bst : rankT ks d.1 < n + 1 → (leastT ks d.1 : Int) ∈ foundS S d.2 := fun hn => by
    obtain ⟨r, hr, e⟩ := g.best hd
    have lk : ∀ p ∈ r.2, lookS S p = some (leastT ks p : Int) := fun p hp => by
      rcases g.ps d hd r hr p hp with z | z
      · subst z; rw [leastT_mark g]; exact s.mk_
      · obtain ⟨c, hc, rfl⟩ := List.mem_map.mp z
        have l := leastT_part (ks := ks) hp
        have := rankT_lt z (x := d.1) (by omega)
        exact s.at_ c hc (by omega)
    refine List.mem_filterMap.mpr ⟨r, hr, ?_⟩
    rw [if_pos (List.all_eq_true.mpr fun p hp => by rw [lk p hp]; rfl), sizeMade, sizeMade_best lk, e]
    congr 1
  have val : rankT ks d.1 < n + 1 → lookS (stepK S d) d.1 = some (leastT ks d.1 : Int) := fun hn => by
    have b := bst hn
    have ne : foundS S d.2 ≠ [] := fun z => by rw [z] at b; cases b
    unfold stepK
    rw [if_neg ne, lookS_put, if_pos rfl]
    obtain ⟨m1, m2⟩ := minL_in ne
    obtain ⟨m, em, fm⟩ := fnd _ m1
    have := m2 _ b
    have := leastT_le fm
    congr 1
    omega
  have other : ∀ x, x ≠ d.1 → lookS (stepK S d) x = lookS S x := fun x hx => by
    unfold stepK
    split
    · rfl
    · rw [lookS_put, if_neg hx]
  refine ⟨⟨?_, fun x v hv => ?_, fun e he hn => ?_⟩, val, fun e he h1 h2 => ?_⟩
  · rw [other _ (Ne.symm (g.mark_no hd))]; exact s.mk_
  · by_cases c : x = d.1
    · subst c
      unfold stepK at hv
      split at hv
      · exact s.snd _ _ hv
      · rename_i ne
        rw [lookS_put, if_pos rfl] at hv
        cases hv
        exact fnd _ (minL_in ne).1
    · rw [other x c] at hv
      exact s.snd x v hv
  · by_cases c : e.1 = d.1
    · rw [c]; rw [c] at hn; exact val (by omega)
    · rw [other _ c]; exact s.at_ e he hn
  · by_cases c : e.1 = d.1
    · rw [c]; rw [c] at h2; exact val h2
    · rw [other _ c]; exact h1
theorem Snd.round {ks : Kds} (g : GoodK ks) {n : Nat} {S : Szs} (s : Snd ks n S) : Snd ks (n + 1) (roundK ks S) := by
  have main : ∀ (ls : Kds) (S : Szs), (∀ d ∈ ls, d ∈ ks) → Snd ks n S → Snd ks n (roundK ls S) ∧ (∀ e ∈ ks, lookS S e.1 = some (leastT ks e.1 : Int) → rankT ks e.1 < n + 1 → lookS (roundK ls S) e.1 = some (leastT ks e.1 : Int)) ∧
      ∀ d ∈ ls, rankT ks d.1 < n + 1 → lookS (roundK ls S) d.1 = some (leastT ks d.1 : Int) := by
    intro ls
    induction ls with
    | nil => intro S _ s; exact ⟨s, fun _ _ h _ => h, fun _ h => (nomatch h)⟩
    | cons d r ih =>
      intro S hs s
      obtain ⟨s1, s2, s3⟩ := s.step g (hs d List.mem_cons_self)
      obtain ⟨i1, i2, i3⟩ := ih (stepK S d) (fun e he => hs e (List.mem_cons_of_mem _ he)) s1
      refine ⟨i1, fun e he h1 h2 => i2 e he (s3 e he h1 h2) h2, fun e he hn => ?_⟩
      rcases List.mem_cons.mp he with z | z
      · subst z; exact i2 e (hs e List.mem_cons_self) (s2 hn) hn
      · exact i3 e z hn
  obtain ⟨m1, _, m3⟩ := main ks S (fun _ h => h) s
  exact ⟨m1.mk_, m1.snd, fun d hd hn => m3 d hd hn⟩
theorem snd0 {ks : Kds} : Snd ks 0 sizes0 := by
  refine ⟨by decide +kernel, fun x v h => ?_, fun d _ h => by omega⟩
  unfold lookS sizes0 at h
  rw [List.lookup_cons] at h
  split at h
  · rename_i e
    have : x = "mark" := by simpa using e
    subst this
    cases h
    exact ⟨1, rfl, .mark .nil⟩
  · cases h
theorem sizesN_snd {ks : Kds} (g : GoodK ks) : ∀ n, Snd ks n (sizesN ks n)
  | 0 => snd0
  | n + 1 => (sizesN_snd g n).round g
theorem sizes_are {ks : Kds} (g : GoodK ks) {n : Nat} (hn : ks.length ≤ n) {x : Str} (hx : x = "mark" ∨ x ∈ kindNames ks) : lookS (sizesN ks n) x = some (leastT ks x : Int) := by
  have s := sizesN_snd g n
  rcases hx with z | z
  · subst z; rw [leastT_mark g]; exact s.mk_
  · obtain ⟨d, hd, rfl⟩ := List.mem_map.mp z
    exact s.at_ d hd (by have := rankT_le z; omega)
end Md

set_option maxHeartbeats 4000000
namespace Md
open PySem PySem.Spec PyProof.Rows L2

/-! ### things of any kind: also the empty dict; A: what their lists and dicts are none of -/
mutual
inductive Dx (A : List Addr) (K : PySem.W.Frag) (H : Hp) : V → PyData → Prop
  | non : Dx A K H .non .none
  | bl (b : Bool) : Dx A K H (.bl b) (.bool b)
  | int (i : Int) : Dx A K H (.int i) (.int i)
  | str (x : Str) : Dx A K H (.str x) (.str x)
  | lst {a : Addr} {xs : List V} {ds : List PyData} : H a = some (.lst xs) → a ∉ A → DxAll A K H xs ds → Dx A K H (.ref a) (.list ds)
  | tup {a : Addr} {xs : List V} {ds : List PyData} : SqT K H a xs → DxAll A K H xs ds → Dx A K H (.ref a) (.tuple ds)
  | dct {a : Addr} : H a = some (.dK []) → a ∉ A → Dx A K H (.ref a) (.dict [])
inductive DxAll (A : List Addr) (K : PySem.W.Frag) (H : Hp) : List V → List PyData → Prop
  | nil : DxAll A K H [] []
  | cons {v : V} {vs : List V} {d : PyData} {ds : List PyData} : Dx A K H v d → DxAll A K H vs ds → DxAll A K H (v :: vs) (d :: ds)
end
section
variable {A S : List Addr} {K : PySem.W.Frag} {H H' : Hp}
mutual
theorem Dx.kp (k : Kp S H H') (hs : ∀ b ∈ S, b ∈ A) : ∀ (d : PyData) (v : V), Dx A K H v d → Dx A K H' v d
  | .none, _, h => by cases h; exact .non
  | .bool b, _, h => by cases h; exact .bl b
  | .int i, _, h => by cases h; exact .int i
  | .str x, _, h => by cases h; exact .str x
  | .list ds, _, h => by
    cases h with
    | lst e n h => exact .lst (k.old _ _ e fun z => n (hs _ z)) n (DxAll.kp k hs ds _ h)
  | .tuple ds, _, h => by
    cases h with
    | tup e h => exact .tup (k.sqt e) (DxAll.kp k hs ds _ h)
  | .dict _, _, h => by
    cases h with
    | dct e n => exact .dct (k.old _ _ e fun z => n (hs _ z)) n
theorem DxAll.kp (k : Kp S H H') (hs : ∀ b ∈ S, b ∈ A) : ∀ (ds : List PyData) (vs : List V), DxAll A K H vs ds → DxAll A K H' vs ds
  | [], _, h => by cases h; exact .nil
  | d :: ds, _, h => by
    cases h with
    | cons a b => exact .cons (Dx.kp k hs d _ a) (DxAll.kp k hs ds _ b)
end
theorem Dx.k {d : PyData} {v : V} (h : Dx A K H v d) (k : Kp S H H') (hs : ∀ b ∈ S, b ∈ A) : Dx A K H' v d := Dx.kp k hs d v h
theorem DxAll.k {ds : List PyData} {vs : List V} (h : DxAll A K H vs ds) (k : Kp S H H') (hs : ∀ b ∈ S, b ∈ A) : DxAll A K H' vs ds := DxAll.kp k hs ds vs h
theorem Dx.k0 {d : PyData} {v : V} (h : Dx A K H v d) (k : Kp [] H H') : Dx A K H' v d := h.k k (by simp)
theorem DxAll.k0 {ds : List PyData} {vs : List V} (h : DxAll A K H vs ds) (k : Kp [] H H') : DxAll A K H' vs ds := h.k k (by simp)
theorem DxAll.len : ∀ {vs : List V} {ds : List PyData}, DxAll A K H vs ds → vs.length = ds.length
  | _, _, .nil => rfl
  | _, _, .cons _ t => by rw [List.length_cons, List.length_cons, DxAll.len t]
theorem DxAll.get : ∀ {vs : List V} {ds : List PyData}, DxAll A K H vs ds → ∀ {i : Nat} {v : V}, vs[i]? = some v → ∃ d, ds[i]? = some d ∧ Dx A K H v d
  | _, _, .nil, _, _, e => by simp at e
  | _, _, .cons r t, 0, v, e => by simp at e; subst e; exact ⟨_, rfl, r⟩
  | _, _, .cons r t, i + 1, v, e => by
    obtain ⟨d, h1, h2⟩ := DxAll.get t (i := i) (v := v) (by simpa using e)
    exact ⟨d, by simpa using h1, h2⟩
theorem DxAll.getD : ∀ {vs : List V} {ds : List PyData}, DxAll A K H vs ds → ∀ {i : Nat} {d : PyData}, ds[i]? = some d → ∃ v, vs[i]? = some v ∧ Dx A K H v d
  | _, _, .nil, _, _, e => by simp at e
  | _, _, .cons r t, 0, v, e => by simp at e; subst e; exact ⟨_, rfl, r⟩
  | _, _, .cons r t, i + 1, v, e => by
    obtain ⟨d, h1, h2⟩ := DxAll.getD t (i := i) (d := v) (by simpa using e)
    exact ⟨d, by simpa using h1, h2⟩
theorem DxAll.append : ∀ {vs ws : List V} {ds es : List PyData}, DxAll A K H vs ds → DxAll A K H ws es → DxAll A K H (vs ++ ws) (ds ++ es)
  | _, _, _, _, .nil, h => h
  | _, _, _, _, .cons r t, h => .cons r (DxAll.append t h)
theorem DxAll.take : ∀ (n : Nat) {vs : List V} {ds : List PyData}, DxAll A K H vs ds → DxAll A K H (vs.take n) (ds.take n)
  | 0, _, _, _ => .nil
  | _ + 1, _, _, .nil => .nil
  | n + 1, _, _, .cons r t => .cons r (DxAll.take n t)
theorem DxAll.drop : ∀ (n : Nat) {vs : List V} {ds : List PyData}, DxAll A K H vs ds → DxAll A K H (vs.drop n) (ds.drop n)
  | 0, _, _, h => h
  | _ + 1, _, _, .nil => .nil
  | n + 1, _, _, .cons r t => DxAll.drop n t
theorem DxAll.reverse : ∀ {vs : List V} {ds : List PyData}, DxAll A K H vs ds → DxAll A K H vs.reverse ds.reverse
  | _, _, .nil => .nil
  | _, _, .cons r t => by rw [List.reverse_cons, List.reverse_cons]; exact DxAll.append (DxAll.reverse t) (.cons r .nil)
theorem DxAll.strs : ∀ (ws : List Str), DxAll A K H (ws.map V.str) (ws.map PyData.str)
  | [] => .nil
  | x :: r => .cons (.str x) (DxAll.strs r)
/-- what is no text is no text -/
theorem Dx.same {v : V} {d e : PyData} (h : Dx A K H v d) (g : Dx A K H v e) : (∀ x, d = .str x ↔ e = .str x) := by
  intro x
  constructor
  · intro z
    subst z
    cases h
    cases g
    rfl
  · intro z
    subst z
    cases g
    cases h
    rfl
/-- the type of such a thing -/
def tyOf : PyData → String
  | .none => "NoneType" | .bool _ => "bool" | .int _ => "int" | .str _ => "str" | .list _ => "list" | .tuple _ => "tuple" | .dict _ => "dict"
theorem Dx.ty {v : V} {d : PyData} (h : Dx A K H v d) : TyX K H v (.type (tyOf d)) := by
  cases h with
  | non => exact .base .non
  | bl b => exact .base (.bl b)
  | int i => exact .base (.int i)
  | str x => exact .base (.str x)
  | lst e _ _ => exact .base (.lst e)
  | tup e _ =>
    rcases e with (h | ⟨o, h⟩) | ⟨o, its, n, hk, hc, _⟩
    · exact .base (.tup h)
    · exact .fTuple h
    · exact .kTuple hk hc
  | dct e _ => exact .base (.dK e)
def isStrD : PyData → Bool
  | .str _ => true
  | _ => false
def isTupD : PyData → Bool
  | .tuple _ => true
  | _ => false
theorem kit_str (d : PyData) : PySem.W.kitOne K (.type (tyOf d)) (.type "str") = some (isStrD d) := by
  cases d with
  | none => exact kit_ty (a := "NoneType") (b := "str") (r := false) (by decide +kernel)
  | bool b => exact kit_ty (a := "bool") (b := "str") (r := false) (by decide +kernel)
  | int i => exact kit_ty (a := "int") (b := "str") (r := false) (by decide +kernel)
  | str x => exact kit_ty (a := "str") (b := "str") (r := true) (by decide +kernel)
  | list x => exact kit_ty (a := "list") (b := "str") (r := false) (by decide +kernel)
  | tuple x => exact kit_ty (a := "tuple") (b := "str") (r := false) (by decide +kernel)
  | dict x => exact kit_ty (a := "dict") (b := "str") (r := false) (by decide +kernel)
theorem kit_tup (d : PyData) : PySem.W.kitOne K (.type (tyOf d)) (.type "tuple") = some (isTupD d) := by
  cases d with
  | none => exact kit_ty (a := "NoneType") (b := "tuple") (r := false) (by decide +kernel)
  | bool b => exact kit_ty (a := "bool") (b := "tuple") (r := false) (by decide +kernel)
  | int i => exact kit_ty (a := "int") (b := "tuple") (r := false) (by decide +kernel)
  | str x => exact kit_ty (a := "str") (b := "tuple") (r := false) (by decide +kernel)
  | list x => exact kit_ty (a := "list") (b := "tuple") (r := false) (by decide +kernel)
  | tuple x => exact kit_ty (a := "tuple") (b := "tuple") (r := true) (by decide +kernel)
  | dict x => exact kit_ty (a := "dict") (b := "tuple") (r := false) (by decide +kernel)
end
section
variable {X : Cx} {pins : List (Addr × Obj)} {σ : L2.St} {H : Hp} {s : Shared} {A : List Addr}
mutual
theorem Dx.reads (I : Inv X pins σ H s) (hA : sysModules ∈ A) : ∀ (d : PyData) (v : V) (u : Value), Dx A X.K H v d → RelV v u → ∃ as, Reads s.heap u d as ∧ sysModules ∉ as
  | .none, _, _, h, r => by
    cases h
    cases r
    exact ⟨_, Reads.none, by simp⟩
  | .bool b, _, _, h, r => by
    cases h
    cases r
    exact ⟨_, Reads.bool b, by simp⟩
  | .int i, _, _, h, r => by
    cases h
    obtain ⟨t, rfl⟩ := r
    exact ⟨_, Reads.int i t, by simp⟩
  | .str x, _, _, h, r => by
    cases h
    obtain ⟨t, rfl⟩ := r
    exact ⟨_, Reads.str x t, by simp⟩
  | .list ds, _, _, h, r => by
    cases h with
    | lst hs hn ha =>
      cases r
      obtain ⟨its, rv, ⟨o, n, ho, hc, _, hd⟩, _⟩ := I.list (SqL.of hs)
      obtain ⟨as, hr, hn2⟩ := Dx.readsAll I hA ds _ its ha rv
      refine ⟨_, Reads.list ho hc hd hr, fun m => ?_⟩
      rcases List.mem_cons.mp m with z | z
      · exact hn (z ▸ hA)
      · exact hn2 z
  | .tuple ds, _, _, h, r => by
    cases h with
    | tup hs ha =>
      cases r
      obtain ⟨its, rv, ⟨o, ho, hc, n, hd⟩, _⟩ := I.tuple hs
      obtain ⟨as, hr, hn2⟩ := Dx.readsAll I hA ds _ its ha rv
      exact ⟨_, Reads.tuple ho hc hd hr, hn2⟩
  | .dict _, _, _, h, r => by
    cases h with
    | @dct a e hn =>
      cases r
      obtain ⟨_, hm, vs, kv, o, es, ep, h1, h2, h3, h4⟩ := dk_of I.hok e
      cases kv
      have he : es.toList = [] := by
        have z := h4.2.1
        generalize es.toList = l at z
        cases z
        rfl
      refine ⟨_, Reads.dict (kvs := []) h1 h2.1 h3 (by rw [he]; exact .nil) (by rw [he]; exact .nil), fun m => ?_⟩
      rcases List.mem_cons.mp m with z | z
      · subst z
        exact absurd hm (by simp)
      · cases z
theorem Dx.readsAll (I : Inv X pins σ H s) (hA : sysModules ∈ A) : ∀ (ds : List PyData) (vs : List V) (us : List Value), DxAll A X.K H vs ds → Vals vs us → ∃ as, ReadsAll s.heap us ds as ∧ sysModules ∉ as
  | [], _, _, h, r => by
    cases h
    cases r
    exact ⟨_, ReadsAll.nil, by simp⟩
  | d :: ds, _, _, h, r => by
    cases h with
    | cons h1 h2 =>
      cases r with
      | cons r1 r2 =>
        obtain ⟨as, q1, n1⟩ := Dx.reads I hA d _ _ h1 r1
        obtain ⟨bs, q2, n2⟩ := Dx.readsAll I hA ds _ _ h2 r2
        exact ⟨_, ReadsAll.cons q1 q2, fun m => (List.mem_append.mp m).elim n1 n2⟩
end
end

/-! ### new things, of which also this is told: they are not the system's modules -/
section
variable {X : Cx}
def tLstN (t : TA) : TE := fun σ H Q => t σ H fun xs H1 => xs.length ≤ sizeLine ∧ ∀ p, H1 p = none → p ≠ sysModules → Q (.ref p) (upd H1 p (.lst xs))
theorem pe_lstN {es : List Expr} {t : TA} {pos : Pos} (h : PA X es t) : PE X (.List es pos) (tLstN t) := by
  refine ⟨fun pins s σ H Q I hq => ?_⟩
  refine wpAny_List_spliced (thn (h.run pos pins s σ H _ I hq) fun us s1 ⟨xs, H1, I1, r, z, q⟩ => ⟨by rw [← r.length]; exact z, ?_⟩)
  have hf : H1 s1.heap.objs.size = none := I1.hok.fresh (Nat.le_refl _)
  refine ⟨.ref s1.heap.objs.size, upd H1 s1.heap.objs.size (.lst xs), I1.laid (t' := s1.toks) (fun b u e => Heap.get?_push_of_some _ e) (Nat.le_refl _) ?_, rfl, q _ hf (Nat.ne_of_gt I1.big)⟩
  exact ⟨z, us, 0, r, Heap.get?_push_size _ rfl⟩
theorem pe_dnewN {pos : Pos} : PE X (.Dict [] [] pos) (fun _ H Q => ∀ p, H p = none → p ≠ sysModules → Q (.ref p) (upd H p (.dK []))) := ⟨fun pins s σ H Q I h =>
  wpAny_Dict_empty ⟨.ref s.heap.objs.size, _, I.laid (a := s.heap.objs.size) (o := .dK []) (t' := s.toks) (fun _ _ q => Heap.get?_push_of_some _ q) (Nat.le_refl _) (dk_empty s.heap I.big), rfl, h _ (I.hok.fresh (Nat.le_refl _)) (Nat.ne_of_gt I.big)⟩⟩
theorem call_list_ofN : CallR X (.type "list") (fun xs H Q => ∃ p ys, xs = [.ref p] ∧ SqT X.K H p ys ∧ ∀ l, H l = none → l ≠ sysModules → Q (.ref l) (upd H l (.lst ys))) := by
  intro pins s σ H xs us Q I r h
  obtain ⟨p, ys, rfl, hq, q⟩ := h
  obtain ⟨u, rfl, rx⟩ := vals1 r
  cases rx
  have fin : ∀ (its : List Value), Vals ys its → ys.length ≤ sizeLine → ∀ (h' : Heap) (c' : Nat), (∀ b o', s.heap.get? b = some o' → h'.get? b = some o') →
      h'.get? s.heap.objs.size = some { cls := .type "list", dict := none, data := .seq its.toArray c', slots := #[] } → EP X pins σ Q (.ref s.heap.objs.size) { s with heap := h' } := fun its r' hz h' c' kp e =>
    ⟨.ref s.heap.objs.size, _, I.laid (t' := s.toks) kp (Nat.le_refl _) (show ObjOk X.prog X.w _ h' _ (.lst ys) from ⟨hz, its, c', r', e⟩), rfl, q _ (I.hok.fresh (Nat.le_refl _)) (Nat.ne_of_gt I.big)⟩
  obtain ⟨its, r', pl, hz⟩ := I.tuple hq
  have hlen := r'.length
  obtain ⟨o, ho, hc, n, hd⟩ := pl
  exact call_list_seq p (.inr rfl) ho hc hd (fun h' c' kp e => fin its r' hz h' c' kp e) (by simp only [List.size_toArray] <;> omega)

/-! ### written out -/
structure ShowsX (d : PyData) : Prop where
  sh : d.showable = true
  dp : d.depth ≤ 40
  ln : d.shown.length ≤ sizeLine
theorem call_reprX (hg : X.A.guards = some []) (hu : X.A.units + 64 < cLine) : CallR X (.builtin "repr") (fun xs H Q => ∃ (A : List Addr) (v : V) (d : PyData), xs = [v] ∧ sysModules ∈ A ∧ Dx A X.K H v d ∧ ShowsX d ∧ Q (.str d.shown) H) := by
  intro pins s σ H xs us Q I r h
  obtain ⟨A, v, d, rfl, hA, hd, S, q⟩ := h
  obtain ⟨u, rfl, ru⟩ := vals1 r
  have ln := S.ln
  cases hd with
  | non =>
    cases ru
    exact PySem.P.repr_of_none ⟨.str _, H, I.tok _, ⟨_, rfl⟩, q⟩
  | bl b =>
    cases ru
    refine PySem.P.repr_of_bool ⟨.str (if b then "True" else "False"), H, I.tok _, ⟨_, by cases b <;> rfl⟩, ?_⟩
    rw [PyData.shown] at q
    cases b <;> exact q
  | int i =>
    obtain ⟨t, rfl⟩ := ru
    have sh := S.sh
    rw [PyData.showable] at sh
    exact PySem.P.repr_of_int (of_decide_eq_true sh) ⟨.str _, H, I.tok _, ⟨_, rfl⟩, q⟩
  | str x =>
    obtain ⟨t, rfl⟩ := ru
    rw [PyData.shown] at ln q
    exact PySem.P.repr_of_str ⟨.str _, H, I.tok _, ⟨_, rfl⟩, q⟩ ln
  | lst e n h =>
    obtain ⟨as, hr, hn⟩ := Dx.reads I hA _ _ _ (.lst e n h) ru
    cases ru
    have dp := S.dp
    exact repr_of_reads' hr S.sh (fun _ => hn) hg (by omega) (fun _ _ e => e) (fun h' u tk k => ⟨.str _, H, I.kept k, ⟨_, rfl⟩, q⟩) S.ln
  | tup e h =>
    obtain ⟨as, hr, hn⟩ := Dx.reads I hA _ _ _ (.tup e h) ru
    cases ru
    have dp := S.dp
    exact repr_of_reads' hr S.sh (fun _ => hn) hg (by omega) (fun _ _ e => e) (fun h' u tk k => ⟨.str _, H, I.kept k, ⟨_, rfl⟩, q⟩) S.ln
  | dct e n =>
    obtain ⟨as, hr, hn⟩ := Dx.reads I hA _ _ _ (.dct e n) ru
    cases ru
    have dp := S.dp
    exact repr_of_reads' hr S.sh (fun _ => hn) hg (by omega) (fun _ _ e => e) (fun h' u tk k => ⟨.str _, H, I.kept k, ⟨_, rfl⟩, q⟩) S.ln
end

/-! ### x in a list of texts, x of any kind -/
theorem dict_eq_declines_str (l : Addr) (es : Array DictEntry) (n : Nat) (dd : Option Addr) (sl : Array (Option Value)) (b : Str) (u : Tok) :
    Meets (Builtin.«dict.__eq__» ⟨[.ref l, .str b u], []⟩) (fun _ R s => s.heap.get? l = some { cls := .type "dict", dict := dd, data := .dict es n, slots := sl } ∧ R (.ok (.ret .notImplemented)) s) :=
  .of_wp fun prog w A R s h => by obtain ⟨hp, g, d, tk, os⟩ := s; obtain ⟨hl, h⟩ := h; have f1 := F.sub_str_dict; wp_walk using AutoSeq1.wpAny_loadPart' hl, wpAny_load hl; exact ⟨_, rfl, h⟩
theorem str_eq_declines_dict (b : Str) (u : Tok) (l : Addr) (es : Array DictEntry) (n : Nat) (dd : Option Addr) (sl : Array (Option Value)) :
    Meets (Builtin.«str.__eq__» ⟨[.str b u, .ref l], []⟩) (fun _ R s => s.heap.get? l = some { cls := .type "dict", dict := dd, data := .dict es n, slots := sl } ∧ R (.ok (.ret .notImplemented)) s) :=
  .of_wp fun prog w A R s h => by obtain ⟨hp, g, d, tk, os⟩ := s; obtain ⟨hl, h⟩ := h; wp_walk using AutoSeq1.wpAny_loadPart' hl, wpAny_load hl; exact ⟨_, rfl, h⟩
theorem RcAt.str_dict {A : Around} {s : Shared} {l : Addr} {o : Obj} {es : Array DictEntry} {n : Nat} (b : Str) (u : Tok) (ho : s.heap.get? l = some o) (hc : o.cls = .type "dict") (hd : o.data = .dict es n) (hu : A.units < cLine) : SeqAt.RcAt A s (.str b u) (.ref l) false := fun prog w E Q h => by
  obtain ⟨cls, dd, data, sl⟩ := o
  simp only at hc hd
  subst hc hd
  exact SeqAt.rc_eq_decline_or (k := false) (typeIs_str s b u) ⟨_, ho, rfl⟩ (by decide) F.sub_dict_str F.slot_str_eq F.slot_dict_eq_refl
    (fun _ hq => call_meets F.slot_str_eq (typeIs_str s b u) F.entry_str_eq (F.args_str_eq_2 _ _) (str_eq_declines_dict b u l es n dd sl) ⟨ho, hq⟩)
    (fun _ hq => call_meets F.slot_dict_eq_refl ⟨_, ho, rfl⟩ F.entry_dict_eq (F.args_dict_eq_2 _ _) (dict_eq_declines_str l es n dd sl b u) ⟨ho, hq⟩)
    (fun _ hq => wpAny_of_eq (rfl : isSame (.str b u) (.ref l) = pure false) hq) (.inr hu) h
theorem EqAt.str_dict {A : Around} {s : Shared} {l : Addr} {o : Obj} {es : Array DictEntry} {n : Nat} (b : Str) (u : Tok) (ho : s.heap.get? l = some o) (hc : o.cls = .type "dict") (hd : o.data = .dict es n) (hu : A.units < cLine) : SeqAt.EqAt A s (.str b u) (.ref l) false := fun prog w E Q h => by
  unfold eqBool
  refine wpAny_holding ?_
  refine wpAny_ite_split (fun hab => absurd (eq_of_beq hab) nofun) (fun _ => ?_)
  exact wpAny_bind (RcAt.str_dict b u ho hc hd hu prog w E _ (wpAny_truthy_bool h))
def isD (d : PyData) (y : Str) : Bool := match d with
  | .str x => y == x
  | _ => false
section
variable {X : Cx}
theorem eqAt_D {pins : List (Addr × Obj)} {σ : L2.St} {H : Hp} {s : Shared} {A : List Addr} {Ar : Around} (I : Inv X pins σ H s) (hu : Ar.units < cLine) {v : V} {d : PyData} {u : Value} (h : Dx A X.K H v d) (r : RelV v u) (y : Str) (t : Tok) :
    SeqAt.EqAt Ar s (.str y t) u (isD d y) := by
  cases h with
  | non => cases r; exact SeqAt.EqAt.str_none y t
  | bl b => cases r; exact SeqAt.EqAt.str_bool y t b
  | int i => obtain ⟨t2, rfl⟩ := r; exact SeqAt.EqAt.str_int y t i t2
  | str x => obtain ⟨t2, rfl⟩ := r; exact SeqAt.EqAt.str_str y t x t2
  | lst e n h =>
    cases r
    obtain ⟨its, rv, pl, _⟩ := I.list (SqL.of e)
    exact SeqAt.EqAt.str_list y t pl.isList hu
  | tup e h =>
    cases r
    obtain ⟨its, rv, pl, _⟩ := I.tuple e
    exact SeqAt.EqAt.str_tuple y t pl hu
  | dct e n =>
    cases r
    obtain ⟨_, hm, vs, kv, o, es, ep, h1, h2, h3, h4⟩ := dk_of I.hok e
    exact EqAt.str_dict y t h1 h2.1 h3 hu
def isU (d : PyData) (u : Value) : Bool := match u with
  | .str y _ => isD d y
  | _ => false
theorem any_isU (d : PyData) : ∀ {ys : List Str} {us : List Value}, Vals (ys.map V.str) us → us.any (isU d) = ys.any (isD d)
  | [], us, r => by cases r; rfl
  | y :: ys, us, r => by
    cases r with
    | cons r1 r2 =>
      obtain ⟨t, rfl⟩ := r1
      rw [List.any_cons, List.any_cons, any_isU d r2]
      rfl
theorem mem_isU {pins : List (Addr × Obj)} {σ : L2.St} {H : Hp} {s : Shared} {A : List Addr} {Ar : Around} (I : Inv X pins σ H s) (hu : Ar.units < cLine) {v : V} {d : PyData} {u : Value} (h : Dx A X.K H v d) (r : RelV v u) :
    ∀ {ys : List Str} {us : List Value}, Vals (ys.map V.str) us → ∀ z ∈ us, SeqAt.EqAt Ar s z u (isU d z)
  | [], us, rs, z, hz => by cases rs; cases hz
  | y :: ys, us, rs, z, hz => by
    cases rs with
    | cons r1 r2 =>
      obtain ⟨t, rfl⟩ := r1
      rcases List.mem_cons.mp hz with rfl | hz
      · exact eqAt_D I hu h r y t
      · exact mem_isU I hu h r r2 z hz
def rInX (K : PySem.W.Frag) (neg : Bool) : R2 := fun x y H Q => ∃ (A : List Addr) (d : PyData) (p : Addr) (ys : List Str), y = .ref p ∧ (SqL K H p (ys.map V.str) ∨ SqT K H p (ys.map V.str)) ∧ Dx A K H x d ∧ Q (.bl (if neg then !ys.any (isD d) else ys.any (isD d))) H
theorem op_inX (hu : X.A.units + 64 < cLine) : OpR X (compareOp .In) (rInX X.K false) := by
  intro pins s σ H x y v u Q I rx ry h
  obtain ⟨A, d, p, ys, rfl, hq, hd, q⟩ := h
  cases ry
  rcases hq with hq | hq
  · obtain ⟨its, r, pl, hz⟩ := I.list hq
    refine SeqAt.in_listAt (isU d) pl.isList (fun w hw => mem_isU I (by show X.A.units + 1 < cLine; omega) hd rx r w (by simpa using hw)) ⟨.bl _, H, I, rfl, ?_⟩
    rw [show its.toArray.any (isU d) = its.any (isU d) by simp, any_isU d r]
    exact q
  · obtain ⟨its, r, pl, hz⟩ := I.tuple hq
    refine SeqAt.in_tupleAt (isU d) pl (fun w hw => mem_isU I (by show X.A.units + 1 < cLine; omega) hd rx r w (by simpa using hw)) ⟨.bl _, H, I, rfl, ?_⟩
    rw [show its.toArray.any (isU d) = its.any (isU d) by simp, any_isU d r]
    exact q
theorem op_notInX (hu : X.A.units + 64 < cLine) : OpR X (compareOp .NotIn) (rInX X.K true) := by
  intro pins s σ H x y v u Q I rx ry h
  obtain ⟨A, d, p, ys, rfl, hq, hd, q⟩ := h
  cases ry
  rcases hq with hq | hq
  · obtain ⟨its, r, pl, hz⟩ := I.list hq
    refine SeqAt.notIn_listAt (isU d) pl.isList (fun w hw => mem_isU I (by show X.A.units + 1 < cLine; omega) hd rx r w (by simpa using hw)) ⟨.bl _, H, I, rfl, ?_⟩
    rw [show its.toArray.any (isU d) = its.any (isU d) by simp, any_isU d r]
    exact q
  · obtain ⟨its, r, pl, hz⟩ := I.tuple hq
    refine SeqAt.notIn_tupleAt (isU d) pl (fun w hw => mem_isU I (by show X.A.units + 1 < cLine; omega) hd rx r w (by simpa using hw)) ⟨.bl _, H, I, rfl, ?_⟩
    rw [show its.toArray.any (isU d) = its.any (isU d) by simp, any_isU d r]
    exact q
end
/-- f() of a def of the text -/
theorem pe_c0 {X : Cx} {k j : Nat} {x : Str} {sp : Sp} {dvs : List V} {p pos : Pos} (c : C8.Cal X.prog X.w X.K X.mg X.base k x sp dvs) (hr : Room j X.A) (hk : k ≤ j) (hg : Gl X x) (hdb : (x == ("__debug__" : Str)) = false := by decide) :
    PE X (.Call (.Name x p) [] [] pos) (tCall sp dvs E0 tNil) := by
  obtain ⟨f, fd, ps, ds, F, hm, kp, b, d⟩ := c.ex
  exact pe_call0 F (hr.mono hk) hg hm kp b d pass0 hdb
/-! ### a list against the empty one, whatever it holds -/
section
variable {X : Cx}
def rNil (K : PySem.W.Frag) (neg : Bool) : R2 := fun x y H Q => ∃ (a b : Addr) (xs : List V), x = .ref a ∧ y = .ref b ∧ SqL K H a xs ∧ SqL K H b [] ∧ Q (.bl (if neg then !xs.isEmpty else xs.isEmpty)) H
theorem op_neNil (hu : X.A.units + 64 < cLine) : OpR X (compareOp .NotEq) (rNil X.K true) := by
  intro pins s σ H x y v u Q I rx ry h
  obtain ⟨a, b, xs, rfl, rfl, ha, hb, q⟩ := h
  cases rx
  cases ry
  obtain ⟨its, r, pl, hz⟩ := I.list ha
  obtain ⟨its2, r2, pl2, hz2⟩ := I.list hb
  cases r2
  cases xs with
  | nil =>
    cases r
    exact SeqAt.RcNeAt.lists pl.isList pl2.isList rfl (by omega) (e := fun _ => true) (fun j h1 h2 => absurd h1 (by simp)) _ _ _ _ ⟨.bl false, H, I, rfl, q⟩
  | cons z zs =>
    cases r with
    | cons r1 r2 => exact SeqAt.RcNeAt.lists_lengths pl.isList pl2.isList (by simp) (by omega) _ _ _ _ ⟨.bl true, H, I, rfl, q⟩
theorem op_eqNil (hu : X.A.units + 64 < cLine) : OpR X (compareOp .Eq) (rNil X.K false) := by
  intro pins s σ H x y v u Q I rx ry h
  obtain ⟨a, b, xs, rfl, rfl, ha, hb, q⟩ := h
  cases rx
  cases ry
  obtain ⟨its, r, pl, hz⟩ := I.list ha
  obtain ⟨its2, r2, pl2, hz2⟩ := I.list hb
  cases r2
  cases xs with
  | nil =>
    cases r
    exact SeqAt.RcAt.lists pl.isList pl2.isList rfl (by omega) (e := fun _ => true) (fun j h1 h2 => absurd h1 (by simp)) _ _ _ _ ⟨.bl true, H, I, rfl, q⟩
  | cons z zs =>
    cases r with
    | cons r1 r2 => exact SeqAt.RcAt.lists_lengths pl.isList pl2.isList (by simp) (by omega) _ _ _ _ ⟨.bl false, H, I, rfl, q⟩
end
end Md

namespace Md
open PySem PySem.Spec PyProof.Rows L2

/-! ### kinds with parts of any kind -/
theorem w_lt {n : Nat} (h : n ≤ 100000) : n < sizeLine := Nat.lt_of_le_of_lt h (by decide)
abbrev Pr := Str × List PyData
abbrev KdX := Str × List Pr
def pairD (p : Pr) : PyData := .tuple [.str p.1, .tuple p.2]
def kindD (k : KdX) : PyData := pairD (k.1, k.2.map pairD)
def kdsD (ks : List KdX) : PyData := .tuple (ks.map kindD)
def nameD : PyData → Bool
  | .str x => isName x
  | _ => false
def rowD (d : PyData) (l m : Nat) : Bool := match d with
  | .tuple ds => decide (l ≤ ds.length) && decide (ds.length ≤ m)
  | _ => false
def namedD (d : PyData) (l m : Nat) : Bool := match d with
  | .tuple [a, b] => nameD a && rowD b l m
  | _ => false
theorem nameD_str {d : PyData} (h : nameD d = true) : ∃ x, d = .str x ∧ isName x = true := by
  cases d with
  | str x => exact ⟨x, rfl, h⟩
  | _ => cases h
theorem rowD_tup {d : PyData} {l m : Nat} (h : rowD d l m = true) : ∃ ds, d = .tuple ds ∧ l ≤ ds.length ∧ ds.length ≤ m := by
  cases d with
  | tuple ds =>
    have h' : (decide (l ≤ ds.length) && decide (ds.length ≤ m)) = true := h
    rw [Bool.and_eq_true, decide_eq_true_eq, decide_eq_true_eq] at h'
    exact ⟨ds, rfl, h'.1, h'.2⟩
  | _ => cases h
theorem namedD_pair {d : PyData} {l m : Nat} (h : namedD d l m = true) : ∃ p : Pr, d = pairD p ∧ isName p.1 = true ∧ l ≤ p.2.length ∧ p.2.length ≤ m := by
  unfold namedD at h
  split at h
  · rename_i a b
    rw [Bool.and_eq_true] at h
    obtain ⟨x, rfl, hx⟩ := nameD_str h.1
    obtain ⟨ds, rfl, h1, h2⟩ := rowD_tup h.2
    exact ⟨(x, ds), rfl, hx, h1, h2⟩
  · cases h
theorem namedD_of {p : Pr} {l m : Nat} : namedD (pairD p) l m = (isName p.1 && (decide (l ≤ p.2.length) && decide (p.2.length ≤ m))) := rfl
theorem namedD_all {l m : Nat} : ∀ {ds : List PyData}, ds.all (namedD · l m) = true → ∃ ps : List Pr, ds = ps.map pairD ∧ ∀ p ∈ ps, isName p.1 = true ∧ l ≤ p.2.length ∧ p.2.length ≤ m
  | [], _ => ⟨[], rfl, fun _ h => nomatch h⟩
  | d :: r, h => by
    rw [List.all_cons, Bool.and_eq_true] at h
    obtain ⟨p, rfl, hp⟩ := namedD_pair h.1
    obtain ⟨ps, rfl, hps⟩ := namedD_all h.2
    refine ⟨p :: ps, rfl, fun q hq => ?_⟩
    rcases List.mem_cons.mp hq with z | z
    · subst z; exact hp
    · exact hps q z
/-- pairs all of whose items are named: kinds -/
theorem kinds_all {l m : Nat} : ∀ {ps : List Pr}, (∀ p ∈ ps, p.2.all (namedD · l m) = true) → ∃ ks : List KdX, ps.map pairD = ks.map kindD ∧ ps.map (·.1) = ks.map (·.1) ∧ ps.map (fun p => p.2.length) = ks.map (fun k => k.2.length) ∧ ∀ k ∈ ks, ∀ r ∈ k.2, isName r.1 = true ∧ l ≤ r.2.length ∧ r.2.length ≤ m
  | [], _ => ⟨[], rfl, rfl, rfl, fun _ h => nomatch h⟩
  | p :: r, h => by
    obtain ⟨rs, e, hrs⟩ := namedD_all (h p List.mem_cons_self)
    obtain ⟨ks, e1, e2, e3, e4⟩ := kinds_all fun q hq => h q (List.mem_cons_of_mem _ hq)
    obtain ⟨x, ds⟩ := p
    simp only at e
    subst e
    refine ⟨(x, rs) :: ks, ?_, ?_, ?_, fun k hk => ?_⟩
    · rw [List.map_cons, List.map_cons, e1]; rfl
    · rw [List.map_cons, List.map_cons, e2]
    · rw [List.map_cons, List.map_cons, e3]; simp
    · rcases List.mem_cons.mp hk with z | z
      · subst z; exact hrs
      · exact e4 k z
def namesX (ks : List KdX) : List Str := ks.map (·.1)
def makersX (ks : List KdX) : List Str := (ks.flatMap (·.2)).map (·.1)
def allX (ks : List KdX) : List Str := namesX ks ++ makersX ks
def partOk (ns : List Str) (p : PyData) : Bool := ns.any (isD p)
theorem partOk_str {ns : List Str} {p : PyData} (h : partOk ns p = true) : ∃ x ∈ ns, p = .str x := by
  obtain ⟨x, hx, e⟩ := List.any_eq_true.mp h
  cases p with
  | str y =>
    have e' : (x == y) = true := e
    rw [beq_iff_eq] at e'
    subst e'
    exact ⟨x, hx, rfl⟩
  | _ => cases e
theorem partOk_of {ns : List Str} {x : Str} (h : x ∈ ns) : partOk ns (.str x) = true :=
  List.any_eq_true.mpr ⟨x, h, by show (x == x) = true; simp⟩
theorem partsOk_all {ns : List Str} : ∀ {ps : List PyData}, ps.all (partOk ns) = true → ∃ xs : List Str, ps = xs.map .str ∧ ∀ x ∈ xs, x ∈ ns
  | [], _ => ⟨[], rfl, fun _ h => nomatch h⟩
  | p :: r, h => by
    rw [List.all_cons, Bool.and_eq_true] at h
    obtain ⟨x, hx, rfl⟩ := partOk_str h.1
    obtain ⟨xs, rfl, hxs⟩ := partsOk_all h.2
    refine ⟨x :: xs, rfl, fun y hy => ?_⟩
    rcases List.mem_cons.mp hy with z | z
    · subst z; exact hx
    · exact hxs y z
def ofRw (r : Rw) : Pr := (r.1, r.2.map .str)
def ofKd (k : Kd) : KdX := (k.1, k.2.map ofRw)
def ofKds (ks : Kds) : List KdX := ks.map ofKd
theorem rows_of {ns : List Str} : ∀ {rs : List Pr}, rs.all (fun r => r.2.all (partOk ns)) = true → ∃ rw : List Rw, rs = rw.map ofRw ∧ ∀ r ∈ rw, ∀ p ∈ r.2, p ∈ ns
  | [], _ => ⟨[], rfl, fun _ h => nomatch h⟩
  | r :: t, h => by
    rw [List.all_cons, Bool.and_eq_true] at h
    obtain ⟨xs, e, hxs⟩ := partsOk_all h.1
    obtain ⟨rw, rfl, hrw⟩ := rows_of h.2
    obtain ⟨x, ps⟩ := r
    simp only at e
    subst e
    refine ⟨(x, xs) :: rw, rfl, fun q hq => ?_⟩
    rcases List.mem_cons.mp hq with z | z
    · subst z; exact hxs
    · exact hrw q z
theorem kds_of {ns : List Str} : ∀ {ks : List KdX}, ks.all (fun k => k.2.all fun r => r.2.all (partOk ns)) = true → ∃ kd : Kds, ks = ofKds kd ∧ ∀ k ∈ kd, ∀ r ∈ k.2, ∀ p ∈ r.2, p ∈ ns
  | [], _ => ⟨[], rfl, fun _ h => nomatch h⟩
  | k :: t, h => by
    rw [List.all_cons, Bool.and_eq_true] at h
    obtain ⟨rs, e, hrs⟩ := rows_of h.1
    obtain ⟨kd, rfl, hkd⟩ := kds_of h.2
    obtain ⟨x, ps⟩ := k
    simp only at e
    subst e
    refine ⟨(x, rs) :: kd, rfl, fun q hq => ?_⟩
    rcases List.mem_cons.mp hq with z | z
    · subst z; exact hrs
    · exact hkd q z
theorem names_of (ks : Kds) : namesX (ofKds ks) = kindNames ks := by
  unfold namesX ofKds kindNames
  rw [List.map_map]
  rfl
theorem makers_of (ks : Kds) : makersX (ofKds ks) = makerNames ks := by
  unfold makersX ofKds makerNames rowsOf
  induction ks with
  | nil => rfl
  | cons d r ih =>
    rw [List.map_cons, List.flatMap_cons, List.flatMap_cons, List.map_append, List.map_append, ih]
    congr 1
    show (d.2.map ofRw).map (·.1) = d.2.map (·.1)
    rw [List.map_map]
    rfl
/-! ### what are kinds -/
structure WfK (ks : Kds) : Prop where
  l1 : 1 ≤ ks.length
  l5 : ks.length ≤ 5
  kn : ∀ k ∈ ks, isName k.1 = true
  m1 : ∀ k ∈ ks, 1 ≤ k.2.length
  m4 : ∀ k ∈ ks, k.2.length ≤ 4
  mn : ∀ k ∈ ks, ∀ r ∈ k.2, isName r.1 = true
  p3 : ∀ k ∈ ks, ∀ r ∈ k.2, r.2.length ≤ 3
  ps : ∀ k ∈ ks, ∀ r ∈ k.2, ∀ p ∈ r.2, p ∈ ("mark" : Str) :: kindNames ks
  nd : (allNames ks).Nodup
  tr : ∀ k ∈ ks, (lookS (leastS ks) k.1).isSome = true
def IsKinds (d : PyData) : Prop := ∃ ks : Kds, d = kdsD (ofKds ks) ∧ WfK ks
theorem GoodK.wf {ks : Kds} (g : GoodK ks) : WfK ks :=
  ⟨g.l1, g.l5, g.kn, g.m1, g.m4, g.mn, g.p3, fun k hk r hr p hp => by
    rcases g.ps k hk r hr p hp with z | z
    · subst z; exact List.mem_cons_self
    · exact List.mem_cons_of_mem _ z, g.nd, trees_there g⟩
/-- what the text of kinds goes through, one look behind another -/
theorem isKinds_row {d : PyData} (h : IsKinds d) : rowD d 1 5 = true := by
  obtain ⟨ks, rfl, w⟩ := h
  show (decide (1 ≤ ((ofKds ks).map kindD).length) && decide (((ofKds ks).map kindD).length ≤ 5)) = true
  have := w.l1
  have := w.l5
  rw [Bool.and_eq_true, decide_eq_true_eq, decide_eq_true_eq, List.length_map, ofKds, List.length_map]
  omega
theorem isKinds_named {ds : List PyData} (h : IsKinds (.tuple ds)) : ds.all (namedD · 1 4) = true := by
  obtain ⟨ks, e, w⟩ := h
  injection e with e
  subst e
  refine List.all_eq_true.mpr fun d hd => ?_
  obtain ⟨k, hk, rfl⟩ := List.mem_map.mp hd
  obtain ⟨c, hc, rfl⟩ := List.mem_map.mp hk
  show namedD (pairD _) 1 4 = true
  rw [namedD_of]
  have h1 := w.kn c hc
  have h2 := w.m1 c hc
  have h3 := w.m4 c hc
  show (isName c.1 && (decide (1 ≤ ((c.2.map ofRw).map pairD).length) && decide (((c.2.map ofRw).map pairD).length ≤ 4))) = true
  rw [h1, List.length_map, List.length_map, decide_eq_true h2, decide_eq_true h3]
  rfl
theorem pairD_inj {p q : Pr} (h : pairD p = pairD q) : p = q := by
  obtain ⟨a, b⟩ := p
  obtain ⟨c, d⟩ := q
  unfold pairD at h
  simp only [PyData.tuple.injEq, List.cons.injEq, PyData.str.injEq] at h
  obtain ⟨h1, h2, _⟩ := h
  rw [h1, h2]
theorem map_inj {α β : Type} {f : α → β} (hf : ∀ a b, f a = f b → a = b) : ∀ {l m : List α}, l.map f = m.map f → l = m
  | [], [], _ => rfl
  | [], _ :: _, h => by cases h
  | _ :: _, [], h => by cases h
  | a :: l, b :: m, h => by
    rw [List.map_cons, List.map_cons] at h
    injection h with h1 h2
    rw [hf _ _ h1, map_inj hf h2]
theorem kindD_inj {a b : KdX} (h : kindD a = kindD b) : a = b := by
  have e := pairD_inj h
  injection e with e1 e2
  have e3 := map_inj (fun _ _ => pairD_inj) e2
  obtain ⟨x, y⟩ := a
  obtain ⟨z, t⟩ := b
  simp only at e1 e3
  rw [e1, e3]
theorem kdsD_inj {a b : List KdX} (h : kdsD a = kdsD b) : a = b := by
  injection h with h
  exact map_inj (fun _ _ => kindD_inj) h
theorem isKinds_of {ks : List KdX} (h : IsKinds (kdsD ks)) : ∃ kd : Kds, ks = ofKds kd ∧ WfK kd := by
  obtain ⟨kd, e, w⟩ := h
  exact ⟨kd, kdsD_inj e, w⟩
theorem isKinds_makers {ps : List Pr} (h : IsKinds (.tuple (ps.map pairD))) : (ps.flatMap (·.2)).all (namedD · 0 3) = true := by
  obtain ⟨ks, e, w⟩ := h
  injection e with e
  have e2 : ps = (ofKds ks).map fun k => (k.1, k.2.map pairD) := by
    refine map_inj (fun _ _ => pairD_inj) (e.trans ?_)
    rw [List.map_map]
    rfl
  subst e2
  refine List.all_eq_true.mpr fun d hd => ?_
  obtain ⟨p, hp, hd⟩ := List.mem_flatMap.mp hd
  obtain ⟨k, hk, rfl⟩ := List.mem_map.mp hp
  obtain ⟨c, hc, rfl⟩ := List.mem_map.mp hk
  obtain ⟨r, hr, rfl⟩ := List.mem_map.mp hd
  obtain ⟨q, hq, rfl⟩ := List.mem_map.mp hr
  rw [namedD_of]
  have h1 := w.mn c hc q hq
  have h3 := w.p3 c hc q hq
  show (isName q.1 && (decide (0 ≤ (q.2.map PyData.str).length) && decide ((q.2.map PyData.str).length ≤ 3))) = true
  rw [h1, List.length_map, decide_eq_true (Nat.zero_le _), decide_eq_true h3]
  rfl
theorem isKinds_unlike {ks : List KdX} (h : IsKinds (kdsD ks)) : (allX ks).Nodup := by
  obtain ⟨kd, rfl, w⟩ := isKinds_of h
  rw [allX, names_of, makers_of]
  exact w.nd
theorem isKinds_parts {ks : List KdX} (h : IsKinds (kdsD ks)) : ks.all (fun k => k.2.all fun r => r.2.all (partOk (("mark" : Str) :: namesX ks))) = true := by
  obtain ⟨kd, rfl, w⟩ := isKinds_of h
  rw [names_of]
  refine List.all_eq_true.mpr fun k hk => List.all_eq_true.mpr fun r hr => List.all_eq_true.mpr fun p hp => ?_
  obtain ⟨c, hc, rfl⟩ := List.mem_map.mp hk
  obtain ⟨q, hq, rfl⟩ := List.mem_map.mp hr
  obtain ⟨x, hx, rfl⟩ := List.mem_map.mp hp
  exact partOk_of (w.ps c hc q hq x hx)
theorem isKinds_trees {kd : Kds} (h : IsKinds (kdsD (ofKds kd))) : ∀ k ∈ kd, (lookS (leastS kd) k.1).isSome = true := by
  obtain ⟨ke, e, w⟩ := isKinds_of h
  have inj : ∀ a b : Kd, ofKd a = ofKd b → a = b := by
    intro a b e
    injection e with e1 e2
    have e3 : a.2 = b.2 := map_inj (fun r q e => by
      injection e with x1 x2
      have x3 : r.2 = q.2 := map_inj (fun _ _ z => by injection z) x2
      obtain ⟨_, _⟩ := r
      obtain ⟨_, _⟩ := q
      simp only at x1 x3
      rw [x1, x3]) e2
    obtain ⟨_, _⟩ := a
    obtain ⟨_, _⟩ := b
    simp only at e1 e3
    rw [e1, e3]
  have : kd = ke := map_inj inj e
  subst this
  exact w.tr
/-- .. and what is all that, is kinds -/
theorem wf_of {ks : Kds} (h1 : 1 ≤ ks.length) (h5 : ks.length ≤ 5) (hk : ∀ k ∈ ks, isName k.1 = true ∧ 1 ≤ k.2.length ∧ k.2.length ≤ 4) (hm : ∀ k ∈ ks, ∀ r ∈ k.2, isName r.1 = true ∧ r.2.length ≤ 3)
    (hp : ∀ k ∈ ks, ∀ r ∈ k.2, ∀ p ∈ r.2, p ∈ ("mark" : Str) :: kindNames ks) (hn : (allNames ks).Nodup) (ht : ∀ k ∈ ks, (lookS (leastS ks) k.1).isSome = true) : WfK ks :=
  ⟨h1, h5, fun k h => (hk k h).1, fun k h => (hk k h).2.1, fun k h => (hk k h).2.2, fun k h r hr => (hm k h r hr).1, fun k h r hr => (hm k h r hr).2, hp, hn, ht⟩
end Md

namespace Md
open PySem PySem.Spec PyProof.Rows L2

section
variable {P : Program} {w : World} {K : PySem.W.Frag} {mg : Str → Option Value} {base : Heap} {aW : Addr}
/-- anything: whether it is a name -/
def spIsNameX (K : PySem.W.Frag) : Sp := fun vs H Q _ => ∃ (A : List Addr) (v : V) (d : PyData), vs = [v] ∧ Dx A K H v d ∧ d.weight ≤ 100000 ∧ ∀ H', Kp [] H H' → Q (.bl (nameD d)) H'
theorem c_is_name__x (T : Txt K mg aW) (F : At_is_name K mg) : C8.Cal P w K mg base 1 "is_name" (spIsNameX K) [] := by
  refine F.cal sc_is_name (fun vs H Q E h => ?_) (fun f cdv A outer s H vs Q E hr h => ?_)
  · obtain ⟨A, v, d, rfl, _⟩ := h
    rfl
  · obtain ⟨A0, v, d, rfl, hd, hw, k⟩ := h
    have nd := sc_is_name.nd
    refine ⟨_, (pss_cons (ps_if (PW.pt (pw_or (pt_not (pt_val (pe_callB call_isi (by rfl) T.z_isinstance (by decide +kernel) (pa_cons (pv 0) (pa_cons (pe_bltn (v := .ty "str") (by rfl) T.z_str (by decide +kernel) rfl) pa_nil))))) (pw_or1 (pt_not (pt_chain op_le op_le pe_int (pe_callB call_len_str (by rfl) T.z_len (by decide +kernel) (pa_cons (pv 0) pa_nil)) (C8.pe_gc rfl T.g_MOST_LETTERS)))))) (pss_one (ps_ret pe_bl)) pss_nil)
      (pss_one (ps_ret (pe_and (pe_cmpR op_notIn_seq (pv 0) (pe_glob (v := .ref _) rfl T.g_WORDS rfl) (by rfl)) (pe_one (pe_callB (cr_all rfl) (by rfl) T.z_all (by decide +kernel) (pa_cons (pe_lc (own := [("letter", 1)]) (g := (gName 1)) (tt := tYes) rfl nd (pi_str (pv 0)) (blkOk_by (N := nn_is_name) (sc := defScope st_is_name) (own := [("letter", 1)]) (by decide +kernel)) (fun _ _ _ _ _ => (pg_name (i := 1) nd rfl (by first | exact Or.inl rfl | exact Or.inr rfl))) (fun _ _ _ _ _ => pts_nil) (fun _ _ _ _ _ => (pe_chain op_le_str op_le_str pe_str (pv 1) pe_str))) pa_nil))))))), ?_⟩
    refine ⟨_, rfl, _, _, _, _, isStrD d, rfl, .ty "str", hd.ty, kit_str d, _, rfl, ?_⟩
    rcases (Classical.em (∃ x, d = .str x)).symm with hs | hs
    · have e1 : isStrD d = false := by cases d <;> first | rfl | exact absurd ⟨_, rfl⟩ hs
      have e2 : nameD d = false := by cases d <;> first | rfl | exact absurd ⟨_, rfl⟩ hs
      rw [e1]
      rw [e2] at k
      exact iteT (k H Kp.refl)
    obtain ⟨x, rfl⟩ := hs
    cases hd
    refine iteF ?_
    have hx : x.length ≤ 100000 := by rw [PyData.weight] at hw; exact hw
    have k' : ∀ H', Kp [] H H' → Q (.bl (isName x)) H' := k
    have hsz : x.length ≤ sizeLine := Nat.le_of_lt (w_lt hx)
    refine ⟨_, rfl, x, rfl, hsz, _, _, rfl, rfl, _, rfl, ?_⟩
    by_cases h1 : (1 : Int) ≤ (x.length : Int)
    · refine iteD h1 ⟨_, _, rfl, rfl, _, rfl, ?_⟩
      by_cases h8 : (x.length : Int) ≤ 8
      · refine iteBn (by simp [h8]) ?_
        refine ⟨_, rfl, aW, _, rfl, .inr (.inr T.t_WORDS), rfl, flats _, _, rfl, ?_⟩
        have e1 : decide (1 ≤ x.length) = true := decide_eq_true (by omega)
        have e8 : decide (x.length ≤ 8) = true := decide_eq_true (by omega)
        by_cases hw : wordsL.contains x = true
        · refine iteBn (by rw [inV_strs]; show (!wordsL.contains x) = false; rw [hw]; rfl) ?_
          have en : isName x = false := by unfold isName; rw [hw]; simp
          rw [← en]
          exact k' H Kp.refl
        · have hw' : wordsL.contains x = false := by simpa using hw
          refine iteB (by rw [inV_strs]; show (!wordsL.contains x) = true; rw [hw']; rfl) ?_
          refine ⟨_, rfl, x, rfl, fun D hD => ?_⟩
          refine lcW (S := []) walk_str (fun i => (x.cps.toList[i]?).map fun c => V.bl (decide (97 ≤ c) && decide (c ≤ 122))) hD (by simp) (w_lt hx) (fun _ _ => trivial) ?_ ?_
          · rintro i v H' H'' C N hi kp ⟨rfl, c, hc, rfl⟩ hC hN
            refine ⟨rfl, ?_⟩
            have hout : ∀ b : Bool, b = (decide (97 ≤ c) && decide (c ≤ 122)) → C (.bl b) H'' := fun b hb => hC _ _ Kp.refl (by rw [Array.getElem?_toList, hc, hb]; rfl)
            refine ⟨_, rfl, _, _, rfl, rfl, _, rfl, ?_⟩
            have ea : (("a" : Str)) = (⟨#[97]⟩ : Str) := by decide +kernel
            have ez : (("z" : Str)) = (⟨#[122]⟩ : Str) := by decide +kernel
            rw [ea, ez, lt_one]
            by_cases c1 : c < 97
            · refine iteBn (by simp [c1]) ?_
              exact hout _ (by simp; omega)
            · refine iteB (by simp [c1]) ⟨_, _, rfl, rfl, ?_⟩
              rw [lt_one]
              refine hout _ ?_
              by_cases c2 : 122 < c
              · rw [decide_eq_true c2, decide_eq_false (show ¬ c ≤ 122 by omega)]; simp
              · rw [decide_eq_false c2, decide_eq_true (show c ≤ 122 by omega), decide_eq_true (show 97 ≤ c by omega)]; rfl
          · intro H' kp hH'
            have hl := range_map (fun c : Nat => V.bl (decide (97 ≤ c) && decide (c ≤ 122))) x.cps.toList
            rw [Array.length_toList] at hl
            rw [hl] at hH'
            refine ⟨D, x.cps.toList.map (fun c => decide (97 ≤ c) && decide (c ≤ 122)), rfl, ?_, ?_⟩
            · rw [List.map_map]; exact SqL.of hH'
            · rw [List.all_map]
              have en : isName x = x.cps.toList.all (id ∘ fun c => decide (97 ≤ c) && decide (c ≤ 122)) := by
                unfold isName
                rw [e1, e8, hw']
                rfl
              rw [← en]
              exact k' H' kp
      · refine iteB (by simp; omega) ?_
        have en : isName x = false := by unfold isName; rw [decide_eq_false (show ¬ x.length ≤ 8 by omega)]; simp
        rw [← en]
        exact k' H Kp.refl
    · refine iteDn h1 ⟨_, rfl, ?_⟩
      have en : isName x = false := by unfold isName; rw [decide_eq_false (show ¬ 1 ≤ x.length by omega)]; simp
      have z := k' H Kp.refl
      rw [en] at z
      exact z
/-- anything: whether it is a tuple of so many -/
def spIsRowX (K : PySem.W.Frag) : Sp := fun vs H Q _ => ∃ (A : List Addr) (v : V) (d : PyData) (l m : Nat), vs = [v, .int (l : Nat), .int (m : Nat)] ∧ Dx A K H v d ∧ Q (.bl (rowD d l m)) H
theorem c_u_is_row__x (T : Txt K mg aW) (F : At_u_is_row K mg) : C8.Cal P w K mg base 1 "_is_row" (spIsRowX K) [] := by
  refine F.cal sc_u_is_row (fun vs H Q E h => ?_) (fun f cdv A outer s H vs Q E hr h => ?_)
  · obtain ⟨A, v, d, l, m, rfl, _⟩ := h
    rfl
  · obtain ⟨A0, v, d, l, m, rfl, hd, k⟩ := h
    have nd := sc_u_is_row.nd
    refine ⟨_, (pss_one (ps_ret (pe_and (pe_callB call_isi (by rfl) T.z_isinstance (by decide +kernel) (pa_cons (pv 0) (pa_cons (pe_bltn (v := .ty "tuple") (by rfl) T.z_tuple (by decide +kernel) rfl) pa_nil))) (pe_one (pe_chain op_le op_le (pv 1) (pe_callB call_len_seq (by rfl) T.z_len (by decide +kernel) (pa_cons (pv 0) pa_nil)) (pv 2)))))), ?_⟩
    refine ⟨_, rfl, _, _, _, _, isTupD d, rfl, .ty "tuple", hd.ty, kit_tup d, _, rfl, ?_⟩
    rcases (Classical.em (∃ x, d = .tuple x)).symm with hs | hs
    · have e1 : isTupD d = false := by cases d <;> first | rfl | exact absurd ⟨_, rfl⟩ hs
      have e2 : rowD d l m = false := by cases d <;> first | rfl | exact absurd ⟨_, rfl⟩ hs
      rw [e1]
      rw [e2] at k
      exact iteF k
    obtain ⟨ds, rfl⟩ := hs
    cases hd with
    | @tup a xs _ hq ha =>
      have hl := ha.len
      refine iteT ?_
      refine ⟨_, rfl, _, rfl, a, xs, rfl, .inr hq, _, _, rfl, rfl, _, rfl, ?_⟩
      have k' : Q (.bl (decide (l ≤ ds.length) && decide (ds.length ≤ m))) H := k
      by_cases h1 : (l : Int) ≤ (xs.length : Int)
      · refine iteD h1 ⟨_, rfl, _, _, rfl, rfl, ?_⟩
        rw [decide_eq_true (show l ≤ ds.length by omega), Bool.true_and] at k'
        have ee : (decide ((xs.length : Int) ≤ (m : Int))) = decide (ds.length ≤ m) := by rw [hl]; exact decide_eq_decide.mpr Int.ofNat_le
        show Q (.bl (decide ((xs.length : Int) ≤ (m : Int)))) H
        rw [ee]
        exact k'
      · rw [decide_eq_false (show ¬ l ≤ ds.length by omega), Bool.false_and] at k'
        exact iteDn h1 k'
/-- anything: whether it is a name with a tuple of so many -/
def spIsNamedX (K : PySem.W.Frag) : Sp := fun vs H Q _ => ∃ (A : List Addr) (v : V) (d : PyData) (l m : Nat), vs = [v, .int (l : Nat), .int (m : Nat)] ∧ Dx A K H v d ∧ d.weight ≤ 100000 ∧ ∀ H', Kp [] H H' → Q (.bl (namedD d l m)) H'
theorem c_u_is_named__x (c_u_is_row__x : C8.Cal P w K mg base 1 "_is_row" (spIsRowX K) []) (c_is_name__x : C8.Cal P w K mg base 1 "is_name" (spIsNameX K) []) (F : At_u_is_named K mg) : C8.Cal P w K mg base 2 "_is_named" (spIsNamedX K) [] := by
  have c_u_is_row := c_u_is_row__x
  have c_is_name := c_is_name__x
  refine F.cal sc_u_is_named (fun vs H Q E h => ?_) (fun f cdv A outer s H vs Q E hr h => ?_)
  · obtain ⟨A, v, d, l, m, rfl, _⟩ := h
    rfl
  · obtain ⟨A0, v, d, l, m, rfl, hd, hw, k⟩ := h
    have nd := sc_u_is_named.nd
    refine ⟨_, (pss_one (ps_ret (pe_and (C8.pe_c c_u_is_row hr (by decide) rfl (pa_cons (pv 0) (pa_cons pe_int (pa_cons pe_int pa_nil)))) (pe_and (C8.pe_c c_is_name hr (by decide) rfl (pa_cons (pe_ix ix_tup (pv 0) pe_int (fun _ _ => rfl)) pa_nil)) (pe_one (C8.pe_c c_u_is_row hr (by decide) rfl (pa_cons (pe_ix ix_tup (pv 0) pe_int (fun _ _ => rfl)) (pa_cons (pv 1) (pa_cons (pv 2) pa_nil))))))))), ?_⟩
    refine ⟨_, rfl, A0, v, d, 2, 2, rfl, hd, _, rfl, ?_⟩
    rcases (Classical.em (rowD d 2 2 = true)).symm with h2 | h2
    · have h2' : rowD d 2 2 = false := by simpa using h2
      have e2 : namedD d l m = false := by
        unfold namedD
        split
        · exact absurd rfl h2
        · rfl
      rw [e2] at k
      exact iteBn h2' (k H Kp.refl)
    refine iteB h2 ?_
    obtain ⟨ds, rfl, l1, l2⟩ := rowD_tup h2
    match ds, l1, l2 with
    | [d1, d2], _, _ =>
      cases hd with
      | @tup a xs _ hq ha =>
        cases ha with
        | @cons v1 _ _ _ h1 ht =>
          cases ht with
          | @cons v2 _ _ _ h3 ht =>
            cases ht
            have w1 : d1.weight ≤ 100000 := by simp only [PyData.weight, PyData.weightAll] at hw; omega
            refine ⟨_, rfl, _, _, _, _, rfl, rfl, hq, rfl, A0, v1, d1, rfl, h1, w1, fun H1 k1 => ⟨_, rfl, ?_⟩⟩
            by_cases hn : nameD d1 = true
            · refine iteB hn ⟨_, rfl, _, _, _, _, rfl, rfl, k1.sqt hq, rfl, _, rfl, _, rfl, A0, v2, d2, l, m, rfl, h3.k0 k1, ?_⟩
              have z := k H1 k1
              rw [show namedD (.tuple [d1, d2]) l m = (nameD d1 && rowD d2 l m) from rfl, hn, Bool.true_and] at z
              exact z
            · have hn' : nameD d1 = false := by simpa using hn
              refine iteBn hn' ?_
              have z := k H1 k1
              rw [show namedD (.tuple [d1, d2]) l m = (nameD d1 && rowD d2 l m) from rfl, hn', Bool.false_and] at z
              exact z
end

end Md

namespace Md
open PySem PySem.Spec PyProof.Rows L2

theorem firsts_short : ∀ (l acc : List Str), ¬ (acc ++ l).Nodup → acc.Nodup → (firsts acc l).length < acc.length + l.length
  | [], acc, h, h2 => absurd (by simpa using h2) h
  | x :: r, acc, h, h2 => by
    rw [firsts]
    by_cases c : acc.contains x = true
    · rw [if_pos c]
      have := firsts_len r acc
      rw [List.length_cons]
      omega
    · rw [if_neg c]
      have nx : x ∉ acc := by simpa using c
      have h3 : ¬ ((acc ++ [x]) ++ r).Nodup := by rw [List.append_assoc]; exact h
      have h4 : (acc ++ [x]).Nodup := by
        rw [List.nodup_append]
        exact ⟨h2, by simp, fun a ha b hb => by
          simp at hb
          subst hb
          intro z
          subst z
          exact nx ha⟩
      have := firsts_short r (acc ++ [x]) h3 h4
      rw [List.length_append] at this
      rw [List.length_cons]
      simp only [List.length_cons, List.length_nil] at this
      omega
theorem firsts_iff (l : List Str) : decide (((firsts [] l).length : Int) = (l.length : Int)) = decide l.Nodup := by
  by_cases h : l.Nodup
  · have e := firsts_nd l [] (by simpa using h)
    rw [e, decide_eq_true h]
    simp
  · have e := firsts_short l [] (by simpa using h) (by simp)
    rw [decide_eq_false h]
    simp at e
    exact decide_eq_false (by omega)
theorem firsts_iffV (l : List Str) : decide (V.int ((firsts [] l).length : Int) = V.int (l.length : Int)) = decide l.Nodup := by
  rw [← firsts_iff l]
  exact decide_eq_decide.mpr ⟨fun z => by injection z, fun z => by rw [z]⟩
section
variable {A : List Addr} {K : PySem.W.Frag} {H : Hp}
theorem pair_at {us : List V} {ps : List Pr} (h : DxAll A K H us (ps.map pairD)) {i : Nat} {x : V} (hx : us[i]? = some x) :
    ∃ (p : Pr) (b q : Addr) (ws : List V), ps[i]? = some p ∧ x = .ref b ∧ SqT K H b [.str p.1, .ref q] ∧ SqT K H q ws ∧ DxAll A K H ws p.2 := by
  obtain ⟨d, hd, h1⟩ := h.get hx
  rw [List.getElem?_map] at hd
  obtain ⟨p, hp, rfl⟩ := Option.map_eq_some_iff.mp hd
  refine ⟨p, ?_⟩
  cases h1 with
  | @tup b xs _ hq ha =>
    cases ha with
    | cons g1 g2 =>
      cases g1
      cases g2 with
      | cons g3 g4 =>
        cases g4
        cases g3 with
        | @tup q ws _ hq2 ha2 => exact ⟨b, q, ws, hp, rfl, hq, hq2, ha2⟩
theorem kds_tup (ks : List KdX) : kdsD ks = .tuple ((ks.map fun k => (k.1, k.2.map pairD)).map pairD) := by
  rw [List.map_map]
  rfl
/-- the rows of all kinds, as they lie -/
theorem pairs_lie : ∀ {us : List V} {ps : List Pr}, DxAll A K H us (ps.map pairD) → ∃ wss : List (List V), wss.length = us.length ∧ DxAll A K H wss.flatten (ps.flatMap (·.2)) ∧
    ∀ (i : Nat) (x : V), us[i]? = some x → ∃ (p : Pr) (b b2 : Addr) (ws : List V), ps[i]? = some p ∧ x = .ref b ∧ SqT K H b [.str p.1, .ref b2] ∧ SqT K H b2 ws ∧ wss[i]? = some ws ∧ DxAll A K H ws p.2
  | [], [], _ => ⟨[], rfl, .nil, fun i x e => by simp at e⟩
  | [], _ :: _, h => by cases h
  | _ :: _, [], h => by cases h
  | u :: r, p :: ps, h => by
    obtain ⟨p', b, q, ws, h1, rfl, hb, hq, hw⟩ := pair_at h (i := 0) (x := u) rfl
    simp at h1
    subst h1
    have ht : DxAll A K H r (ps.map pairD) := by cases h with | cons _ t => exact t
    obtain ⟨wss, e1, e2, e3⟩ := pairs_lie ht
    refine ⟨ws :: wss, by simp [e1], ?_, fun i x e => ?_⟩
    · rw [List.flatten_cons, List.flatMap_cons]
      exact hw.append e2
    · cases i with
      | zero =>
        simp at e
        subst e
        exact ⟨p, b, q, ws, rfl, rfl, hb, hq, rfl, hw⟩
      | succ i =>
        obtain ⟨p', c, c2, zs, h1, h2, h3, h4, h5, h6⟩ := e3 i x (by simpa using e)
        exact ⟨p', c, c2, zs, by simpa using h1, h2, h3, h4, by simpa using h5, h6⟩
end
section
variable {P : Program} {w : World} {K : PySem.W.Frag} {mg : Str → Option Value} {base : Heap} {aW : Addr}
def spKindNamesX (K : PySem.W.Frag) : Sp := fun vs H Q _ => ∃ (A : List Addr) (v : V) (ps : List Pr), vs = [v] ∧ Dx A K H v (.tuple (ps.map pairD)) ∧ ps.length ≤ 100 ∧
  ∀ H' p, Kp [] H H' → H p = none → H' p = some (.lst ((ps.map (·.1)).map V.str)) → Q (.ref p) H'
theorem c_u_kind_names__x (F : At_u_kind_names K mg) : C8.Cal P w K mg base 1 "_kind_names" (spKindNamesX K) [] := by
  refine F.cal sc_u_kind_names (fun vs H Q E h => ?_) (fun f cdv A outer s H vs Q E hr h => ?_)
  · obtain ⟨A, v, ps, rfl, _⟩ := h
    rfl
  · obtain ⟨A0, v, ps, rfl, hd, hl, k⟩ := h
    have nd := sc_u_kind_names.nd
    cases hd with
    | @tup a us _ hq hp =>
      have ul := hp.len
      rw [List.length_map] at ul
      refine ⟨_, (pss_one (ps_ret (pe_lc (own := [("kind", 1), ("_", 2)]) (g := (gTup _ 2 (gCons (gName 1) (gCons (gName 2) gNil)))) (tt := tYes) rfl nd (pi_tup (pv 0)) (blkOk_by (N := nn_u_kind_names) (sc := defScope st_u_kind_names) (own := [("kind", 1), ("_", 2)]) (by decide +kernel)) (fun _ _ _ _ _ => (pg_tup rfl (pgs_cons (pg_name (i := 1) nd rfl (by first | exact Or.inl rfl | exact Or.inr rfl)) (pgs_cons (pg_name (i := 2) nd rfl (by first | exact Or.inl rfl | exact Or.inr rfl)) pgs_nil)))) (fun _ _ _ _ _ => pts_nil) (fun _ _ _ _ _ => (pv 1))))), ?_⟩
      refine ⟨_, rfl, a, rfl, ⟨_, hq⟩, fun D hD => ?_⟩
      refine lcW (S := []) walk_tup (fun i => (ps[i]?).map fun d => V.str d.1) hD (by simp) (small1000 (by omega)) (fun H' kk => kk.sqt hq) ?_ ?_
      · rintro i x H' H'' C N hi kk ⟨rfl, hx⟩ hC hN
        obtain ⟨p, b, q, ws, hd, rfl, hb, _, _⟩ := pair_at hp hx
        refine ⟨b, _, rfl, kk.sqt hb, rfl, _, _, rfl, _, _, rfl, rfl, rfl, ?_⟩
        exact ⟨_, rfl, hC _ _ Kp.refl (by rw [hd]; rfl)⟩
      · intro H' kk e
        rw [ul, range_map] at e
        refine k H' D kk hD ?_
        rw [e, List.map_map]
        rfl
def spMakerNamesX (K : PySem.W.Frag) : Sp := fun vs H Q _ => ∃ (A : List Addr) (v : V) (ks : List KdX), vs = [v] ∧ Dx A K H v (kdsD ks) ∧ ks.length ≤ 100 ∧ (∀ d ∈ ks, d.2.length ≤ 100) ∧
  ∀ H' p, Kp [] H H' → H p = none → H' p = some (.lst ((makersX ks).map V.str)) → Q (.ref p) H'
theorem flat_lenX {ks : List KdX} {m : Nat} (h : ∀ d ∈ ks, d.2.length ≤ m) : (ks.flatMap (·.2)).length ≤ ks.length * m := by
  induction ks with
  | nil => simp
  | cons d r ih =>
    have h1 := ih fun d hd => h d (List.mem_cons_of_mem _ hd)
    have h2 := h d List.mem_cons_self
    rw [List.flatMap_cons, List.length_append, List.length_cons, Nat.add_mul, Nat.one_mul]
    omega
theorem take_flatX {ks : List KdX} {i : Nat} {d : KdX} (h : ks[i]? = some d) : (ks.take (i + 1)).flatMap (·.2) = (ks.take i).flatMap (·.2) ++ d.2 := by
  have hi := (List.getElem?_eq_some_iff.mp h).1
  have hd := (List.getElem?_eq_some_iff.mp h).2
  rw [List.take_succ_eq_append_getElem hi, hd, List.flatMap_append]
  simp
/-- a kind of these, as it lies -/
theorem kind_at {A : List Addr} {H : Hp} {us : List V} {ks : List KdX} (h : DxAll A K H us (ks.map kindD)) {i : Nat} {x : V} (hx : us[i]? = some x) :
    ∃ (d : KdX) (b q : Addr) (ws : List V), ks[i]? = some d ∧ x = .ref b ∧ SqT K H b [.str d.1, .ref q] ∧ SqT K H q ws ∧ DxAll A K H ws (d.2.map pairD) := by
  have h' : DxAll A K H us ((ks.map fun k => (k.1, k.2.map pairD)).map pairD) := by rw [List.map_map]; exact h
  obtain ⟨p, b, q, ws, h1, h2, h3, h4, h5⟩ := pair_at h' hx
  rw [List.getElem?_map] at h1
  obtain ⟨d, hd, rfl⟩ := Option.map_eq_some_iff.mp h1
  exact ⟨d, b, q, ws, hd, h2, h3, h4, h5⟩
theorem c_u_maker_names__x (F : At_u_maker_names K mg) : C8.Cal P w K mg base 1 "_maker_names" (spMakerNamesX K) [] := by
  refine F.cal sc_u_maker_names (fun vs H Q E h => ?_) (fun f cdv A outer s H vs Q E hr h => ?_)
  · obtain ⟨A, v, ks, rfl, _⟩ := h
    rfl
  · obtain ⟨A0, v, ks, rfl, hd, hl, hl2, k⟩ := h
    have nd := sc_u_maker_names.nd
    cases hd with
    | @tup a us _ hq hp =>
      have ul := hp.len
      rw [List.length_map] at ul
      refine ⟨_, (pss_one (ps_ret (pe_lc2 (own := [("_", 1), ("makers", 2), ("maker", 3), ("_", 1)]) (vs1 := [3, 1]) (wi1 := iTup K (tVar 2)) (g := (gTup _ 2 (gCons (gName 1) (gCons (gName 2) gNil)))) (g1 := (gTup _ 2 (gCons (gName 3) (gCons (gName 1) gNil)))) (tt := tYes) (tt1 := tYes) rfl nd (pi_tup (pv 0)) (blkOk_by (N := nn_u_maker_names) (sc := defScope st_u_maker_names) (own := [("_", 1), ("makers", 2), ("maker", 3), ("_", 1)]) (by decide +kernel)) (by decide) (fun _ _ _ _ _ => (pg_tup rfl (pgs_cons (pg_name (i := 1) nd rfl (by first | exact Or.inl rfl | exact Or.inr rfl)) (pgs_cons (pg_name (i := 2) nd rfl (by first | exact Or.inl rfl | exact Or.inr rfl)) pgs_nil)))) (fun _ _ _ _ _ => pts_nil) (by exact fun _ _ _ _ _ => (pi_tup (pv 2))) (fun _ _ _ _ _ => (pg_tup rfl (pgs_cons (pg_name (i := 3) nd rfl (by first | exact Or.inl rfl | exact Or.inr rfl)) (pgs_cons (pg_name (i := 1) nd rfl (by first | exact Or.inl rfl | exact Or.inr rfl)) pgs_nil)))) (fun _ _ _ _ _ => pts_nil) (fun _ _ _ _ _ => (pv 3))))), ?_⟩
      refine ⟨_, rfl, a, rfl, ⟨_, hq⟩, fun D hD => ?_⟩
      refine lcO (S := []) walk_tup (fun i => ((ks.take i).flatMap (·.2)).map fun r => V.str r.1) (by simp) hD (fun H' kk => kk.sqt hq) ?_ ?_
      · rintro i x H' H'' hi kk e ⟨rfl, hx⟩
        obtain ⟨d, b, c, ws, hd, rfl, hb, hc, hr2⟩ := kind_at hp hx
        have dm : d ∈ ks := List.mem_of_getElem? hd
        have wl := hr2.len
        rw [List.length_map] at wl
        refine ⟨b, _, rfl, kk.sqt hb, rfl, _, _, rfl, _, _, rfl, rfl, rfl, ?_⟩
        refine ⟨_, rfl, c, rfl, ⟨_, kk.sqt hc⟩, ?_⟩
        have zl : (((ks.take i).flatMap (·.2)).map fun (r : Pr) => V.str r.1).length ≤ 10000 := by
          rw [List.length_map]
          refine Nat.le_trans (flat_lenX (m := 100) fun d hd => hl2 d (List.mem_of_mem_take hd)) ?_
          have := List.length_take_le i ks
          omega
        have d100 := hl2 d dm
        refine lcI (S := []) walk_tup (fun j => (d.2[j]?).map fun r => V.str r.1) _ hD (by simp) kk e (Nat.lt_of_le_of_lt (show _ ≤ 20000 by omega) (by decide)) (fun H' k2 => k2.sqt hc) ?_ ?_
        · rintro j y H3 H4 C N hj k3 ⟨rfl, hy⟩ hC hN
          obtain ⟨r, b2, q2, zs, hr3, rfl, hb2, _, _⟩ := pair_at hr2 hy
          refine ⟨b2, _, rfl, k3.sqt hb2, rfl, _, _, rfl, _, _, rfl, rfl, rfl, ?_⟩
          exact ⟨_, rfl, hC _ _ Kp.refl (by rw [hr3]; rfl)⟩
        · intro H3 k3 e3
          refine ⟨k3, ?_⟩
          rw [wl, range_map] at e3
          rw [e3, take_flatX hd, List.map_append]
      · intro H' kk e
        rw [ul, List.take_length] at e
        refine k H' D kk hD ?_
        rw [e, makersX, List.map_map]
        rfl
/-- kinds with names and parts of any kind: whether their names are unlike -/
def spUnlikeX (K : PySem.W.Frag) : Sp := fun vs H Q _ => ∃ (A : List Addr) (v : V) (ks : List KdX), vs = [v] ∧ Dx A K H v (kdsD ks) ∧ ks.length ≤ 5 ∧ (∀ d ∈ ks, d.2.length ≤ 4) ∧ ∀ H', Kp [] H H' → Q (.bl (decide (allX ks).Nodup)) H'
theorem c_u_are_names_unlike__x (c_u_kind_names__x : C8.Cal P w K mg base 1 "_kind_names" (spKindNamesX K) []) (c_u_maker_names__x : C8.Cal P w K mg base 1 "_maker_names" (spMakerNamesX K) []) (T : Txt K mg aW) (F : At_u_are_names_unlike K mg) :
    C8.Cal P w K mg base 2 "_are_names_unlike" (spUnlikeX K) [] := by
  have c_u_kind_names := c_u_kind_names__x
  have c_u_maker_names := c_u_maker_names__x
  refine F.cal sc_u_are_names_unlike (fun vs H Q E h => ?_) (fun f cdv A outer s H vs Q E hr h => ?_)
  · obtain ⟨A, v, ks, rfl, _⟩ := h
    rfl
  · obtain ⟨A0, v, ks, rfl, hd, l5, l4, k⟩ := h
    have nd := sc_u_are_names_unlike.nd
    have ml : (makersX ks).length ≤ 20 := by
      rw [makersX, List.length_map]
      have h1 := flat_lenX (ks := ks) (m := 4) l4
      omega
    have kl : (namesX ks).length ≤ 5 := by rw [namesX, List.length_map]; exact l5
    refine ⟨_, (pss_cons (ps_set (i := 1) nd rfl (by first | exact Or.inl rfl | exact Or.inr rfl) (pe_op op_cat (C8.pe_c c_u_kind_names hr (by decide) rfl (pa_cons (pv 0) pa_nil)) (C8.pe_c c_u_maker_names hr (by decide) rfl (pa_cons (pv 0) pa_nil))))
      (pss_one (ps_ret (pe_cmpR op_eq (pe_lenSetS rfl rfl T.z_len rfl T.z_set (pv 1)) (pe_callB call_len_seq (by rfl) T.z_len (by decide +kernel) (pa_cons (pv 1) pa_nil)) (nomark _))))), ?_⟩
    refine ⟨_, rfl, A0, _, ks.map (fun k => (k.1, k.2.map pairD)), rfl, by rw [← kds_tup]; exact hd, by rw [List.length_map]; omega, fun H1 p k1 hp e1 => ?_⟩
    refine ⟨_, rfl, A0, _, ks, rfl, hd.k0 k1, by omega, fun d hd => by have := l4 d hd; omega, fun H2 q k2 hq e2 => ?_⟩
    have en : (ks.map (fun k => (k.1, k.2.map pairD))).map (·.1) = namesX ks := by rw [List.map_map]; rfl
    rw [en] at e1
    have e1' := k2.old _ _ e1 (by simp)
    refine ⟨p, q, _, _, rfl, rfl, e1', e2, ?_, fun r hr2 => ?_⟩
    · rw [List.length_map, List.length_map]
      exact Nat.le_of_lt (small1000 (by omega))
    have k3 : Kp [] H (upd H2 r (.lst ((namesX ks).map V.str ++ (makersX ks).map V.str))) := (k1.trans k2).new' hr2
    have sr : SqL K (upd H2 r (.lst ((namesX ks).map V.str ++ (makersX ks).map V.str))) r ((allX ks).map V.str) := by rw [allX, List.map_append]; exact SqL.of upd_same
    have al : (allX ks).length ≤ 25 := by rw [allX, List.length_append]; omega
    refine ⟨_, rfl, r, allX ks, rfl, sr, by omega, ?_⟩
    refine ⟨_, rfl, r, _, rfl, .inl sr, rfl, ?_⟩
    rw [List.length_map, firsts_iffV]
    exact k _ k3
/-- a tuple of parts of any kind: whether they are all among the names of a list -/
def spAreInX (K : PySem.W.Frag) : Sp := fun vs H Q _ => ∃ (A : List Addr) (v : V) (p : Addr) (ds : List PyData) (ns : List Str), vs = [v, .ref p] ∧ Dx A K H v (.tuple ds) ∧ ds.length ≤ 100 ∧ SqL K H p (ns.map V.str) ∧ ∀ H', Kp [] H H' → Q (.bl (ds.all (partOk ns))) H'
theorem c_u_are_in__x (T : Txt K mg aW) (F : At_u_are_in K mg) : C8.Cal P w K mg base 1 "_are_in" (spAreInX K) [] := by
  refine F.cal sc_u_are_in (fun vs H Q E h => ?_) (fun f cdv A outer s H vs Q E hr h => ?_)
  · obtain ⟨A, v, p, ds, ns, rfl, _⟩ := h
    rfl
  · obtain ⟨A0, v, p, ds, ns, rfl, hd, hl, hs, k⟩ := h
    have nd := sc_u_are_in.nd
    have hu := hu_of hr
    have hu64 := h64 hr
    cases hd with
    | @tup a us _ hq hp =>
      have ul := hp.len
      refine ⟨_, (pss_one (ps_ret (pe_callB (cr_all rfl) (by rfl) T.z_all (by decide +kernel) (pa_cons (pe_lc (own := [("part", 2)]) (te := tOp (rInX K false) (tVar 2) (tVar 1)) (g := (gName 2)) (tt := tYes) rfl nd (pi_tup (pv 0)) (blkOk_by (N := nn_u_are_in) (sc := defScope st_u_are_in) (own := [("part", 2)]) (by decide +kernel)) (fun _ _ _ _ _ => (pg_name (i := 2) nd rfl (by first | exact Or.inl rfl | exact Or.inr rfl))) (fun _ _ _ _ _ => pts_nil) (fun _ _ _ _ _ => (pe_cmpR (op_inX hu64) (pv 2) (pv 1) (by rfl)))) pa_nil)))), ?_⟩
      refine ⟨_, rfl, a, rfl, ⟨_, hq⟩, fun D hD => ?_⟩
      refine lcW (S := []) walk_tup (fun i => (ds[i]?).map fun p => V.bl (partOk ns p)) hD (by simp) (small1000 (by omega)) (fun H' kk => kk.sqt hq) ?_ ?_
      · rintro i x H' H'' C N hi kk ⟨rfl, hx⟩ hC hN
        obtain ⟨d, hd, h1⟩ := hp.get hx
        refine ⟨rfl, ⟨_, rfl, _, rfl, ?_⟩⟩
        refine ⟨A0, d, p, ns, rfl, .inl (kk.sql hs (by simp)), h1.k0 kk, ?_⟩
        exact hC _ _ Kp.refl (by rw [hd]; rfl)
      · intro H' kk e
        rw [ul, range_map] at e
        refine ⟨D, ds.map (partOk ns), rfl, by rw [List.map_map]; exact SqL.of e, ?_⟩
        rw [List.all_map]
        exact k H' kk
end

end Md

namespace Md
open PySem PySem.Spec PyProof.Rows L2

section
variable {P : Program} {w : World} {K : PySem.W.Frag} {mg : Str → Option Value} {base : Heap} {aW : Addr}
def spHasAllX (K : PySem.W.Frag) : Sp := fun vs H Q _ => ∃ (A : List Addr) (v : V) (p : Addr) (rs : List Pr) (ns : List Str), vs = [v, .ref p] ∧ Dx A K H v (.tuple (rs.map pairD)) ∧ rs.length ≤ 100 ∧ (∀ r ∈ rs, r.2.length ≤ 100) ∧ SqL K H p (ns.map V.str) ∧
  ∀ H', Kp [] H H' → Q (.bl (rs.all fun r => r.2.all (partOk ns))) H'
theorem c_u_has_all_parts__x (T : Txt K mg aW) (c_u_are_in__x : C8.Cal P w K mg base 1 "_are_in" (spAreInX K) []) (F : At_u_has_all_parts K mg) : C8.Cal P w K mg base 2 "_has_all_parts" (spHasAllX K) [] := by
  have c_u_are_in := c_u_are_in__x
  refine F.cal sc_u_has_all_parts (fun vs H Q E h => ?_) (fun f cdv A outer s H vs Q E hr h => ?_)
  · obtain ⟨A, v, p, rs, ns, rfl, _⟩ := h
    rfl
  · obtain ⟨A0, v, p, rs, ns, rfl, hd, hl, hl2, hs, k⟩ := h
    have nd := sc_u_has_all_parts.nd
    cases hd with
    | @tup a us _ hq hp =>
      have ul := hp.len
      rw [List.length_map] at ul
      refine ⟨_, (pss_one (ps_ret (pe_callB (cr_all rfl) (by rfl) T.z_all (by decide +kernel) (pa_cons (pe_lc (own := [("_", 2), ("parts", 3)]) (g := (gTup _ 2 (gCons (gName 2) (gCons (gName 3) gNil)))) (tt := tYes) rfl nd (pi_tup (pv 0)) (blkOk_by (N := nn_u_has_all_parts) (sc := defScope st_u_has_all_parts) (own := [("_", 2), ("parts", 3)]) (by decide +kernel)) (fun _ _ _ _ _ => (pg_tup rfl (pgs_cons (pg_name (i := 2) nd rfl (by first | exact Or.inl rfl | exact Or.inr rfl)) (pgs_cons (pg_name (i := 3) nd rfl (by first | exact Or.inl rfl | exact Or.inr rfl)) pgs_nil)))) (fun _ _ _ _ _ => pts_nil) (fun _ _ _ _ _ => (C8.pe_c c_u_are_in hr (by decide) rfl (pa_cons (pv 3) (pa_cons (pv 1) pa_nil))))) pa_nil)))), ?_⟩
      refine ⟨_, rfl, a, rfl, ⟨_, hq⟩, fun D hD => ?_⟩
      refine lcW (S := []) walk_tup (fun i => (rs[i]?).map fun r => V.bl (r.2.all (partOk ns))) hD (by simp) (small1000 (by omega)) (fun H' kk => kk.sqt hq) ?_ ?_
      · rintro i x H' H'' C N hi kk ⟨rfl, hx⟩ hC hN
        obtain ⟨r, b, q, ws, hr3, rfl, hb, hq2, hps⟩ := pair_at hp hx
        refine ⟨b, _, rfl, kk.sqt hb, rfl, _, _, rfl, _, _, rfl, rfl, rfl, ?_⟩
        refine ⟨_, rfl, _, rfl, A0, _, p, r.2, ns, rfl, .tup (kk.sqt hq2) (hps.k0 kk), hl2 r (List.mem_of_getElem? hr3), kk.sql hs (by simp), fun H1 k1 => ?_⟩
        exact hC _ _ k1 (by rw [hr3]; rfl)
      · intro H' kk e
        rw [ul, range_map] at e
        refine ⟨D, rs.map fun r => r.2.all (partOk ns), rfl, by rw [List.map_map]; exact SqL.of e, ?_⟩
        rw [List.all_map]
        exact k H' kk
def spPartsX (K : PySem.W.Frag) : Sp := fun vs H Q _ => ∃ (A : List Addr) (v : V) (ks : List KdX), vs = [v] ∧ Dx A K H v (kdsD ks) ∧ ks.length ≤ 5 ∧ (∀ d ∈ ks, d.2.length ≤ 4 ∧ ∀ r ∈ d.2, r.2.length ≤ 3) ∧
  ∀ H', Kp [] H H' → Q (.bl (ks.all fun k => k.2.all fun r => r.2.all (partOk (("mark" : Str) :: namesX ks)))) H'
theorem c_u_are_parts_kinds__x (T : Txt K mg aW) (c_u_kind_names__x : C8.Cal P w K mg base 1 "_kind_names" (spKindNamesX K) []) (c_u_has_all_parts__x : C8.Cal P w K mg base 2 "_has_all_parts" (spHasAllX K) []) (F : At_u_are_parts_kinds K mg) :
    C8.Cal P w K mg base 3 "_are_parts_kinds" (spPartsX K) [] := by
  have c_u_kind_names := c_u_kind_names__x
  have c_u_has_all_parts := c_u_has_all_parts__x
  refine F.cal sc_u_are_parts_kinds (fun vs H Q E h => ?_) (fun f cdv A outer s H vs Q E hr h => ?_)
  · obtain ⟨A, v, ks, rfl, _⟩ := h
    rfl
  · obtain ⟨A0, v, ks, rfl, hd, l5, l4, k⟩ := h
    have nd := sc_u_are_parts_kinds.nd
    refine ⟨_, (pss_cons (ps_set (i := 1) nd rfl (by first | exact Or.inl rfl | exact Or.inr rfl) (pe_op op_cat (pe_lst (pa_cons (C8.pe_gc rfl T.g_MARK) pa_nil)) (C8.pe_c c_u_kind_names hr (by decide) rfl (pa_cons (pv 0) pa_nil))))
      (pss_one (ps_ret (pe_callB (cr_all rfl) (by rfl) T.z_all (by decide +kernel) (pa_cons (pe_lc (own := [("_", 2), ("makers", 3)]) (g := (gTup _ 2 (gCons (gName 2) (gCons (gName 3) gNil)))) (tt := tYes) rfl nd (pi_tup (pv 0)) (blkOk_by (N := nn_u_are_parts_kinds) (sc := defScope st_u_are_parts_kinds) (own := [("_", 2), ("makers", 3)]) (by decide +kernel)) (fun _ _ _ _ _ => (pg_tup rfl (pgs_cons (pg_name (i := 2) nd rfl (by first | exact Or.inl rfl | exact Or.inr rfl)) (pgs_cons (pg_name (i := 3) nd rfl (by first | exact Or.inl rfl | exact Or.inr rfl)) pgs_nil)))) (fun _ _ _ _ _ => pts_nil) (fun _ _ _ _ _ => (C8.pe_c c_u_has_all_parts hr (by decide) rfl (pa_cons (pv 3) (pa_cons (pv 1) pa_nil))))) pa_nil))))), ?_⟩
    refine ⟨(by show 1 ≤ sizeLine; decide), fun p hp => ?_⟩
    have k0 : Kp [] H (upd H p (.lst [.str "mark"])) := Kp.new hp
    refine ⟨_, rfl, A0, _, ks.map (fun k => (k.1, k.2.map pairD)), rfl, by rw [← kds_tup]; exact hd.k0 k0, by rw [List.length_map]; omega, fun H1 q k1 hq e1 => ?_⟩
    have en : (ks.map (fun k => (k.1, k.2.map pairD))).map (·.1) = namesX ks := by rw [List.map_map]; rfl
    rw [en] at e1
    have ep : H1 p = some (.lst [.str "mark"]) := k1.old _ _ upd_same (by simp)
    refine ⟨p, q, _, _, rfl, rfl, ep, e1, ?_, fun r hr2 => ?_⟩
    · rw [List.length_map]
      exact Nat.le_of_lt (small1000 (by simp [namesX]; omega))
    have k2 : Kp [] H (upd H1 r (.lst ([V.str "mark"] ++ (namesX ks).map V.str))) := (k0.trans k1).new' hr2
    have sr : SqL K (upd H1 r (.lst ([V.str "mark"] ++ (namesX ks).map V.str))) r ((("mark" : Str) :: namesX ks).map V.str) := SqL.of upd_same
    cases hd with
    | @tup a us _ hq2 hp2 =>
      have ul := hp2.len
      rw [List.length_map] at ul
      refine ⟨_, rfl, a, rfl, ⟨_, k2.sqt hq2⟩, fun D hD => ?_⟩
      refine lcW (S := []) walk_tup (fun i => (ks[i]?).map fun d => V.bl (d.2.all fun r => r.2.all (partOk (("mark" : Str) :: namesX ks)))) hD (by simp) (small1000 (by omega)) (fun H' kk => kk.sqt (k2.sqt hq2)) ?_ ?_
      · rintro i x H' H'' C N hi kk ⟨rfl, hx⟩ hC hN
        obtain ⟨d, b, q, ws, hd, rfl, hb, hc, hrs⟩ := kind_at hp2 hx
        have dm := List.mem_of_getElem? hd
        have m4 := l4 d dm
        have kz := k2.trans kk
        refine ⟨b, _, rfl, kz.sqt hb, rfl, _, _, rfl, _, _, rfl, rfl, rfl, ?_⟩
        refine ⟨_, rfl, _, rfl, A0, _, r, d.2, _, rfl, .tup (kz.sqt hc) (hrs.k0 kz), by omega, fun r hr3 => ?_, kk.sql sr (by simp), fun H3 k3 => ?_⟩
        · have := m4.2 r hr3
          omega
        · exact hC _ _ k3 (by rw [hd]; rfl)
      · intro H' kk e
        rw [ul, range_map] at e
        refine ⟨D, ks.map fun d => d.2.all fun r => r.2.all (partOk (("mark" : Str) :: namesX ks)), rfl, by rw [List.map_map]; exact SqL.of e, ?_⟩
        rw [List.all_map]
        exact k H' (k2.trans kk)
/-- kinds whose parts are kinds: whether each has a tree -/
def spTreesX (K : PySem.W.Frag) : Sp := fun vs H Q _ => ∃ (v : V) (ks : Kds), vs = [v] ∧ KdsT K H v ks ∧ SmallK ks ∧ ∀ H', Kp [] H H' → Q (.bl (ks.all fun k => (lookS (leastS ks) k.1).isSome)) H'
theorem c_u_have_trees__x (T : Txt K mg aW) (c_least_sizes : C8.Cal P w K mg base 2 "least_sizes" (spLeastSizes K) []) (c_u_kind_names : C8.Cal P w K mg base 1 "_kind_names" (spKindNames K) []) (F : At_u_have_trees K mg) :
    C8.Cal P w K mg base 3 "_have_trees" (spTreesX K) [] := by
  refine F.cal sc_u_have_trees (fun vs H Q E h => ?_) (fun f cdv A outer s H vs Q E hr h => ?_)
  · obtain ⟨v, ks, rfl, _⟩ := h
    rfl
  · obtain ⟨v, ks, rfl, hk, g, k⟩ := h
    have nd := sc_u_have_trees.nd
    have hu := hu_of hr
    have l5 := g.a
    refine ⟨_, (pss_cons (ps_set (i := 1) nd rfl (by first | exact Or.inl rfl | exact Or.inr rfl) (C8.pe_c c_least_sizes hr (by decide) rfl (pa_cons (pv 0) pa_nil)))
      (pss_one (ps_ret (pe_callB (cr_all rfl) (by rfl) T.z_all (by decide +kernel) (pa_cons (pe_lc (own := [("kind", 2)]) (g := (gName 2)) (tt := tYes) rfl nd (pi_list (C8.pe_c c_u_kind_names hr (by decide) rfl (pa_cons (pv 0) pa_nil))) (blkOk_by (N := nn_u_have_trees) (sc := defScope st_u_have_trees) (own := [("kind", 2)]) (by decide +kernel)) (fun _ _ _ _ _ => (pg_name (i := 2) nd rfl (by first | exact Or.inl rfl | exact Or.inr rfl))) (fun _ _ _ _ _ => pts_nil) (fun _ _ _ _ _ => (pe_cmp (pc_din hu (pv 2) (pv 1)) rfl))) pa_nil))))), ?_⟩
    refine ⟨_, rfl, _, ks, rfl, hk, g, fun H1 d k1 hd e1 => ?_⟩
    refine ⟨_, rfl, _, ks, rfl, hk.kp k1, l5, fun H2 p k2 hp e2 => ⟨p, rfl, ⟨_, SqL.of e2⟩, fun D hD => ?_⟩⟩
    have d2 := k2.old _ _ e1 (by simp)
    refine lcW (S := []) walk_list (fun i => ((kindNames ks)[i]?).map fun x => V.bl (lookS (leastS ks) x).isSome) hD (by simp) (small1000 (by simp [kindNames]; omega)) (fun H' kk => kk.sql (SqL.of e2) (by simp)) ?_ ?_
    · rintro i x H' H'' C N hi kk ⟨rfl, hx⟩ hC hN
      rw [List.getElem?_map] at hx
      obtain ⟨p, hp, rfl⟩ := Option.map_eq_some_iff.mp hx
      refine ⟨rfl, ⟨_, rfl, _, rfl, d, _, rfl, DGet.k (k := (Sum.inr p : Key)) (kk.old _ _ d2 (by simp)), ?_⟩⟩
      refine hC _ _ Kp.refl ?_
      rw [hp, dictS_val, Option.isSome_map]
      rfl
    · intro H' kk e
      rw [List.length_map, range_map] at e
      refine ⟨D, (kindNames ks).map fun x => (lookS (leastS ks) x).isSome, rfl, by rw [List.map_map]; exact SqL.of e, ?_⟩
      have et : ((kindNames ks).map fun x => (lookS (leastS ks) x).isSome).all id = ks.all fun k => (lookS (leastS ks) k.1).isSome := by rw [List.all_map, kindNames, List.all_map]; rfl
      rw [et]
      exact k H' ((k1.trans k2).trans kk)
/-- kinds with parts that are texts, as they lie -/
theorem strs_lie {A : List Addr} {H : Hp} : ∀ {xs : List Str} {us : List V}, DxAll A K H us (xs.map PyData.str) → us = xs.map V.str
  | [], _, h => by cases h; rfl
  | x :: r, _, h => by
    cases h with
    | cons a b =>
      cases a
      rw [strs_lie b]
      rfl
theorem row_lie {A : List Addr} {H : Hp} {v : V} {r : Rw} (h : Dx A K H v (pairD (ofRw r))) : RowT K H v r := by
  cases h with
  | @tup b xs _ hq ha =>
    cases ha with
    | cons g1 g2 =>
      cases g1
      cases g2 with
      | cons g3 g4 =>
        cases g4
        cases g3 with
        | @tup q ws _ hq2 ha2 =>
          have e := strs_lie ha2
          subst e
          exact ⟨b, _, rfl, hq, q, rfl, hq2⟩
theorem rows_lieX {A : List Addr} {H : Hp} : ∀ {rs : List Rw} {us : List V}, DxAll A K H us ((rs.map ofRw).map pairD) → Paired (RowT K H) us rs
  | [], _, h => by cases h; exact .nil
  | r :: t, _, h => by
    cases h with
    | cons a b => exact .cons (row_lie a) (rows_lieX b)
theorem kind_lie {A : List Addr} {H : Hp} {v : V} {k : Kd} (h : Dx A K H v (kindD (ofKd k))) : KindT K H v k := by
  cases h with
  | @tup b xs _ hq ha =>
    cases ha with
    | cons g1 g2 =>
      cases g1
      cases g2 with
      | cons g3 g4 =>
        cases g4
        cases g3 with
        | @tup q ws _ hq2 ha2 => exact ⟨b, _, rfl, hq, q, _, rfl, hq2, rows_lieX ha2⟩
theorem kdsAll_lie {A : List Addr} {H : Hp} : ∀ {ks : Kds} {us : List V}, DxAll A K H us ((ofKds ks).map kindD) → Paired (KindT K H) us ks
  | [], _, h => by cases h; exact .nil
  | r :: t, _, h => by
    cases h with
    | cons a b => exact .cons (kind_lie a) (kdsAll_lie b)
theorem kds_lie {A : List Addr} {H : Hp} {v : V} {ks : Kds} (h : Dx A K H v (kdsD (ofKds ks))) : KdsT K H v ks := by
  cases h with
  | @tup b xs _ hq ha => exact ⟨b, _, rfl, hq, kdsAll_lie ha⟩
theorem mem_weight {ds : List PyData} {d : PyData} (h : d ∈ ds) : d.weight ≤ PyData.weightAll ds := by
  induction ds with
  | nil => cases h
  | cons e r ih =>
    rw [PyData.weightAll]
    rcases List.mem_cons.mp h with z | z
    · subst z; omega
    · have := ih z; omega
theorem part_weight {p : Pr} {d : PyData} (h : d ∈ p.2) : d.weight ≤ (pairD p).weight := by
  have := mem_weight h
  simp only [pairD, PyData.weight, PyData.weightAll]
  omega
/-- anything: whether it is kinds -/
def spIsKindsX (K : PySem.W.Frag) : Sp := fun vs H Q _ => ∃ (A : List Addr) (v : V) (d : PyData), vs = [v] ∧ Dx A K H v d ∧ d.weight ≤ 100000 ∧ ∀ H' (b : Bool), Kp [] H H' → (b = true ↔ IsKinds d) → Q (.bl b) H'
set_option maxHeartbeats 1000000 in
theorem c_is_kinds__x (T : Txt K mg aW) (c_u_is_row__x : C8.Cal P w K mg base 1 "_is_row" (spIsRowX K) []) (c_u_is_named__x : C8.Cal P w K mg base 2 "_is_named" (spIsNamedX K) []) (c_u_are_names_unlike__x : C8.Cal P w K mg base 2 "_are_names_unlike" (spUnlikeX K) [])
    (c_u_are_parts_kinds__x : C8.Cal P w K mg base 3 "_are_parts_kinds" (spPartsX K) []) (c_u_have_trees__x : C8.Cal P w K mg base 3 "_have_trees" (spTreesX K) []) (F : At_is_kinds K mg) : C8.Cal P w K mg base 4 "is_kinds" (spIsKindsX K) [] := by
  have c_u_is_row := c_u_is_row__x
  have c_u_is_named := c_u_is_named__x
  have c_u_are_names_unlike := c_u_are_names_unlike__x
  have c_u_are_parts_kinds := c_u_are_parts_kinds__x
  have c_u_have_trees := c_u_have_trees__x
  refine F.cal sc_is_kinds (fun vs H Q E h => ?_) (fun f cdv A outer s H vs Q E hr h => ?_)
  · obtain ⟨A, v, d, rfl, _⟩ := h
    rfl
  · obtain ⟨A0, v, d, rfl, hd, hw, k⟩ := h
    have nd := sc_is_kinds.nd
    have no : ∀ H', Kp [] H H' → ¬ IsKinds d → Q (.bl false) H' := fun H' kk z => k H' false kk ⟨fun z => (nomatch z), fun z' => absurd z' z⟩
    refine ⟨_, (pss_cons (ps_if (pt_not (pt_val (C8.pe_c c_u_is_row hr (by decide) rfl (pa_cons (pv 0) (pa_cons pe_int (pa_cons (C8.pe_gc rfl T.g_MOST_KINDS) pa_nil)))))) (pss_one (ps_ret pe_bl)) pss_nil)
      (pss_cons (ps_if (pt_not (pt_val (pe_callB (cr_all rfl) (by rfl) T.z_all (by decide +kernel) (pa_cons (pe_lc (own := [("named", 2)]) (g := (gName 2)) (tt := tYes) rfl nd (pi_tup (pv 0)) (blkOk_by (N := nn_is_kinds) (sc := defScope st_is_kinds) (own := [("named", 2)]) (by decide +kernel)) (fun _ _ _ _ _ => (pg_name (i := 2) nd rfl (by first | exact Or.inl rfl | exact Or.inr rfl))) (fun _ _ _ _ _ => pts_nil) (fun _ _ _ _ _ => (C8.pe_c c_u_is_named hr (by decide) rfl (pa_cons (pv 2) (pa_cons pe_int (pa_cons (C8.pe_gc rfl T.g_MOST_MAKERS) pa_nil)))))) pa_nil)))) (pss_one (ps_ret pe_bl)) pss_nil)
      (pss_cons (ps_setLc2 (i := 1) (own := [("_", 3), ("row", 4), ("named", 2)]) (vs1 := [2]) (wi1 := iTup K (tVar 4)) (g := (gTup _ 2 (gCons (gName 3) (gCons (gName 4) gNil)))) (g1 := (gName 2)) (tt := tYes) (tt1 := tYes) rfl nd rfl rfl (sw_true rfl rfl rfl (by decide +kernel)) (pi_tup (pv 0)) (blkOk_by (N := nn_is_kinds) (sc := defScope st_is_kinds) (own := [("_", 3), ("row", 4), ("named", 2)]) (by decide +kernel)) (by decide) (fun _ _ _ _ _ => (pg_tup rfl (pgs_cons (pg_name (i := 3) nd rfl (by first | exact Or.inl rfl | exact Or.inr rfl)) (pgs_cons (pg_name (i := 4) nd rfl (by first | exact Or.inl rfl | exact Or.inr rfl)) pgs_nil)))) (fun _ _ _ _ _ => pts_nil) (by exact fun _ _ _ _ _ => (pi_tup (pv 4))) (fun _ _ _ _ _ => (pg_name (i := 2) nd rfl (by first | exact Or.inl rfl | exact Or.inr rfl))) (fun _ _ _ _ _ => pts_nil) (fun _ _ _ _ _ => (pv 2)))
      (pss_cons (ps_if (pt_not (pt_val (pe_callB (cr_all rfl) (by rfl) T.z_all (by decide +kernel) (pa_cons (pe_lc (own := [("named", 2)]) (g := (gName 2)) (tt := tYes) rfl nd (pi_list (pv 1)) (blkOk_by (N := nn_is_kinds) (sc := defScope st_is_kinds) (own := [("named", 2)]) (by decide +kernel)) (fun _ _ _ _ _ => (pg_name (i := 2) nd rfl (by first | exact Or.inl rfl | exact Or.inr rfl))) (fun _ _ _ _ _ => pts_nil) (fun _ _ _ _ _ => (C8.pe_c c_u_is_named hr (by decide) rfl (pa_cons (pv 2) (pa_cons pe_int (pa_cons (C8.pe_gc rfl T.g_MOST_PARTS) pa_nil)))))) pa_nil)))) (pss_one (ps_ret pe_bl)) pss_nil)
      (pss_one (ps_ret (pe_and (C8.pe_c c_u_are_names_unlike hr (by decide) rfl (pa_cons (pv 0) pa_nil)) (pe_and (C8.pe_c c_u_are_parts_kinds hr (by decide) rfl (pa_cons (pv 0) pa_nil)) (pe_one (C8.pe_c c_u_have_trees hr (by decide) rfl (pa_cons (pv 0) pa_nil))))))))))), ?_⟩
    refine ⟨_, rfl, A0, v, d, 1, 5, rfl, hd, _, rfl, ?_⟩
    rcases (Classical.em (rowD d 1 5 = true)).symm with h1 | h1
    · have h1' : rowD d 1 5 = false := by simpa using h1
      exact iteB (by rw [h1']; rfl) (no H Kp.refl fun z => h1 (isKinds_row z))
    refine iteBn (by rw [h1]; rfl) ?_
    obtain ⟨ds, rfl, d1, d5⟩ := rowD_tup h1
    cases hd with
    | @tup a us _ hq hp =>
    have ul := hp.len
    rw [PyData.weight] at hw
    refine ⟨_, rfl, a, rfl, ⟨_, hq⟩, fun D hD => ?_⟩
    refine lcW (S := []) walk_tup (fun i => (ds[i]?).map fun d => V.bl (namedD d 1 4)) hD (by simp) (small1000 (by omega)) (fun H' kk => kk.sqt hq) ?_ ?_
    · rintro i x H' H'' C N hi kk ⟨rfl, hx⟩ hC hN
      obtain ⟨d, hd, h2⟩ := hp.get hx
      have wd := mem_weight (List.mem_of_getElem? hd)
      refine ⟨rfl, ⟨_, rfl, A0, _, d, 1, 4, rfl, h2.k0 kk, by omega, fun H1 k1 => ?_⟩⟩
      exact hC _ _ k1 (by rw [hd]; rfl)
    intro H1 k1 e1
    rw [ul, range_map] at e1
    refine ⟨D, ds.map (namedD · 1 4), rfl, by rw [List.map_map]; exact SqL.of e1, _, rfl, ?_⟩
    have ea : (ds.map (namedD · 1 4)).all id = ds.all (namedD · 1 4) := by rw [List.all_map]; rfl
    rcases (Classical.em (ds.all (namedD · 1 4) = true)).symm with h2 | h2
    · have h2' : ds.all (namedD · 1 4) = false := by simpa only [Bool.not_eq_true] using h2
      exact iteB (by rw [ea, h2']; rfl) (no H1 k1 fun z => h2 (isKinds_named z))
    refine iteBn (by rw [ea, h2]; rfl) ?_
    obtain ⟨ps, rfl, hps⟩ := namedD_all h2
    rw [List.length_map] at ul d1 d5
    -- makers
    refine ⟨_, rfl, a, rfl, ⟨_, k1.sqt hq⟩, fun D2 hD2 => ?_⟩
    obtain ⟨wss, wl, wp, wi⟩ := pairs_lie hp
    have fl := wp.len
    have rl : (ps.flatMap (·.2)).length ≤ 20 := by
      have : (ps.flatMap (·.2)).length ≤ ps.length * 4 := by
        have hh : ∀ p ∈ ps, p.2.length ≤ 4 := fun p hp => (hps p hp).2.2
        clear h2 h1 hp wp wi fl ul d1 d5 hps ea e1 no k hw
        induction ps with
        | nil => simp
        | cons d r ih =>
          have h1 := ih fun d hd => hh d (List.mem_cons_of_mem _ hd)
          have h2 := hh d List.mem_cons_self
          rw [List.flatMap_cons, List.length_append, List.length_cons, Nat.add_mul, Nat.one_mul]
          omega
      omega
    refine lcO (S := []) walk_tup (fun i => (wss.take i).flatten) (by simp) hD2 (fun H' kk => kk.sqt (k1.sqt hq)) ?_ ?_
    · rintro i x H' H'' hi kk e ⟨rfl, hx⟩
      obtain ⟨p, b, b2, ws, hd, rfl, hb, hb2, hw2, hr2⟩ := wi i x hx
      have dm := List.mem_of_getElem? hd
      have m4 := (hps p dm).2.2
      have wl2 := hr2.len
      have kz := k1.trans kk
      refine ⟨b, _, rfl, kz.sqt hb, rfl, _, _, rfl, _, _, rfl, rfl, rfl, ?_⟩
      refine ⟨_, rfl, b2, rfl, ⟨_, kz.sqt hb2⟩, ?_⟩
      have zl : (wss.take i).flatten.length ≤ 20 := by
        have h1 : (wss.take i).flatten.length ≤ wss.flatten.length := by
          conv => rhs; rw [← List.take_append_drop i wss, List.flatten_append, List.length_append]
          omega
        omega
      refine lcI (S := []) walk_tup (fun j => ws[j]?) _ hD2 (by simp) kk e (small1000 (by omega)) (fun H' k2 => k2.sqt (k1.sqt hb2)) ?_ ?_
      · rintro j y H3 H4 C N hj k3 ⟨rfl, hy⟩ hC hN
        exact ⟨rfl, ⟨_, rfl, hC _ _ Kp.refl hy⟩⟩
      · intro H3 k3 e3
        refine ⟨k3, ?_⟩
        rw [range_self] at e3
        rw [e3, flatten_take hw2]
    intro H2 k2 e2
    have tk : wss.take us.length = wss := by rw [← wl, List.take_length]
    rw [tk] at e2
    have k12 := k1.trans k2
    refine ⟨_, rfl, D2, rfl, ⟨_, SqL.of e2⟩, fun D3 hD3 => ?_⟩
    refine lcW (S := []) walk_list (fun i => ((ps.flatMap (·.2))[i]?).map fun d => V.bl (namedD d 0 3)) hD3 (by simp) (small1000 (by omega)) (fun H' kk => kk.sql (SqL.of e2) (by simp)) ?_ ?_
    · rintro i x H' H'' C N hi kk ⟨rfl, hx⟩ hC hN
      obtain ⟨d, hd, h3⟩ := wp.get hx
      obtain ⟨p, hp1, hp2⟩ := List.mem_flatMap.mp (List.mem_of_getElem? hd)
      have w1 := part_weight hp2
      have w2 := mem_weight (List.mem_map.mpr ⟨p, hp1, rfl⟩ : pairD p ∈ ps.map pairD)
      refine ⟨rfl, ⟨_, rfl, A0, _, d, 0, 3, rfl, h3.k0 (k12.trans kk), by omega, fun H3 k3 => ?_⟩⟩
      exact hC _ _ k3 (by rw [hd]; rfl)
    intro H3 k3 e3
    rw [fl, range_map] at e3
    have k13 := k12.trans k3
    refine ⟨D3, (ps.flatMap (·.2)).map (namedD · 0 3), rfl, by rw [List.map_map]; exact SqL.of e3, _, rfl, ?_⟩
    have eb : ((ps.flatMap (·.2)).map (namedD · 0 3)).all id = (ps.flatMap (·.2)).all (namedD · 0 3) := by rw [List.all_map]; rfl
    rcases (Classical.em ((ps.flatMap (·.2)).all (namedD · 0 3) = true)).symm with h4 | h4
    · have h4' : (ps.flatMap (·.2)).all (namedD · 0 3) = false := by simpa only [Bool.not_eq_true] using h4
      exact iteB (by rw [eb, h4']; rfl) (no H3 k13 fun z => h4 (isKinds_makers z))
    refine iteBn (by rw [eb, h4]; rfl) ?_
    obtain ⟨ks, ek, en, el, hks⟩ := kinds_all (ps := ps) (l := 0) (m := 3) fun p hp => List.all_eq_true.mpr fun d hd => List.all_eq_true.mp h4 d (List.mem_flatMap.mpr ⟨p, hp, hd⟩)
    have kl : ps.length = ks.length := by have := congrArg List.length en; simpa using this
    have l4 : ∀ d ∈ ks, isName d.1 = true ∧ 1 ≤ d.2.length ∧ d.2.length ≤ 4 := fun d hd => by
      obtain ⟨i, hi, e⟩ := List.getElem_of_mem hd
      have hi2 : i < ps.length := by omega
      have x1 : ps[i].1 = d.1 := by
        have := congrArg (fun l => l[i]?) en
        simp only [List.getElem?_map, List.getElem?_eq_getElem hi, List.getElem?_eq_getElem hi2, Option.map_some, e] at this
        exact Option.some.inj this
      have x2 : ps[i].2.length = d.2.length := by
        have := congrArg (fun l => l[i]?) el
        simp only [List.getElem?_map, List.getElem?_eq_getElem hi, List.getElem?_eq_getElem hi2, Option.map_some, e] at this
        exact Option.some.inj this
      have := hps ps[i] (List.getElem_mem hi2)
      rw [x1, x2] at this
      exact this
    have hdk : Dx A0 K H (.ref a) (kdsD ks) := by
      unfold kdsD
      rw [← ek]
      exact .tup hq hp
    have no' : ∀ H', Kp [] H H' → ¬ IsKinds (kdsD ks) → Q (.bl false) H' := fun H' kk z => no H' kk (by rw [ek]; exact z)
    refine ⟨_, rfl, A0, _, ks, rfl, hdk.k0 k13, by omega, fun d hd => (l4 d hd).2.2, fun H4 k4 => ⟨_, rfl, ?_⟩⟩
    have k14 := k13.trans k4
    rcases (Classical.em ((allX ks).Nodup)).symm with h5 | h5
    · exact iteBn (decide_eq_false h5) (no' H4 k14 fun z => h5 (isKinds_unlike z))
    refine iteB (decide_eq_true h5) ?_
    refine ⟨_, rfl, A0, _, ks, rfl, hdk.k0 k14, by omega, fun d hd => ⟨(l4 d hd).2.2, fun r hr => (hks d hd r hr).2.2⟩, fun H5 k5 => ⟨_, rfl, ?_⟩⟩
    have k15 := k14.trans k5
    rcases (Classical.em ((ks.all fun k => k.2.all fun r => r.2.all (partOk (("mark" : Str) :: namesX ks))) = true)).symm with h6 | h6
    · have h6' := by simpa only [Bool.not_eq_true] using h6
      exact iteBn h6' (no' H5 k15 fun z => h6 (isKinds_parts z))
    refine iteB h6 ?_
    obtain ⟨kd, rfl, hkd⟩ := kds_of h6
    have sm : SmallK kd := ⟨by simp [ofKds] at kl; omega, fun d hd => by
        have := l4 (ofKd d) (List.mem_map.mpr ⟨d, hd, rfl⟩)
        simp [ofKd] at this
        omega, fun d hd r hr => by
        have := hks (ofKd d) (List.mem_map.mpr ⟨d, hd, rfl⟩) (ofRw r) (List.mem_map.mpr ⟨r, hr, rfl⟩)
        simp [ofRw] at this
        omega⟩
    refine ⟨_, rfl, _, kd, rfl, kds_lie (hdk.k0 k15), sm, fun H6 k6 => ?_⟩
    refine k H6 _ (k15.trans k6) ?_
    rw [ek]
    constructor
    · intro ht
      refine ⟨kd, rfl, wf_of (by simp [ofKds] at kl; omega) (by simp [ofKds] at kl; omega) (fun d hd => ?_) (fun d hd r hr => ?_) (fun d hd r hr p hp => ?_) ?_ (fun d hd => List.all_eq_true.mp ht d hd)⟩
      · have := l4 (ofKd d) (List.mem_map.mpr ⟨d, hd, rfl⟩)
        simpa [ofKd] using this
      · have := hks (ofKd d) (List.mem_map.mpr ⟨d, hd, rfl⟩) (ofRw r) (List.mem_map.mpr ⟨r, hr, rfl⟩)
        simpa [ofRw] using this
      · have := hkd d hd r hr p hp
        rw [names_of] at this
        exact this
      · rw [allX, names_of, makers_of] at h5
        exact h5
    · intro z
      exact List.all_eq_true.mpr fun d hd => isKinds_trees z d hd
end

end Md

namespace Md
open PySem PySem.Spec PyProof.Rows L2

/-! ### written out -/
structure Sh (D W : Nat) (d : PyData) : Prop where
  sh : d.showable = true
  nd : d.hasDict = false
  lv : d.leavesShort 13 = true
  dp : d.depth ≤ D
  wt : d.weight ≤ W
theorem Sh.shows {D W : Nat} {d : PyData} (s : Sh D W d) (hD : D ≤ 40) (hW : W ≤ 1000000) : Shows d :=
  ⟨s.sh, s.nd, Nat.le_trans s.dp hD, by
    have h := PyData.shown_le 13 (by decide) d s.lv
    have w := s.wt
    have z : sizeLine = 16777216 := rfl
    omega⟩
theorem Sh.more {D W D' W' : Nat} {d : PyData} (s : Sh D W d) (hD : D ≤ D') (hW : W ≤ W') : Sh D' W' d := ⟨s.sh, s.nd, s.lv, Nat.le_trans s.dp hD, Nat.le_trans s.wt hW⟩
theorem Sh.tup {D W L : Nat} {ds : List PyData} (h : ∀ d ∈ ds, Sh D W d) (hl : ds.length ≤ L) : Sh (D + 1) (L * (W + 1)) (.tuple ds) := by
  have aux : ∀ ds : List PyData, (∀ d ∈ ds, Sh D W d) → PyData.showableAll ds = true ∧ PyData.hasDictAll ds = false ∧ PyData.leavesShortAll 13 ds = true ∧ PyData.depthAll ds ≤ D ∧ PyData.weightAll ds ≤ ds.length * (W + 1) := by
    intro ds
    induction ds with
    | nil => intro _; exact ⟨by simp only [PyData.showableAll], by simp only [PyData.hasDictAll], by simp only [PyData.leavesShortAll], by simp only [PyData.depthAll]; exact Nat.zero_le _, by simp only [PyData.weightAll]; exact Nat.zero_le _⟩
    | cons d r ih =>
      intro h
      obtain ⟨a1, a2, a3, a4, a5⟩ := ih fun x hx => h x (List.mem_cons_of_mem _ hx)
      have s := h d List.mem_cons_self
      refine ⟨by simp only [PyData.showableAll, s.sh, a1, Bool.and_self], by simp only [PyData.hasDictAll, s.nd, a2, Bool.or_self], by simp only [PyData.leavesShortAll, s.lv, a3, Bool.and_self], ?_, ?_⟩
      · simp only [PyData.depthAll]
        have := s.dp
        omega
      · simp only [PyData.weightAll, List.length_cons, Nat.add_mul]
        have := s.wt
        omega
  obtain ⟨a1, a2, a3, a4, a5⟩ := aux ds h
  refine ⟨by simp only [PyData.showable, a1], by simp only [PyData.hasDict, a2], by simp only [PyData.leavesShort, a3], by simp only [PyData.depth]; omega, ?_⟩
  simp only [PyData.weight]
  exact Nat.le_trans a5 (Nat.mul_le_mul_right _ hl)
def LowS (x : Str) : Prop := x.length ≤ 20 ∧ ∀ c ∈ x.cps.toList, c < 4294967296
theorem Sh.str {x : Str} (h : LowS x) : Sh 0 20 (.str x) :=
  ⟨by simp only [PyData.showable], by simp only [PyData.hasDict], by
    simp only [PyData.leavesShort]
    exact List.all_eq_true.mpr fun c m => decide_eq_true (Nat.lt_of_lt_of_le (h.2 c m) (by decide)), by simp only [PyData.depth]; exact Nat.le_refl _, by simp only [PyData.weight]; exact h.1⟩
theorem LowS.name {x : Str} (h : isName x = true) : LowS x := by
  unfold isName at h
  simp only [Bool.and_eq_true, decide_eq_true_eq, List.all_eq_true] at h
  exact ⟨by omega, fun c m => by have := h.2 c m; omega⟩
theorem LowS.mark : LowS "mark" := ⟨by decide +kernel, by decide +kernel⟩
def dStrs (ps : List Str) : PyData := .tuple (ps.map .str)
def dRow (r : Rw) : PyData := .tuple [.str r.1, dStrs r.2]
def dRows (rs : List Rw) : PyData := .tuple (rs.map dRow)
def dKind (d : Kd) : PyData := .tuple [.str d.1, dRows d.2]
def dKds (ks : Kds) : PyData := .tuple (ks.map dKind)
section
variable {K : PySem.W.Frag} {H : Hp}
theorem dpAll_strs : ∀ ps : List Str, DpAll K H (ps.map V.str) (ps.map .str)
  | [] => .nil
  | x :: r => .cons (.str x) (dpAll_strs r)
theorem dp_strs {v : V} {ps : List Str} (h : StrsT K H v ps) : Dp K H v (dStrs ps) := by
  obtain ⟨a, rfl, q⟩ := h
  exact .tup q (dpAll_strs ps)
theorem dp_row {v : V} {r : Rw} (h : RowT K H v r) : Dp K H v (dRow r) := by
  obtain ⟨a, q, rfl, e, p⟩ := h
  exact .tup e (.cons (.str _) (.cons (dp_strs p) .nil))
theorem dpAll_of {α : Type} {F : V → α → Prop} {g : α → PyData} (f : ∀ v x, F v x → Dp K H v (g x)) : ∀ {vs : List V} {xs : List α}, Paired F vs xs → DpAll K H vs (xs.map g)
  | _, _, .nil => .nil
  | _, _, .cons h t => .cons (f _ _ h) (dpAll_of f t)
theorem dp_rows {v : V} {rs : List Rw} (h : RowsT K H v rs) : Dp K H v (dRows rs) := by
  obtain ⟨a, vs, rfl, e, p⟩ := h
  exact .tup e (dpAll_of (fun _ _ z => dp_row z) p)
theorem dp_kind {v : V} {d : Kd} (h : KindT K H v d) : Dp K H v (dKind d) := by
  obtain ⟨a, q, rfl, e, p⟩ := h
  exact .tup e (.cons (.str _) (.cons (dp_rows p) .nil))
theorem dp_kds {v : V} {ks : Kds} (h : KdsT K H v ks) : Dp K H v (dKds ks) := by
  obtain ⟨a, vs, rfl, e, p⟩ := h
  exact .tup e (dpAll_of (fun _ _ z => dp_kind z) p)
end

/-! ### lists against the empty one -/
theorem eqv_nil : ∀ ds : List PyData, PyData.eqv (.list ds) (.list []) = ds.isEmpty
  | [] => by decide
  | d :: r => by simp only [PyData.eqv, PyData.eqvAll, List.isEmpty]
structure Shp (D : Nat) (d : PyData) : Prop where
  cl : d.canLay0 = true
  dp : d.depth ≤ D
theorem Shp.shaped {D : Nat} {d : PyData} (h : Shp D d) (hD : D ≤ 64) : SeqAt.shaped d = true := by
  unfold SeqAt.shaped
  rw [h.cl, decide_eq_true (Nat.le_trans h.dp hD)]
  rfl
theorem Shp.all {D : Nat} {ds : List PyData} (h : ∀ d ∈ ds, Shp D d) : PyData.canLayAll0 ds = true ∧ PyData.depthAll ds ≤ D := by
  induction ds with
  | nil => exact ⟨by simp only [PyData.canLayAll0], by simp only [PyData.depthAll]; exact Nat.zero_le _⟩
  | cons d r ih =>
    obtain ⟨a, b⟩ := ih fun x hx => h x (List.mem_cons_of_mem _ hx)
    have s := h d List.mem_cons_self
    refine ⟨by simp only [PyData.canLayAll0, s.cl, a, Bool.and_self], ?_⟩
    simp only [PyData.depthAll]
    have := s.dp
    omega
theorem Shp.lst {D : Nat} {ds : List PyData} (h : ∀ d ∈ ds, Shp D d) : Shp (D + 1) (.list ds) := by
  obtain ⟨a, b⟩ := Shp.all h
  exact ⟨by simp only [PyData.canLay0, a], by simp only [PyData.depth]; omega⟩
theorem Shp.tup {D : Nat} {ds : List PyData} (h : ∀ d ∈ ds, Shp D d) : Shp (D + 1) (.tuple ds) := by
  obtain ⟨a, b⟩ := Shp.all h
  exact ⟨by simp only [PyData.canLay0, a], by simp only [PyData.depth]; omega⟩
theorem Shp.int (i : Int) : Shp 0 (.int i) := ⟨by simp only [PyData.canLay0], by simp only [PyData.depth]; exact Nat.le_refl _⟩
def LowA (x : Str) : Prop := ∀ c ∈ x.cps.toList, c < 1000
theorem LowA.name {x : Str} (h : isName x = true) : LowA x := by
  unfold isName at h
  simp only [Bool.and_eq_true, decide_eq_true_eq, List.all_eq_true] at h
  exact fun c m => by have := h.2 c m; omega
theorem LowA.mark : LowA "mark" := by unfold LowA; decide +kernel
theorem strOk_low {x : Str} (h : LowA x) : PyData.strOk x = true := by
  unfold PyData.strOk
  rw [← Array.all_toList]
  exact List.all_eq_true.mpr fun c m => decide_eq_true (by have := h c m; omega)
theorem GoodK.lowN {ks : Kds} (g : GoodK ks) {x : Str} (h : x = "mark" ∨ x ∈ kindNames ks) : LowA x := by
  rcases h with z | z
  · subst z; exact LowA.mark
  · obtain ⟨e, he, rfl⟩ := List.mem_map.mp z
    exact LowA.name (g.kn e he)
theorem Shp.str {x : Str} (h : LowA x) : Shp 0 (.str x) := ⟨by simp only [PyData.canLay0]; exact strOk_low h, by simp only [PyData.depth]; exact Nat.le_refl _⟩
/-! ### comprehensions with a test whose items are objects -/
section
variable {J : It} {n : Nat} {G : Hp → Prop} {Y : Nat → Hp → V → Hp → Prop} {S : List Addr} {D : Addr} {H : Hp} {g : TG} {tt : TT} {te : TE} {vs : List Nat} {σ : L2.St} {Qd : Hp → Prop}
theorem lcB (wk : Walk J n G Y) (I : Nat → List V → Hp → Prop) (hI : ∀ i acc H1 H2, Kp [D] H1 H2 → I i acc H1 → I i acc H2) (I0 : I 0 [] H) (hD : H D = none) (hS : D ∉ S) (hz : n < sizeLine) (hG : ∀ H', Kp S H H' → G H')
    (hs : ∀ i x H' H'' acc (C : V → Hp → Prop) (N : Hp → Prop), i < n → acc.length ≤ i → Kp S H H' → I i acc H' → Y i H' x H'' → (∀ y H4, Kp S H' H4 → I (i + 1) (acc ++ [y]) H4 → C y H4) → (∀ H4, Kp S H' H4 → I (i + 1) acc H4 → N H4) →
      g x (wipe σ vs) H'' fun σ2 H2 => wipe σ2 vs = wipe σ vs ∧ tt σ2 H2 fun b H3 => if b = true then te σ2 H3 C else N H3)
    (hd : ∀ H' ys, Kp S H H' → I n ys H' → H' D = some (.lst ys) → ys.length ≤ n → Qd H') :
    ∃ W : Nat → Nat → Hp → Prop, (∃ m, W 0 m (upd H D (.lst []))) ∧ ∀ i m H, W i m H → (J.stop i H ∧ Qd H) ∨ (J.go i H ∧ ∃ Nx : Hp → Prop, (∀ H', Nx H' → ∃ m', m' < m ∧ W (i + 1) m' H') ∧
      ∀ x H', J.yld i H x H' → g x (wipe σ vs) H' fun σ2 H2 => wipe σ2 vs = wipe σ vs ∧ tt σ2 H2 fun b H3 => if b = true then te σ2 H3 fun y H4 => ∃ acc, H4 D = some (.lst acc) ∧ acc.length < sizeLine ∧ Nx (upd H4 D (.lst (acc ++ [y]))) else Nx H3) := by
  refine lc_it wk (fun i H' => Kp S H H' ∧ ∃ ys : List V, H' D = some (.lst ys) ∧ ys.length ≤ i ∧ I i ys H') ⟨Kp.new hD, [], upd_same, Nat.le_refl _, hI _ _ _ _ (Kp.new hD) I0⟩ (fun i H' _ p => hG H' p.1) ?_ (fun H' p => ?_)
  · intro i x H' H'' hi p y
    obtain ⟨p1, ys, p2, p3, p4⟩ := p
    exact hs i x H' H'' ys _ _ hi p3 p1 p4 y
      (fun v H4 k e => ⟨ys, k.old _ _ p2 hS, by omega, (p1.trans k).own hD, ys ++ [v], upd_same, by rw [List.length_append]; simp; omega, hI _ _ _ _ (Kp.wr (k.old _ _ p2 hS) (by simp)) e⟩)
      (fun H4 k e => ⟨p1.trans k, ys, k.old _ _ p2 hS, by omega, e⟩)
  · obtain ⟨p1, ys, p2, p3, p4⟩ := p
    exact hd H' ys p1 p4 p2 p3
end

/-! ### the law's own look at names -/
section
variable {P : Program} {w : World} {K : PySem.W.Frag} {mg : Str → Option Value} {base : Heap} {aW : Addr}
/-- the words, in a new list -/
def spWords : Sp := fun vs H Q _ => vs = [] ∧ ∀ H' p, Kp [] H H' → H p = none → H' p = some (.lst (wordsL.map V.str)) → Q (.ref p) H'
theorem c_law_words (F : At_law_words K mg) : C8.Cal P w K mg base 1 "_law_words" spWords [] := by
  refine F.cal sc_law_words (fun vs H Q E h => ?_) (fun f cdv A outer s H vs Q E hr h => ?_)
  · obtain ⟨rfl, _⟩ := h
    rfl
  · obtain ⟨rfl, k⟩ := h
    have nd := sc_law_words.nd
    refine ⟨_, (pss_one (ps_ret (pe_lst (pa_cons pe_str (pa_cons pe_str (pa_cons pe_str (pa_cons pe_str (pa_cons pe_str (pa_cons pe_str (pa_cons pe_str (pa_cons pe_str pa_nil))))))))))), ?_⟩
    exact ⟨(by show 8 ≤ sizeLine; decide), fun p hp => k _ p (Kp.new hp) hp upd_same⟩
theorem signs_odd {K : PySem.W.Frag} {H : Hp} : ∀ l : List Nat, (∀ c ∈ l, c < 1000) →
    DpAll K H (l.filterMap fun c => if (decide (97 ≤ c) && decide (c ≤ 122)) = true then none else some (V.str ⟨#[c]⟩)) (l.filterMap fun c => if (decide (97 ≤ c) && decide (c ≤ 122)) = true then none else some (PyData.str ⟨#[c]⟩)) ∧
    (∀ x ∈ (l.filterMap fun c => if (decide (97 ≤ c) && decide (c ≤ 122)) = true then none else some (PyData.str ⟨#[c]⟩)), Shp 0 x) ∧
    (l.filterMap fun c => if (decide (97 ≤ c) && decide (c ≤ 122)) = true then none else some (PyData.str ⟨#[c]⟩)).isEmpty = l.all fun c => decide (97 ≤ c) && decide (c ≤ 122)
  | [], _ => ⟨.nil, fun _ h => (nomatch h), rfl⟩
  | c :: s, h => by
    obtain ⟨i1, i2, i3⟩ := signs_odd (K := K) (H := H) s fun c hc => h c (List.mem_cons_of_mem _ hc)
    rw [List.filterMap_cons, List.filterMap_cons, List.all_cons]
    cases cc : (decide (97 ≤ c) && decide (c ≤ 122)) with
    | true => exact ⟨i1, i2, i3⟩
    | false =>
      refine ⟨.cons (.str _) i1, fun x hx => ?_, rfl⟩
      rcases List.mem_cons.mp hx with z | z
      · subst z
        refine Shp.str fun d hd => ?_
        have : d = c := by simpa using hd
        subst this
        exact h d List.mem_cons_self
      · exact i2 x z
def spLawIsName (K : PySem.W.Frag) : Sp := fun vs H Q _ => ∃ (A : List Addr) (v : V) (d : PyData), vs = [v] ∧ Dx A K H v d ∧ d.weight ≤ 100000 ∧ (∀ x, d = .str x → LowA x) ∧ ∀ H', Kp [] H H' → Q (.bl (nameD d)) H'
theorem c_law_is_name (T : Txt K mg aW) (c_law_words : C8.Cal P w K mg base 1 "_law_words" spWords []) (F : At_law_is_name K mg) : C8.Cal P w K mg base 2 "_law_is_name" (spLawIsName K) [] := by
  refine F.cal sc_law_is_name (fun vs H Q E h => ?_) (fun f cdv A outer s H vs Q E hr h => ?_)
  · obtain ⟨A, v, d, rfl, _⟩ := h
    rfl
  · obtain ⟨A0, v, d, rfl, hd, hw, hlow, k⟩ := h
    have nd := sc_law_is_name.nd
    have hu64 := h64 hr
    refine ⟨_, (pss_cons (ps_if (PW.pt (pw_or (pt_not (pt_val (pe_callB call_isi (by rfl) T.z_isinstance (by decide +kernel) (pa_cons (pv 0) (pa_cons (pe_bltn (v := .ty "str") (by rfl) T.z_str (by decide +kernel) rfl) pa_nil))))) (pw_or (pt_not (pt_chain op_le op_le pe_int (pe_callB call_len_str (by rfl) T.z_len (by decide +kernel) (pa_cons (pv 0) pa_nil)) pe_int)) (pw_or1 (pt_cmpR op_in_seq (pv 0) (pe_c0 c_law_words hr (by decide) rfl) (by rfl)))))) (pss_one (ps_ret pe_bl)) pss_nil)
      (pss_one (ps_ret (pe_cmpR (op_eqD hu64) (pe_lc (own := [("sign", 1)]) (g := (gName 1)) rfl nd (pi_str (pv 0)) (blkOk_by (N := nn_law_is_name) (sc := defScope st_law_is_name) (own := [("sign", 1)]) (by decide +kernel)) (fun _ _ _ _ _ => (pg_name (i := 1) nd rfl (by first | exact Or.inl rfl | exact Or.inr rfl))) (fun _ _ _ _ _ => (pts_one (pt_not (pt_chain op_le_str op_le_str pe_str (pv 1) pe_str)))) (fun _ _ _ _ _ => (pv 1))) (pe_lst pa_nil) (nomark _))))), ?_⟩
    refine ⟨_, rfl, _, _, _, _, isStrD d, rfl, .ty "str", hd.ty, kit_str d, _, rfl, ?_⟩
    rcases (Classical.em (∃ x, d = .str x)).symm with hs | hs
    · have e1 : isStrD d = false := by cases d <;> first | rfl | exact absurd ⟨_, rfl⟩ hs
      have e2 : nameD d = false := by cases d <;> first | rfl | exact absurd ⟨_, rfl⟩ hs
      rw [e1]
      rw [e2] at k
      exact iteT (k H Kp.refl)
    obtain ⟨x, rfl⟩ := hs
    cases hd
    refine iteF ?_
    have hx : x.length ≤ 100000 := by rw [PyData.weight] at hw; exact hw
    have k' : ∀ H', Kp [] H H' → Q (.bl (isName x)) H' := k
    have hsz : x.length ≤ sizeLine := Nat.le_of_lt (w_lt hx)
    refine ⟨_, rfl, x, rfl, hsz, _, _, rfl, rfl, _, rfl, ?_⟩
    by_cases h1 : (1 : Int) ≤ (x.length : Int)
    · refine iteD h1 ⟨_, _, rfl, rfl, _, rfl, ?_⟩
      by_cases h8 : (x.length : Int) ≤ 8
      · refine iteBn (by simp [h8]) ?_
        have e1 : decide (1 ≤ x.length) = true := decide_eq_true (by omega)
        have e8 : decide (x.length ≤ 8) = true := decide_eq_true (by omega)
        refine ⟨_, rfl, rfl, fun H1 p k1 hp e1' => ?_⟩
        refine ⟨p, _, rfl, .inl (SqL.of e1'), rfl, flats _, _, rfl, ?_⟩
        by_cases hw : wordsL.contains x = true
        · refine iteB (by rw [inV_strs]; exact hw) ?_
          have en : isName x = false := by unfold isName; rw [hw]; simp
          have z := k' H1 k1
          rw [en] at z
          exact z
        · have hw' : wordsL.contains x = false := by simpa using hw
          refine iteBn (by rw [inV_strs]; exact hw') ?_
          refine ⟨_, rfl, x, rfl, fun D hD => ?_⟩
          refine lcW (S := []) walk_str (fun i => (x.cps.toList[i]?).bind fun c => if (decide (97 ≤ c) && decide (c ≤ 122)) = true then none else some (V.str ⟨#[c]⟩)) hD (by simp) (w_lt hx) (fun _ _ => trivial) ?_ ?_
          · rintro i v H' H'' C N hi kp ⟨rfl, c, hc, rfl⟩ hC hN
            refine ⟨rfl, ?_⟩
            have hout : ∀ b : Bool, b = (decide (97 ≤ c) && decide (c ≤ 122)) → (b = true → N H'') ∧ (b = false → C (.str ⟨#[c]⟩) H'') := fun b hb =>
              ⟨fun z => hN _ Kp.refl (by rw [Array.getElem?_toList, hc]; show (if _ then _ else _) = _; rw [if_pos (by rw [← hb]; exact z)]),
               fun z => hC _ _ Kp.refl (by rw [Array.getElem?_toList, hc]; show (if _ then _ else _) = _; rw [if_neg (by rw [← hb, z]; decide)])⟩
            refine ⟨_, rfl, _, _, rfl, rfl, _, rfl, ?_⟩
            have ea : (("a" : Str)) = (⟨#[97]⟩ : Str) := by decide +kernel
            have ez : (("z" : Str)) = (⟨#[122]⟩ : Str) := by decide +kernel
            rw [ea, ez, lt_one]
            by_cases c1 : c < 97
            · refine iteBn (by simp [c1]) ?_
              exact ⟨_, rfl, iteB rfl ⟨_, rfl, (hout false (by simp; omega)).2 rfl⟩⟩
            · refine iteB (by simp [c1]) ⟨_, _, rfl, rfl, _, rfl, ?_⟩
              rw [lt_one]
              by_cases c2 : 122 < c
              · exact iteB (by rw [decide_eq_true c2]; rfl) ⟨_, rfl, (hout false (by rw [decide_eq_false (show ¬ c ≤ 122 by omega)]; simp)).2 rfl⟩
              · exact iteBn (by rw [decide_eq_false c2]; rfl) ((hout true (by rw [decide_eq_true (show c ≤ 122 by omega), decide_eq_true (show 97 ≤ c by omega)]; rfl)).1 rfl)
          · intro H' kp hH'
            have hl := range_bind (fun c : Nat => if (decide (97 ≤ c) && decide (c ≤ 122)) = true then none else some (V.str ⟨#[c]⟩)) x.cps.toList
            rw [Array.length_toList] at hl
            rw [hl] at hH'
            refine ⟨(by show 0 ≤ sizeLine; decide), fun D3 hD3 => ?_⟩
            have k6 : Kp [] H' (upd H' D3 (.lst [])) := Kp.new hD3
            obtain ⟨j1, j2, j3⟩ := signs_odd (K := K) (H := upd H' D3 (.lst [])) x.cps.toList (hlow x rfl)
            refine ⟨_, .list [], .lst (SqL.of (k6.old _ _ hH' (by simp))) j1, .lst (SqL.of upd_same) .nil, (Shp.lst j2).shaped (by decide), by decide, ?_⟩
            rw [eqv_nil, j3]
            have en : isName x = x.cps.toList.all fun c => decide (97 ≤ c) && decide (c ≤ 122) := by
              unfold isName
              rw [e1, e8, hw']
              rfl
            rw [← en]
            exact k' _ ((k1.trans kp).trans k6)
      · refine iteB (by simp; omega) ?_
        have en : isName x = false := by unfold isName; rw [decide_eq_false (show ¬ x.length ≤ 8 by omega)]; simp
        rw [← en]
        exact k' H Kp.refl
    · refine iteDn h1 ⟨_, rfl, ?_⟩
      have en : isName x = false := by unfold isName; rw [decide_eq_false (show ¬ 1 ≤ x.length by omega)]; simp
      have z := k' H Kp.refl
      rw [en] at z
      exact z
end

end Md


namespace Md
open PySem PySem.Spec PyProof.Rows L2

/-! ### kinds of no tree, too -/
structure MidK (ks : Kds) : Prop where
  l5 : ks.length ≤ 5
  m4 : ∀ k ∈ ks, k.2.length ≤ 4
  p3 : ∀ k ∈ ks, ∀ r ∈ k.2, r.2.length ≤ 3
  lw : ∀ k ∈ ks, ∀ r ∈ k.2, ∀ p ∈ r.2, LowA p
section
variable {P : Program} {w : World} {K : PySem.W.Frag} {mg : Str → Option Value} {base : Heap} {aW : Addr}
def spLawSizesX (K : PySem.W.Frag) : Sp := fun vs H Q _ => ∃ (v : V) (ks : Kds), vs = [v] ∧ KdsT K H v ks ∧ MidK ks ∧ ∀ H' p, Kp [] H H' → H p = none → H' p = some (.dK (dictS (sizesN ks (ks.length + 1)))) → Q (.ref p) H'
set_option maxHeartbeats 1000000 in
theorem c_law_sizes__x (T : Txt K mg aW) (F : At_law_sizes K mg) : C8.Cal P w K mg base 1 "_law_sizes" (spLawSizesX K) [] := by
  refine F.cal sc_law_sizes (fun vs H Q E h => ?_) (fun f cdv A outer s H vs Q E hr h => ?_)
  · obtain ⟨v, ks, rfl, _⟩ := h
    rfl
  · obtain ⟨v, ks, rfl, ⟨a, us, rfl, hq, hp⟩, g, k⟩ := h
    have nd := sc_law_sizes.nd
    have hu := hu_of hr
    have hu64 := h64 hr
    have ul := plen hp
    have kl := g.l5
    refine ⟨_, (pss_cons (ps_set (i := 1) nd rfl (by first | exact Or.inl rfl | exact Or.inr rfl) (pe_disp (pps_cons pe_str pe_int pps_nil) (by rfl) (by rfl) (fun z => by cases z) (by decide)))
      (pss_cons (ps_for PassesOwn.never rfl (pi_range1 (by rfl) T.z_range (pa_cons (pe_op op_add (pe_callB call_len_seq (by rfl) T.z_len (by decide +kernel) (pa_cons (pv 0) pa_nil)) pe_int) pa_nil)) (pg_name (i := 2) nd rfl (by first | exact Or.inl rfl | exact Or.inr rfl))
        (pss_one (ps_for PassesOwn.never rfl (pi_tup (pv 0)) (pg_tup rfl (pgs_cons (pg_name (i := 3) nd rfl (by first | exact Or.inl rfl | exact Or.inr rfl)) (pgs_cons (pg_name (i := 4) nd rfl (by first | exact Or.inl rfl | exact Or.inr rfl)) pgs_nil)))
          (pss_cons (ps_setLc (i := 5) (own := [("maker", 6), ("parts", 7)]) (g := (gTup _ 2 (gCons (gName 6) (gCons (gName 7) gNil)))) (tt := tTest (tOp (rEqD K) (tLc (iTup K (tVar 7)) (gName 8) (tB (tDNotIn (tVar 8) (tVar 1))) (tC (.int 1)) [8]) (tLst tNil))) rfl nd rfl rfl (sw_true rfl rfl rfl (by decide +kernel)) (pi_tup (pv 4)) (blkOk_by (N := nn_law_sizes) (sc := defScope st_law_sizes) (own := [("maker", 6), ("parts", 7)]) (by decide +kernel)) (fun _ _ _ _ _ => (pg_tup rfl (pgs_cons (pg_name (i := 6) nd rfl (by first | exact Or.inl rfl | exact Or.inr rfl)) (pgs_cons (pg_name (i := 7) nd rfl (by first | exact Or.inl rfl | exact Or.inr rfl)) pgs_nil)))) (fun _ _ _ _ _ => (pts_one (pt_cmpR (op_eqD hu64) (pe_lc (own := [("part", 8)]) (g := (gName 8)) rfl nd (pi_tup (pv 7)) (blkOk_by (N := nn_law_sizes) (own := [("part", 8)]) (by rfl)) (fun _ _ _ _ _ => (pg_name (i := 8) nd rfl (by first | exact Or.inl rfl | exact Or.inr rfl))) (fun _ _ _ _ _ => (pts_one (pt_cmp (pc_dnotin hu (pv 8) (pv 1))))) (fun _ _ _ _ _ => pe_int)) (pe_lst pa_nil) (nomark _)))) (fun _ _ _ _ _ => (pv 7)))
          (pss_one (ps_if (pt_cmpR (op_neD hu64) (pv 5) (pe_lst pa_nil) (nomark _)) (pss_one (ps_dput hu (pv 1) (pv 3) (pe_callB (cr_min rfl) (by rfl) T.z_min (by decide +kernel) (pa_cons (pe_lc (own := [("parts", 7)]) (te := tOp (rI0 fun i j => .int (i + j)) (tC (.int 1)) (tCB (rSum K) (tCons (tLc (iTup K (tVar 7)) (gName 8) tYes (tDGet (tVar 1) (tVar 8)) [8]) tNil))) (g := (gName 7)) (tt := tYes) rfl nd (pi_list (pv 5)) (blkOk_by (N := nn_law_sizes) (sc := defScope st_law_sizes) (own := [("parts", 7)]) (by decide +kernel)) (fun _ _ _ _ _ => (pg_name (i := 7) nd rfl (by first | exact Or.inl rfl | exact Or.inr rfl))) (fun _ _ _ _ _ => pts_nil) (fun _ _ _ _ _ => (pe_op op_add pe_int (pe_callB (cr_sum rfl) (by rfl) T.z_sum (by decide +kernel) (pa_cons (pe_lc (own := [("part", 8)]) (g := (gName 8)) (tt := tYes) rfl nd (pi_tup (pv 7)) (blkOk_by (N := nn_law_sizes) (own := [("part", 8)]) (by rfl)) (fun _ _ _ _ _ => (pg_name (i := 8) nd rfl (by first | exact Or.inl rfl | exact Or.inr rfl))) (fun _ _ _ _ _ => pts_nil) (fun _ _ _ _ _ => (pe_dget hu (pv 1) (pv 8) (fun _ _ => rfl)))) pa_nil))))) pa_nil)) rfl)) pss_nil))))))
      (pss_one (ps_ret (pv 1))))), ?_⟩
    intro d hd
    refine ⟨upd_same, [(Sum.inr "mark", V.int 1)], rfl, (by decide), ?_⟩
    have e0 : mergeK ([] : List (Key × V)) [(Sum.inr "mark", V.int 1)] = dictS (sizesN ks 0) := rfl
    rw [e0]
    have k0 : Kp [] H (upd (upd H d (.dK [])) d (.dK (dictS (sizesN ks 0)))) := (Kp.new hd).own hd
    have hd0 : upd (upd H d (.dK [])) d (.dK (dictS (sizesN ks 0))) d = some (.dK (dictS (sizesN ks 0))) := upd_same
    generalize upd (upd H d (.dK [])) d (.dK (dictS (sizesN ks 0))) = H0 at k0 hd0
    refine ⟨_, rfl, a, _, rfl, .inr (k0.sqt hq), _, _, rfl, rfl, ((us.length : Int) + 1), rfl, by omega, by omega, ?_⟩
    have eN : ((us.length : Int) + 1).toNat = ks.length + 1 := by omega
    rw [eN]
    refine for_range (lo := 0) (n := ks.length + 1) (fun i σ H' => ∃ v2 v3 v4 v5 v6 v7 v8, σ = [some (.ref a), some (.ref d), v2, v3, v4, v5, v6, v7, v8] ∧ Kp [] H H' ∧ H' d = some (.dK (dictS (sizesN ks i)))) ?_ ?_ ?_
    · exact ⟨_, _, _, _, _, _, _, rfl, k0, hd0⟩
    · rintro i σ H1 hi ⟨v2, v3, v4, v5, v6, v7, v8, rfl, k1, e1⟩
      refine ⟨_, rfl, a, rfl, ⟨_, k1.sqt hq⟩, for_tup (K := K) (a := a) (xs := us) (fun j σ H' => ∃ v2 v3 v4 v5 v6 v7 v8, σ = [some (.ref a), some (.ref d), v2, v3, v4, v5, v6, v7, v8] ∧ Kp [] H H' ∧ H' d = some (.dK (dictS (roundK (ks.take j) (sizesN ks i)))))
        ⟨_, _, _, _, _, _, _, rfl, k1, e1⟩ (fun j σ H' _ z => by obtain ⟨_, _, _, _, _, _, _, _, kk, _⟩ := z; exact kk.sqt hq) ?_ ?_⟩
      · rintro j y σ H2 hy ⟨v2, v3, v4, v5, v6, v7, v8, rfl, k2, e2⟩
        obtain ⟨c, hc, b, q, rfl, hb, ⟨b2, ws, rfl, hb2, hrs⟩⟩ := pget hp hy
        have cm := List.mem_of_getElem? hc
        have wl := plen hrs
        have cb := g.m4 c cm
        have jl : j < ks.length := (List.getElem?_eq_some_iff.mp hc).1
        have sl : (roundK (ks.take j) (sizesN ks i)).length ≤ 20101 := by
          have h1 := roundK_len (ks.take j) (sizesN ks i)
          have h2 := sizesN_len ks i
          have h3 := List.length_take_le j ks
          have h4 : i * ks.length ≤ 100 * 100 := Nat.mul_le_mul (by omega) (by omega)
          omega
        generalize hS : roundK (ks.take j) (sizesN ks i) = S at e2 sl
        have rt := roundK_take (sizesN ks i) hc
        rw [hS] at rt
        refine ⟨b, _, rfl, k2.sqt hb, rfl, _, _, rfl, _, _, rfl, rfl, ?_⟩
        refine ⟨_, rfl, b2, rfl, ⟨_, k2.sqt hb2⟩, fun D hD => ?_⟩
        refine lcB (S := []) walk_tup (fun m acc H' => Paired (fun v ps => StrsT K H' v ps) acc (((c.2.take m).filter fun r => r.2.all fun p => (lookS S p).isSome).map (·.2))) (fun m acc Ha Hb kk z => pmap (fun _ _ w => w.kp kk) z)
          .nil hD (by simp) (small1000 (by omega)) (fun H' kk => kk.sqt (k2.sqt hb2)) ?_ ?_
        · rintro m z H3 H4 acc C N hm al k3 ia ⟨rfl, hz⟩ hC hN
          obtain ⟨r, hr3, b3, q3, rfl, hb3, hps⟩ := pget hrs hz
          have rmem := List.mem_of_getElem? hr3
          have rl := g.p3 c cm r rmem
          have tk : c.2.take (m + 1) = c.2.take m ++ [r] := by
            have h1 := (List.getElem?_eq_some_iff.mp hr3).1
            have h2 := (List.getElem?_eq_some_iff.mp hr3).2
            rw [List.take_succ_eq_append_getElem h1, h2]
          refine ⟨b3, _, rfl, k3.sqt (k2.sqt hb3), rfl, _, _, rfl, _, _, rfl, rfl, rfl, ?_⟩
          obtain ⟨b4, rfl, hq4⟩ := hps
          -- the parts that are not there yet
          refine ⟨_, rfl, b4, rfl, ⟨_, k3.sqt (k2.sqt hq4)⟩, fun D2 hD2 => ?_⟩
          refine lcW (S := []) walk_tup (fun t => (r.2[t]?).bind fun p => if (lookS S p).isSome = true then none else some (V.int 1)) hD2 (by simp) (small1000 (by rw [List.length_map]; omega)) (fun H' kk => kk.sqt (k3.sqt (k2.sqt hq4))) ?_ ?_
          · rintro t w H5 H6 C2 N2 ht k5 ⟨rfl, hw⟩ hC2 hN2
            rw [List.getElem?_map] at hw
            obtain ⟨p, hp2, rfl⟩ := Option.map_eq_some_iff.mp hw
            have d5 := k5.old _ _ (k3.old _ _ e2 (by simp)) (by simp)
            have gg := DGet.k (k := (Sum.inr p : Key)) d5
            rw [dictS_val] at gg
            refine ⟨rfl, _, rfl, _, rfl, d, _, rfl, gg, _, rfl, ?_⟩
            rw [Option.isSome_map]
            cases cc : (lookS S p).isSome with
            | true => exact iteBn rfl (hN2 _ Kp.refl (by rw [hp2]; show (if _ then _ else _) = _; rw [if_pos cc]))
            | false => exact iteB rfl (hC2 _ _ Kp.refl (by rw [hp2]; show (if _ then _ else _) = _; rw [if_neg (by rw [cc]; decide)]))
          · intro H5 k5 e5
            rw [List.length_map, range_bind] at e5
            refine ⟨(by show 0 ≤ sizeLine; decide), fun D3 hD3 => ?_⟩
            have k6 : Kp [] H5 (upd H5 D3 (.lst [])) := Kp.new hD3
            have ds : ∀ l : List Str, DpAll K (upd H5 D3 (.lst [])) (l.filterMap fun p => if (lookS S p).isSome = true then none else some (V.int 1)) (l.filterMap fun p => if (lookS S p).isSome = true then none else some (PyData.int 1)) ∧
                (∀ x ∈ (l.filterMap fun p => if (lookS S p).isSome = true then none else some (PyData.int 1)), Shp 0 x) ∧ (l.filterMap fun p => if (lookS S p).isSome = true then none else some (PyData.int 1)).isEmpty = l.all fun p => (lookS S p).isSome := by
              intro l
              induction l with
              | nil => exact ⟨.nil, fun _ h => (nomatch h), rfl⟩
              | cons p s ih =>
                obtain ⟨i1, i2, i3⟩ := ih
                rw [List.filterMap_cons, List.filterMap_cons, List.all_cons]
                cases cc : (lookS S p).isSome with
                | true => exact ⟨i1, i2, i3⟩
                | false =>
                  refine ⟨.cons (.int 1) i1, fun x hx => ?_, rfl⟩
                  rcases List.mem_cons.mp hx with z | z
                  · subst z; exact Shp.int 1
                  · exact i2 x z
            obtain ⟨j1, j2, j3⟩ := ds r.2
            refine ⟨_, .list [], .lst (SqL.of (k6.old _ _ e5 (by simp))) j1, .lst (SqL.of upd_same) .nil, (Shp.lst j2).shaped (by decide), by decide, _, rfl, ?_⟩
            rw [eqv_nil, j3]
            have k36 := k5.trans k6
            cases ca : (r.2.all fun p => (lookS S p).isSome) with
            | true =>
              refine iteB rfl ⟨_, rfl, hC _ _ k36 ?_⟩
              rw [tk, List.filter_append, List.map_append]
              refine pair_app (pmap (fun _ _ w => w.kp k36) ia) ?_
              rw [List.filter_cons, ca]
              exact .cons ⟨b4, rfl, k36.sqt (k3.sqt (k2.sqt hq4))⟩ .nil
            | false =>
              refine iteBn rfl (hN _ k36 ?_)
              rw [tk, List.filter_append, List.map_append, List.filter_cons, ca]
              simpa using pmap (fun _ _ w => StrsT.kp k36 w) ia
        · intro H3 ys k3 ia e3 yl
          rw [wl, List.take_length] at ia
          generalize hL : (c.2.filter fun r => r.2.all fun p => (lookS S p).isSome) = L at ia
          have Lm : ∀ r ∈ L, r ∈ c.2 ∧ (r.2.all fun p => (lookS S p).isSome) = true := fun r hr => by rw [← hL] at hr; exact List.mem_filter.mp hr
          have fs : foundS S c.2 = L.map fun r => sizeMade S r.2 := by
            rw [← hL]
            show c.2.filterMap _ = _
            rw [← List.filterMap_eq_map, List.filterMap_filter]
            rfl
          have pl := plen ia
          rw [List.length_map] at pl
          refine ⟨_, rfl, (by show 0 ≤ sizeLine; decide), fun D3 hD3 => ?_⟩
          have k4 : Kp [] H3 (upd H3 D3 (.lst [])) := Kp.new hD3
          have dpL : DpAll K (upd H3 D3 (.lst [])) ys ((L.map (·.2)).map dStrs) := dpAll_of (fun v x w => dp_strs (StrsT.kp k4 w)) ia
          have shL : ∀ x ∈ (L.map (·.2)).map dStrs, Shp 1 x := fun x hx => by
            obtain ⟨ps, h1, rfl⟩ := List.mem_map.mp hx
            obtain ⟨r, h2, rfl⟩ := List.mem_map.mp h1
            refine Shp.tup fun y hy => ?_
            obtain ⟨p, h3, rfl⟩ := List.mem_map.mp hy
            exact Shp.str (g.lw c cm r (Lm r h2).1 p h3)
          refine ⟨_, .list [], .lst (SqL.of (k4.old _ _ e3 (by simp))) dpL, .lst (SqL.of upd_same) .nil, (Shp.lst shL).shaped (by decide), by decide, _, rfl, ?_⟩
          rw [eqv_nil]
          have k24 : Kp [] H2 (upd H3 D3 (.lst [])) := k3.trans k4
          have e24 := k24.old _ _ e2 (by simp)
          generalize upd H3 D3 (.lst []) = H4 at k4 k24 e24
          have yE := k4.old _ _ e3 (by simp)
          have iaE : Paired (fun v ps => StrsT K H4 v ps) ys (L.map (·.2)) := pmap (fun _ _ w => StrsT.kp k4 w) ia
          cases hLe : L with
          | nil =>
            refine iteBn rfl ?_
            refine ⟨_, _, _, _, _, _, _, rfl, k2.trans k24, ?_⟩
            have st : stepK S c = S := by unfold stepK; rw [fs, hLe]; rfl
            rw [rt, st]
            exact e24
          | cons r0 L0 =>
            refine iteB rfl ?_
            refine ⟨_, rfl, D, rfl, ⟨_, SqL.of yE⟩, fun D4 hD4 => ?_⟩
            refine lcW (S := []) walk_list (fun m => (L[m]?).map fun r => V.int (sizeMade S r.2)) hD4 (by simp) (small1000 (by omega)) (fun H' kk => SqL.of (kk.old _ _ yE (by simp))) ?_ ?_
            · rintro m z H5 H6 C N hm k5 ⟨rfl, hz⟩ hC hN
              obtain ⟨ps, hps0, b5, rfl, hq5⟩ := pget iaE hz
              rw [List.getElem?_map] at hps0
              obtain ⟨r, hr3, rfl⟩ := Option.map_eq_some_iff.mp hps0
              have lr := Lm r (List.mem_of_getElem? hr3)
              have rl := g.p3 c cm r lr.1
              refine ⟨rfl, ?_⟩
              refine ⟨_, rfl, b5, rfl, ⟨_, k5.sqt hq5⟩, fun D5 hD5 => ?_⟩
              refine lcW (S := []) walk_tup (fun t => (r.2[t]?).map fun p => V.int ((lookS S p).getD 0)) hD5 (by simp) (small1000 (by rw [List.length_map]; omega)) (fun H' kk => kk.sqt (k5.sqt hq5)) ?_ ?_
              · rintro t w H7 H8 C2 N2 ht k7 ⟨rfl, hw⟩ hC2 hN2
                rw [List.getElem?_map] at hw
                obtain ⟨p, hp2, rfl⟩ := Option.map_eq_some_iff.mp hw
                have d7 := k7.old _ _ (k5.old _ _ e24 (by simp)) (by simp)
                have gg := DGet.k (k := (Sum.inr p : Key)) d7
                rw [dictS_val] at gg
                have some_ : (lookS S p).isSome = true := List.all_eq_true.mp lr.2 p (List.mem_of_getElem? hp2)
                obtain ⟨v, ev⟩ := Option.isSome_iff_exists.mp some_
                rw [ev] at gg
                refine ⟨rfl, _, rfl, _, rfl, d, _, rfl, gg, ?_⟩
                exact hC2 _ _ Kp.refl (by rw [hp2]; show some (V.int ((lookS S p).getD 0)) = _; rw [ev]; rfl)
              · intro H7 k7 e7
                rw [List.length_map, range_map] at e7
                refine ⟨D5, r.2.map fun p => (lookS S p).getD 0, rfl, by rw [List.map_map]; exact SqL.of e7, _, _, rfl, rfl, ?_⟩
                exact hC _ _ k7 (by rw [hr3]; rfl)
            · intro H5 k5 e5
              rw [pl, range_map] at e5
              have e5' : H5 D4 = some (.lst ((foundS S c.2).map V.int)) := by rw [e5, fs, List.map_map]; rfl
              have fne : foundS S c.2 ≠ [] := by rw [fs, hLe]; simp
              refine ⟨D4, _, rfl, SqL.of e5', List.length_pos_iff.mpr fne, fun mm hm hle => ?_⟩
              have mE := minL_is hm hle
              refine ⟨_, rfl, _, rfl, d, _, rfl, DPut.k (k := (Sum.inr c.1 : Key)) (k5.old _ _ e24 (by simp)) ?_, ?_⟩
              · unfold dictS
                rw [List.length_map]
                exact Nat.lt_of_le_of_lt sl (by decide)
              · refine ⟨_, _, _, _, _, _, _, rfl, ?_, ?_⟩
                · exact ((k2.trans k24).trans k5).own hd
                · rw [upd_same, rt, dictS_put]
                  unfold stepK
                  rw [if_neg fne, mE]
      · rintro σ H2 ⟨v2, v3, v4, v5, v6, v7, v8, rfl, k2, e2⟩
        rw [ul, List.take_length] at e2
        exact ⟨_, _, _, _, _, _, _, rfl, k2, e2⟩
    · rintro σ H1 ⟨v2, v3, v4, v5, v6, v7, v8, rfl, k1, e1⟩
      exact ⟨_, rfl, k H1 d k1 hd e1⟩
end
/-! ### how many kinds have trees -/
theorem stepK_nd {S : Szs} {k : Kd} (h : (S.map (·.1)).Nodup) : ((stepK S k).map (·.1)).Nodup := by
  unfold stepK
  split
  · exact h
  · unfold putS
    split
    · rw [List.map_map]
      have : ((fun p : Str × Int => p.1) ∘ fun p => if p.1 = k.1 then (p.1, minL (foundS S k.2)) else p) = fun p => p.1 := by
        funext p
        show (if p.1 = k.1 then (p.1, minL (foundS S k.2)) else p).1 = p.1
        split <;> rfl
      rw [this]
      exact h
    · rename_i hn
      rw [List.map_append, List.nodup_append]
      refine ⟨h, by simp, fun a ha b hb z => ?_⟩
      subst z
      have : a = k.1 := by simpa using hb
      subst this
      obtain ⟨p, hp, e⟩ := List.mem_map.mp ha
      exact hn (List.any_eq_true.mpr ⟨p, hp, decide_eq_true e⟩)
theorem stepK_keys {S : Szs} {k : Kd} {N : List Str} (hk : k.1 ∈ N) (h : ∀ x ∈ S.map (·.1), x ∈ N) : ∀ x ∈ (stepK S k).map (·.1), x ∈ N := by
  unfold stepK
  split
  · exact h
  · unfold putS
    split
    · rw [List.map_map]
      have : ((fun p : Str × Int => p.1) ∘ fun p => if p.1 = k.1 then (p.1, minL (foundS S k.2)) else p) = fun p => p.1 := by
        funext p
        show (if p.1 = k.1 then (p.1, minL (foundS S k.2)) else p).1 = p.1
        split <;> rfl
      rw [this]
      exact h
    · rw [List.map_append]
      intro x hx
      rcases List.mem_append.mp hx with z | z
      · exact h x z
      · have : x = k.1 := by simpa using z
        subst this
        exact hk
theorem roundK_nd : ∀ (ks : Kds) {S : Szs}, (S.map (·.1)).Nodup → ((roundK ks S).map (·.1)).Nodup
  | [], _, h => h
  | k :: ks, _, h => roundK_nd ks (stepK_nd (k := k) h)
theorem roundK_keys {N : List Str} : ∀ (ks : Kds) {S : Szs}, (∀ k ∈ ks, k.1 ∈ N) → (∀ x ∈ S.map (·.1), x ∈ N) → ∀ x ∈ (roundK ks S).map (·.1), x ∈ N
  | [], _, _, h => h
  | k :: ks, _, hk, h => roundK_keys ks (fun c hc => hk c (List.mem_cons_of_mem _ hc)) (stepK_keys (hk k List.mem_cons_self) h)
theorem sizesN_nd (ks : Kds) : ∀ n, ((sizesN ks n).map (·.1)).Nodup
  | 0 => by simp [sizesN, sizes0]
  | n + 1 => roundK_nd ks (sizesN_nd ks n)
theorem sizesN_keys (ks : Kds) : ∀ n, ∀ x ∈ (sizesN ks n).map (·.1), x ∈ ("mark" : Str) :: kindNames ks
  | 0 => by simp [sizesN, sizes0]
  | n + 1 => roundK_keys ks (fun k hk => List.mem_cons_of_mem _ (List.mem_map.mpr ⟨k, hk, rfl⟩)) (sizesN_keys ks n)
theorem lookS_mem {S : Szs} {x : Str} : (lookS S x).isSome = true ↔ x ∈ S.map (·.1) := by
  induction S with
  | nil => simp [lookS]
  | cons p r ih =>
    obtain ⟨y, n⟩ := p
    unfold lookS at ih ⊢
    rw [List.lookup_cons, List.map_cons, List.mem_cons]
    by_cases e : x = y
    · subst e
      simp
    · have : (x == y) = false := by simpa using e
      rw [this]
      simp only [e, false_or]
      exact ih
theorem nodup_sub_len {α : Type} [DecidableEq α] : ∀ {l m : List α}, l.Nodup → (∀ x ∈ l, x ∈ m) → l.length ≤ m.length
  | [], m, _, _ => Nat.zero_le _
  | a :: l, m, h, hs => by
    rw [List.nodup_cons] at h
    have ha := hs a List.mem_cons_self
    have := nodup_sub_len (m := m.erase a) h.2 fun x hx => (List.mem_erase_of_ne (fun z => h.1 (by rw [← z]; exact hx))).mpr (hs x (List.mem_cons_of_mem _ hx))
    rw [List.length_erase_of_mem ha] at this
    have := List.length_pos_of_mem ha
    rw [List.length_cons]
    omega
theorem nodup_full {α : Type} [DecidableEq α] {l m : List α} (h : l.Nodup) (hs : ∀ x ∈ l, x ∈ m) (hl : l.length = m.length) (hm : m.Nodup) : ∀ x ∈ m, x ∈ l := by
  intro x hx
  refine Classical.byContradiction fun z => ?_
  have h2 : (x :: l).Nodup := List.nodup_cons.mpr ⟨z, h⟩
  have := nodup_sub_len h2 (m := m) fun y hy => (List.mem_cons.mp hy).elim (fun e => e ▸ hx) (hs y)
  rw [List.length_cons] at this
  omega
/-- what a further round finds is what one round finds where nothing came in -/
theorem stepK_there_iff {S : Szs} {k : Kd} {x : Str} (h : (lookS (stepK S k) x).isSome = true) : (lookS S x).isSome = true ∨ (x = k.1 ∧ ∃ r ∈ k.2, ∀ p ∈ r.2, (lookS S p).isSome = true) := by
  unfold stepK at h
  split at h
  · exact .inl h
  · rename_i hn
    rw [lookS_put] at h
    split at h
    · rename_i e
      refine .inr ⟨e, ?_⟩
      obtain ⟨n, hn2⟩ := List.exists_mem_of_ne_nil _ hn
      unfold foundS at hn2
      obtain ⟨r, hr, er⟩ := List.mem_filterMap.mp hn2
      split at er
      · rename_i hc
        exact ⟨r, hr, fun p hp => List.all_eq_true.mp hc p hp⟩
      · cases er
    · exact .inl h
/-- closed: no kind comes in any more -/
def Closed (ks : Kds) (S : Szs) : Prop := ∀ k ∈ ks, (∃ r ∈ k.2, ∀ p ∈ r.2, (lookS S p).isSome = true) → (lookS S k.1).isSome = true
theorem closed_step {ks : Kds} {S : Szs} (c : Closed ks S) {k : Kd} (hk : k ∈ ks) : ∀ x, (lookS (stepK S k) x).isSome = (lookS S x).isSome := fun x => by
  cases e : (lookS (stepK S k) x).isSome with
  | true =>
    rcases stepK_there_iff e with z | ⟨rfl, z⟩
    · exact z.symm
    · exact (c k hk z).symm
  | false =>
    cases e2 : (lookS S x).isSome with
    | false => rfl
    | true => rw [stepK_mono S k x e2] at e; cases e
theorem closed_round {ks : Kds} : ∀ (l : Kds) (S : Szs), (∀ k ∈ l, k ∈ ks) → Closed ks S → (∀ x, (lookS (roundK l S) x).isSome = (lookS S x).isSome) ∧ Closed ks (roundK l S)
  | [], S, _, c => ⟨fun _ => rfl, c⟩
  | k :: l, S, h, c => by
    have e := closed_step c (h k List.mem_cons_self)
    have c2 : Closed ks (stepK S k) := fun d hd z => by
      rw [e]
      obtain ⟨r, hr, hp⟩ := z
      exact c d hd ⟨r, hr, fun p q => by rw [← e]; exact hp p q⟩
    obtain ⟨h1, h2⟩ := closed_round l (stepK S k) (fun d hd => h d (List.mem_cons_of_mem _ hd)) c2
    exact ⟨fun x => (h1 x).trans (e x), h2⟩
theorem len_mono (ks : Kds) : ∀ n, (sizesN ks n).length ≤ (sizesN ks (n + 1)).length := fun n => by
  have h := nodup_sub_len (sizesN_nd ks n) (m := (sizesN ks (n + 1)).map (·.1)) fun x hx => lookS_mem.mp (sizesN_mono ks x n 1 (lookS_mem.mpr hx))
  simpa using h
/-- where a round brings nothing in, it is closed -/
theorem closed_of {ks : Kds} {n : Nat} (h : (sizesN ks (n + 1)).length = (sizesN ks n).length) : Closed ks (sizesN ks n) := by
  have same : ∀ x, x ∈ (sizesN ks (n + 1)).map (·.1) → x ∈ (sizesN ks n).map (·.1) :=
    nodup_full (sizesN_nd ks n) (fun x hx => lookS_mem.mp (sizesN_mono ks x n 1 (lookS_mem.mpr hx))) (by simpa using h.symm) (sizesN_nd ks (n + 1))
  intro k hk z
  exact lookS_mem.mpr (same k.1 (lookS_mem.mp (roundK_there ks (sizesN ks n) k hk z)))
/-- in as many rounds as there are kinds all come in that ever do -/
theorem rounds (ks : Kds) : (∃ m, m ≤ ks.length ∧ Closed ks (sizesN ks m)) := by
  refine Classical.byContradiction fun no => ?_
  have grow : ∀ n, n ≤ ks.length + 1 → n + 1 ≤ (sizesN ks n).length := by
    intro n
    induction n with
    | zero => intro _; simp [sizesN, sizes0]
    | succ n ih =>
      intro hn
      have h1 := ih (by omega)
      have h2 := len_mono ks n
      rcases Nat.lt_or_ge (sizesN ks n).length (sizesN ks (n + 1)).length with z | z
      · omega
      · exact absurd ⟨n, by omega, closed_of (by omega)⟩ no
  have h1 := grow (ks.length + 1) (Nat.le_refl _)
  have h2 := nodup_sub_len (sizesN_nd ks (ks.length + 1)) (sizesN_keys ks (ks.length + 1))
  simp [kindNames] at h2
  omega
theorem stays {ks : Kds} {m : Nat} (c : Closed ks (sizesN ks m)) : ∀ i x, (lookS (sizesN ks (m + i)) x).isSome = (lookS (sizesN ks m) x).isSome ∧ Closed ks (sizesN ks (m + i))
  | 0, x => ⟨rfl, c⟩
  | i + 1, x => by
    obtain ⟨h1, h2⟩ := stays c i x
    obtain ⟨h3, h4⟩ := closed_round ks (sizesN ks (m + i)) (fun _ h => h) h2
    exact ⟨(h3 x).trans h1, h4⟩
theorem round_more (ks : Kds) (x : Str) : (lookS (sizesN ks (ks.length + 1)) x).isSome = (lookS (leastS ks) x).isSome := by
  obtain ⟨m, hm, c⟩ := rounds ks
  have a := (stays c (ks.length + 1 - m) x).1
  have b := (stays c (ks.length - m) x).1
  rw [show m + (ks.length + 1 - m) = ks.length + 1 by omega] at a
  rw [show m + (ks.length - m) = ks.length by omega] at b
  exact a.trans b.symm
/-- the law's own count tells the same as the text's look -/
theorem law_trees {ks : Kds} (hm : (("mark" : Str) :: kindNames ks).Nodup) : ((sizesN ks (ks.length + 1)).length = ks.length + 1) ↔ ∀ k ∈ ks, (lookS (leastS ks) k.1).isSome = true := by
  constructor
  · intro h k hk
    rw [← round_more]
    refine lookS_mem.mpr (nodup_full (sizesN_nd ks _) (sizesN_keys ks _) (by simp [kindNames, h]) hm k.1 (List.mem_cons_of_mem _ (List.mem_map.mpr ⟨k, hk, rfl⟩)))
  · intro h
    have a := nodup_sub_len (sizesN_nd ks (ks.length + 1)) (sizesN_keys ks (ks.length + 1))
    have b := nodup_sub_len hm (m := (sizesN ks (ks.length + 1)).map (·.1)) fun x hx => by
      rcases List.mem_cons.mp hx with z | z
      · subst z; exact lookS_mem.mp (mark_there ks _)
      · obtain ⟨k, hk, rfl⟩ := List.mem_map.mp z
        exact lookS_mem.mp (by rw [round_more]; exact h k hk)
    simp [kindNames] at a b
    omega

end Md


namespace Md
open PySem PySem.Spec PyProof.Rows L2

/-! ### things all of whose texts are of low signs -/
mutual
def lowD : PyData → Prop
  | .str x => LowA x
  | .list ds => lowAll ds
  | .tuple ds => lowAll ds
  | _ => True
def lowAll : List PyData → Prop
  | [] => True
  | d :: ds => lowD d ∧ lowAll ds
end
theorem lowAll_mem {ds : List PyData} (h : lowAll ds) : ∀ d ∈ ds, lowD d := by
  induction ds with
  | nil => intro d hd; cases hd
  | cons e r ih =>
    rw [lowAll] at h
    intro d hd
    rcases List.mem_cons.mp hd with z | z
    · subst z; exact h.1
    · exact ih h.2 d z
theorem lowAll_of {ds : List PyData} (h : ∀ d ∈ ds, lowD d) : lowAll ds := by
  induction ds with
  | nil => rw [lowAll]; trivial
  | cons e r ih =>
    rw [lowAll]
    exact ⟨h e List.mem_cons_self, ih fun d hd => h d (List.mem_cons_of_mem _ hd)⟩
theorem lowD_str {d : PyData} (h : lowD d) : ∀ x, d = .str x → LowA x := by
  intro x e
  subst e
  rw [lowD] at h
  exact h
theorem lowD_tup {ds : List PyData} (h : lowD (.tuple ds)) : ∀ d ∈ ds, lowD d := by
  rw [lowD] at h
  exact lowAll_mem h
/-! ### the law's own look at kinds -/
def foundX (ks : List KdX) : List Str := ks.flatMap fun k => k.1 :: k.2.map (·.1)
def partsX (ks : List KdX) : List PyData := ks.flatMap fun k => k.2.flatMap (·.2)
theorem two_of {A : List Addr} {K : PySem.W.Frag} {H : Hp} {xs : List V} {es : List PyData} (h : DxAll A K H xs es) (l : xs.length = 2) : ∃ v1 v2 d1 d2, xs = [v1, v2] ∧ es = [d1, d2] ∧ Dx A K H v1 d1 ∧ Dx A K H v2 d2 := by
  cases h with
  | nil => cases l
  | cons a b =>
    cases b with
    | nil => cases l
    | cons c d =>
      cases d with
      | nil => exact ⟨_, _, _, _, rfl, rfl, a, c⟩
      | cons _ _ => simp at l
theorem named_len {es : List PyData} {l m : Nat} (h : es.length ≠ 2) : namedD (.tuple es) l m = false := by
  match es, h with
  | [], _ => rfl
  | [_], _ => rfl
  | [_, _], e => exact absurd rfl e
  | _ :: _ :: _ :: _, _ => rfl
theorem namedD_two {a b : PyData} {l m : Nat} : namedD (.tuple [a, b]) l m = (nameD a && rowD b l m) := rfl
def okX (k : KdX) : Prop := isName k.1 = true ∧ 1 ≤ k.2.length ∧ k.2.length ≤ 4 ∧ ∀ r ∈ k.2, isName r.1 = true ∧ r.2.length ≤ 3
theorem foundX_perm : ∀ ks : List KdX, (foundX ks).Perm (allX ks)
  | [] => List.Perm.refl _
  | k :: r => by
    have ih := foundX_perm r
    unfold foundX allX namesX makersX at ih ⊢
    rw [List.flatMap_cons, List.map_cons, List.flatMap_cons, List.map_append, List.cons_append, List.cons_append]
    refine List.Perm.cons _ ?_
    exact (List.Perm.append_left _ ih).trans (List.perm_append_comm_assoc _ _ _)
theorem partOk_turn (ns : List Str) (p : PyData) : partOk (ns ++ [("mark" : Str)]) p = partOk (("mark" : Str) :: ns) p := by
  unfold partOk
  rw [List.any_append, List.any_cons, List.any_cons, List.any_nil, Bool.or_false, Bool.or_comm]
theorem partsX_all (ks : List KdX) (f : PyData → Bool) : (partsX ks).all f = ks.all fun k => k.2.all fun r => r.2.all f := by
  unfold partsX
  rw [List.all_flatMap]
  congr 1
  funext k
  rw [List.all_flatMap]
def outP (ns : List Str) (vs : List V) (ps : List PyData) (i : Nat) : Option V := (vs[i]?).bind fun v => if (ps[i]?).map (partOk ns) = some true then none else some v
theorem outP_empty {ns : List Str} {vs : List V} {ps : List PyData} (l : vs.length = ps.length) : ((List.range vs.length).filterMap (outP ns vs ps)).isEmpty = ps.all (partOk ns) := by
  rw [Bool.eq_iff_iff, List.isEmpty_iff, List.filterMap_eq_nil_iff]
  constructor
  · intro h
    refine List.all_eq_true.mpr fun p hp => ?_
    obtain ⟨i, hi, rfl⟩ := List.getElem_of_mem hp
    have := h i (List.mem_range.mpr (by omega))
    unfold outP at this
    rw [List.getElem?_eq_getElem (show i < vs.length by omega), List.getElem?_eq_getElem hi] at this
    simp only [Option.bind_some, Option.map_some, Option.some.injEq] at this
    split at this
    · assumption
    · cases this
  · intro h i hi
    have hi' : i < vs.length := List.mem_range.mp hi
    unfold outP
    rw [List.getElem?_eq_getElem hi', List.getElem?_eq_getElem (show i < ps.length by omega)]
    simp only [Option.bind_some, Option.map_some]
    rw [if_pos (by rw [List.all_eq_true.mp h _ (List.getElem_mem _)])]
theorem isKinds_at {ds : List PyData} {d : PyData} (h : IsKinds (.tuple ds)) (hd : d ∈ ds) : ∃ c : KdX, d = kindD c ∧ ∀ r ∈ c.2, namedD (pairD r) 0 3 = true := by
  obtain ⟨ks, e, w⟩ := id h
  injection e with e
  subst e
  obtain ⟨c, hc, rfl⟩ := List.mem_map.mp hd
  refine ⟨c, rfl, fun r hr => ?_⟩
  obtain ⟨k, hk, rfl⟩ := List.mem_map.mp hc
  obtain ⟨q, hq, rfl⟩ := List.mem_map.mp hr
  have h1 := w.mn k hk q hq
  have h3 := w.p3 k hk q hq
  rw [namedD_of]
  show (isName q.1 && (decide (0 ≤ (q.2.map PyData.str).length) && decide ((q.2.map PyData.str).length ≤ 3))) = true
  rw [h1, List.length_map, decide_eq_true (Nat.zero_le _), decide_eq_true h3]
  rfl
theorem isKinds_row_at {ds es : List PyData} {d1 r : PyData} (h : IsKinds (.tuple ds)) (hd : PyData.tuple [d1, .tuple es] ∈ ds) (hr : r ∈ es) : namedD r 0 3 = true := by
  obtain ⟨c, e, hc⟩ := isKinds_at h hd
  unfold kindD pairD at e
  simp only [PyData.tuple.injEq, List.cons.injEq] at e
  obtain ⟨_, e2, _⟩ := e
  subst e2
  obtain ⟨q, hq, rfl⟩ := List.mem_map.mp hr
  exact hc q hq
theorem foundX_len {ks : List KdX} (h : ∀ k ∈ ks, okX k) : (foundX ks).length ≤ ks.length * 5 := by
  induction ks with
  | nil => simp [foundX]
  | cons k r ih =>
    have h1 := ih fun d hd => h d (List.mem_cons_of_mem _ hd)
    have h2 := (h k List.mem_cons_self).2.2.1
    unfold foundX at h1 ⊢
    rw [List.flatMap_cons, List.length_append, List.length_cons, List.length_cons, List.length_map, Nat.add_mul, Nat.one_mul]
    omega
theorem rows_len {rs : List Pr} (h : ∀ r ∈ rs, r.2.length ≤ 3) : (rs.flatMap (·.2)).length ≤ rs.length * 3 := by
  induction rs with
  | nil => simp
  | cons k r ih =>
    have h1 := ih fun d hd => h d (List.mem_cons_of_mem _ hd)
    have h2 := h k List.mem_cons_self
    rw [List.flatMap_cons, List.length_append, List.length_cons, Nat.add_mul, Nat.one_mul]
    omega
theorem partsX_len {ks : List KdX} (h : ∀ k ∈ ks, okX k) : (partsX ks).length ≤ ks.length * 12 := by
  induction ks with
  | nil => simp [partsX]
  | cons k r ih =>
    have h1 := ih fun d hd => h d (List.mem_cons_of_mem _ hd)
    have h2 := h k List.mem_cons_self
    have h3 := rows_len fun q hq => (h2.2.2.2 q hq).2
    have h4 := h2.2.2.1
    unfold partsX at h1 ⊢
    rw [List.flatMap_cons, List.length_append, List.length_cons, Nat.add_mul, Nat.one_mul]
    omega
theorem foundX_snoc (ks : List KdX) (nm : Str) (rs : List Pr) : foundX (ks ++ [(nm, rs)]) = foundX ks ++ nm :: rs.map (·.1) := by
  unfold foundX
  rw [List.flatMap_append]
  simp
theorem partsX_snoc (ks : List KdX) (nm : Str) (rs : List Pr) : partsX (ks ++ [(nm, rs)]) = partsX ks ++ rs.flatMap (·.2) := by
  unfold partsX
  rw [List.flatMap_append]
  simp
theorem take_snoc {α : Type} {l : List α} {i : Nat} {d : α} (h : l[i]? = some d) : l.take (i + 1) = l.take i ++ [d] := by
  have hi := (List.getElem?_eq_some_iff.mp h).1
  have hd := (List.getElem?_eq_some_iff.mp h).2
  rw [List.take_succ_eq_append_getElem hi, hd]
section
variable {P : Program} {w : World} {K : PySem.W.Frag} {mg : Str → Option Value} {base : Heap} {aW : Addr}
def spLawAreKinds (K : PySem.W.Frag) : Sp := fun vs H Q _ => ∃ (A : List Addr) (v : V) (d : PyData), vs = [v] ∧ Dx A K H v d ∧ d.weight ≤ 100000 ∧ lowD d ∧ ∀ H' (b : Bool), Kp [] H H' → (b = true ↔ IsKinds d) → Q (.bl b) H'
set_option maxHeartbeats 1000000 in
theorem c_law_are_kinds (T : Txt K mg aW) (c_law_is_name : C8.Cal P w K mg base 2 "_law_is_name" (spLawIsName K) []) (c_law_sizes__x : C8.Cal P w K mg base 1 "_law_sizes" (spLawSizesX K) []) (F : At_law_are_kinds K mg) : C8.Cal P w K mg base 3 "_law_are_kinds" (spLawAreKinds K) [] := by
  have c_law_sizes := c_law_sizes__x
  refine F.cal sc_law_are_kinds (fun vs H Q E h => ?_) (fun f cdv A outer s H vs Q E hr h => ?_)
  · obtain ⟨A, v, d, rfl, _⟩ := h
    rfl
  · obtain ⟨A0, v, d, rfl, hd, hw, hlow, k⟩ := h
    have nd := sc_law_are_kinds.nd
    have hu := hu_of hr
    have hu64 := h64 hr
    have no : ∀ H', Kp [] H H' → ¬ IsKinds d → Q (.bl false) H' := fun H' kk z => k H' false kk ⟨fun z => (nomatch z), fun z' => absurd z' z⟩
    refine ⟨_, (pss_cons (ps_if (PW.pt (pw_or (pt_not (pt_val (pe_callB call_isi (by rfl) T.z_isinstance (by decide +kernel) (pa_cons (pv 0) (pa_cons (pe_bltn (v := .ty "tuple") (by rfl) T.z_tuple (by decide +kernel) rfl) pa_nil))))) (pw_or1 (pt_not (pt_chain op_le op_le pe_int (pe_callB call_len_seq (by rfl) T.z_len (by decide +kernel) (pa_cons (pv 0) pa_nil)) pe_int))))) (pss_one (ps_ret pe_bl)) pss_nil)
      (pss_cons (ps_set (i := 1) nd rfl (by first | exact Or.inl rfl | exact Or.inr rfl) (pe_lst pa_nil))
      (pss_cons (ps_set (i := 2) nd rfl (by first | exact Or.inl rfl | exact Or.inr rfl) (pe_lst pa_nil))
      (pss_cons (ps_for PassesOwn.never rfl (pi_tup (pv 0)) (pg_name (i := 3) nd rfl (by first | exact Or.inl rfl | exact Or.inr rfl))
        (pss_cons (ps_if (PW.pt (pw_or (pt_not (pt_val (pe_callB call_isi (by rfl) T.z_isinstance (by decide +kernel) (pa_cons (pv 3) (pa_cons (pe_bltn (v := .ty "tuple") (by rfl) T.z_tuple (by decide +kernel) rfl) pa_nil))))) (pw_or (pt_cmpR op_ne (pe_callB call_len_seq (by rfl) T.z_len (by decide +kernel) (pa_cons (pv 3) pa_nil)) pe_int (nomark _)) (pw_or1 (pt_not (pt_val (C8.pe_c c_law_is_name hr (by decide) rfl (pa_cons (pe_ix ix_tup (pv 3) pe_int (fun _ _ => rfl)) pa_nil)))))))) (pss_one (ps_ret pe_bl)) pss_nil)
        (pss_cons (ps_if (PW.pt (pw_or (pt_not (pt_val (pe_callB call_isi (by rfl) T.z_isinstance (by decide +kernel) (pa_cons (pe_ix ix_tup (pv 3) pe_int (fun _ _ => rfl)) (pa_cons (pe_bltn (v := .ty "tuple") (by rfl) T.z_tuple (by decide +kernel) rfl) pa_nil))))) (pw_or1 (pt_not (pt_chain op_le op_le pe_int (pe_callB call_len_seq (by rfl) T.z_len (by decide +kernel) (pa_cons (pe_ix ix_tup (pv 3) pe_int (fun _ _ => rfl)) pa_nil)) pe_int))))) (pss_one (ps_ret pe_bl)) pss_nil)
        (pss_cons (ps_expr (pe_bm PySem.F.plainAttrs_list PySem.F.slot_list_append PySem.F.type_list_append mt_append (pv 1) (pa_cons (pe_ix ix_tup (pv 3) pe_int (fun _ _ => rfl)) pa_nil)))
        (pss_one (ps_for PassesOwn.never rfl (pi_tup (pe_ix ix_tup (pv 3) pe_int (fun _ _ => rfl))) (pg_name (i := 4) nd rfl (by first | exact Or.inl rfl | exact Or.inr rfl))
          (pss_cons (ps_if (PW.pt (pw_or (pt_not (pt_val (pe_callB call_isi (by rfl) T.z_isinstance (by decide +kernel) (pa_cons (pv 4) (pa_cons (pe_bltn (v := .ty "tuple") (by rfl) T.z_tuple (by decide +kernel) rfl) pa_nil))))) (pw_or (pt_cmpR op_ne (pe_callB call_len_seq (by rfl) T.z_len (by decide +kernel) (pa_cons (pv 4) pa_nil)) pe_int (nomark _)) (pw_or1 (pt_not (pt_val (C8.pe_c c_law_is_name hr (by decide) rfl (pa_cons (pe_ix ix_tup (pv 4) pe_int (fun _ _ => rfl)) pa_nil)))))))) (pss_one (ps_ret pe_bl)) pss_nil)
          (pss_cons (ps_if (PW.pt (pw_or (pt_not (pt_val (pe_callB call_isi (by rfl) T.z_isinstance (by decide +kernel) (pa_cons (pe_ix ix_tup (pv 4) pe_int (fun _ _ => rfl)) (pa_cons (pe_bltn (v := .ty "tuple") (by rfl) T.z_tuple (by decide +kernel) rfl) pa_nil))))) (pw_or1 (pt_cmpR op_gt (pe_callB call_len_seq (by rfl) T.z_len (by decide +kernel) (pa_cons (pe_ix ix_tup (pv 4) pe_int (fun _ _ => rfl)) pa_nil)) pe_int (nomark _))))) (pss_one (ps_ret pe_bl)) pss_nil)
          (pss_cons (ps_expr (pe_bm PySem.F.plainAttrs_list PySem.F.slot_list_append PySem.F.type_list_append mt_append (pv 1) (pa_cons (pe_ix ix_tup (pv 4) pe_int (fun _ _ => rfl)) pa_nil)))
          (pss_one (ps_expr (pe_bm PySem.F.plainAttrs_list PySem.F.slot_list_extend PySem.F.type_list_extend mt_extend (pv 2) (pa_cons (pe_callTy call_list_of (by rfl) T.z_list (by decide +kernel) (pa_cons (pe_ix ix_tup (pv 4) pe_int (fun _ _ => rfl)) pa_nil)) pa_nil)))))))))))))
      (pss_cons (ps_if (pt_cmpR op_ne (pe_lenSetS rfl rfl T.z_len rfl T.z_set (pv 1)) (pe_callB call_len_seq (by rfl) T.z_len (by decide +kernel) (pa_cons (pv 1) pa_nil)) (nomark _)) (pss_one (ps_ret pe_bl)) pss_nil)
      (pss_cons (ps_set (i := 5) nd rfl (by first | exact Or.inl rfl | exact Or.inr rfl) (pe_op op_cat (pe_lc (own := [("pair", 3)]) (te := tOp (rIxT K) (tVar 3) (tC (.int 0))) (g := (gName 3)) (tt := tYes) rfl nd (pi_tup (pv 0)) (blkOk_by (N := nn_law_are_kinds) (sc := defScope st_law_are_kinds) (own := [("pair", 3)]) (by decide +kernel)) (fun _ _ _ _ _ => (pg_name (i := 3) nd rfl (by first | exact Or.inl rfl | exact Or.inr rfl))) (fun _ _ _ _ _ => pts_nil) (fun _ _ _ _ _ => (pe_ix ix_tup (pv 3) pe_int (fun _ _ => rfl)))) (pe_lst (pa_cons pe_str pa_nil))))
      (pss_cons (ps_if (pt_cmpR (op_neNil hu64) (pe_lc (own := [("part", 6)]) (g := (gName 6)) (tt := tOr (tNot (tB (tCB (rIsi K) (tCons (tVar 6) (tCons (tC (.ty "str")) tNil))))) (tTest (tOp (rIn K true) (tVar 6) (tVar 5)))) rfl nd (pi_list (pv 2)) (blkOk_by (N := nn_law_are_kinds) (sc := defScope st_law_are_kinds) (own := [("part", 6)]) (by decide +kernel)) (fun _ _ _ _ _ => (pg_name (i := 6) nd rfl (by first | exact Or.inl rfl | exact Or.inr rfl))) (fun _ _ _ _ _ => (pts_one (PW.pt (pw_or (pt_not (pt_val (pe_callB call_isi (by rfl) T.z_isinstance (by decide +kernel) (pa_cons (pv 6) (pa_cons (pe_bltn (v := .ty "str") (by rfl) T.z_str (by decide +kernel) rfl) pa_nil))))) (pw_or1 (pt_cmpR op_notIn_seq (pv 6) (pv 5) (by rfl))))))) (fun _ _ _ _ _ => (pv 6))) (pe_lst pa_nil) (nomark _)) (pss_one (ps_ret pe_bl)) pss_nil)
      (pss_one (ps_ret (pe_cmpR op_eq (pe_callB call_lenD (by rfl) T.z_len (by decide +kernel) (pa_cons (C8.pe_c c_law_sizes hr (by decide) rfl (pa_cons (pv 0) pa_nil)) pa_nil)) (pe_callB call_len_seq (by rfl) T.z_len (by decide +kernel) (pa_cons (pv 5) pa_nil)) (nomark _))))))))))), ?_⟩
    refine ⟨_, rfl, _, _, _, _, isTupD d, rfl, .ty "tuple", hd.ty, kit_tup d, _, rfl, ?_⟩
    rcases (Classical.em (∃ ds, d = .tuple ds)).symm with hs | hs
    · have e1 : isTupD d = false := by cases d <;> first | rfl | exact absurd ⟨_, rfl⟩ hs
      rw [e1]
      refine iteT (no H Kp.refl ?_)
      rintro ⟨ks, e, _⟩
      exact hs ⟨_, e⟩
    obtain ⟨ds, rfl⟩ := hs
    cases hd with
    | @tup a us _ hq hp =>
    have ul := hp.len
    refine iteF ?_
    refine ⟨_, rfl, a, us, rfl, .inr hq, _, _, rfl, rfl, _, rfl, ?_⟩
    have big : ∀ c : Prop, (IsKinds (.tuple ds) → c) → ¬ c → ¬ IsKinds (.tuple ds) := fun c h n z => n (h z)
    by_cases h1 : (1 : Int) ≤ (us.length : Int)
    rotate_left
    · refine iteDn h1 ⟨_, rfl, no H Kp.refl fun z => ?_⟩
      obtain ⟨ds', e, q1, q2⟩ := rowD_tup (isKinds_row z)
      cases e
      omega
    refine iteD h1 ⟨_, _, rfl, rfl, _, rfl, ?_⟩
    by_cases h5 : (us.length : Int) ≤ 5
    rotate_left
    · refine iteB (by simp; omega) (no H Kp.refl fun z => ?_)
      obtain ⟨ds', e, q1, q2⟩ := rowD_tup (isKinds_row z)
      cases e
      omega
    refine iteBn (by simp [h5]) ?_
    refine ⟨(by show 0 ≤ sizeLine; decide), fun f0 hf0 => ?_⟩
    have kf : Kp [] H (upd H f0 (.lst [])) := Kp.new hf0
    refine ⟨(by show 0 ≤ sizeLine; decide), fun p0 hp0 => ?_⟩
    have kp0 : Kp [] H (upd (upd H f0 (.lst [])) p0 (.lst [])) := kf.new' hp0
    have hnp : p0 ≠ f0 := fun z => by rw [z, upd_same] at hp0; cases hp0
    have hp0' : H p0 = none := kf.free hp0 (by simp)
    have ef0 : upd (upd H f0 (.lst [])) p0 (.lst []) f0 = some (.lst []) := by rw [upd_ne (Ne.symm hnp), upd_same]
    have ep0 : upd (upd H f0 (.lst [])) p0 (.lst []) p0 = some (.lst []) := upd_same
    generalize upd (upd H f0 (.lst [])) p0 (.lst []) = H0 at kp0 ef0 ep0
    have wds : ∀ d ∈ ds, d.weight ≤ 100000 := fun d hd => by
      have := mem_weight hd
      rw [PyData.weight] at hw
      omega
    refine ⟨_, rfl, a, rfl, ⟨_, kp0.sqt hq⟩, for_tup (K := K) (a := a) (xs := us) (fun i σ H' => ∃ v3 v4 v5 v6 ks vs, σ = [some (.ref a), some (.ref f0), some (.ref p0), v3, v4, v5, v6] ∧ Kp [] H H' ∧ ds.take i = ks.map kindD ∧ (∀ k ∈ ks, okX k) ∧
        H' f0 = some (.lst ((foundX ks).map V.str)) ∧ H' p0 = some (.lst vs) ∧ DxAll A0 K H vs (partsX ks))
      ⟨_, _, _, _, [], [], rfl, kp0, rfl, fun _ h => (nomatch h), ef0, ep0, .nil⟩ (fun i σ H' _ z => by obtain ⟨_, _, _, _, _, _, _, kk, _⟩ := z; exact kk.sqt hq) ?_ ?_⟩
    · rintro i x σ H1 hx ⟨v3, v4, v5, v6, ks, vs, rfl, k1, etk, hok, ef, ep, hvs⟩
      obtain ⟨d, hdi, hx0⟩ := hp.get hx
      have dm := List.mem_of_getElem? hdi
      have wd := wds d dm
      have nk : namedD d 1 4 = false → ¬ IsKinds (.tuple ds) := fun z y => by
        have := List.all_eq_true.mp (isKinds_named y) d dm
        rw [z] at this
        cases this
      refine ⟨_, rfl, _, _, _, _, isTupD d, rfl, .ty "tuple", (hx0.k0 k1).ty, kit_tup d, _, rfl, ?_⟩
      rcases (Classical.em (∃ es, d = .tuple es)).symm with hs | hs
      · have e1 : isTupD d = false := by cases d <;> first | rfl | exact absurd ⟨_, rfl⟩ hs
        have e2 : namedD d 1 4 = false := by cases d <;> first | rfl | exact absurd ⟨_, rfl⟩ hs
        rw [e1]
        exact iteT (no H1 k1 (nk e2))
      obtain ⟨es, rfl⟩ := hs
      cases hx0 with
      | @tup b xs _ hqb hpb =>
      have ubl := hpb.len
      refine iteF ?_
      refine ⟨_, rfl, b, xs, rfl, .inr (k1.sqt hqb), rfl, _, rfl, ?_⟩
      rcases (Classical.em (xs.length = 2)).symm with h2 | h2
      · refine iteB (by simp; omega) (no H1 k1 (nk ?_))
        exact named_len (by omega)
      refine iteBn (by simp [h2]) ?_
      obtain ⟨v1, v2, d1, d2, rfl, rfl, hd1, hd2⟩ := two_of hpb h2
      have low2 := lowD_tup (lowD_tup hlow _ dm)
      have w12 : d1.weight ≤ 100000 ∧ d2.weight ≤ 100000 := by
        simp only [PyData.weight, PyData.weightAll] at wd ⊢
        omega
      refine ⟨_, rfl, _, _, _, _, rfl, rfl, k1.sqt hqb, rfl, A0, v1, d1, rfl, hd1.k0 k1, w12.1, lowD_str (low2 d1 (by simp)), fun H2 k2 => ⟨_, rfl, ?_⟩⟩
      have k12 := k1.trans k2
      rcases (Classical.em (nameD d1 = true)).symm with hn | hn
      · have hn' : nameD d1 = false := by simpa using hn
        exact iteB (by rw [hn']; rfl) (no H2 k12 (nk (by rw [namedD_two, hn']; rfl)))
      refine iteBn (by rw [hn]; rfl) ?_
      obtain ⟨nm, rfl, hnm⟩ := nameD_str hn
      cases hd1
      have hqb2 := k12.sqt hqb
      refine ⟨_, rfl, _, _, _, _, rfl, rfl, hqb2, rfl, _, _, _, _, isTupD d2, rfl, .ty "tuple", (hd2.k0 k12).ty, kit_tup d2, _, rfl, ?_⟩
      rcases (Classical.em (∃ es, d2 = .tuple es)).symm with hs | hs
      · have e1 : isTupD d2 = false := by cases d2 <;> first | rfl | exact absurd ⟨_, rfl⟩ hs
        have e2 : rowD d2 1 4 = false := by cases d2 <;> first | rfl | exact absurd ⟨_, rfl⟩ hs
        rw [e1]
        exact iteT (no H2 k12 (nk (by rw [namedD_two, e2, Bool.and_false])))
      obtain ⟨es2, rfl⟩ := hs
      cases hd2 with
      | @tup c ws _ hqc hpc =>
      have ucl := hpc.len
      refine iteF ?_
      refine ⟨_, rfl, _, _, _, _, rfl, rfl, hqb2, rfl, c, ws, rfl, .inr (k12.sqt hqc), _, _, rfl, rfl, _, rfl, ?_⟩
      by_cases c1 : (1 : Int) ≤ (ws.length : Int)
      rotate_left
      · refine iteDn c1 ⟨_, rfl, no H2 k12 (nk ?_)⟩
        rw [namedD_two]
        show (_ && (decide (1 ≤ es2.length) && _)) = false
        rw [decide_eq_false (show ¬ 1 ≤ es2.length by omega), Bool.false_and, Bool.and_false]
      refine iteD c1 ⟨_, _, rfl, rfl, _, rfl, ?_⟩
      by_cases c4 : (ws.length : Int) ≤ 4
      rotate_left
      · refine iteB (by simp; omega) (no H2 k12 (nk ?_))
        rw [namedD_two]
        show (_ && (_ && decide (es2.length ≤ 4))) = false
        rw [decide_eq_false (show ¬ es2.length ≤ 4 by omega), Bool.and_false, Bool.and_false]
      refine iteBn (by simp [c4]) ?_
      have ef2 := k2.old _ _ ef (by simp)
      have ep2 := k2.old _ _ ep (by simp)
      have kl : ks.length ≤ 5 := by
        have := congrArg List.length etk
        rw [List.length_take, List.length_map] at this
        omega
      have fl5 := foundX_len hok
      have pl12 := partsX_len hok
      refine ⟨_, rfl, tyL ef2, _, rfl, _, _, _, _, rfl, rfl, hqb2, rfl, f0, _, _, rfl, rfl, ef2, ?_, ?_⟩
      · rw [List.length_map]
        exact small1000 (by omega)
      have k3 : Kp [] H (upd H2 f0 (.lst ((foundX ks).map V.str ++ [V.str nm]))) := k12.own hf0
      have kw : Kp [f0] H2 (upd H2 f0 (.lst ((foundX ks).map V.str ++ [V.str nm]))) := Kp.wr ef2 (by simp)
      have ef3 : upd H2 f0 (.lst ((foundX ks).map V.str ++ [V.str nm])) f0 = some (.lst ((foundX ks ++ nm :: ([] : List Pr).map (·.1)).map V.str)) := by rw [upd_same, List.map_append]; rfl
      have ep3 := kw.old _ _ ep2 (by simp [hnp])
      generalize upd H2 f0 (.lst ((foundX ks).map V.str ++ [V.str nm])) = H3 at k3 kw ef3 ep3
      have nr : ∀ r ∈ es2, namedD r 0 3 = false → ¬ IsKinds (.tuple ds) := fun r hr z y => by
        have := isKinds_row_at y dm hr
        rw [z] at this
        cases this
      have wes : ∀ r ∈ es2, r.weight ≤ 100000 := fun r hr => by
        have := mem_weight hr
        have w2 := w12.2
        rw [PyData.weight] at w2
        omega
      refine ⟨_, rfl, _, _, _, _, rfl, rfl, k3.sqt hqb, rfl, c, rfl, ⟨_, k3.sqt hqc⟩, for_tup (K := K) (a := c) (xs := ws) (fun j σ H' => ∃ v4 v5 v6 rs vs, σ = [some (.ref a), some (.ref f0), some (.ref p0), some (.ref b), v4, v5, v6] ∧ Kp [] H H' ∧ es2.take j = rs.map pairD ∧ (∀ r ∈ rs, isName r.1 = true ∧ r.2.length ≤ 3) ∧
          H' f0 = some (.lst ((foundX ks ++ nm :: rs.map (·.1)).map V.str)) ∧ H' p0 = some (.lst vs) ∧ DxAll A0 K H vs (partsX ks ++ rs.flatMap (·.2)))
        ⟨_, _, _, [], vs, rfl, k3, rfl, fun _ h => (nomatch h), ef3, ep3, by simpa using hvs⟩ (fun j σ H' _ z => by obtain ⟨_, _, _, _, _, _, kk, _⟩ := z; exact kk.sqt hqc) ?_ ?_⟩
      · rintro j y σ H4 hy ⟨v4', v5', v6', rs, vs', rfl, k4, etk2, hok2, ef4, ep4, hvs4⟩
        obtain ⟨d, hdj, hy0⟩ := hpc.get hy
        have rm := List.mem_of_getElem? hdj
        have wd2 := wes d rm
        have nk2 := nr d rm
        refine ⟨_, rfl, _, _, _, _, isTupD d, rfl, .ty "tuple", (hy0.k0 k4).ty, kit_tup d, _, rfl, ?_⟩
        rcases (Classical.em (∃ es, d = .tuple es)).symm with hs | hs
        · have e1 : isTupD d = false := by cases d <;> first | rfl | exact absurd ⟨_, rfl⟩ hs
          have e2 : namedD d 0 3 = false := by cases d <;> first | rfl | exact absurd ⟨_, rfl⟩ hs
          rw [e1]
          exact iteT (no H4 k4 (nk2 e2))
        obtain ⟨es, rfl⟩ := hs
        cases hy0 with
        | @tup b2 xs2 _ hqr hpr =>
        have ubl2 := hpr.len
        refine iteF ?_
        refine ⟨_, rfl, b2, xs2, rfl, .inr (k4.sqt hqr), rfl, _, rfl, ?_⟩
        rcases (Classical.em (xs2.length = 2)).symm with h2' | h2'
        · refine iteB (by simp; omega) (no H4 k4 (nk2 ?_))
          exact named_len (by omega)
        refine iteBn (by simp [h2']) ?_
        obtain ⟨u1, u2, e1, e2, rfl, rfl, he1, he2⟩ := two_of hpr h2'
        have low3 := lowD_tup (lowD_tup (low2 (.tuple es2) (by simp)) _ rm)
        have w34 : e1.weight ≤ 100000 ∧ e2.weight ≤ 100000 := by
          simp only [PyData.weight, PyData.weightAll] at wd2 ⊢
          omega
        refine ⟨_, rfl, _, _, _, _, rfl, rfl, k4.sqt hqr, rfl, A0, u1, e1, rfl, he1.k0 k4, w34.1, lowD_str (low3 e1 (by simp)), fun H5 k5 => ⟨_, rfl, ?_⟩⟩
        have k45 := k4.trans k5
        rcases (Classical.em (nameD e1 = true)).symm with hn2 | hn2
        · have hn' : nameD e1 = false := by simpa using hn2
          exact iteB (by rw [hn']; rfl) (no H5 k45 (nk2 (by rw [namedD_two, hn']; rfl)))
        refine iteBn (by rw [hn2]; rfl) ?_
        obtain ⟨mk, rfl, hmk⟩ := nameD_str hn2
        cases he1
        have hqr2 := k45.sqt hqr
        refine ⟨_, rfl, _, _, _, _, rfl, rfl, hqr2, rfl, _, _, _, _, isTupD e2, rfl, .ty "tuple", (he2.k0 k45).ty, kit_tup e2, _, rfl, ?_⟩
        rcases (Classical.em (∃ es, e2 = .tuple es)).symm with hs | hs
        · have x1 : isTupD e2 = false := by cases e2 <;> first | rfl | exact absurd ⟨_, rfl⟩ hs
          have x2 : rowD e2 0 3 = false := by cases e2 <;> first | rfl | exact absurd ⟨_, rfl⟩ hs
          rw [x1]
          exact iteT (no H5 k45 (nk2 (by rw [namedD_two, x2, Bool.and_false])))
        obtain ⟨es3, rfl⟩ := hs
        cases he2 with
        | @tup c2 ws2 _ hqc2 hpc2 =>
        have ucl2 := hpc2.len
        refine iteF ?_
        refine ⟨_, rfl, _, _, _, _, rfl, rfl, hqr2, rfl, c2, ws2, rfl, .inr (k45.sqt hqc2), _, _, rfl, rfl, _, rfl, ?_⟩
        by_cases c3 : (3 : Int) < (ws2.length : Int)
        · refine iteB (decide_eq_true c3) (no H5 k45 (nk2 ?_))
          have x2 : rowD (.tuple es3) 0 3 = false := by
            show (decide (0 ≤ es3.length) && decide (es3.length ≤ 3)) = false
            rw [decide_eq_false (show ¬ es3.length ≤ 3 by omega), Bool.and_false]
          rw [namedD_two, x2, Bool.and_false]
        refine iteBn (decide_eq_false c3) ?_
        have ef5 := k5.old _ _ ef4 (by simp)
        have ep5 := k5.old _ _ ep4 (by simp)
        have rl4 : rs.length ≤ 4 := by
          have := congrArg List.length etk2
          rw [List.length_take, List.length_map] at this
          omega
        have rl12 := rows_len fun r hr => (hok2 r hr).2
        refine ⟨_, rfl, tyL ef5, _, rfl, _, _, _, _, rfl, rfl, hqr2, rfl, f0, _, _, rfl, rfl, ef5, ?_, ?_⟩
        · rw [List.length_map, List.length_append, List.length_cons, List.length_map]
          exact small1000 (by omega)
        have k6 : Kp [] H (upd H5 f0 (.lst ((foundX ks ++ nm :: rs.map (·.1)).map V.str ++ [V.str mk]))) := k45.own hf0
        have kw6 : Kp [f0] H5 (upd H5 f0 (.lst ((foundX ks ++ nm :: rs.map (·.1)).map V.str ++ [V.str mk]))) := Kp.wr ef5 (by simp)
        have ef6 : upd H5 f0 (.lst ((foundX ks ++ nm :: rs.map (·.1)).map V.str ++ [V.str mk])) f0 = some (.lst ((foundX ks ++ nm :: (rs ++ [(mk, es3)]).map (·.1)).map V.str)) := by rw [upd_same]; simp
        have ep6 := kw6.old _ _ ep5 (by simp [hnp])
        generalize upd H5 f0 (.lst ((foundX ks ++ nm :: rs.map (·.1)).map V.str ++ [V.str mk])) = H6 at k6 kw6 ef6 ep6
        have vl : vs'.length ≤ 100 := by
          have := hvs4.len
          rw [List.length_append] at this
          omega
        have e3l : ws2.length ≤ 3 := by omega
        refine ⟨_, rfl, tyL ep6, _, rfl, _, _, _, _, rfl, rfl, k6.sqt hqr, rfl, c2, ws2, rfl, .inr (k6.sqt hqc2), fun l hl => ?_⟩
        have hpl : p0 ≠ l := fun z => by rw [← z, ep6] at hl; cases hl
        have hfl : f0 ≠ l := fun z => by rw [← z, ef6] at hl; cases hl
        refine ⟨p0, l, vs', ws2, rfl, rfl, by rw [upd_ne hpl]; exact ep6, upd_same, ?_, ?_⟩
        · exact Nat.le_of_lt (small1000 (by omega))
        refine ⟨_, _, _, rs ++ [(mk, es3)], vs' ++ ws2, rfl, (k6.new' hl).own hp0', ?_, ?_, ?_, upd_same, ?_⟩
        · rw [take_snoc hdj, etk2, List.map_append]
          rfl
        · intro q hq'
          rcases List.mem_append.mp hq' with z | z
          · exact hok2 q z
          · have : q = (mk, es3) := by simpa using z
            subst this
            exact ⟨hmk, by show es3.length ≤ 3; omega⟩
        · rw [upd_ne (Ne.symm hnp), upd_ne hfl]
          exact ef6
        · rw [List.flatMap_append, ← List.append_assoc]
          have : ([(mk, es3)] : List Pr).flatMap (·.2) = es3 := by simp
          rw [this]
          exact hvs4.append hpc2
      · rintro σ H4 ⟨v4', v5', v6', rs, vs', rfl, k4, etk2, hok2, ef4, ep4, hvs4⟩
        rw [ucl, List.take_length] at etk2
        subst etk2
        refine ⟨_, _, _, _, ks ++ [(nm, rs)], vs', rfl, k4, ?_, ?_, ?_, ep4, ?_⟩
        · rw [take_snoc hdi, etk, List.map_append]
          rfl
        · intro q hq'
          rcases List.mem_append.mp hq' with z | z
          · exact hok q z
          · have : q = (nm, rs) := by simpa using z
            subst this
            refine ⟨hnm, ?_, ?_, hok2⟩
            · show 1 ≤ rs.length
              rw [List.length_map] at ucl
              omega
            · show rs.length ≤ 4
              rw [List.length_map] at ucl
              omega
        · rw [foundX_snoc]
          exact ef4
        · rw [partsX_snoc]
          exact hvs4
    · rintro σ H1 ⟨v3, v4, v5, v6, ks, vs, rfl, k1, etk, hok, ef, ep, hvs⟩
      rw [ul, List.take_length] at etk
      have no' : ∀ H', Kp [] H H' → ¬ IsKinds (kdsD ks) → Q (.bl false) H' := fun H' kk z => no H' kk (by rw [etk]; exact z)
      have hkd : Dx A0 K H (.ref a) (kdsD ks) := by
        unfold kdsD
        rw [← etk]
        exact .tup hq hp
      have kl : ks.length = us.length := by rw [ul, etk, List.length_map]
      have fl5 := foundX_len hok
      have pl12 := partsX_len hok
      have vl := hvs.len
      refine ⟨_, rfl, f0, foundX ks, rfl, SqL.of ef, by omega, ?_⟩
      refine ⟨_, rfl, f0, _, rfl, .inl (SqL.of ef), rfl, _, rfl, ?_⟩
      rcases (Classical.em ((foundX ks).Nodup)).symm with h5' | h5'
      · exact iteB (by rw [List.length_map, firsts_iffV, decide_eq_false h5']; rfl) (no' H1 k1 fun z => h5' ((foundX_perm ks).nodup_iff.mpr (isKinds_unlike z)))
      refine iteBn (by rw [List.length_map, firsts_iffV, decide_eq_true h5']; rfl) ?_
      have hnd := (foundX_perm ks).nodup_iff.mp h5'
      subst etk
      refine ⟨_, rfl, a, rfl, ⟨_, k1.sqt hq⟩, fun D hD => ?_⟩
      refine lcW (S := []) walk_tup (fun i => (ks[i]?).map fun k => V.str k.1) hD (by simp) (small1000 (by omega)) (fun H' kk => kk.sqt (k1.sqt hq)) ?_ ?_
      · rintro i x H' H'' C N hi kk ⟨rfl, hx⟩ hC hN
        obtain ⟨d, b, c, ws, hd, rfl, hb, hc, hr2⟩ := kind_at hp hx
        refine ⟨rfl, ⟨_, rfl, _, _, _, _, rfl, rfl, (k1.trans kk).sqt hb, rfl, ?_⟩⟩
        exact hC _ _ Kp.refl (by rw [hd]; rfl)
      intro H2 k2 e2
      rw [← kl, range_map] at e2
      have k12 := k1.trans k2
      refine ⟨(by show 1 ≤ sizeLine; decide), fun m hm => ?_⟩
      have km : Kp [] H2 (upd H2 m (.lst [.str "mark"])) := Kp.new hm
      have eD := km.old _ _ e2 (by simp)
      have em : upd H2 m (.lst [V.str "mark"]) m = some (.lst [V.str "mark"]) := upd_same
      have k13 := k12.trans km
      have ep3 := km.old _ _ (k2.old _ _ ep (by simp)) (by simp)
      generalize upd H2 m (.lst [V.str "mark"]) = H3 at km eD em k13 ep3
      refine ⟨D, m, _, _, rfl, rfl, eD, em, ?_, fun r hr2 => ?_⟩
      · rw [List.length_map]
        exact Nat.le_of_lt (small1000 (by simp; omega))
      have ens : (ks.map fun k => V.str k.1) ++ [V.str "mark"] = (namesX ks ++ [("mark" : Str)]).map V.str := by rw [List.map_append, namesX, List.map_map]; rfl
      rw [ens]
      have k4 : Kp [] H3 (upd H3 r (.lst ((namesX ks ++ [("mark" : Str)]).map V.str))) := Kp.new hr2
      have er : upd H3 r (.lst ((namesX ks ++ [("mark" : Str)]).map V.str)) r = some (.lst ((namesX ks ++ [("mark" : Str)]).map V.str)) := upd_same
      have k14 := k13.trans k4
      have ep4 := k4.old _ _ ep3 (by simp)
      generalize upd H3 r (.lst ((namesX ks ++ [("mark" : Str)]).map V.str)) = H4 at k4 er k14 ep4
      generalize hns : namesX ks ++ [("mark" : Str)] = ns at er
      refine ⟨_, rfl, p0, rfl, ⟨_, SqL.of ep4⟩, fun D2 hD2 => ?_⟩
      refine lcW (S := []) walk_list (outP ns vs (partsX ks)) hD2 (by simp) (small1000 (by omega)) (fun H' kk => kk.sql (SqL.of ep4) (by simp)) ?_ ?_
      · rintro i x H' H'' C N hi kk ⟨rfl, hx⟩ hC hN
        obtain ⟨d, hd, hx0⟩ := hvs.get hx
        have kz := k14.trans kk
        refine ⟨rfl, ⟨_, rfl, _, _, _, _, isStrD d, rfl, .ty "str", (hx0.k0 kz).ty, kit_str d, _, rfl, ?_⟩⟩
        rcases (Classical.em (∃ x, d = .str x)).symm with hs | hs
        · have e1 : isStrD d = false := by cases d <;> first | rfl | exact absurd ⟨_, rfl⟩ hs
          have e3 : partOk ns d = false := by
            cases h : partOk ns d with
            | false => rfl
            | true =>
              obtain ⟨y, _, z⟩ := partOk_str h
              exact absurd ⟨y, z⟩ hs
          exact iteB (by rw [e1]; rfl) (iteB rfl ⟨_, rfl, hC _ _ Kp.refl (by unfold outP; rw [hx, hd]; show (if some (partOk ns d) = some true then none else some x) = _; rw [e3, if_neg (by decide)])⟩)
        obtain ⟨y, rfl⟩ := hs
        cases hx0
        refine iteBn rfl ?_
        refine ⟨_, rfl, _, rfl, r, _, rfl, .inl (kk.sql (SqL.of er) (by simp)), rfl, flats _, _, rfl, ?_⟩
        have ein : inV (.str y) (ns.map V.str) = partOk ns (.str y) := by
          rw [inV_strs]
          cases h : partOk ns (.str y) with
          | true =>
            obtain ⟨z, hz, e⟩ := partOk_str h
            cases e
            simpa using hz
          | false =>
            cases h2 : ns.contains y with
            | false => rfl
            | true => rw [partOk_of (by simpa using h2)] at h; cases h
        show (if (!inV (.str y) (ns.map V.str)) = true then _ else _)
        rw [ein]
        cases h : partOk ns (.str y) with
        | true => exact iteBn rfl (hN _ Kp.refl (by unfold outP; rw [hx, hd]; show (if some (partOk ns (.str y)) = some true then none else some (V.str y)) = _; rw [h, if_pos rfl]))
        | false => exact iteB rfl ⟨_, rfl, hC _ _ Kp.refl (by unfold outP; rw [hx, hd]; show (if some (partOk ns (.str y)) = some true then none else some (V.str y)) = _; rw [h, if_neg (by decide)])⟩
      intro H5 k5 e5
      refine ⟨(by show 0 ≤ sizeLine; decide), fun D3 hD3 => ?_⟩
      have k6 : Kp [] H5 (upd H5 D3 (.lst [])) := Kp.new hD3
      refine ⟨D2, D3, _, rfl, rfl, SqL.of (k6.old _ _ e5 (by simp)), SqL.of upd_same, _, rfl, ?_⟩
      have k16 := (k14.trans k5).trans k6
      have er6 := (k5.trans k6).old _ _ er (by simp)
      generalize upd H5 D3 (.lst []) = H6 at k6 k16 er6
      show (if (!((List.range vs.length).filterMap (outP ns vs (partsX ks))).isEmpty) = true then _ else _)
      rw [outP_empty vl]
      have eall : (partsX ks).all (partOk ns) = ks.all fun k => k.2.all fun r => r.2.all (partOk (("mark" : Str) :: namesX ks)) := by
        rw [← partsX_all]
        congr 1
        funext p
        rw [← hns, partOk_turn]
      rw [eall]
      rcases (Classical.em ((ks.all fun k => k.2.all fun r => r.2.all (partOk (("mark" : Str) :: namesX ks))) = true)).symm with h6 | h6
      · have h6' := by simpa only [Bool.not_eq_true] using h6
        exact iteB (by rw [h6']; rfl) (no' H6 k16 fun z => h6 (isKinds_parts z))
      refine iteBn (by rw [h6]; rfl) ?_
      obtain ⟨kd, rfl, hkdp⟩ := kds_of h6
      have kl2 : kd.length = us.length := by rw [← kl, ofKds, List.length_map]
      have hokd : ∀ d ∈ kd, isName d.1 = true ∧ 1 ≤ d.2.length ∧ d.2.length ≤ 4 ∧ ∀ r ∈ d.2, isName r.1 = true ∧ r.2.length ≤ 3 := fun d hd => by
        have := hok (ofKd d) (List.mem_map.mpr ⟨d, hd, rfl⟩)
        obtain ⟨a1, a2, a3, a4⟩ := this
        refine ⟨a1, by simpa [ofKd] using a2, by simpa [ofKd] using a3, fun r hr => ?_⟩
        have := a4 (ofRw r) (List.mem_map.mpr ⟨r, hr, rfl⟩)
        simpa [ofRw] using this
      rw [names_of] at hkdp
      have mid : MidK kd := ⟨by omega, fun d hd => (hokd d hd).2.2.1, fun d hd r hr => ((hokd d hd).2.2.2 r hr).2, fun d hd r hr p hp' => by
        rcases List.mem_cons.mp (hkdp d hd r hr p hp') with z | z
        · subst z; exact LowA.mark
        · obtain ⟨e, he, rfl⟩ := List.mem_map.mp z
          exact LowA.name (hokd e he).1⟩
      refine ⟨_, rfl, _, kd, rfl, kds_lie (hkd.k0 k16), mid, fun H9 q9 k9 hq9 e9 => ?_⟩
      have er9 := k9.old _ _ er6 (by simp)
      refine ⟨q9, _, rfl, e9, _, rfl, r, _, rfl, .inl (SqL.of er9), rfl, ?_⟩
      refine k H9 _ (k16.trans k9) ?_
      have hmk : (("mark" : Str) :: kindNames kd).Nodup := by
        rw [allX, names_of] at hnd
        refine List.nodup_cons.mpr ⟨fun z => ?_, (List.nodup_append.mp hnd).1⟩
        obtain ⟨e, he, ee⟩ := List.mem_map.mp z
        have := (hokd e he).1
        rw [ee] at this
        exact absurd this (by decide +kernel)
      have lt := law_trees hmk
      have elen : (dictS (sizesN kd (kd.length + 1))).length = (sizesN kd (kd.length + 1)).length := by unfold dictS; rw [List.length_map]
      have enl : (ns.map V.str).length = kd.length + 1 := by
        rw [← hns, names_of]
        simp [kindNames]
      rw [elen, enl, decide_eq_true_iff]
      constructor
      · intro z
        have z1 : (sizesN kd (kd.length + 1)).length = kd.length + 1 := by injection z with z; omega
        refine ⟨kd, rfl, wf_of (by omega) (by omega) (fun d hd => ⟨(hokd d hd).1, (hokd d hd).2.1, (hokd d hd).2.2.1⟩) (fun d hd => (hokd d hd).2.2.2) hkdp ?_ (lt.mp z1)⟩
        rw [allX, names_of, makers_of] at hnd
        exact hnd
      · intro z
        rw [lt.mpr (isKinds_trees z)]
end

end Md

set_option maxHeartbeats 4000000
namespace Md
open PySem PySem.Spec PyProof.Rows L2

/-! ### written things, read forward -/
/-- what A names stands there ahead -/
def AvOk (A : List Addr) (H : Hp) : Prop := ∀ b ∈ A, b = sysModules ∨ ∃ o, H b = some o
theorem AvOk.kp {A S : List Addr} {H H' : Hp} (h : AvOk A H) (k : Kp S H H') (h2 : ∀ b ∈ S, ∃ o, H' b = some o) : AvOk A H' := fun b hb => by
  by_cases hs : b ∈ S
  · exact .inr (h2 b hs)
  · rcases h b hb with z | ⟨o, z⟩
    · exact .inl z
    · exact .inr ⟨o, k.old _ _ z hs⟩
section
variable {A : List Addr} {K : PySem.W.Frag} {H0 : Hp} {σ : L2.St}
def EvD (A : List Addr) (K : PySem.W.Frag) (H0 : Hp) (σ : L2.St) (te : TE) (d : PyData) : Prop := ∀ (H : Hp) (Q : VK), Kp [] H0 H → (∀ v H', Kp [] H H' → Dx A K H' v d → Q v H') → te σ H Q
def EvA (A : List Addr) (K : PySem.W.Frag) (H0 : Hp) (σ : L2.St) (ta : TA) (ds : List PyData) : Prop := ∀ (H : Hp) (Q : List V → Hp → Prop), Kp [] H0 H → (∀ vs H', Kp [] H H' → DxAll A K H' vs ds → Q vs H') → ta σ H Q
def EvO (H0 : Hp) (σ : L2.St) (to : TO) (o : Option Int) : Prop := ∀ (H : Hp) (Q : Option Int → Hp → Prop), Kp [] H0 H → (∀ H', Kp [] H H' → Q o H') → to σ H Q
theorem evd_non : EvD A K H0 σ (tC .non) .none := fun H Q _ q => q _ H Kp.refl .non
theorem evd_bl {b : Bool} : EvD A K H0 σ (tC (.bl b)) (.bool b) := fun H Q _ q => q _ H Kp.refl (.bl b)
theorem evd_int {i : Int} : EvD A K H0 σ (tC (.int i)) (.int i) := fun H Q _ q => q _ H Kp.refl (.int i)
theorem evd_str {x : Str} : EvD A K H0 σ (tC (.str x)) (.str x) := fun H Q _ q => q _ H Kp.refl (.str x)
theorem evd_neg {te : TE} {i : Int} (h : EvD A K H0 σ te (.int i)) : EvD A K H0 σ (tUn (rU fun i => .int (-i)) te) (.int (-i)) := fun H Q k q => h H _ k fun v H' k' hd => by
  cases hd
  exact ⟨i, rfl, q _ _ k' (.int _)⟩
theorem evd_pow {te tf : TE} {i j : Int} (h : EvD A K H0 σ te (.int i)) (g : EvD A K H0 σ tf (.int j)) (c : CPow i j) : EvD A K H0 σ (tOp (rI CPow fun i j => .int (i ^ j.toNat)) te tf) (.int (i ^ j.toNat)) := fun H Q k q => h H _ k fun v H1 k1 hd => by
  cases hd
  exact g H1 _ (k.trans k1) fun v H2 k2 he => by
    cases he
    exact ⟨i, j, rfl, rfl, c, q _ _ (k1.trans k2) (.int _)⟩
theorem evd_addI {te tf : TE} {i j : Int} (h : EvD A K H0 σ te (.int i)) (g : EvD A K H0 σ tf (.int j)) : EvD A K H0 σ (tOp (rI0 fun i j => .int (i + j)) te tf) (.int (i + j)) := fun H Q k q => h H _ k fun v H1 k1 hd => by
  cases hd
  exact g H1 _ (k.trans k1) fun v H2 k2 he => by
    cases he
    exact ⟨i, j, rfl, rfl, q _ _ (k1.trans k2) (.int _)⟩
theorem evd_var {i : Nat} {v : V} {d : PyData} (h : σ[i]? = some (some v)) (hd : Dx A K H0 v d) : EvD A K H0 σ (tVar i) d := fun H Q k q => ⟨v, h, q v H Kp.refl (hd.k0 k)⟩
theorem eva_nil : EvA A K H0 σ tNil [] := fun H Q _ q => q _ H Kp.refl .nil
theorem eva_cons {te : TE} {ta : TA} {d : PyData} {ds : List PyData} (h : EvD A K H0 σ te d) (t : EvA A K H0 σ ta ds) : EvA A K H0 σ (tCons te ta) (d :: ds) := fun H Q k q => h H _ k fun v H1 k1 hd => t H1 _ (k.trans k1) fun vs H2 k2 hds =>
  q _ _ (k1.trans k2) (.cons (hd.k0 k2) hds)
theorem evd_tup {ta : TA} {ds : List PyData} (t : EvA A K H0 σ ta ds) (hl : ds.length ≤ 100000) : EvD A K H0 σ (tTup ta) (.tuple ds) := fun H Q k q => t H _ k fun vs H1 k1 h =>
  ⟨by rw [h.len]; exact Nat.le_of_lt (w_lt hl), fun p hp => q _ _ (k1.new' hp) (.tup (.inl (.inl upd_same)) (h.k0 (Kp.new hp)))⟩
theorem fresh_av {H : Hp} (av : AvOk A H0) (k : Kp [] H0 H) {p : Addr} (hp : H p = none) (hs : p ≠ sysModules) : p ∉ A := fun m => by
  rcases av p m with z | ⟨o, z⟩
  · exact hs z
  · rw [k.old _ _ z (by simp)] at hp
    cases hp
theorem evd_lst (av : AvOk A H0) {ta : TA} {ds : List PyData} (t : EvA A K H0 σ ta ds) (hl : ds.length ≤ 100000) : EvD A K H0 σ (tLstN ta) (.list ds) := fun H Q k q => t H _ k fun vs H1 k1 h =>
  ⟨by rw [h.len]; exact Nat.le_of_lt (w_lt hl), fun p hp hs => q _ _ (k1.new' hp) (.lst upd_same (fresh_av av (k.trans k1) hp hs) (h.k0 (Kp.new hp)))⟩
theorem evd_dct (av : AvOk A H0) : EvD A K H0 σ (fun _ H Q => ∀ p, H p = none → p ≠ sysModules → Q (.ref p) (upd H p (.dK []))) (.dict []) := fun H Q k q p hp hs =>
  q _ _ (Kp.new hp) (.dct upd_same (fresh_av av k hp hs))
/-! ### slices and sums of tuples -/
def cutD (ds : List PyData) (lo hi : Option Int) : List PyData := (ds.drop (HT.sIx ds.length 0 lo)).take (HT.sIx ds.length ds.length hi - HT.sIx ds.length 0 lo)
theorem evo_none : EvO H0 σ tNoPart none := fun H Q _ q => q H Kp.refl
theorem evo_some {te : TE} {i : Int} (h : EvD A K H0 σ te (.int i)) : EvO H0 σ (tPart te) (some i) := fun H Q k q => h H _ k fun v H' k' hd => by
  cases hd
  exact ⟨i, rfl, q _ k'⟩
theorem evd_cut {te : TE} {tl th : TO} {ds : List PyData} {lo hi : Option Int} (h : EvD A K H0 σ te (.tuple ds)) (l : EvO H0 σ tl lo) (u : EvO H0 σ th hi) : EvD A K H0 σ (tSl (rSlA K) te tl th) (.tuple (cutD ds lo hi)) := fun H Q k q =>
  h H _ k fun v H1 k1 hd => l H1 _ (k.trans k1) fun H2 k2 => u H2 _ ((k.trans k1).trans k2) fun H3 k3 => by
    cases hd with
    | @tup a xs _ hq hp =>
      have kz := k2.trans k3
      have hl := hp.len
      refine ⟨a, xs, rfl, kz.sqt hq, fun z => ?_, fun z p hp' => ?_⟩
      · refine q _ _ (k1.trans kz) ?_
        have e : cutD ds lo hi = ds := by
          unfold cutD
          rw [← hl, z.1, z.2, List.drop_zero, Nat.sub_zero]
          exact List.take_of_length_le (by omega)
        rw [e]
        exact .tup (kz.sqt hq) (hp.k0 kz)
      · refine q _ _ ((k1.trans kz).new' hp') (.tup (.inl (.inl upd_same)) ?_)
        have kp := kz.new' (o := .tup (cutV xs lo hi)) hp'
        have e : DxAll A K (upd H3 p (.tup (cutV xs lo hi))) ((xs.drop (HT.sIx xs.length 0 lo)).take (HT.sIx xs.length xs.length hi - HT.sIx xs.length 0 lo)) (cutD ds lo hi) := by
          unfold cutD
          rw [← hl]
          exact ((hp.k0 kp).drop _).take _
        exact e
theorem evd_catT {te tf : TE} {ds es : List PyData} (h : EvD A K H0 σ te (.tuple ds)) (g : EvD A K H0 σ tf (.tuple es)) (hz : ds.length + es.length ≤ 100000) : EvD A K H0 σ (tOp (rCatA K) te tf) (.tuple (ds ++ es)) := fun H Q k q =>
  h H _ k fun v H1 k1 hd => g H1 _ (k.trans k1) fun u H2 k2 he => by
    cases hd with
    | @tup a xs _ hq hp =>
      cases he with
      | @tup b ys _ hq2 hp2 =>
        have hl := hp.len
        have hl2 := hp2.len
        have kz := k1.trans k2
        refine ⟨a, b, xs, ys, rfl, rfl, k2.sqt hq, hq2, Nat.le_of_lt (w_lt (by omega)), fun z => ?_, fun z z2 => ?_, fun _ _ p hp' => ?_⟩
        · subst z
          cases hp
          exact q _ _ kz (.tup hq2 hp2)
        · subst z2
          cases hp2
          refine q _ _ kz ?_
          rw [List.append_nil]
          exact .tup (k2.sqt hq) (hp.k0 k2)
        · exact q _ _ (kz.new' hp') (.tup (.inl (.inl upd_same)) ((hp.k0 (k2.new' hp')).append (hp2.k0 (Kp.new hp'))))
theorem evd_listT (av : AvOk A H0) {te : TE} {ds : List PyData} (h : EvD A K H0 σ te (.tuple ds)) : EvD A K H0 σ (tCB (fun xs H Q => ∃ p ys, xs = [.ref p] ∧ SqT K H p ys ∧ ∀ l, H l = none → l ≠ sysModules → Q (.ref l) (upd H l (.lst ys))) (tCons te tNil)) (.list ds) := fun H Q k q =>
  h H _ k fun v H1 k1 hd => by
    cases hd with
    | @tup a xs _ hq hp =>
      exact ⟨a, xs, rfl, hq, fun l hl hs => q _ _ (k1.new' hl) (.lst upd_same (fresh_av av (k.trans k1) hl hs) (hp.k0 (Kp.new hl)))⟩
/-! ### texts -/
theorem evd_cutS {te : TE} {tl th : TO} {x : Str} {lo hi : Option Int} (h : EvD A K H0 σ te (.str x)) (l : EvO H0 σ tl lo) (u : EvO H0 σ th hi) (hx : x.length ≤ 100000) : EvD A K H0 σ (tSl rSlS te tl th) (.str (cutS x lo hi)) := fun H Q k q =>
  h H _ k fun v H1 k1 hd => l H1 _ (k.trans k1) fun H2 k2 => u H2 _ ((k.trans k1).trans k2) fun H3 k3 => by
    cases hd
    exact ⟨x, rfl, Nat.le_of_lt (w_lt hx), q _ _ ((k1.trans k2).trans k3) (.str _)⟩
theorem evd_catS {te tf : TE} {x y : Str} (h : EvD A K H0 σ te (.str x)) (g : EvD A K H0 σ tf (.str y)) (hz : x.length + y.length ≤ 100000) :
    EvD A K H0 σ (tOp (fun x y H Q => ∃ i j, x = .str i ∧ y = .str j ∧ i.length + j.length ≤ sizeLine ∧ Q (.str (i ++ j)) H) te tf) (.str (x ++ y)) := fun H Q k q =>
  h H _ k fun v H1 k1 hd => g H1 _ (k.trans k1) fun u H2 k2 he => by
    cases hd
    cases he
    exact ⟨x, y, rfl, rfl, Nat.le_of_lt (w_lt hz), q _ _ (k1.trans k2) (.str _)⟩
end

/-! ### what may be written out -/
mutual
def lowB : PyData → Bool
  | .str x => x.cps.toList.all fun c => decide (c < 1000)
  | .list ds => lowBAll ds
  | .tuple ds => lowBAll ds
  | _ => true
def lowBAll : List PyData → Bool
  | [] => true
  | d :: ds => lowB d && lowBAll ds
end
structure Gx (D : Nat) (d : PyData) : Prop where
  sh : d.showable = true
  lv : d.leavesShort 50 = true
  lw : lowB d = true
  dp : d.depth ≤ D
def gxB (D : Nat) (d : PyData) : Bool := d.showable && d.leavesShort 50 && lowB d && decide (d.depth ≤ D)
theorem gx_of {D : Nat} {d : PyData} (h : gxB D d = true) : Gx D d := by
  unfold gxB at h
  simp only [Bool.and_eq_true, decide_eq_true_eq] at h
  exact ⟨h.1.1.1, h.1.1.2, h.1.2, h.2⟩
theorem Gx.more {D E : Nat} {d : PyData} (h : Gx D d) (l : D ≤ E) : Gx E d := ⟨h.sh, h.lv, h.lw, Nat.le_trans h.dp l⟩
theorem Gx.shows {D : Nat} {d : PyData} (h : Gx D d) (hD : D ≤ 40) (hw : d.weight ≤ 100000) : ShowsX d :=
  ⟨h.sh, Nat.le_trans h.dp hD, by
    have z := PyData.shown_le 50 (by decide) d h.lv
    have e : sizeLine = 16777216 := rfl
    have h2 : (50 + 2) * d.weight ≤ 52 * 100000 := Nat.mul_le_mul (Nat.le_refl _) hw
    omega⟩
theorem gxAll {D : Nat} : ∀ {ds : List PyData}, (∀ d ∈ ds, Gx D d) → PyData.showableAll ds = true ∧ PyData.leavesShortAll 50 ds = true ∧ lowBAll ds = true ∧ PyData.depthAll ds ≤ D
  | [], _ => ⟨by simp only [PyData.showableAll], by simp only [PyData.leavesShortAll], by rw [lowBAll], by simp only [PyData.depthAll]; exact Nat.zero_le _⟩
  | d :: r, h => by
    obtain ⟨a1, a2, a3, a4⟩ := gxAll fun x hx => h x (List.mem_cons_of_mem _ hx)
    have s := h d List.mem_cons_self
    refine ⟨by simp only [PyData.showableAll, s.sh, a1, Bool.and_self], by simp only [PyData.leavesShortAll, s.lv, a2, Bool.and_self], by rw [lowBAll, s.lw, a3]; rfl, ?_⟩
    simp only [PyData.depthAll]
    have := s.dp
    omega
theorem gx_tup {D : Nat} {ds : List PyData} (h : ∀ d ∈ ds, Gx D d) : Gx (D + 1) (.tuple ds) := by
  obtain ⟨a1, a2, a3, a4⟩ := gxAll h
  exact ⟨by simp only [PyData.showable, a1], by simp only [PyData.leavesShort, a2], by rw [lowB]; exact a3, by simp only [PyData.depth]; omega⟩
theorem gx_lst {D : Nat} {ds : List PyData} (h : ∀ d ∈ ds, Gx D d) : Gx (D + 1) (.list ds) := by
  obtain ⟨a1, a2, a3, a4⟩ := gxAll h
  exact ⟨by simp only [PyData.showable, a1], by simp only [PyData.leavesShort, a2], by rw [lowB]; exact a3, by simp only [PyData.depth]; omega⟩
theorem gx_mem {D : Nat} : ∀ {ds : List PyData}, PyData.showableAll ds = true → PyData.leavesShortAll 50 ds = true → lowBAll ds = true → PyData.depthAll ds ≤ D → ∀ d ∈ ds, Gx D d
  | d :: r, h1, h2, h3, h4, x, hx => by
    simp only [PyData.showableAll, Bool.and_eq_true] at h1
    simp only [PyData.leavesShortAll, Bool.and_eq_true] at h2
    rw [lowBAll, Bool.and_eq_true] at h3
    simp only [PyData.depthAll] at h4
    rcases List.mem_cons.mp hx with z | z
    · subst z
      exact ⟨h1.1, h2.1, h3.1, by omega⟩
    · exact gx_mem h1.2 h2.2 h3.2 (by omega) x z
theorem gx_items {D : Nat} {ds : List PyData} (h : Gx (D + 1) (.tuple ds)) : ∀ d ∈ ds, Gx D d := by
  obtain ⟨a1, a2, a3, a4⟩ := h
  simp only [PyData.showable] at a1
  simp only [PyData.leavesShort] at a2
  rw [lowB] at a3
  simp only [PyData.depth] at a4
  exact gx_mem a1 a2 a3 (by omega)
theorem gx_str {x : Str} (h : ∀ c ∈ x.cps.toList, c < 1000) : Gx 0 (.str x) :=
  ⟨by simp only [PyData.showable], by
    simp only [PyData.leavesShort]
    exact List.all_eq_true.mpr fun c m => decide_eq_true (Nat.lt_of_lt_of_le (h c m) (by decide)), by
    rw [lowB]
    exact List.all_eq_true.mpr fun c m => decide_eq_true (h c m), by simp only [PyData.depth]; exact Nat.le_refl _⟩
theorem gx_str_low {D : Nat} {x : Str} (h : Gx D (.str x)) : ∀ c ∈ x.cps.toList, c < 1000 := by
  have := h.lw
  rw [lowB] at this
  exact fun c m => of_decide_eq_true (List.all_eq_true.mp this c m)
theorem weightAll_append : ∀ (a b : List PyData), PyData.weightAll (a ++ b) = PyData.weightAll a + PyData.weightAll b
  | [], b => by rw [List.nil_append, PyData.weightAll, Nat.zero_add]
  | d :: r, b => by rw [List.cons_append, PyData.weightAll, PyData.weightAll, weightAll_append r b]; omega
theorem weightAll_take_drop (a : List PyData) (n : Nat) : PyData.weightAll (a.take n) + PyData.weightAll (a.drop n) = PyData.weightAll a := by
  rw [← weightAll_append, List.take_append_drop]
theorem weightAll_len : ∀ a : List PyData, a.length ≤ PyData.weightAll a
  | [] => Nat.zero_le _
  | d :: r => by
    have := weightAll_len r
    rw [List.length_cons, PyData.weightAll]
    omega
theorem weightAll_reverse : ∀ a : List PyData, PyData.weightAll a.reverse = PyData.weightAll a
  | [] => rfl
  | d :: r => by
    rw [List.reverse_cons, weightAll_append, weightAll_reverse r, PyData.weightAll, PyData.weightAll, PyData.weightAll]
    omega
theorem cutD_take (ds : List PyData) (k : Nat) : cutD ds none (some (k : Int)) = ds.take k := by
  unfold cutD
  rw [HT.sIx_none, HT.sIx_nat, List.drop_zero, Nat.sub_zero]
  exact List.take_eq_take_iff.mpr (by omega)
theorem cutD_drop (ds : List PyData) (k : Nat) : cutD ds (some (k : Int)) none = ds.drop k := by
  unfold cutD
  rw [HT.sIx_none, HT.sIx_nat]
  by_cases h : k ≤ ds.length
  · rw [Nat.min_eq_left h]
    exact List.take_of_length_le (by rw [List.length_drop]; exact Nat.le_refl _)
  · rw [Nat.min_eq_right (by omega), List.drop_of_length_le (Nat.le_refl _), List.drop_of_length_le (by omega)]
    simp
theorem cutD_sub (ds : List PyData) (lo hi : Option Int) : (∀ d ∈ cutD ds lo hi, d ∈ ds) ∧ PyData.weightAll (cutD ds lo hi) ≤ PyData.weightAll ds := by
  unfold cutD
  refine ⟨fun d h => List.mem_of_mem_drop (List.mem_of_mem_take h), ?_⟩
  have h1 := weightAll_take_drop (ds.drop (HT.sIx ds.length 0 lo)) (HT.sIx ds.length ds.length hi - HT.sIx ds.length 0 lo)
  have h2 := weightAll_take_drop ds (HT.sIx ds.length 0 lo)
  omega
mutual
def plainD : PyData → Prop
  | .str _ => True
  | .tuple ds => plainAll ds
  | _ => False
def plainAll : List PyData → Prop
  | [] => True
  | d :: ds => plainD d ∧ plainAll ds
end
theorem plainAll_mem {ds : List PyData} (h : plainAll ds) : ∀ d ∈ ds, plainD d := by
  induction ds with
  | nil => intro d hd; cases hd
  | cons e r ih =>
    rw [plainAll] at h
    intro d hd
    rcases List.mem_cons.mp hd with z | z
    · subst z; exact h.1
    · exact ih h.2 d z
theorem plainAll_of {ds : List PyData} (h : ∀ d ∈ ds, plainD d) : plainAll ds := by
  induction ds with
  | nil => rw [plainAll]; trivial
  | cons e r ih =>
    rw [plainAll]
    exact ⟨h e List.mem_cons_self, ih fun d hd => h d (List.mem_cons_of_mem _ hd)⟩
/-! ### what a statement asks, by what its parts are -/
section
variable {A : List Addr} {K : PySem.W.Frag} {σ : L2.St} {H : Hp} {D : Ends}
theorem cat_run {x y : V} {ds es : List PyData} {Q : VK} (hx : Dx A K H x (.tuple ds)) (hy : Dx A K H y (.tuple es)) (hz : ds.length + es.length ≤ 100000) (q : ∀ v H', Kp [] H H' → Dx A K H' v (.tuple (ds ++ es)) → Q v H') : rCatA K x y H Q := by
  cases hx with
  | @tup a xs _ hq hp =>
    cases hy with
    | @tup b ys _ hq2 hp2 =>
      have hl := hp.len
      have hl2 := hp2.len
      refine ⟨a, b, xs, ys, rfl, rfl, hq, hq2, Nat.le_of_lt (w_lt (by omega)), fun z => ?_, fun z z2 => ?_, fun _ _ p hp' => ?_⟩
      · subst z
        cases hp
        exact q _ _ Kp.refl (.tup hq2 hp2)
      · subst z2
        cases hp2
        refine q _ _ Kp.refl ?_
        rw [List.append_nil]
        exact .tup hq hp
      · exact q _ _ (Kp.new hp') (.tup (.inl (.inl upd_same)) ((hp.k0 (Kp.new hp')).append (hp2.k0 (Kp.new hp'))))
theorem rd_ret {te : TE} {d : PyData} (ev : EvD A K H σ te d) (k : ∀ v H1, Kp [] H H1 → Dx A K H1 v d → D.rt v H1) : tRet te D σ H := ev H _ Kp.refl k
theorem rd_asg {te : TE} {d : PyData} {i : Nat} (ev : EvD A K H σ te d) (k : ∀ v H1, Kp [] H H1 → Dx A K H1 v d → D.nx (σ.set i (some v)) H1) : tAsg te (gName i) D σ H := ev H _ Kp.refl k
theorem rd_asgL {ta : TA} {ds : List PyData} {i : Nat} (ev : EvA A K H σ ta ds) (hl : ds.length ≤ 100000) (k : ∀ us H1, Kp [] H H1 → DxAll A K H1 us ds → ∀ l, H1 l = none → D.nx (σ.set i (some (.ref l))) (upd H1 l (.lst us))) :
    tAsg (tLst ta) (gName i) D σ H := ev H _ Kp.refl fun us H1 k1 hus => ⟨by rw [hus.len]; exact Nat.le_of_lt (w_lt hl), fun l h => k us H1 k1 hus l h⟩
theorem rd_asgCat {ta : TA} {ds : List PyData} {i s : Nat} {l0 : Addr} {us0 : List V} (ev : EvA A K H σ ta ds) (hl : us0.length + ds.length ≤ 100000) (hs : σ[s]? = some (some (.ref l0))) (h0 : H l0 = some (.lst us0))
    (k : ∀ us H1, Kp [] H H1 → DxAll A K H1 us ds → ∀ l, H1 l = none → ∀ m, upd H1 l (.lst us) m = none → D.nx (σ.set i (some (.ref m))) (upd (upd H1 l (.lst us)) m (.lst (us0 ++ us)))) :
    tAsg (tOp rCat (tVar s) (tLst ta)) (gName i) D σ H := ⟨_, hs, ev H _ Kp.refl fun us H1 k1 hus => ⟨by rw [hus.len]; exact Nat.le_of_lt (w_lt (by omega)), fun l h =>
      have e0 : H1 l0 = some (.lst us0) := k1.old _ _ h0 (by simp)
      ⟨l0, l, us0, us, rfl, rfl, by rw [upd_ne (ne_of_none e0 h)]; exact e0, upd_same, by rw [hus.len]; exact Nat.le_of_lt (w_lt hl), fun m hm => k us H1 k1 hus l h m hm⟩⟩⟩
theorem rd_retCatIx {ta : TA} {tb : TE} {ds : List PyData} {s : Nat} {l0 : Addr} {us0 : List V} (ev : EvA A K H σ ta ds) (hl : us0.length + ds.length ≤ 100000) (hs : σ[s]? = some (some (.ref l0))) (h0 : H l0 = some (.lst us0))
    (k : ∀ us H1, Kp [] H H1 → DxAll A K H1 us ds → ∀ l, H1 l = none → ∀ m, upd H1 l (.lst us) m = none → tb σ (upd (upd H1 l (.lst us)) m (.lst (us0 ++ us))) fun y H2 => rIxL K (.ref m) y H2 D.rt) :
    tRet (tOp (rIxL K) (tOp rCat (tVar s) (tLst ta)) tb) D σ H := ⟨_, hs, ev H _ Kp.refl fun us H1 k1 hus => ⟨by rw [hus.len]; exact Nat.le_of_lt (w_lt (by omega)), fun l h =>
      have e0 : H1 l0 = some (.lst us0) := k1.old _ _ h0 (by simp)
      ⟨l0, l, us0, us, rfl, rfl, by rw [upd_ne (ne_of_none e0 h)]; exact e0, upd_same, by rw [hus.len]; exact Nat.le_of_lt (w_lt hl), fun m hm => k us H1 k1 hus l h m hm⟩⟩⟩
theorem rd_cat3 {te1 tc te3 : TE} {d1 : List PyData} (e1 : EvD A K H σ te1 (.tuple d1)) (k : ∀ v1 H1, Kp [] H H1 → Dx A K H1 v1 (.tuple d1) → tc σ H1 fun y H2 => [y].length ≤ sizeLine ∧ ∀ q, H2 q = none → rCatA K v1 (.ref q) (upd H2 q (.tup [y])) fun z H3 => te3 σ H3 fun w H4 => rCatA K z w H4 D.rt) :
    tRet (tOp (rCatA K) (tOp (rCatA K) te1 (tTup (tCons tc tNil))) te3) D σ H := e1 H _ Kp.refl k
theorem ev_run {te : TE} {d : PyData} {Q : VK} (ev : EvD A K H σ te d) (k : ∀ v H1, Kp [] H H1 → Dx A K H1 v d → Q v H1) : te σ H Q := ev H _ Kp.refl k
theorem evd_revT {te : TE} {ds : List PyData} {tR : PySem.W.Frag → TE → TE} (hR : ∀ te σ H Q, tR K te σ H Q = te σ H fun x H1 => ∃ a xs, x = .ref a ∧ SqT K H1 a xs ∧ ∀ p, H1 p = none → Q (.ref p) (upd H1 p (.tup xs.reverse)))
    (h : EvD A K H σ te (.tuple ds)) : EvD A K H σ (tR K te) (.tuple ds.reverse) := fun H1 Q k q => by
  rw [hR]
  refine h H1 _ k fun v H2 k2 hd => ?_
  cases hd with
  | @tup a xs _ hq hp => exact ⟨a, xs, rfl, hq, fun p hp' => q _ _ (k2.new' hp') (.tup (.inl (.inl upd_same)) ((hp.k0 (Kp.new hp')).reverse))⟩
end
/-! ### a tuple against the empty one -/
section
variable {X : Cx}
def rNilT (K : PySem.W.Frag) : R2 := fun x y H Q => ∃ (a b : Addr) (xs : List V), x = .ref a ∧ y = .ref b ∧ SqT K H a xs ∧ SqT K H b [] ∧ Q (.bl (!xs.isEmpty)) H
theorem op_neNilT (hu : X.A.units + 64 < cLine) : OpR X (compareOp .NotEq) (rNilT X.K) := by
  intro pins s σ H x y v u Q I rx ry h
  obtain ⟨a, b, xs, rfl, rfl, ha, hb, q⟩ := h
  cases rx
  cases ry
  obtain ⟨its, r, pl, hz⟩ := I.tuple ha
  obtain ⟨its2, r2, pl2, hz2⟩ := I.tuple hb
  cases r2
  refine SeqAt.RcNeAt.tuples pl pl2 (by omega) (e := fun _ => true) (fun j h1 h2 => absurd h2 (by simp)) _ _ _ _ ?_
  cases xs with
  | nil =>
    cases r
    exact ⟨.bl false, H, I, rfl, q⟩
  | cons z zs =>
    cases r with
    | cons r1 r2 => exact ⟨.bl true, H, I, by show _ = _; simp, q⟩
end
/-- if, whose test may write -/
theorem rd_if {tt : TT} {ts te : TS} {D : Ends} {σ : L2.St} {H : Hp} (R : Bool → Hp → Prop) (h : ∀ Q : Bool → Hp → Prop, (∀ b H1, R b H1 → Q b H1) → tt σ H Q) (kt : ∀ H1, R true H1 → ts D σ H1) (kf : ∀ H1, R false H1 → te D σ H1) : tIfS tt ts te D σ H :=
  h _ fun b H1 r => by
    cases b with
    | true => exact iteT (kt H1 r)
    | false => exact iteF (kf H1 r)
theorem weight_split {ds : List PyData} {i : Nat} {d : PyData} (h : ds[i]? = some d) : PyData.weightAll (ds.take i) + (d.weight + 1 + PyData.weightAll (ds.drop (i + 1))) = PyData.weightAll ds := by
  have hi := (List.getElem?_eq_some_iff.mp h).1
  have hd := (List.getElem?_eq_some_iff.mp h).2
  have e : ds.drop i = d :: ds.drop (i + 1) := by rw [List.drop_eq_getElem_cons hi, hd]
  rw [← weightAll_take_drop ds i, e, PyData.weightAll]
end Md

namespace Md
open PySem PySem.Spec PyProof.Rows L2

mutual
theorem low_of : ∀ d : PyData, lowB d = true → lowD d
  | .none, _ => by simp only [lowD]
  | .bool _, _ => by simp only [lowD]
  | .int _, _ => by simp only [lowD]
  | .str x, h => by
    rw [lowD]
    rw [lowB] at h
    exact fun c m => of_decide_eq_true (List.all_eq_true.mp h c m)
  | .list ds, h => by
    rw [lowD]
    rw [lowB] at h
    exact low_all ds h
  | .tuple ds, h => by
    rw [lowD]
    rw [lowB] at h
    exact low_all ds h
  | .dict _, _ => by simp only [lowD]
theorem low_all : ∀ ds : List PyData, lowBAll ds = true → lowAll ds
  | [], _ => by rw [lowAll]; trivial
  | d :: r, h => by
    rw [lowBAll, Bool.and_eq_true] at h
    rw [lowAll]
    exact ⟨low_of d h.1, low_all r h.2⟩
end
/-- what is handed to names and kinds -/
structure Fit (d : PyData) : Prop where
  g : Gx 30 d
  w : d.weight ≤ 50000
theorem Fit.low {d : PyData} (h : Fit d) : lowD d := low_of d h.g.lw
/-! ### odd things -/
def oddL : List PyData := [.none, .bool true, .bool false, .int 0, .int 1, .int (-1), .int ((10 : Int) ^ (39 : Int).toNat), .str "", .str "mark", .str "a", .str "zzzzzzzz", .str "same", .str "Ab", .tuple [], .list [], .dict [], .tuple [.str "a"], .tuple [.str "a", .tuple []], .tuple [.tuple []], .list [.str "a"], .str "ninelongs", .str "a b"]
theorem odd_gx : ∀ d ∈ oddL, Gx 2 d ∧ d.weight ≤ 200 := by
  have h : oddL.all (fun d => gxB 2 d && decide (d.weight ≤ 200)) = true := by decide +kernel
  intro d hd
  have := List.all_eq_true.mp h d hd
  rw [Bool.and_eq_true, decide_eq_true_eq] at this
  exact ⟨gx_of this.1, this.2⟩
/-- [..][i] -/
theorem rd_ix {A : List Addr} {K : PySem.W.Frag} {σ : L2.St} {H : Hp} {ta : TA} {tb : TE} {D : Ends} {ds : List PyData} (ev : EvA A K H σ ta ds) (hl : ds.length ≤ 100000)
    (k : ∀ us H1, Kp [] H H1 → DxAll A K H1 us ds → ∀ l, H1 l = none → tb σ (upd H1 l (.lst us)) fun y H2 => rIxL K (.ref l) y H2 D.rt) : tRet (tOp (rIxL K) (tLst ta) tb) D σ H :=
  ev H _ Kp.refl fun us H1 k1 hus => ⟨by rw [hus.len]; exact Nat.le_of_lt (w_lt hl), fun l hl => k us H1 k1 hus l hl⟩
section
variable {P : Program} {w : World} {K : PySem.W.Frag} {mg : Str → Option Value} {base : Heap} {aW : Addr}
def spOdd (K : PySem.W.Frag) : Sp := fun vs H Q _ => ∃ (A : List Addr) (p : Addr) (n : Nat), vs = [.ref p] ∧ PotOk H p n ∧ n ≤ 990000 ∧ AvOk A H ∧ p ∈ A ∧
  ∀ v d H', d ∈ oddL → Dx A K H' v d → PotOk H' p (n + 1) → Kp [p] H H' → Q v H'
set_option maxHeartbeats 4000000 in
theorem c_law_odd (T : Txt K mg aW) (c_law_take : C8.Cal P w K mg base 1 "_law_take" spTake []) (F : At_law_odd K mg) : C8.Cal P w K mg base 2 "_law_odd" (spOdd K) [] := by
  refine F.cal sc_law_odd (fun vs H Q E h => ?_) (fun f cdv A outer s H vs Q E hr h => ?_)
  · obtain ⟨A, p, n, rfl, _⟩ := h
    rfl
  · obtain ⟨A0, p, n, rfl, hp, hn, av, pA, k⟩ := h
    have nd := sc_law_odd.nd
    refine ⟨_, (pss_one (ps_ret (pe_ix ix_list (pe_lst (pa_cons pe_non (pa_cons pe_bl (pa_cons pe_bl (pa_cons pe_int (pa_cons pe_int (pa_cons (pe_un un_neg pe_int) (pa_cons (pe_op op_pow pe_int pe_int) (pa_cons pe_str (pa_cons pe_str (pa_cons pe_str (pa_cons pe_str (pa_cons pe_str (pa_cons pe_str (pa_cons (pe_tup pa_nil) (pa_cons (pe_lstN pa_nil) (pa_cons pe_dnewN (pa_cons (pe_tup (pa_cons pe_str pa_nil)) (pa_cons (pe_tup (pa_cons pe_str (pa_cons (pe_tup pa_nil) pa_nil))) (pa_cons (pe_tup (pa_cons (pe_tup pa_nil) pa_nil)) (pa_cons (pe_lstN (pa_cons pe_str pa_nil)) (pa_cons pe_str (pa_cons pe_str pa_nil))))))))))))))))))))))) (C8.pe_c c_law_take hr (by decide) rfl (pa_cons (pv 0) (pa_cons pe_int pa_nil))) (fun _ _ => rfl)))), ?_⟩
    have ev : EvA A0 K H [some (.ref p)] _ oddL :=
      eva_cons evd_non (eva_cons evd_bl (eva_cons evd_bl (eva_cons evd_int (eva_cons evd_int (eva_cons (evd_neg evd_int) (eva_cons (evd_pow evd_int evd_int ⟨by decide, by decide, by decide⟩)
        (eva_cons evd_str (eva_cons evd_str (eva_cons evd_str (eva_cons evd_str (eva_cons evd_str (eva_cons evd_str (eva_cons (evd_tup eva_nil (by simp)) (eva_cons (evd_lst av eva_nil (by simp)) (eva_cons (evd_dct av)
        (eva_cons (evd_tup (eva_cons evd_str eva_nil) (by simp)) (eva_cons (evd_tup (eva_cons evd_str (eva_cons (evd_tup eva_nil (by simp)) eva_nil)) (by simp)) (eva_cons (evd_tup (eva_cons (evd_tup eva_nil (by simp)) eva_nil) (by simp))
        (eva_cons (evd_lst av (eva_cons evd_str eva_nil) (by simp)) (eva_cons evd_str (eva_cons evd_str eva_nil)))))))))))))))))))))
    refine rd_ix ev (by simp [oddL]) fun us H1 k1 hus l hl => ?_
    have ul := hus.len
    have kl : Kp [] H1 (upd H1 l (.lst us)) := Kp.new hl
    have hp2 := (hp.kp k1 (by simp)).kp kl (by simp)
    refine ⟨_, rfl, p, 22, n, rfl, hp2, by decide, by decide, by omega, fun r H2 r0 r22 hp3 k3 => ?_⟩
    have npl : l ≠ p := Ne.symm (hp.ne (k1.free hl (by simp)))
    have hr2 : r.toNat < us.length := by rw [ul]; show r.toNat < 22; omega
    have er : r = ((r.toNat : Nat) : Int) := by omega
    refine ⟨l, us, r, us[r.toNat], rfl, rfl, SqL.of (k3.old _ _ upd_same (by simp [npl])), ?_, ?_⟩
    · conv => lhs; rw [er]
      exact atI_nat (List.getElem?_eq_getElem hr2)
    · obtain ⟨d, hd, hx⟩ := hus.get (List.getElem?_eq_getElem hr2)
      refine k _ d H2 (List.mem_of_getElem? hd) ((hx.k0 kl).k k3 (by simpa using pA)) hp3 (((k1.trans kl).mono (by simp)).trans k3)
end

end Md



namespace Md
open PySem PySem.Spec PyProof.Rows L2

/-! ### t[::-1], t a tuple -/
section
open HT
variable {prog : Program} {w : World} {A : Around} {E : Value → Shared → Prop} {s : Shared}
theorem adjust_rev (n : Nat) : Builtin.Slice.sliceAdjust none none (-1) (n : Int) = ((n : Int) - 1, -1) := by
  unfold Builtin.Slice.sliceAdjust
  rfl
theorem places_rev (n : Nat) : Builtin.Slice.slicePlaces ((n : Int) - 1) (-1) (-1) = n := by
  unfold Builtin.Slice.slicePlaces
  have h1 : ¬ ((-1 : Int) > 0) := by omega
  simp only [h1, if_false]
  split <;> simp <;> omega
theorem sliceApplied_rev {sl : Addr} {vs : Value} {n : Nat} {Q : Int × Int × Nat → Shared → Prop} (hs : s.heap.IsSliceOf sl .none .none vs) (ps : IsPart vs (some (-1)))
    (h : Q ((n : Int) - 1, -1, n) s) : wpAny (model prog w) A (Builtin.Slice.sliceApplied (.ref sl) (pure (n : Int))) Q E s := by
  obtain ⟨os, hos, hcs, hds⟩ := id hs
  unfold Builtin.Slice.sliceApplied Builtin.Slice.sliceFields
  refine wpAny_bind (wpAny_bind (wpAny_field hos hds (x := .none) rfl (wpAny_bind (wpAny_field hos hds (x := .none) rfl (wpAny_bind (wpAny_field hos hds (x := vs) rfl (wpAny_pure ?_)))))))
  refine wpAny_bind (slicePart_ ps ?_)
  show wpAny _ _ (if ((-1 : Int) == 0) = true then _ else _) _ _ s
  rw [if_neg (by decide)]
  refine wpAny_bind (slicePart_none (wpAny_bind (slicePart_none (wpAny_bind (wpAny_pure ?_)))))
  show wpAny _ _ (match Builtin.Slice.sliceAdjust none none (-1) (n : Int) with | (lo, hi) => pure (lo, (-1 : Int), Builtin.Slice.slicePlaces lo hi (-1))) _ _ s
  rw [adjust_rev n]
  show wpAny _ _ (pure ((n : Int) - 1, (-1 : Int), Builtin.Slice.slicePlaces ((n : Int) - 1) (-1) (-1))) _ _ s
  rw [places_rev]
  exact wpAny_pure h
theorem fm_congr {α β : Type} {f g : α → Option β} : ∀ {l : List α}, (∀ x ∈ l, f x = g x) → l.filterMap f = l.filterMap g
  | [], _ => rfl
  | a :: r, h => by
    rw [List.filterMap_cons, List.filterMap_cons, h a List.mem_cons_self, fm_congr fun x hx => h x (List.mem_cons_of_mem _ hx)]
theorem pick_rev (xs : Array Value) : ((List.range xs.size).filterMap fun (m : Nat) => xs[(((xs.size : Int) - 1) + (m : Int) * (-1)).toNat]?).toArray = xs.toList.reverse.toArray := by
  congr 1
  have e : (List.range xs.size).filterMap (fun (m : Nat) => xs[(((xs.size : Int) - 1) + (m : Int) * (-1)).toNat]?) = ((List.range xs.size).map (fun k => xs.size - 1 - k)).filterMap (xs[·]?) := by
    rw [List.filterMap_map]
    refine fm_congr fun m hm => ?_
    have := List.mem_range.mp hm
    have z : (((xs.size : Int) - 1) + (m : Int) * (-1)).toNat = xs.size - 1 - m := by omega
    rw [z]
    rfl
  rw [e, PySem.W.krv_range, List.filterMap_reverse, PySem.W.krv_all]
theorem getItem_tuple_rev {t sl : Addr} {items : Array Value} {vs : Value} {Q : Value → Shared → Prop} (ht : IsTup s.heap t items) (hs : s.heap.IsSliceOf sl .none .none vs) (ps : IsPart vs (some (-1)))
    (h : Q (.ref s.heap.objs.size) { s with heap := s.heap.push { cls := .type "tuple", data := .seq items.toList.reverse.toArray } })
    (hsz : items.size ≤ sizeLine) : wpAny (model prog w) A (getItem (.ref t) (.ref sl)) Q E s := by
  have htake : sizeOk (.seq items.toList.reverse.toArray) := by
    show items.toList.reverse.toArray.size ≤ sizeLine
    rw [List.size_toArray, List.length_reverse, Array.length_toList]
    exact hsz
  obtain ⟨os, hos, hcs, hds⟩ := id hs
  have hTs : s.TypeIs (.ref sl) "slice" := ⟨os, hos, hcs⟩
  unfold getItem
  try with_reducible refine wpAny_holding ?_
  first | refine wpAny_bind (wpAny_pure ?_) | skip
  refine wpAny_bind (wpAny_sequenceKey ht.typeIs (by decide) ?_)
  refine wpAny_bind (wpAny_callSpecial?_slot (name := Str.ofString "__getitem__") ht.typeIs PyProof.Rows.slot_tuple_getitem
    (wpAny_call_entry PyProof.Rows.slot_tuple_getitem ht.typeIs entry_tuple_getitem ?_ (args_tuple_getitem _ _)))
  show wpAny _ _ (Builtin.Tuple.tupleItemsOf (.ref t) >>= _) _ _ s
  refine wpAny_bind (tupleItemsOf_ ht ?_)
  refine wpAny_bind (wpAny_typeOf hTs ?_)
  rw [if_pos (by decide)]
  refine wpAny_bind (sliceApplied_rev hs ps ?_)
  have hno : ¬ ((((items.size : Int) - 1) == 0 && (-1 : Int) == 1 && items.size == items.size) = true) := by
    intro q
    rw [Bool.and_eq_true, Bool.and_eq_true] at q
    exact absurd q.1.2 (by decide)
  show wpAny _ _ (if (((items.size : Int) - 1) == 0 && (-1 : Int) == 1 && items.size == items.size) = true then _ else _) _ _ s
  rw [if_neg hno, pick_rev]
  first
    | exact wpAny_bind (m := Builtin.Tuple.tupleExact _) (wpAny_newObj_type (wpAny_pure ⟨_, rfl, wpAny_pure h⟩) htake)
    | exact wpAny_bind (m := Builtin.Tuple.tupleExact _) (wpAny_newObj_type (wpAny_bind (wpAny_pure (wpAny_pure ⟨_, rfl, wpAny_pure h⟩))) htake)
    | exact wpAny_bind (wpAny_bind (m := Builtin.Tuple.tupleExact _) (wpAny_newObj_type (wpAny_pure (wpAny_pure ⟨_, rfl, wpAny_pure h⟩)) htake))
    | exact wpAny_bind (wpAny_bind (m := Builtin.Tuple.tupleExact _) (wpAny_newObj_type (wpAny_pure ⟨_, rfl, wpAny_pure h⟩) htake))
end
section
variable {X : Cx}
def tRevT (K : PySem.W.Frag) (te : TE) : TE := fun σ H Q => te σ H fun x H1 => ∃ a xs, x = .ref a ∧ SqT K H1 a xs ∧ ∀ p, H1 p = none → Q (.ref p) (upd H1 p (.tup xs.reverse))
theorem pe_revT {e : Expr} {te : TE} {k : Nat} {p1 p2 p3 pos : Pos} (he : PE X e te) : PE X (.Subscript e (.Slice none none (some (.UnaryOp .USub (.Constant (.int 1) k p1) p2)) p3) pos) (tRevT X.K te) := by
  refine ⟨fun pins s σ H Q I h => ?_⟩
  refine Subscript_ (thn (he.run pins s σ H _ I h) fun v s1 ⟨x, H1, I1, r1, q1⟩ => ?_)
  obtain ⟨a, xs, ex, hx, q⟩ := q1
  subst ex
  cases r1
  have hst : PO X (some (.UnaryOp .USub (.Constant (.int 1) k p1) p2)) (tPart (tUn (rU fun i => .int (-i)) (tC (.int 1)))) := po_some (pe_un un_neg pe_int)
  refine wpAny_Slice (thn (po_none.run pins s1 σ H1 (fun o H2 => o = none ∧ H2 = H1) I1 ⟨rfl, rfl⟩) fun vl s2 ⟨l, H2, I2, pl, el, e2⟩ => ?_)
  subst el e2
  refine thn (po_none.run pins s2 σ H2 (fun o H3 => o = none ∧ H3 = H2) I2 ⟨rfl, rfl⟩) fun vu s3 ⟨u, H3, I3, pu, eu, e3⟩ => ?_
  subst eu e3
  refine thn (hst.run pins s3 σ H3 (fun o H4 => o = some (-1) ∧ H4 = H3) I3 ⟨1, rfl, -1, rfl, rfl, rfl⟩) fun vs s4 ⟨o, H4, I4, ps, eo, e4⟩ => ?_
  subst eo e4
  have I5 : Inv X pins σ H4 { s4 with heap := s4.heap.push { cls := .type "slice", data := .fields #[vl, vu, vs] } } := I4.kept (t' := s4.toks) fun b ob q => Heap.get?_push_of_some _ q
  obtain ⟨its, r, ht, hz⟩ := I5.tuple hx
  have hlen := r.length
  cases pl
  cases pu
  show wpAny (model X.prog X.w) X.A (subscriptTail e (.Slice none none (some (.UnaryOp .USub (.Constant (.int 1) k p1) p2)) p3) (.ref a) (.ref s4.heap.objs.size)) (EP X pins σ Q) X.xe { s4 with heap := s4.heap.push { cls := .type "slice", data := .fields #[.none, .none, vs] } }
  refine tail_any (ops := [.ref a, .ref s4.heap.objs.size]) ht.typeIs (PyProof.Rows.slot_tuple_getitem.lookup) ?_ (by with_unfolding_all rfl)
  refine getItem_tuple_rev ht (Heap.IsSliceOf.new _ .none .none vs) ps ?_ (by rw [List.size_toArray]; omega)
  refine ⟨.ref _, _, I5.laid (t' := s4.toks) (o := .tup xs.reverse) (fun b ob q => Heap.get?_push_of_some _ q) (Nat.le_refl _) ?_, rfl, q _ (I5.hok.fresh (Nat.le_refl _))⟩
  exact ⟨by rw [List.length_reverse]; exact hz, _, r.reverse, IsTup.new _ _⟩
end

end Md


namespace Md
open PySem PySem.Spec PyProof.Rows L2

/-! ### bent things -/
/-- the def, handed in a depth below m -/
def spBent (K : PySem.W.Frag) (m : Nat) : Sp := fun vs H Q _ => ∃ (A : List Addr) (p : Addr) (n : Nat) (v : V) (d : PyData) (deep D : Nat), vs = [.ref p, v, .int (deep : Nat)] ∧ deep < m ∧ PotOk H p n ∧ n + 10 * (deep + 1) ≤ 980000 ∧ AvOk A H ∧ p ∈ A ∧
  Dx A K H v d ∧ plainD d ∧ Gx D d ∧ D ≤ 20 ∧ d.weight ≤ 20000 ∧
  ∀ v' d' H', Dx A K H' v' d' → Gx (D + 3) d' → d'.weight ≤ 3 * d.weight + 400 → PotOk H' p (n + 10 * (deep + 1)) → Kp [p] H H' → Q v' H'
theorem sign_at (w : Int) (h0 : 0 ≤ w) (h6 : w < 6) : ∃ c : Nat, c < 1000 ∧ atI [V.str "a", V.str "z", V.str " ", V.str "A", V.str "1", V.str "q"] w = some (V.str (S1 [c])) := by
  have : w = 0 ∨ w = 1 ∨ w = 2 ∨ w = 3 ∨ w = 4 ∨ w = 5 := by omega
  rcases this with z | z | z | z | z | z <;> subst z
  · exact ⟨97, by decide, by rfl⟩
  · exact ⟨122, by decide, by rfl⟩
  · exact ⟨32, by decide, by rfl⟩
  · exact ⟨65, by decide, by rfl⟩
  · exact ⟨49, by decide, by rfl⟩
  · exact ⟨113, by decide, by rfl⟩
theorem cutS_low {x : Str} {lo hi : Option Int} (h : ∀ c ∈ x.cps.toList, c < 1000) : ∀ c ∈ (cutS x lo hi).cps.toList, c < 1000 := by
  intro c hc
  unfold cutS at hc
  exact h c (List.mem_of_mem_drop (List.mem_of_mem_take (by simpa using hc)))
theorem cat_low {x y : Str} (h : ∀ c ∈ x.cps.toList, c < 1000) (g : ∀ c ∈ y.cps.toList, c < 1000) : ∀ c ∈ (x ++ y).cps.toList, c < 1000 := by
  intro c hc
  have e : (x ++ y).cps.toList = x.cps.toList ++ y.cps.toList := by
    show (x.cps ++ y.cps).toList = _
    rw [Array.toList_append]
  rw [e] at hc
  rcases List.mem_append.mp hc with z | z
  · exact h c z
  · exact g c z
theorem cat_len (x y : Str) : (x ++ y).length = x.length + y.length := strLen_append x y
theorem cut_two (x : Str) (i : Int) (h : 0 ≤ i) : (cutS x none (some i)).length + (cutS x (some i) none).length ≤ x.length := by
  obtain ⟨k, rfl⟩ : ∃ k : Nat, i = (k : Int) := ⟨i.toNat, by omega⟩
  show ((_ : List Nat).toArray).size + ((_ : List Nat).toArray).size ≤ x.cps.size
  rw [List.size_toArray, List.size_toArray, HT.sIx_none, HT.sIx_nat, HT.sIx_none, List.length_take, List.length_take, List.length_drop, List.length_drop, Array.length_toList]
  show min (min k x.cps.size - 0) (x.cps.size - 0) + min (x.cps.size - min k x.cps.size) (x.cps.size - min k x.cps.size) ≤ x.cps.size
  omega
theorem cut_more (x : Str) (i : Int) (h : 0 ≤ i) : (cutS x (some (i + 1)) none).length ≤ (cutS x (some i) none).length := by
  obtain ⟨k, rfl⟩ : ∃ k : Nat, i = (k : Int) := ⟨i.toNat, by omega⟩
  have e : ((k : Int) + 1) = ((k + 1 : Nat) : Int) := by omega
  rw [e]
  show ((_ : List Nat).toArray).size ≤ ((_ : List Nat).toArray).size
  rw [List.size_toArray, List.size_toArray, HT.sIx_nat, HT.sIx_none, HT.sIx_nat, List.length_take, List.length_take, List.length_drop, List.length_drop, Array.length_toList]
  show min (x.cps.size - min (k + 1) x.cps.size) (x.cps.size - min (k + 1) x.cps.size) ≤ min (x.cps.size - min k x.cps.size) (x.cps.size - min k x.cps.size)
  omega
theorem gx_tupM {E : Nat} {ds : List PyData} (h : ∀ d ∈ ds, Gx (E + 2) d) : Gx (E + 3) (.tuple ds) := gx_tup h
section
variable {P : Program} {w : World} {K : PySem.W.Frag} {mg : Str → Option Value} {base : Heap} {aW : Addr}
theorem bent_none (F : At_law_bent K mg) : C8.Cal P w K mg base 2 "_law_bent" (spBent K 0) [] := by
  refine F.cal (k := 1) sc_law_bent (fun vs H Q E h => ?_) (fun f cdv A outer s H vs Q E hr h => ?_)
  · obtain ⟨_, _, _, _, _, _, _, _, h, _⟩ := h
    exact absurd h (by omega)
  · obtain ⟨_, _, _, _, _, _, _, _, h, _⟩ := h
    exact absurd h (by omega)
set_option maxHeartbeats 4000000 in
theorem bent_step (T : Txt K mg aW) (c_law_take : C8.Cal P w K mg base 1 "_law_take" spTake []) (c_law_odd : C8.Cal P w K mg base 2 "_law_odd" (spOdd K) []) (F : At_law_bent K mg) (m : Nat) (c_law_bent : C8.Cal P w K mg base (2 + m) "_law_bent" (spBent K m) []) :
    C8.Cal P w K mg base (2 + m + 1) "_law_bent" (spBent K (m + 1)) [] := by
  refine F.cal sc_law_bent (fun vs H Q E h => ?_) (fun f cdv A outer s H vs Q E hr h => ?_)
  · obtain ⟨_, _, _, _, _, _, _, rfl, _⟩ := h
    rfl
  · obtain ⟨A0, p, n, v, d, deep, D, rfl, hdeep, hp, hn, av, pA, hd, pd, gd, hD, hw, k⟩ := h
    have nd := sc_law_bent.nd
    have hu64 := h64 hr
    refine ⟨_, (pss_cons (ps_set (i := 3) nd rfl (by first | exact Or.inl rfl | exact Or.inr rfl) (C8.pe_c c_law_take hr (by omega) rfl (pa_cons (pv 0) (pa_cons pe_int pa_nil))))
      (pss_cons (ps_set (i := 4) nd rfl (by first | exact Or.inl rfl | exact Or.inr rfl) (C8.pe_c c_law_odd hr (by omega) rfl (pa_cons (pv 0) pa_nil)))
      (pss_cons (ps_if (PW.pt (pw_and (pt_val (pe_callB call_isi (by rfl) T.z_isinstance (by decide +kernel) (pa_cons (pv 1) (pa_cons (pe_bltn (v := .ty "str") (by rfl) T.z_str (by decide +kernel) rfl) pa_nil)))) (pw_and1 (pt_cmpR op_lt (pv 3) pe_int (nomark _))))) (pss_cons (ps_set (i := 5) nd rfl (by first | exact Or.inl rfl | exact Or.inr rfl) (C8.pe_c c_law_take hr (by omega) rfl (pa_cons (pv 0) (pa_cons (pe_op op_add (pe_callB call_len_str (by rfl) T.z_len (by decide +kernel) (pa_cons (pv 1) pa_nil)) pe_int) pa_nil))))
        (pss_cons (ps_set (i := 6) nd rfl (by first | exact Or.inl rfl | exact Or.inr rfl) (pe_ix ix_list (pe_lst (pa_cons pe_str (pa_cons pe_str (pa_cons pe_str (pa_cons pe_str (pa_cons pe_str (pa_cons pe_str pa_nil))))))) (pv 3) (fun _ _ => rfl)))
        (pss_one (ps_ret (pe_ix ix_list (pe_lst (pa_cons (pe_op op_add_str (pe_op op_add_str (pe_slice sl_str (pv 1) po_none (po_some (pv 5))) (pv 6)) (pe_slice sl_str (pv 1) (po_some (pv 5)) po_none)) (pa_cons (pe_op op_add_str (pe_slice sl_str (pv 1) po_none (po_some (pv 5))) (pe_slice sl_str (pv 1) (po_some (pe_op op_add (pv 5) pe_int)) po_none)) pa_nil))) (C8.pe_c c_law_take hr (by omega) rfl (pa_cons (pv 0) (pa_cons pe_int pa_nil))) (fun _ _ => rfl)))))) pss_nil)
      (pss_cons (ps_if (pt_not (pt_val (pe_callB call_isi (by rfl) T.z_isinstance (by decide +kernel) (pa_cons (pv 1) (pa_cons (pe_bltn (v := .ty "tuple") (by rfl) T.z_tuple (by decide +kernel) rfl) pa_nil))))) (pss_cons (ps_if (PW.pt (pw_or (pt_not (pt_val (pe_callB call_isi (by rfl) T.z_isinstance (by decide +kernel) (pa_cons (pv 1) (pa_cons (pe_bltn (v := .ty "int") (by rfl) T.z_int (by decide +kernel) rfl) pa_nil))))) (pw_or (pt_val (pe_callB call_isi (by rfl) T.z_isinstance (by decide +kernel) (pa_cons (pv 1) (pa_cons (pe_bltn (v := .ty "bool") (by rfl) T.z_bool (by decide +kernel) rfl) pa_nil)))) (pw_or1 (pt_cmpR op_gt (pv 3) pe_int (nomark _)))))) (pss_one (ps_ret (pv 4))) pss_nil)
        (pss_one ps_never)) pss_nil)
      (pss_cons (ps_set (i := 5) nd rfl (by first | exact Or.inl rfl | exact Or.inr rfl) (C8.pe_c c_law_take hr (by omega) rfl (pa_cons (pv 0) (pa_cons (pe_callB (call_max2 rfl) (by rfl) T.z_max (by decide +kernel) (pa_cons pe_int (pa_cons (pe_callB call_len_seq (by rfl) T.z_len (by decide +kernel) (pa_cons (pv 1) pa_nil)) pa_nil))) pa_nil))))
      (pss_cons (ps_set (i := 7) nd rfl (by first | exact Or.inl rfl | exact Or.inr rfl) (C8.pe_c c_law_take hr (by omega) rfl (pa_cons (pv 0) (pa_cons (pe_callB (call_max2 rfl) (by rfl) T.z_max (by decide +kernel) (pa_cons pe_int (pa_cons (pe_callB call_len_seq (by rfl) T.z_len (by decide +kernel) (pa_cons (pv 1) pa_nil)) pa_nil))) pa_nil))))
      (pss_cons (ps_if (PW.pt (pw_and (pt_cmpR op_gt (pv 2) pe_int (nomark _)) (pw_and (pt_cmpR (op_neNilT hu64) (pv 1) (pe_tup pa_nil) (nomark _)) (pw_and1 (pt_cmpR op_gt (C8.pe_c c_law_take hr (by omega) rfl (pa_cons (pv 0) (pa_cons pe_int pa_nil))) pe_int (nomark _)))))) (pss_one (ps_ret (pe_op op_catA (pe_op op_catA (pe_slice sl_tupA (pv 1) po_none (po_some (pv 5))) (pe_tup (pa_cons (C8.pe_c c_law_bent hr (by omega) rfl (pa_cons (pv 0) (pa_cons (pe_ix ix_tup (pv 1) (pv 5) (fun _ _ => rfl)) (pa_cons (pe_op op_sub (pv 2) pe_int) pa_nil)))) pa_nil))) (pe_slice sl_tupA (pv 1) (po_some (pe_op op_add (pv 5) pe_int)) po_none)))) pss_nil)
      (pss_cons (ps_set (i := 8) nd rfl (by first | exact Or.inl rfl | exact Or.inr rfl) (pe_lst (pa_cons (pe_op op_catA (pe_slice sl_tupA (pv 1) po_none (po_some (pv 5))) (pe_slice sl_tupA (pv 1) (po_some (pe_op op_add (pv 5) pe_int)) po_none)) (pa_cons (pe_op op_catA (pe_slice sl_tupA (pv 1) po_none (po_some (pe_op op_add (pv 5) pe_int))) (pe_slice sl_tupA (pv 1) (po_some (pv 5)) po_none)) pa_nil))))
      (pss_cons (ps_set (i := 8) nd rfl (by first | exact Or.inl rfl | exact Or.inr rfl) (pe_op op_cat (pv 8) (pe_lst (pa_cons (pe_op op_catA (pe_op op_catA (pe_slice sl_tupA (pv 1) po_none (po_some (pv 5))) (pe_tup (pa_cons (pv 4) pa_nil))) (pe_slice sl_tupA (pv 1) (po_some (pv 5)) po_none)) (pa_cons (pe_revT (pv 1)) (pa_cons (pe_callTy call_list_ofN (by rfl) T.z_list (by decide +kernel) (pa_cons (pv 1) pa_nil)) pa_nil))))))
      (pss_one (ps_ret (pe_ix ix_list (pe_op op_cat (pv 8) (pe_lst (pa_cons (pe_op op_catA (pe_op op_catA (pe_slice sl_tupA (pv 1) po_none (po_some (pv 5))) (pe_slice sl_tupA (pv 1) (po_some (pv 7)) (po_some (pe_op op_add (pv 7) pe_int)))) (pe_slice sl_tupA (pv 1) (po_some (pe_op op_add (pv 5) pe_int)) po_none)) (pa_cons (pe_op op_catA (pv 1) (pe_tup (pa_cons (pv 4) pa_nil))) (pa_cons (pv 4) pa_nil))))) (pv 3) (fun _ _ => rfl))))))))))))), ?_⟩
    refine ⟨_, rfl, p, 8, n, rfl, hp, by decide, by decide, by omega, fun way H1 w0 w8 hp1 k1 => ?_⟩
    have av1 := av.kp k1 (by simp; exact let ⟨x, y, z, e, _⟩ := hp1; ⟨_, e⟩)
    refine ⟨_, rfl, A0, p, n + 1, rfl, hp1, by omega, av1, pA, fun ov od H2 odm hod hp2 k2 => ?_⟩
    have k12 := k1.trans k2
    have av2 := av1.kp k2 (by simp; exact let ⟨x, y, z, e, _⟩ := hp2; ⟨_, e⟩)
    have hd2 := hd.k k12 (by simpa using pA)
    obtain ⟨god, wod⟩ := odd_gx od odm
    refine ⟨_, rfl, _, _, _, _, isStrD d, rfl, .ty "str", hd2.ty, kit_str d, _, rfl, ?_⟩
    have sz8 : ∀ n : Nat, n ≤ 100000 → n ≤ sizeLine := fun n h => Nat.le_of_lt (w_lt h)
    rcases (Classical.em (∃ x, d = .str x)) with hs | hs
    · obtain ⟨x, rfl⟩ := hs
      cases hd2
      have xl : x.length ≤ 20000 := by rw [PyData.weight] at hw; exact hw
      have xlow := gx_str_low gd
      refine iteT ⟨_, rfl, _, _, rfl, rfl, _, rfl, ?_⟩
      by_cases h6 : way < 6
      · refine iteD h6 ?_
        refine ⟨_, rfl, _, rfl, x, rfl, sz8 _ (by omega), _, _, rfl, rfl, p, _, n + 2, rfl, hp2, by omega, by omega, by omega, fun at_ H3 a0 a1 hp3 k3 => ?_⟩
        obtain ⟨c, c1000, hsg⟩ := sign_at way w0 h6
        refine ⟨(by show 6 ≤ sizeLine; decide), fun l hl => ⟨_, rfl, l, _, way, _, rfl, rfl, SqL.of upd_same, hsg, ?_⟩⟩
        have k13 := k12.trans k3
        have k4 : Kp [p] H (upd H3 l (.lst [V.str "a", V.str "z", V.str " ", V.str "A", V.str "1", V.str "q"])) := k13.new' hl
        have hp4 : PotOk (upd H3 l (.lst [V.str "a", V.str "z", V.str " ", V.str "A", V.str "1", V.str "q"])) p (n + 3) := hp3.kp (Kp.new (S := []) hl) (by simp)
        generalize upd H3 l (.lst [V.str "a", V.str "z", V.str " ", V.str "A", V.str "1", V.str "q"]) = H4 at k4 hp4
        have c1 := cutS_length x none (some at_)
        have c2 := cutS_length x (some at_) none
        have c3 := cutS_length x (some (at_ + 1)) none
        have s1 : (S1 [c]).length = 1 := s1_len [c]
        have ev : EvA A0 K H4 [some (.ref p), some (.str x), some (.int (deep : Nat)), some (.int way), some ov, some (.int at_), some (.str (S1 [c])), none, none] _
            [.str (cutS x none (some at_) ++ S1 [c] ++ cutS x (some at_) none), .str (cutS x none (some at_) ++ cutS x (some (at_ + 1)) none)] :=
          eva_cons (evd_catS (evd_catS (evd_cutS (evd_var (i := 1) rfl (.str x)) evo_none (evo_some (A := A0) (K := K) (evd_var (i := 5) rfl (.int _))) (by omega)) (evd_var (i := 6) rfl (.str _)) (by omega))
              (evd_cutS (evd_var (i := 1) rfl (.str x)) (evo_some (A := A0) (K := K) (evd_var (i := 5) rfl (.int _))) evo_none (by omega)) (by rw [cat_len]; omega))
            (eva_cons (evd_catS (evd_cutS (evd_var (i := 1) rfl (.str x)) evo_none (evo_some (A := A0) (K := K) (evd_var (i := 5) rfl (.int _))) (by omega))
              (evd_cutS (evd_var (i := 1) rfl (.str x)) (evo_some (A := A0) (K := K) (evd_addI (evd_var (i := 5) rfl (.int _)) evd_int)) evo_none (by omega)) (by omega)) eva_nil)
        refine rd_ix ev (by simp) fun us H5 k5 hus l2 hl2 => ?_
        have kl2 : Kp [] H5 (upd H5 l2 (.lst us)) := Kp.new hl2
        have hp5 := (hp4.kp k5 (by simp)).kp kl2 (by simp)
        have ul := hus.len
        refine ⟨_, rfl, p, 2, n + 3, rfl, hp5, by decide, by decide, by omega, fun r H6 r0 r2 hp6 k6 => ?_⟩
        have npl : l2 ≠ p := Ne.symm ((hp4.kp k5 (by simp)).ne hl2)
        have hr2 : r.toNat < us.length := by rw [ul]; show r.toNat < 2; omega
        have er : r = ((r.toNat : Nat) : Int) := by omega
        refine ⟨l2, us, r, us[r.toNat], rfl, rfl, SqL.of (k6.old _ _ upd_same (by simp [npl])), ?_, ?_⟩
        · conv => lhs; rw [er]
          exact atI_nat (List.getElem?_eq_getElem hr2)
        · obtain ⟨d', hd', hx⟩ := hus.get (List.getElem?_eq_getElem hr2)
          have low1 : ∀ c' ∈ (S1 [c]).cps.toList, c' < 1000 := fun c' hc' => by
            have : c' = c := by simpa using hc'
            omega
          have kz : Kp [p] H (upd H5 l2 (.lst us)) := (k4.trans (k5.mono (by simp))).new' hl2
          have memd := List.mem_of_getElem? hd'
          have fin : Gx 0 d' ∧ d'.weight ≤ x.length + 1 := by
            rcases List.mem_cons.mp memd with z | z
            · subst z
              refine ⟨gx_str (cat_low (cat_low (cutS_low xlow) low1) (cutS_low xlow)), ?_⟩
              rw [PyData.weight]
              show (cutS x none (some at_) ++ S1 [c] ++ cutS x (some at_) none).length ≤ _
              rw [cat_len, cat_len, s1]
              have e2 := cut_two x at_ a0
              omega
            · have z : d' = .str (cutS x none (some at_) ++ cutS x (some (at_ + 1)) none) := by simpa using z
              subst z
              refine ⟨gx_str (cat_low (cutS_low xlow) (cutS_low xlow)), ?_⟩
              rw [PyData.weight]
              show (cutS x none (some at_) ++ cutS x (some (at_ + 1)) none).length ≤ _
              rw [cat_len]
              have e2 := cut_two x at_ a0
              have e3 := cut_more x at_ a0
              omega
          refine k _ d' H6 ((hx.k0 kl2).k k6 (by simpa using pA)) (fin.1.more (by omega)) ?_ (hp6.more (by omega)) (kz.trans k6)
          have e4 : (PyData.str x).weight = x.length := by rw [PyData.weight]; rfl
          rw [e4]
          omega
      · refine iteDn h6 ?_
        refine ⟨_, rfl, _, _, _, _, false, rfl, .ty "tuple", .base (.str x), kit_ty (by decide +kernel), _, rfl, iteT ?_⟩
        refine ⟨_, rfl, _, _, _, _, false, rfl, .ty "int", .base (.str x), kit_ty (by decide +kernel), _, rfl, iteT ?_⟩
        refine ⟨_, rfl, ?_⟩
        exact k _ od H2 hod (god.more (by omega)) (by omega) (hp2.more (by omega)) k12
    obtain ⟨ds, rfl⟩ : ∃ ds, d = .tuple ds := by
      cases d with
      | tuple ds => exact ⟨ds, rfl⟩
      | str x => exact absurd ⟨x, rfl⟩ hs
      | _ => exact (by simp only [plainD] at pd)
    have plain : ∀ d ∈ ds, plainD d := by
      rw [plainD] at pd
      exact plainAll_mem pd
    obtain ⟨D', rfl⟩ : ∃ D', D = D' + 1 := by
      have := gd.dp
      simp only [PyData.depth] at this
      exact ⟨D - 1, by omega⟩
    have gi := gx_items gd
    have hwd : PyData.weightAll ds ≤ 20000 := by rw [PyData.weight] at hw; exact hw
    have dl := weightAll_len ds
    have k' : ∀ v' d' H', Dx A0 K H' v' d' → Gx (D' + 4) d' → d'.weight ≤ 3 * PyData.weightAll ds + 400 → PotOk H' p (n + 10 * (deep + 1)) → Kp [p] H H' → Q v' H' := fun v' d' H' a1 a2 a3 => k v' d' H' a1 a2 (by rw [PyData.weight]; exact a3)
    -- the thing, by its address
    obtain ⟨a, xs, rfl, hq, hx⟩ : ∃ a xs, v = .ref a ∧ SqT K H a xs ∧ DxAll A0 K H xs ds := by
      cases hd with
      | @tup a xs _ hq hx => exact ⟨a, xs, rfl, hq, hx⟩
    have xl := hx.len
    have pS : ∀ b ∈ [p], b ∈ A0 := by simpa using pA
    refine iteF ?_
    refine ⟨_, rfl, _, _, _, _, true, rfl, .ty "tuple", hd2.ty, kit_tup _, _, rfl, iteF ?_⟩
    have mx : ∀ L : Nat, L ≤ 20000 → (0 : Int) < (if (L : Int) > 1 then (L : Int) else 1) ∧ (if (L : Int) > 1 then (L : Int) else 1) < 1073741824 := fun L h => by split <;> omega
    obtain ⟨m0, m1⟩ := mx xs.length (by omega)
    refine ⟨_, rfl, _, rfl, a, xs, rfl, .inr (k12.sqt hq), _, _, rfl, p, _, n + 2, rfl, hp2, m0, m1, by omega, fun at_ H3 a0 a1 hp3 k3 => ?_⟩
    have k13 := k12.trans k3
    refine ⟨_, rfl, _, rfl, a, xs, rfl, .inr (k13.sqt hq), _, _, rfl, p, _, n + 3, rfl, hp3, m0, m1, by omega, fun to_ H4 t0 t1 hp4 k4 => ?_⟩
    have k14 := k13.trans k4
    have hod4 := (hod.k k3 pS).k k4 pS
    have av4 : AvOk A0 H4 := av.kp k14 (by simp; exact let ⟨x, y, z, e, _⟩ := hp4; ⟨_, e⟩)
    dsimp only [gName, tSeq]
    refine rd_if (fun b H5 => Kp [p] H H5 ∧ Kp [p] H4 H5 ∧ PotOk H5 p (n + 5) ∧ (b = true → 0 < deep ∧ xs ≠ [])) (fun Q' kq => ?_) ?_ ?_
    · refine ⟨_, rfl, _, _, rfl, rfl, _, rfl, ?_⟩
      by_cases c0 : (0 : Int) < (deep : Int)
      · refine iteD c0 ?_
        refine ⟨_, rfl, (by show 0 ≤ sizeLine; decide), fun q hq0 => ?_⟩
        have kq0 : Kp [] H4 (upd H4 q (.tup [])) := Kp.new hq0
        refine ⟨a, q, xs, rfl, rfl, kq0.sqt (k14.sqt hq), .inl (.inl upd_same), _, rfl, ?_⟩
        have hp4' := hp4.kp kq0 (by simp)
        generalize upd H4 q (.tup []) = H4' at kq0 hp4'
        have k14' : Kp [p] H H4' := k14.trans (kq0.mono (by simp))
        rcases (Classical.em (xs = [])) with e | e
        · exact iteBn (by rw [e]; rfl) (kq _ _ ⟨k14', kq0.mono (by simp), hp4'.more (by omega), fun z => (nomatch z)⟩)
        · refine iteB (by cases xs with | nil => exact absurd rfl e | cons _ _ => rfl) ?_
          refine ⟨_, rfl, p, 4, n + 4, rfl, hp4', by decide, by decide, by omega, fun r H5 r0 r4 hp5 k5 => ⟨_, _, rfl, rfl, _, rfl, ?_⟩⟩
          refine kq _ _ ⟨k14'.trans k5, (kq0.mono (by simp)).trans k5, hp5, fun _ => ⟨by omega, e⟩⟩
      · exact iteDn c0 (kq _ _ ⟨k14, Kp.refl, hp4.more (by omega), fun z => (nomatch z)⟩)
    · rintro H5 ⟨k5, k45, hp5, hb⟩
      obtain ⟨dp0, xne⟩ := hb rfl
      have xpos : 0 < xs.length := List.length_pos_iff.mpr xne
      have a1' : at_ < (xs.length : Int) := by
        split at a1 <;> omega
      obtain ⟨ai, rfl⟩ : ∃ ai : Nat, at_ = (ai : Int) := ⟨at_.toNat, by omega⟩
      have ail : ai < ds.length := by omega
      have hd5 : Dx A0 K H5 (.ref a) (.tuple ds) := (Dx.tup hq hx).k k5 pS
      refine rd_cat3 (A := A0) (d1 := cutD ds none (some (ai : Int))) (evd_cut (evd_var (i := 1) rfl hd5) evo_none (evo_some (A := A0) (K := K) (evd_var (i := 5) rfl (.int _)))) fun v1 H6 k6 hv1 => ?_
      obtain ⟨xa, hxa, hda⟩ := hx.getD (List.getElem?_eq_getElem ail)
      have k56 : Kp [p] H H6 := k5.trans (k6.mono (by simp))
      have hp6 := hp5.kp k6 (by simp)
      have av6 : AvOk A0 H6 := av.kp k56 (by simp; exact let ⟨x, y, z, e, _⟩ := hp6; ⟨_, e⟩)
      have wsp := weight_split (List.getElem?_eq_getElem ail)
      have e1 : ((deep : Int) - 1) = ((deep - 1 : Nat) : Int) := by omega
      refine ⟨_, rfl, _, rfl, _, rfl, a, xs, _, xa, rfl, rfl, k56.sqt hq, atI_nat hxa, _, rfl, _, _, rfl, rfl, A0, p, n + 5, xa, ds[ai], deep - 1, D', ?_, by omega, hp6, by omega, av6, pA, hda.k k56 pS, plain _ (List.getElem_mem ail), gi _ (List.getElem_mem ail), by omega, by omega, ?_⟩
      · show [V.ref p, xa, V.int ((deep : Int) - 1)] = _
        rw [e1]
      intro v' d' H7 hd' gd' wd' hp7 k7
      have k57 := k56.trans k7
      refine ⟨(by show 1 ≤ sizeLine; decide), fun q hq0 => ?_⟩
      have kq0 : Kp [] H7 (upd H7 q (.tup [v'])) := Kp.new hq0
      have hq1 : Dx A0 K (upd H7 q (.tup [v'])) (.ref q) (.tuple [d']) := .tup (.inl (.inl upd_same)) (.cons (hd'.k0 kq0) .nil)
      have hp8 := hp7.kp kq0 (by simp)
      have hv8 := (hv1.k k7 pS).k0 kq0
      generalize upd H7 q (.tup [v']) = H8 at kq0 hq1 hp8 hv8
      have k58 : Kp [p] H H8 := k57.trans (kq0.mono (by simp))
      have c1 := (cutD_sub ds none (some (ai : Int)))
      have ecut := cutD_take ds ai
      have ecut2 := cutD_drop ds (ai + 1)
      have e2 : ((ai : Int) + 1) = ((ai + 1 : Nat) : Int) := by omega
      have tl := List.length_take_le ai ds
      have dl2 : (ds.drop (ai + 1)).length ≤ ds.length := by rw [List.length_drop]; omega
      refine cat_run hv8 hq1 (by rw [ecut]; show (ds.take ai).length + 1 ≤ _; omega) fun v2 H9 k9 hv2 => ?_
      have k59 : Kp [p] H H9 := k58.trans (k9.mono (by simp))
      have hp9 := hp8.kp k9 (by simp)
      have hd9 : Dx A0 K H9 (.ref a) (.tuple ds) := (Dx.tup hq hx).k k59 pS
      refine ev_run (A := A0) (d := .tuple (cutD ds (some ((ai : Int) + 1)) none)) (evd_cut (evd_var (i := 1) rfl hd9) (evo_some (A := A0) (K := K) (evd_addI (evd_var (i := 5) rfl (.int _)) evd_int)) evo_none) fun v3 H10 k10 hv3 => ?_
      rw [e2, ecut2] at hv3
      refine cat_run (hv2.k0 k10) hv3 (by rw [ecut, List.length_append]; show (ds.take ai).length + 1 + _ ≤ _; omega) fun v4 H11 k11 hv4 => ?_
      rw [ecut] at hv4
      refine k' v4 _ H11 hv4 (gx_tup fun e he => ?_) ?_ ((hp9.kp k10 (by simp)).kp k11 (by simp) |>.more (by omega)) ((k59.trans (k10.mono (by simp))).trans (k11.mono (by simp)))
      · rcases List.mem_append.mp he with z | z
        · rcases List.mem_append.mp z with z | z
          · exact (gi e (List.mem_of_mem_take z)).more (by omega)
          · have : e = d' := by simpa using z
            subst this
            exact gd'
        · exact (gi e (List.mem_of_mem_drop z)).more (by omega)
      · rw [PyData.weight, weightAll_append, weightAll_append, PyData.weightAll, PyData.weightAll]
        omega
    · rintro H5 ⟨k5, k45, hp5, -⟩
      have hd5 : Dx A0 K H5 (.ref a) (.tuple ds) := (Dx.tup hq hx).k k5 pS
      have ho5 := hod4.k k45 pS
      have av5 : AvOk A0 H5 := av.kp k5 (by simp; exact let ⟨x, y, z, e, _⟩ := hp5; ⟨_, e⟩)
      have lc : ∀ lo hi, (cutD ds lo hi).length ≤ 20000 := fun lo hi => by
        have h1 := weightAll_len (cutD ds lo hi)
        have h2 := (cutD_sub ds lo hi).2
        omega
      have vAt : ∀ {H0 : Hp} {σ : L2.St}, σ[5]? = some (some (.int at_)) → EvD A0 K H0 σ (tVar 5) (.int at_) := fun h => evd_var h (.int _)
      -- the first two
      have ev1 : EvA A0 K H5 [some (.ref p), some (.ref a), some (.int (deep : Nat)), some (.int way), some ov, some (.int at_), none, some (.int to_), none] _
          [.tuple (cutD ds none (some at_) ++ cutD ds (some (at_ + 1)) none), .tuple (cutD ds none (some (at_ + 1)) ++ cutD ds (some at_) none)] :=
        eva_cons (evd_catT (evd_cut (evd_var (i := 1) rfl hd5) evo_none (evo_some (vAt rfl))) (evd_cut (evd_var (i := 1) rfl hd5) (evo_some (evd_addI (vAt rfl) evd_int)) evo_none) (by have := lc none (some at_); have := lc (some (at_ + 1)) none; omega))
          (eva_cons (evd_catT (evd_cut (evd_var (i := 1) rfl hd5) evo_none (evo_some (evd_addI (vAt rfl) evd_int))) (evd_cut (evd_var (i := 1) rfl hd5) (evo_some (vAt rfl)) evo_none) (by have := lc none (some (at_ + 1)); have := lc (some at_) none; omega)) eva_nil)
      refine rd_asgL ev1 (by simp) fun us1 H6 k6 hu1 l1 hl1 => ?_
      have kl1 : Kp [] H6 (upd H6 l1 (.lst us1)) := Kp.new hl1
      have el1 : upd H6 l1 (.lst us1) l1 = some (.lst us1) := upd_same
      have k67 := k6.trans kl1
      have hu1' := hu1.k0 kl1
      have ul1 := hu1.len
      generalize upd H6 l1 (.lst us1) = H7 at kl1 el1 k67 hu1'
      have k57 : Kp [p] H5 H7 := k67.mono (by simp)
      have hd7 : Dx A0 K H7 (.ref a) (.tuple ds) := hd5.k0 k67
      have ho7 := ho5.k0 k67
      have hp7 := hp5.kp k67 (by simp)
      have av7 : AvOk A0 H7 := av5.kp k67 (by simp)
      -- three more
      have ev2 : EvA A0 K H7 [some (.ref p), some (.ref a), some (.int (deep : Nat)), some (.int way), some ov, some (.int at_), none, some (.int to_), some (.ref l1)] _
          [.tuple (cutD ds none (some at_) ++ [od] ++ cutD ds (some at_) none), .tuple ds.reverse, .list ds] :=
        eva_cons (evd_catT (evd_catT (evd_cut (evd_var (i := 1) rfl hd7) evo_none (evo_some (vAt rfl))) (evd_tup (eva_cons (evd_var (i := 4) rfl ho7) eva_nil) (by simp)) (by have := lc none (some at_); simp; omega))
            (evd_cut (evd_var (i := 1) rfl hd7) (evo_some (vAt rfl)) evo_none) (by have := lc none (some at_); have := lc (some at_) none; rw [List.length_append]; simp; omega))
          (eva_cons (evd_revT (tR := tRevT) (fun _ _ _ _ => rfl) (evd_var (i := 1) rfl hd7)) (eva_cons (evd_listT av7 (evd_var (i := 1) rfl hd7)) eva_nil))
      dsimp only [gName, tSeq]
      refine rd_asgCat (l0 := l1) (us0 := us1) ev2 (by rw [ul1]; simp) rfl el1 fun us2 H8 k8 hu2 l2 hl2 l3 hl3 => ?_
      have kl2 : Kp [] H8 (upd H8 l2 (.lst us2)) := Kp.new hl2
      have kl3 : Kp [] H8 (upd (upd H8 l2 (.lst us2)) l3 (.lst (us1 ++ us2))) := kl2.new' hl3
      have el3 : upd (upd H8 l2 (.lst us2)) l3 (.lst (us1 ++ us2)) l3 = some (.lst (us1 ++ us2)) := upd_same
      have hu12 : DxAll A0 K (upd (upd H8 l2 (.lst us2)) l3 (.lst (us1 ++ us2))) (us1 ++ us2) _ := ((hu1'.k0 k8).k0 kl3).append (hu2.k0 kl3)
      have ul2 := hu2.len
      have k79 := k8.trans kl3
      generalize upd (upd H8 l2 (.lst us2)) l3 (.lst (us1 ++ us2)) = H9 at kl3 el3 hu12 k79
      have k59 : Kp [p] H5 H9 := k57.trans (k79.mono (by simp))
      have hd9 : Dx A0 K H9 (.ref a) (.tuple ds) := hd7.k0 k79
      have ho9 := ho7.k0 k79
      have hp9 := hp7.kp k79 (by simp)
      have av9 : AvOk A0 H9 := av7.kp k79 (by simp)
      have vTo : ∀ {H0 : Hp} {σ : L2.St}, σ[7]? = some (some (.int to_)) → EvD A0 K H0 σ (tVar 7) (.int to_) := fun h => evd_var h (.int _)
      have ev3 : EvA A0 K H9 [some (.ref p), some (.ref a), some (.int (deep : Nat)), some (.int way), some ov, some (.int at_), none, some (.int to_), some (.ref l3)] _
          [.tuple (cutD ds none (some at_) ++ cutD ds (some to_) (some (to_ + 1)) ++ cutD ds (some (at_ + 1)) none), .tuple (ds ++ [od]), od] :=
        eva_cons (evd_catT (evd_catT (evd_cut (evd_var (i := 1) rfl hd9) evo_none (evo_some (vAt rfl))) (evd_cut (evd_var (i := 1) rfl hd9) (evo_some (vTo rfl)) (evo_some (evd_addI (vTo rfl) evd_int))) (by have := lc none (some at_); have := lc (some to_) (some (to_ + 1)); omega))
            (evd_cut (evd_var (i := 1) rfl hd9) (evo_some (evd_addI (vAt rfl) evd_int)) evo_none) (by have := lc none (some at_); have := lc (some to_) (some (to_ + 1)); have := lc (some (at_ + 1)) none; rw [List.length_append]; omega))
          (eva_cons (evd_catT (evd_var (i := 1) rfl hd9) (evd_tup (eva_cons (evd_var (i := 4) rfl ho9) eva_nil) (by simp)) (by simp; omega)) (eva_cons (evd_var (i := 4) rfl ho9) eva_nil))
      dsimp only [gName, tSeq]
      refine rd_retCatIx (l0 := l3) (us0 := us1 ++ us2) ev3 (by rw [List.length_append, ul1, ul2]; simp) rfl el3 fun us3 H10 k10 hu3 l4 hl4 l5 hl5 => ?_
      have kl4 : Kp [] H10 (upd H10 l4 (.lst us3)) := Kp.new hl4
      have kl5 : Kp [] H10 (upd (upd H10 l4 (.lst us3)) l5 (.lst (us1 ++ us2 ++ us3))) := kl4.new' hl5
      have el5 : upd (upd H10 l4 (.lst us3)) l5 (.lst (us1 ++ us2 ++ us3)) l5 = some (.lst (us1 ++ us2 ++ us3)) := upd_same
      have hall : DxAll A0 K (upd (upd H10 l4 (.lst us3)) l5 (.lst (us1 ++ us2 ++ us3))) (us1 ++ us2 ++ us3) _ := ((hu12.k0 k10).k0 kl5).append (hu3.k0 kl5)
      have ul3 := hu3.len
      have k911 := k10.trans kl5
      generalize upd (upd H10 l4 (.lst us3)) l5 (.lst (us1 ++ us2 ++ us3)) = H11 at kl5 el5 hall k911
      have ula : (us1 ++ us2 ++ us3).length = 8 := by rw [List.length_append, List.length_append, ul1, ul2, ul3]; rfl
      have hw3 : way.toNat < (us1 ++ us2 ++ us3).length := by rw [ula]; omega
      have ew : way = ((way.toNat : Nat) : Int) := by omega
      refine ⟨_, rfl, l5, us1 ++ us2 ++ us3, way, (us1 ++ us2 ++ us3)[way.toNat], rfl, rfl, SqL.of el5, ?_, ?_⟩
      · conv => lhs; rw [ew]
        exact atI_nat (List.getElem?_eq_getElem hw3)
      obtain ⟨d', hd', hxd⟩ := hall.get (List.getElem?_eq_getElem hw3)
      have md := List.mem_of_getElem? hd'
      have cs : ∀ lo hi, ∀ e ∈ cutD ds lo hi, Gx (D' + 3) e := fun lo hi e he => (gi e ((cutD_sub ds lo hi).1 e he)).more (by omega)
      have cw : ∀ lo hi, PyData.weightAll (cutD ds lo hi) ≤ PyData.weightAll ds := fun lo hi => (cutD_sub ds lo hi).2
      have go : Gx (D' + 3) od := god.more (by omega)
      have wsplit := cw none (some at_)
      refine k' _ d' H11 hxd ?_ ?_ ((hp9.kp k911 (by simp)).more (by omega)) (k5.trans (k59.trans (k911.mono (by simp))))
      · simp only [List.cons_append, List.nil_append, List.mem_cons, List.not_mem_nil, or_false] at md
        rcases md with z | z | z | z | z | z | z | z <;> subst z
        · exact gx_tup fun e he => (List.mem_append.mp he).elim (cs _ _ e) (cs _ _ e)
        · exact gx_tup fun e he => (List.mem_append.mp he).elim (cs _ _ e) (cs _ _ e)
        · refine gx_tup fun e he => (List.mem_append.mp he).elim (fun z => (List.mem_append.mp z).elim (cs _ _ e) fun z => ?_) (cs _ _ e)
          have : e = od := by simpa using z
          subst this
          exact go
        · exact gx_tup fun e he => (gi e (List.mem_reverse.mp he)).more (by omega)
        · exact gx_lst fun e he => (gi e he).more (by omega)
        · exact gx_tup fun e he => (List.mem_append.mp he).elim (fun z => (List.mem_append.mp z).elim (cs _ _ e) (cs _ _ e)) (cs _ _ e)
        · refine gx_tup fun e he => (List.mem_append.mp he).elim (fun z => (gi e z).more (by omega)) fun z => ?_
          have : e = od := by simpa using z
          subst this
          exact go
        · exact god.more (by omega)
      · have w1 := cw none (some at_)
        have w2 := cw (some at_) none
        have w3 := cw none (some (at_ + 1))
        have w4 := cw (some (at_ + 1)) none
        have w5 := cw (some to_) (some (to_ + 1))
        simp only [List.cons_append, List.nil_append, List.mem_cons, List.not_mem_nil, or_false] at md
        rcases md with z | z | z | z | z | z | z | z <;> subst z
        · rw [PyData.weight, weightAll_append]; omega
        · rw [PyData.weight, weightAll_append]; omega
        · rw [PyData.weight, weightAll_append, weightAll_append, PyData.weightAll, PyData.weightAll]; omega
        · rw [PyData.weight, weightAll_reverse]; omega
        · rw [PyData.weight]; omega
        · rw [PyData.weight, weightAll_append, weightAll_append]; omega
        · rw [PyData.weight, weightAll_append, PyData.weightAll, PyData.weightAll]; omega
        · omega
/-- .. in each depth to five -/
theorem c_law_bent (T : Txt K mg aW) (c_law_take : C8.Cal P w K mg base 1 "_law_take" spTake []) (c_law_odd : C8.Cal P w K mg base 2 "_law_odd" (spOdd K) []) (F : At_law_bent K mg) : C8.Cal P w K mg base 8 "_law_bent" (spBent K 6) [] := by
  have all : ∀ m, C8.Cal P w K mg base (2 + m) "_law_bent" (spBent K m) [] := by
    intro m
    induction m with
    | zero => exact bent_none F
    | succ m ih => exact bent_step T c_law_take c_law_odd F m ih
  exact all 6
end

end Md

set_option maxHeartbeats 4000000
namespace Md
open PySem PySem.Spec PyProof.Rows L2
theorem tuple_mul0 (l : Addr) (items : Array Value) (n : Nat) (dd : Option Addr) (sl : Array (Option Value)) (u : Tok) (c1 : (items.isEmpty || (0 : Int) == 1) = false) (c2 : (decide ((0 : Int) ≤ 0) || items.isEmpty) = true) :
    Meets (Builtin.«tuple.__mul__» ⟨[.ref l, .int 0 u], []⟩) (fun _ R s => s.heap.get? l = some { cls := .type "tuple", dict := dd, data := .seq items n, slots := sl } ∧
      R (.ok (.ret (Value.ref s.heap.objs.size))) { s with heap := s.heap.push { cls := Value.type "tuple", data := Data.seq #[] }, toks := s.toks }) :=
  .of_wp fun prog w A R s h => by
    obtain ⟨hp, g, d, tk, os⟩ := s
    obtain ⟨hl, h⟩ := h
    have f1 := AutoSeq1.idx_int
    wp_walk using AutoSeq1.wpAny_loadPart' hl
    repeat (first
      | (refine wpAny_ite_false (by decide) ?_; wp_walk using AutoSeq1.wpAny_loadPart' hl)
      | (refine wpAny_ite_false (decide_eq_false (by rw [c1]; exact Bool.false_ne_true)) ?_; wp_walk using AutoSeq1.wpAny_loadPart' hl)
      | (refine wpAny_ite_true (decide_eq_true (by rw [c2])) ?_; wp_walk using AutoSeq1.wpAny_loadPart' hl))
    exact ⟨_, rfl, h⟩
theorem tuple_mul1 (l : Addr) (items : Array Value) (n : Nat) (dd : Option Addr) (sl : Array (Option Value)) (u : Tok) (c1 : (items.isEmpty || (1 : Int) == 1) = true) :
    Meets (Builtin.«tuple.__mul__» ⟨[.ref l, .int 1 u], []⟩) (fun _ R s => s.heap.get? l = some { cls := .type "tuple", dict := dd, data := .seq items n, slots := sl } ∧
      R (.ok (.ret (Value.ref l))) s) :=
  .of_wp fun prog w A R s h => by
    obtain ⟨hp, g, d, tk, os⟩ := s
    obtain ⟨hl, h⟩ := h
    have f1 := AutoSeq1.idx_int
    wp_walk using AutoSeq1.wpAny_loadPart' hl
    repeat (first
      | (refine wpAny_ite_false (by decide) ?_; wp_walk using AutoSeq1.wpAny_loadPart' hl)
      | (refine wpAny_ite_true (decide_eq_true (by rw [c1])) ?_; wp_walk using AutoSeq1.wpAny_loadPart' hl))
    exact ⟨_, rfl, h⟩
section
variable {X : Cx}
/-- t * 0, t * 1 -/
def rRep01 (K : PySem.W.Frag) : R2 := fun x y H Q => ∃ l k xs, x = .ref l ∧ y = .int k ∧ SqT K H l xs ∧ xs ≠ [] ∧ ((k = 0 ∧ ∀ p, H p = none → Q (.ref p) (upd H p (.tup []))) ∨ (k = 1 ∧ Q (.ref l) H))
theorem op_rep01 : OpR X (binaryOp .Mult) (rRep01 X.K) := by
  intro pins s σ H x y v u Q I rx ry h
  obtain ⟨l, k, xs, rfl, rfl, hT, hne, q⟩ := h
  cases rx
  obtain ⟨t, rfl⟩ := ry
  obtain ⟨its, r, ⟨⟨cls, dd, data, sl⟩, ho, hc, n, hd⟩, hs⟩ := I.tuple hT
  simp only at hc hd
  subst hc hd
  have hle : its.length = xs.length := r.length.symm
  have hi : its.toArray.isEmpty = false := by
    cases its with
    | nil => exact absurd (List.eq_nil_of_length_eq_zero hle.symm) hne
    | cons a b => rfl
  rcases q with ⟨rfl, q⟩ | ⟨rfl, q⟩
  · refine wpAny_binaryOp_repeat_ref (T := "tuple") (U := "int") (by decide) ⟨_, ho, rfl⟩ (fun s' => typeIs_int s' 0 t) noFill_tuple_mul F.fills_int_mul F.slot_int_rmul repeat_tuple F.slot_int_index.lookup
      (call_meets F.slot_int_rmul (typeIs_int s 0 t) F.entry_int_rmul (F.args_int_rmul_2 _ _) (int_rmul_tuple 0 t l its.toArray n dd sl)
        ⟨ho, rfl, ⟨_, ho, rfl⟩, call_meets F.slot_tuple_mul ⟨_, ho, rfl⟩ F.entry_tuple_mul (F.args_tuple_mul_2 _ _) (tuple_mul0 l its.toArray n dd sl t (by rw [hi]; rfl) (by rw [hi]; rfl)) ⟨ho, ?_⟩⟩)
    refine ⟨.ref s.heap.objs.size, _, I.laid (t' := s.toks) (o := .tup []) (fun b ob q => Heap.get?_push_of_some _ q) (Nat.le_refl _) ?_, rfl, q _ (I.hok.fresh (Nat.le_refl _))⟩
    exact ⟨Nat.zero_le _, [], .nil, IsTup.new _ _⟩
  · refine wpAny_binaryOp_repeat_ref (T := "tuple") (U := "int") (by decide) ⟨_, ho, rfl⟩ (fun s' => typeIs_int s' 1 t) noFill_tuple_mul F.fills_int_mul F.slot_int_rmul repeat_tuple F.slot_int_index.lookup
      (call_meets F.slot_int_rmul (typeIs_int s 1 t) F.entry_int_rmul (F.args_int_rmul_2 _ _) (int_rmul_tuple 1 t l its.toArray n dd sl)
        ⟨ho, rfl, ⟨_, ho, rfl⟩, call_meets F.slot_tuple_mul ⟨_, ho, rfl⟩ F.entry_tuple_mul (F.args_tuple_mul_2 _ _) (tuple_mul1 l its.toArray n dd sl t (by rw [hi]; rfl)) ⟨ho, ?_⟩⟩)
    exact ⟨.ref l, H, I, rfl, q⟩
end
/-! ### more that is read forward -/
section
variable {A B : List Addr} {K : PySem.W.Frag} {H0 : Hp} {σ : L2.St}
mutual
theorem Dx.plainK {T : List Addr} {H H' : Hp} (k : Kp T H H') : ∀ (d : PyData) (v : V), plainD d → Dx A K H v d → Dx B K H' v d
  | .str x, _, _, h => by cases h; exact .str x
  | .tuple ds, _, p, h => by
    cases h with
    | tup e h => exact .tup (k.sqt e) (DxAll.plainK k ds _ (by rw [plainD] at p; exact p) h)
  | .none, _, p, _ => by simp only [plainD] at p
  | .bool _, _, p, _ => by simp only [plainD] at p
  | .int _, _, p, _ => by simp only [plainD] at p
  | .list _, _, p, _ => by simp only [plainD] at p
  | .dict _, _, p, _ => by simp only [plainD] at p
theorem DxAll.plainK {T : List Addr} {H H' : Hp} (k : Kp T H H') : ∀ (ds : List PyData) (vs : List V), plainAll ds → DxAll A K H vs ds → DxAll B K H' vs ds
  | [], _, _, h => by cases h; exact .nil
  | d :: ds, _, p, h => by
    rw [plainAll] at p
    cases h with
    | cons a b => exact .cons (Dx.plainK k d _ p.1 a) (DxAll.plainK k ds _ p.2 b)
end
theorem DxAll.rep {H : Hp} {vs : List V} {ds : List PyData} (h : DxAll A K H vs ds) : ∀ m : Nat, DxAll A K H (List.replicate m vs).flatten (List.replicate m ds).flatten
  | 0 => .nil
  | m + 1 => by
    rw [List.replicate_succ, List.replicate_succ, List.flatten_cons, List.flatten_cons]
    exact h.append (DxAll.rep h m)
theorem evd_rep {te : TE} {ds : List PyData} {k : Int} (h : EvD A K H0 σ te (.tuple ds)) (hn : ds ≠ []) (h2 : 2 ≤ k) (hk : k ≤ 1000) (hl : ds.length ≤ 1000) : EvD A K H0 σ (tOp (rRepT K) te (tC (.int k))) (.tuple (List.replicate k.toNat ds).flatten) := fun H Q kk q =>
  h H _ kk fun v H1 k1 hd => by
    cases hd with
    | @tup a xs _ hq hp =>
      have xl := hp.len
      refine ⟨a, k, xs, rfl, rfl, hq, fun z => ?_, h2, hk, by omega, fun p hp' => q _ _ (k1.new' hp') (.tup (.inl (.inl upd_same)) ?_)⟩
      · subst z
        cases hp
        exact hn rfl
      · exact (hp.k0 (Kp.new hp')).rep _
theorem evd_rep01 {te ti : TE} {ds : List PyData} {k : Nat} (h : EvD A K H0 σ te (.tuple ds)) (g : EvD A K H0 σ ti (.int (k : Nat))) (hn : ds ≠ []) (h2 : k ≤ 1) : EvD A K H0 σ (tOp (rRep01 K) te ti) (.tuple (List.replicate k ds).flatten) := fun H Q kk q =>
  h H _ kk fun v H1 k1 hd => g H1 _ (kk.trans k1) fun u H2 k2 he => by
    cases he
    cases hd with
    | @tup a xs _ hq hp =>
      have kz := k1.trans k2
      have hne : xs ≠ [] := fun z => by
        subst z
        cases hp
        exact hn rfl
      refine ⟨a, _, xs, rfl, rfl, k2.sqt hq, hne, ?_⟩
      have : k = 0 ∨ k = 1 := by omega
      rcases this with rfl | rfl
      · exact .inl ⟨rfl, fun p hp' => q _ _ (kz.new' hp') (.tup (.inl (.inl upd_same)) .nil)⟩
      · refine .inr ⟨rfl, q _ _ kz ?_⟩
        have e : (List.replicate 1 ds).flatten = ds := by simp
        rw [e]
        exact .tup (k2.sqt hq) (hp.k0 k2)
theorem evd_ixL {i j : Nat} {l : Addr} {vs : List V} {ds : List PyData} {d : PyData} {te : TE} (h : σ[i]? = some (some (.ref l))) (hl : H0 l = some (.lst vs)) (hv : DxAll A K H0 vs ds) (g : EvD A K H0 σ te (.int (j : Nat))) (hd : ds[j]? = some d) :
    EvD A K H0 σ (tOp (rIxL K) (tVar i) te) d := fun H Q k q => ⟨_, h, g H _ k fun v H1 k1 he => by
  cases he
  obtain ⟨x, hx, hxd⟩ := hv.getD hd
  exact ⟨l, vs, _, x, rfl, rfl, SqL.of (k1.old _ _ (k.old _ _ hl (by simp)) (by simp)), atI_nat hx, q _ _ k1 (hxd.k0 (k.trans k1))⟩⟩
theorem evd_ixT {j : Nat} {ds : List PyData} {d : PyData} {te ti : TE} (h : EvD A K H0 σ te (.tuple ds)) (g : EvD A K H0 σ ti (.int (j : Nat))) (hd : ds[j]? = some d) : EvD A K H0 σ (tOp (rIxT K) te ti) d := fun H Q k q =>
  h H _ k fun v H1 k1 hv => g H1 _ (k.trans k1) fun u H2 k2 he => by
    cases he
    cases hv with
    | @tup a xs _ hq hp =>
      obtain ⟨x, hx, hxd⟩ := hp.getD hd
      exact ⟨a, xs, _, x, rfl, rfl, k2.sqt hq, atI_nat hx, q _ _ (k1.trans k2) (hxd.k0 k2)⟩
/-- a list on its way -/
def EvL' (A : List Addr) (K : PySem.W.Frag) (H0 : Hp) (σ : L2.St) (te : TE) (ds : List PyData) : Prop := ∀ (H : Hp) (Q : VK), Kp [] H0 H → (∀ l vs H', Kp [] H H' → H' l = some (.lst vs) → DxAll A K H' vs ds → Q (.ref l) H') → te σ H Q
theorem evl_var {i : Nat} {l : Addr} {vs : List V} {ds : List PyData} (h : σ[i]? = some (some (.ref l))) (hl : H0 l = some (.lst vs)) (hv : DxAll A K H0 vs ds) : EvL' A K H0 σ (tVar i) ds := fun H Q k q =>
  ⟨_, h, q l vs H Kp.refl (k.old _ _ hl (by simp)) (hv.k0 k)⟩
theorem evl_lst {ta : TA} {ds : List PyData} (t : EvA A K H0 σ ta ds) (hl : ds.length ≤ 100000) : EvL' A K H0 σ (tLst ta) ds := fun H Q k q => t H _ k fun vs H1 k1 h =>
  ⟨by rw [h.len]; exact Nat.le_of_lt (w_lt hl), fun p hp => q p vs _ (k1.new' hp) upd_same (h.k0 (Kp.new hp))⟩
theorem evl_take {te tn : TE} {ds : List PyData} {n : Nat} (h : EvL' A K H0 σ te ds) (g : EvD A K H0 σ tn (.int (n : Nat))) : EvL' A K H0 σ (tSl (rSlL K) te tNoPart (tPart tn)) (ds.take n) := fun H Q k q =>
  h H _ k fun l vs H1 k1 hl hv => g H1 _ (k.trans k1) fun u H2 k2 he => by
    cases he
    refine ⟨_, rfl, l, vs, rfl, SqL.of (k2.old _ _ hl (by simp)), fun p hp => ?_⟩
    refine q p _ _ ((k1.trans k2).new' hp) upd_same ?_
    have e : cutV vs none (some ((n : Nat) : Int)) = vs.take n := by
      unfold cutV
      rw [HT.sIx_none, HT.sIx_nat, List.drop_zero, Nat.sub_zero]
      exact List.take_eq_take_iff.mpr (by omega)
    rw [e]
    exact (hv.k0 (k2.new' hp)).take n
theorem evl_cat {te tf : TE} {ds es : List PyData} (h : EvL' A K H0 σ te ds) (g : EvL' A K H0 σ tf es) (hz : ds.length + es.length ≤ 100000) : EvL' A K H0 σ (tOp rCat te tf) (ds ++ es) := fun H Q k q =>
  h H _ k fun l vs H1 k1 hl hv => g H1 _ (k.trans k1) fun m us H2 k2 hm hu =>
    ⟨l, m, vs, us, rfl, rfl, k2.old _ _ hl (by simp), hm, by rw [hv.len, hu.len]; exact Nat.le_of_lt (w_lt hz), fun p hp => q p _ _ ((k1.trans k2).new' hp) upd_same ((hv.k0 (k2.new' hp)).append (hu.k0 (Kp.new hp)))⟩
theorem evd_tupE {te : TE} {ds : List PyData} (h : EvL' A K H0 σ te ds) : EvD A K H0 σ (tCB (fun xs H Q => ∃ p ys, xs = [.ref p] ∧ ((SqL K H p ys ∧ ∀ l, H l = none → Q (.ref l) (upd H l (.tup ys))) ∨ (SqT K H p ys ∧ Q (.ref p) H))) (tCons te tNil)) (.tuple ds) := fun H Q k q =>
  h H _ k fun l vs H1 k1 hl hv => ⟨l, vs, rfl, .inl ⟨SqL.of hl, fun p hp => q _ _ (k1.new' hp) (.tup (.inl (.inl upd_same)) (hv.k0 (Kp.new hp)))⟩⟩
theorem rd_asgE {te : TE} {ds : List PyData} {i : Nat} {D : Ends} {H : Hp} (ev : EvL' A K H σ te ds) (k : ∀ l us H1, Kp [] H H1 → H1 l = some (.lst us) → DxAll A K H1 us ds → D.nx (σ.set i (some (.ref l))) H1) : tAsg te (gName i) D σ H :=
  ev H _ Kp.refl fun l vs H' k1 hl hv => k l vs H' k1 hl hv
theorem rd_retE {te : TE} {ds : List PyData} {D : Ends} {H : Hp} (ev : EvL' A K H σ te ds) (k : ∀ l us H1, Kp [] H H1 → H1 l = some (.lst us) → DxAll A K H1 us ds → D.rt (.ref l) H1) : tRet te D σ H :=
  ev H _ Kp.refl fun l vs H' k1 hl hv => k l vs H' k1 hl hv
/-- comprehensions of texts and tuples of such -/
theorem lcP {J : It} {n : Nat} {G : Hp → Prop} {Y : Nat → Hp → V → Hp → Prop} {Dd : Addr} {H : Hp} {g : TG} {te : TE} {vs : List Nat} {Qd : Hp → Prop} (wk : Walk J n G Y) (ds : List PyData) (hn : ds.length = n) (pl : ∀ d ∈ ds, plainD d) (hD : H Dd = none) (hz : n ≤ 100000) (hG : ∀ H', Kp [] H H' → G H')
    (hs : ∀ i x d H' H'' (C : V → Hp → Prop), ds[i]? = some d → Kp [] H H' → Y i H' x H'' → (∀ y H4, Kp [] H' H4 → Dx A K H4 y d → C y H4) → g x (wipe σ vs) H'' fun σ2 H2 => wipe σ2 vs = wipe σ vs ∧ te σ2 H2 C)
    (hd : ∀ H' ys, Kp [] H H' → H' Dd = some (.lst ys) → DxAll A K H' ys ds → Qd H') :
    ∃ W : Nat → Nat → Hp → Prop, (∃ m, W 0 m (upd H Dd (.lst []))) ∧ ∀ i m H, W i m H → (J.stop i H ∧ Qd H) ∨ (J.go i H ∧ ∃ Nx : Hp → Prop, (∀ H', Nx H' → ∃ m', m' < m ∧ W (i + 1) m' H') ∧
      ∀ x H', J.yld i H x H' → g x (wipe σ vs) H' fun σ2 H2 => wipe σ2 vs = wipe σ vs ∧ tYes σ2 H2 fun b H3 => if b = true then te σ2 H3 fun y H4 => ∃ acc, H4 Dd = some (.lst acc) ∧ acc.length < sizeLine ∧ Nx (upd H4 Dd (.lst (acc ++ [y]))) else Nx H3) := by
  refine lcR (S := []) wk (fun i y H' => ∃ d, ds[i]? = some d ∧ Dx A K H' y d) (fun i y H1 H2 T kk ⟨d, e, h⟩ => ⟨d, e, Dx.plainK kk d y (pl d (List.mem_of_getElem? e)) h⟩) hD (by simp) (w_lt hz) hG ?_ ?_
  · intro i x H' H'' C hi kk y hC
    have hd' : ds[i]? = some ds[i] := List.getElem?_eq_getElem (by omega)
    exact hs i x _ H' H'' C hd' kk y fun y H4 k4 h4 => hC y H4 k4 ⟨_, hd', h4⟩
  · intro H' ys kk e hl hall
    refine hd H' ys kk e ?_
    have aux : ∀ (ds : List PyData) (ys : List V), ys.length = ds.length → (∀ (i : Nat) (y : V), ys[i]? = some y → ∃ d, ds[i]? = some d ∧ Dx A K H' y d) → DxAll A K H' ys ds := by
      intro ds
      induction ds with
      | nil =>
        intro ys hl _
        cases ys with
        | nil => exact .nil
        | cons _ _ => cases hl
      | cons d r ih =>
        intro ys hl ha
        cases ys with
        | nil => cases hl
        | cons y t =>
          obtain ⟨d0, e0, h0⟩ := ha 0 y rfl
          simp at e0
          subst e0
          exact .cons h0 (ih t (by simpa using hl) fun i z hz => by simpa using ha (i + 1) z (by simpa using hz))
    exact aux ds ys (by omega) hall
end
/-! ### comprehensions, read forward -/
section
variable {A : List Addr} {K : PySem.W.Frag} {H0 : Hp} {σ : L2.St}
def EvI (H0 : Hp) (σ : L2.St) (wi : TI) (n : Nat) (P : Nat → V → Prop) : Prop := ∀ (H : Hp) (Q : It → Hp → Prop), Kp [] H0 H → (∀ J G Y H1, Kp [] H H1 → Walk J n G Y → (∀ H', Kp [] H1 H' → G H') → (∀ i H' x H'', i < n → Y i H' x H'' → H'' = H' ∧ P i x) → Q J H1) → wi σ H Q
theorem evi_range {n : Nat} (h : n ≤ 1000) : EvI H0 σ (iRng1 (tCons (tC (.int (n : Nat))) tNil)) n fun i x => x = .int (i : Nat) := fun H Q _ q =>
  ⟨(n : Int), rfl, by omega, by omega, by
    rw [Int.toNat_natCast]
    refine q _ _ _ H Kp.refl walk_range (fun _ _ => trivial) fun i H' x H'' _ y => ?_
    obtain ⟨rfl, rfl⟩ := y
    exact ⟨rfl, by show V.int (0 + (i : Int)) = _; rw [Int.zero_add]⟩⟩
theorem evi_str {x : Str} : EvI H0 σ (iStr (tC (.str x))) x.cps.size fun i v => ∃ c, x.cps[i]? = some c ∧ v = .str ⟨#[c]⟩ := fun H Q _ q =>
  ⟨x, rfl, q _ _ _ H Kp.refl walk_str (fun _ _ => trivial) fun i H' v H'' _ y => y⟩
theorem evi_list {te : TE} {ws : List Str} (h : EvL' A K H0 σ te (ws.map .str)) : EvI H0 σ (iList K te) ws.length fun i v => ∃ w, ws[i]? = some w ∧ v = .str w := fun H Q k q =>
  h H _ k fun l vs H1 k1 hl hv => by
    have e : ∀ {ws : List Str} {vs : List V}, DxAll A K H1 vs (ws.map PyData.str) → vs = ws.map V.str := by
      intro ws
      induction ws with
      | nil => intro vs h; cases h; rfl
      | cons w r ih =>
        intro vs h
        cases h with
        | cons a b =>
          cases a
          rw [ih b]
          rfl
    have e2 := e hv
    subst e2
    refine ⟨l, rfl, ⟨_, SqL.of hl⟩, ?_⟩
    have wk := walk_list (K := K) (a := l) (xs := ws.map V.str)
    rw [List.length_map] at wk
    refine q _ _ _ H1 k1 wk (fun H' kk => SqL.of (kk.old _ _ hl (by simp))) fun i H' v H'' _ y => ?_
    obtain ⟨rfl, y⟩ := y
    rw [List.getElem?_map] at y
    obtain ⟨w, hw, rfl⟩ := Option.map_eq_some_iff.mp y
    exact ⟨rfl, w, hw, rfl⟩
theorem evl_lc {wi : TI} {g : TG} {te : TE} {own : List Nat} {ds : List PyData} {n : Nat} {P : Nat → V → Prop} (hi : EvI H0 σ wi n P) (hn : ds.length = n) (hz : n ≤ 1000) (pl : ∀ d ∈ ds, plainD d)
    (hs : ∀ i x d H', ds[i]? = some d → Kp [] H0 H' → P i x → ∀ C : V → Hp → Prop, (∀ y H4, Kp [] H' H4 → Dx A K H4 y d → C y H4) → g x (wipe σ own) H' fun σ2 H2 => wipe σ2 own = wipe σ own ∧ te σ2 H2 C) : EvL' A K H0 σ (tLc wi g tYes te own) ds := fun H Q k q =>
  hi H _ k fun J G Y H1 k1 wk hG hY D hD => by
    refine lcP (A := A) (K := K) wk ds hn pl hD (by omega) hG ?_ ?_
    · intro i x d H' H'' C hd kk y hC
      have il := (List.getElem?_eq_some_iff.mp hd).1
      obtain ⟨rfl, p⟩ := hY i H' x H'' (by omega) y
      exact hs i x d _ hd ((k.trans k1).trans kk) p C hC
    · intro H' ys kk e hall
      exact q D ys H' (k1.trans kk) e hall
theorem sq_E {te : TE} {ds : List PyData} {i : Nat} {u : TS} {D : Ends} {H : Hp} (ev : EvL' A K H σ te ds) (k : ∀ l us H1, Kp [] H H1 → H1 l = some (.lst us) → DxAll A K H1 us ds → u D (σ.set i (some (.ref l))) H1) : tSeq (tAsg te (gName i)) u D σ H :=
  ev H _ Kp.refl fun l vs H' k1 hl hv => k l vs H' k1 hl hv
theorem sq_D {te : TE} {d : PyData} {i : Nat} {u : TS} {D : Ends} {H : Hp} (ev : EvD A K H σ te d) (k : ∀ v H1, Kp [] H H1 → Dx A K H1 v d → u D (σ.set i (some v)) H1) : tSeq (tAsg te (gName i)) u D σ H := ev H _ Kp.refl k
end
abbrev rAddT : R2 := fun x y H Q => ∃ i j, x = .str i ∧ y = .str j ∧ i.length + j.length ≤ sizeLine ∧ Q (.str (i ++ j)) H
abbrev rTupOf (K : PySem.W.Frag) : List V → Hp → VK → Prop := fun xs H Q => ∃ p ys, xs = [.ref p] ∧ ((SqL K H p ys ∧ ∀ l, H l = none → Q (.ref l) (upd H l (.tup ys))) ∨ (SqT K H p ys ∧ Q (.ref p) H))
abbrev rIntOf : List V → Hp → VK → Prop := fun xs H Q => (∃ i, xs = [.int i] ∧ Q (.int i) H) ∨ ∃ k, xs = [.bl k] ∧ Q (.int (if k then 1 else 0)) H
end Md

namespace Md
open PySem PySem.Spec PyProof.Rows L2

theorem someW_len : ∀ x ∈ (["ka", "kb", "kc", "kd", "ke", "kf"] : List Str), x.length ≤ 10 := by decide +kernel
mutual
def plainB : PyData → Bool
  | .str _ => true
  | .tuple ds => plainBAll ds
  | _ => false
def plainBAll : List PyData → Bool
  | [] => true
  | d :: ds => plainB d && plainBAll ds
end
mutual
theorem plain_of : ∀ d : PyData, plainB d = true → plainD d
  | .str _, _ => by simp only [plainD]
  | .tuple ds, h => by
    rw [plainD]
    rw [plainB] at h
    exact plain_all ds h
  | .none, h => by simp only [plainB] at h; cases h
  | .bool _, h => by simp only [plainB] at h; cases h
  | .int _, h => by simp only [plainB] at h; cases h
  | .list _, h => by simp only [plainB] at h; cases h
  | .dict _, h => by simp only [plainB] at h; cases h
theorem plain_all : ∀ ds : List PyData, plainBAll ds = true → plainAll ds
  | [], _ => by rw [plainAll]; trivial
  | d :: r, h => by
    rw [plainBAll, Bool.and_eq_true] at h
    rw [plainAll]
    exact ⟨plain_of d h.1, plain_all r h.2⟩
end
theorem plain_list {ds : List PyData} (h : ds.all plainB = true) : ∀ d ∈ ds, plainD d := fun d hd => plain_of d (List.all_eq_true.mp h d hd)
/-! ### written things -/
def someW : List Str := ["ka", "kb", "kc", "kd", "ke", "kf"]
def rowWD (x : Str) : PyData := .tuple [.str x, .tuple [.tuple [.str ("m" ++ x), .tuple (List.replicate (Int.toNat 3) [.str x]).flatten], .tuple [.str ("n" ++ x), .tuple []]]]
def rowsD : List PyData := someW.map rowWD
def fourD : List PyData := (someW.take 4).map fun x => .tuple [.str ("m" ++ x), .tuple [.str "mark"]]
def isM (c : Nat) : Nat := if V.str ⟨#[c]⟩ = V.str "m" then 1 else 0
def signD (w : Str) (c : Nat) : PyData := .tuple [.str ((⟨#[c]⟩ : Str) ++ w), .tuple (List.replicate (isM c) [.str w, .str "mark"]).flatten]
def fullWD (w : Str) : PyData := .tuple [.str w, .tuple (("mnop" : Str).cps.toList.map (signD w))]
def fullD : List PyData := (someW.take 5).map fullWD
def full4D : List PyData := ("mnop" : Str).cps.toList.map (signD "ke")
def laterD : PyData := .tuple [.str "ka", .tuple [.tuple [.str "ma", .tuple []]]]
theorem ev_full {A : List Addr} {K : PySem.W.Frag} {H0 : Hp} {σ : L2.St} {lu : Addr} {uu : List V} {fD f4 : List PyData} (h5 : σ[5]? = some (some (.ref lu))) (efull : H0 lu = some (.lst uu)) (hfull : DxAll A K H0 uu fD) (full4 : fD[4]? = some (.tuple [.str "ke", .tuple f4])) (l1 : fD.length ≤ 100) (l2 : f4.length ≤ 100) :
    EvA A K H0 σ (tCons (tCB (rTupOf K) (tCons (tVar 5) tNil)) (tCons (tCB (rTupOf K) (tCons (tOp rCat (tSl (rSlL K) (tVar 5) tNoPart (tPart (tC (.int 4)))) (tLst (tCons (tTup (tCons (tC (.str "ke")) (tCons (tOp (rCatA K) (tOp (rIxT K) (tOp (rIxL K) (tVar 5) (tC (.int 4))) (tC (.int 1))) (tTup (tCons (tTup (tCons (tC (.str "qq")) (tCons (tTup tNil) tNil))) tNil))) tNil))) tNil))) tNil)) tNil))
      [.tuple fD, .tuple (fD.take 4 ++ [.tuple [.str "ke", .tuple (f4 ++ [.tuple [.str "qq", .tuple []]])]])] :=
  have e1 : EvD A K H0 σ (tOp (rIxT K) (tOp (rIxL K) (tVar 5) (tC (.int 4))) (tC (.int 1))) (.tuple f4) := evd_ixT (j := 1) (evd_ixL (j := 4) (i := 5) h5 efull hfull evd_int full4) evd_int rfl
  have e2 : EvD A K H0 σ (tTup (tCons (tC (.str "ke")) (tCons (tOp (rCatA K) (tOp (rIxT K) (tOp (rIxL K) (tVar 5) (tC (.int 4))) (tC (.int 1))) (tTup (tCons (tTup (tCons (tC (.str "qq")) (tCons (tTup tNil) tNil))) tNil))) tNil))) (.tuple [.str "ke", .tuple (f4 ++ [.tuple [.str "qq", .tuple []]])]) :=
    evd_tup (eva_cons evd_str (eva_cons (evd_catT e1 (evd_tup (eva_cons (evd_tup (eva_cons evd_str (eva_cons (evd_tup eva_nil (by simp)) eva_nil)) (by simp)) eva_nil) (by simp)) (by simp; omega)) eva_nil)) (by simp)
  have tl := List.length_take_le 4 fD
  eva_cons (evd_tupE (evl_var h5 efull hfull)) (eva_cons (evd_tupE (evl_cat (evl_take (n := 4) (evl_var h5 efull hfull) evd_int) (evl_lst (eva_cons e2 eva_nil) (by simp)) (by simp; omega))) eva_nil)
theorem isM_le (c : Nat) : isM c ≤ 1 := by unfold isM; split <;> omega
theorem plain_signs (w : Str) : ∀ d ∈ ("mnop" : Str).cps.toList.map (signD w), plainD d := by
  intro d hd
  obtain ⟨c, _, rfl⟩ := List.mem_map.mp hd
  unfold signD
  simp only [plainD, plainAll, true_and, and_true]
  refine plainAll_of fun e he => ?_
  obtain ⟨l, hl, he⟩ := List.mem_flatten.mp he
  obtain ⟨_, rfl⟩ := List.mem_replicate.mp hl
  rcases List.mem_cons.mp he with z | z
  · subst z; simp only [plainD]
  · have : e = .str "mark" := by simpa using z
    subst this
    simp only [plainD]
theorem fullD_len : fullD.length = 5 := by simp [fullD, someW]
theorem fullD_plain : ∀ d ∈ fullD, plainD d := by
  intro d hd
  obtain ⟨w, _, rfl⟩ := List.mem_map.mp hd
  unfold fullWD
  simp only [plainD, plainAll, true_and, and_true]
  exact plainAll_of (plain_signs w)
theorem full4_at : fullD[4]? = some (.tuple [.str "ke", .tuple full4D]) := by
  unfold fullD
  rw [List.getElem?_map]
  rfl
theorem evd_isM {A : List Addr} {K : PySem.W.Frag} {H0 : Hp} {σ : L2.St} {c i : Nat} (h : σ[i]? = some (some (.str ⟨#[c]⟩))) : EvD A K H0 σ (tCB rIntOf (tCons (tOp rEq (tVar i) (tC (.str "m"))) tNil)) (.int (isM c : Nat)) := fun H Q k q =>
  ⟨_, h, rfl, .inr ⟨_, rfl, by
    have e : (if decide (V.str ⟨#[c]⟩ = V.str "m") = true then (1 : Int) else 0) = ((isM c : Nat) : Int) := by
      unfold isM
      by_cases z : V.str ⟨#[c]⟩ = V.str "m"
      · rw [if_pos z, decide_eq_true z]; rfl
      · rw [if_neg z, decide_eq_false z]; rfl
    rw [e]
    exact q _ _ Kp.refl (.int _)⟩⟩
theorem ev_sign {A : List Addr} {K : PySem.W.Frag} {H0 : Hp} {σ : L2.St} {w0 : Str} {c : Nat} (h7 : σ[7]? = some (some (.str w0))) (h8 : σ[8]? = some (some (.str ⟨#[c]⟩))) (wl : w0.length ≤ 10) :
    EvD A K H0 σ (tTup (tCons (tOp rAddT (tVar 8) (tVar 7)) (tCons (tOp (rRep01 K) (tTup (tCons (tVar 7) (tCons (tC (.str "mark")) tNil))) (tCB rIntOf (tCons (tOp rEq (tVar 8) (tC (.str "m"))) tNil))) tNil))) (signD w0 c) :=
  have e1 : EvD A K H0 σ (tOp rAddT (tVar 8) (tVar 7)) (.str ((⟨#[c]⟩ : Str) ++ w0)) := evd_catS (evd_var (i := 8) h8 (.str _)) (evd_var (i := 7) h7 (.str _)) (by show 1 + w0.length ≤ _; omega)
  have e2 : EvD A K H0 σ (tTup (tCons (tVar 7) (tCons (tC (.str "mark")) tNil))) (.tuple [.str w0, .str "mark"]) := evd_tup (eva_cons (evd_var (i := 7) h7 (.str _)) (eva_cons evd_str eva_nil)) (by simp)
  evd_tup (eva_cons e1 (eva_cons (evd_rep01 e2 (evd_isM (c := c) (i := 8) h8) (by simp) (isM_le c)) eva_nil)) (by simp)
def wD0 : List PyData := [.tuple (rowsD.take 5), .tuple rowsD, .tuple [.tuple [.str "ka", .tuple fourD]], .tuple [.tuple [.str "ka", .tuple (fourD ++ [.tuple [.str "mm", .tuple []]])]], .tuple [.tuple [.str "ka", .tuple []]]]
def wD1 : List PyData := [.tuple [.tuple [.str "ka", .tuple [.tuple [.str "ma", .tuple (List.replicate (Int.toNat 4) [.str "mark"]).flatten], .tuple [.str "mb", .tuple []]]]], .tuple [.tuple [.str "ka", .tuple [.tuple [.str "ma", .tuple [.str "ka"]]]]], .tuple []]
def wD2 : List PyData := [.tuple [.tuple [.str "ka", .tuple [.tuple [.str "ma", .tuple [.str "kb"]]]], .tuple [.str "kb", .tuple [.tuple [.str "mb", .tuple [.str "ka"]]]]]]
def wD3 : List PyData := [.tuple [.tuple [.str "ka", .tuple [.tuple [.str "ma", .tuple [.str "kb"]]]], .tuple [.str "kb", .tuple [.tuple [.str "mb", .tuple [.str "ka"]], .tuple [.str "mc", .tuple []]]]]]
def wD4 : List PyData := [.tuple [.tuple [.str "ka", .tuple [.tuple [.str "ka", .tuple []]]]], .tuple [.tuple [.str "ka", .tuple [.tuple [.str "ma", .tuple []], .tuple [.str "ma", .tuple []]]]], .tuple [.tuple [.str "mark", .tuple [.tuple [.str "ma", .tuple []]]]]]
def wD5 : List PyData := [.tuple [.tuple [.str "ka", .tuple [.tuple [.str "ma", .tuple []]]], .tuple [.str "kb", .tuple [.tuple [.str "ma", .tuple []]]]], .tuple [.tuple [.str "ka", .tuple [.tuple [.str "same", .tuple []]]]]]
def wD6 : List PyData := [.tuple [.tuple [.str "ka", .tuple [.tuple [.str "ma", .tuple [.str "kz"]]]]], .tuple [.tuple [.str "ka", .tuple [.tuple [.str "ma", .tuple [.tuple []]]]]], .tuple [.tuple [.str "ka", .tuple [.tuple [.str "ma", .str "mark"]]]]]
def wD7 : List PyData := [.tuple [.tuple [.str "ka", .tuple [.tuple [.str "ma", .tuple []]]], .tuple [.str "ka", .tuple [.tuple [.str "mb", .tuple []]]]], .tuple [.tuple [.str "ka", .tuple [.tuple [.str "kb", .tuple []]]], .tuple [.str "kb", .tuple [.tuple [.str "mb", .tuple []]]]]]
def wD8 : List PyData := [.tuple [laterD, .tuple [.str "kb", .tuple fourD]], .tuple [laterD, .tuple [.str "kb", .tuple (fourD ++ [.tuple [.str "mm", .tuple []]])]]]
def wD9 : List PyData := [.tuple [laterD, .tuple [.str "kb", .tuple [.tuple [.str "mb", .tuple []], .tuple [.str "mc", .tuple (List.replicate (Int.toNat 4) [.str "ka"]).flatten]]]], .tuple [laterD, .tuple [.str "kb", .tuple [.tuple [.str "mb", .tuple []], .tuple [.str "mc", .tuple (List.replicate (Int.toNat 3) [.str "ka"]).flatten]]]]]
def wD10 : List PyData := [.tuple fullD, .tuple (fullD.take 4 ++ [.tuple [.str "ke", .tuple (full4D ++ [.tuple [.str "qq", .tuple []]])]])]
def wD11 : List PyData := [.none, .int 5, .bool true, .str "kinds", .dict [], .list [], .tuple [.none], .tuple [.tuple []], .tuple [.tuple [.str "ka"]], .tuple [.tuple [.str "ka", .int 5]], .tuple [.tuple [.str "ka", .tuple [.str "ma"]]]]
def writtenD : List PyData := (((((((((((wD0 ++ wD1) ++ wD2) ++ wD3) ++ wD4) ++ wD5) ++ wD6) ++ wD7) ++ wD8) ++ wD9) ++ wD10) ++ wD11)
theorem written_fit : ∀ d ∈ writtenD, Fit d := by
  have h : writtenD.all (fun d => gxB 30 d && decide (d.weight ≤ 50000)) = true := by decide +kernel
  intro d hd
  have := List.all_eq_true.mp h d hd
  rw [Bool.and_eq_true, decide_eq_true_eq] at this
  exact ⟨gx_of this.1, this.2⟩
section
variable {P : Program} {w : World} {K : PySem.W.Frag} {mg : Str → Option Value} {base : Heap} {aW : Addr}
def spWritten (K : PySem.W.Frag) : Sp := fun vs H Q _ => ∃ A : List Addr, vs = [] ∧ AvOk A H ∧ ∀ l us H', Kp [] H H' → H' l = some (.lst us) → DxAll A K H' us writtenD → Q (.ref l) H'
set_option maxHeartbeats 4000000 in
theorem c_law_written (T : Txt K mg aW) (F : At_law_written K mg) : C8.Cal P w K mg base 1 "_law_written" (spWritten K) [] := by
  refine F.cal sc_law_written (fun vs H Q E h => ?_) (fun f cdv A outer s H vs Q E hr h => ?_)
  · obtain ⟨A, rfl, _⟩ := h
    rfl
  · obtain ⟨A0, rfl, av0, k⟩ := h
    have nd := sc_law_written.nd
    have hu64 := h64 hr
    refine ⟨_, (pss_cons (ps_set (i := 0) nd rfl (by first | exact Or.inl rfl | exact Or.inr rfl) (pe_lst (pa_cons pe_str (pa_cons pe_str (pa_cons pe_str (pa_cons pe_str (pa_cons pe_str (pa_cons pe_str pa_nil))))))))
      (pss_cons (ps_setLc (i := 1) (own := [("k", 6)]) (te := tTup (tCons (tOp (rIxL K) (tVar 0) (tVar 6)) (tCons (tTup (tCons (tTup (tCons (tOp rAddT (tC (.str "m")) (tOp (rIxL K) (tVar 0) (tVar 6))) (tCons (tOp (rRepT K) (tTup (tCons (tOp (rIxL K) (tVar 0) (tVar 6)) tNil)) (tC (.int 3))) tNil))) (tCons (tTup (tCons (tOp rAddT (tC (.str "n")) (tOp (rIxL K) (tVar 0) (tVar 6))) (tCons (tTup tNil) tNil))) tNil))) tNil))) (g := (gName 6)) (tt := tYes) rfl nd rfl rfl (sw_true rfl rfl rfl (by decide +kernel)) (pi_range1 (by rfl) T.z_range (pa_cons pe_int pa_nil)) (blkOk_by (N := nn_law_written) (sc := defScope st_law_written) (own := [("k", 6)]) (by decide +kernel)) (fun _ _ _ _ _ => (pg_name (i := 6) nd rfl (by first | exact Or.inl rfl | exact Or.inr rfl))) (fun _ _ _ _ _ => pts_nil) (fun _ _ _ _ _ => (pe_tup (pa_cons (pe_ix ix_list (pv 0) (pv 6) (fun _ _ => rfl)) (pa_cons (pe_tup (pa_cons (pe_tup (pa_cons (pe_op op_add_str pe_str (pe_ix ix_list (pv 0) (pv 6) (fun _ _ => rfl))) (pa_cons (pe_op op_repT (pe_tup (pa_cons (pe_ix ix_list (pv 0) (pv 6) (fun _ _ => rfl)) pa_nil)) pe_int) pa_nil))) (pa_cons (pe_tup (pa_cons (pe_op op_add_str pe_str (pe_ix ix_list (pv 0) (pv 6) (fun _ _ => rfl))) (pa_cons (pe_tup pa_nil) pa_nil))) pa_nil))) pa_nil)))))
      (pss_cons (ps_set (i := 2) nd rfl (by first | exact Or.inl rfl | exact Or.inr rfl) (pe_callTy call_tuple_of (by rfl) T.z_tuple (by decide +kernel) (pa_cons (pe_lc (own := [("word", 7)]) (g := (gName 7)) (tt := tYes) rfl nd (pi_list (pe_slice sl_list (pv 0) po_none (po_some pe_int))) (blkOk_by (N := nn_law_written) (sc := defScope st_law_written) (own := [("word", 7)]) (by decide +kernel)) (fun _ _ _ _ _ => (pg_name (i := 7) nd rfl (by first | exact Or.inl rfl | exact Or.inr rfl))) (fun _ _ _ _ _ => pts_nil) (fun _ _ _ _ _ => (pe_tup (pa_cons (pe_op op_add_str pe_str (pv 7)) (pa_cons (pe_tup (pa_cons pe_str pa_nil)) pa_nil))))) pa_nil)))
      (pss_cons (ps_set (i := 3) nd rfl (by first | exact Or.inl rfl | exact Or.inr rfl) (pe_lst (pa_cons (pe_callTy call_tuple_of (by rfl) T.z_tuple (by decide +kernel) (pa_cons (pe_slice sl_list (pv 1) po_none (po_some pe_int)) pa_nil)) (pa_cons (pe_callTy call_tuple_of (by rfl) T.z_tuple (by decide +kernel) (pa_cons (pv 1) pa_nil)) (pa_cons (pe_tup (pa_cons (pe_tup (pa_cons pe_str (pa_cons (pv 2) pa_nil))) pa_nil)) (pa_cons (pe_tup (pa_cons (pe_tup (pa_cons pe_str (pa_cons (pe_op op_catA (pv 2) (pe_tup (pa_cons (pe_tup (pa_cons pe_str (pa_cons (pe_tup pa_nil) pa_nil))) pa_nil))) pa_nil))) pa_nil)) (pa_cons (pe_tup (pa_cons (pe_tup (pa_cons pe_str (pa_cons (pe_tup pa_nil) pa_nil))) pa_nil)) pa_nil)))))))
      (pss_cons (ps_set (i := 3) nd rfl (by first | exact Or.inl rfl | exact Or.inr rfl) (pe_op op_cat (pv 3) (pe_lst (pa_cons (pe_tup (pa_cons (pe_tup (pa_cons pe_str (pa_cons (pe_tup (pa_cons (pe_tup (pa_cons pe_str (pa_cons (pe_op op_repT (pe_tup (pa_cons pe_str pa_nil)) pe_int) pa_nil))) (pa_cons (pe_tup (pa_cons pe_str (pa_cons (pe_tup pa_nil) pa_nil))) pa_nil))) pa_nil))) pa_nil)) (pa_cons (pe_tup (pa_cons (pe_tup (pa_cons pe_str (pa_cons (pe_tup (pa_cons (pe_tup (pa_cons pe_str (pa_cons (pe_tup (pa_cons pe_str pa_nil)) pa_nil))) pa_nil)) pa_nil))) pa_nil)) (pa_cons (pe_tup pa_nil) pa_nil))))))
      (pss_cons (ps_set (i := 3) nd rfl (by first | exact Or.inl rfl | exact Or.inr rfl) (pe_op op_cat (pv 3) (pe_lst (pa_cons (pe_tup (pa_cons (pe_tup (pa_cons pe_str (pa_cons (pe_tup (pa_cons (pe_tup (pa_cons pe_str (pa_cons (pe_tup (pa_cons pe_str pa_nil)) pa_nil))) pa_nil)) pa_nil))) (pa_cons (pe_tup (pa_cons pe_str (pa_cons (pe_tup (pa_cons (pe_tup (pa_cons pe_str (pa_cons (pe_tup (pa_cons pe_str pa_nil)) pa_nil))) pa_nil)) pa_nil))) pa_nil))) pa_nil))))
      (pss_cons (ps_set (i := 3) nd rfl (by first | exact Or.inl rfl | exact Or.inr rfl) (pe_op op_cat (pv 3) (pe_lst (pa_cons (pe_tup (pa_cons (pe_tup (pa_cons pe_str (pa_cons (pe_tup (pa_cons (pe_tup (pa_cons pe_str (pa_cons (pe_tup (pa_cons pe_str pa_nil)) pa_nil))) pa_nil)) pa_nil))) (pa_cons (pe_tup (pa_cons pe_str (pa_cons (pe_tup (pa_cons (pe_tup (pa_cons pe_str (pa_cons (pe_tup (pa_cons pe_str pa_nil)) pa_nil))) (pa_cons (pe_tup (pa_cons pe_str (pa_cons (pe_tup pa_nil) pa_nil))) pa_nil))) pa_nil))) pa_nil))) pa_nil))))
      (pss_cons (ps_set (i := 3) nd rfl (by first | exact Or.inl rfl | exact Or.inr rfl) (pe_op op_cat (pv 3) (pe_lst (pa_cons (pe_tup (pa_cons (pe_tup (pa_cons pe_str (pa_cons (pe_tup (pa_cons (pe_tup (pa_cons pe_str (pa_cons (pe_tup pa_nil) pa_nil))) pa_nil)) pa_nil))) pa_nil)) (pa_cons (pe_tup (pa_cons (pe_tup (pa_cons pe_str (pa_cons (pe_tup (pa_cons (pe_tup (pa_cons pe_str (pa_cons (pe_tup pa_nil) pa_nil))) (pa_cons (pe_tup (pa_cons pe_str (pa_cons (pe_tup pa_nil) pa_nil))) pa_nil))) pa_nil))) pa_nil)) (pa_cons (pe_tup (pa_cons (pe_tup (pa_cons pe_str (pa_cons (pe_tup (pa_cons (pe_tup (pa_cons pe_str (pa_cons (pe_tup pa_nil) pa_nil))) pa_nil)) pa_nil))) pa_nil)) pa_nil))))))
      (pss_cons (ps_set (i := 3) nd rfl (by first | exact Or.inl rfl | exact Or.inr rfl) (pe_op op_cat (pv 3) (pe_lst (pa_cons (pe_tup (pa_cons (pe_tup (pa_cons pe_str (pa_cons (pe_tup (pa_cons (pe_tup (pa_cons pe_str (pa_cons (pe_tup pa_nil) pa_nil))) pa_nil)) pa_nil))) (pa_cons (pe_tup (pa_cons pe_str (pa_cons (pe_tup (pa_cons (pe_tup (pa_cons pe_str (pa_cons (pe_tup pa_nil) pa_nil))) pa_nil)) pa_nil))) pa_nil))) (pa_cons (pe_tup (pa_cons (pe_tup (pa_cons pe_str (pa_cons (pe_tup (pa_cons (pe_tup (pa_cons pe_str (pa_cons (pe_tup pa_nil) pa_nil))) pa_nil)) pa_nil))) pa_nil)) pa_nil)))))
      (pss_cons (ps_set (i := 3) nd rfl (by first | exact Or.inl rfl | exact Or.inr rfl) (pe_op op_cat (pv 3) (pe_lst (pa_cons (pe_tup (pa_cons (pe_tup (pa_cons pe_str (pa_cons (pe_tup (pa_cons (pe_tup (pa_cons pe_str (pa_cons (pe_tup (pa_cons pe_str pa_nil)) pa_nil))) pa_nil)) pa_nil))) pa_nil)) (pa_cons (pe_tup (pa_cons (pe_tup (pa_cons pe_str (pa_cons (pe_tup (pa_cons (pe_tup (pa_cons pe_str (pa_cons (pe_tup (pa_cons (pe_tup pa_nil) pa_nil)) pa_nil))) pa_nil)) pa_nil))) pa_nil)) (pa_cons (pe_tup (pa_cons (pe_tup (pa_cons pe_str (pa_cons (pe_tup (pa_cons (pe_tup (pa_cons pe_str (pa_cons pe_str pa_nil))) pa_nil)) pa_nil))) pa_nil)) pa_nil))))))
      (pss_cons (ps_set (i := 3) nd rfl (by first | exact Or.inl rfl | exact Or.inr rfl) (pe_op op_cat (pv 3) (pe_lst (pa_cons (pe_tup (pa_cons (pe_tup (pa_cons pe_str (pa_cons (pe_tup (pa_cons (pe_tup (pa_cons pe_str (pa_cons (pe_tup pa_nil) pa_nil))) pa_nil)) pa_nil))) (pa_cons (pe_tup (pa_cons pe_str (pa_cons (pe_tup (pa_cons (pe_tup (pa_cons pe_str (pa_cons (pe_tup pa_nil) pa_nil))) pa_nil)) pa_nil))) pa_nil))) (pa_cons (pe_tup (pa_cons (pe_tup (pa_cons pe_str (pa_cons (pe_tup (pa_cons (pe_tup (pa_cons pe_str (pa_cons (pe_tup pa_nil) pa_nil))) pa_nil)) pa_nil))) (pa_cons (pe_tup (pa_cons pe_str (pa_cons (pe_tup (pa_cons (pe_tup (pa_cons pe_str (pa_cons (pe_tup pa_nil) pa_nil))) pa_nil)) pa_nil))) pa_nil))) pa_nil)))))
      (pss_cons (ps_set (i := 4) nd rfl (by first | exact Or.inl rfl | exact Or.inr rfl) (pe_tup (pa_cons pe_str (pa_cons (pe_tup (pa_cons (pe_tup (pa_cons pe_str (pa_cons (pe_tup pa_nil) pa_nil))) pa_nil)) pa_nil))))
      (pss_cons (ps_set (i := 3) nd rfl (by first | exact Or.inl rfl | exact Or.inr rfl) (pe_op op_cat (pv 3) (pe_lst (pa_cons (pe_tup (pa_cons (pv 4) (pa_cons (pe_tup (pa_cons pe_str (pa_cons (pv 2) pa_nil))) pa_nil))) (pa_cons (pe_tup (pa_cons (pv 4) (pa_cons (pe_tup (pa_cons pe_str (pa_cons (pe_op op_catA (pv 2) (pe_tup (pa_cons (pe_tup (pa_cons pe_str (pa_cons (pe_tup pa_nil) pa_nil))) pa_nil))) pa_nil))) pa_nil))) pa_nil)))))
      (pss_cons (ps_set (i := 3) nd rfl (by first | exact Or.inl rfl | exact Or.inr rfl) (pe_op op_cat (pv 3) (pe_lst (pa_cons (pe_tup (pa_cons (pv 4) (pa_cons (pe_tup (pa_cons pe_str (pa_cons (pe_tup (pa_cons (pe_tup (pa_cons pe_str (pa_cons (pe_tup pa_nil) pa_nil))) (pa_cons (pe_tup (pa_cons pe_str (pa_cons (pe_op op_repT (pe_tup (pa_cons pe_str pa_nil)) pe_int) pa_nil))) pa_nil))) pa_nil))) pa_nil))) (pa_cons (pe_tup (pa_cons (pv 4) (pa_cons (pe_tup (pa_cons pe_str (pa_cons (pe_tup (pa_cons (pe_tup (pa_cons pe_str (pa_cons (pe_tup pa_nil) pa_nil))) (pa_cons (pe_tup (pa_cons pe_str (pa_cons (pe_op op_repT (pe_tup (pa_cons pe_str pa_nil)) pe_int) pa_nil))) pa_nil))) pa_nil))) pa_nil))) pa_nil)))))
      (pss_cons (ps_setLc (i := 5) (own := [("word", 7)]) (te := tTup (tCons (tVar 7) (tCons (tCB (rTupOf K) (tCons (tLc (iStr (tC (.str "mnop"))) (gName 8) tYes (tTup (tCons (tOp rAddT (tVar 8) (tVar 7)) (tCons (tOp (rRep01 K) (tTup (tCons (tVar 7) (tCons (tC (.str "mark")) tNil))) (tCB rIntOf (tCons (tOp rEq (tVar 8) (tC (.str "m"))) tNil))) tNil))) [8]) tNil)) tNil))) (g := (gName 7)) (tt := tYes) rfl nd rfl rfl (sw_true rfl rfl rfl (by decide +kernel)) (pi_list (pe_slice sl_list (pv 0) po_none (po_some pe_int))) (blkOk_by (N := nn_law_written) (sc := defScope st_law_written) (own := [("word", 7)]) (by decide +kernel)) (fun _ _ _ _ _ => (pg_name (i := 7) nd rfl (by first | exact Or.inl rfl | exact Or.inr rfl))) (fun _ _ _ _ _ => pts_nil) (fun _ _ _ _ _ => (pe_tup (pa_cons (pv 7) (pa_cons (pe_callTy call_tuple_of (by rfl) T.z_tuple (by decide +kernel) (pa_cons (pe_lc (own := [("sign", 8)]) (te := tTup (tCons (tOp rAddT (tVar 8) (tVar 7)) (tCons (tOp (rRep01 K) (tTup (tCons (tVar 7) (tCons (tC (.str "mark")) tNil))) (tCB rIntOf (tCons (tOp rEq (tVar 8) (tC (.str "m"))) tNil))) tNil))) (g := (gName 8)) (tt := tYes) rfl nd (pi_str pe_str) (blkOk_by (N := nn_law_written) (own := [("sign", 8)]) (by rfl)) (fun _ _ _ _ _ => (pg_name (i := 8) nd rfl (by first | exact Or.inl rfl | exact Or.inr rfl))) (fun _ _ _ _ _ => pts_nil) (fun _ _ _ _ _ => (pe_tup (pa_cons (pe_op op_add_str (pv 8) (pv 7)) (pa_cons (pe_op op_rep01 (pe_tup (pa_cons (pv 7) (pa_cons pe_str pa_nil))) (pe_callTy call_int1 (by rfl) T.z_int (by decide +kernel) (pa_cons (pe_cmpR op_eq (pv 8) pe_str (nomark _)) pa_nil))) pa_nil))))) pa_nil)) pa_nil)))))
      (pss_cons (ps_set (i := 3) nd rfl (by first | exact Or.inl rfl | exact Or.inr rfl) (pe_op op_cat (pv 3) (pe_lst (pa_cons (pe_callTy call_tuple_of (by rfl) T.z_tuple (by decide +kernel) (pa_cons (pv 5) pa_nil)) (pa_cons (pe_callTy call_tuple_of (by rfl) T.z_tuple (by decide +kernel) (pa_cons (pe_op op_cat (pe_slice sl_list (pv 5) po_none (po_some pe_int)) (pe_lst (pa_cons (pe_tup (pa_cons pe_str (pa_cons (pe_op op_catA (pe_ix ix_tup (pe_ix ix_list (pv 5) pe_int (fun _ _ => rfl)) pe_int (fun _ _ => rfl)) (pe_tup (pa_cons (pe_tup (pa_cons pe_str (pa_cons (pe_tup pa_nil) pa_nil))) pa_nil))) pa_nil))) pa_nil))) pa_nil)) pa_nil)))))
      (pss_one (ps_ret (pe_op op_cat (pv 3) (pe_lst (pa_cons pe_non (pa_cons pe_int (pa_cons pe_bl (pa_cons pe_str (pa_cons pe_dnewN (pa_cons (pe_lstN pa_nil) (pa_cons (pe_tup (pa_cons pe_non pa_nil)) (pa_cons (pe_tup (pa_cons (pe_tup pa_nil) pa_nil)) (pa_cons (pe_tup (pa_cons (pe_tup (pa_cons pe_str pa_nil)) pa_nil)) (pa_cons (pe_tup (pa_cons (pe_tup (pa_cons pe_str (pa_cons pe_int pa_nil))) pa_nil)) (pa_cons (pe_tup (pa_cons (pe_tup (pa_cons pe_str (pa_cons (pe_tup (pa_cons pe_str pa_nil)) pa_nil))) pa_nil)) pa_nil))))))))))))))))))))))))))))))), ?_⟩
    have av := av0
    have K0 : Kp [] H H := Kp.refl
    refine sq_E (A := A0) (K := K) (ds := someW.map .str) (evl_lst (eva_cons evd_str (eva_cons evd_str (eva_cons evd_str (eva_cons evd_str (eva_cons evd_str (eva_cons evd_str eva_nil)))))) (by decide +kernel)) fun l0 u0 H1 k1 esome hsome => ?_
    have av := av.kp k1 (by simp)
    have K0 := K0.trans k1
    refine sq_E (A := A0) (K := K) (ds := rowsD) (evl_lc (evi_range (n := 6) (by decide)) (by decide +kernel) (by decide) (plain_list (by decide +kernel)) fun i x d H' hd kk hx C hC => ?_) fun lr ur H2 k2 erows hrows => ?_
    · subst hx
      have hw := hd
      unfold rowsD at hw
      rw [List.getElem?_map] at hw
      obtain ⟨w0, hw0, rfl⟩ := Option.map_eq_some_iff.mp hw
      have ew : (someW.map PyData.str)[i]? = some (.str w0) := by rw [List.getElem?_map, hw0]; rfl
      have wl := someW_len w0 (List.mem_of_getElem? hw0)
      have es := kk.old _ _ esome (by simp)
      have hs := hsome.k0 kk
      have evw : EvD A0 K H' _ (tOp (rIxL K) (tVar 0) (tVar 6)) (.str w0) := evd_ixL (σ := [some (.ref l0), none, none, none, none, none, some (.int (i : Nat)), none, none]) (i := 0) rfl es hs (evd_var (i := 6) rfl (.int _)) ew
      refine ⟨rfl, ev_run (A := A0) (d := rowWD w0) (evd_tup (eva_cons evw (eva_cons (evd_tup (eva_cons (evd_tup (eva_cons (evd_catS evd_str evw (by show 1 + w0.length ≤ _; omega)) (eva_cons (evd_rep (evd_tup (eva_cons evw eva_nil) (by simp)) (by simp) (by decide) (by decide) (by simp)) eva_nil)) (by simp))
        (eva_cons (evd_tup (eva_cons (evd_catS evd_str evw (by show 1 + w0.length ≤ _; omega)) (eva_cons (evd_tup eva_nil (by simp)) eva_nil)) (by simp)) eva_nil)) (by simp)) eva_nil)) (by simp)) hC⟩
    have esome := k2.old _ _ esome (by simp)
    have hsome := hsome.k0 k2
    have av := av.kp k2 (by simp)
    have K0 := K0.trans k2
    refine sq_D (A := A0) (K := K) (d := .tuple fourD) (evd_tupE (evl_lc (evi_list (ws := someW.take 4) (evl_take (n := 4) (evl_var (i := 0) rfl esome hsome) evd_int)) (by decide +kernel) (by decide) (plain_list (by decide +kernel)) fun i x d H' hd kk hx C hC => ?_)) fun vf H3 k3 hfour => ?_
    · obtain ⟨w0, hw0, rfl⟩ := hx
      unfold fourD at hd
      rw [List.getElem?_map, hw0] at hd
      obtain rfl := Option.some.inj hd
      have wl := someW_len w0 (List.mem_of_mem_take (List.mem_of_getElem? hw0))
      refine ⟨rfl, ev_run (A := A0) (evd_tup (eva_cons (evd_catS evd_str (evd_var (i := 7) rfl (.str _)) (by show 1 + w0.length ≤ _; omega)) (eva_cons (evd_tup (eva_cons evd_str eva_nil) (by simp)) eva_nil)) (by simp)) hC⟩
    have esome := k3.old _ _ esome (by simp)
    have hsome := hsome.k0 k3
    have erows := k3.old _ _ erows (by simp)
    have hrows := hrows.k0 k3
    have av := av.kp k3 (by simp)
    have K0 := K0.trans k3
    refine sq_E (A := A0) (K := K) (ds := wD0) (evl_lst (eva_cons (evd_tupE (evl_take (evl_var (i := 1) rfl erows hrows) evd_int)) (eva_cons (evd_tupE (evl_var (i := 1) rfl erows hrows)) (eva_cons (evd_tup (eva_cons (evd_tup (eva_cons evd_str (eva_cons (evd_var (i := 2) rfl hfour) eva_nil)) (by decide +kernel)) eva_nil) (by decide +kernel)) (eva_cons (evd_tup (eva_cons (evd_tup (eva_cons evd_str (eva_cons (evd_catT (evd_var (i := 2) rfl hfour) (evd_tup (eva_cons (evd_tup (eva_cons evd_str (eva_cons (evd_tup eva_nil (by decide +kernel)) eva_nil)) (by decide +kernel)) eva_nil) (by decide +kernel)) (by decide +kernel)) eva_nil)) (by decide +kernel)) eva_nil) (by decide +kernel)) (eva_cons (evd_tup (eva_cons (evd_tup (eva_cons evd_str (eva_cons (evd_tup eva_nil (by decide +kernel)) eva_nil)) (by decide +kernel)) eva_nil) (by decide +kernel)) eva_nil))))) (by decide +kernel)) fun lf0 uf0 Hf0 kf0 efound hfound => ?_
    have esome := kf0.old _ _ esome (by simp)
    have hsome := hsome.k0 kf0
    have erows := kf0.old _ _ erows (by simp)
    have hrows := hrows.k0 kf0
    have hfour := hfour.k0 kf0
    have av := av.kp kf0 (by simp)
    have K0 := K0.trans kf0
    refine sq_E (A := A0) (K := K) (ds := (wD0 ++ wD1)) (evl_cat (evl_var (i := 3) rfl efound hfound) (evl_lst (ds := wD1) (eva_cons (evd_tup (eva_cons (evd_tup (eva_cons evd_str (eva_cons (evd_tup (eva_cons (evd_tup (eva_cons evd_str (eva_cons (evd_rep (evd_tup (eva_cons evd_str eva_nil) (by decide +kernel)) (by simp) (by decide) (by decide) (by decide)) eva_nil)) (by decide +kernel)) (eva_cons (evd_tup (eva_cons evd_str (eva_cons (evd_tup eva_nil (by decide +kernel)) eva_nil)) (by decide +kernel)) eva_nil)) (by decide +kernel)) eva_nil)) (by decide +kernel)) eva_nil) (by decide +kernel)) (eva_cons (evd_tup (eva_cons (evd_tup (eva_cons evd_str (eva_cons (evd_tup (eva_cons (evd_tup (eva_cons evd_str (eva_cons (evd_tup (eva_cons evd_str eva_nil) (by decide +kernel)) eva_nil)) (by decide +kernel)) eva_nil) (by decide +kernel)) eva_nil)) (by decide +kernel)) eva_nil) (by decide +kernel)) (eva_cons (evd_tup eva_nil (by decide +kernel)) eva_nil))) (by decide +kernel)) (by decide +kernel)) fun lf1 uf1 Hf1 kf1 efound2 hfound2 => ?_
    have esome := kf1.old _ _ esome (by simp)
    have hsome := hsome.k0 kf1
    have erows := kf1.old _ _ erows (by simp)
    have hrows := hrows.k0 kf1
    have hfour := hfour.k0 kf1
    have av := av.kp kf1 (by simp)
    have K0 := K0.trans kf1
    clear efound hfound; have efound := efound2; have hfound := hfound2; clear efound2 hfound2
    refine sq_E (A := A0) (K := K) (ds := ((wD0 ++ wD1) ++ wD2)) (evl_cat (evl_var (i := 3) rfl efound hfound) (evl_lst (ds := wD2) (eva_cons (evd_tup (eva_cons (evd_tup (eva_cons evd_str (eva_cons (evd_tup (eva_cons (evd_tup (eva_cons evd_str (eva_cons (evd_tup (eva_cons evd_str eva_nil) (by decide +kernel)) eva_nil)) (by decide +kernel)) eva_nil) (by decide +kernel)) eva_nil)) (by decide +kernel)) (eva_cons (evd_tup (eva_cons evd_str (eva_cons (evd_tup (eva_cons (evd_tup (eva_cons evd_str (eva_cons (evd_tup (eva_cons evd_str eva_nil) (by decide +kernel)) eva_nil)) (by decide +kernel)) eva_nil) (by decide +kernel)) eva_nil)) (by decide +kernel)) eva_nil)) (by decide +kernel)) eva_nil) (by decide +kernel)) (by decide +kernel)) fun lf2 uf2 Hf2 kf2 efound2 hfound2 => ?_
    have esome := kf2.old _ _ esome (by simp)
    have hsome := hsome.k0 kf2
    have erows := kf2.old _ _ erows (by simp)
    have hrows := hrows.k0 kf2
    have hfour := hfour.k0 kf2
    have av := av.kp kf2 (by simp)
    have K0 := K0.trans kf2
    clear efound hfound; have efound := efound2; have hfound := hfound2; clear efound2 hfound2
    refine sq_E (A := A0) (K := K) (ds := (((wD0 ++ wD1) ++ wD2) ++ wD3)) (evl_cat (evl_var (i := 3) rfl efound hfound) (evl_lst (ds := wD3) (eva_cons (evd_tup (eva_cons (evd_tup (eva_cons evd_str (eva_cons (evd_tup (eva_cons (evd_tup (eva_cons evd_str (eva_cons (evd_tup (eva_cons evd_str eva_nil) (by decide +kernel)) eva_nil)) (by decide +kernel)) eva_nil) (by decide +kernel)) eva_nil)) (by decide +kernel)) (eva_cons (evd_tup (eva_cons evd_str (eva_cons (evd_tup (eva_cons (evd_tup (eva_cons evd_str (eva_cons (evd_tup (eva_cons evd_str eva_nil) (by decide +kernel)) eva_nil)) (by decide +kernel)) (eva_cons (evd_tup (eva_cons evd_str (eva_cons (evd_tup eva_nil (by decide +kernel)) eva_nil)) (by decide +kernel)) eva_nil)) (by decide +kernel)) eva_nil)) (by decide +kernel)) eva_nil)) (by decide +kernel)) eva_nil) (by decide +kernel)) (by decide +kernel)) fun lf3 uf3 Hf3 kf3 efound2 hfound2 => ?_
    have esome := kf3.old _ _ esome (by simp)
    have hsome := hsome.k0 kf3
    have erows := kf3.old _ _ erows (by simp)
    have hrows := hrows.k0 kf3
    have hfour := hfour.k0 kf3
    have av := av.kp kf3 (by simp)
    have K0 := K0.trans kf3
    clear efound hfound; have efound := efound2; have hfound := hfound2; clear efound2 hfound2
    refine sq_E (A := A0) (K := K) (ds := ((((wD0 ++ wD1) ++ wD2) ++ wD3) ++ wD4)) (evl_cat (evl_var (i := 3) rfl efound hfound) (evl_lst (ds := wD4) (eva_cons (evd_tup (eva_cons (evd_tup (eva_cons evd_str (eva_cons (evd_tup (eva_cons (evd_tup (eva_cons evd_str (eva_cons (evd_tup eva_nil (by decide +kernel)) eva_nil)) (by decide +kernel)) eva_nil) (by decide +kernel)) eva_nil)) (by decide +kernel)) eva_nil) (by decide +kernel)) (eva_cons (evd_tup (eva_cons (evd_tup (eva_cons evd_str (eva_cons (evd_tup (eva_cons (evd_tup (eva_cons evd_str (eva_cons (evd_tup eva_nil (by decide +kernel)) eva_nil)) (by decide +kernel)) (eva_cons (evd_tup (eva_cons evd_str (eva_cons (evd_tup eva_nil (by decide +kernel)) eva_nil)) (by decide +kernel)) eva_nil)) (by decide +kernel)) eva_nil)) (by decide +kernel)) eva_nil) (by decide +kernel)) (eva_cons (evd_tup (eva_cons (evd_tup (eva_cons evd_str (eva_cons (evd_tup (eva_cons (evd_tup (eva_cons evd_str (eva_cons (evd_tup eva_nil (by decide +kernel)) eva_nil)) (by decide +kernel)) eva_nil) (by decide +kernel)) eva_nil)) (by decide +kernel)) eva_nil) (by decide +kernel)) eva_nil))) (by decide +kernel)) (by decide +kernel)) fun lf4 uf4 Hf4 kf4 efound2 hfound2 => ?_
    have esome := kf4.old _ _ esome (by simp)
    have hsome := hsome.k0 kf4
    have erows := kf4.old _ _ erows (by simp)
    have hrows := hrows.k0 kf4
    have hfour := hfour.k0 kf4
    have av := av.kp kf4 (by simp)
    have K0 := K0.trans kf4
    clear efound hfound; have efound := efound2; have hfound := hfound2; clear efound2 hfound2
    refine sq_E (A := A0) (K := K) (ds := (((((wD0 ++ wD1) ++ wD2) ++ wD3) ++ wD4) ++ wD5)) (evl_cat (evl_var (i := 3) rfl efound hfound) (evl_lst (ds := wD5) (eva_cons (evd_tup (eva_cons (evd_tup (eva_cons evd_str (eva_cons (evd_tup (eva_cons (evd_tup (eva_cons evd_str (eva_cons (evd_tup eva_nil (by decide +kernel)) eva_nil)) (by decide +kernel)) eva_nil) (by decide +kernel)) eva_nil)) (by decide +kernel)) (eva_cons (evd_tup (eva_cons evd_str (eva_cons (evd_tup (eva_cons (evd_tup (eva_cons evd_str (eva_cons (evd_tup eva_nil (by decide +kernel)) eva_nil)) (by decide +kernel)) eva_nil) (by decide +kernel)) eva_nil)) (by decide +kernel)) eva_nil)) (by decide +kernel)) (eva_cons (evd_tup (eva_cons (evd_tup (eva_cons evd_str (eva_cons (evd_tup (eva_cons (evd_tup (eva_cons evd_str (eva_cons (evd_tup eva_nil (by decide +kernel)) eva_nil)) (by decide +kernel)) eva_nil) (by decide +kernel)) eva_nil)) (by decide +kernel)) eva_nil) (by decide +kernel)) eva_nil)) (by decide +kernel)) (by decide +kernel)) fun lf5 uf5 Hf5 kf5 efound2 hfound2 => ?_
    have esome := kf5.old _ _ esome (by simp)
    have hsome := hsome.k0 kf5
    have erows := kf5.old _ _ erows (by simp)
    have hrows := hrows.k0 kf5
    have hfour := hfour.k0 kf5
    have av := av.kp kf5 (by simp)
    have K0 := K0.trans kf5
    clear efound hfound; have efound := efound2; have hfound := hfound2; clear efound2 hfound2
    refine sq_E (A := A0) (K := K) (ds := ((((((wD0 ++ wD1) ++ wD2) ++ wD3) ++ wD4) ++ wD5) ++ wD6)) (evl_cat (evl_var (i := 3) rfl efound hfound) (evl_lst (ds := wD6) (eva_cons (evd_tup (eva_cons (evd_tup (eva_cons evd_str (eva_cons (evd_tup (eva_cons (evd_tup (eva_cons evd_str (eva_cons (evd_tup (eva_cons evd_str eva_nil) (by decide +kernel)) eva_nil)) (by decide +kernel)) eva_nil) (by decide +kernel)) eva_nil)) (by decide +kernel)) eva_nil) (by decide +kernel)) (eva_cons (evd_tup (eva_cons (evd_tup (eva_cons evd_str (eva_cons (evd_tup (eva_cons (evd_tup (eva_cons evd_str (eva_cons (evd_tup (eva_cons (evd_tup eva_nil (by decide +kernel)) eva_nil) (by decide +kernel)) eva_nil)) (by decide +kernel)) eva_nil) (by decide +kernel)) eva_nil)) (by decide +kernel)) eva_nil) (by decide +kernel)) (eva_cons (evd_tup (eva_cons (evd_tup (eva_cons evd_str (eva_cons (evd_tup (eva_cons (evd_tup (eva_cons evd_str (eva_cons evd_str eva_nil)) (by decide +kernel)) eva_nil) (by decide +kernel)) eva_nil)) (by decide +kernel)) eva_nil) (by decide +kernel)) eva_nil))) (by decide +kernel)) (by decide +kernel)) fun lf6 uf6 Hf6 kf6 efound2 hfound2 => ?_
    have esome := kf6.old _ _ esome (by simp)
    have hsome := hsome.k0 kf6
    have erows := kf6.old _ _ erows (by simp)
    have hrows := hrows.k0 kf6
    have hfour := hfour.k0 kf6
    have av := av.kp kf6 (by simp)
    have K0 := K0.trans kf6
    clear efound hfound; have efound := efound2; have hfound := hfound2; clear efound2 hfound2
    refine sq_E (A := A0) (K := K) (ds := (((((((wD0 ++ wD1) ++ wD2) ++ wD3) ++ wD4) ++ wD5) ++ wD6) ++ wD7)) (evl_cat (evl_var (i := 3) rfl efound hfound) (evl_lst (ds := wD7) (eva_cons (evd_tup (eva_cons (evd_tup (eva_cons evd_str (eva_cons (evd_tup (eva_cons (evd_tup (eva_cons evd_str (eva_cons (evd_tup eva_nil (by decide +kernel)) eva_nil)) (by decide +kernel)) eva_nil) (by decide +kernel)) eva_nil)) (by decide +kernel)) (eva_cons (evd_tup (eva_cons evd_str (eva_cons (evd_tup (eva_cons (evd_tup (eva_cons evd_str (eva_cons (evd_tup eva_nil (by decide +kernel)) eva_nil)) (by decide +kernel)) eva_nil) (by decide +kernel)) eva_nil)) (by decide +kernel)) eva_nil)) (by decide +kernel)) (eva_cons (evd_tup (eva_cons (evd_tup (eva_cons evd_str (eva_cons (evd_tup (eva_cons (evd_tup (eva_cons evd_str (eva_cons (evd_tup eva_nil (by decide +kernel)) eva_nil)) (by decide +kernel)) eva_nil) (by decide +kernel)) eva_nil)) (by decide +kernel)) (eva_cons (evd_tup (eva_cons evd_str (eva_cons (evd_tup (eva_cons (evd_tup (eva_cons evd_str (eva_cons (evd_tup eva_nil (by decide +kernel)) eva_nil)) (by decide +kernel)) eva_nil) (by decide +kernel)) eva_nil)) (by decide +kernel)) eva_nil)) (by decide +kernel)) eva_nil)) (by decide +kernel)) (by decide +kernel)) fun lf7 uf7 Hf7 kf7 efound2 hfound2 => ?_
    have esome := kf7.old _ _ esome (by simp)
    have hsome := hsome.k0 kf7
    have erows := kf7.old _ _ erows (by simp)
    have hrows := hrows.k0 kf7
    have hfour := hfour.k0 kf7
    have av := av.kp kf7 (by simp)
    have K0 := K0.trans kf7
    clear efound hfound; have efound := efound2; have hfound := hfound2; clear efound2 hfound2
    refine sq_D (A := A0) (K := K) (d := laterD) (evd_tup (eva_cons evd_str (eva_cons (evd_tup (eva_cons (evd_tup (eva_cons evd_str (eva_cons (evd_tup eva_nil (by decide +kernel)) eva_nil)) (by decide +kernel)) eva_nil) (by decide +kernel)) eva_nil)) (by decide +kernel)) fun vl H4 k4 hlater => ?_
    have esome := k4.old _ _ esome (by simp)
    have hsome := hsome.k0 k4
    have erows := k4.old _ _ erows (by simp)
    have hrows := hrows.k0 k4
    have hfour := hfour.k0 k4
    have efound := k4.old _ _ efound (by simp)
    have hfound := hfound.k0 k4
    have av := av.kp k4 (by simp)
    have K0 := K0.trans k4
    refine sq_E (A := A0) (K := K) (ds := ((((((((wD0 ++ wD1) ++ wD2) ++ wD3) ++ wD4) ++ wD5) ++ wD6) ++ wD7) ++ wD8)) (evl_cat (evl_var (i := 3) rfl efound hfound) (evl_lst (ds := wD8) (eva_cons (evd_tup (eva_cons (evd_var (i := 4) rfl hlater) (eva_cons (evd_tup (eva_cons evd_str (eva_cons (evd_var (i := 2) rfl hfour) eva_nil)) (by decide +kernel)) eva_nil)) (by decide +kernel)) (eva_cons (evd_tup (eva_cons (evd_var (i := 4) rfl hlater) (eva_cons (evd_tup (eva_cons evd_str (eva_cons (evd_catT (evd_var (i := 2) rfl hfour) (evd_tup (eva_cons (evd_tup (eva_cons evd_str (eva_cons (evd_tup eva_nil (by decide +kernel)) eva_nil)) (by decide +kernel)) eva_nil) (by decide +kernel)) (by decide +kernel)) eva_nil)) (by decide +kernel)) eva_nil)) (by decide +kernel)) eva_nil)) (by decide +kernel)) (by decide +kernel)) fun lf8 uf8 Hf8 kf8 efound2 hfound2 => ?_
    have esome := kf8.old _ _ esome (by simp)
    have hsome := hsome.k0 kf8
    have erows := kf8.old _ _ erows (by simp)
    have hrows := hrows.k0 kf8
    have hfour := hfour.k0 kf8
    have hlater := hlater.k0 kf8
    have av := av.kp kf8 (by simp)
    have K0 := K0.trans kf8
    clear efound hfound; have efound := efound2; have hfound := hfound2; clear efound2 hfound2
    refine sq_E (A := A0) (K := K) (ds := (((((((((wD0 ++ wD1) ++ wD2) ++ wD3) ++ wD4) ++ wD5) ++ wD6) ++ wD7) ++ wD8) ++ wD9)) (evl_cat (evl_var (i := 3) rfl efound hfound) (evl_lst (ds := wD9) (eva_cons (evd_tup (eva_cons (evd_var (i := 4) rfl hlater) (eva_cons (evd_tup (eva_cons evd_str (eva_cons (evd_tup (eva_cons (evd_tup (eva_cons evd_str (eva_cons (evd_tup eva_nil (by decide +kernel)) eva_nil)) (by decide +kernel)) (eva_cons (evd_tup (eva_cons evd_str (eva_cons (evd_rep (evd_tup (eva_cons evd_str eva_nil) (by decide +kernel)) (by simp) (by decide) (by decide) (by decide)) eva_nil)) (by decide +kernel)) eva_nil)) (by decide +kernel)) eva_nil)) (by decide +kernel)) eva_nil)) (by decide +kernel)) (eva_cons (evd_tup (eva_cons (evd_var (i := 4) rfl hlater) (eva_cons (evd_tup (eva_cons evd_str (eva_cons (evd_tup (eva_cons (evd_tup (eva_cons evd_str (eva_cons (evd_tup eva_nil (by decide +kernel)) eva_nil)) (by decide +kernel)) (eva_cons (evd_tup (eva_cons evd_str (eva_cons (evd_rep (evd_tup (eva_cons evd_str eva_nil) (by decide +kernel)) (by simp) (by decide) (by decide) (by decide)) eva_nil)) (by decide +kernel)) eva_nil)) (by decide +kernel)) eva_nil)) (by decide +kernel)) eva_nil)) (by decide +kernel)) eva_nil)) (by decide +kernel)) (by decide +kernel)) fun lf9 uf9 Hf9 kf9 efound2 hfound2 => ?_
    have esome := kf9.old _ _ esome (by simp)
    have hsome := hsome.k0 kf9
    have erows := kf9.old _ _ erows (by simp)
    have hrows := hrows.k0 kf9
    have hfour := hfour.k0 kf9
    have hlater := hlater.k0 kf9
    have av := av.kp kf9 (by simp)
    have K0 := K0.trans kf9
    clear efound hfound; have efound := efound2; have hfound := hfound2; clear efound2 hfound2
    show tSeq (tAsg _ _) _ _ [some (.ref l0), some (.ref lr), some vf, some (.ref lf9), some vl, none, none, none, none] _
    refine sq_E (A := A0) (K := K) (ds := fullD) (evl_lc (evi_list (ws := someW.take 5) (evl_take (n := 5) (evl_var (i := 0) rfl esome hsome) evd_int)) (by rw [fullD_len]; decide) (by decide) fullD_plain fun i x d H' hd kk hx C hC => ?_) fun lu uu H5 k5 efull hfull => ?_
    · obtain ⟨w0, hw0, rfl⟩ := hx
      unfold fullD at hd
      rw [List.getElem?_map, hw0] at hd
      obtain rfl := Option.some.inj hd
      have wl := someW_len w0 (List.mem_of_mem_take (List.mem_of_getElem? hw0))
      refine ⟨rfl, ev_run (A := A0) (d := fullWD w0) (evd_tup (eva_cons (evd_var (i := 7) rfl (.str _)) (eva_cons (evd_tupE (evl_lc (ds := ("mnop" : Str).cps.toList.map (signD w0)) evi_str (by rw [List.length_map, Array.length_toList]) (by decide) (plain_signs w0) fun i2 x2 d2 H2' hd2 kk2 hx2 C2 hC2 => ?_)) eva_nil)) (by simp)) hC⟩
      obtain ⟨c, hc, rfl⟩ := hx2
      rw [List.getElem?_map, Array.getElem?_toList, hc] at hd2
      obtain rfl := Option.some.inj hd2
      exact ⟨rfl, ev_run (A := A0) (d := signD w0 c) (ev_sign rfl rfl wl) hC2⟩
    have full4 : fullD[4]? = some (.tuple [.str "ke", .tuple full4D]) := full4_at
    have esome := k5.old _ _ esome (by simp)
    have hsome := hsome.k0 k5
    have erows := k5.old _ _ erows (by simp)
    have hrows := hrows.k0 k5
    have hfour := hfour.k0 k5
    have hlater := hlater.k0 k5
    have efound := k5.old _ _ efound (by simp)
    have hfound := hfound.k0 k5
    have av := av.kp k5 (by simp)
    have K0 := K0.trans k5
    refine sq_E (A := A0) (K := K) (ds := ((((((((((wD0 ++ wD1) ++ wD2) ++ wD3) ++ wD4) ++ wD5) ++ wD6) ++ wD7) ++ wD8) ++ wD9) ++ wD10)) (evl_cat (evl_var (i := 3) rfl efound hfound) (evl_lst (ds := wD10) (ev_full rfl efull hfull full4 (by decide +kernel) (by decide +kernel)) (by decide +kernel)) (by decide +kernel)) fun lf10 uf10 Hf10 kf10 efound2 hfound2 => ?_
    have esome := kf10.old _ _ esome (by simp)
    have hsome := hsome.k0 kf10
    have erows := kf10.old _ _ erows (by simp)
    have hrows := hrows.k0 kf10
    have hfour := hfour.k0 kf10
    have hlater := hlater.k0 kf10
    have efull := kf10.old _ _ efull (by simp)
    have hfull := hfull.k0 kf10
    have av := av.kp kf10 (by simp)
    have K0 := K0.trans kf10
    clear efound hfound; have efound := efound2; have hfound := hfound2; clear efound2 hfound2
    refine rd_retE (A := A0) (K := K) (ds := (((((((((((wD0 ++ wD1) ++ wD2) ++ wD3) ++ wD4) ++ wD5) ++ wD6) ++ wD7) ++ wD8) ++ wD9) ++ wD10) ++ wD11)) (evl_cat (evl_var (i := 3) rfl efound hfound) (evl_lst (ds := wD11) (eva_cons evd_non (eva_cons evd_int (eva_cons evd_bl (eva_cons evd_str (eva_cons (evd_dct av) (eva_cons (evd_lst av eva_nil (by decide +kernel)) (eva_cons (evd_tup (eva_cons evd_non eva_nil) (by decide +kernel)) (eva_cons (evd_tup (eva_cons (evd_tup eva_nil (by decide +kernel)) eva_nil) (by decide +kernel)) (eva_cons (evd_tup (eva_cons (evd_tup (eva_cons evd_str eva_nil) (by decide +kernel)) eva_nil) (by decide +kernel)) (eva_cons (evd_tup (eva_cons (evd_tup (eva_cons evd_str (eva_cons evd_int eva_nil)) (by decide +kernel)) eva_nil) (by decide +kernel)) (eva_cons (evd_tup (eva_cons (evd_tup (eva_cons evd_str (eva_cons (evd_tup (eva_cons evd_str eva_nil) (by decide +kernel)) eva_nil)) (by decide +kernel)) eva_nil) (by decide +kernel)) eva_nil))))))))))) (by decide +kernel)) (by decide +kernel)) fun lz uz Hz kz ez hz => ?_
    exact k lz uz Hz (K0.trans kz) ez hz
end

end Md

set_option maxHeartbeats 4000000
namespace Md
open PySem PySem.Spec PyProof.Rows L2
/-- a comprehension whose items may hold lists of their own: the list that is made is known at each turn -/
theorem lcX {J : It} {n : Nat} {G : Hp → Prop} {Y : Nat → Hp → V → Hp → Prop} {D : Addr} {H : Hp} {g : TG} {te : TE} {vs : List Nat} {σ : L2.St} {Qd : Hp → Prop} (wk : Walk J n G Y) (I : List V → Hp → Prop) (hz : n ≤ 1000) (I0 : I [] (upd H D (.lst [])))
    (hG : ∀ H' acc, I acc H' → G H')
    (hs : ∀ i x H' H'' acc (C : V → Hp → Prop), i < n → acc.length = i → H' D = some (.lst acc) → I acc H' → Y i H' x H'' → (∀ y H4, H4 D = some (.lst acc) → I (acc ++ [y]) (upd H4 D (.lst (acc ++ [y]))) → C y H4) →
      g x (wipe σ vs) H'' fun σ2 H2 => wipe σ2 vs = wipe σ vs ∧ te σ2 H2 C)
    (hd : ∀ H' ys, I ys H' → H' D = some (.lst ys) → ys.length = n → Qd H') :
    ∃ W : Nat → Nat → Hp → Prop, (∃ m, W 0 m (upd H D (.lst []))) ∧ ∀ i m H, W i m H → (J.stop i H ∧ Qd H) ∨ (J.go i H ∧ ∃ Nx : Hp → Prop, (∀ H', Nx H' → ∃ m', m' < m ∧ W (i + 1) m' H') ∧
      ∀ x H', J.yld i H x H' → g x (wipe σ vs) H' fun σ2 H2 => wipe σ2 vs = wipe σ vs ∧ tYes σ2 H2 fun b H3 => if b = true then te σ2 H3 fun y H4 => ∃ acc, H4 D = some (.lst acc) ∧ acc.length < sizeLine ∧ Nx (upd H4 D (.lst (acc ++ [y]))) else Nx H3) := by
  refine ⟨fun i m H' => m = n - i ∧ i ≤ n ∧ ∃ acc : List V, acc.length = i ∧ H' D = some (.lst acc) ∧ I acc H', ⟨n, by simp, Nat.zero_le _, [], rfl, upd_same, I0⟩, ?_⟩
  rintro i m H' ⟨rfl, hi, acc, al, e, p⟩
  by_cases hlt : i < n
  · refine .inr ⟨wk.goes i H' hlt (hG H' acc p), fun H4 => ∃ acc : List V, acc.length = i + 1 ∧ H4 D = some (.lst acc) ∧ I acc H4, fun H4 z => ⟨n - (i + 1), by omega, rfl, hlt, z⟩, fun x H'' y => ?_⟩
    have q := hs i x H' H'' acc (fun y H4 => ∃ acc, H4 D = some (.lst acc) ∧ acc.length < sizeLine ∧ ∃ acc' : List V, acc'.length = i + 1 ∧ (upd H4 D (.lst (acc ++ [y]))) D = some (.lst acc') ∧ I acc' (upd H4 D (.lst (acc ++ [y])))) hlt al e p (wk.yields i H' x H'' hlt (hG H' acc p) y)
      (fun y H4 e4 i4 => ⟨acc, e4, w_lt (by omega), acc ++ [y], by simp [al], upd_same, i4⟩)
    exact q
  · have e' : i = n := by omega
    subst e'
    exact .inl ⟨wk.stops H' (hG H' acc p), hd H' acc p e al⟩
section
variable {A B : List Addr} {K : PySem.W.Frag} {H : Hp}
mutual
theorem Dx.weak (hs : ∀ b ∈ B, b ∈ A) : ∀ (d : PyData) (v : V), Dx A K H v d → Dx B K H v d
  | .none, _, h => by cases h; exact .non
  | .bool b, _, h => by cases h; exact .bl b
  | .int i, _, h => by cases h; exact .int i
  | .str x, _, h => by cases h; exact .str x
  | .list ds, _, h => by
    cases h with
    | lst e n h => exact .lst e (fun z => n (hs _ z)) (DxAll.weak hs ds _ h)
  | .tuple ds, _, h => by
    cases h with
    | tup e h => exact .tup e (DxAll.weak hs ds _ h)
  | .dict _, _, h => by
    cases h with
    | dct e n => exact .dct e fun z => n (hs _ z)
theorem DxAll.weak (hs : ∀ b ∈ B, b ∈ A) : ∀ (ds : List PyData) (vs : List V), DxAll A K H vs ds → DxAll B K H vs ds
  | [], _, h => by cases h; exact .nil
  | d :: ds, _, h => by
    cases h with
    | cons a b => exact .cons (Dx.weak hs d _ a) (DxAll.weak hs ds _ b)
end
/-- kinds as they lie are such a thing -/
theorem dx_strs {v : V} {ps : List Str} (h : StrsT K H v ps) : Dx A K H v (.tuple (ps.map .str)) := by
  obtain ⟨a, rfl, q⟩ := h
  exact .tup q (DxAll.strs ps)
theorem dx_of {α : Type} {F : V → α → Prop} {g : α → PyData} (f : ∀ v x, F v x → Dx A K H v (g x)) : ∀ {vs : List V} {xs : List α}, Paired F vs xs → DxAll A K H vs (xs.map g)
  | _, _, .nil => .nil
  | _, _, .cons h t => .cons (f _ _ h) (dx_of f t)
theorem dx_row {v : V} {r : Rw} (h : RowT K H v r) : Dx A K H v (pairD (ofRw r)) := by
  obtain ⟨a, q, rfl, e, p⟩ := h
  exact .tup e (.cons (.str _) (.cons (dx_strs p) .nil))
theorem dx_kind {v : V} {k : Kd} (h : KindT K H v k) : Dx A K H v (kindD (ofKd k)) := by
  obtain ⟨a, q, rfl, e, b, vs, rfl, e2, p⟩ := h
  refine .tup e (.cons (.str _) (.cons (.tup e2 ?_) .nil))
  show DxAll A K H vs ((k.2.map ofRw).map pairD)
  rw [List.map_map]
  exact dx_of (fun _ _ z => dx_row z) p
theorem dx_kds {v : V} {ks : Kds} (h : KdsT K H v ks) : Dx A K H v (kdsD (ofKds ks)) := by
  obtain ⟨a, vs, rfl, e, p⟩ := h
  refine .tup e ?_
  unfold ofKds
  rw [List.map_map]
  exact dx_of (fun _ _ z => dx_kind z) p
end
theorem DxAll.snoc {A : List Addr} {K : PySem.W.Frag} {H : Hp} {d : PyData} : ∀ {ds : List PyData} {vs : List V}, DxAll A K H vs (ds ++ [d]) → ∃ us x, vs = us ++ [x] ∧ Dx A K H x d
  | [], _, h => by
    cases h with
    | cons a b =>
      cases b
      exact ⟨[], _, rfl, a⟩
  | e :: r, _, h => by
    cases h with
    | cons a b =>
      obtain ⟨us, x, rfl, hx⟩ := DxAll.snoc b
      exact ⟨_ :: us, x, rfl, hx⟩
theorem evd_ixLast {A : List Addr} {K : PySem.W.Frag} {H0 : Hp} {σ : L2.St} {ds : List PyData} {d : PyData} {te : TE} (h : EvD A K H0 σ te (.tuple (ds ++ [d]))) : EvD A K H0 σ (tOp (rIxT K) te (tUn (rU fun i => .int (-i)) (tC (.int 1)))) d := fun H Q k q =>
  h H _ k fun v H1 k1 hv => by
    cases hv with
    | @tup a xs _ hq hp =>
      obtain ⟨us, x, rfl, hx⟩ := hp.snoc
      exact ⟨1, rfl, a, _, _, x, rfl, rfl, hq, atI_last us x, q _ _ k1 hx⟩
theorem last_of {α : Type} : ∀ {l : List α}, 1 ≤ l.length → ∃ r x, l = r ++ [x]
  | [a], _ => ⟨[], a, rfl⟩
  | a :: b :: r, _ => by
    obtain ⟨t, x, e⟩ := last_of (l := b :: r) (by simp)
    exact ⟨a :: t, x, by rw [e]; rfl⟩
end Md

namespace Md
open PySem PySem.Spec PyProof.Rows L2

/-! ### texts, drawn and written -/
def signsS : Str := "abcdefghijklmnopqrstuvwxyzABZ019 _-.,~()\n"
theorem signs_len : signsS.length = 41 := by decide +kernel
theorem signs_at {i : Int} (h0 : 0 ≤ i) (h1 : i < 41) : ∃ c, atI signsS.cps.toList i = some c ∧ c < 1000 := by
  have e : i = ((i.toNat : Nat) : Int) := by omega
  have hl : i.toNat < signsS.cps.toList.length := by
    rw [Array.length_toList]
    show i.toNat < signsS.length
    rw [signs_len]
    omega
  have low : ∀ c ∈ signsS.cps.toList, c < 1000 := by decide +kernel
  exact ⟨signsS.cps.toList[i.toNat], by conv => lhs; rw [e]
                                        exact atI_nat (List.getElem?_eq_getElem hl), low _ (List.getElem_mem hl)⟩
def textOk (d : PyData) : Prop := d.weight ≤ 100 ∧ lowD d
theorem fit_low {x : Str} (h : LowA x) (hl : x.length ≤ 100) : textOk (.str x) := ⟨by rw [PyData.weight]; exact hl, by rw [lowD]; exact h⟩
theorem words_low : ∀ x ∈ wordsL, LowA x ∧ x.length ≤ 10 := by unfold LowA; decide +kernel
theorem cat_lowA {x y : Str} (h : LowA x) (g : LowA y) : LowA (x ++ y) := by
  intro c hc
  have e : (x ++ y).cps.toList = x.cps.toList ++ y.cps.toList := by
    show (x.cps ++ y.cps).toList = _
    rw [Array.toList_append]
  rw [e] at hc
  rcases List.mem_append.mp hc with z | z
  · exact h c z
  · exact g c z
theorem rd_lst {A : List Addr} {K : PySem.W.Frag} {σ : L2.St} {H : Hp} {ta : TA} {D : Ends} {ds : List PyData} (ev : EvA A K H σ ta ds) (hl : ds.length ≤ 100000)
    (k : ∀ us H1, Kp [] H H1 → DxAll A K H1 us ds → ∀ l, H1 l = none → D.rt (.ref l) (upd H1 l (.lst us))) : tRet (tLst ta) D σ H :=
  ev H _ Kp.refl fun us H1 k1 hus => ⟨by rw [hus.len]; exact Nat.le_of_lt (w_lt hl), fun l hl => k us H1 k1 hus l hl⟩
section
variable {P : Program} {w : World} {K : PySem.W.Frag} {mg : Str → Option Value} {base : Heap} {aW : Addr}
def spTexts (K : PySem.W.Frag) : Sp := fun vs H Q _ => ∃ (A : List Addr) (p : Addr) (n : Nat) (v : V) (ks : Kds), vs = [.ref p, v] ∧ PotOk H p n ∧ n ≤ 900000 ∧ AvOk A H ∧ p ∈ A ∧ KdsT K H v ks ∧ GoodK ks ∧
  ∀ l us ds H', H' l = some (.lst us) → DxAll A K H' us ds → (∀ d ∈ ds, textOk d) → us.length ≤ 100 → Kp [p] H H' → Q (.ref l) H'
set_option maxHeartbeats 4000000 in
theorem c_law_texts (T : Txt K mg aW) (c_law_take : C8.Cal P w K mg base 1 "_law_take" spTake []) (c_law_words : C8.Cal P w K mg base 1 "_law_words" spWords []) (F : At_law_texts K mg) : C8.Cal P w K mg base 2 "_law_texts" (spTexts K) [] := by
  refine F.cal sc_law_texts (fun vs H Q E h => ?_) (fun f cdv A outer s H vs Q E hr h => ?_)
  · obtain ⟨A, p, n, v, ks, rfl, _⟩ := h
    rfl
  · obtain ⟨A0, p, n, v, ks, rfl, hp, hn, av, pA, hk, g, k⟩ := h
    have nd := sc_law_texts.nd
    have pS : ∀ b ∈ [p], b ∈ A0 := by simpa using pA
    have sl : signsS.length ≤ sizeLine := Nat.le_of_lt (w_lt (by rw [signs_len]; decide))
    refine ⟨_, (pss_cons (ps_set (i := 2) nd rfl (by first | exact Or.inl rfl | exact Or.inr rfl) pe_str)
      (pss_cons (ps_set (i := 3) nd rfl (by first | exact Or.inl rfl | exact Or.inr rfl) pe_str)
      (pss_cons (ps_for PassesOwn.never rfl (pi_range1 (by rfl) T.z_range (pa_cons (C8.pe_c c_law_take hr (by decide) rfl (pa_cons (pv 0) (pa_cons pe_int pa_nil))) pa_nil)) (pg_name (i := 4) nd rfl (by first | exact Or.inl rfl | exact Or.inr rfl))
        (pss_one (ps_set (i := 3) nd rfl (by first | exact Or.inl rfl | exact Or.inr rfl) (pe_op op_add_str (pv 3) (pe_ix ix_str (pv 2) (C8.pe_c c_law_take hr (by decide) rfl (pa_cons (pv 0) (pa_cons (pe_callB call_len_str (by rfl) T.z_len (by decide +kernel) (pa_cons (pv 2) pa_nil)) pa_nil))) (fun _ _ => rfl))))))
      (pss_cons (ps_set (i := 5) nd rfl (by first | exact Or.inl rfl | exact Or.inr rfl) (pe_ix ix_list (pe_c0 c_law_words hr (by decide) rfl) (C8.pe_c c_law_take hr (by decide) rfl (pa_cons (pv 0) (pa_cons pe_int pa_nil))) (fun _ _ => rfl)))
      (pss_one (ps_ret (pe_lst (pa_cons (pe_ix ix_tup (pe_ix ix_tup (pv 1) pe_int (fun _ _ => rfl)) pe_int (fun _ _ => rfl)) (pa_cons (pe_ix ix_tup (pe_ix ix_tup (pe_ix ix_tup (pe_ix ix_tup (pv 1) (pe_un un_neg pe_int) (fun _ _ => rfl)) pe_int (fun _ _ => rfl)) (pe_un un_neg pe_int) (fun _ _ => rfl)) pe_int (fun _ _ => rfl)) (pa_cons (pv 5) (pa_cons (pe_op op_add_str (pv 5) pe_str) (pa_cons (pv 3) (pa_cons pe_str (pa_cons pe_str (pa_cons pe_str (pa_cons pe_str (pa_cons pe_str (pa_cons pe_str (pa_cons pe_non (pa_cons pe_int (pa_cons pe_bl (pa_cons (pe_tup (pa_cons pe_str pa_nil)) (pa_cons (pe_lstN (pa_cons pe_str pa_nil)) pa_nil))))))))))))))))))))))), ?_⟩
    refine ⟨_, rfl, p, 10, n, rfl, hp, by decide, by decide, by omega, fun m H1 m0 m10 hp1 k1 => ⟨m, rfl, by omega, by omega, ?_⟩⟩
    refine for_range (lo := 0) (n := m.toNat) (fun i σ H' => ∃ (l : List Nat) (v4 : Option V), σ = [some (.ref p), some v, some (.str signsS), some (.str (S1 l)), v4, none] ∧ l.length = i ∧ (∀ c ∈ l, c < 1000) ∧ PotOk H' p (n + 1 + i) ∧ Kp [p] H H') ?_ ?_ ?_
    · exact ⟨[], none, rfl, rfl, fun _ h => (nomatch h), hp1, k1⟩
    · rintro i σ H2 hi ⟨l, v4, rfl, ll, lc, hp2, k2⟩
      refine ⟨_, rfl, _, rfl, _, rfl, _, rfl, signsS, rfl, sl, p, 41, n + 1 + i, by rw [signs_len]; rfl, hp2, by decide, by decide, by omega, fun r H3 r0 r41 hp3 k3 => ?_⟩
      obtain ⟨c, hc, c1000⟩ := signs_at r0 r41
      refine ⟨_, _, _, rfl, rfl, sl, hc, _, _, rfl, rfl, ?_, ?_⟩
      · show (S1 l).length + (S1 [c]).length ≤ sizeLine
        rw [s1_len, s1_len]
        exact Nat.le_of_lt (small1000 (by simp; omega))
      · refine ⟨l ++ [c], some (.int (0 + (i : Nat))), ?_, by simp [ll], ?_, hp3.more (by omega), k2.trans k3⟩
        · show [_, _, _, some (V.str (S1 l ++ S1 [c])), _, _] = _
          rw [s1_cat]
        · intro c' hc'
          rcases List.mem_append.mp hc' with z | z
          · exact lc c' z
          · have : c' = c := by simpa using z
            omega
    · rintro σ H2 ⟨l, v4, rfl, ll, lc, hp2, k2⟩
      have l10 : l.length ≤ 10 := by omega
      refine ⟨rfl, fun H3 wl k3 fw e3 => ?_⟩
      have hp3 := hp2.kp k3 (by simp)
      have nwp : wl ≠ p := Ne.symm (hp2.ne fw)
      refine ⟨_, rfl, p, 8, n + 1 + m.toNat, rfl, hp3, by decide, by decide, by omega, fun r H4 r0 r8 hp4 k4 => ?_⟩
      have hr8 : r.toNat < wordsL.length := by show r.toNat < 8; omega
      have er : r = ((r.toNat : Nat) : Int) := by omega
      refine ⟨wl, _, r, .str (wordsL[r.toNat]), rfl, rfl, SqL.of (k4.old _ _ e3 (by simp [nwp])), ?_, ?_⟩
      · conv => lhs; rw [er]
        exact atI_nat (by rw [List.getElem?_map, List.getElem?_eq_getElem hr8]; rfl)
      have wm : wordsL[r.toNat] ∈ wordsL := List.getElem_mem hr8
      generalize wordsL[r.toNat] = wd at wm
      have wlow : LowA wd ∧ wd.length ≤ 10 := words_low wd wm
      have k24 : Kp [p] H H4 := (k2.trans (k3.mono (by simp))).trans k4
      have av4 : AvOk A0 H4 := av.kp k24 (by simp; exact let ⟨x, y, z, e, _⟩ := hp4; ⟨_, e⟩)
      have l1 := g.l1
      obtain ⟨kr, kl, ek⟩ := last_of l1
      have klm : kl ∈ ks := by rw [ek]; simp
      obtain ⟨rr, rl, er2⟩ := last_of (g.m1 kl klm)
      have rlm : rl ∈ kl.2 := by rw [er2]; simp
      obtain ⟨k0, hk0⟩ : ∃ k0, ks[0]? = some k0 := ⟨ks[0], List.getElem?_eq_getElem (by omega)⟩
      have k0m := List.mem_of_getElem? hk0
      have hkx : Dx A0 K H4 v (.tuple ((ofKds ks).map kindD)) := (dx_kds hk).k k24 pS
      have hkl : Dx A0 K H4 v (.tuple ((ofKds kr).map kindD ++ [.tuple [.str kl.1, .tuple ((rr.map ofRw).map pairD ++ [.tuple [.str rl.1, .tuple (rl.2.map .str)]])]])) := by
        have e : (ofKds ks).map kindD = (ofKds kr).map kindD ++ [.tuple [.str kl.1, .tuple ((rr.map ofRw).map pairD ++ [.tuple [.str rl.1, .tuple (rl.2.map .str)]])]] := by
          rw [ek]
          unfold ofKds
          rw [List.map_append, List.map_append]
          congr 1
          show [PyData.tuple [.str kl.1, .tuple ((kl.2.map ofRw).map pairD)]] = _
          rw [er2, List.map_append, List.map_append]
          rfl
        rw [← e]
        exact hkx
      have e00 : ((ofKds ks).map kindD)[0]? = some (.tuple [.str k0.1, .tuple ((k0.2.map ofRw).map pairD)]) := by
        unfold ofKds
        rw [List.getElem?_map, List.getElem?_map, hk0]
        rfl
      have t1 := (s1_len l)
      have evs : EvA A0 K H4 [some (.ref p), some v, some (.str signsS), some (.str (S1 l)), v4, some (.str wd)] _
          [.str k0.1, .str rl.1, .str wd, .str (wd ++ "s"), .str (S1 l), .str "", .str "a", .str "abcdefgh", .str "abcdefghi", .str "Mark", .str "a ", .none, .int 5, .bool true, .tuple [.str "a"], .list [.str "a"]] :=
        eva_cons (evd_ixT (j := 0) (evd_ixT (j := 0) (evd_var (i := 1) rfl hkx) evd_int e00) evd_int rfl)
        (eva_cons (evd_ixT (j := 0) (evd_ixLast (evd_ixT (j := 1) (evd_ixLast (evd_var (i := 1) rfl hkl)) evd_int rfl)) evd_int rfl)
        (eva_cons (evd_var (i := 5) rfl (.str _)) (eva_cons (evd_catS (evd_var (i := 5) rfl (.str _)) evd_str (by show wd.length + 1 ≤ _; omega)) (eva_cons (evd_var (i := 3) rfl (.str _))
        (eva_cons evd_str (eva_cons evd_str (eva_cons evd_str (eva_cons evd_str (eva_cons evd_str (eva_cons evd_str (eva_cons evd_non (eva_cons evd_int (eva_cons evd_bl
        (eva_cons (evd_tup (eva_cons evd_str eva_nil) (by simp)) (eva_cons (evd_lst av4 (eva_cons evd_str eva_nil) (by simp)) eva_nil)))))))))))))))
      dsimp only [gName]
      refine rd_lst evs (by simp) fun us H5 k5 hus lz hlz => ?_
      have kz : Kp [] H5 (upd H5 lz (.lst us)) := Kp.new hlz
      refine k lz us _ _ upd_same (hus.k0 kz) ?_ (by rw [hus.len]; simp) ((k24.trans (k5.mono (by simp))).new' hlz)
      intro d hd
      have nm : ∀ x, isName x = true → textOk (.str x) := fun x hx => fit_low (LowA.name hx) (by
        unfold isName at hx
        simp only [Bool.and_eq_true, decide_eq_true_eq] at hx
        omega)
      simp only [List.mem_cons, List.not_mem_nil, or_false] at hd
      rcases hd with z | z | z | z | z | z | z | z | z | z | z | z | z | z | z | z <;> subst z
      · exact nm _ (g.kn k0 k0m)
      · exact nm _ (g.mn kl klm rl rlm)
      · exact fit_low wlow.1 (by omega)
      · refine fit_low (cat_lowA wlow.1 (by unfold LowA; decide +kernel)) ?_
        rw [show (wd ++ ("s" : Str)).length = wd.length + ("s" : Str).length from strLen_append _ _]
        show wd.length + 1 ≤ 100
        omega
      · exact fit_low (fun c hc => lc c hc) (by rw [t1]; omega)
      all_goals first
        | exact fit_low (by unfold LowA; decide +kernel) (by decide +kernel)
        | exact ⟨by decide +kernel, low_of _ (by decide +kernel)⟩
end

end Md

namespace Md
open PySem PySem.Spec PyProof.Rows L2

/-! ### the pass -/
theorem written_len : writtenD.length ≤ 100 := by decide +kernel
theorem weightAll_le {c : Nat} : ∀ {ds : List PyData}, (∀ d ∈ ds, d.weight ≤ c) → PyData.weightAll ds ≤ ds.length * (c + 1)
  | [], _ => by simp [PyData.weightAll]
  | d :: r, h => by
    have h1 := h d List.mem_cons_self
    have h2 := weightAll_le (c := c) fun x hx => h x (List.mem_cons_of_mem _ hx)
    rw [PyData.weightAll, List.length_cons, Nat.add_mul, Nat.one_mul]
    omega
theorem weight_tup {c n : Nat} {ds : List PyData} (h : ∀ d ∈ ds, d.weight ≤ c) (l : ds.length ≤ n) : (PyData.tuple ds).weight ≤ n * (c + 1) := by
  rw [PyData.weight]
  exact Nat.le_trans (weightAll_le h) (Nat.mul_le_mul l (Nat.le_refl _))
theorem plain_tup {ds : List PyData} (h : ∀ d ∈ ds, plainD d) : plainD (.tuple ds) := by
  rw [plainD]
  exact plainAll_of h
structure Nice (D c : Nat) (d : PyData) : Prop where
  g : Gx D d
  w : d.weight ≤ c
  p : plainD d
theorem Nice.str {x : Str} (h : LowA x) (l : x.length ≤ 8) : Nice 0 8 (.str x) := ⟨gx_str h, by rw [PyData.weight]; exact l, by rw [plainD]; trivial⟩
theorem Nice.tup {D c n : Nat} {ds : List PyData} (h : ∀ d ∈ ds, Nice D c d) (l : ds.length ≤ n) : Nice (D + 1) (n * (c + 1)) (.tuple ds) :=
  ⟨gx_tup fun d hd => (h d hd).g, weight_tup (fun d hd => (h d hd).w) l, plain_tup fun d hd => (h d hd).p⟩
theorem Nice.more {D c E e : Nat} {d : PyData} (h : Nice D c d) (l : D ≤ E) (m : c ≤ e) : Nice E e d := ⟨h.g.more l, Nat.le_trans h.w m, h.p⟩
theorem isName_len {x : Str} (h : isName x = true) : x.length ≤ 8 := by
  unfold isName at h
  simp only [Bool.and_eq_true, decide_eq_true_eq] at h
  exact h.1.1.2
theorem GoodK.nice {ks : Kds} (g : GoodK ks) : Nice 5 2400 (kdsD (ofKds ks)) := by
  have nm : ∀ x, isName x = true → Nice 0 8 (.str x) := fun x hx => Nice.str (LowA.name hx) (isName_len hx)
  have part : ∀ x : Str, x = ("mark" : Str) ∨ x ∈ kindNames ks → Nice 0 8 (.str x) := fun x hx => Nice.str (g.lowN hx) (by
    rcases hx with z | z
    · subst z; decide
    · obtain ⟨k, hk, rfl⟩ := List.mem_map.mp z
      exact isName_len (g.kn k hk))
  have rowN : ∀ k ∈ ks, ∀ r ∈ k.2, Nice 2 58 (pairD (ofRw r)) := fun k hk r hr => by
    have hp : Nice 1 27 (.tuple (r.2.map .str)) := Nice.tup (n := 3) (fun d hd => by
      obtain ⟨x, hx, rfl⟩ := List.mem_map.mp hd
      exact part x (g.ps k hk r hr x hx)) (by rw [List.length_map]; exact g.p3 k hk r hr)
    refine (Nice.tup (n := 2) (D := 1) (c := 27) (ds := [.str r.1, .tuple (r.2.map .str)]) (fun d hd => ?_) (by simp)).more (by decide) (by decide)
    rcases List.mem_cons.mp hd with z | z
    · subst z; exact (nm _ (g.mn k hk r hr)).more (by decide) (by decide)
    · have : d = .tuple (r.2.map .str) := by simpa using z
      subst this; exact hp
  have kindN : ∀ k ∈ ks, Nice 4 474 (kindD (ofKd k)) := fun k hk => by
    have hp : Nice 3 236 (.tuple ((k.2.map ofRw).map pairD)) := (Nice.tup (n := 4) (D := 2) (c := 58) (fun d hd => by
      obtain ⟨y, hy, rfl⟩ := List.mem_map.mp hd
      obtain ⟨r, hr, rfl⟩ := List.mem_map.mp hy
      exact rowN k hk r hr) (by rw [List.length_map, List.length_map]; exact g.m4 k hk)).more (by decide) (by decide)
    refine (Nice.tup (n := 2) (D := 3) (c := 236) (ds := [.str k.1, .tuple ((k.2.map ofRw).map pairD)]) (fun d hd => ?_) (by simp)).more (by decide) (by decide)
    rcases List.mem_cons.mp hd with z | z
    · subst z; exact (nm _ (g.kn k hk)).more (by decide) (by decide)
    · have : d = .tuple ((k.2.map ofRw).map pairD) := by simpa using z
      subst this; exact hp
  refine (Nice.tup (n := 5) (D := 4) (c := 474) (ds := (ofKds ks).map kindD) (fun d hd => ?_) (by unfold ofKds; rw [List.length_map, List.length_map]; exact g.l5)).more (by decide) (by decide)
  obtain ⟨y, hy, rfl⟩ := List.mem_map.mp hd
  unfold ofKds at hy
  obtain ⟨k, hk, rfl⟩ := List.mem_map.mp hy
  exact kindN k hk
theorem DxAll.get2 {A : List Addr} {K : PySem.W.Frag} {H : Hp} {vs : List V} {ds : List PyData} (h : DxAll A K H vs ds) {i : Nat} {x : V} (hx : vs[i]? = some x) : ∃ d, d ∈ ds ∧ Dx A K H x d := by
  obtain ⟨d, hd, hxd⟩ := h.get hx
  exact ⟨d, List.mem_of_getElem? hd, hxd⟩
def spLaw (K : PySem.W.Frag) : Sp := fun vs H Q _ => ∃ (a : Addr) (ns : List Int), vs = [.ref a] ∧ SqL K H a (ns.map V.int) ∧ ns.length ≤ 1000 ∧ ∀ H', Q (.bl true) H'
section
variable {P : Program} {w : World} {K : PySem.W.Frag} {mg : Str → Option Value} {base : Heap} {aW : Addr}
set_option maxHeartbeats 4000000 in
theorem law_pass (T : Txt K mg aW) (c_law_take : C8.Cal P w K mg base 1 "_law_take" spTake []) (c_law_pot : C8.Cal P w K mg base 1 "_law_pot" (spPot K) []) (c_law_kinds : C8.Cal P w K mg base 4 "_law_kinds" (spLawKinds K) [])
    (c_is_kinds__x : C8.Cal P w K mg base 4 "is_kinds" (spIsKindsX K) []) (c_is_name__x : C8.Cal P w K mg base 1 "is_name" (spIsNameX K) []) (c_law_bent : C8.Cal P w K mg base 8 "_law_bent" (spBent K 6) [])
    (c_law_written : C8.Cal P w K mg base 1 "_law_written" (spWritten K) []) (c_law_are_kinds : C8.Cal P w K mg base 3 "_law_are_kinds" (spLawAreKinds K) []) (c_law_texts : C8.Cal P w K mg base 2 "_law_texts" (spTexts K) [])
    (c_law_is_name : C8.Cal P w K mg base 2 "_law_is_name" (spLawIsName K) [])
    {f : Addr} {cdv : Value} {A : Around} {outer : List Env} {s : Shared} {H : Hp} {vs : List V} {Q : VK} {E : XK} (hr : Room 8 (A.deeper (envOfC "law" (defScope st_law) s.heap.objs.size f cdv))) (hg : A.guards = some []) (h : spLaw K vs H Q E) :
    ∃ t, PSs (cxOf CX0 P w K mg base nn_law "law" (defScope st_law) f cdv A outer s H E).nox (defBody st_law) t ∧ t { nx := fun _ H' => Q .non H', rt := Q } (L2.start nn_law vs) H := by
  have c_is_kinds := c_is_kinds__x
  have c_is_name := c_is_name__x
  obtain ⟨a, ns, rfl, hq, nl, k⟩ := h
  have nd := sc_law.nd
  have hu64 := h64 hr
  refine ⟨_, (pss_cons (ps_for PassesOwn.never rfl (pi_range1 (by rfl) T.z_range (pa_cons (pe_callB (call_max2 rfl) (by rfl) T.z_max (by decide +kernel) (pa_cons pe_int (pa_cons (pe_callB (call_min2 rfl) (by rfl) T.z_min (by decide +kernel) (pa_cons pe_int (pa_cons (pe_callB call_len_seq (by rfl) T.z_len (by decide +kernel) (pa_cons (pv 0) pa_nil)) pa_nil))) pa_nil))) pa_nil)) (pg_name (i := 1) nd rfl (by first | exact Or.inl rfl | exact Or.inr rfl))
        (pss_cons (ps_set (i := 2) nd rfl (by first | exact Or.inl rfl | exact Or.inr rfl) (C8.pe_c c_law_pot hr (by decide) rfl (pa_cons (pv 0) (pa_cons (pv 1) pa_nil))))
        (pss_cons (ps_set (i := 3) nd rfl (by first | exact Or.inl rfl | exact Or.inr rfl) (C8.pe_c c_law_kinds hr (by decide) rfl (pa_cons (pv 2) (pa_cons (pe_lst (pa_cons (C8.pe_c c_law_take hr (by decide) rfl (pa_cons (pv 2) (pa_cons pe_int pa_nil))) pa_nil)) pa_nil))))
        (pss_cons (ps_if (pt_cmpR op_isnot_bl (C8.pe_c c_is_kinds hr (by decide) rfl (pa_cons (pv 3) pa_nil)) pe_bl (nomark _)) (pss_one (ps_ret pe_bl)) pss_nil)
        (pss_cons (ps_for PassesOwn.never rfl (pi_list (pe_op op_cat (pe_op op_cat (pe_lc (own := [("turn", 7)]) (g := (gName 7)) (tt := tYes) rfl nd (pi_range1 (by rfl) T.z_range (pa_cons pe_int pa_nil)) (blkOk_by (N := nn_law) (sc := defScope st_law) (own := [("turn", 7)]) (by decide +kernel)) (fun _ _ _ _ _ => (pg_name (i := 7) nd rfl (by first | exact Or.inl rfl | exact Or.inr rfl))) (fun _ _ _ _ _ => pts_nil) (fun _ _ _ _ _ => (C8.pe_c c_law_bent hr (by decide) rfl (pa_cons (pv 2) (pa_cons (pv 3) (pa_cons pe_int pa_nil)))))) (pe_c0 c_law_written hr (by decide) rfl)) (pe_lst (pa_cons (pe_callTy call_list_ofN (by rfl) T.z_list (by decide +kernel) (pa_cons (pv 3) pa_nil)) (pa_cons (pv 3) pa_nil))))) (pg_name (i := 4) nd rfl (by first | exact Or.inl rfl | exact Or.inr rfl))
          (pss_cons (ps_set (i := 5) nd rfl (by first | exact Or.inl rfl | exact Or.inr rfl) (pe_callB (call_reprX hg hu64) (by rfl) T.z_repr (by decide +kernel) (pa_cons (pv 4) pa_nil)))
          (pss_cons (ps_set (i := 6) nd rfl (by first | exact Or.inl rfl | exact Or.inr rfl) (C8.pe_c c_is_kinds hr (by decide) rfl (pa_cons (pv 4) pa_nil)))
          (pss_one (ps_if (PW.pt (pw_or (pt_not (pt_val (pe_callB call_isi (by rfl) T.z_isinstance (by decide +kernel) (pa_cons (pv 6) (pa_cons (pe_bltn (v := .ty "bool") (by rfl) T.z_bool (by decide +kernel) rfl) pa_nil))))) (pw_or (pt_cmpR op_ne (pv 6) (C8.pe_c c_law_are_kinds hr (by decide) rfl (pa_cons (pv 4) pa_nil)) (nomark _)) (pw_or1 (pt_cmpR op_ne (pe_callB (call_reprX hg hu64) (by rfl) T.z_repr (by decide +kernel) (pa_cons (pv 4) pa_nil)) (pv 5) (nomark _)))))) (pss_one (ps_ret pe_bl)) pss_nil)))))
        (pss_one (ps_for PassesOwn.never rfl (pi_list (C8.pe_c c_law_texts hr (by decide) rfl (pa_cons (pv 2) (pa_cons (pv 3) pa_nil)))) (pg_name (i := 4) nd rfl (by first | exact Or.inl rfl | exact Or.inr rfl))
          (pss_cons (ps_set (i := 6) nd rfl (by first | exact Or.inl rfl | exact Or.inr rfl) (C8.pe_c c_is_name hr (by decide) rfl (pa_cons (pv 4) pa_nil)))
          (pss_one (ps_if (PW.pt (pw_or (pt_not (pt_val (pe_callB call_isi (by rfl) T.z_isinstance (by decide +kernel) (pa_cons (pv 6) (pa_cons (pe_bltn (v := .ty "bool") (by rfl) T.z_bool (by decide +kernel) rfl) pa_nil))))) (pw_or1 (pt_cmpR op_ne (pv 6) (C8.pe_c c_law_is_name hr (by decide) rfl (pa_cons (pv 4) pa_nil)) (nomark _))))) (pss_one (ps_ret pe_bl)) pss_nil))))))))))
      (pss_one (ps_ret pe_bl))), ?_⟩
  obtain ⟨M, eM, M0, M1⟩ : ∃ M : Int, (if (if ((ns.map V.int).length : Int) < 12 then ((ns.map V.int).length : Int) else 12) > 3 then (if ((ns.map V.int).length : Int) < 12 then ((ns.map V.int).length : Int) else 12) else 3) = M ∧ 0 ≤ M ∧ M ≤ 12 :=
    ⟨_, rfl, by repeat' split <;> omega, by repeat' split <;> omega⟩
  refine ⟨_, rfl, a, _, rfl, .inl hq, _, _, rfl, _, _, rfl, M, by rw [← eM], by omega, by omega, ?_⟩
  refine for_range (lo := 0) (n := M.toNat) (fun i σ H' => ∃ v1 v2 v3 v4 v5 v6 v7, σ = [some (.ref a), v1, v2, v3, v4, v5, v6, v7] ∧ ∃ H0 : Hp, H0 = H' ∧ SqL K H0 a (ns.map V.int)) ?_ ?_ ?_
  · exact ⟨_, _, _, _, _, _, _, rfl, _, rfl, hq⟩
  · rintro i σ H' hi ⟨v1, v2, v3, v4, v5, v6, v7, rfl, H0, rfl, hq0⟩
    refine ⟨_, rfl, _, rfl, a, ns, 0 + (i : Nat), rfl, hq0, by omega, by omega, fun H1 p k1 fp hp1 => ?_⟩
    -- the kinds
    refine ⟨_, rfl, _, rfl, p, 26, 0, rfl, hp1, by decide, by decide, by decide, fun r H2 r0 r26 hp2 k2 => ⟨(by show 1 ≤ sizeLine; decide), fun B hB => ?_⟩⟩
    obtain ⟨rn, er⟩ : ∃ rn : Nat, r = (rn : Int) := ⟨r.toNat, by omega⟩
    subst er
    have kB : Kp [] H2 (upd H2 B (.lst [.int (rn : Int)])) := Kp.new hB
    have k02 : Kp [] H0 H2 := k1.sub k2 (fun b m => .inr (by simp at m; subst m; exact fp))
    have fB : H0 B = none := k02.free hB (by simp)
    refine ⟨p, B, 1, rn, rfl, hp2.kp kB (by simp), by decide, upd_same, by omega, fun v ks H4 kO g hp4 k4 _ => ?_⟩
    have k04 : Kp [] H0 H4 := (k02.trans kB).sub k4 (fun b m => .inr (by simp at m; rcases m with rfl | rfl; exact fp; exact fB))
    obtain ⟨ka, us, rfl, hto, hpk⟩ := id kO
    have nice := g.nice
    have kT4 : KdsT K H4 (.ref ka) ks := kO.t
    have dk4 : ∀ A0 : List Addr, Dx A0 K H4 (.ref ka) (kdsD (ofKds ks)) := fun A0 => dx_kds kT4
    -- is_kinds(kinds) is True
    refine ⟨_, rfl, [], _, _, rfl, dk4 [], Nat.le_trans nice.w (by decide), fun H5 b k5 hb => ?_⟩
    obtain rfl : b = true := hb.mpr ⟨ks, rfl, g.wf⟩
    refine ⟨_, _, rfl, rfl, _, rfl, iteBn (by simp) ?_⟩
    -- what is handed in: the bent ones
    have hp5 := hp4.kp k5 (by simp)
    have k05 := k04.trans k5
    refine ⟨10, rfl, by decide, by decide, fun D hD => ?_⟩
    have fD : H0 D = none := k05.free hD (by simp)
    have pex : ∀ (H' : Hp) (n : Nat), PotOk H' p n → ∃ o, H' p = some o := fun H' n h => let ⟨x, y, z, e, _⟩ := h; ⟨_, e⟩
    have npD : p ≠ D := hp5.ne hD
    have avOf : ∀ (H' : Hp) (n : Nat) (o : HO), PotOk H' p n → H' D = some o → AvOk [D, sysModules, p] H' := fun H' n o h e b hb => by
      rcases List.mem_cons.mp hb with z | z
      · subst z; exact .inr ⟨_, e⟩
      · rcases List.mem_cons.mp z with z | z
        · exact .inl z
        · have : b = p := by simpa using z
          subst this
          exact .inr (pex _ _ h)
    have kD5 : Kp [p] H5 (upd H5 D (.lst [])) := Kp.new hD
    refine lcX walk_range (fun acc H' => ∃ ds, DxAll [D, sysModules, p] K H' acc ds ∧ (∀ d ∈ ds, Fit d) ∧ PotOk H' p (1001 + 60 * acc.length) ∧ Kp [p] H5 H') (by decide) ⟨[], .nil, fun _ h => (nomatch h), hp5.kp (Kp.new (S := []) hD) (by simp), kD5⟩ (fun _ _ _ => trivial) ?_ ?_
    · rintro j x H' H'' acc C hj al eD ⟨ds, hds, fit, hpj, kj⟩ ⟨rfl, rfl⟩ hC
      have aj : acc.length ≤ 10 := by omega
      refine ⟨rfl, _, rfl, _, rfl, [D, sysModules, p], p, 1001 + 60 * acc.length, _, _, 5, 5, rfl, by decide, hpj, by omega, avOf _ _ _ hpj eD, by simp, ((dk4 _).k0 k5).k kj (by simp), nice.p, nice.g, by decide, Nat.le_trans nice.w (by decide), fun v' d' H6 hx gx wx hp6 k6 => ?_⟩
      have eD6 : H6 D = some (.lst acc) := k6.old _ _ eD (by simp; exact fun z => npD z.symm)
      have kw : Kp [D] H6 (upd H6 D (.lst (acc ++ [v']))) := Kp.wr eD6 (by simp)
      refine hC _ _ eD6 ⟨ds ++ [d'], ((hds.k k6 (by simp)).append (.cons hx .nil)).k kw (by simp), fun e he => ?_, ?_, (kj.trans k6).own hD⟩
      · rcases List.mem_append.mp he with z | z
        · exact fit e z
        · have : e = d' := by simpa using z
          subst this
          have := nice.w
          exact ⟨gx.more (by decide), by omega⟩
      · exact (hp6.kp kw (by simp; exact npD)).more (by rw [List.length_append]; simp; omega)
    rintro H6 ys ⟨ds, hds, fit, hp6, k56⟩ eD6 yl
    have av6 := avOf _ _ _ hp6 eD6
    have dl : ds.length = 10 := by rw [← hds.len]; exact yl
    -- .. the written ones
    refine ⟨[D, sysModules, p], rfl, av6, fun lw uw H7 k7 ew hw => ?_⟩
    have eD7 := k7.old _ _ eD6 (by simp)
    have wl : uw.length ≤ 100 := by rw [hw.len]; exact written_len
    refine ⟨D, lw, ys, uw, rfl, rfl, eD7, ew, Nat.le_of_lt (w_lt (by omega)), fun c hc => ?_⟩
    have kc : Kp [] H7 (upd H7 c (.lst (ys ++ uw))) := Kp.new hc
    have ec : upd H7 c (.lst (ys ++ uw)) c = some (.lst (ys ++ uw)) := upd_same
    have k68 := k7.trans kc
    have h8 : DxAll [D, sysModules, p] K (upd H7 c (.lst (ys ++ uw))) (ys ++ uw) (ds ++ writtenD) := (hds.k0 k68).append (hw.k0 kc)
    generalize upd H7 c (.lst (ys ++ uw)) = H8 at kc ec k68 h8
    -- .. and kinds, as a list and as they are
    have k58 : Kp [p] H5 H8 := k56.trans (k68.mono (by simp))
    have dk8 : Dx [D, sysModules, p] K H8 (.ref ka) (kdsD (ofKds ks)) := ((dk4 _).k0 k5).k k58 (by simp)
    have av8 : AvOk [D, sysModules, p] H8 := av6.kp k68 (by simp)
    have ev2 : EvA [D, sysModules, p] K H8 [some (.ref a), some (.int (0 + (i : Nat))), some (.ref p), some (.ref ka), v4, v5, v6, v7] _ [.list ((ofKds ks).map kindD), kdsD (ofKds ks)] :=
      eva_cons (evd_listT av8 (evd_var (i := 3) rfl dk8)) (eva_cons (evd_var (i := 3) rfl dk8) eva_nil)
    refine ev2 _ _ Kp.refl fun u2 H9 k9 hu2 => ⟨by rw [hu2.len]; show 2 ≤ sizeLine; decide, fun l2 hl2 => ?_⟩
    have u2l : u2.length = 2 := hu2.len
    have kl2 : Kp [] H9 (upd H9 l2 (.lst u2)) := Kp.new hl2
    refine ⟨c, l2, ys ++ uw, u2, rfl, rfl, kl2.old _ _ (k9.old _ _ ec (by simp)) (by simp), upd_same, Nat.le_of_lt (w_lt (by rw [List.length_append]; omega)), fun L hL => ?_⟩
    have k8L : Kp [] H8 (upd (upd H9 l2 (.lst u2)) L (.lst (ys ++ uw ++ u2))) := (k9.trans kl2).new' hL
    have eL : upd (upd H9 l2 (.lst u2)) L (.lst (ys ++ uw ++ u2)) L = some (.lst (ys ++ uw ++ u2)) := upd_same
    have hL2 : DxAll [D, sysModules, p] K (upd (upd H9 l2 (.lst u2)) L (.lst (ys ++ uw ++ u2))) (ys ++ uw ++ u2) (ds ++ writtenD ++ [.list ((ofKds ks).map kindD), kdsD (ofKds ks)]) := (h8.k0 k8L).append (hu2.k0 (kl2.new' hL))
    generalize upd (upd H9 l2 (.lst u2)) L (.lst (ys ++ uw ++ u2)) = HL at k8L eL hL2
    have k5L : Kp [p] H5 HL := k58.trans (k8L.mono (by simp))
    have k0L : Kp [] H0 HL := k05.sub k5L (fun b m => .inr (by simp at m; subst m; exact fp))
    have hpL : PotOk HL p 2000 := ((hp6.kp k68 (by simp)).kp k8L (by simp)).more (by omega)
    have fitL : ∀ d ∈ ds ++ writtenD ++ [.list ((ofKds ks).map kindD), kdsD (ofKds ks)], Fit d := fun d hd => by
      rcases List.mem_append.mp hd with z | z
      · rcases List.mem_append.mp z with z | z
        · exact fit d z
        · exact written_fit d z
      · have fk : Fit (kdsD (ofKds ks)) := ⟨nice.g.more (by decide), Nat.le_trans nice.w (by decide)⟩
        rcases List.mem_cons.mp z with z | z
        · subst z
          refine ⟨(gx_lst (gx_items (D := 4) nice.g)).more (by decide), ?_⟩
          have z1 : (kdsD (ofKds ks)).weight ≤ 50000 := fk.w
          have z2 : (PyData.tuple ((ofKds ks).map kindD)).weight = PyData.weightAll ((ofKds ks).map kindD) := by rw [PyData.weight]
          have z3 : (PyData.list ((ofKds ks).map kindD)).weight = PyData.weightAll ((ofKds ks).map kindD) := by rw [PyData.weight]
          rw [z3, ← z2]
          exact z1
        · have : d = kdsD (ofKds ks) := by simpa using z
          subst this
          exact fk
    generalize ds ++ writtenD ++ [PyData.list ((ofKds ks).map kindD), kdsD (ofKds ks)] = es at hL2 fitL
    generalize ys ++ uw ++ u2 = zs at eL hL2
    refine ⟨L, rfl, ⟨_, SqL.of eL⟩, for_list (K := K) (a := L) (xs := zs) (fun j σ H' => ∃ v4 v5 v6 v7, σ = [some (.ref a), some (.int (0 + (i : Nat))), some (.ref p), some (.ref ka), v4, v5, v6, v7] ∧ Kp [] HL H')
      ⟨_, _, _, _, rfl, Kp.refl⟩ (fun j σ H' _ z => by obtain ⟨_, _, _, _, _, kk⟩ := z; exact SqL.of (kk.old _ _ eL (by simp))) ?_ ?_⟩
    · rintro j x σ HC hx ⟨v4, v5, v6, v7, rfl, kC⟩
      obtain ⟨d, dm, dx⟩ := hL2.get2 hx
      have ft := fitL d dm
      have w100 : d.weight ≤ 100000 := Nat.le_trans ft.w (by decide)
      have sh : ShowsX d := ft.g.shows (by decide) w100
      refine ⟨_, rfl, [D, sysModules, p], x, d, rfl, by simp, dx.k0 kC, sh, ?_⟩
      refine ⟨_, rfl, [D, sysModules, p], x, d, rfl, dx.k0 kC, w100, fun HD b kD hb => ?_⟩
      refine ⟨_, rfl, _, _, _, _, true, rfl, .ty "bool", .base (.bl _), kit_ty (by decide +kernel), _, rfl, ?_⟩
      refine iteBn rfl ?_
      refine ⟨_, rfl, _, rfl, [D, sysModules, p], x, d, rfl, dx.k0 (kC.trans kD), w100, ft.low, fun HE b2 kE hb2 => ?_⟩
      obtain rfl : b = b2 := Bool.eq_iff_iff.mpr (hb.trans hb2.symm)
      refine ⟨rfl, _, rfl, iteBn (by simp) ?_⟩
      refine ⟨_, rfl, [D, sysModules, p], x, d, rfl, by simp, dx.k0 ((kC.trans kD).trans kE), sh, _, rfl, rfl, _, rfl, iteBn (by simp) ?_⟩
      exact ⟨_, _, _, _, rfl, (kC.trans kD).trans kE⟩
    · rintro σ HC ⟨v4, v5, v6, v7, rfl, kC⟩
      -- texts
      have hpC : PotOk HC p 2000 := hpL.kp kC (by simp)
      have avC : AvOk [p] HC := fun b hb => .inr (by have : b = p := by simpa using hb
                                                     subst this
                                                     exact pex _ _ hpC)
      refine ⟨_, rfl, _, rfl, [p], p, 2000, _, ks, rfl, hpC, by decide, avC, by simp, ((kO.kp k5).kp (k5L.trans (kC.mono (by simp)))).t, g, fun lt ut dt HD eT hT okT lenT kD => ?_⟩
      refine ⟨lt, rfl, ⟨_, SqL.of eT⟩, for_list (K := K) (a := lt) (xs := ut) (fun j σ H' => ∃ v4 v5 v6 v7, σ = [some (.ref a), some (.int (0 + (i : Nat))), some (.ref p), some (.ref ka), v4, v5, v6, v7] ∧ Kp [] HD H')
        ⟨_, _, _, _, rfl, Kp.refl⟩ (fun j σ H' _ z => by obtain ⟨_, _, _, _, _, kk⟩ := z; exact SqL.of (kk.old _ _ eT (by simp))) ?_ ?_⟩
      · rintro j x σ HE hx ⟨v4, v5, v6, v7, rfl, kE⟩
        obtain ⟨d, dm, dx⟩ := hT.get2 hx
        have ok := okT d dm
        have w100 : d.weight ≤ 100000 := Nat.le_trans ok.1 (by decide)
        refine ⟨_, rfl, [p], x, d, rfl, dx.k0 kE, w100, fun HF kF => ?_⟩
        refine ⟨_, rfl, _, _, _, _, true, rfl, .ty "bool", .base (.bl _), kit_ty (by decide +kernel), _, rfl, ?_⟩
        refine iteBn rfl ?_
        refine ⟨_, rfl, _, rfl, [p], x, d, rfl, dx.k0 (kE.trans kF), w100, lowD_str ok.2, fun HG kG => ?_⟩
        refine ⟨rfl, _, rfl, iteBn (by simp) ?_⟩
        exact ⟨_, _, _, _, rfl, (kE.trans kF).trans kG⟩
      · rintro σ HE ⟨v4, v5, v6, v7, rfl, kE⟩
        have k0C := k0L.trans kC
        have k0D : Kp [] H0 HD := k0C.sub kD (fun b m => .inr (by simp at m; subst m; exact fp))
        exact ⟨_, _, _, _, _, _, _, rfl, _, rfl, (k0D.trans kE).sql hq0 (by simp)⟩
  · rintro σ H' ⟨v1, v2, v3, v4, v5, v6, v7, rfl, H0, rfl, hq0⟩
    exact k _
end

end Md

set_option maxHeartbeats 4000000
namespace Md
open PySem PySem.Spec PyProof.Rows L2

theorem all_mk {l : PySem.W.OpenLaw} {w : World} {K : PySem.W.Frag} {h : Heap} {mg : Str → Option Value} {fa f0 f1 f2 f3 f4 f5 f6 f7 f8 f9 f10 f11 f12 f13 f14 f15 f16 f17 f18 f19 f20 f21 f22 f23 f24 f25 f26 a_WORDS : Addr} (X : K.In h) (G : h.Ns mainGlobals mg) (hfa : mg "law" = some (.ref fa))
    {od0 an0 od1 an1 od2 an2 od3 an3 od4 an4 od5 an5 od6 an6 od7 an7 od8 an8 od9 an9 od10 an10 od11 an11 od12 an12 od13 an13 od14 an14 od15 an15 od16 an16 od17 an17 od18 an18 od19 an19 od20 an20 od21 an21 od22 an22 od23 an23 od24 an24 od25 an25 od26 an26 dd_WORDS : Option Addr} {sl0 sl1 sl2 sl3 sl4 sl5 sl6 sl7 sl8 sl9 sl10 sl11 sl12 sl13 sl14 sl15 sl16 sl17 sl18 sl19 sl20 sl21 sl22 sl23 sl24 sl25 sl26 ds_WORDS : Array (Option Value)} {oc0 kV0 dc0 pm0 cd0 ct0 oc1 kV1 dc1 pm1 cd1 ct1 oc2 kV2 dc2 pm2 cd2 ct2 oc3 kV3 dc3 pm3 cd3 ct3 oc4 kV4 dc4 pm4 cd4 ct4 oc5 kV5 dc5 pm5 cd5 ct5 oc6 kV6 dc6 pm6 cd6 ct6 oc7 kV7 dc7 pm7 cd7 ct7 oc8 kV8 dc8 pm8 cd8 ct8 oc9 kV9 dc9 pm9 cd9 ct9 oc10 kV10 dc10 pm10 cd10 ct10 oc11 kV11 dc11 pm11 cd11 ct11 oc12 kV12 dc12 pm12 cd12 ct12 oc13 kV13 dc13 pm13 cd13 ct13 oc14 kV14 dc14 pm14 cd14 ct14 oc15 kV15 dc15 pm15 cd15 ct15 oc16 kV16 dc16 pm16 cd16 ct16 oc17 kV17 dc17 pm17 cd17 ct17 oc18 kV18 dc18 pm18 cd18 ct18 oc19 kV19 dc19 pm19 cd19 ct19 oc20 kV20 dc20 pm20 cd20 ct20 oc21 kV21 dc21 pm21 cd21 ct21 oc22 kV22 dc22 pm22 cd22 ct22 oc23 kV23 dc23 pm23 cd23 ct23 oc24 kV24 dc24 pm24 cd24 ct24 oc25 kV25 dc25 pm25 cd25 ct25 oc26 kV26 dc26 pm26 cd26 ct26 : Value}
    {di_WORDS : Array Value} {dn_WORDS : Nat}
    (a0 : PySem.W.nsIn K mainGlobals "is_name" = some (some (.ref f0))) (l0 : K.lookup f0 = some ⟨oc0, od0, .func (PySem.W.fnOf "is_name" "is_name" (defArgs st_is_name) (defBody st_is_name) (defScope st_is_name) .none kV0 dc0 pm0 an0 cd0 ct0), sl0⟩) (b0 : PySem.W.codeIn K cd0 "is_name" = true) (k0 : PySem.W.keepIn K (.ref f0) = true)
    (a1 : PySem.W.nsIn K mainGlobals "is_kinds" = some (some (.ref f1))) (l1 : K.lookup f1 = some ⟨oc1, od1, .func (PySem.W.fnOf "is_kinds" "is_kinds" (defArgs st_is_kinds) (defBody st_is_kinds) (defScope st_is_kinds) .none kV1 dc1 pm1 an1 cd1 ct1), sl1⟩) (b1 : PySem.W.codeIn K cd1 "is_kinds" = true) (k1 : PySem.W.keepIn K (.ref f1) = true)
    (a2 : PySem.W.nsIn K mainGlobals "least_sizes" = some (some (.ref f2))) (l2 : K.lookup f2 = some ⟨oc2, od2, .func (PySem.W.fnOf "least_sizes" "least_sizes" (defArgs st_least_sizes) (defBody st_least_sizes) (defScope st_least_sizes) .none kV2 dc2 pm2 an2 cd2 ct2), sl2⟩) (b2 : PySem.W.codeIn K cd2 "least_sizes" = true) (k2 : PySem.W.keepIn K (.ref f2) = true)
    (a3 : PySem.W.nsIn K mainGlobals "size_made" = some (some (.ref f3))) (l3 : K.lookup f3 = some ⟨oc3, od3, .func (PySem.W.fnOf "size_made" "size_made" (defArgs st_size_made) (defBody st_size_made) (defScope st_size_made) .none kV3 dc3 pm3 an3 cd3 ct3), sl3⟩) (b3 : PySem.W.codeIn K cd3 "size_made" = true) (k3 : PySem.W.keepIn K (.ref f3) = true)
    (a4 : PySem.W.nsIn K mainGlobals "_is_row" = some (some (.ref f4))) (l4 : K.lookup f4 = some ⟨oc4, od4, .func (PySem.W.fnOf "_is_row" "_is_row" (defArgs st_u_is_row) (defBody st_u_is_row) (defScope st_u_is_row) .none kV4 dc4 pm4 an4 cd4 ct4), sl4⟩) (b4 : PySem.W.codeIn K cd4 "_is_row" = true) (k4 : PySem.W.keepIn K (.ref f4) = true)
    (a5 : PySem.W.nsIn K mainGlobals "_is_named" = some (some (.ref f5))) (l5 : K.lookup f5 = some ⟨oc5, od5, .func (PySem.W.fnOf "_is_named" "_is_named" (defArgs st_u_is_named) (defBody st_u_is_named) (defScope st_u_is_named) .none kV5 dc5 pm5 an5 cd5 ct5), sl5⟩) (b5 : PySem.W.codeIn K cd5 "_is_named" = true) (k5 : PySem.W.keepIn K (.ref f5) = true)
    (a6 : PySem.W.nsIn K mainGlobals "_kind_names" = some (some (.ref f6))) (l6 : K.lookup f6 = some ⟨oc6, od6, .func (PySem.W.fnOf "_kind_names" "_kind_names" (defArgs st_u_kind_names) (defBody st_u_kind_names) (defScope st_u_kind_names) .none kV6 dc6 pm6 an6 cd6 ct6), sl6⟩) (b6 : PySem.W.codeIn K cd6 "_kind_names" = true) (k6 : PySem.W.keepIn K (.ref f6) = true)
    (a7 : PySem.W.nsIn K mainGlobals "_maker_names" = some (some (.ref f7))) (l7 : K.lookup f7 = some ⟨oc7, od7, .func (PySem.W.fnOf "_maker_names" "_maker_names" (defArgs st_u_maker_names) (defBody st_u_maker_names) (defScope st_u_maker_names) .none kV7 dc7 pm7 an7 cd7 ct7), sl7⟩) (b7 : PySem.W.codeIn K cd7 "_maker_names" = true) (k7 : PySem.W.keepIn K (.ref f7) = true)
    (a8 : PySem.W.nsIn K mainGlobals "_are_names_unlike" = some (some (.ref f8))) (l8 : K.lookup f8 = some ⟨oc8, od8, .func (PySem.W.fnOf "_are_names_unlike" "_are_names_unlike" (defArgs st_u_are_names_unlike) (defBody st_u_are_names_unlike) (defScope st_u_are_names_unlike) .none kV8 dc8 pm8 an8 cd8 ct8), sl8⟩) (b8 : PySem.W.codeIn K cd8 "_are_names_unlike" = true) (k8 : PySem.W.keepIn K (.ref f8) = true)
    (a9 : PySem.W.nsIn K mainGlobals "_are_parts_kinds" = some (some (.ref f9))) (l9 : K.lookup f9 = some ⟨oc9, od9, .func (PySem.W.fnOf "_are_parts_kinds" "_are_parts_kinds" (defArgs st_u_are_parts_kinds) (defBody st_u_are_parts_kinds) (defScope st_u_are_parts_kinds) .none kV9 dc9 pm9 an9 cd9 ct9), sl9⟩) (b9 : PySem.W.codeIn K cd9 "_are_parts_kinds" = true) (k9 : PySem.W.keepIn K (.ref f9) = true)
    (a10 : PySem.W.nsIn K mainGlobals "_has_all_parts" = some (some (.ref f10))) (l10 : K.lookup f10 = some ⟨oc10, od10, .func (PySem.W.fnOf "_has_all_parts" "_has_all_parts" (defArgs st_u_has_all_parts) (defBody st_u_has_all_parts) (defScope st_u_has_all_parts) .none kV10 dc10 pm10 an10 cd10 ct10), sl10⟩) (b10 : PySem.W.codeIn K cd10 "_has_all_parts" = true) (k10 : PySem.W.keepIn K (.ref f10) = true)
    (a11 : PySem.W.nsIn K mainGlobals "_are_in" = some (some (.ref f11))) (l11 : K.lookup f11 = some ⟨oc11, od11, .func (PySem.W.fnOf "_are_in" "_are_in" (defArgs st_u_are_in) (defBody st_u_are_in) (defScope st_u_are_in) .none kV11 dc11 pm11 an11 cd11 ct11), sl11⟩) (b11 : PySem.W.codeIn K cd11 "_are_in" = true) (k11 : PySem.W.keepIn K (.ref f11) = true)
    (a12 : PySem.W.nsIn K mainGlobals "_have_trees" = some (some (.ref f12))) (l12 : K.lookup f12 = some ⟨oc12, od12, .func (PySem.W.fnOf "_have_trees" "_have_trees" (defArgs st_u_have_trees) (defBody st_u_have_trees) (defScope st_u_have_trees) .none kV12 dc12 pm12 an12 cd12 ct12), sl12⟩) (b12 : PySem.W.codeIn K cd12 "_have_trees" = true) (k12 : PySem.W.keepIn K (.ref f12) = true)
    (a13 : PySem.W.nsIn K mainGlobals "_law_pot" = some (some (.ref f13))) (l13 : K.lookup f13 = some ⟨oc13, od13, .func (PySem.W.fnOf "_law_pot" "_law_pot" (defArgs st_law_pot) (defBody st_law_pot) (defScope st_law_pot) .none kV13 dc13 pm13 an13 cd13 ct13), sl13⟩) (b13 : PySem.W.codeIn K cd13 "_law_pot" = true) (k13 : PySem.W.keepIn K (.ref f13) = true)
    (a14 : PySem.W.nsIn K mainGlobals "_law_take" = some (some (.ref f14))) (l14 : K.lookup f14 = some ⟨oc14, od14, .func (PySem.W.fnOf "_law_take" "_law_take" (defArgs st_law_take) (defBody st_law_take) (defScope st_law_take) .none kV14 dc14 pm14 an14 cd14 ct14), sl14⟩) (b14 : PySem.W.codeIn K cd14 "_law_take" = true) (k14 : PySem.W.keepIn K (.ref f14) = true)
    (a15 : PySem.W.nsIn K mainGlobals "_law_words" = some (some (.ref f15))) (l15 : K.lookup f15 = some ⟨oc15, od15, .func (PySem.W.fnOf "_law_words" "_law_words" (defArgs st_law_words) (defBody st_law_words) (defScope st_law_words) .none kV15 dc15 pm15 an15 cd15 ct15), sl15⟩) (b15 : PySem.W.codeIn K cd15 "_law_words" = true) (k15 : PySem.W.keepIn K (.ref f15) = true)
    (a16 : PySem.W.nsIn K mainGlobals "_law_is_name" = some (some (.ref f16))) (l16 : K.lookup f16 = some ⟨oc16, od16, .func (PySem.W.fnOf "_law_is_name" "_law_is_name" (defArgs st_law_is_name) (defBody st_law_is_name) (defScope st_law_is_name) .none kV16 dc16 pm16 an16 cd16 ct16), sl16⟩) (b16 : PySem.W.codeIn K cd16 "_law_is_name" = true) (k16 : PySem.W.keepIn K (.ref f16) = true)
    (a17 : PySem.W.nsIn K mainGlobals "_law_word" = some (some (.ref f17))) (l17 : K.lookup f17 = some ⟨oc17, od17, .func (PySem.W.fnOf "_law_word" "_law_word" (defArgs st_law_word) (defBody st_law_word) (defScope st_law_word) .none kV17 dc17 pm17 an17 cd17 ct17), sl17⟩) (b17 : PySem.W.codeIn K cd17 "_law_word" = true) (k17 : PySem.W.keepIn K (.ref f17) = true)
    (a18 : PySem.W.nsIn K mainGlobals "_law_row" = some (some (.ref f18))) (l18 : K.lookup f18 = some ⟨oc18, od18, .func (PySem.W.fnOf "_law_row" "_law_row" (defArgs st_law_row) (defBody st_law_row) (defScope st_law_row) .none kV18 dc18 pm18 an18 cd18 ct18), sl18⟩) (b18 : PySem.W.codeIn K cd18 "_law_row" = true) (k18 : PySem.W.keepIn K (.ref f18) = true)
    (a19 : PySem.W.nsIn K mainGlobals "_law_kinds" = some (some (.ref f19))) (l19 : K.lookup f19 = some ⟨oc19, od19, .func (PySem.W.fnOf "_law_kinds" "_law_kinds" (defArgs st_law_kinds) (defBody st_law_kinds) (defScope st_law_kinds) .none kV19 dc19 pm19 an19 cd19 ct19), sl19⟩) (b19 : PySem.W.codeIn K cd19 "_law_kinds" = true) (k19 : PySem.W.keepIn K (.ref f19) = true)
    (a20 : PySem.W.nsIn K mainGlobals "_law_sizes" = some (some (.ref f20))) (l20 : K.lookup f20 = some ⟨oc20, od20, .func (PySem.W.fnOf "_law_sizes" "_law_sizes" (defArgs st_law_sizes) (defBody st_law_sizes) (defScope st_law_sizes) .none kV20 dc20 pm20 an20 cd20 ct20), sl20⟩) (b20 : PySem.W.codeIn K cd20 "_law_sizes" = true) (k20 : PySem.W.keepIn K (.ref f20) = true)
    (a21 : PySem.W.nsIn K mainGlobals "_law_odd" = some (some (.ref f21))) (l21 : K.lookup f21 = some ⟨oc21, od21, .func (PySem.W.fnOf "_law_odd" "_law_odd" (defArgs st_law_odd) (defBody st_law_odd) (defScope st_law_odd) .none kV21 dc21 pm21 an21 cd21 ct21), sl21⟩) (b21 : PySem.W.codeIn K cd21 "_law_odd" = true) (k21 : PySem.W.keepIn K (.ref f21) = true)
    (a22 : PySem.W.nsIn K mainGlobals "_law_bent" = some (some (.ref f22))) (l22 : K.lookup f22 = some ⟨oc22, od22, .func (PySem.W.fnOf "_law_bent" "_law_bent" (defArgs st_law_bent) (defBody st_law_bent) (defScope st_law_bent) .none kV22 dc22 pm22 an22 cd22 ct22), sl22⟩) (b22 : PySem.W.codeIn K cd22 "_law_bent" = true) (k22 : PySem.W.keepIn K (.ref f22) = true)
    (a23 : PySem.W.nsIn K mainGlobals "_law_are_kinds" = some (some (.ref f23))) (l23 : K.lookup f23 = some ⟨oc23, od23, .func (PySem.W.fnOf "_law_are_kinds" "_law_are_kinds" (defArgs st_law_are_kinds) (defBody st_law_are_kinds) (defScope st_law_are_kinds) .none kV23 dc23 pm23 an23 cd23 ct23), sl23⟩) (b23 : PySem.W.codeIn K cd23 "_law_are_kinds" = true) (k23 : PySem.W.keepIn K (.ref f23) = true)
    (a24 : PySem.W.nsIn K mainGlobals "_law_written" = some (some (.ref f24))) (l24 : K.lookup f24 = some ⟨oc24, od24, .func (PySem.W.fnOf "_law_written" "_law_written" (defArgs st_law_written) (defBody st_law_written) (defScope st_law_written) .none kV24 dc24 pm24 an24 cd24 ct24), sl24⟩) (b24 : PySem.W.codeIn K cd24 "_law_written" = true) (k24 : PySem.W.keepIn K (.ref f24) = true)
    (a25 : PySem.W.nsIn K mainGlobals "_law_texts" = some (some (.ref f25))) (l25 : K.lookup f25 = some ⟨oc25, od25, .func (PySem.W.fnOf "_law_texts" "_law_texts" (defArgs st_law_texts) (defBody st_law_texts) (defScope st_law_texts) .none kV25 dc25 pm25 an25 cd25 ct25), sl25⟩) (b25 : PySem.W.codeIn K cd25 "_law_texts" = true) (k25 : PySem.W.keepIn K (.ref f25) = true)
    (a26 : PySem.W.nsIn K mainGlobals "law" = some (some (.ref f26))) (l26 : K.lookup f26 = some ⟨oc26, od26, .func (PySem.W.fnOf "law" "law" (defArgs st_law) (defBody st_law) (defScope st_law) .none kV26 dc26 pm26 an26 cd26 ct26), sl26⟩) (b26 : PySem.W.codeIn K cd26 "law" = true) (k26 : PySem.W.keepIn K (.ref f26) = true)
    (z_abs : PySem.W.nsIn K mainGlobals "abs" = some none)
    (z_all : PySem.W.nsIn K mainGlobals "all" = some none)
    (z_bool : PySem.W.nsIn K mainGlobals "bool" = some none)
    (z_int : PySem.W.nsIn K mainGlobals "int" = some none)
    (z_isinstance : PySem.W.nsIn K mainGlobals "isinstance" = some none)
    (z_len : PySem.W.nsIn K mainGlobals "len" = some none)
    (z_list : PySem.W.nsIn K mainGlobals "list" = some none)
    (z_max : PySem.W.nsIn K mainGlobals "max" = some none)
    (z_min : PySem.W.nsIn K mainGlobals "min" = some none)
    (z_range : PySem.W.nsIn K mainGlobals "range" = some none)
    (z_repr : PySem.W.nsIn K mainGlobals "repr" = some none)
    (z_set : PySem.W.nsIn K mainGlobals "set" = some none)
    (z_str : PySem.W.nsIn K mainGlobals "str" = some none)
    (z_sum : PySem.W.nsIn K mainGlobals "sum" = some none)
    (z_tuple : PySem.W.nsIn K mainGlobals "tuple" = some none)
    (g_MARK : ∃ u, PySem.W.nsIn K mainGlobals "MARK" = some (some u) ∧ RelV (.str "mark") u)
    (g_WORDS : PySem.W.nsIn K mainGlobals "WORDS" = some (some (.ref a_WORDS))) (t_WORDS : K.lookup a_WORDS = some ⟨.type "tuple", dd_WORDS, .seq di_WORDS dn_WORDS, ds_WORDS⟩) (y_WORDS : di_WORDS.size ≤ sizeLine ∧ Vals ((["mark", "part", "same", "test", "sum", "not", "both", "either"] : List Str).map V.str) di_WORDS.toList)
    (g_MOST_LETTERS : ∃ u, PySem.W.nsIn K mainGlobals "MOST_LETTERS" = some (some u) ∧ RelV (.int 8) u)
    (g_MOST_KINDS : ∃ u, PySem.W.nsIn K mainGlobals "MOST_KINDS" = some (some u) ∧ RelV (.int 5) u)
    (g_MOST_MAKERS : ∃ u, PySem.W.nsIn K mainGlobals "MOST_MAKERS" = some (some u) ∧ RelV (.int 4) u)
    (g_MOST_PARTS : ∃ u, PySem.W.nsIn K mainGlobals "MOST_PARTS" = some (some u) ∧ RelV (.int 3) u)
    : ∃ fd : FuncData, (∀ (s : Shared) (v : Value), BindsTo s fd ⟨[v], []⟩ [("script", v)]) ∧ ∀ base : Heap, K.In base → base.Ns mainGlobals mg → LawOk l.prog w K mg base fa fd ["script"] (spLaw K) := by
  have e := hfa.symm.trans (PySem.W.mg_of X G a26)
  cases e
  have T : Txt K mg a_WORDS := ⟨PySem.W.mg_none_of X G z_abs, PySem.W.mg_none_of X G z_all, PySem.W.mg_none_of X G z_bool, PySem.W.mg_none_of X G z_int, PySem.W.mg_none_of X G z_isinstance, PySem.W.mg_none_of X G z_len, PySem.W.mg_none_of X G z_list, PySem.W.mg_none_of X G z_max, PySem.W.mg_none_of X G z_min, PySem.W.mg_none_of X G z_range, PySem.W.mg_none_of X G z_repr, PySem.W.mg_none_of X G z_set, PySem.W.mg_none_of X G z_str, PySem.W.mg_none_of X G z_sum, PySem.W.mg_none_of X G z_tuple, ⟨_, PySem.W.mg_of X G g_MARK.choose_spec.1, g_MARK.choose_spec.2⟩, PySem.W.mg_of X G g_WORDS, ⟨_, _, _, t_WORDS, rfl, rfl, y_WORDS.1, y_WORDS.2⟩, ⟨_, PySem.W.mg_of X G g_MOST_LETTERS.choose_spec.1, g_MOST_LETTERS.choose_spec.2⟩, ⟨_, PySem.W.mg_of X G g_MOST_KINDS.choose_spec.1, g_MOST_KINDS.choose_spec.2⟩, ⟨_, PySem.W.mg_of X G g_MOST_MAKERS.choose_spec.1, g_MOST_MAKERS.choose_spec.2⟩, ⟨_, PySem.W.mg_of X G g_MOST_PARTS.choose_spec.1, g_MOST_PARTS.choose_spec.2⟩⟩
  have F0 := fun_mk (st := st_is_name) l0 b0 k0
  have D0 : At_is_name K mg := ⟨_, _, F0, PySem.W.mg_of X G a0, F0.binds (ps := ["thing"]) fun _ _ _ _ _ _ us hl => match us, hl with | [_], _ => rfl⟩
  have F1 := fun_mk (st := st_is_kinds) l1 b1 k1
  have D1 : At_is_kinds K mg := ⟨_, _, F1, PySem.W.mg_of X G a1, F1.binds (ps := ["thing"]) fun _ _ _ _ _ _ us hl => match us, hl with | [_], _ => rfl⟩
  have F2 := fun_mk (st := st_least_sizes) l2 b2 k2
  have D2 : At_least_sizes K mg := ⟨_, _, F2, PySem.W.mg_of X G a2, F2.binds (ps := ["kinds"]) fun _ _ _ _ _ _ us hl => match us, hl with | [_], _ => rfl⟩
  have F3 := fun_mk (st := st_size_made) l3 b3 k3
  have D3 : At_size_made K mg := ⟨_, _, F3, PySem.W.mg_of X G a3, F3.binds (ps := ["sizes", "parts"]) fun _ _ _ _ _ _ us hl => match us, hl with | [_, _], _ => rfl⟩
  have F4 := fun_mk (st := st_u_is_row) l4 b4 k4
  have D4 : At_u_is_row K mg := ⟨_, _, F4, PySem.W.mg_of X G a4, F4.binds (ps := ["thing", "least", "most"]) fun _ _ _ _ _ _ us hl => match us, hl with | [_, _, _], _ => rfl⟩
  have F5 := fun_mk (st := st_u_is_named) l5 b5 k5
  have D5 : At_u_is_named K mg := ⟨_, _, F5, PySem.W.mg_of X G a5, F5.binds (ps := ["thing", "least", "most"]) fun _ _ _ _ _ _ us hl => match us, hl with | [_, _, _], _ => rfl⟩
  have F6 := fun_mk (st := st_u_kind_names) l6 b6 k6
  have D6 : At_u_kind_names K mg := ⟨_, _, F6, PySem.W.mg_of X G a6, F6.binds (ps := ["kinds"]) fun _ _ _ _ _ _ us hl => match us, hl with | [_], _ => rfl⟩
  have F7 := fun_mk (st := st_u_maker_names) l7 b7 k7
  have D7 : At_u_maker_names K mg := ⟨_, _, F7, PySem.W.mg_of X G a7, F7.binds (ps := ["kinds"]) fun _ _ _ _ _ _ us hl => match us, hl with | [_], _ => rfl⟩
  have F8 := fun_mk (st := st_u_are_names_unlike) l8 b8 k8
  have D8 : At_u_are_names_unlike K mg := ⟨_, _, F8, PySem.W.mg_of X G a8, F8.binds (ps := ["kinds"]) fun _ _ _ _ _ _ us hl => match us, hl with | [_], _ => rfl⟩
  have F9 := fun_mk (st := st_u_are_parts_kinds) l9 b9 k9
  have D9 : At_u_are_parts_kinds K mg := ⟨_, _, F9, PySem.W.mg_of X G a9, F9.binds (ps := ["kinds"]) fun _ _ _ _ _ _ us hl => match us, hl with | [_], _ => rfl⟩
  have F10 := fun_mk (st := st_u_has_all_parts) l10 b10 k10
  have D10 : At_u_has_all_parts K mg := ⟨_, _, F10, PySem.W.mg_of X G a10, F10.binds (ps := ["makers", "names"]) fun _ _ _ _ _ _ us hl => match us, hl with | [_, _], _ => rfl⟩
  have F11 := fun_mk (st := st_u_are_in) l11 b11 k11
  have D11 : At_u_are_in K mg := ⟨_, _, F11, PySem.W.mg_of X G a11, F11.binds (ps := ["parts", "names"]) fun _ _ _ _ _ _ us hl => match us, hl with | [_, _], _ => rfl⟩
  have F12 := fun_mk (st := st_u_have_trees) l12 b12 k12
  have D12 : At_u_have_trees K mg := ⟨_, _, F12, PySem.W.mg_of X G a12, F12.binds (ps := ["kinds"]) fun _ _ _ _ _ _ us hl => match us, hl with | [_], _ => rfl⟩
  have F13 := fun_mk (st := st_law_pot) l13 b13 k13
  have D13 : At_law_pot K mg := ⟨_, _, F13, PySem.W.mg_of X G a13, F13.binds (ps := ["script", "k"]) fun _ _ _ _ _ _ us hl => match us, hl with | [_, _], _ => rfl⟩
  have F14 := fun_mk (st := st_law_take) l14 b14 k14
  have D14 : At_law_take K mg := ⟨_, _, F14, PySem.W.mg_of X G a14, F14.binds (ps := ["pot", "many"]) fun _ _ _ _ _ _ us hl => match us, hl with | [_, _], _ => rfl⟩
  have F15 := fun_mk (st := st_law_words) l15 b15 k15
  have D15 : At_law_words K mg := ⟨_, _, F15, PySem.W.mg_of X G a15, F15.binds (ps := []) fun _ _ _ _ _ _ us hl => match us, hl with | [], _ => rfl⟩
  have F16 := fun_mk (st := st_law_is_name) l16 b16 k16
  have D16 : At_law_is_name K mg := ⟨_, _, F16, PySem.W.mg_of X G a16, F16.binds (ps := ["thing"]) fun _ _ _ _ _ _ us hl => match us, hl with | [_], _ => rfl⟩
  have F17 := fun_mk (st := st_law_word) l17 b17 k17
  have D17 : At_law_word K mg := ⟨_, _, F17, PySem.W.mg_of X G a17, F17.binds (ps := ["pot", "book"]) fun _ _ _ _ _ _ us hl => match us, hl with | [_, _], _ => rfl⟩
  have F18 := fun_mk (st := st_law_row) l18 b18 k18
  have D18 : At_law_row K mg := ⟨_, _, F18, PySem.W.mg_of X G a18, F18.binds (ps := ["pot", "book", "some", "most"]) fun _ _ _ _ _ _ us hl => match us, hl with | [_, _, _, _], _ => rfl⟩
  have F19 := fun_mk (st := st_law_kinds) l19 b19 k19
  have D19 : At_law_kinds K mg := ⟨_, _, F19, PySem.W.mg_of X G a19, F19.binds (ps := ["pot", "book"]) fun _ _ _ _ _ _ us hl => match us, hl with | [_, _], _ => rfl⟩
  have F20 := fun_mk (st := st_law_sizes) l20 b20 k20
  have D20 : At_law_sizes K mg := ⟨_, _, F20, PySem.W.mg_of X G a20, F20.binds (ps := ["kinds"]) fun _ _ _ _ _ _ us hl => match us, hl with | [_], _ => rfl⟩
  have F21 := fun_mk (st := st_law_odd) l21 b21 k21
  have D21 : At_law_odd K mg := ⟨_, _, F21, PySem.W.mg_of X G a21, F21.binds (ps := ["pot"]) fun _ _ _ _ _ _ us hl => match us, hl with | [_], _ => rfl⟩
  have F22 := fun_mk (st := st_law_bent) l22 b22 k22
  have D22 : At_law_bent K mg := ⟨_, _, F22, PySem.W.mg_of X G a22, F22.binds (ps := ["pot", "thing", "deep"]) fun _ _ _ _ _ _ us hl => match us, hl with | [_, _, _], _ => rfl⟩
  have F23 := fun_mk (st := st_law_are_kinds) l23 b23 k23
  have D23 : At_law_are_kinds K mg := ⟨_, _, F23, PySem.W.mg_of X G a23, F23.binds (ps := ["thing"]) fun _ _ _ _ _ _ us hl => match us, hl with | [_], _ => rfl⟩
  have F24 := fun_mk (st := st_law_written) l24 b24 k24
  have D24 : At_law_written K mg := ⟨_, _, F24, PySem.W.mg_of X G a24, F24.binds (ps := []) fun _ _ _ _ _ _ us hl => match us, hl with | [], _ => rfl⟩
  have F25 := fun_mk (st := st_law_texts) l25 b25 k25
  have D25 : At_law_texts K mg := ⟨_, _, F25, PySem.W.mg_of X G a25, F25.binds (ps := ["pot", "kinds"]) fun _ _ _ _ _ _ us hl => match us, hl with | [_, _], _ => rfl⟩
  have F26 := fun_mk (st := st_law) l26 b26 k26
  have D26 : At_law K mg := ⟨_, _, F26, PySem.W.mg_of X G a26, F26.binds (ps := ["script"]) fun _ _ _ _ _ _ us hl => match us, hl with | [_], _ => rfl⟩
  refine ⟨PySem.W.fnOf "law" "law" (defArgs st_law) (defBody st_law) (defScope st_law) .none kV26 dc26 pm26 an26 cd26 ct26, fun s v => .of_eq rfl, fun base _ _ => ?_⟩
  have m_law_take := c_law_take (P := l.prog) (w := w) (K := K) (mg := mg) (base := base) D14
  have m_is_name := c_is_name (P := l.prog) (w := w) (K := K) (mg := mg) (base := base) T D0
  have m_u_is_row := c_u_is_row (P := l.prog) (w := w) (K := K) (mg := mg) (base := base) T D4
  have m_u_is_named := c_u_is_named (P := l.prog) (w := w) (K := K) (mg := mg) (base := base) m_u_is_row m_is_name D5
  have m_u_kind_names := c_u_kind_names (P := l.prog) (w := w) (K := K) (mg := mg) (base := base) D6
  have m_u_maker_names := c_u_maker_names (P := l.prog) (w := w) (K := K) (mg := mg) (base := base) D7
  have m_u_are_in := c_u_are_in (P := l.prog) (w := w) (K := K) (mg := mg) (base := base) T D11
  have m_u_has_all_parts := c_u_has_all_parts (P := l.prog) (w := w) (K := K) (mg := mg) (base := base) T m_u_are_in D10
  have m_u_are_parts_kinds := c_u_are_parts_kinds (P := l.prog) (w := w) (K := K) (mg := mg) (base := base) T m_u_kind_names m_u_has_all_parts D9
  have m_size_made := c_size_made (P := l.prog) (w := w) (K := K) (mg := mg) (base := base) T D3
  have m_least_sizes := c_least_sizes (P := l.prog) (w := w) (K := K) (mg := mg) (base := base) T m_size_made m_u_are_in D2
  have m_u_have_trees := c_u_have_trees (P := l.prog) (w := w) (K := K) (mg := mg) (base := base) T m_least_sizes m_u_kind_names D12
  have m_u_are_names_unlike := c_u_are_names_unlike (P := l.prog) (w := w) (K := K) (mg := mg) (base := base) T m_u_kind_names m_u_maker_names D8
  have m_is_kinds := c_is_kinds (P := l.prog) (w := w) (K := K) (mg := mg) (base := base) T m_u_is_row m_u_is_named m_u_are_names_unlike m_u_are_parts_kinds m_u_have_trees D1
  have m_law_pot := c_law_pot (P := l.prog) (w := w) (K := K) (mg := mg) (base := base) T D13
  have m_law_word := c_law_word (P := l.prog) (w := w) (K := K) (mg := mg) (base := base) T m_law_take D17
  have m_law_row := c_law_row (P := l.prog) (w := w) (K := K) (mg := mg) (base := base) T m_law_take m_law_word D18
  have m_law_kinds := c_law_kinds (P := l.prog) (w := w) (K := K) (mg := mg) (base := base) T m_law_take m_law_word m_law_row D19
  have m_is_name__x := c_is_name__x (P := l.prog) (w := w) (K := K) (mg := mg) (base := base) T D0
  have m_u_is_row__x := c_u_is_row__x (P := l.prog) (w := w) (K := K) (mg := mg) (base := base) T D4
  have m_u_is_named__x := c_u_is_named__x (P := l.prog) (w := w) (K := K) (mg := mg) (base := base) m_u_is_row__x m_is_name__x D5
  have m_u_kind_names__x := c_u_kind_names__x (P := l.prog) (w := w) (K := K) (mg := mg) (base := base) D6
  have m_u_maker_names__x := c_u_maker_names__x (P := l.prog) (w := w) (K := K) (mg := mg) (base := base) D7
  have m_u_are_names_unlike__x := c_u_are_names_unlike__x (P := l.prog) (w := w) (K := K) (mg := mg) (base := base) m_u_kind_names__x m_u_maker_names__x T D8
  have m_u_are_in__x := c_u_are_in__x (P := l.prog) (w := w) (K := K) (mg := mg) (base := base) T D11
  have m_u_has_all_parts__x := c_u_has_all_parts__x (P := l.prog) (w := w) (K := K) (mg := mg) (base := base) T m_u_are_in__x D10
  have m_u_are_parts_kinds__x := c_u_are_parts_kinds__x (P := l.prog) (w := w) (K := K) (mg := mg) (base := base) T m_u_kind_names__x m_u_has_all_parts__x D9
  have m_u_have_trees__x := c_u_have_trees__x (P := l.prog) (w := w) (K := K) (mg := mg) (base := base) T m_least_sizes m_u_kind_names D12
  have m_is_kinds__x := c_is_kinds__x (P := l.prog) (w := w) (K := K) (mg := mg) (base := base) T m_u_is_row__x m_u_is_named__x m_u_are_names_unlike__x m_u_are_parts_kinds__x m_u_have_trees__x D1
  have m_law_words := c_law_words (P := l.prog) (w := w) (K := K) (mg := mg) (base := base) D15
  have m_law_is_name := c_law_is_name (P := l.prog) (w := w) (K := K) (mg := mg) (base := base) T m_law_words D16
  have m_law_sizes__x := c_law_sizes__x (P := l.prog) (w := w) (K := K) (mg := mg) (base := base) T D20
  have m_law_are_kinds := c_law_are_kinds (P := l.prog) (w := w) (K := K) (mg := mg) (base := base) T m_law_is_name m_law_sizes__x D23
  have m_law_odd := c_law_odd (P := l.prog) (w := w) (K := K) (mg := mg) (base := base) T m_law_take D21
  have m_law_bent := c_law_bent (P := l.prog) (w := w) (K := K) (mg := mg) (base := base) T m_law_take m_law_odd D22
  have m_law_written := c_law_written (P := l.prog) (w := w) (K := K) (mg := mg) (base := base) T D24
  have m_law_texts := c_law_texts (P := l.prog) (w := w) (K := K) (mg := mg) (base := base) T m_law_take m_law_words D25
  exact law_body F26 sc_law (k := 8) ⟨rfl, by decide, by decide⟩ fun cdv A outer s H vs Q E hr hg h => law_pass T m_law_take m_law_pot m_law_kinds m_is_kinds__x m_is_name__x m_law_bent m_law_written m_law_are_kinds m_law_texts m_law_is_name hr hg h
theorem walk {l : PySem.W.OpenLaw} {q : Program} {loose : List Str} {XP : (Str → Option Value) → Heap → Prop} {YP : World → Heap → Prop} {d : DefRec} {K : Params → PySem.W.Frag} (hn : l.most = some 63) (hdf : d.params.defaults = [])
    (hY : ∀ (w : World) (h : Heap), YP w h → (K w.params).In h)
    (F : ∀ (w : World) (mg : Str → Option Value) (fa : Addr) (h : Heap), (K w.params).In h → h.Ns mainGlobals mg → mg d.name = some (.ref fa) →
      ∃ fd : FuncData, (∀ (s : Shared) (u : Value), BindsTo s fd ⟨[u], []⟩ [("script", u)]) ∧ ∀ base : Heap, (K w.params).In base → base.Ns mainGlobals mg → LawOk l.prog w (K w.params) mg base fa fd ["script"] (spLaw (K w.params))) :
    PySem.W.WalkO q loose XP YP l.row.toRowW d [] (fun f vs => PySem.call f vs) :=
  walk_law (n := 63) (x := "script") (sp := fun w => spLaw (K w.params)) hn (by decide) hdf hY F fun w H a ns hl bits only hS => ⟨a, ns, rfl, hS, by omega, fun _ => rfl⟩
end Md
open PySem PySem.W PyProof.Rows
set_option maxRecDepth 100000 in
set_option maxHeartbeats 0 in
theorem PySem.Challenge.cw_madesure_k01_names_and_kinds_known_holds : PySem.Challenge.rw_madesure_k01_names_and_kinds_known.Holds := by
  w_on; o_law; k_head; (case hw => w_witness2)
  k_fill
  refine Md.walk (l := PySem.Challenge.rw_madesure_k01_names_and_kinds_known) rfl rfl (fun w h Y => PySem.W.kIn_of Y) ?F
  case F =>
    intro w mg fa h KX G hmg
    refine' Md.all_mk KX G hmg ?a0 ?l0 ?b0 ?k0 ?a1 ?l1 ?b1 ?k1 ?a2 ?l2 ?b2 ?k2 ?a3 ?l3 ?b3 ?k3 ?a4 ?l4 ?b4 ?k4 ?a5 ?l5 ?b5 ?k5 ?a6 ?l6 ?b6 ?k6 ?a7 ?l7 ?b7 ?k7 ?a8 ?l8 ?b8 ?k8 ?a9 ?l9 ?b9 ?k9 ?a10 ?l10 ?b10 ?k10 ?a11 ?l11 ?b11 ?k11 ?a12 ?l12 ?b12 ?k12 ?a13 ?l13 ?b13 ?k13 ?a14 ?l14 ?b14 ?k14 ?a15 ?l15 ?b15 ?k15 ?a16 ?l16 ?b16 ?k16 ?a17 ?l17 ?b17 ?k17 ?a18 ?l18 ?b18 ?k18 ?a19 ?l19 ?b19 ?k19 ?a20 ?l20 ?b20 ?k20 ?a21 ?l21 ?b21 ?k21 ?a22 ?l22 ?b22 ?k22 ?a23 ?l23 ?b23 ?k23 ?a24 ?l24 ?b24 ?k24 ?a25 ?l25 ?b25 ?k25 ?a26 ?l26 ?b26 ?k26 ?z_abs ?z_all ?z_bool ?z_int ?z_isinstance ?z_len ?z_list ?z_max ?z_min ?z_range ?z_repr ?z_set ?z_str ?z_sum ?z_tuple ?g_MARK ?g_WORDS ?t_WORDS ?y_WORDS ?g_MOST_LETTERS ?g_MOST_KINDS ?g_MOST_MAKERS ?g_MOST_PARTS
    (case a0 => k_is); (case l0 => k_is); (case b0 => k_is); (case k0 => k_is)
    (case a1 => k_is); (case l1 => k_is); (case b1 => k_is); (case k1 => k_is)
    (case a2 => k_is); (case l2 => k_is); (case b2 => k_is); (case k2 => k_is)
    (case a3 => k_is); (case l3 => k_is); (case b3 => k_is); (case k3 => k_is)
    (case a4 => k_is); (case l4 => k_is); (case b4 => k_is); (case k4 => k_is)
    (case a5 => k_is); (case l5 => k_is); (case b5 => k_is); (case k5 => k_is)
    (case a6 => k_is); (case l6 => k_is); (case b6 => k_is); (case k6 => k_is)
    (case a7 => k_is); (case l7 => k_is); (case b7 => k_is); (case k7 => k_is)
    (case a8 => k_is); (case l8 => k_is); (case b8 => k_is); (case k8 => k_is)
    (case a9 => k_is); (case l9 => k_is); (case b9 => k_is); (case k9 => k_is)
    (case a10 => k_is); (case l10 => k_is); (case b10 => k_is); (case k10 => k_is)
    (case a11 => k_is); (case l11 => k_is); (case b11 => k_is); (case k11 => k_is)
    (case a12 => k_is); (case l12 => k_is); (case b12 => k_is); (case k12 => k_is)
    (case a13 => k_is); (case l13 => k_is); (case b13 => k_is); (case k13 => k_is)
    (case a14 => k_is); (case l14 => k_is); (case b14 => k_is); (case k14 => k_is)
    (case a15 => k_is); (case l15 => k_is); (case b15 => k_is); (case k15 => k_is)
    (case a16 => k_is); (case l16 => k_is); (case b16 => k_is); (case k16 => k_is)
    (case a17 => k_is); (case l17 => k_is); (case b17 => k_is); (case k17 => k_is)
    (case a18 => k_is); (case l18 => k_is); (case b18 => k_is); (case k18 => k_is)
    (case a19 => k_is); (case l19 => k_is); (case b19 => k_is); (case k19 => k_is)
    (case a20 => k_is); (case l20 => k_is); (case b20 => k_is); (case k20 => k_is)
    (case a21 => k_is); (case l21 => k_is); (case b21 => k_is); (case k21 => k_is)
    (case a22 => k_is); (case l22 => k_is); (case b22 => k_is); (case k22 => k_is)
    (case a23 => k_is); (case l23 => k_is); (case b23 => k_is); (case k23 => k_is)
    (case a24 => k_is); (case l24 => k_is); (case b24 => k_is); (case k24 => k_is)
    (case a25 => k_is); (case l25 => k_is); (case b25 => k_is); (case k25 => k_is)
    (case a26 => k_is); (case l26 => k_is); (case b26 => k_is); (case k26 => k_is)
    (case z_abs => k_is)
    (case z_all => k_is)
    (case z_bool => k_is)
    (case z_int => k_is)
    (case z_isinstance => k_is)
    (case z_len => k_is)
    (case z_list => k_is)
    (case z_max => k_is)
    (case z_min => k_is)
    (case z_range => k_is)
    (case z_repr => k_is)
    (case z_set => k_is)
    (case z_str => k_is)
    (case z_sum => k_is)
    (case z_tuple => k_is)
    (case g_MARK => exact ⟨_, by k_is, ⟨_, rfl⟩⟩)
    (case g_WORDS => k_is); (case t_WORDS => k_is)
    (case y_WORDS => exact ⟨by decide, .cons ⟨_, rfl⟩ (.cons ⟨_, rfl⟩ (.cons ⟨_, rfl⟩ (.cons ⟨_, rfl⟩ (.cons ⟨_, rfl⟩ (.cons ⟨_, rfl⟩ (.cons ⟨_, rfl⟩ (.cons ⟨_, rfl⟩ (.nil))))))))⟩)
    (case g_MOST_LETTERS => exact ⟨_, by k_is, ⟨_, rfl⟩⟩)
    (case g_MOST_KINDS => exact ⟨_, by k_is, ⟨_, rfl⟩⟩)
    (case g_MOST_MAKERS => exact ⟨_, by k_is, ⟨_, rfl⟩⟩)
    (case g_MOST_PARTS => exact ⟨_, by k_is, ⟨_, rfl⟩⟩)
#print axioms PySem.Challenge.cw_madesure_k01_names_and_kinds_known_holds

