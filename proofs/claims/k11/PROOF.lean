import PyProof.Rows.All
import Wide.All
import OpenK.AllK
import Wide.FinOn
import HandS.ForExc
import HandS.Defaults
import HandS.Dict
import HandS.Comp
import HandS.Wide
import HandS.WideBits
import HandS.IsInst
import HandS.More
import HandS.WordsDict
import HandS.Text
import HandS.HeadHook1
import HandS.HeadHook2
import KE.KExcIs
import HandS.ExcInit
import HandS.ExcField
import HandS.HotCalls
import KE.KStateDown
import Lean
import HandS.Head0
import HandS.Head1
import HandS.Head2
import HandS.HeadEnd
import HandS.Iter
import HandS.Conv
import HandS.Style
import HandS.DictComp
import HandS.SetFor
import HandS.SortInts
import HandS.Strs
import HandS.TupMul
import KE.SortData
import HandS.TupAny
import HandS.Steps
import HandS.ExcInitHot
import HandS.ExcCtx
import KE.GoesZip
import KE.GoesMore
import HandS.Zip
import KE.KRevSl
import PySem.Challenge.RW_allgivenback_k11_join_changes
set_option Elab.async false
set_option linter.all false
set_option maxRecDepth 100000
set_option maxHeartbeats 4000000
namespace LL
open PySem PySem.Spec PyProof.Rows L2
section
variable {CX : CXT} {P : Program} {w : World} {K : PySem.W.Frag} {mg : Str → Option Value} {base : Heap} {N : List Str} {q : Str} {sc : Scope} {f : Addr} {cd : Value} {A : Around} {outer : List Env} {s : Shared} {H : Hp} {E : XK}
theorem cxK0 : (cxOf CX P w K mg base N q sc f cd A outer s H E).nox.K = K := rfl
theorem cxK1 : (cxOf CX P w K mg base N q sc f cd A outer s H E).K = K := rfl
end
theorem dec_eq {p : Prop} [Decidable p] : (decide p = true) = p := by simp
theorem bl_inj {a b : Bool} : (V.bl a = V.bl b) = (a = b) := by simp
theorem if_dec {p A B : Prop} [Decidable p] : (if decide p = true then A else B) = (if p then A else B) := by by_cases h : p <;> simp [h]
/-- what is told of a value that is written next to ∃ -/
theorem ex_eq {α : Sort _} {p : α → Prop} {a : α} : (∃ x, a = x ∧ p x) = p a := by simp
theorem ex_eq' {α : Sort _} {p : α → Prop} {a : α} : (∃ x, x = a ∧ p x) = p a := by simp

/-! ### heaps: all but s is kept -/
def Kp (s : Addr) (H H' : Hp) : Prop := ∀ b o, b ≠ s → H b = some o → H' b = some o
theorem Kp.refl {s : Addr} {H : Hp} : Kp s H H := fun _ _ _ h => h
theorem Kp.trans {s : Addr} {H H1 H2 : Hp} (a : Kp s H H1) (b : Kp s H1 H2) : Kp s H H2 := fun c o n h => b c o n (a c o n h)
theorem Kp.same {s : Addr} {H H' : Hp} (h : Same H H') : Kp s H H' := fun b o _ e => h b o e
theorem Kp.new {s : Addr} {H H1 : Hp} {p : Addr} {o : HO} (a : Kp s H H1) (n : H1 p = none) : Kp s H (upd H1 p o) := fun b u hb e => by
  have e1 := a b u hb e
  rw [upd_ne (ne_of_none e1 n)]
  exact e1
theorem Kp.at_ {s : Addr} {H H1 : Hp} {o : HO} (a : Kp s H H1) : Kp s H (upd H1 s o) := fun b u hb e => by
  rw [upd_ne hb]
  exact a b u hb e
/-- a thing that was not there at the start is changed -/
theorem Kp.own {s : Addr} {H H1 : Hp} {p : Addr} {o : HO} (a : Kp s H H1) (n : H p = none) : Kp s H (upd H1 p o) := fun b u hb e => by
  rw [upd_ne (ne_of_none e n)]
  exact a b u hb e
theorem Same.new {H H1 : Hp} {p : Addr} {o : HO} (a : Same H H1) (n : H1 p = none) : Same H (upd H1 p o) := fun b u e => by
  have e1 := a b u e
  rw [upd_ne (ne_of_none e1 n)]
  exact e1
theorem Same.own {H H1 : Hp} {p : Addr} {o : HO} (a : Same H H1) (n : H p = none) : Same H (upd H1 p o) := fun b u e => by
  rw [upd_ne (ne_of_none e n)]
  exact a b u e
theorem Kp.free {s : Addr} {H H' : Hp} (a : Kp s H H') {p : Addr} (hp : p ≠ s) (n : H' p = none) : H p = none := by
  cases e : H p with
  | none => rfl
  | some o =>
    rw [a p o hp e] at n
    cases n

/-! ### the draws -/
/-- the five numbers of the draws' state -/
def StAt (s : Addr) (H : Hp) : Prop := ∃ i v k t g : Int, 0 ≤ i ∧ H s = some (.lst [.int i, .int v, .int k, .int t, .int g])
structure Drw (d s : Addr) (H : Hp) : Prop where
  cs : ∃ c, H d = some (.lst [.ref c, .ref s]) ∧ c ≠ s ∧ ∃ ns : List Int, H c = some (.lst (ns.map V.int))
  st : StAt s H
  ds : d ≠ s
theorem Drw.kp {d s : Addr} {H H' : Hp} (D : Drw d s H) (k : Kp s H H') (st : StAt s H') : Drw d s H' := by
  obtain ⟨c, h1, h2, ns, h3⟩ := D.cs
  exact ⟨⟨c, k _ _ D.ds h1, h2, ns, k _ _ h2 h3⟩, st, D.ds⟩
/-- what a def that draws leaves: the draws are drawn on, all else is kept -/
structure Aft (d s : Addr) (H H' : Hp) : Prop where
  kp : Kp s H H'
  dr : Drw d s H'
theorem Aft.trans {d s : Addr} {H H1 H2 : Hp} (a : Aft d s H H1) (b : Aft d s H1 H2) : Aft d s H H2 := ⟨a.kp.trans b.kp, b.dr⟩
theorem Aft.refl {d s : Addr} {H : Hp} (D : Drw d s H) : Aft d s H H := ⟨.refl, D⟩
theorem Drw.same {d s : Addr} {H H' : Hp} (D : Drw d s H) (k : Same H H') : Drw d s H' := by
  obtain ⟨i, v, kk, t, g, h0, h1⟩ := D.st
  exact D.kp (.same k) ⟨i, v, kk, t, g, h0, k _ _ h1⟩
theorem Aft.new {d s : Addr} {H H1 : Hp} {p : Addr} {o : HO} (a : Aft d s H H1) (n : H1 p = none) : Aft d s H (upd H1 p o) :=
  ⟨a.kp.new n, a.dr.same (Same.new (Same.refl _) n)⟩

/-! ### small readings -/
theorem use_ixL {K : PySem.W.Frag} {p : Addr} {xs : List V} {i : Int} {v : V} {H : Hp} {Q : VK} (h : H p = some (.lst xs)) (e : atI xs i = some v) (q : Q v H) : rIxL K (.ref p) (.int i) H Q := ⟨p, xs, i, v, rfl, rfl, SqL.of h, e, q⟩
theorem use_ixT {K : PySem.W.Frag} {p : Addr} {xs : List V} {i : Int} {v : V} {H : Hp} {Q : VK} (h : H p = some (.tup xs)) (e : atI xs i = some v) (q : Q v H) : rIxT K (.ref p) (.int i) H Q := ⟨p, xs, i, v, rfl, rfl, SqT.of h, e, q⟩
theorem use_setL {p : Addr} {xs : List V} {k : Int} {j : Nat} {v : V} {H : Hp} {Q : Hp → Prop} (h : H p = some (.lst xs)) (e : ixN xs.length k = some j) (q : Q (upd H p (.lst (xs.set j v)))) : rSetL (.ref p) (.int k) v H Q := ⟨p, xs, k, j, rfl, rfl, h, e, q⟩
theorem Aft.st {d s : Addr} {H : Hp} (D : Drw d s H) {i v k t g : Int} (h0 : 0 ≤ i) : Aft d s H (upd H s (.lst [.int i, .int v, .int k, .int t, .int g])) :=
  have k1 : Kp s H (upd H s (.lst [.int i, .int v, .int k, .int t, .int g])) := Kp.refl.at_
  ⟨k1, D.kp k1 ⟨i, v, k, t, g, h0, upd_same⟩⟩
theorem Aft.st2 {d s : Addr} {H H1 : Hp} (a : Aft d s H H1) {i v k t g : Int} (h0 : 0 ≤ i) : Aft d s H (upd H1 s (.lst [.int i, .int v, .int k, .int t, .int g])) := a.trans (Aft.st a.dr h0)
theorem atI_cons0 {α : Type} {x : α} {xs : List α} : atI (x :: xs) 0 = some x := atI_nat (j := 0) rfl
theorem atI_int {xs : List Int} {i : Int} (h0 : 0 ≤ i) (h : i < (xs.map V.int).length) : ∃ n, atI (xs.map V.int) i = some (V.int n) := by
  obtain ⟨j, rfl⟩ := Int.eq_ofNat_of_zero_le h0
  have hj : j < (xs.map V.int).length := by omega
  have hj2 : j < xs.length := by rw [List.length_map] at hj; exact hj
  refine ⟨xs[j], atI_nat ?_⟩
  rw [List.getElem?_map, List.getElem?_eq_getElem hj2]
  rfl
/-! ### calls of built-ins, by ints and lists alone -/
section
variable {X : Cx}
def rInt1 : List V → Hp → VK → Prop := fun xs H Q => ∃ i, xs = [.int i] ∧ Q (.int i) H
theorem call_intI : CallR X (.type "int") rInt1 := fun pins s σ H xs us Q I r h => call_int1 pins s σ H xs us Q I r (.inl h)
def rLenL : List V → Hp → VK → Prop := fun vs H Q => ∃ p xs, vs = [.ref p] ∧ H p = some (.lst xs) ∧ Q (.int xs.length) H
theorem call_lenL : CallR X (.builtin "len") rLenL := fun pins s σ H vs us Q I r h => by
  obtain ⟨p, xs, rfl, e, q⟩ := h
  exact call_len_seq pins s σ H _ us Q I r ⟨p, xs, rfl, .inl (SqL.of e), q⟩
def rLenT : List V → Hp → VK → Prop := fun vs H Q => ∃ p xs, vs = [.ref p] ∧ H p = some (.tup xs) ∧ Q (.int xs.length) H
theorem call_lenT : CallR X (.builtin "len") rLenT := fun pins s σ H vs us Q I r h => by
  obtain ⟨p, xs, rfl, e, q⟩ := h
  exact call_len_seq pins s σ H _ us Q I r ⟨p, xs, rfl, .inr (SqT.of e), q⟩
end
theorem use_lenL {p : Addr} {xs : List V} {H : Hp} {Q : VK} (h : H p = some (.lst xs)) (q : Q (.int xs.length) H) : rLenL [.ref p] H Q := ⟨p, xs, rfl, h, q⟩
theorem use_lenT {p : Addr} {xs : List V} {H : Hp} {Q : VK} (h : H p = some (.tup xs)) (q : Q (.int xs.length) H) : rLenT [.ref p] H Q := ⟨p, xs, rfl, h, q⟩
/-! ### loops -/
theorem use_forL {K : PySem.W.Frag} {te : TE} {a : Addr} {xs : List V} {g : TG} {tb : TS} {D : Ends} {σ : L2.St} {H : Hp} (ht : ∀ Q : VK, Q (.ref a) H → te σ H Q) (Pv : Nat → L2.St → Hp → Prop) (h0 : Pv 0 σ H) (hl : ∀ i σ H, i ≤ xs.length → Pv i σ H → SqL K H a xs)
    (hs : ∀ i x σ H, xs[i]? = some x → Pv i σ H → g x σ H fun σ2 H2 => tb { D with nx := Pv (i + 1), ct := Pv (i + 1), bk := D.nx } σ2 H2) (hd : ∀ σ H, Pv xs.length σ H → D.nx σ H) : tFor (iList K te) g tb D σ H :=
  ht _ ⟨a, rfl, ⟨xs, hl 0 σ H (Nat.zero_le _) h0⟩, for_list Pv h0 hl hs hd⟩
theorem use_forR {te : TE} {j : Int} {g : TG} {tb : TS} {D : Ends} {σ : L2.St} {H : Hp} (ht : ∀ Q : VK, Q (.int j) H → te σ H Q) (h1 : j < 2 ^ 62) (h2 : -(2 ^ 62) ≤ j) (Pv : Nat → L2.St → Hp → Prop) (h0 : Pv 0 σ H)
    (hs : ∀ i σ H, i < j.toNat → Pv i σ H → g (.int (0 + (i : Int))) σ H fun σ2 H2 => tb { D with nx := Pv (i + 1), ct := Pv (i + 1), bk := D.nx } σ2 H2) (hd : ∀ σ H, Pv j.toNat σ H → D.nx σ H) : tFor (iRng1 (tCons te tNil)) g tb D σ H :=
  ht _ ⟨j, rfl, h2, h1, for_range Pv h0 hs hd⟩
theorem use_while {c : TT} {tb : TS} {D : Ends} {σ : L2.St} {H : Hp} (Pv : Nat → L2.St → Hp → Prop) (m0 : Nat) (h0 : Pv m0 σ H)
    (hs : ∀ m σ H, Pv m σ H → c σ H fun b H1 => if b = true then ∃ N : L2.St → Hp → Prop, (∀ σ' H', N σ' H' → ∃ m', m' < m ∧ Pv m' σ' H') ∧ tb { D with nx := N, ct := N, bk := D.nx } σ H1 else D.nx σ H1) : tWhile c tb D σ H := ⟨Pv, ⟨m0, h0⟩, hs⟩
theorem use_forRX {te : TE} {g : TG} {tb : TS} {D : Ends} {σ : L2.St} {H : Hp} {R : Int → Hp → Prop} (ht : ∀ Q : VK, (∀ j H', R j H' → Q (.int j) H') → te σ H Q) (hb : ∀ j H', R j H' → -(2 ^ 62) ≤ j ∧ j < 2 ^ 62) (Pv : Int → Nat → L2.St → Hp → Prop) (h0 : ∀ j H', R j H' → Pv j 0 σ H')
    (hs : ∀ j i σ H, i < j.toNat → Pv j i σ H → g (.int (0 + (i : Int))) σ H fun σ2 H2 => tb { D with nx := Pv j (i + 1), ct := Pv j (i + 1), bk := D.nx } σ2 H2) (hd : ∀ j σ H, Pv j j.toNat σ H → D.nx σ H) : tFor (iRng1 (tCons te tNil)) g tb D σ H :=
  ht _ fun j H' r => ⟨j, rfl, (hb j H' r).1, (hb j H' r).2, for_range (Pv j) (h0 j H' r) (hs j) (hd j)⟩
theorem use_forLX {K : PySem.W.Frag} {te : TE} {g : TG} {tb : TS} {D : Ends} {σ : L2.St} {H : Hp} {R : Addr → List V → Hp → Prop} (ht : ∀ Q : VK, (∀ a xs H', R a xs H' → Q (.ref a) H') → te σ H Q) (Pv : Addr → List V → Nat → L2.St → Hp → Prop) (h0 : ∀ a xs H', R a xs H' → Pv a xs 0 σ H')
    (hl : ∀ a xs i σ H, i ≤ xs.length → Pv a xs i σ H → SqL K H a xs)
    (hs : ∀ a xs i x σ H, xs[i]? = some x → Pv a xs i σ H → g x σ H fun σ2 H2 => tb { D with nx := Pv a xs (i + 1), ct := Pv a xs (i + 1), bk := D.nx } σ2 H2) (hd : ∀ a xs σ H, Pv a xs xs.length σ H → D.nx σ H) : tFor (iList K te) g tb D σ H :=
  ht _ fun a xs H' r => ⟨a, rfl, ⟨xs, hl a xs 0 σ H' (Nat.zero_le _) (h0 a xs H' r)⟩, for_list (Pv a xs) (h0 a xs H' r) (hl a xs) (hs a xs) (hd a xs)⟩
/-! ### plain data -/
inductive T where
  | non | bl (b : Bool) | int (i : Int) | str (x : Str) | lst (ts : List T) | tup (ts : List T) | dic (t : T)
/-! v is the data t, every object of which is at an address of F -/
mutual
def Dt (F : Addr → Prop) (H : Hp) : V → T → Prop
  | v, .non => v = .non
  | v, .bl b => v = .bl b
  | v, .int i => v = .int i
  | v, .str x => v = .str x
  | v, .lst ts => ∃ a xs, v = .ref a ∧ F a ∧ H a = some (.lst xs) ∧ DtL F H xs ts ∧ ts.length ≤ 100000
  | v, .tup ts => ∃ a xs, v = .ref a ∧ F a ∧ H a = some (.tup xs) ∧ DtL F H xs ts ∧ ts.length ≤ 100000
  | v, .dic t => ∃ a x, v = .ref a ∧ F a ∧ H a = some (.dK [(Sum.inr "a", x)]) ∧ Dt F H x t
def DtL (F : Addr → Prop) (H : Hp) : List V → List T → Prop
  | xs, [] => xs = []
  | xs, t :: ts => ∃ v vs, xs = v :: vs ∧ Dt F H v t ∧ DtL F H vs ts
end
mutual
def dep : T → Nat
  | .lst ts => depL ts + 1
  | .tup ts => depL ts + 1
  | .dic t => dep t + 1
  | _ => 0
def depL : List T → Nat
  | [] => 0
  | t :: ts => max (dep t) (depL ts)
end
section
variable {F G : Addr → Prop} {H H' : Hp}
mutual
theorem Dt.imp (hF : ∀ a o, F a → H a = some o → G a ∧ H' a = some o) : ∀ {v : V} (t : T), Dt F H v t → Dt G H' v t
  | _, .non, h => h
  | _, .bl _, h => h
  | _, .int _, h => h
  | _, .str _, h => h
  | _, .lst ts, h => by
    obtain ⟨a, xs, e, f, ha, hx, hz⟩ := h
    exact ⟨a, xs, e, (hF a _ f ha).1, (hF a _ f ha).2, DtL.imp hF ts hx, hz⟩
  | _, .tup ts, h => by
    obtain ⟨a, xs, e, f, ha, hx, hz⟩ := h
    exact ⟨a, xs, e, (hF a _ f ha).1, (hF a _ f ha).2, DtL.imp hF ts hx, hz⟩
  | _, .dic t, h => by
    obtain ⟨a, x, e, f, ha, hx⟩ := h
    exact ⟨a, x, e, (hF a _ f ha).1, (hF a _ f ha).2, Dt.imp hF t hx⟩
theorem DtL.imp (hF : ∀ a o, F a → H a = some o → G a ∧ H' a = some o) : ∀ {xs : List V} (ts : List T), DtL F H xs ts → DtL G H' xs ts
  | _, [], h => h
  | _, t :: ts, h => by
    obtain ⟨v, vs, e, h1, h2⟩ := h
    exact ⟨v, vs, e, Dt.imp hF t h1, DtL.imp hF ts h2⟩
end
theorem Dt.same {v : V} {t : T} (h : Dt F H v t) (k : Same H H') : Dt F H' v t := Dt.imp (fun a o f e => ⟨f, k a o e⟩) t h
theorem DtL.same {v : List V} {t : List T} (h : DtL F H v t) (k : Same H H') : DtL F H' v t := DtL.imp (fun a o f e => ⟨f, k a o e⟩) t h
theorem Dt.kp {s : Addr} {v : V} {t : T} (h : Dt F H v t) (hs : ∀ a, F a → a ≠ s) (k : Kp s H H') : Dt F H' v t := Dt.imp (fun a o f e => ⟨f, k a o (hs a f) e⟩) t h
theorem DtL.kp {s : Addr} {v : List V} {t : List T} (h : DtL F H v t) (hs : ∀ a, F a → a ≠ s) (k : Kp s H H') : DtL F H' v t := DtL.imp (fun a o f e => ⟨f, k a o (hs a f) e⟩) t h
theorem Dt.to {v : V} {t : T} (h : Dt F H v t) (hs : ∀ a, F a → G a) : Dt G H v t := Dt.imp (fun a o f e => ⟨hs a f, e⟩) t h
theorem DtL.to {v : List V} {t : List T} (h : DtL F H v t) (hs : ∀ a, F a → G a) : DtL G H v t := DtL.imp (fun a o f e => ⟨hs a f, e⟩) t h
theorem DtL.len : ∀ {xs : List V} (ts : List T), DtL F H xs ts → xs.length = ts.length
  | _, [], h => by rw [show _ = [] from h]; rfl
  | _, t :: ts, h => by
    obtain ⟨v, vs, rfl, h1, h2⟩ := h
    rw [List.length_cons, List.length_cons, DtL.len ts h2]
theorem DtL.get : ∀ {xs : List V} (ts : List T) {i : Nat} {x : V}, DtL F H xs ts → xs[i]? = some x → ∃ t, ts[i]? = some t ∧ Dt F H x t
  | _, [], _, _, h, e => by rw [show _ = [] from h] at e; cases e
  | _, t :: ts, 0, x, h, e => by
    obtain ⟨v, vs, rfl, h1, h2⟩ := h
    cases e
    exact ⟨t, rfl, h1⟩
  | _, t :: ts, i + 1, x, h, e => by
    obtain ⟨v, vs, rfl, h1, h2⟩ := h
    exact DtL.get ts (i := i) h2 e
theorem DtL.get' {xs : List V} {ts : List T} {i : Nat} {t : T} (h : DtL F H xs ts) (e : ts[i]? = some t) : ∃ x, xs[i]? = some x ∧ Dt F H x t := by
  have hi := (List.getElem?_eq_some_iff.mp e).1
  have hx : i < xs.length := by rw [DtL.len ts h]; exact hi
  obtain ⟨t', e', d⟩ := DtL.get ts h (List.getElem?_eq_getElem hx)
  rw [e] at e'
  cases e'
  exact ⟨_, List.getElem?_eq_getElem hx, d⟩
theorem DtL.app : ∀ {xs ys : List V} (ts : List T) {us : List T}, DtL F H xs ts → DtL F H ys us → DtL F H (xs ++ ys) (ts ++ us)
  | _, _, [], _, h, k => by rw [show _ = [] from h]; exact k
  | _, _, t :: ts, _, h, k => by
    obtain ⟨v, vs, rfl, h1, h2⟩ := h
    exact ⟨v, vs ++ _, rfl, h1, DtL.app ts h2 k⟩
theorem DtL.one {v : V} {t : T} (h : Dt F H v t) : DtL F H [v] [t] := ⟨v, [], rfl, h, rfl⟩
theorem DtL.cons {v : V} {t : T} {vs : List V} {ts : List T} (h : Dt F H v t) (k : DtL F H vs ts) : DtL F H (v :: vs) (t :: ts) := ⟨v, vs, rfl, h, k⟩
theorem depL_mem : ∀ {ts : List T} {i : Nat} {t : T}, ts[i]? = some t → dep t ≤ depL ts
  | [], _, _, e => by cases e
  | u :: ts, 0, t, e => by
    cases e
    exact Nat.le_max_left _ _
  | u :: ts, i + 1, t, e => Nat.le_trans (depL_mem (ts := ts) (i := i) e) (Nat.le_max_right _ _)
end
/-! ### what kind of data it is -/
def tyN : T → String
  | .non => "NoneType"
  | .bl _ => "bool"
  | .int _ => "int"
  | .str _ => "str"
  | .lst _ => "list"
  | .tup _ => "tuple"
  | .dic _ => "dict"
theorem tyx {K : PySem.W.Frag} {F : Addr → Prop} {H : Hp} {v : V} {t : T} (h : Dt F H v t) : TyX K H v (.type (tyN t)) := by
  cases t with
  | non => rw [show v = _ from h]; exact .base .non
  | bl b => rw [show v = _ from h]; exact .base (.bl b)
  | int i => rw [show v = _ from h]; exact .base (.int i)
  | str x => rw [show v = _ from h]; exact .base (.str x)
  | lst ts =>
    obtain ⟨a, xs, rfl, _, e, _⟩ := h
    exact .base (.lst e)
  | tup ts =>
    obtain ⟨a, xs, rfl, _, e, _⟩ := h
    exact .base (.tup e)
  | dic t =>
    obtain ⟨a, x, rfl, _, e, _⟩ := h
    exact .base (.dK e)
theorem use_isi {K : PySem.W.Frag} {F : Addr → Prop} {H : Hp} {v : V} {t : T} {n : String} {b : Bool} {Q : VK} (h : Dt F H v t) (k : kitB (tyN t) n = some b) (q : Q (.bl b) H) : rIsi K [v, .ty n] H Q :=
  ⟨v, .ty n, _, _, b, rfl, .ty n, tyx h, kit_ty k, q⟩
def isInt : T → Bool
  | .int _ => true
  | _ => false
def isBl : T → Bool
  | .bl _ => true
  | _ => false
def isStr : T → Bool
  | .str _ => true
  | _ => false
def isLst : T → Bool
  | .lst _ => true
  | _ => false
def isTup : T → Bool
  | .tup _ => true
  | _ => false
def isDic : T → Bool
  | .dic _ => true
  | _ => false
theorem kit_int (t : T) : kitB (tyN t) "int" = some (isInt t || isBl t) := by
  cases t <;> simp only [tyN, isInt, isBl, isStr, isLst, isTup, isDic] <;> decide +kernel
theorem kit_bool (t : T) : kitB (tyN t) "bool" = some (isBl t) := by
  cases t <;> simp only [tyN, isInt, isBl, isStr, isLst, isTup, isDic] <;> decide +kernel
theorem kit_str (t : T) : kitB (tyN t) "str" = some (isStr t) := by
  cases t <;> simp only [tyN, isInt, isBl, isStr, isLst, isTup, isDic] <;> decide +kernel
theorem kit_list (t : T) : kitB (tyN t) "list" = some (isLst t) := by
  cases t <;> simp only [tyN, isInt, isBl, isStr, isLst, isTup, isDic] <;> decide +kernel
theorem kit_tuple (t : T) : kitB (tyN t) "tuple" = some (isTup t) := by
  cases t <;> simp only [tyN, isInt, isBl, isStr, isLst, isTup, isDic] <;> decide +kernel
theorem kit_dict (t : T) : kitB (tyN t) "dict" = some (isDic t) := by
  cases t <;> simp only [tyN, isInt, isBl, isStr, isLst, isTup, isDic] <;> decide +kernel
section
variable {X : Cx}
/-- len of a list, a tuple, a dict -/
def rLenD : List V → Hp → VK → Prop := fun vs H Q => ∃ p kvs, vs = [.ref p] ∧ H p = some (.dK kvs) ∧ Q (.int kvs.length) H
def rLenA : List V → Hp → VK → Prop := fun vs H Q => rLenL vs H Q ∨ rLenT vs H Q ∨ rLenD vs H Q
theorem call_lenA : CallR X (.builtin "len") rLenA := fun pins s σ H vs us Q I r h => by
  rcases h with h | h | h
  · exact call_lenL pins s σ H vs us Q I r h
  · exact call_lenT pins s σ H vs us Q I r h
  · obtain ⟨p, kvs, rfl, e, q⟩ := h
    exact call_lenD pins s σ H _ us Q I r ⟨p, kvs, rfl, e, q⟩
/-- list(d), a dict -/
def rLstD : List V → Hp → VK → Prop := fun vs H Q => ∃ p kvs, vs = [.ref p] ∧ H p = some (.dK kvs) ∧ ∀ l, H l = none → Q (.ref l) (upd H l (.lst (kvs.map fun kv => kV kv.1)))
theorem call_lstD (hc : X.calm = true) : CallR X (.type "list") rLstD := fun pins s σ H vs us Q I r h => by
  obtain ⟨p, kvs, rfl, e, q⟩ := h
  exact call_listD hc pins s σ H _ us Q I r ⟨p, kvs, rfl, .inl e, q⟩
/-- tuple(list) -/
def rTupL : List V → Hp → VK → Prop := fun vs H Q => ∃ p ys, vs = [.ref p] ∧ H p = some (.lst ys) ∧ ∀ l, H l = none → Q (.ref l) (upd H l (.tup ys))
theorem call_tupL : CallR X (.type "tuple") rTupL := fun pins s σ H vs us Q I r h => by
  obtain ⟨p, ys, rfl, e, q⟩ := h
  exact call_tuple_of pins s σ H _ us Q I r ⟨p, ys, rfl, .inl ⟨SqL.of e, q⟩⟩
/-- xs[i], a list or a tuple -/
def rIxA (K : PySem.W.Frag) : R2 := fun x y H Q => rIxL K x y H Q ∨ rIxT K x y H Q
theorem ix_A : IxR X (rIxA X.K) := ix_list.or ix_tup
end
theorem use_pick {K : PySem.W.Frag} {p : Addr} {xs : List V} {i : Int} {H : Hp} {Q : VK} (h : H p = some (.lst xs)) (h0 : 0 ≤ i) (h1 : i < xs.length) (q : ∀ x ∈ xs, Q x H) : rIxL K (.ref p) (.int i) H Q := by
  obtain ⟨j, rfl⟩ := Int.eq_ofNat_of_zero_le h0
  have hj : j < xs.length := by omega
  exact use_ixL h (atI_nat (List.getElem?_eq_getElem hj)) (q _ (List.getElem_mem hj))
section
variable {X : Cx}
def rMx : List V → Hp → VK → Prop := fun vs H Q => ∃ i j, vs = [.int i, .int j] ∧ Q (.int (max i j)) H
def rMn : List V → Hp → VK → Prop := fun vs H Q => ∃ i j, vs = [.int i, .int j] ∧ Q (.int (min i j)) H
theorem call_mx (hc : X.calm = true) : CallR X (.builtin "max") rMx := fun pins s σ H vs us Q I r h => by
  obtain ⟨i, j, rfl, q⟩ := h
  refine call_max2 hc pins s σ H _ us Q I r ⟨i, j, rfl, ?_⟩
  have e : (if j > i then j else i) = max i j := by omega
  rw [e]
  exact q
theorem call_mn (hc : X.calm = true) : CallR X (.builtin "min") rMn := fun pins s σ H vs us Q I r h => by
  obtain ⟨i, j, rfl, q⟩ := h
  refine call_min2 hc pins s σ H _ us Q I r ⟨i, j, rfl, ?_⟩
  have e : (if j < i then j else i) = min i j := by omega
  rw [e]
  exact q
end
theorem freshS {s : Addr} {H : Hp} {o : HO} (h : H s = some o) : ∀ a, H a = none → a ≠ s := fun a e z => by
  rw [z, h] at e
  cases e
theorem StAt.ne {s : Addr} {H : Hp} (h : StAt s H) : ∀ a, H a = none → a ≠ s := by
  obtain ⟨_, _, _, _, _, _, e⟩ := h
  exact freshS e
theorem Drw.ne {d s : Addr} {H : Hp} (h : Drw d s H) : ∀ a, H a = none → a ≠ s := h.st.ne
theorem Aft.free {d s : Addr} {H H' : Hp} (a : Aft d s H H') {b : Addr} (n : H' b = none) : H b = none := a.kp.free (a.dr.ne b n) n
theorem use_forT {K : PySem.W.Frag} {te : TE} {a : Addr} {xs : List V} {g : TG} {tb : TS} {D : Ends} {σ : L2.St} {H : Hp} (ht : ∀ Q : VK, Q (.ref a) H → te σ H Q) (Pv : Nat → L2.St → Hp → Prop) (h0 : Pv 0 σ H) (hl : ∀ i σ H, i ≤ xs.length → Pv i σ H → SqT K H a xs)
    (hs : ∀ i x σ H, xs[i]? = some x → Pv i σ H → g x σ H fun σ2 H2 => tb { D with nx := Pv (i + 1), ct := Pv (i + 1), bk := D.nx } σ2 H2) (hd : ∀ σ H, Pv xs.length σ H → D.nx σ H) : tFor (iTup K te) g tb D σ H :=
  ht _ ⟨a, rfl, ⟨xs, hl 0 σ H (Nat.zero_le _) h0⟩, for_tup Pv h0 hl hs hd⟩
theorem scal_int {a b : Int} : (scal (V.int a) (V.int b) = true) = True := by simp [scal]
theorem scal_bl {a b : Bool} : (scal (V.bl a) (V.bl b) = true) = True := by simp [scal]
theorem scal_str {a b : Str} : (scal (V.str a) (V.str b) = true) = True := by simp [scal]
theorem scal_is {a : Int} {b : Str} : (scal (V.str b) (V.int a) = true) = True := by simp [scal]
theorem ty_list {K : PySem.W.Frag} {p : Addr} {xs : List V} {H : Hp} (h : H p = some (.lst xs)) : tyV K "list" (.ref p) H := Or.inl ⟨rfl, _, Or.inl (Or.inl h)⟩
theorem use_append {l : Addr} {xs : List V} {y : V} {H : Hp} {Q : VK} (h : H l = some (.lst xs)) (n : xs.length < sizeLine) (q : Q .non (upd H l (.lst (xs ++ [y])))) : rAppend (.ref l) [y] H Q := ⟨l, xs, y, rfl, rfl, h, n, q⟩
theorem small_sz {n : Nat} (h : n ≤ 200000) : n < sizeLine := Nat.lt_of_le_of_lt h (by decide)
/-- a list at D that is being made gets one more datum -/
theorem grow {G : Addr → Prop} {H H' H4 : Hp} {D : Addr} {acc : List V} {us : List T} {r : V} {t : T} (hD : H D = none) (s1 : Same H H') (s4 : Same H' H4) (hacc : DtL (fun a => H a = none ∧ a ≠ D) H' acc us) (hG : ∀ a, G a → H a = none ∧ a ≠ D) (dr : Dt G H4 r t) :
    Same H (upd H4 D (.lst (acc ++ [r]))) ∧ DtL (fun a => H a = none ∧ a ≠ D) (upd H4 D (.lst (acc ++ [r]))) (acc ++ [r]) (us ++ [t]) := by
  refine ⟨Same.own (s1.trans s4) hD, DtL.app _ (DtL.imp (fun a o fa ea => ⟨fa, ?_⟩) _ hacc) (.one (Dt.imp (fun a o fa ea => ⟨hG a fa, ?_⟩) _ dr))⟩
  · rw [upd_ne fa.2]
    exact s4 _ _ ea
  · rw [upd_ne (hG a fa).2]
    exact ea
theorem new_of {H H' : Hp} {D : Addr} {o : HO} (s1 : Same H H') (eD : H' D = some o) : ∀ a, H' a = none → H a = none ∧ a ≠ D := fun a n => ⟨s1.free n, fun z => by rw [z, eD] at n; cases n⟩
theorem take_one {α : Type} {l : List α} {i : Nat} {x : α} (h : l[i]? = some x) : l.take (i + 1) = l.take i ++ [x] := by
  rw [List.take_add_one, h]
  rfl
theorem use_lcR {te tel : TE} {g : TG} {vs : List Nat} {σ : L2.St} {H : Hp} {Q : VK} {R : Int → Hp → Prop} (ht : ∀ Q : VK, (∀ j H', R j H' → Q (.int j) H') → te σ H Q) (hb : ∀ j H', R j H' → -(2 ^ 62) ≤ j ∧ j < 2 ^ 62) (Pv : Int → Addr → Nat → Hp → Prop)
    (h0 : ∀ j H' D, R j H' → H' D = none → Pv j D 0 (upd H' D (.lst [])))
    (hs : ∀ j D i H', i < j.toNat → Pv j D i H' → g (.int (0 + (i : Int))) (wipe σ vs) H' fun σ2 H2 => wipe σ2 vs = wipe σ vs ∧ tYes σ2 H2 fun b H3 => if b = true then tel σ2 H3 fun y H4 => ∃ acc, H4 D = some (.lst acc) ∧ acc.length < sizeLine ∧ Pv j D (i + 1) (upd H4 D (.lst (acc ++ [y]))) else Pv j D (i + 1) H3)
    (hd : ∀ j D H', Pv j D j.toNat H' → Q (.ref D) H') : tLc (iRng1 (tCons te tNil)) g tYes tel vs σ H Q :=
  ht _ fun j H' r => ⟨j, rfl, (hb j H' r).1, (hb j H' r).2, fun D hD => lc_range (Pv j D) (h0 j H' D r hD) (hs j D) (hd j D)⟩
theorem Aft.own {d s : Addr} {H H4 : Hp} {D : Addr} {o : HO} (D0 : Drw d s H) (a : Aft d s H H4) (hD : H D = none) : Aft d s H (upd H4 D o) := by
  have k : Kp s H (upd H4 D o) := a.kp.own hD
  obtain ⟨i, v, kk, t, g, h0, e⟩ := a.dr.st
  exact ⟨k, D0.kp k ⟨i, v, kk, t, g, h0, by rw [upd_ne (D0.ne D hD).symm]; exact e⟩⟩
/-- a list at D that is being made while something is drawn gets one more datum -/
theorem growA {G : Addr → Prop} {d s : Addr} {H H' H4 : Hp} {D : Addr} {acc : List V} {us : List T} {r : V} {t : T} (D0 : Drw d s H) (hD : H D = none) (a1 : Aft d s H H') (a4 : Aft d s H' H4) (hacc : DtL (fun a => H a = none ∧ a ≠ D) H' acc us) (hG : ∀ a, G a → H a = none ∧ a ≠ D) (dr : Dt G H4 r t) :
    Aft d s H (upd H4 D (.lst (acc ++ [r]))) ∧ DtL (fun a => H a = none ∧ a ≠ D) (upd H4 D (.lst (acc ++ [r]))) (acc ++ [r]) (us ++ [t]) := by
  refine ⟨Aft.own D0 (a1.trans a4) hD, DtL.app _ (DtL.imp (fun a o fa ea => ⟨fa, ?_⟩) _ hacc) (.one (Dt.imp (fun a o fa ea => ⟨hG a fa, ?_⟩) _ dr))⟩
  · rw [upd_ne fa.2]
    exact a4.kp _ _ (D0.ne a fa.1) ea
  · rw [upd_ne (hG a fa).2]
    exact ea
theorem new_ofA {d s : Addr} {H H' : Hp} {D : Addr} {o : HO} (a : Aft d s H H') (eD : H' D = some o) : ∀ b, H' b = none → H b = none ∧ b ≠ D := fun b n => ⟨a.free n, fun z => by rw [z, eD] at n; cases n⟩
theorem depL_app : ∀ (ts us : List T), depL (ts ++ us) = max (depL ts) (depL us)
  | [], us => by simp [depL]
  | t :: ts, us => by
    show max (dep t) (depL (ts ++ us)) = max (max (dep t) (depL ts)) (depL us)
    rw [depL_app ts us]
    omega
end LL

namespace LL
open PySem PySem.Spec PyProof.Rows L2 L2H
/-! ### defs that are called within an except suite, on the exception that it holds -/
/-- a: the exception, D its class, dd its dict -/
structure FnZ (P : Program) (w : World) (K : PySem.W.Frag) (mg : Str → Option Value) (base : Heap) (k : Nat) (f : Addr) (fd : FuncData) (ps : List Str) (sp : Addr → Addr → Addr → Sp) : Prop where
  len : ∀ a D dd vs H Q E, sp a D dd vs H Q E → vs.length = ps.length
  run : ∀ (A : Around) (outer : List Env) (s : Shared) (H : Hp) (args : Args) (us : List Value) (vs : List V) (Q : VK) (E : XK) (p : Addr × Obj) (D dd : Addr),
    RoomH k A → Zc (.ref D) (some dd) p.2 → (∃ fs, p.2.data = .fields fs) → PinOk outer H s p → Env0 P w K mg base A outer s H → BindsTo s fd args (ps.zip us) → Vals vs us → sp p.1 D dd vs H Q E →
    codeAny (model P w) A (.call (.ref f) args) (CR CX0 outer P w H s Q E) s
section
variable {P : Program} {w : World} {K : PySem.W.Frag} {mg : Str → Option Value} {base : Heap} {k : Nat} {f : Addr} {fd : FuncData} {N ps : List Str} {sp : Addr → Addr → Addr → Sp} {x qual : Str} {pa : Arguments} {bd : List Stmt} {sc : Scope} {kws : List (Str × V)}
theorem okZ (F : FunD K x qual pa bd sc [] kws f fd) (S : FnScope N ps sc) (len : ∀ a D dd vs H Q E, sp a D dd vs H Q E → vs.length = ps.length)
    (hb : ∀ (cdv : Value) (A : Around) (outer : List Env) (s : Shared) (H : Hp) (vs : List V) (Q : VK) (E : XK) (p : Addr × Obj) (D dd : Addr), RoomH k (A.deeper (envOfC qual sc s.heap.objs.size f cdv)) →
      Zc (.ref D) (some dd) p.2 → (∃ fs, p.2.data = .fields fs) → sp p.1 D dd vs H Q E →
      ∃ t, PSs (cxH CX0 P w K mg base N qual sc f cdv A outer s H E p) bd t ∧ t { nx := fun _ H' => Q .non H', rt := Q } (L2.start N vs) H) : FnZ P w K mg base (k + 1) f fd ps sp := by
  obtain ⟨oc, od, dV, kV, doc, pm, an, cdv, ct, osl, rfl, lk, hcd, _, _⟩ := F.ex
  constructor
  · exact len
  · intro A outer s H args us vs Q E p D dd hr hz hf hpin e0 hbi r hsp
    have KX : K.In s.heap := e0.mod.kin.keeps (fun b o e => (e0.bs b o e).1)
    have lim : s.heap.NoLimit := e0.mod.nolimit.keeps (fun b o e => (e0.bs b o e).1)
    have hl : vs.length = ps.length := len _ _ _ _ _ _ _ hsp
    refine codeAny_call_function hr.depth (KX _ _ lk) rfl S.co S.gen rfl (PySem.W.codeRec_of KX hcd) (hbi _ _ _ _ (wpAny_newFunctionEnv_cells S.kind ?_ ?_))
    · rintro ⟨n, v⟩ hy
      cases S.par n (List.of_mem_zip hy).1 with
      | inl q => exact Or.inl q
      | inr q => exact Or.inr ⟨q, PySem.W.cellsFrom_some _ _ _ (Or.inl q)⟩
    · rintro env he s1 xx
      subst he
      obtain ⟨t, ht, hq⟩ := hb cdv A outer s H vs Q E p D dd (hr.deeper _) hz hf hsp
      have I := inv_startH (CX := CX0) (E := E) S hpin e0 hl r xx
      refine ⟨lim.keeps xx.toInCall.keep, codeAny_func (wpAny_mono (ht.run [] s1 _ H _ I hq) ?_ (fun e s' hs => hs))⟩
      intro fl s' hs
      cases fl with
      | ret u =>
        obtain ⟨v, σ', H', J, rv, q⟩ := hs
        exact ⟨v, H', J.os, J.bare, J.base, J.hok, rv, q⟩
      | next =>
        obtain ⟨σ', H', J, q⟩ := hs
        exact ⟨.non, H', J.os, J.bare, J.base, J.hok, rfl, q⟩
      | brk =>
        obtain ⟨_, _, _, q⟩ := hs
        exact q.elim
      | cont =>
        obtain ⟨_, _, _, q⟩ := hs
        exact q.elim
end
/-- f(e, ..) within the suite that holds the exception a -/
def tCallZ (cls : Value) (d : Option Addr) (a : Addr) (sp : Addr → Addr → Addr → Sp) (t : TA) : TE := fun σ H Q => t σ H fun vs H1 => ∃ D dd : Addr, cls = .ref D ∧ d = some dd ∧ sp a D dd vs H1 Q E0
theorem pe_callZ {X : Cx} {k : Nat} {f a : Addr} {fd : FuncData} {ps : List Str} {sp : Addr → Addr → Addr → Sp} {x : Str} {q pos : Pos} {e : Expr} {es : List Expr} {t : TA} {oe : Obj} {cls : Value} {d : Option Addr} {pn : List (Addr × Obj)}
    (F : FnZ X.prog X.w X.K X.mg X.base k f fd ps sp) (hr : Room k X.A) (hz : Zc cls d oe) (hf : ∃ fs, oe.data = .fields fs) (hg : Gl X x) (hm : X.mg x = some (.ref f)) (hk : PySem.W.keepIn X.K (.ref f) = true) (hb : Binds X.K fd ps [])
    (ha : PA (X.suite a ((a, oe) :: pn)) (e :: es) t) (hdb : (x == ("__debug__" : Str)) = false := by decide) (he : starEach (e :: es) X.env = (false, eval e X.env) :: starEach es X.env := by rfl) (hpl : (backTo pos (starEach es X.env)).any (·.1) = false := by rfl) :
    PE (X.suite a ((a, oe) :: pn)) (.Call (.Name x q) (e :: es) [] pos) (tCallZ cls d a sp t) := by
  refine ⟨fun pins s σ H Q I h => ?_⟩
  refine wpAny_Call_Name_kw (ld_glob (X := X.suite a ((a, oe) :: pn)) I hg hm ?_ hdb)
  refine PySem.W.callWith_K (h₀ := X.base) I.ok.mod.kin hk (thn (ha.run pos pins s σ H _ I h) ?_) he hpl
  rintro us s1 ⟨vs, H1, I1, r, D, dd, e1, e2, q1⟩
  subst e1 e2
  refine ⟨I1.kIn, ?_⟩
  have hl : us.length = ps.length := r.length.symm.trans (F.len _ _ _ _ _ _ _ q1)
  have b := hb s1 us I1.kIn (by rw [List.append_nil]; exact hl)
  rw [List.append_nil] at b
  obtain ⟨g1, g2, g3, g4, g5⟩ := I1.pin (a, oe) (List.mem_append.mpr (.inl List.mem_cons_self))
  have hpin : PinOk X.stack H1 s1 (a, oe) := ⟨g1, g2, fun hm => (List.mem_cons.mp (I1.stkSub a hm)).elim g3 g4, g5⟩
  refine wpAny_call (codeAny_mono (F.run (X.A.mark (some (.ref a))) X.stack s1 H1 ⟨us, []⟩ us vs Q E0 (a, oe) D dd ⟨hr.dp, hr.un⟩ hz hf hpin I1.env0 b r q1) ?_)
  intro r2 s2 hq
  cases r2 with
  | error e3 => exact hq.elim
  | ok fl =>
    cases fl with
    | ret u => exact I1.after hq
    | next => exact hq.elim
    | brk => exact hq.elim
    | cont => exact hq.elim
/-- what an exception class must say, that isinstance asks its instances rightly -/
structure ExcD (K : PySem.W.Frag) (D : Addr) : Prop where
  hc : (PySem.W.clsIn K D).isSome = true
  hg : PySem.W.findIn K (.ref D) "__getattribute__" = some (some (.builtin "BaseException.__getattribute__"))
  hk : PySem.W.findIn K (.ref D) "__getattr__" = some none
  hs : PySem.W.subIn K (.ref D) (.type "BaseException") = some true
  ha : PySem.W.findIn K (.ref D) "__class__" = some (some (.builtin "object.__class__"))
  hn : PySem.W.specialIn K (.builtin "object.__class__") "__get__" = some (some (.builtin "getset_descriptor.__get__"))
  ht : PySem.W.takesIn K (.builtin "object.__class__") = some true
  hm : PySem.W.mroIn K D (.type "object") = some true
def excdB (K : PySem.W.Frag) (D : Addr) : Bool := (PySem.W.clsIn K D).isSome && (decide (PySem.W.findIn K (.ref D) "__getattribute__" = some (some (.builtin "BaseException.__getattribute__"))) && (decide (PySem.W.findIn K (.ref D) "__getattr__" = some none) &&
  (decide (PySem.W.subIn K (.ref D) (.type "BaseException") = some true) && (decide (PySem.W.findIn K (.ref D) "__class__" = some (some (.builtin "object.__class__"))) && (decide (PySem.W.specialIn K (.builtin "object.__class__") "__get__" = some (some (.builtin "getset_descriptor.__get__"))) &&
  (decide (PySem.W.takesIn K (.builtin "object.__class__") = some true) && decide (PySem.W.mroIn K D (.type "object") = some true)))))))
theorem excdB_ok {K : PySem.W.Frag} {D : Addr} (h : excdB K D = true) : ExcD K D := by
  obtain ⟨h1, h⟩ := Bool.and_eq_true_iff.mp h
  obtain ⟨h2, h⟩ := Bool.and_eq_true_iff.mp h
  obtain ⟨h3, h⟩ := Bool.and_eq_true_iff.mp h
  obtain ⟨h4, h⟩ := Bool.and_eq_true_iff.mp h
  obtain ⟨h5, h⟩ := Bool.and_eq_true_iff.mp h
  obtain ⟨h6, h⟩ := Bool.and_eq_true_iff.mp h
  obtain ⟨h7, h8⟩ := Bool.and_eq_true_iff.mp h
  exact ⟨h1, of_decide_eq_true h2, of_decide_eq_true h3, of_decide_eq_true h4, of_decide_eq_true h5, of_decide_eq_true h6, of_decide_eq_true h7, of_decide_eq_true h8⟩
/-- isinstance(e, c), e the exception -/
def rIsX (K : PySem.W.Frag) (a D dd : Addr) : List V → Hp → VK → Prop := fun xs H Q => ∃ (c : V) (cv : Value) (b : Bool) (fs : List (Str × V)), xs = [.ref a, c] ∧ ClsV c cv ∧ PySem.W.kitOne K (.ref D) cv = some b ∧ H dd = some (.xd fs) ∧ Q (.bl b) H
theorem call_isX {X : Cx} {p : Addr × Obj} {D dd : Addr} (hp : p ∈ X.pn) (C : ExcD X.K D) (hz : Zc (.ref D) (some dd) p.2) (hf : ∃ fs, p.2.data = .fields fs) : CallR X (.builtin "isinstance") (rIsX X.K p.1 D dd) := by
  intro pins s σ H xs us Q I r h
  obtain ⟨c, cv, b, fs, rfl, hcv, e, hd, q⟩ := h
  obtain ⟨u1, u2, rfl, r1, r2⟩ := vals2 r
  cases (show u1 = Value.ref p.1 from r1)
  have e2 := hcv.eq r2
  subst e2
  obtain ⟨hget, _⟩ := I.pin p (List.mem_append_left _ hp)
  have hx : ObjOk X.prog X.w H s.heap dd (.xd fs) := I.hok dd _ hd
  obtain ⟨mA, ⟨od, es, ep, ho, hr⟩, _⟩ := hx
  obtain ⟨vs, hv⟩ := hf
  have J : PySem.W.InstAt s.heap p.1 p.2 D (some od) := ⟨hget, hz.1, by unfold PySem.W.notCls; rw [hv] <;> rfl, by rw [hz.2]; exact ho⟩
  exact PySem.W.kia_one (PySem.W.kitx_exc C.hc C.hg C.hk C.hs C.ha C.hn C.ht C.hm) I.kIn J e (fun z => nomatch z) fun tk => ⟨.bl b, H, I.tok tk, rfl, q⟩
/-- what the written part says of an exception class with its own __init__, as a Bool -/
def oexB (K : PySem.W.Frag) (C : Addr) : Bool := (match K.lookup C with
    | some ⟨.type "type", _, .cls cd, sl⟩ => (match cd.mro, sl.toList with
      | .ref C' :: bm, [_, _, _, _, some (.builtin n), _] => decide (C' = C) && (decide (n = "ValueError.__new__") && (!cd.hasDel && (cd.hasDict && PySem.HandSPX.refsVE bm)))
      | _, _ => false)
    | _ => false) && (decide (PySem.W.findIn K (.ref C) "__setattr__" = some (some (.builtin "object.__setattr__"))) && (decide (PySem.W.subIn K (.ref C) (.type "BaseException") = some true) &&
  (decide (PySem.W.typeIn K (.ref C) = some (.type "type")) && PySem.W.keepIn K (.ref C))))
theorem oexB_ok {K : PySem.W.Frag} {C : Addr} (h : oexB K C = true) : OexC K C := by
  obtain ⟨h1, h⟩ := Bool.and_eq_true_iff.mp h
  obtain ⟨h2, h⟩ := Bool.and_eq_true_iff.mp h
  obtain ⟨h3, h⟩ := Bool.and_eq_true_iff.mp h
  obtain ⟨h4, h5⟩ := Bool.and_eq_true_iff.mp h
  refine ⟨?_, of_decide_eq_true h2, of_decide_eq_true h3, of_decide_eq_true h4, h5⟩
  split at h1
  · rename_i dd cd sl ho
    split at h1
    · rename_i C' bm k0 k1 k2 k3 n k5 hm hs
      simp only [Bool.and_eq_true, decide_eq_true_eq, Bool.not_eq_true'] at h1
      obtain ⟨rfl, rfl, hdel, hdct, hr⟩ := h1
      obtain ⟨nm, bs, mro, ns, qn, hd, sn, sub, ab, col, del⟩ := cd
      dsimp only at hm hdel hdct
      subst hm hdel hdct
      have hsl : sl = #[k0, k1, k2, k3, some (.builtin "ValueError.__new__"), k5] := by
        obtain ⟨l⟩ := sl
        dsimp only at hs
        rw [hs]
      subst hsl
      exact ⟨nm, qn, ns, bs, bm, sn, sub, ab, col, dd, k0, k1, k2, k3, k5, ho, hr⟩
    · cases h1
  · cases h1
theorem passR {X : Cx} {W : WX} {E : XK} (tk : Takes X W) (hW : ∀ cls d σ H, E cls d H → W cls d σ H) : Passes (L2.CX X.prog X.w) X E := passes_call tk hW
end LL

namespace LL
open PySem PySem.Spec PyProof.Rows L2
/-! ### the head's facts, and one more Bool of the written part -/
abbrev AlY : Type := He.AlD × Bool
def obsY (n : Nat) (fa : List He.Fa) (fn : List He.DefD) (ex : PySem.W.Frag → Bool) (g : Addr → Option Obj) : AlY := (He.obsD fa fn (He.frG g (He.asD g n)), ex (He.frG g (He.asD g n)))
structure SaysY (fa : List He.Fa) (fn : List He.DefD) (ex : PySem.W.Frag → Bool) (K : PySem.W.Frag) : Prop where
  d : He.SaysD fa fn K
  x : ex K = true
def hookY (n : Nat) (fa : List He.Fa) (fn : List He.DefD) (ex : PySem.W.Frag → Bool) : PySem.W.Hook where
  α := AlY
  obs := fun s => obsY n fa fn ex s.heap.get?
  val := fun _ => (He.valD fn, true)
  says := fun _ h => ∃ K : PySem.W.Frag, K.In h ∧ SaysY fa fn ex K
  of := fun _ _ e => ⟨_, He.frG_in, ⟨congrArg (fun z : AlY => z.1) e, congrArg (fun z : AlY => z.2) e⟩⟩
  keeps := fun _ _ _ ⟨K, hK, c⟩ k => ⟨K, PySem.W.Frag.In.keeps hK k, c⟩
theorem obsY_eq {n : Nat} {fa : List He.Fa} {fn : List He.DefD} {ex : PySem.W.Frag → Bool} {g : Addr → Option Obj} {s : Shared} (h : ∀ a, g a = s.heap.get? a) : obsY n fa fn ex g = (hookY n fa fn ex).obs s := by
  have e : g = s.heap.get? := funext h
  rw [e]
  rfl
theorem SaysY.ex {fa : List He.Fa} {fn : List He.DefD} {exs : List (PySem.W.Frag → Bool)} {K : PySem.W.Frag} (c : SaysY fa fn (fun K => exs.all fun e => e K) K) (i : Nat) {e : PySem.W.Frag → Bool} (h : exs[i]? = some e := by rfl) : e K = true :=
  List.all_eq_true.mp c.x e (List.mem_of_getElem? h)
end LL

namespace LL
open PySem PySem.Spec PyProof.Rows L2 L2H
/-- a field of the exception that a def called in an except suite is handed -/
theorem pe_xfP {X : Cx} {p : Addr × Obj} {C : Addr} {cls : Value} {d : Option Addr} {e : Expr} {te : TE} {pos : Pos} {n : Str} (hp : p ∈ X.pn) (T : XfC X.K C) (hno : PySem.W.findIn X.K (.ref C) n = some none)
    (hz : Zc cls d p.2) (hf : ∃ vs, p.2.data = .fields vs) (he : PE X e te) (hb : attributeBase e n X.env (eval e X.env) = eval e X.env := by rfl) :
    PE X (.Attribute e n pos) (tXf p.1 cls d C n te) := by
  refine ⟨fun pins s σ H Q I h => ?_⟩
  refine attr_of hb (thn (he.run pins s σ H _ I h) fun u s1 hh => ?_)
  obtain ⟨x, H1, I1, rx, ex, ec, dd, fs, v, ed, ea, l, q⟩ := hh
  subst ex
  obtain rfl : u = Value.ref p.1 := rx
  subst ec
  subst ed
  obtain ⟨ha, _⟩ := I1.pin p (List.mem_append_left _ hp)
  obtain ⟨vs, hd⟩ := hf
  have hx : ObjOk X.prog X.w H1 s1.heap dd (.xd fs) := I1.hok dd _ ea
  obtain ⟨mA, hns, hr⟩ := hx
  obtain ⟨od, ho, hl⟩ := lookIn_ns hns
  obtain ⟨u, hu, ru⟩ := RelO.some_of (v := v) (o := mA n) (by rw [← l]; exact hr n)
  have J : PySem.W.InstAt s1.heap p.1 p.2 C (some od) := ⟨ha, hz.1, by unfold PySem.W.notCls; rw [hd] <;> rfl, by rw [hz.2]; exact ho⟩
  exact HandSPX.exc_get I1.kIn J T.ga T.gg T.exC (PySem.W.findObj_own T.hdC hno rfl (by rw [hl, hu])) (handed_of ru) ⟨v, H1, I1.tok _, ru, q⟩
/-- isinstance(e, c) in the suite that holds e -/
def rIsXC (K : PySem.W.Frag) (a D : Addr) (cls : Value) (d : Option Addr) : List V → Hp → VK → Prop := fun xs H Q => ∃ (dd : Addr) (c : V) (cv : Value) (b : Bool) (fs : List (Str × V)), cls = .ref D ∧ d = some dd ∧ xs = [.ref a, c] ∧ ClsV c cv ∧ PySem.W.kitOne K (.ref D) cv = some b ∧ H dd = some (.xd fs) ∧ Q (.bl b) H
theorem call_isXC {X : Cx} {p : Addr × Obj} {D : Addr} {cls : Value} {d : Option Addr} (hp : p ∈ X.pn) (C : ExcD X.K D) (hz : Zc cls d p.2) (hf : ∃ fs, p.2.data = .fields fs) : CallR X (.builtin "isinstance") (rIsXC X.K p.1 D cls d) := by
  rintro pins s σ H xs us Q I r ⟨dd, c, cv, b, fs, rfl, rfl, rfl, h1, h2, h3, q⟩
  exact call_isX hp C hz hf pins s σ H _ us Q I r ⟨c, cv, b, fs, rfl, h1, h2, h3, q⟩
theorem use_isXC {K : PySem.W.Frag} {a D dd : Addr} {c : V} {cv : Value} {b : Bool} {fs : List (Str × V)} {H : Hp} {Q : VK} (hc : ClsV c cv) (hk : PySem.W.kitOne K (.ref D) cv = some b) (hd : H dd = some (.xd fs)) (q : Q (.bl b) H) : rIsXC K a D (.ref D) (some dd) [.ref a, c] H Q := ⟨dd, c, cv, b, fs, rfl, rfl, rfl, hc, hk, hd, q⟩
/-- a def that may raise, called where it does not -/
theorem passE0 {X : Cx} : Passes (L2.CX X.prog X.w) X E0 := fun _ _ _ _ _ _ _ h => by
  obtain ⟨_, _, _, _, _, _, _, _, _, _, _, _, hE⟩ := h
  exact hE.elim
theorem use_for2 {ta : TA} {g : TG} {tb : TS} {D : Ends} {σ : L2.St} {H : Hp} (lo hi : Int) (ht : ∀ Q : List V → Hp → Prop, Q [.int lo, .int hi] H → ta σ H Q) (b0 : -(2 ^ 62) ≤ lo) (b1 : lo < 2 ^ 62) (b2 : -(2 ^ 62) ≤ hi) (b3 : hi < 2 ^ 62) (Pv : Nat → L2.St → Hp → Prop) (h0 : Pv 0 σ H)
    (hs : ∀ i σ H, i < (hi - lo).toNat → Pv i σ H → g (.int (lo + (i : Int))) σ H fun σ2 H2 => tb { D with nx := Pv (i + 1), ct := Pv (i + 1), bk := D.nx } σ2 H2) (hd : ∀ σ H, Pv (hi - lo).toNat σ H → D.nx σ H) : tFor (iRng2 ta) g tb D σ H :=
  ht _ ⟨lo, hi, rfl, ⟨b0, b1, b2, b3⟩, for_range Pv h0 hs hd⟩
theorem use_lenA_L {p : Addr} {xs : List V} {H : Hp} {Q : VK} (h : H p = some (.lst xs)) (q : Q (.int xs.length) H) : rLenA [.ref p] H Q := .inl (use_lenL h q)
theorem use_lenA_T {p : Addr} {xs : List V} {H : Hp} {Q : VK} (h : H p = some (.tup xs)) (q : Q (.int xs.length) H) : rLenA [.ref p] H Q := .inr (.inl (use_lenT h q))
theorem use_ixA_L {K : PySem.W.Frag} {p : Addr} {xs : List V} {i : Int} {v : V} {H : Hp} {Q : VK} (h : H p = some (.lst xs)) (e : atI xs i = some v) (q : Q v H) : rIxA K (.ref p) (.int i) H Q := .inl (use_ixL h e q)
theorem use_ixA_T {K : PySem.W.Frag} {p : Addr} {xs : List V} {i : Int} {v : V} {H : Hp} {Q : VK} (h : H p = some (.tup xs)) (e : atI xs i = some v) (q : Q v H) : rIxA K (.ref p) (.int i) H Q := .inr (use_ixT h e q)
/-- a list or a tuple -/
def SeqH (H : Hp) (p : Addr) (xs : List V) : Prop := H p = some (.lst xs) ∨ H p = some (.tup xs)
theorem SeqH.same {H H' : Hp} {p : Addr} {xs : List V} (h : SeqH H p xs) (s : Same H H') : SeqH H' p xs := h.imp (s _ _) (s _ _)
theorem SeqH.kp {s : Addr} {H H' : Hp} {p : Addr} {xs : List V} (h : SeqH H p xs) (n : p ≠ s) (k : Kp s H H') : SeqH H' p xs := h.imp (k _ _ n) (k _ _ n)
theorem use_ixA {K : PySem.W.Frag} {p : Addr} {xs : List V} {i : Int} {v : V} {H : Hp} {Q : VK} (h : SeqH H p xs) (e : atI xs i = some v) (q : Q v H) : rIxA K (.ref p) (.int i) H Q := h.elim (fun h => use_ixA_L h e q) fun h => use_ixA_T h e q
mutual
/-- no dict in it -/
def noDic : T → Bool
  | .dic _ => false
  | .lst ts => noDics ts
  | .tup ts => noDics ts
  | _ => true
def noDics : List T → Bool
  | [] => true
  | t :: ts => noDic t && noDics ts
end
theorem noDicL : ∀ {ts : List T} {i : Nat} {t : T}, ts[i]? = some t → noDics ts = true → noDic t = true
  | [], _, _, e, _ => by cases e
  | u :: ts, 0, t, e, h => by
    cases e
    exact (Bool.and_eq_true_iff.mp h).1
  | u :: ts, i + 1, t, e, h => noDicL (ts := ts) (i := i) e (Bool.and_eq_true_iff.mp h).2
theorem Aft.same {d s : Addr} {H H' : Hp} (D : Drw d s H) (k : Same H H') : Aft d s H H' := ⟨.same k, D.same k⟩
theorem Aft.at {d s : Addr} {H H' : Hp} (a : Aft d s H H') {p : Addr} {o : HO} (h : H p = some o) (n : p ≠ s) : H' p = some o := a.kp _ _ n h
/-- a list of bools that is all True, made by a comprehension over range(n) -/
theorem rAll_true {K : PySem.W.Frag} {D : Addr} {n : Nat} {H : Hp} {Q : VK} (h : H D = some (.lst (List.replicate n (V.bl true)))) (q : Q (.bl true) H) : rAll K [.ref D] H Q :=
  ⟨D, List.replicate n true, rfl, .inl (.inl (by rw [List.map_replicate]; exact h)), by rw [show (List.replicate n true).all id = true by simp]; exact q⟩
theorem repl_succ {n : Nat} : List.replicate n (V.bl true) ++ [V.bl true] = List.replicate (n + 1) (V.bl true) := by rw [List.replicate_succ']
theorem itei {p : Prop} [Decidable p] {A B : Prop} (h1 : p → A) (h2 : ¬p → B) : if p then A else B := by
  by_cases h : p
  · rw [if_pos h]; exact h1 h
  · rw [if_neg h]; exact h2 h
/-- over enumerate(list), a list that the body leaves as it is -/
theorem use_forE {K : PySem.W.Frag} {ta : TA} {a : Addr} {xs : List V} {g : TG} {tb : TS} {D : Ends} {σ : L2.St} {H : Hp} (ht : ∀ Q : List V → Hp → Prop, Q [.ref a] H → ta σ H Q) (Pv : Nat → L2.St → Hp → Prop) (h0 : Pv 0 σ H) (hl : ∀ i σ H, i ≤ xs.length → Pv i σ H → SqL K H a xs)
    (hs : ∀ i x T σ H, xs[i]? = some x → Pv i σ H → H T = none → g (.ref T) σ (upd H T (.tup [.int (i : Nat), x])) fun σ2 H2 => tb { D with nx := Pv (i + 1), ct := Pv (i + 1), bk := D.nx } σ2 H2)
    (hd : ∀ σ H, Pv xs.length σ H → D.nx σ H) : tFor (iEnum K ta) g tb D σ H := by
  refine ht _ ⟨a, xs, rfl, hl 0 σ H (Nat.zero_le _) h0, fun i m σ H => i ≤ xs.length ∧ m + i = xs.length ∧ Pv i σ H, ⟨xs.length, Nat.zero_le _, Nat.add_zero _, h0⟩, ?_⟩
  rintro i m σ H ⟨hi, hm, p⟩
  have q := hl i σ H hi p
  rcases Nat.lt_or_ge i xs.length with hlt | hge
  · refine .inr ⟨⟨xs, xs[i], q, List.getElem?_eq_getElem hlt⟩, Pv (i + 1), fun σ' H' p' => ⟨m - 1, by omega, hlt, by omega, p'⟩, ?_⟩
    rintro z H' ⟨T, x, rfl, hT, rfl, hx⟩
    exact hs i x T σ H (hx xs q) p hT
  · obtain rfl : i = xs.length := by omega
    exact .inl ⟨⟨xs, q, Nat.le_refl _⟩, hd σ H p⟩
theorem use_forEX {K : PySem.W.Frag} {ta : TA} {g : TG} {tb : TS} {D : Ends} {σ : L2.St} {H : Hp} {R : Addr → List V → Hp → Prop} (ht : ∀ Q : List V → Hp → Prop, (∀ a xs H', R a xs H' → Q [.ref a] H') → ta σ H Q) (Pv : Addr → List V → Nat → L2.St → Hp → Prop) (h0 : ∀ a xs H', R a xs H' → Pv a xs 0 σ H')
    (hl : ∀ a xs i σ H, i ≤ xs.length → Pv a xs i σ H → SqL K H a xs)
    (hs : ∀ a xs i x T σ H, xs[i]? = some x → Pv a xs i σ H → H T = none → g (.ref T) σ (upd H T (.tup [.int (i : Nat), x])) fun σ2 H2 => tb { D with nx := Pv a xs (i + 1), ct := Pv a xs (i + 1), bk := D.nx } σ2 H2)
    (hd : ∀ a xs σ H, Pv a xs xs.length σ H → D.nx σ H) : tFor (iEnum K ta) g tb D σ H := by
  refine ht _ fun a xs H' r => ?_
  have p0 := h0 a xs H' r
  refine ⟨a, xs, rfl, hl a xs 0 σ H' (Nat.zero_le _) p0, fun i m σ H => i ≤ xs.length ∧ m + i = xs.length ∧ Pv a xs i σ H, ⟨xs.length, Nat.zero_le _, Nat.add_zero _, p0⟩, ?_⟩
  rintro i m σ H ⟨hi, hm, p⟩
  have q := hl a xs i σ H hi p
  rcases Nat.lt_or_ge i xs.length with hlt | hge
  · refine .inr ⟨⟨xs, xs[i], q, List.getElem?_eq_getElem hlt⟩, Pv a xs (i + 1), fun σ' H' p' => ⟨m - 1, by omega, hlt, by omega, p'⟩, ?_⟩
    rintro z H' ⟨T, x, rfl, hT, rfl, hx⟩
    exact hs a xs i x T σ H (hx xs q) p hT
  · obtain rfl : i = xs.length := by omega
    exact .inl ⟨⟨xs, q, Nat.le_refl _⟩, hd a xs σ H p⟩
theorem DtL.set {F : Addr → Prop} {H : Hp} : ∀ {xs : List V} {ts : List T} {i : Nat} {v : V} {t : T}, DtL F H xs ts → Dt F H v t → DtL F H (xs.set i v) (ts.set i t)
  | _, [], i, v, t, h, _ => by rw [show _ = [] from h]; rfl
  | _, u :: us, 0, v, t, h, d => by
    obtain ⟨x, xs, rfl, h1, h2⟩ := h
    exact ⟨v, xs, rfl, d, h2⟩
  | _, u :: us, i + 1, v, t, h, d => by
    obtain ⟨x, xs, rfl, h1, h2⟩ := h
    exact ⟨x, _, rfl, h1, DtL.set h2 d⟩
theorem DtL.off {F : Addr → Prop} {H : Hp} {r : Addr} {o : HO} {xs : List V} {ts : List T} (hF : ∀ a, F a → a ≠ r) (h : DtL F H xs ts) : DtL F (upd H r o) xs ts := DtL.imp (fun a u f e => ⟨f, by rw [upd_ne (hF a f)]; exact e⟩) _ h
theorem Dt.off {F : Addr → Prop} {H : Hp} {r : Addr} {o : HO} {v : V} {t : T} (hF : ∀ a, F a → a ≠ r) (h : Dt F H v t) : Dt F (upd H r o) v t := Dt.imp (fun a u f e => ⟨f, by rw [upd_ne (hF a f)]; exact e⟩) _ h
end LL

namespace LL
open PySem PySem.Spec PyProof.Rows L2 L2H
/-! ### exceptions as values -/
/-- C(e, ..), an own exception class whose __init__ keeps sp, as a value -/
def tMkV (C : Addr) (sp : Sp) (ta : TA) : TE := fun σ H Q => ta σ H fun vs H1 => vs.length ≤ 1000 ∧ ∀ a, H1 a = none → sp (.ref a :: vs) (upd H1 a (exo a C none)) (fun v H2 => v = .non ∧ Q (.ref a) H2) (fun _ _ _ => False)
section
variable {X : Cx} {e : Expr} {es : List Expr} {ta : TA} {p pos : Pos}
theorem pe_mkv {CX : CXT} {x : Str} {C fI : Addr} {k : Nat} {fd : FuncData} {ps : List Str} {sp : Sp} (T : OexC X.K C) (iC : PySem.W.findIn X.K (.ref C) "__init__" = some (some (.ref fI))) (tI : PySem.W.typeIn X.K (.ref fI) = some (.type "function"))
    (F1 : FnOk X.prog X.w X.K X.mg X.base CX k fI fd ps sp) (hr : Room (k + 1) X.A) (hb : Binds X.K fd ps []) (hx : Passes CX X (fun _ _ _ => False)) (hg : Gl X x) (hm : X.mg x = some (.ref C)) (ha : PA X (e :: es) ta)
    (hdb : (x == ("__debug__" : Str)) = false := by decide) (he : starEach (e :: es) X.env = (false, eval e X.env) :: starEach es X.env := by rfl) (hpl : (backTo pos (starEach es X.env)).any (·.1) = false := by rfl) :
    PE X (.Call (.Name x p) (e :: es) [] pos) (tMkV C sp ta) := by
  refine ⟨fun pins s σ H Q I h => ?_⟩
  obtain ⟨nm, q, N, bs, bm, sn, sub, ab, col, dd, k0, k1, k2, k3, k5, hC, hbm⟩ := T.cls
  refine wpAny_Call_Name_kw (ld_glob I hg hm ?_ hdb)
  refine PySem.W.callWith_K (h₀ := X.base) I.ok.mod.kin T.kC (thn (ha.run pos pins s σ H _ I h) fun us s1 ⟨vs, H1, I1, r1, hz, q1⟩ => ⟨I1.kIn, ?_⟩) he hpl
  show wpAny _ _ (call (.ref C) us) _ _ _
  obtain ⟨hp, g, dr, tk, os⟩ := s1
  have hsz : hp.objs.size ≤ hp.objs.size + 1 := Nat.le_succ _
  have hn : H1 (hp.objs.size + 1) = none := I1.hok.fresh hsz
  have hq := q1 (hp.objs.size + 1) hn
  have kk : ∀ b o, hp.get? b = some o → ((hp.push (PySem.W.kdv_tup us)).push (PySem.HandSPX.excO C hp.objs.size)).get? b = some o := fun b o e => Heap.get?_push_of_some _ (Heap.get?_push_of_some _ e)
  have hget : ((hp.push (PySem.W.kdv_tup us)).push (PySem.HandSPX.excO C hp.objs.size)).get? (hp.objs.size + 1) = some (PySem.HandSPX.excO C hp.objs.size) := by heap_get
  have I2 : Inv X pins σ (upd H1 (hp.objs.size + 1) (exo (hp.objs.size + 1) C none)) ⟨(hp.push (PySem.W.kdv_tup us)).push (PySem.HandSPX.excO C hp.objs.size), g, dr, tk, os⟩ :=
    I1.laid (t' := tk) (a := hp.objs.size + 1) (o := exo (hp.objs.size + 1) C none) (h' := (hp.push (PySem.W.kdv_tup us)).push (PySem.HandSPX.excO C hp.objs.size)) kk hsz (exo_ok hget)
  have r2 : Vals (V.ref (hp.objs.size + 1) :: vs) (Value.ref (hp.objs.size + 1) :: us) := .cons rfl r1
  have hl : (Value.ref (hp.objs.size + 1) :: us).length = ps.length := by
    have e := r2.length
    rw [F1.len _ _ _ _ hq] at e
    exact e.symm
  have hus : us.length ≤ sizeLine := by
    rw [← Paired.length r1, sizeLine_eq]
    omega
  have hb2 := hb ⟨(hp.push (PySem.W.kdv_tup us)).push (PySem.HandSPX.excO C hp.objs.size), g, dr, tk, os⟩ (Value.ref (hp.objs.size + 1) :: us) I2.kIn (by rw [List.append_nil]; exact hl)
  rw [List.append_nil] at hb2
  refine wpAny_call (PySem.HandSPX.call_own F.excBase_ValueError (fun Y => PySem.HandSPX.refsVE_contains Y bm hbm) (I1.kIn _ _ hC) (PySem.W.looks_findIn I1.kIn iC) (fun self => PySem.W.bind_fn I1.kIn self tI) hus
    (codeAny_mono (F1.run _ X.stack _ _ ⟨Value.ref (hp.objs.size + 1) :: us, []⟩ (Value.ref (hp.objs.size + 1) :: us) _ _ (fun _ _ _ => False) (hr.make C us []) (I2.env0.make C us []) hb2 r2 hq) fun r s' hq' => ?_))
  cases r with
  | error er => exact hx pins σ _ _ er s' I2 hq'
  | ok fl =>
    cases fl with
    | ret u =>
      obtain ⟨v, H2, os2, bare2, un2, hok2, rv, ev, q2⟩ := hq'
      subst ev
      have J := I2.call' (ch := []) os2 un2 hok2 bare2 (fun b z => absurd z (by simp))
      exact ⟨rv, ⟨V.ref (hp.objs.size + 1), H2, J, rfl, q2⟩⟩
    | next => exact False.elim hq'
    | brk => exact False.elim hq'
    | cont => exact False.elim hq'
end
/-- e.f, e an exception held as a value -/
def tXv (K : PySem.W.Frag) (f : Str) (te : TE) : TE := fun σ H Q => te σ H fun x H1 => ∃ (a C d : Addr) (fs : List (Str × V)) (v : V), x = .ref a ∧ H1 a = some (exo a C (some d)) ∧ H1 d = some (exd d fs) ∧ XfC K C ∧ PySem.W.findIn K (.ref C) f = some none ∧ fs.lookup f = some v ∧ Q v H1
theorem pe_xv {X : Cx} {e : Expr} {te : TE} {pos : Pos} {n : Str} (he : PE X e te) (hb : attributeBase e n X.env (eval e X.env) = eval e X.env := by rfl) : PE X (.Attribute e n pos) (tXv X.K n te) := by
  refine ⟨fun pins s σ H Q I h => ?_⟩
  refine attr_of hb (thn (he.run pins s σ H _ I h) fun u s1 hh => ?_)
  obtain ⟨x, H1, I1, rx, a, C, d, fs, v, ex, ea, ed, T, hno, l, q⟩ := hh
  subst ex
  obtain rfl : u = Value.ref a := rx
  obtain ⟨t1, ho⟩ := exo_at I1.hok ea
  obtain ⟨mA, hns, hr⟩ := exd_at I1.hok ed
  obtain ⟨od, hod, hl⟩ := lookIn_ns hns
  obtain ⟨u, hu, ru⟩ := RelO.some_of (v := v) (o := mA n) (by rw [← l]; exact hr n)
  have J : PySem.W.InstAt s1.heap a _ C (some od) := ⟨ho, rfl, rfl, hod⟩
  exact HandSPX.exc_get I1.kIn J T.ga T.gg T.exC (PySem.W.findObj_own T.hdC hno rfl (by rw [hl, hu])) (handed_of ru) ⟨v, H1, I1.tok _, ru, q⟩
/-- isinstance(e, c), e an exception held as a value -/
def rIsV (K : PySem.W.Frag) : List V → Hp → VK → Prop := fun xs H Q => ∃ (a C d : Addr) (c : V) (cv : Value) (b : Bool) (fs : List (Str × V)), xs = [.ref a, c] ∧ H a = some (exo a C (some d)) ∧ H d = some (exd d fs) ∧ ExcD K C ∧ ClsV c cv ∧ PySem.W.kitOne K (.ref C) cv = some b ∧ Q (.bl b) H
theorem call_isV {X : Cx} : CallR X (.builtin "isinstance") (rIsV X.K) := by
  intro pins s σ H xs us Q I r h
  obtain ⟨a, D, d, c, cv, b, fs, rfl, ea, ed, C, hcv, e, q⟩ := h
  obtain ⟨u1, u2, rfl, r1, r2⟩ := vals2 r
  cases (show u1 = Value.ref a from r1)
  have e2 := hcv.eq r2
  subst e2
  obtain ⟨t1, ho⟩ := exo_at I.hok ea
  obtain ⟨mA, ⟨od, es, ep, hod, hr⟩, _⟩ := exd_at I.hok ed
  have J : PySem.W.InstAt s.heap a _ D (some od) := ⟨ho, rfl, rfl, hod⟩
  exact PySem.W.kia_one (PySem.W.kitx_exc C.hc C.hg C.hk C.hs C.ha C.hn C.ht C.hm) I.kIn J e (fun z => nomatch z) fun tk => ⟨.bl b, H, I.tok tk, rfl, q⟩
/-! ### the eight classes -/
def kindsV (K : PySem.W.Frag) : List Value := [.ref (He.ga K "StoreError"), .type "ValueError", .ref (He.ga K "BadValue"), .ref (He.ga K "Broken"), .ref (He.ga K "Unknown"), .ref (He.ga K "NotHeld"), .ref (He.ga K "Fault"), .ref (He.ga K "NoRoom"), .ref (He.ga K "Cut"), .ref (He.ga K "BadLine")]
def bitsV (k : Nat) : List Bool := [true, true, decide (k = 0), decide (k = 1), decide (k = 2), decide (k = 3), decide (k = 4), decide (k = 5), decide (k = 6), decide (k = 7)]
def kindsOk (K : PySem.W.Frag) (C : Addr) (k : Nat) : Prop := (kindsV K).map (fun cv => PySem.W.kitOne K (.ref C) cv) = (bitsV k).map some
structure ExV (K : PySem.W.Frag) (n : Str) (fs : List Str) (k : Nat) : Prop where
  oex : OexC K (He.ga K n)
  ini : PySem.W.findIn K (.ref (He.ga K n)) "__init__" = some (some (.ref (He.ma K (He.ga K n) "__init__")))
  typ : PySem.W.typeIn K (.ref (He.ma K (He.ga K n) "__init__")) = some (.type "function")
  no : ∀ f ∈ ("told" : Str) :: fs, PySem.W.findIn K (.ref (He.ga K n)) f = some none
  xf : XfC K (He.ga K n)
  dd : ExcD K (He.ga K n)
  ks : kindsOk K (He.ga K n) k
def exvB (K : PySem.W.Frag) (n : Str) (fs : List Str) (k : Nat) : Bool := oexB K (He.ga K n) && (decide (PySem.W.findIn K (.ref (He.ga K n)) "__init__" = some (some (.ref (He.ma K (He.ga K n) "__init__")))) && (decide (PySem.W.typeIn K (.ref (He.ma K (He.ga K n) "__init__")) = some (.type "function")) &&
  (((("told" : Str) :: fs).all fun f => decide (PySem.W.findIn K (.ref (He.ga K n)) f = some none)) && (xfB K (He.ga K n) && (excdB K (He.ga K n) && decide ((kindsV K).map (fun cv => PySem.W.kitOne K (.ref (He.ga K n)) cv) = (bitsV k).map some))))))
theorem exvB_ok {K : PySem.W.Frag} {n : Str} {fs : List Str} {k : Nat} (h : exvB K n fs k = true) : ExV K n fs k := by
  obtain ⟨h1, h⟩ := Bool.and_eq_true_iff.mp h
  obtain ⟨h2, h⟩ := Bool.and_eq_true_iff.mp h
  obtain ⟨h3, h⟩ := Bool.and_eq_true_iff.mp h
  obtain ⟨h4, h⟩ := Bool.and_eq_true_iff.mp h
  obtain ⟨h5, h⟩ := Bool.and_eq_true_iff.mp h
  obtain ⟨h6, h7⟩ := Bool.and_eq_true_iff.mp h
  exact ⟨oexB_ok h1, of_decide_eq_true h2, of_decide_eq_true h3, fun f hf => of_decide_eq_true (List.all_eq_true.mp h4 f hf), xfB_ok h5, excdB_ok h6, by unfold kindsOk; exact of_decide_eq_true h7⟩
theorem ExV.kit {K : PySem.W.Frag} {n : Str} {fs : List Str} {k : Nat} (h : ExV K n fs k) {i : Nat} {cv : Value} {b : Bool} (h1 : (kindsV K)[i]? = some cv) (h2 : (bitsV k)[i]? = some b) : PySem.W.kitOne K (.ref (He.ga K n)) cv = some b := by
  have e := congrArg (fun l => l[i]?) h.ks
  simp only [List.getElem?_map, h1, h2, Option.map_some, Option.some.injEq] at e
  exact e
/-- an exception of the class n held as a value at a: its fields vs, and what it tells -/
def ExAt (K : PySem.W.Frag) (n title : Str) (fs : List Str) (a : Addr) (vs : List V) (H : Hp) : Prop := ∃ d p1 p2 : Addr, H a = some (exo a (He.ga K n) (some d)) ∧ H d = some (exd d (("told", .ref p2) :: (fs.zip vs).reverse)) ∧ H p1 = some (.tup vs) ∧ H p2 = some (.tup [.str title, .ref p1])
theorem ExAt.same {K : PySem.W.Frag} {n title : Str} {fs : List Str} {a : Addr} {vs : List V} {H H' : Hp} (h : ExAt K n title fs a vs H) (s : Same H H') : ExAt K n title fs a vs H' := by
  obtain ⟨d, p1, p2, e1, e2, e3, e4⟩ := h
  exact ⟨d, p1, p2, s _ _ e1, s _ _ e2, s _ _ e3, s _ _ e4⟩
/-- n.__init__ as a value's maker -/
def sp_ExV (K : PySem.W.Frag) (n : Str) (fs : List Str) : Sp := fun vs H Q _ => ∃ (a : Addr) (ns : List V), vs = .ref a :: ns ∧ ns.length = fs.length ∧ H a = some (exo a (He.ga K n) none) ∧ ∀ H', ExAt K n n fs a ns H' → (∀ b o, b ≠ a → H b = some o → H' b = some o) → Q .non H'
theorem same_made {H H2 : Hp} {a : Addr} {o : HO} (hn : H a = none) (k : ∀ b u, b ≠ a → upd H a o b = some u → H2 b = some u) : Same H H2 := fun b u e => k b u (ne_of_none e hn) (by rw [upd_ne (ne_of_none e hn)]; exact e)
end LL

namespace LL
open PySem PySem.Spec PyProof.Rows L2 L2H
/-! ### list(range(i, j, k)) -/
def stepV (i k : Int) (n : Nat) : List V := (List.range n).map fun j => V.int (i + (j : Nat) * k)
theorem stepV_len {i k : Int} {n : Nat} : (stepV i k n).length = n := by unfold stepV; rw [List.length_map, List.length_range]
theorem size_step {i k : Int} {n : Nat} (hk : 0 < k) : Builtin.Range.rangeSize i (i + n * k) k = n := by
  unfold Builtin.Range.rangeSize
  rw [if_pos hk]
  cases n with
  | zero => rw [if_neg (by simp)]; rfl
  | succ m =>
    have e : ((m + 1 : Nat) : Int) * k = k + (m : Int) * k := by rw [show ((m + 1 : Nat) : Int) = 1 + m by omega, Int.add_mul, Int.one_mul]
    have hm : 0 ≤ (m : Int) * k := Int.mul_nonneg (by omega) (by omega)
    rw [if_pos (by omega), show i + ((m + 1 : Nat) : Int) * k - i - 1 = (k - 1) + (m : Int) * k by omega, Int.add_mul_ediv_right _ _ (by omega), Int.ediv_eq_zero_of_lt (by omega) (by omega)]
    omega
theorem small_step {i k : Int} {n : Nat} (hk : 0 < k) (k1 : k ≤ 1000000) (i0 : 0 ≤ i) (i1 : i ≤ 1000000) (hn : n ≤ 100000) : Builtin.Range.small i (i + n * k) k = true := by
  have h1 : (n : Int) * k ≤ 100000 * 1000000 := Int.mul_le_mul (by omega) k1 (by omega) (by omega)
  have h0 : 0 ≤ (n : Int) * k := Int.mul_nonneg (by omega) (by omega)
  unfold Builtin.Range.small
  rw [size_step hk]
  simp only [Builtin.Range.rangeFitsLong, Bool.and_eq_true, Bool.or_eq_true, decide_eq_true_eq, beq_iff_eq]
  have : k > 0 := hk
  simp only [this, if_true]
  generalize (n : Int) * k = z at h0 h1 ⊢
  refine ⟨⟨⟨⟨⟨by omega, by omega⟩, by omega, by omega⟩, by omega, by omega⟩, by omega, by omega⟩, .inr ?_⟩
  rw [decide_eq_true (by omega), decide_eq_true (by omega)]
  rfl
def tLstRg3 (ta : TA) : TE := fun σ H Q => ta σ H fun vs H1 => ∃ (i k : Int) (n : Nat), vs = [.int i, .int (i + n * k), .int k] ∧ 0 < k ∧ k ≤ 1000000 ∧ 0 ≤ i ∧ i ≤ 1000000 ∧ n ≤ 100000 ∧ ∀ q, H1 q = none → Q (.ref q) (upd H1 q (.lst (stepV i k n)))
theorem vals_step {i k : Int} {n : Nat} {acc : Array Value} (h : ItemsOf (fun j v => ∃ t, v = .int (i + j * k) t) acc n) : Vals (stepV i k n) acc.toList := by
  have e : acc.toList.length = n := by rw [Array.length_toList]; exact h.1
  unfold stepV
  rw [← e]
  refine vals_of_get acc.toList (fun j => V.int (i + (j : Nat) * k)) fun j u hj => ?_
  obtain ⟨t, rfl⟩ := h.2 j u (by rw [← hj, Array.getElem?_toList])
  exact ⟨t, rfl⟩
theorem pe_listRg3 {X : Cx} {a b c : Expr} {ta : TA} {p p2 pos pos2 : Pos} (hcalm : X.calm = true) (hl : Gl X "list") (ml : X.mg "list" = none) (hg : Gl X "range") (hm : X.mg "range" = none) (ha : PA X [a, b, c] ta)
    (hs : starEach [a, b, c] X.env = (false, eval a X.env) :: starEach [b, c] X.env := by rfl) (hpl : (backTo pos (starEach [b, c] X.env)).any (·.1) = false := by rfl)
    (na : starEach [Expr.Call (.Name "range" p) [a, b, c] [] pos] X.env = (false, eval (Expr.Call (.Name "range" p) [a, b, c] [] pos) X.env) :: starEach [] X.env := by rfl) :
    PE X (.Call (.Name "list" p2) [.Call (.Name "range" p) [a, b, c] [] pos] [] pos2) (tLstRg3 ta) := by
  refine ⟨fun pins s σ H Q I h => ?_⟩
  have hr : wpAny (model X.prog X.w) X.A (eval (Expr.Call (.Name "range" p) [a, b, c] [] pos) X.env)
      (fun x s' => ∃ r i k n t u v H', x = .ref r ∧ IsRange s'.heap r i (i + (n : Nat) * k) k t u v ∧ Inv X pins σ H' s' ∧ (0 < k ∧ k ≤ 1000000 ∧ 0 ≤ i ∧ i ≤ 1000000 ∧ n ≤ 100000) ∧ ∀ q, H' q = none → Q (.ref q) (upd H' q (.lst (stepV i k n)))) X.xe s := by
    refine Call_ (ld_blt I hg hm boot_range (PyProof.Rows.callWith_type1 (thn (ha.run pos pins s σ H _ I h) fun us s1 ⟨vs, H1, I1, r1, q1⟩ => ?_) hs hpl))
    obtain ⟨i, k, n, e, k0, k1, i0, i1, hn, q⟩ := q1
    subst e
    cases r1 with
    | cons x1 rr =>
      cases rr with
      | cons x2 rr =>
        cases rr with
        | cons x3 rr =>
          cases rr
          obtain ⟨t1, rfl⟩ := x1
          obtain ⟨t2, rfl⟩ := x2
          obtain ⟨t3, rfl⟩ := x3
          refine call_range_3 (show k ≠ 0 by omega) ?_ (.inl (PyProof.noPylong_small (by omega)))
          exact ⟨_, i, k, n, _, _, _, H1, rfl, IsRange.new _ _ _ _ _ _ _, I1.kept (t' := s1.toks) fun b u e => Heap.get?_push_of_some _ e, ⟨k0, k1, i0, i1, hn⟩, q⟩
  refine Call_ (ld_blt I hl ml boot_list (PyProof.Rows.callWith_type1 (args_cons (thn hr fun x s1 ⟨r, i, k, n, t, u, v, H1, ex, hrg, I1, ⟨k0, k1, i0, i1, hn⟩, q⟩ => args_nil ?_) na) na))
  subst ex
  refine call_list_range (n := n) (I1.ok.hd hcalm) hrg (small_step k0 k1 i0 i1 hn) (size_step k0) (by omega) fun h' tk acc c' hk e' hi => ?_
  refine ⟨.ref s1.heap.objs.size, upd H1 s1.heap.objs.size (.lst (stepV i k n)), I1.laid hk (Nat.le_refl _) (show ObjOk X.prog X.w _ _ _ (.lst (stepV i k n)) from ⟨?_, acc.toList, c', vals_step hi, ?_⟩), rfl, q _ (I1.hok.fresh (Nat.le_refl _))⟩
  · rw [stepV_len]; exact Nat.le_of_lt (small_sz (by omega))
  · rw [Array.toArray_toList]; exact e'
end LL

namespace LL
open PySem PySem.Spec PyProof.Rows L2 L2H
/-! ### for x in e, e a list or a tuple -/
def iSeq (K : PySem.W.Frag) (te : TE) : TI := fun σ H R => te σ H fun x H1 => ∃ a, x = .ref a ∧ (((∃ xs, SqL K H1 a xs) ∧ R (Itl K a) H1) ∨ ((∃ xs, SqT K H1 a xs) ∧ R (Itt K a) H1))
theorem pi_seq {X : Cx} {tg l : Expr} {te : TE} (hl : PE X l te) : PI X tg l (iSeq X.K te) := by
  refine ⟨fun pins s σ H R I h => thn (hl.run pins s σ H _ I h) fun v s1 hh => ?_⟩
  obtain ⟨x, H1, I1, r1, a, ex, q⟩ := hh
  subst ex
  obtain rfl : v = Value.ref a := r1
  rcases q with ⟨⟨xs, hq⟩, q⟩ | ⟨⟨xs, hq⟩, q⟩
  · obtain ⟨its, rv, pl, hz⟩ := I1.list hq
    refine wpAny_pyIter_list pl.isList ⟨s1.heap.objs.size, [s1.heap.objs.size], _, _, H1, rfl, I1.kept (t' := s1.toks) fun b o e => Heap.get?_push_of_some _ e, turn_list a _, ⟨_, Heap.get?_push_size _ rfl, rfl, rfl⟩, fun b hb => ?_, q⟩
    rw [show b = s1.heap.objs.size by simpa using hb]
    exact I1.fpOk (Nat.le_refl _) (I1.hok.fresh (Nat.le_refl _))
  · obtain ⟨its, rv, pl, hz⟩ := I1.tuple hq
    refine wpAny_pyIter_tuple (show s1.heap.IsTuple a its.toArray from pl) ⟨s1.heap.objs.size, [s1.heap.objs.size], _, _, H1, rfl, I1.kept (t' := s1.toks) fun b o e => Heap.get?_push_of_some _ e, turn_tuple a _, ⟨_, Heap.get?_push_size _ rfl, rfl, rfl⟩, fun b hb => ?_, q⟩
    rw [show b = s1.heap.objs.size by simpa using hb]
    exact I1.fpOk (Nat.le_refl _) (I1.hok.fresh (Nat.le_refl _))
theorem use_forS {K : PySem.W.Frag} {te : TE} {a : Addr} {xs : List V} {g : TG} {tb : TS} {D : Ends} {σ : L2.St} {H : Hp} (ht : ∀ Q : VK, Q (.ref a) H → te σ H Q) (Pv : Nat → L2.St → Hp → Prop) (h0 : Pv 0 σ H)
    (hl : (∀ i σ H, i ≤ xs.length → Pv i σ H → SqL K H a xs) ∨ (∀ i σ H, i ≤ xs.length → Pv i σ H → SqT K H a xs))
    (hs : ∀ i x σ H, xs[i]? = some x → Pv i σ H → g x σ H fun σ2 H2 => tb { D with nx := Pv (i + 1), ct := Pv (i + 1), bk := D.nx } σ2 H2) (hd : ∀ σ H, Pv xs.length σ H → D.nx σ H) : tFor (iSeq K te) g tb D σ H := by
  rcases hl with hl | hl
  · exact ht _ ⟨a, rfl, .inl ⟨⟨xs, hl 0 σ H (Nat.zero_le _) h0⟩, for_list Pv h0 hl hs hd⟩⟩
  · exact ht _ ⟨a, rfl, .inr ⟨⟨xs, hl 0 σ H (Nat.zero_le _) h0⟩, for_tup Pv h0 hl hs hd⟩⟩
/-- x is True, x is False, x plain data -/
def okIs : V → Bool
  | .non => true
  | .bl _ => true
  | .int _ => true
  | .str _ => true
  | .ref _ => true
  | _ => false
def rIsBx : R2 := fun x y H Q => ∃ b : Bool, y = .bl b ∧ okIs x = true ∧ Q (.bl (decide (x = .bl b))) H
theorem op_isB {X : Cx} : OpR X (compareOp .Is) rIsBx := by
  rintro pins s σ H x y v u Q I rx ry ⟨b, rfl, hx, q⟩
  obtain rfl : u = Value.bool b := ry
  by_cases e : x = .bl b
  · subst e
    obtain rfl : v = Value.bool b := rx
    exact wpAny_is_self rfl ⟨.bl true, H, I, rfl, by simpa using q⟩
  · have q := q
    cases x with
    | non =>
      obtain rfl : v = Value.none := rx
      exact wpAny_is_other rfl (by intro z; cases z) ⟨.bl false, H, I, rfl, by simpa [e] using q⟩
    | bl a =>
      obtain rfl : v = Value.bool a := rx
      exact wpAny_is_other rfl (fun z => e (congrArg V.bl (Value.bool.inj z))) ⟨.bl false, H, I, rfl, by simpa [e] using q⟩
    | int i =>
      obtain ⟨t, rfl⟩ := rx
      exact wpAny_is_other rfl (by intro z; cases z) ⟨.bl false, H, I, rfl, by simpa [e] using q⟩
    | str i =>
      obtain ⟨t, rfl⟩ := rx
      exact wpAny_is_other rfl (by intro z; cases z) ⟨.bl false, H, I, rfl, by simpa [e] using q⟩
    | ref a =>
      obtain rfl : v = Value.ref a := rx
      exact wpAny_is_other rfl (by intro z; cases z) ⟨.bl false, H, I, rfl, by simpa [e] using q⟩
    | _ => cases hx
theorem dt_okIs {F : Addr → Prop} {H : Hp} {v : V} {t : T} (h : Dt F H v t) : okIs v = true := by
  cases t with
  | non => rw [show v = _ from h]; rfl
  | bl b => rw [show v = _ from h]; rfl
  | int i => rw [show v = _ from h]; rfl
  | str x => rw [show v = _ from h]; rfl
  | lst ts =>
    obtain ⟨a, xs, rfl, _⟩ := h
    rfl
  | tup ts =>
    obtain ⟨a, xs, rfl, _⟩ := h
    rfl
  | dic t =>
    obtain ⟨a, x, rfl, _⟩ := h
    rfl
end LL

namespace LL
open PySem PySem.Spec PyProof.Rows L2 L2H
/-! ### name = {k: v for ..}, the name a local -/
theorem sw_trueD {kx vx : Expr} {gs : List Comprehension} {scope : Scope} {pos py : Pos} {y : Str} {l : Nat} {env : Env} (hk : env.scope.kind = .function) (hy : env.scope.names.lookup y = some .local) (hl : (py.line == pos.line) = true)
    (ha : (scope.names.any fun (n, k) => n == y && (k == .local || k == .cell)) = false) : swapsWith (.DictComp kx vx gs scope pos) (some (.Name y py)) l env = pure true := by
  have k1 : env.kindOf y = some .local := hy
  have k2 : env.blockKind = .function := by
    unfold Env.blockKind
    rw [hk]
    rfl
  unfold swapsWith
  simp only [k2, k1, ha, Expr.pos, hl]
  rfl
theorem ps_setDc {X : Cx} {i : Nat} {y : Str} {py : Pos} {kx vx tg iter : Expr} {ifs : List Expr} {scope : Scope} {own : List (Str × Nat)} {pos spos : Pos} {wi : TI} {g : TG} {tt : TT} {tk tv : TE} (hc : X.calm = true) (hN : X.N.Nodup) (hy : X.N[i]? = some y) (hyl : X.env.scope.names.lookup y = some .local)
    (hsw : swapsWith (.DictComp kx vx [⟨tg, iter, ifs, 0⟩] scope pos) (some (.Name y py)) spos.line X.env = pure true) (hi : PI X tg iter wi) (ok : BlkOk X.N X.env.scope scope own)
    (hg : ∀ (s : Shared) (H : Hp) (C : Addr) (cl : List (Str × Addr)) (fp : List Addr), PG (X.blk s H scope (compEnvC scope cl C X.env) fp) tg g) (ht : ∀ (s : Shared) (H : Hp) (C : Addr) (cl : List (Str × Addr)) (fp : List Addr), PTs (X.blk s H scope (compEnvC scope cl C X.env) fp) ifs tt)
    (hk : ∀ (s : Shared) (H : Hp) (C : Addr) (cl : List (Str × Addr)) (fp : List Addr), PE (X.blk s H scope (compEnvC scope cl C X.env) fp) kx tk) (he : ∀ (s : Shared) (H : Hp) (C : Addr) (cl : List (Str × Addr)) (fp : List Addr), PE (X.blk s H scope (compEnvC scope cl C X.env) fp) vx tv)
    (hs : ∀ x, foldedSetIterable iter X.env x = pure x := by intro _; rfl) :
    PS X (.Assign [.Name y py] (.DictComp kx vx [⟨tg, iter, ifs, 0⟩] scope pos) spos) (tAsg (tDc wi g tt tk tv (own.map (·.2))) (gName i)) := by
  refine ⟨fun pins s σ H D I h0 => ?_⟩
  rw [exec_Assign_Name_used _ _ _ _ hsw]
  refine wpAny_bind (wpAny_standAt (wpAny_bind ?_))
  show wpAny _ X.A (do let _ ← comprehension (.DictComp kx vx [⟨tg, iter, ifs, 0⟩] scope pos) scope X.env (firstIterPos [⟨tg, iter, ifs, 0⟩] pos) newDict false (eval iter X.env) (some (assign (.Name y py) X.env))) _ _ s
  have h1 : tDc wi g tt tk tv (own.map (·.2)) σ H (fun x H1 => gName i x σ H1 D.nx) := h0
  refine wpAny_bind (thn (dc_core (Qf := fun _ s' => SP X pins D .next s') hc hN I hi ok hg ht hk he hs h1 fun L C s' m H' I' q hn f => ?_) fun _ s' hq => wpAny_pure (wpAny_pure hq))
  show wpAny _ _ (assign (.Name y py) X.env (.ref L)) _ _ _
  refine wpAny_assign_Name (store_ok2 (v := V.ref L) I' hN hy (.inl hyl) rfl (fun s2 I2 ⟨a, sb, ha⟩ => ?_) (.inr hyl))
  obtain ⟨f0, f1, f2, f3, f4, f5⟩ := f
  have hCa : C ≠ a := ha.elim (fun z => by rw [z]; exact f1) fun z e => f4 y a z e.symm
  exact ⟨m, hn.sameBut sb hCa, fun h3 sb3 => ⟨_, H', I2.turned (t' := s2.toks) (fun b o hb e => (sb3.2 b hb).trans e) f0 f1 f3 f4 f5, q⟩⟩
end LL

/-! set(t) of a tuple of ints of which few differ; sorted of a set of any size -/
namespace LL
open PySem PySem.Spec PyProof.Rows L2
theorem nodup_le : ∀ {l ds : List Int}, l.Nodup → (∀ k ∈ l, k ∈ ds) → l.length ≤ ds.length
  | [], _, _, _ => Nat.zero_le _
  | x :: l, ds, h, s => by
    obtain ⟨h1, h2⟩ := List.nodup_cons.mp h
    have hx := s x List.mem_cons_self
    have ih := nodup_le (ds := ds.erase x) h2 fun k hk => (List.mem_erase_of_ne (fun e : k = x => h1 (by rw [← e]; exact hk))).mpr (s k (List.mem_cons_of_mem _ hk))
    rw [List.length_erase_of_mem hx] at ih
    have := List.length_pos_of_mem hx
    simp only [List.length_cons]
    omega
theorem setR_le {w : World} {h : Heap} {a : Addr} {S : Int → Bool} {n : Nat} {ds : List Int} (R : SetR w h a S n) (s : ∀ k, S k = true → k ∈ ds) : n ≤ ds.length := by
  obtain ⟨o, es, ep, t, ho, hex, hd, g, nd, hm, hb, hf, hn, hr, hl⟩ := R
  have := nodup_le nd fun k hk => s k ((hm k).mpr hk)
  rw [List.length_map, Array.length_toList, hn] at this
  exact this
section
variable {P : Program} {w : World} {A : Around} {E : Value → Shared → Prop} {s : Shared}
/-- the turns of the update, counted by the different ones -/
theorem upd_few {I : Addr} {fp wr : List Addr} {G : Array GenState → Array GenState → Prop} {n : Nat} {Pv : Nat → Value → Prop} {St : Nat → Shared → Prop} {R : Result → Shared → Prop} {S : Addr} {ns ds : List Int}
    (W : WalksS P w A.in1 I fp wr G n Pv St) (out : S ∉ fp) (hn : n = ns.length) (few : ds.length + 1 < scanBound) (sub : ∀ k ∈ ns, k ∈ ds) (item : ∀ i v, Pv i v → ∃ k t, ns[i]? = some k ∧ v = .int k t) (m : Nat) :
    ∀ (i : Nat) (s : Shared), n - i = m → i ≤ n → St i s → (∃ c, SetR w s.heap S (fun j => decide (j ∈ ns.take i)) c) → (∀ s' c, Moved (S :: wr) G s s' → SetR w s'.heap S (fun j => decide (j ∈ ns)) c → R (.ok (.ret .none)) s') → codeAny (model P w) A (.builtin "set.update.loop" ⟨[.ref S, .ref I], []⟩) R s := by
  have wS : S ∉ wr := fun h => out (W.sub _ h)
  have wr' : ∀ b ∈ wr, b ∈ S :: wr := fun b hb => List.mem_cons_of_mem _ hb
  induction m with
  | zero =>
    rintro i s hk hi hst ⟨c, hS⟩ hR
    obtain rfl : i = n := by omega
    refine codeAny_builtin F.entry_set_update_loop ?_
    rw [Around.under_plainId F.plain_set_update_loop _] ; show wpAny _ A.in1 (pyNext (.ref I) >>= _) _ _ s
    refine wpAny_bind (W.done s _ _ hst fun s1 mv => ?_)
    show wpAny _ A.in1 (ret Value.none) _ _ s1
    rw [List.take_of_length_le (Nat.le_of_eq hn.symm)] at hS
    exact wpAny_pure (hR s1 c (mv.mono wr') (hS.at fun o e => mv.heap S o wS e))
  | succ m ih =>
    rintro i s hk hi hst ⟨c, hS⟩ hR
    refine codeAny_builtin F.entry_set_update_loop ?_
    rw [Around.under_plainId F.plain_set_update_loop _] ; show wpAny _ A.in1 (pyNext (.ref I) >>= _) _ _ s
    refine wpAny_bind (W.item i s _ _ (by omega) hst fun v s1 pv st1 mv => ?_)
    obtain ⟨z, t, hz, rfl⟩ := item i v pv
    have S1 : SetR w s1.heap S (fun j => decide (j ∈ ns.take i)) c := hS.at fun o e => mv.heap S o wS e
    have c1 : c ≤ ds.length := setR_le S1 fun k hk => sub k (List.mem_of_mem_take (of_decide_eq_true hk))
    show wpAny _ A.in1 (holding [Value.int z t] (setAdd S (.int z t)) >>= _) _ _ s1
    refine wpAny_bind (wpAny_holding ?_) ; unfold setAdd ; refine wpAny_holding (wpAny_bind ((intKind P w).pyHash (k := z) (intKind_is _ _ _ _) ?_))
    refine setR_add_hashed (s := { s1 with toks := s1.toks + 1 }) S1 (by omega) fun h2 same S2 => ?_
    have S3 : SetR w h2 S (fun j => decide (j ∈ ns.take (i + 1))) _ := S2.congr fun j => by rw [List.take_add_one, hz] ; simp [List.mem_append]
    have other : ∀ b o, b ≠ S → s1.heap.get? b = some o → h2.get? b = some o := fun b o hb e => by rw [same.2 b hb] ; exact e
    refine wpAny_pure ⟨plainId_quiet F.plain_set_update_loop _, ih (i + 1) _ (by omega) (by omega) (W.frame _ s1 _ _ st1 (Nat.le_succ _) fun b hb o e => other b o (fun z => out (z ▸ hb)) e) ⟨_, S3⟩ fun s2 c2 m2 S4 => hR s2 c2 (Moved.trans W.gtrans ((mv.mono wr').then_heap (Nat.le_succ _) fun b o hb e => other b o (fun z => hb (z ▸ List.mem_cons_self)) e) m2) S4⟩
/-- the object of an empty set -/
abbrev emp (w : World) : Obj := { cls := .type "set", dict := none, data := .set #[] 0 (.fresh 0 0 (!w.params.followText "set-order")) }
set_option maxHeartbeats 8000000 in
theorem call_set_few {l : Addr} {items : Array Value} {ns ds : List Int} {Q : Value → Shared → Prop} (hh : A.handled = none) (hl : s.heap.IsTuple l items) (hit : IntsAre items.toList ns) (few : ds.length + 1 < scanBound) (sub : ∀ k ∈ ns, k ∈ ds)
    (h : ∀ (h' : Heap) (tk c : Nat), SetR w h' s.heap.objs.size (fun j => decide (j ∈ ns)) c → (∀ b o, s.heap.get? b = some o → h'.get? b = some o) → Q (.ref s.heap.objs.size) { s with heap := h', toks := tk }) : wpAny (model P w) A (call (.type "set") [.ref l]) Q E s := by
  have size : items.size = ns.length := by have q := IntsAre.length hit ; rw [Array.length_toList] at q ; exact q
  obtain ⟨c, tl, f0⟩ := F.called_set.mro
  have f1 := F.called_set.made ; have f2 := F.called_set.sub ; have f3 := F.called_set.notType ; have f4 := F.called_set.canCreate ; have f5 := F.typeCall_set_1 (.ref l)
  refine wpAny_call (codeAny_of_tree ?_) ; show wpAny _ _ (callAny (.type "set") _) _ _ _
  refine wpAny_pure ⟨Code.quiet_builtin _ (by decide +kernel), codeAny_builtin F.entry_type_call ?_⟩ ; rw [Around.under_plain (weight_type_call_type "set" [.ref l] []) rfl]
  repeat (any_goals (first | assumption | wp_step)) ; skip
  refine codeAny_mono (code_set_led1 (.ref l) (E := E) (Q₁ := fun obj z => obj = .ref s.heap.objs.size ∧ z = { s with heap := s.heap.push (emp w) }) ⟨rfl, rfl⟩) fun r z hr => ?_
  match r, hr with
  | .error e, hr => exact hr
  | .ok .next, hr => exact hr.elim
  | .ok .brk, hr => exact hr.elim
  | .ok .cont, hr => exact hr.elim
  | .ok (.ret obj), hr =>
    obtain ⟨rfl, rfl⟩ := hr
    have set0 : (s.heap.push (emp w)).get? s.heap.objs.size = some (emp w) := Heap.get?_push_size _ rfl
    have type0 : Shared.TypeIs { s with heap := s.heap.push (emp w) } (.ref s.heap.objs.size) "set" := ⟨_, set0, rfl⟩
    have g1 := F.called_set.init.lookup ; have g2 := F.called_set.init.bind (.ref s.heap.objs.size)
    repeat (any_goals (first | assumption | wp_step)) ; skip
    refine codeAny_mono (codeAny_call_builtin (R := wants (fun r z => r = .none ∧ ∃ h' tk c, z = { s with heap := h', toks := tk } ∧ SetR w h' s.heap.objs.size (fun j => decide (j ∈ ns)) c ∧ (∀ b o, s.heap.get? b = some o → h'.get? b = some o)) E) F.called_set.init.plain F.entry_set_init (check_set_init_1 type0 ?_)) fun r z hr => ?_
    · obtain ⟨⟨c0, d0, t0, k0⟩, got, e1, len, e2⟩ := hl
      simp only at e1 e2 ; subst e1 ; subst e2
      have got' : (s.heap.push (emp w)).get? l = some { cls := .type "tuple", dict := d0, data := .seq items len, slots := k0 } := Heap.get?_push_of_some _ got
      have k1 := F.sub_tuple_set ; have k2 := F.sub_tuple_frozenset ; have k3 : (Value.type "tuple" == Value.type "dict") = false := by decide
      have tup : (s.heap.push (emp w)).IsTuple l items := ⟨_, got', rfl, len, rfl⟩
      unfold Builtin.«set.__init__» noKeywords Builtin.Frozenset.updateFrom ; generalize it : pyIter = PI ; wp_walk ; subst it
      refine wpAny_pyIter_tuple tup (wpAny_bind (wpAny_runValue ?_))
      have lt : l < s.heap.objs.size := Heap.lt_size got
      have hd : A.in1.in1.in1.handled = none := by simp [hh]
      have n1 : l ≠ (s.heap.push (emp w)).objs.size := by rw [Heap.size_push] ; exact Nat.ne_of_lt (Nat.lt_succ_of_lt lt)
      have n2 : s.heap.objs.size ∉ [(s.heap.push (emp w)).objs.size, l] := by rw [Heap.size_push] ; simp ; exact fun z => absurd (z ▸ lt) (Nat.lt_irrefl _)
      refine upd_few (ds := ds) ((Walks.tuple hd _ l n1 items).toS) (S := s.heap.objs.size) n2 size few sub (fun i v hv => ?_) (items.size - 0) 0 _ (by omega) (Nat.zero_le _) ⟨⟨_, Heap.get?_push_size _ rfl, rfl, rfl⟩, (tup.push _)⟩ ⟨0, setR_new_at (Heap.get?_push_of_some _ set0)⟩ ?_
      · have hi : i < ns.length := by rw [← size] ; exact (Array.getElem?_eq_some_iff.mp hv).1
        obtain ⟨t, e⟩ := PyProof.Rows.IntsAre.int_at hit i v (by rw [Array.getElem?_toList] ; exact hv)
        exact ⟨ns[i], t, List.getElem?_eq_getElem hi, by rw [e, List.getD_eq_getElem?_getD, List.getElem?_eq_getElem hi] <;> rfl⟩
      · rintro ⟨h2, g2, d2, tk2, o2⟩ c2 mv S2
        obtain rfl : g2 = s.gens := mv.gens ; obtain rfl : d2 = s.drawn := mv.drawn ; obtain rfl : o2 = s.os := mv.os
        show wpAny _ _ _ _ _ _ ; refine wpAny_pure ?_ ; show wpAny _ _ (ret Value.none) _ _ _
        refine wpAny_pure ⟨rfl, h2, tk2, c2, rfl, S2, fun b o e => mv.heap b o ?_ (Heap.get?_push_of_some _ (Heap.get?_push_of_some _ e))⟩
        have lb := Heap.lt_size e ; rw [Heap.size_push] ; simp ; exact ⟨Nat.ne_of_lt lb, Nat.ne_of_lt (Nat.lt_succ_of_lt lb)⟩
    · match r, hr with
      | .error e, hr => exact hr
      | .ok .next, hr => exact hr.elim
      | .ok .brk, hr => exact hr.elim
      | .ok .cont, hr => exact hr.elim
      | .ok (.ret u), hr =>
        obtain ⟨rfl, h2, tk2, c2, rfl, S2, k⟩ := hr
        repeat (any_goals (first | assumption | wp_step)) ; skip
        exact h _ _ _ S2 k
/-- sorted of a set, of any size -/
theorem sorted_setN {a : Addr} {S : Int → Bool} {n : Nat} {Q : Value → Shared → Prop} (R : SetR w s.heap a S n) (hh : A.handled = none)
    (hQ : ∀ s' p (out : Array Value) (c : Nat) (ns : List Int), (∀ b o, s.heap.get? b = some o → s'.heap.get? b = some o) → s'.gens = s.gens → s'.os = s.os → s.heap.objs.size ≤ p → s'.heap.get? p = some (seqObj "list" out c) → IntsAre out.toList ns → ns.Pairwise (· < ·) → (∀ k, k ∈ ns ↔ S k = true) → ns.length ≤ sizeLine → Q (.ref p) s') :
    wpAny (model P w) A (call (.builtin "sorted") [.ref a]) Q E s := by
  obtain ⟨o, es, ep, t, ho, hex, hd, g, nd, hm, hb, hf, hn, hr, hl⟩ := R
  refine Calls.call_function_entry kind_sorted plain_sorted entry_sorted (args_sorted1 _) ?_ ; unfold Builtin.«sorted»
  refine wpAny_bind (m := checkCount "sorted" 1 1 _) (wpAny_pure (wpAny_bind (collect_set (A := A.in1) hh ⟨o, ho, hex.1, hd⟩ hf hb hr hl fun s1 vs k1 hz g1 o1 pm => ?_)))
  have len : vs.length = es.size := by rw [pm.length_eq, List.length_map, Array.length_toList]
  have line : vs.length ≤ sizeLine := by rw [len] ; exact fits_of_scanBound hb
  have ivs : IntsAre vs (vs.map Builtin.Re.reRawOf) := ints_of vs fun v hv => by
    obtain ⟨e, he, q⟩ := List.mem_map.mp (pm.mem_iff.mp hv) ; obtain ⟨k, tk, h1, _⟩ := g e he ; exact ⟨k, tk, by rw [← q] ; exact h1⟩
  have perm : (vs.map Builtin.Re.reRawOf).Perm (es.toList.map keyOf) := by have q := pm.map Builtin.Re.reRawOf ; rw [List.map_map] at q ; exact q
  refine wpAny_bind (wpAny_newList ?_ line)
  have lst0 : (s1.heap.push (seqObj "list" vs.toArray 0)).get? s1.heap.objs.size = some (seqObj "list" vs.toArray 0) := Heap.get?_push_size _ rfl
  refine wpAny_bind (wpAny_holding (wpAny_call_entry slot_list_sort ⟨_, lst0, rfl⟩ entry_list_sort (SrtO.list_sort_ord SrtO.swo_int lst0 line (fun h2 => SrtO.ints_sortable ivs h2) fun out a1 a2 => ⟨_, rfl, ?_⟩) (args_list_sort _)))
  obtain ⟨k1', k2, k3⟩ := SrtO.ints_out ivs a1 a2
  obtain ⟨c, hc⟩ := sortedHeap_at (vs := vs) (out := out.toArray) lst0
  have pn := k2.trans perm
  refine wpAny_pure ⟨_, rfl, hQ _ s1.heap.objs.size out.toArray c _ (fun b u e => ?_) g1 o1 hz hc k1' (lt_of_le_nodup _ k3 (pn.nodup_iff.mpr nd)) (fun k => by rw [pn.mem_iff, ← hm k]) (by rw [k2.length_eq, List.length_map] ; exact line)⟩
  have lt := Heap.lt_size (k1 b u e)
  show (sortedHeap (s1.heap.push (seqObj "list" vs.toArray 0)) s1.heap.objs.size vs out.toArray).get? b = some u
  rw [sortedHeap_old (Nat.ne_of_lt lt) (by rw [size_push'] ; exact Nat.lt_succ_of_lt lt)] ; exact Heap.get?_push_of_some _ (k1 b u e)
end
section
variable {X : Cx}
/-- set(t), t a tuple of ints, each of them in ds -/
def rSetT (K : PySem.W.Frag) (w : World) : List V → Hp → VK → Prop := fun xs H Q => ∃ (p : Addr) (ns ds : List Int), xs = [.ref p] ∧ SqT K H p (ns.map V.int) ∧ ds.length + 1 < scanBound ∧ (∀ k ∈ ns, k ∈ ds) ∧ ∀ a c, H a = none → Q (.ref a) (upd H a (SetO w a (fun j => decide (j ∈ ns)) c))
theorem cr_setT (hc : X.calm = true) : CallR X (.type "set") (rSetT X.K X.w) := by
  rintro pins s σ H xs us Q I r ⟨p, ns, ds, rfl, hs, few, sub, q⟩
  obtain ⟨its, rv, pt, hz⟩ := I.tuple hs
  rw [Vals.ref1 r]
  refine call_set_few (ds := ds) (I.ok.hd hc) (show s.heap.IsTuple p its.toArray from pt) rv.ints few sub fun h' tk c R k => ?_
  have hn : H s.heap.objs.size = none := I.hok.fresh (Nat.le_refl _)
  exact ⟨.ref _, upd H s.heap.objs.size (SetO X.w s.heap.objs.size _ c), I.laid (t' := tk) k (Nat.le_refl _) (setO_new R), rfl, q _ c hn⟩
/-- sorted(a set) -/
def rSortS (w : World) : List V → Hp → VK → Prop := fun vs H Q => ∃ (a : Addr) (S : Int → Bool) (n : Nat), vs = [V.ref a] ∧ H a = some (SetO w a S n) ∧ ∀ (ns : List Int) (p : Addr), ns.Pairwise (· < ·) → (∀ k : Int, k ∈ ns ↔ S k = true) → H p = none → Q (.ref p) (upd H p (.lst (ns.map V.int)))
theorem cr_sortS (hc : X.calm = true) : CallR X (.builtin "sorted") (rSortS X.w) := by
  rintro pins s σ H vs us Q I r ⟨a, S, n, rfl, ha, q⟩
  rw [Vals.ref1 r]
  refine sorted_setN (setO_get I ha) (I.ok.hd hc) fun s' p out c ns k g o hp hg hi hs hm hl => ?_
  have hn : H p = none := I.hok.fresh hp
  have hlen : (ns.map V.int).length ≤ sizeLine := by rw [List.length_map] ; exact hl
  have J : Inv X pins σ (upd H p (.lst (ns.map V.int))) { s with heap := s'.heap, gens := s'.gens, drawn := s'.drawn, toks := s'.toks } := I.call (ch := []) (Un.laid k hp hn) (I.hok.laid k hp ⟨hlen, out.toList, c, vals_of_ints hi, hg⟩) (by rw [g] ; exact I.bare) (fun _ z => nomatch z)
  have e : s' = { s with heap := s'.heap, gens := s'.gens, drawn := s'.drawn, toks := s'.toks } := by cases s' ; cases s ; cases o ; rfl
  rw [e]
  exact ⟨.ref p, _, J, rfl, q ns p hs hm hn⟩
/-- t * n, a great number of items -/
def rRepW (K : PySem.W.Frag) : R2 := fun x y H Q => ∃ l k xs, x = .ref l ∧ y = .int k ∧ SqT K H l xs ∧ xs ≠ [] ∧ 2 ≤ k ∧ xs.length * k.toNat ≤ 1000000 ∧ ∀ p, H p = none → Q (.ref p) (upd H p (.tup (List.replicate k.toNat xs).flatten))
theorem op_repW : OpR X (binaryOp .Mult) (rRepW X.K) := by
  rintro pins s σ H x y v u Q I rx ry ⟨l, k, xs, rfl, rfl, hT, ne, two, size, q⟩
  cases rx ; obtain ⟨t, rfl⟩ := ry
  obtain ⟨its, r, ⟨⟨cls, dd, data, sl⟩, ho, hc, n, hd⟩, hs⟩ := I.tuple hT
  simp only at hc hd ; subst hc hd
  have len : its.length = xs.length := r.length.symm
  have pos : 0 < xs.length := List.length_pos_iff.mpr ne
  obtain ⟨m, rfl⟩ : ∃ m : Nat, k = m := ⟨k.toNat, by omega⟩
  rw [Int.toNat_natCast] at size q
  have less : m ≤ 1000000 := Nat.le_trans (Nat.le_mul_of_pos_left m pos) size
  have e0 : its.toArray.isEmpty = false := by cases its with | nil => rw [← len] at pos ; exact absurd pos (Nat.lt_irrefl 0) | cons a b => rfl
  have mul : ((its.toArray.size : Nat) : Int) * (m : Int) ≤ 1000000 := by rw [List.size_toArray, len] ; exact (Int.natCast_mul xs.length m) ▸ Int.ofNat_le.mpr size
  have flat : (List.replicate m its).flatten.length ≤ sizeLine := by rw [PyProof.Rows.lm_len_rep_flat, len, sizeLine_eq, Nat.mul_comm] ; omega
  have w1 : (decide ((m : Int) < -(2 ^ 63)) || decide ((m : Int) ≥ 2 ^ 63)) = false := by rw [decide_eq_false (by omega), decide_eq_false (by omega)] ; rfl
  have w2 : (its.toArray.isEmpty || (m : Int) == 1) = false := by rw [e0, Bool.false_or] ; exact beq_eq_false_iff_ne.mpr (by omega)
  have w3 : (decide ((m : Int) ≤ 0) || its.toArray.isEmpty) = false := by rw [e0, Bool.or_false] ; exact decide_eq_false (by omega)
  have w4 : Builtin.Tuple.tupleTooMany (((its.toArray.size : Nat) : Int) * (m : Int)) = false := by unfold Builtin.Tuple.tupleTooMany ; rw [sizeLine_eq] ; exact decide_eq_false (by omega)
  have made := tuple_mulW l its.toArray n dd sl m t w1 w2 w3 (by omega) w4 (by rw [Int.toNat_natCast, size_rep, List.size_toArray] ; exact flat)
  refine wpAny_binaryOp_repeat_ref (T := "tuple") (U := "int") (by decide) ⟨_, ho, rfl⟩ (fun s' => typeIs_int s' m t) noFill_tuple_mul F.fills_int_mul F.slot_int_rmul repeat_tuple F.slot_int_index.lookup (call_meets F.slot_int_rmul (typeIs_int s m t) F.entry_int_rmul (F.args_int_rmul_2 _ _) (int_rmul_tuple m t l its.toArray n dd sl) ⟨ho, rfl, ⟨_, ho, rfl⟩, call_meets F.slot_tuple_mul ⟨_, ho, rfl⟩ F.entry_tuple_mul (F.args_tuple_mul_2 _ _) made ⟨ho, ?_⟩⟩)
  rw [Int.toNat_natCast, size_rep]
  have val : Vals (List.replicate m xs).flatten (List.replicate m its).flatten := by
    clear made w1 w2 w3 w4 flat mul less two size q
    induction m with
    | zero => exact .nil
    | succ m ih => rw [List.replicate_succ, List.replicate_succ, List.flatten_cons, List.flatten_cons] ; exact r.append ih
  exact ⟨.ref s.heap.objs.size, _, I.laid (t' := s.toks) (o := .tup (List.replicate m xs).flatten) (fun b ob z => Heap.get?_push_of_some _ z) (Nat.le_refl _) ⟨by rw [val.length] ; exact flat, _, val, IsTup.new _ _⟩, rfl, q _ (I.hok.fresh (Nat.le_refl _))⟩
end
end LL

/-! sorted of rows of ints, of any number -/
namespace LL
open PySem PySem.Spec PyProof.Rows L2 PySem.W
def encR (b : V × List Int) : PyData := .tuple (b.2.map .int)
def leR (a b : List Int) : Bool := decide (a ≤ b)
theorem vals_each : ∀ {bs : List (V × List Int)} {us : List Value}, Vals (bs.map (·.1)) us → EachIs (fun v (b : V × List Int) => RelV b.1 v) us bs
  | [], us, h => by cases h ; exact .nil
  | b :: bs, us, h => by cases h with | cons r rr => exact .cons r (vals_each rr)
theorem each_vals : ∀ {bs : List (V × List Int)} {us : List Value}, EachIs (fun v (b : V × List Int) => RelV b.1 v) us bs → Vals (bs.map (·.1)) us
  | [], us, h => by cases h ; exact .nil
  | b :: bs, us, h => by cases h with | cons r rr => exact .cons r (each_vals rr)
theorem each_reads {X : Cx} {pins : List (Addr × Obj)} {σ : L2.St} {H : Hp} {s : Shared} (I : Inv X pins σ H s) : ∀ {bs : List (V × List Int)} {us : List Value}, (∀ b ∈ bs, Dp X.K H b.1 (encR b)) → Vals (bs.map (·.1)) us → EachIs (fun v b => ∃ as, Reads s.heap v (encR b) as) us bs
  | [], us, _, h => by cases h ; exact .nil
  | b :: bs, us, d, h => by cases h with | cons r rr => exact .cons (Dp.reads I _ _ _ (d b List.mem_cons_self) r) (each_reads I (fun c hc => d c (List.mem_cons_of_mem _ hc)) rr)
theorem dataLe_tup : dataLe false encR = fun a b => leR a.2 b.2 := by
  funext a b
  rw [dataLe_eq]
  show (!dataLt (.tuple (b.2.map .int)) (.tuple (a.2.map .int))) = _
  rw [show dataLt (.tuple (b.2.map .int)) (.tuple (a.2.map .int)) = rowLt (b.2.map .int) (a.2.map .int) from rfl, dataLt_ints]
  unfold leR
  by_cases h : a.2 ≤ b.2
  · rw [decide_eq_true h, decide_eq_false (fun z => h z)] ; rfl
  · rw [decide_eq_false h, decide_eq_true (Classical.not_not.mp h)] ; rfl
def rSortedR (K : PySem.W.Frag) : List V → Hp → VK → Prop := fun vs H Q => ∃ (a : Addr) (bs : List (V × List Int)), vs = [V.ref a] ∧ SqL K H a (bs.map (·.1)) ∧ (∀ b ∈ bs, Dp K H b.1 (encR b) ∧ b.2 ≠ []) ∧ ∀ p, H p = none → Q (.ref p) (upd H p (.lst ((bs.mergeSort fun a b => leR a.2 b.2).map (·.1))))
theorem cr_sortedR {X : Cx} (hu : X.A.units + 64 < cLine) : CallR X (.builtin "sorted") (rSortedR X.K) := by
  rintro pins s σ H vs us Q I r ⟨a, bs, rfl, hs, hb, q⟩
  obtain ⟨its, rv, hl, hz⟩ := I.list hs
  rw [Vals.ref1 r]
  have len : bs.length ≤ sizeLine := by rw [List.length_map] at hz ; exact hz
  refine sorted_data (bs := bs) (enc := encR) (R := fun v (b : V × List Int) => RelV b.1 v) (vs := its) hl.isList (vals_each rv) (each_reads I (fun b h => (hb b h).1) rv) (AllAlike.of fun b b' => alike_ints b.2 b'.2) (.inl fun d hd => ?_) len (fun b h => ?_) fun out hol he => ?_
  · obtain ⟨b, h, rfl⟩ := List.mem_map.mp hd
    obtain ⟨x, xs, e⟩ := List.exists_cons_of_ne_nil (hb b h).2
    exact ⟨.int x, xs.map .int, by unfold encR ; rw [e] ; rfl⟩
  · have d0 := depth_ints b.2
    have : (encR b).depth ≤ 1 := by unfold encR ; simp [PyData.depth, d0]
    show X.A.units + 2 + (encR b).depth < cLine
    omega
  · rw [dataLe_tup] at he
    obtain ⟨ep, he'⟩ := PyProof.Rows.sortedAll_at s.heap its out.toArray
    have hlen : ((bs.mergeSort fun a b => leR a.2 b.2).map (·.1)).length ≤ sizeLine := by rw [List.length_map, List.length_mergeSort] ; exact len
    exact ⟨.ref _, upd H (s.heap.objs.size + 1) (.lst ((bs.mergeSort fun a b => leR a.2 b.2).map (·.1))), I.laid (t' := s.toks) (fun _ _ => PyProof.Rows.sortedAll_old) (Nat.le_succ _) ⟨hlen, out, ep, each_vals he, he'⟩, rfl, q _ (I.hok.fresh (Nat.le_succ _))⟩
end LL

namespace K11
open PySem PySem.Spec PyProof.Rows L2 LL
def top (i : Nat) : Stmt := PySem.Challenge.pw_allgivenback_k11_join_changes.main.body.getD i (.Pass ⟨0, 0, 0, 0⟩)
abbrev FnP (K : PySem.W.Frag) (x : Str) (st : Stmt) (f : Addr) (fd : FuncData) : Prop := FunD K x x (defArgs st) (defBody st) (defScope st) [] [] f fd
def p_BadValue : { s : Stmt // inClass (top 5) 0 = s } := by
  refine ⟨?s, ?h⟩
  case h => conv => lhs; whnf
abbrev s_BadValue : Stmt := p_BadValue.1
abbrev P_BadValue : List Str := ["self", "parameter"]
theorem sc_BadValue : FnScope P_BadValue P_BadValue (defScope s_BadValue) := ⟨rfl, rfl, rfl, by decide +kernel, rfl, by decide +kernel, by decide +kernel⟩
abbrev aBV (K : PySem.W.Frag) : Addr := He.ga K "BadValue"
abbrev iBV (K : PySem.W.Frag) : Addr := He.ma K (He.ga K "BadValue") "__init__"
def p_is_whole : { s : Stmt // top 13 = s } := by
  refine ⟨?s, ?h⟩
  case h => conv => lhs; whnf
abbrev s_is_whole : Stmt := p_is_whole.1
abbrev N_is_whole : List Str := ["value"]
abbrev P_is_whole : List Str := ["value"]
theorem sc_is_whole : FnScope N_is_whole P_is_whole (defScope s_is_whole) := ⟨rfl, rfl, rfl, by decide +kernel, rfl, by decide +kernel, by decide +kernel⟩
def p_is_holder : { s : Stmt // top 14 = s } := by
  refine ⟨?s, ?h⟩
  case h => conv => lhs; whnf
abbrev s_is_holder : Stmt := p_is_holder.1
abbrev N_is_holder : List Str := ["value"]
abbrev P_is_holder : List Str := ["value"]
theorem sc_is_holder : FnScope N_is_holder P_is_holder (defScope s_is_holder) := ⟨rfl, rfl, rfl, by decide +kernel, rfl, by decide +kernel, by decide +kernel⟩
def p_need : { s : Stmt // top 16 = s } := by
  refine ⟨?s, ?h⟩
  case h => conv => lhs; whnf
abbrev s_need : Stmt := p_need.1
abbrev N_need : List Str := ["holds", "parameter"]
abbrev P_need : List Str := ["holds", "parameter"]
theorem sc_need : FnScope N_need P_need (defScope s_need) := ⟨rfl, rfl, rfl, by decide +kernel, rfl, by decide +kernel, by decide +kernel⟩
def p_is_word : { s : Stmt // top 17 = s } := by
  refine ⟨?s, ?h⟩
  case h => conv => lhs; whnf
abbrev s_is_word : Stmt := p_is_word.1
abbrev N_is_word : List Str := ["value"]
abbrev P_is_word : List Str := ["value"]
theorem sc_is_word : FnScope N_is_word P_is_word (defScope s_is_word) := ⟨rfl, rfl, rfl, by decide +kernel, rfl, by decide +kernel, by decide +kernel⟩
def p_is_width : { s : Stmt // top 22 = s } := by
  refine ⟨?s, ?h⟩
  case h => conv => lhs; whnf
abbrev s_is_width : Stmt := p_is_width.1
abbrev N_is_width : List Str := ["value"]
abbrev P_is_width : List Str := ["value"]
theorem sc_is_width : FnScope N_is_width P_is_width (defScope s_is_width) := ⟨rfl, rfl, rfl, by decide +kernel, rfl, by decide +kernel, by decide +kernel⟩
def p_fits_pages : { s : Stmt // top 23 = s } := by
  refine ⟨?s, ?h⟩
  case h => conv => lhs; whnf
abbrev s_fits_pages : Stmt := p_fits_pages.1
abbrev N_fits_pages : List Str := ["count", "width"]
abbrev P_fits_pages : List Str := ["count", "width"]
theorem sc_fits_pages : FnScope N_fits_pages P_fits_pages (defScope s_fits_pages) := ⟨rfl, rfl, rfl, by decide +kernel, rfl, by decide +kernel, by decide +kernel⟩
def p_distinct : { s : Stmt // top 24 = s } := by
  refine ⟨?s, ?h⟩
  case h => conv => lhs; whnf
abbrev s_distinct : Stmt := p_distinct.1
abbrev N_distinct : List Str := ["values", "value"]
abbrev P_distinct : List Str := ["values"]
theorem sc_distinct : FnScope N_distinct P_distinct (defScope s_distinct) := ⟨rfl, rfl, rfl, by decide +kernel, rfl, by decide +kernel, by decide +kernel⟩
def p_are_words : { s : Stmt // top 25 = s } := by
  refine ⟨?s, ?h⟩
  case h => conv => lhs; whnf
abbrev s_are_words : Stmt := p_are_words.1
abbrev N_are_words : List Str := ["values", "numbers", "number"]
abbrev P_are_words : List Str := ["values"]
theorem sc_are_words : FnScope N_are_words P_are_words (defScope s_are_words) := ⟨rfl, rfl, rfl, by decide +kernel, rfl, by decide +kernel, by decide +kernel⟩
def p_are_holders : { s : Stmt // top 26 = s } := by
  refine ⟨?s, ?h⟩
  case h => conv => lhs; whnf
abbrev s_are_holders : Stmt := p_are_holders.1
abbrev N_are_holders : List Str := ["values", "numbers", "number"]
abbrev P_are_holders : List Str := ["values"]
theorem sc_are_holders : FnScope N_are_holders P_are_holders (defScope s_are_holders) := ⟨rfl, rfl, rfl, by decide +kernel, rfl, by decide +kernel, by decide +kernel⟩
def p_is_image : { s : Stmt // top 27 = s } := by
  refine ⟨?s, ?h⟩
  case h => conv => lhs; whnf
abbrev s_is_image : Stmt := p_is_image.1
abbrev N_is_image : List Str := ["value", "width", "fill", "words", "holders"]
abbrev P_is_image : List Str := ["value"]
theorem sc_is_image : FnScope N_is_image P_is_image (defScope s_is_image) := ⟨rfl, rfl, rfl, by decide +kernel, rfl, by decide +kernel, by decide +kernel⟩
def p_is_change : { s : Stmt // top 28 = s } := by
  refine ⟨?s, ?h⟩
  case h => conv => lhs; whnf
abbrev s_is_change : Stmt := p_is_change.1
abbrev N_is_change : List Str := ["row", "place", "word", "holder", "new_word", "new_holder"]
abbrev P_is_change : List Str := ["row"]
theorem sc_is_change : FnScope N_is_change P_is_change (defScope s_is_change) := ⟨rfl, rfl, rfl, by decide +kernel, rfl, by decide +kernel, by decide +kernel⟩
def p_is_changes : { s : Stmt // top 29 = s } := by
  refine ⟨?s, ?h⟩
  case h => conv => lhs; whnf
abbrev s_is_changes : Stmt := p_is_changes.1
abbrev N_is_changes : List Str := ["value", "last", "row"]
abbrev P_is_changes : List Str := ["value"]
theorem sc_is_changes : FnScope N_is_changes P_is_changes (defScope s_is_changes) := ⟨rfl, rfl, rfl, by decide +kernel, rfl, by decide +kernel, by decide +kernel⟩
def p_changes : { s : Stmt // top 30 = s } := by
  refine ⟨?s, ?h⟩
  case h => conv => lhs; whnf
abbrev s_changes : Stmt := p_changes.1
abbrev N_changes : List Str := ["before", "after", "rows", "place", "old", "new"]
abbrev P_changes : List Str := ["before", "after"]
theorem sc_changes : FnScope N_changes P_changes (defScope s_changes) := ⟨rfl, rfl, rfl, by decide +kernel, rfl, by decide +kernel, by decide +kernel⟩
def p_put_rows : { s : Stmt // top 31 = s } := by
  refine ⟨?s, ?h⟩
  case h => conv => lhs; whnf
abbrev s_put_rows : Stmt := p_put_rows.1
abbrev N_put_rows : List Str := ["words", "holders", "rows", "place", "word", "holder", "new_word", "new_holder"]
abbrev P_put_rows : List Str := ["words", "holders", "rows"]
theorem sc_put_rows : FnScope N_put_rows P_put_rows (defScope s_put_rows) := ⟨rfl, rfl, rfl, by decide +kernel, rfl, by decide +kernel, by decide +kernel⟩
def p_image_after : { s : Stmt // top 32 = s } := by
  refine ⟨?s, ?h⟩
  case h => conv => lhs; whnf
abbrev s_image_after : Stmt := p_image_after.1
abbrev N_image_after : List Str := ["image", "steps", "words", "holders", "width", "fill", "old_words", "old_holders", "rows"]
abbrev P_image_after : List Str := ["image", "steps"]
theorem sc_image_after : FnScope N_image_after P_image_after (defScope s_image_after) := ⟨rfl, rfl, rfl, by decide +kernel, rfl, by decide +kernel, by decide +kernel⟩
def p_apply_changes : { s : Stmt // top 33 = s } := by
  refine ⟨?s, ?h⟩
  case h => conv => lhs; whnf
abbrev s_apply_changes : Stmt := p_apply_changes.1
abbrev N_apply_changes : List Str := ["image", "rows", "after"]
abbrev P_apply_changes : List Str := ["image", "rows"]
theorem sc_apply_changes : FnScope N_apply_changes P_apply_changes (defScope s_apply_changes) := ⟨rfl, rfl, rfl, by decide +kernel, rfl, by decide +kernel, by decide +kernel⟩
def p_invert : { s : Stmt // top 34 = s } := by
  refine ⟨?s, ?h⟩
  case h => conv => lhs; whnf
abbrev s_invert : Stmt := p_invert.1
abbrev N_invert : List Str := ["rows", "place", "word", "holder", "new_word", "new_holder"]
abbrev P_invert : List Str := ["rows"]
theorem sc_invert : FnScope N_invert P_invert (defScope s_invert) := ⟨rfl, rfl, rfl, by decide +kernel, rfl, by decide +kernel, by decide +kernel⟩
def p_join_changes : { s : Stmt // top 35 = s } := by
  refine ⟨?s, ?h⟩
  case h => conv => lhs; whnf
abbrev s_join_changes : Stmt := p_join_changes.1
abbrev N_join_changes : List Str := ["first", "second", "joined", "row", "rows", "place", "before"]
abbrev P_join_changes : List Str := ["first", "second"]
theorem sc_join_changes : FnScope N_join_changes P_join_changes (defScope s_join_changes) := ⟨rfl, rfl, rfl, by decide +kernel, rfl, by decide +kernel, by decide +kernel⟩
def p_law_draws : { s : Stmt // top 37 = s } := by
  refine ⟨?s, ?h⟩
  case h => conv => lhs; whnf
abbrev s_law_draws : Stmt := p_law_draws.1
abbrev N_law_draws : List Str := ["_law_script", "_law_cell"]
abbrev P_law_draws : List Str := ["_law_script"]
theorem sc_law_draws : FnScope N_law_draws P_law_draws (defScope s_law_draws) := ⟨rfl, rfl, rfl, by decide +kernel, rfl, by decide +kernel, by decide +kernel⟩
def p_law_next_cell : { s : Stmt // top 38 = s } := by
  refine ⟨?s, ?h⟩
  case h => conv => lhs; whnf
abbrev s_law_next_cell : Stmt := p_law_next_cell.1
abbrev N_law_next_cell : List Str := ["_law_draws_here", "_law_cells", "_law_state", "_law_cell"]
abbrev P_law_next_cell : List Str := ["_law_draws_here"]
theorem sc_law_next_cell : FnScope N_law_next_cell P_law_next_cell (defScope s_law_next_cell) := ⟨rfl, rfl, rfl, by decide +kernel, rfl, by decide +kernel, by decide +kernel⟩
def p_law_mixed : { s : Stmt // top 39 = s } := by
  refine ⟨?s, ?h⟩
  case h => conv => lhs; whnf
abbrev s_law_mixed : Stmt := p_law_mixed.1
abbrev N_law_mixed : List Str := ["_law_seed", "_law_turn", "_law_many", "_law_value", "_law_k", "_law_first", "_law_second"]
abbrev P_law_mixed : List Str := ["_law_seed", "_law_turn", "_law_many"]
theorem sc_law_mixed : FnScope N_law_mixed P_law_mixed (defScope s_law_mixed) := ⟨rfl, rfl, rfl, by decide +kernel, rfl, by decide +kernel, by decide +kernel⟩
def p_law_take : { s : Stmt // top 40 = s } := by
  refine ⟨?s, ?h⟩
  case h => conv => lhs; whnf
abbrev s_law_take : Stmt := p_law_take.1
abbrev N_law_take : List Str := ["_law_draws_here", "_law_many", "_law_state", "_law_value"]
abbrev P_law_take : List Str := ["_law_draws_here", "_law_many"]
theorem sc_law_take : FnScope N_law_take P_law_take (defScope s_law_take) := ⟨rfl, rfl, rfl, by decide +kernel, rfl, by decide +kernel, by decide +kernel⟩
def p_law_among : { s : Stmt // top 41 = s } := by
  refine ⟨?s, ?h⟩
  case h => conv => lhs; whnf
abbrev s_law_among : Stmt := p_law_among.1
abbrev N_law_among : List Str := ["_law_draws_here", "_law_row"]
abbrev P_law_among : List Str := ["_law_draws_here", "_law_row"]
theorem sc_law_among : FnScope N_law_among P_law_among (defScope s_law_among) := ⟨rfl, rfl, rfl, by decide +kernel, rfl, by decide +kernel, by decide +kernel⟩
def p_law_between : { s : Stmt // top 42 = s } := by
  refine ⟨?s, ?h⟩
  case h => conv => lhs; whnf
abbrev s_law_between : Stmt := p_law_between.1
abbrev N_law_between : List Str := ["_law_draws_here", "_law_low", "_law_high", "_law_kind"]
abbrev P_law_between : List Str := ["_law_draws_here", "_law_low", "_law_high"]
theorem sc_law_between : FnScope N_law_between P_law_between (defScope s_law_between) := ⟨rfl, rfl, rfl, by decide +kernel, rfl, by decide +kernel, by decide +kernel⟩
def p_law_count : { s : Stmt // top 43 = s } := by
  refine ⟨?s, ?h⟩
  case h => conv => lhs; whnf
abbrev s_law_count : Stmt := p_law_count.1
abbrev N_law_count : List Str := ["_law_draws_here", "_law_small", "_law_great"]
abbrev P_law_count : List Str := ["_law_draws_here", "_law_small", "_law_great"]
theorem sc_law_count : FnScope N_law_count P_law_count (defScope s_law_count) := ⟨rfl, rfl, rfl, by decide +kernel, rfl, by decide +kernel, by decide +kernel⟩
def p_law_other : { s : Stmt // top 44 = s } := by
  refine ⟨?s, ?h⟩
  case h => conv => lhs; whnf
abbrev s_law_other : Stmt := p_law_other.1
abbrev N_law_other : List Str := ["_law_draws_here", "_law_row", "_law_old", "_law_rest", "_law_member"]
abbrev P_law_other : List Str := ["_law_draws_here", "_law_row", "_law_old"]
theorem sc_law_other : FnScope N_law_other P_law_other (defScope s_law_other) := ⟨rfl, rfl, rfl, by decide +kernel, rfl, by decide +kernel, by decide +kernel⟩
def p_law_same : { s : Stmt // top 45 = s } := by
  refine ⟨?s, ?h⟩
  case h => conv => lhs; whnf
abbrev s_law_same : Stmt := p_law_same.1
abbrev N_law_same : List Str := ["_law_actual", "_law_expected", "_law_k", "_law_key"]
abbrev P_law_same : List Str := ["_law_actual", "_law_expected"]
theorem sc_law_same : FnScope N_law_same P_law_same (defScope s_law_same) := ⟨rfl, rfl, rfl, by decide +kernel, rfl, by decide +kernel, by decide +kernel⟩
def p_law_copy : { s : Stmt // top 46 = s } := by
  refine ⟨?s, ?h⟩
  case h => conv => lhs; whnf
abbrev s_law_copy : Stmt := p_law_copy.1
abbrev N_law_copy : List Str := ["_law_value", "_law_twin", "_law_key", "_law_one"]
abbrev P_law_copy : List Str := ["_law_value"]
theorem sc_law_copy : FnScope N_law_copy P_law_copy (defScope s_law_copy) := ⟨rfl, rfl, rfl, by decide +kernel, rfl, by decide +kernel, by decide +kernel⟩
def p_law_holders : { s : Stmt // top 47 = s } := by
  refine ⟨?s, ?h⟩
  case h => conv => lhs; whnf
abbrev s_law_holders : Stmt := p_law_holders.1
abbrev N_law_holders : List Str := []
abbrev P_law_holders : List Str := []
theorem sc_law_holders : FnScope N_law_holders P_law_holders (defScope s_law_holders) := ⟨rfl, rfl, rfl, by decide +kernel, rfl, by decide +kernel, by decide +kernel⟩
def p_law_holder : { s : Stmt // top 48 = s } := by
  refine ⟨?s, ?h⟩
  case h => conv => lhs; whnf
abbrev s_law_holder : Stmt := p_law_holder.1
abbrev N_law_holder : List Str := ["_law_draws_here"]
abbrev P_law_holder : List Str := ["_law_draws_here"]
theorem sc_law_holder : FnScope N_law_holder P_law_holder (defScope s_law_holder) := ⟨rfl, rfl, rfl, by decide +kernel, rfl, by decide +kernel, by decide +kernel⟩
def p_law_word : { s : Stmt // top 49 = s } := by
  refine ⟨?s, ?h⟩
  case h => conv => lhs; whnf
abbrev s_law_word : Stmt := p_law_word.1
abbrev N_law_word : List Str := ["_law_draws_here", "_law_blank_here", "_law_kind"]
abbrev P_law_word : List Str := ["_law_draws_here", "_law_blank_here"]
theorem sc_law_word : FnScope N_law_word P_law_word (defScope s_law_word) := ⟨rfl, rfl, rfl, by decide +kernel, rfl, by decide +kernel, by decide +kernel⟩
def p_law_other_word : { s : Stmt // top 50 = s } := by
  refine ⟨?s, ?h⟩
  case h => conv => lhs; whnf
abbrev s_law_other_word : Stmt := p_law_other_word.1
abbrev N_law_other_word : List Str := ["_law_draws_here", "_law_word_here"]
abbrev P_law_other_word : List Str := ["_law_draws_here", "_law_word_here"]
theorem sc_law_other_word : FnScope N_law_other_word P_law_other_word (defScope s_law_other_word) := ⟨rfl, rfl, rfl, by decide +kernel, rfl, by decide +kernel, by decide +kernel⟩
def p_law_blank : { s : Stmt // top 51 = s } := by
  refine ⟨?s, ?h⟩
  case h => conv => lhs; whnf
abbrev s_law_blank : Stmt := p_law_blank.1
abbrev N_law_blank : List Str := ["_law_draws_here", "_law_kind"]
abbrev P_law_blank : List Str := ["_law_draws_here"]
theorem sc_law_blank : FnScope N_law_blank P_law_blank (defScope s_law_blank) := ⟨rfl, rfl, rfl, by decide +kernel, rfl, by decide +kernel, by decide +kernel⟩
def p_law_near_image : { s : Stmt // top 52 = s } := by
  refine ⟨?s, ?h⟩
  case h => conv => lhs; whnf
abbrev s_law_near_image : Stmt := p_law_near_image.1
abbrev N_law_near_image : List Str := ["_law_draws_here", "_law_image", "_law_words", "_law_holders_here", "_law_k", "_law_at", "_law_kind"]
abbrev P_law_near_image : List Str := ["_law_draws_here", "_law_image"]
theorem sc_law_near_image : FnScope N_law_near_image P_law_near_image (defScope s_law_near_image) := ⟨rfl, rfl, rfl, by decide +kernel, rfl, by decide +kernel, by decide +kernel⟩
def p_law_changes_due : { s : Stmt // top 53 = s } := by
  refine ⟨?s, ?h⟩
  case h => conv => lhs; whnf
abbrev s_law_changes_due : Stmt := p_law_changes_due.1
abbrev N_law_changes_due : List Str := ["_law_before", "_law_after", "_law_row", "_law_at"]
abbrev P_law_changes_due : List Str := ["_law_before", "_law_after"]
theorem sc_law_changes_due : FnScope N_law_changes_due P_law_changes_due (defScope s_law_changes_due) := ⟨rfl, rfl, rfl, by decide +kernel, rfl, by decide +kernel, by decide +kernel⟩
def p_law_change_from : { s : Stmt // top 54 = s } := by
  refine ⟨?s, ?h⟩
  case h => conv => lhs; whnf
abbrev s_law_change_from : Stmt := p_law_change_from.1
abbrev N_law_change_from : List Str := ["_law_draws_here", "_law_place", "_law_word_here", "_law_holder_here", "_law_kind", "_law_new_word", "_law_new_holder"]
abbrev P_law_change_from : List Str := ["_law_draws_here", "_law_place", "_law_word_here", "_law_holder_here"]
theorem sc_law_change_from : FnScope N_law_change_from P_law_change_from (defScope s_law_change_from) := ⟨rfl, rfl, rfl, by decide +kernel, rfl, by decide +kernel, by decide +kernel⟩
def p_law_change_rows : { s : Stmt // top 55 = s } := by
  refine ⟨?s, ?h⟩
  case h => conv => lhs; whnf
abbrev s_law_change_rows : Stmt := p_law_change_rows.1
abbrev N_law_change_rows : List Str := ["_law_draws_here", "_law_count_here", "_law_row", "_law_place", "_law_k"]
abbrev P_law_change_rows : List Str := ["_law_draws_here", "_law_count_here"]
theorem sc_law_change_rows : FnScope N_law_change_rows P_law_change_rows (defScope s_law_change_rows) := ⟨rfl, rfl, rfl, by decide +kernel, rfl, by decide +kernel, by decide +kernel⟩
def p_law_joined : { s : Stmt // top 56 = s } := by
  refine ⟨?s, ?h⟩
  case h => conv => lhs; whnf
abbrev s_law_joined : Stmt := p_law_joined.1
abbrev N_law_joined : List Str := ["_law_first", "_law_second", "_law_ends", "_law_one", "_law_old", "_law_place"]
abbrev P_law_joined : List Str := ["_law_first", "_law_second"]
theorem sc_law_joined : FnScope N_law_joined P_law_joined (defScope s_law_joined) := ⟨rfl, rfl, rfl, by decide +kernel, rfl, by decide +kernel, by decide +kernel⟩
def p_law_kinds : { s : Stmt // top 57 = s } := by
  refine ⟨?s, ?h⟩
  case h => conv => lhs; whnf
abbrev s_law_kinds : Stmt := p_law_kinds.1
abbrev N_law_kinds : List Str := ["_law_error"]
abbrev P_law_kinds : List Str := ["_law_error"]
theorem sc_law_kinds : FnScope N_law_kinds P_law_kinds (defScope s_law_kinds) := ⟨rfl, rfl, rfl, by decide +kernel, rfl, by decide +kernel, by decide +kernel⟩
def p_law_refused : { s : Stmt // top 58 = s } := by
  refine ⟨?s, ?h⟩
  case h => conv => lhs; whnf
abbrev s_law_refused : Stmt := p_law_refused.1
abbrev N_law_refused : List Str := ["_law_title", "_law_fields", "_law_titles", "_law_one"]
abbrev P_law_refused : List Str := ["_law_title", "_law_fields"]
theorem sc_law_refused : FnScope N_law_refused P_law_refused (defScope s_law_refused) := ⟨rfl, rfl, rfl, by decide +kernel, rfl, by decide +kernel, by decide +kernel⟩
def p_law_asked : { s : Stmt // top 59 = s } := by
  refine ⟨?s, ?h⟩
  case h => conv => lhs; whnf
abbrev s_law_asked : Stmt := p_law_asked.1
abbrev N_law_asked : List Str := ["_law_first", "_law_second", "e"]
abbrev P_law_asked : List Str := ["_law_first", "_law_second"]
theorem sc_law_asked : FnScope N_law_asked P_law_asked (defScope s_law_asked) := ⟨rfl, rfl, rfl, by decide +kernel, rfl, by decide +kernel, by decide +kernel⟩
def p_law_joined_right : { s : Stmt // top 60 = s } := by
  refine ⟨?s, ?h⟩
  case h => conv => lhs; whnf
abbrev s_law_joined_right : Stmt := p_law_joined_right.1
abbrev N_law_joined_right : List Str := ["_law_first", "_law_second", "_law_due", "_law_kept", "_law_told"]
abbrev P_law_joined_right : List Str := ["_law_first", "_law_second", "_law_due"]
theorem sc_law_joined_right : FnScope N_law_joined_right P_law_joined_right (defScope s_law_joined_right) := ⟨rfl, rfl, rfl, by decide +kernel, rfl, by decide +kernel, by decide +kernel⟩
def p_law_small_image : { s : Stmt // top 61 = s } := by
  refine ⟨?s, ?h⟩
  case h => conv => lhs; whnf
abbrev s_law_small_image : Stmt := p_law_small_image.1
abbrev N_law_small_image : List Str := ["_law_draws_here", "_law_page_width", "_law_blank_here", "_law_count_here", "_law_words", "_law_holders_here", "_law_k", "_law_start", "_law_holder_here", "_law_one"]
abbrev P_law_small_image : List Str := ["_law_draws_here"]
theorem sc_law_small_image : FnScope N_law_small_image P_law_small_image (defScope s_law_small_image) := ⟨rfl, rfl, rfl, by decide +kernel, rfl, by decide +kernel, by decide +kernel⟩
def p_law_behind_rows : { s : Stmt // top 62 = s } := by
  refine ⟨?s, ?h⟩
  case h => conv => lhs; whnf
abbrev s_law_behind_rows : Stmt := p_law_behind_rows.1
abbrev N_law_behind_rows : List Str := ["_law_draws_here", "_law_first", "_law_row", "_law_one", "_law_k", "_law_kind", "_law_place"]
abbrev P_law_behind_rows : List Str := ["_law_draws_here", "_law_first"]
theorem sc_law_behind_rows : FnScope N_law_behind_rows P_law_behind_rows (defScope s_law_behind_rows) := ⟨rfl, rfl, rfl, by decide +kernel, rfl, by decide +kernel, by decide +kernel⟩
def p_law_bent_rows : { s : Stmt // top 63 = s } := by
  refine ⟨?s, ?h⟩
  case h => conv => lhs; whnf
abbrev s_law_bent_rows : Stmt := p_law_bent_rows.1
abbrev N_law_bent_rows : List Str := ["_law_draws_here", "_law_rows", "_law_at", "_law_one", "_law_row", "_law_bent", "_law_odd", "_law_other_here", "_law_place", "_law_word_here", "_law_holder_here"]
abbrev P_law_bent_rows : List Str := ["_law_draws_here", "_law_rows"]
theorem sc_law_bent_rows : FnScope N_law_bent_rows P_law_bent_rows (defScope s_law_bent_rows) := ⟨rfl, rfl, rfl, by decide +kernel, rfl, by decide +kernel, by decide +kernel⟩
def p_law_rows_right : { s : Stmt // top 64 = s } := by
  refine ⟨?s, ?h⟩
  case h => conv => lhs; whnf
abbrev s_law_rows_right : Stmt := p_law_rows_right.1
abbrev N_law_rows_right : List Str := ["_law_draws_here", "_law_first", "_law_second", "_law_third", "_law_one", "_law_left", "_law_row", "_law_other_here"]
abbrev P_law_rows_right : List Str := ["_law_draws_here", "_law_first"]
theorem sc_law_rows_right : FnScope N_law_rows_right P_law_rows_right (defScope s_law_rows_right) := ⟨rfl, rfl, rfl, by decide +kernel, rfl, by decide +kernel, by decide +kernel⟩
def p_law_near_cut : { s : Stmt // top 65 = s } := by
  refine ⟨?s, ?h⟩
  case h => conv => lhs; whnf
abbrev s_law_near_cut : Stmt := p_law_near_cut.1
abbrev N_law_near_cut : List Str := ["_law_draws_here", "_law_image", "_law_start"]
abbrev P_law_near_cut : List Str := ["_law_draws_here", "_law_image", "_law_start"]
theorem sc_law_near_cut : FnScope N_law_near_cut P_law_near_cut (defScope s_law_near_cut) := ⟨rfl, rfl, rfl, by decide +kernel, rfl, by decide +kernel, by decide +kernel⟩
def p_law_images_right : { s : Stmt // top 66 = s } := by
  refine ⟨?s, ?h⟩
  case h => conv => lhs; whnf
abbrev s_law_images_right : Stmt := p_law_images_right.1
abbrev N_law_images_right : List Str := ["_law_draws_here", "_law_one", "_law_two", "_law_three", "_law_first", "_law_second", "_law_told"]
abbrev P_law_images_right : List Str := ["_law_draws_here"]
theorem sc_law_images_right : FnScope N_law_images_right P_law_images_right (defScope s_law_images_right) := ⟨rfl, rfl, rfl, by decide +kernel, rfl, by decide +kernel, by decide +kernel⟩
def p_law_torn : { s : Stmt // top 67 = s } := by
  refine ⟨?s, ?h⟩
  case h => conv => lhs; whnf
abbrev s_law_torn : Stmt := p_law_torn.1
abbrev N_law_torn : List Str := ["_law_draws_here", "_law_first", "_law_at", "_law_one", "_law_word_here", "_law_holder_here", "_law_kind", "_law_new_word", "_law_later", "_law_row"]
abbrev P_law_torn : List Str := ["_law_draws_here", "_law_first"]
theorem sc_law_torn : FnScope N_law_torn P_law_torn (defScope s_law_torn) := ⟨rfl, rfl, rfl, by decide +kernel, rfl, by decide +kernel, by decide +kernel⟩
def p_law_refused_right : { s : Stmt // top 68 = s } := by
  refine ⟨?s, ?h⟩
  case h => conv => lhs; whnf
abbrev s_law_refused_right : Stmt := p_law_refused_right.1
abbrev N_law_refused_right : List Str := ["_law_draws_here", "_law_first", "_law_bad", "_law_kept"]
abbrev P_law_refused_right : List Str := ["_law_draws_here", "_law_first"]
theorem sc_law_refused_right : FnScope N_law_refused_right P_law_refused_right (defScope s_law_refused_right) := ⟨rfl, rfl, rfl, by decide +kernel, rfl, by decide +kernel, by decide +kernel⟩
def p_law : { s : Stmt // top 69 = s } := by
  refine ⟨?s, ?h⟩
  case h => conv => lhs; whnf
abbrev s_law : Stmt := p_law.1
abbrev N_law : List Str := ["_law_script", "_law_draws_here", "_law_rows", "_law_first"]
abbrev P_law : List Str := ["_law_script"]
theorem sc_law : FnScope N_law P_law (defScope s_law) := ⟨rfl, rfl, rfl, by decide +kernel, rfl, by decide +kernel, by decide +kernel⟩
structure Tx (K : PySem.W.Frag) (mg : Str → Option Value) where
  fd_is_whole : FuncData
  F_is_whole : FnP K "is_whole" s_is_whole (He.ga K "is_whole") fd_is_whole
  g_is_whole : mg "is_whole" = some (.ref (He.ga K "is_whole"))
  fd_is_holder : FuncData
  F_is_holder : FnP K "is_holder" s_is_holder (He.ga K "is_holder") fd_is_holder
  g_is_holder : mg "is_holder" = some (.ref (He.ga K "is_holder"))
  fd_need : FuncData
  F_need : FnP K "need" s_need (He.ga K "need") fd_need
  g_need : mg "need" = some (.ref (He.ga K "need"))
  fd_is_word : FuncData
  F_is_word : FnP K "is_word" s_is_word (He.ga K "is_word") fd_is_word
  g_is_word : mg "is_word" = some (.ref (He.ga K "is_word"))
  fd_is_width : FuncData
  F_is_width : FnP K "is_width" s_is_width (He.ga K "is_width") fd_is_width
  g_is_width : mg "is_width" = some (.ref (He.ga K "is_width"))
  fd_fits_pages : FuncData
  F_fits_pages : FnP K "fits_pages" s_fits_pages (He.ga K "fits_pages") fd_fits_pages
  g_fits_pages : mg "fits_pages" = some (.ref (He.ga K "fits_pages"))
  fd_distinct : FuncData
  F_distinct : FnP K "distinct" s_distinct (He.ga K "distinct") fd_distinct
  g_distinct : mg "distinct" = some (.ref (He.ga K "distinct"))
  fd_are_words : FuncData
  F_are_words : FnP K "are_words" s_are_words (He.ga K "are_words") fd_are_words
  g_are_words : mg "are_words" = some (.ref (He.ga K "are_words"))
  fd_are_holders : FuncData
  F_are_holders : FnP K "are_holders" s_are_holders (He.ga K "are_holders") fd_are_holders
  g_are_holders : mg "are_holders" = some (.ref (He.ga K "are_holders"))
  fd_is_image : FuncData
  F_is_image : FnP K "is_image" s_is_image (He.ga K "is_image") fd_is_image
  g_is_image : mg "is_image" = some (.ref (He.ga K "is_image"))
  fd_is_change : FuncData
  F_is_change : FnP K "is_change" s_is_change (He.ga K "is_change") fd_is_change
  g_is_change : mg "is_change" = some (.ref (He.ga K "is_change"))
  fd_is_changes : FuncData
  F_is_changes : FnP K "is_changes" s_is_changes (He.ga K "is_changes") fd_is_changes
  g_is_changes : mg "is_changes" = some (.ref (He.ga K "is_changes"))
  fd_changes : FuncData
  F_changes : FnP K "changes" s_changes (He.ga K "changes") fd_changes
  g_changes : mg "changes" = some (.ref (He.ga K "changes"))
  fd_put_rows : FuncData
  F_put_rows : FnP K "put_rows" s_put_rows (He.ga K "put_rows") fd_put_rows
  g_put_rows : mg "put_rows" = some (.ref (He.ga K "put_rows"))
  fd_image_after : FuncData
  F_image_after : FnP K "image_after" s_image_after (He.ga K "image_after") fd_image_after
  g_image_after : mg "image_after" = some (.ref (He.ga K "image_after"))
  fd_apply_changes : FuncData
  F_apply_changes : FnP K "apply_changes" s_apply_changes (He.ga K "apply_changes") fd_apply_changes
  g_apply_changes : mg "apply_changes" = some (.ref (He.ga K "apply_changes"))
  fd_invert : FuncData
  F_invert : FnP K "invert" s_invert (He.ga K "invert") fd_invert
  g_invert : mg "invert" = some (.ref (He.ga K "invert"))
  fd_join_changes : FuncData
  F_join_changes : FnP K "join_changes" s_join_changes (He.ga K "join_changes") fd_join_changes
  g_join_changes : mg "join_changes" = some (.ref (He.ga K "join_changes"))
  fd_law_draws : FuncData
  F_law_draws : FnP K "_law_draws" s_law_draws (He.ga K "_law_draws") fd_law_draws
  g_law_draws : mg "_law_draws" = some (.ref (He.ga K "_law_draws"))
  fd_law_next_cell : FuncData
  F_law_next_cell : FnP K "_law_next_cell" s_law_next_cell (He.ga K "_law_next_cell") fd_law_next_cell
  g_law_next_cell : mg "_law_next_cell" = some (.ref (He.ga K "_law_next_cell"))
  fd_law_mixed : FuncData
  F_law_mixed : FnP K "_law_mixed" s_law_mixed (He.ga K "_law_mixed") fd_law_mixed
  g_law_mixed : mg "_law_mixed" = some (.ref (He.ga K "_law_mixed"))
  fd_law_take : FuncData
  F_law_take : FnP K "_law_take" s_law_take (He.ga K "_law_take") fd_law_take
  g_law_take : mg "_law_take" = some (.ref (He.ga K "_law_take"))
  fd_law_among : FuncData
  F_law_among : FnP K "_law_among" s_law_among (He.ga K "_law_among") fd_law_among
  g_law_among : mg "_law_among" = some (.ref (He.ga K "_law_among"))
  fd_law_between : FuncData
  F_law_between : FnP K "_law_between" s_law_between (He.ga K "_law_between") fd_law_between
  g_law_between : mg "_law_between" = some (.ref (He.ga K "_law_between"))
  fd_law_count : FuncData
  F_law_count : FnP K "_law_count" s_law_count (He.ga K "_law_count") fd_law_count
  g_law_count : mg "_law_count" = some (.ref (He.ga K "_law_count"))
  fd_law_other : FuncData
  F_law_other : FnP K "_law_other" s_law_other (He.ga K "_law_other") fd_law_other
  g_law_other : mg "_law_other" = some (.ref (He.ga K "_law_other"))
  fd_law_same : FuncData
  F_law_same : FnP K "_law_same" s_law_same (He.ga K "_law_same") fd_law_same
  g_law_same : mg "_law_same" = some (.ref (He.ga K "_law_same"))
  fd_law_copy : FuncData
  F_law_copy : FnP K "_law_copy" s_law_copy (He.ga K "_law_copy") fd_law_copy
  g_law_copy : mg "_law_copy" = some (.ref (He.ga K "_law_copy"))
  fd_law_holders : FuncData
  F_law_holders : FnP K "_law_holders" s_law_holders (He.ga K "_law_holders") fd_law_holders
  g_law_holders : mg "_law_holders" = some (.ref (He.ga K "_law_holders"))
  fd_law_holder : FuncData
  F_law_holder : FnP K "_law_holder" s_law_holder (He.ga K "_law_holder") fd_law_holder
  g_law_holder : mg "_law_holder" = some (.ref (He.ga K "_law_holder"))
  fd_law_word : FuncData
  F_law_word : FnP K "_law_word" s_law_word (He.ga K "_law_word") fd_law_word
  g_law_word : mg "_law_word" = some (.ref (He.ga K "_law_word"))
  fd_law_other_word : FuncData
  F_law_other_word : FnP K "_law_other_word" s_law_other_word (He.ga K "_law_other_word") fd_law_other_word
  g_law_other_word : mg "_law_other_word" = some (.ref (He.ga K "_law_other_word"))
  fd_law_blank : FuncData
  F_law_blank : FnP K "_law_blank" s_law_blank (He.ga K "_law_blank") fd_law_blank
  g_law_blank : mg "_law_blank" = some (.ref (He.ga K "_law_blank"))
  fd_law_near_image : FuncData
  F_law_near_image : FnP K "_law_near_image" s_law_near_image (He.ga K "_law_near_image") fd_law_near_image
  g_law_near_image : mg "_law_near_image" = some (.ref (He.ga K "_law_near_image"))
  fd_law_changes_due : FuncData
  F_law_changes_due : FnP K "_law_changes_due" s_law_changes_due (He.ga K "_law_changes_due") fd_law_changes_due
  g_law_changes_due : mg "_law_changes_due" = some (.ref (He.ga K "_law_changes_due"))
  fd_law_change_from : FuncData
  F_law_change_from : FnP K "_law_change_from" s_law_change_from (He.ga K "_law_change_from") fd_law_change_from
  g_law_change_from : mg "_law_change_from" = some (.ref (He.ga K "_law_change_from"))
  fd_law_change_rows : FuncData
  F_law_change_rows : FnP K "_law_change_rows" s_law_change_rows (He.ga K "_law_change_rows") fd_law_change_rows
  g_law_change_rows : mg "_law_change_rows" = some (.ref (He.ga K "_law_change_rows"))
  fd_law_joined : FuncData
  F_law_joined : FnP K "_law_joined" s_law_joined (He.ga K "_law_joined") fd_law_joined
  g_law_joined : mg "_law_joined" = some (.ref (He.ga K "_law_joined"))
  fd_law_kinds : FuncData
  F_law_kinds : FnP K "_law_kinds" s_law_kinds (He.ga K "_law_kinds") fd_law_kinds
  g_law_kinds : mg "_law_kinds" = some (.ref (He.ga K "_law_kinds"))
  fd_law_refused : FuncData
  F_law_refused : FnP K "_law_refused" s_law_refused (He.ga K "_law_refused") fd_law_refused
  g_law_refused : mg "_law_refused" = some (.ref (He.ga K "_law_refused"))
  fd_law_asked : FuncData
  F_law_asked : FnP K "_law_asked" s_law_asked (He.ga K "_law_asked") fd_law_asked
  g_law_asked : mg "_law_asked" = some (.ref (He.ga K "_law_asked"))
  fd_law_joined_right : FuncData
  F_law_joined_right : FnP K "_law_joined_right" s_law_joined_right (He.ga K "_law_joined_right") fd_law_joined_right
  g_law_joined_right : mg "_law_joined_right" = some (.ref (He.ga K "_law_joined_right"))
  fd_law_small_image : FuncData
  F_law_small_image : FnP K "_law_small_image" s_law_small_image (He.ga K "_law_small_image") fd_law_small_image
  g_law_small_image : mg "_law_small_image" = some (.ref (He.ga K "_law_small_image"))
  fd_law_behind_rows : FuncData
  F_law_behind_rows : FnP K "_law_behind_rows" s_law_behind_rows (He.ga K "_law_behind_rows") fd_law_behind_rows
  g_law_behind_rows : mg "_law_behind_rows" = some (.ref (He.ga K "_law_behind_rows"))
  fd_law_bent_rows : FuncData
  F_law_bent_rows : FnP K "_law_bent_rows" s_law_bent_rows (He.ga K "_law_bent_rows") fd_law_bent_rows
  g_law_bent_rows : mg "_law_bent_rows" = some (.ref (He.ga K "_law_bent_rows"))
  fd_law_rows_right : FuncData
  F_law_rows_right : FnP K "_law_rows_right" s_law_rows_right (He.ga K "_law_rows_right") fd_law_rows_right
  g_law_rows_right : mg "_law_rows_right" = some (.ref (He.ga K "_law_rows_right"))
  fd_law_near_cut : FuncData
  F_law_near_cut : FnP K "_law_near_cut" s_law_near_cut (He.ga K "_law_near_cut") fd_law_near_cut
  g_law_near_cut : mg "_law_near_cut" = some (.ref (He.ga K "_law_near_cut"))
  fd_law_images_right : FuncData
  F_law_images_right : FnP K "_law_images_right" s_law_images_right (He.ga K "_law_images_right") fd_law_images_right
  g_law_images_right : mg "_law_images_right" = some (.ref (He.ga K "_law_images_right"))
  fd_law_torn : FuncData
  F_law_torn : FnP K "_law_torn" s_law_torn (He.ga K "_law_torn") fd_law_torn
  g_law_torn : mg "_law_torn" = some (.ref (He.ga K "_law_torn"))
  fd_law_refused_right : FuncData
  F_law_refused_right : FnP K "_law_refused_right" s_law_refused_right (He.ga K "_law_refused_right") fd_law_refused_right
  g_law_refused_right : mg "_law_refused_right" = some (.ref (He.ga K "_law_refused_right"))
  fd_law : FuncData
  F_law : FnP K "law" s_law (He.ga K "law") fd_law
  g_law : mg "law" = some (.ref (He.ga K "law"))
  c_MAP : ∃ t, mg "MAP" = some (.int 21 t)
  c_MOST_PAGES : ∃ t, mg "MOST_PAGES" = some (.int 256 t)
  c_MOST_TOP : ∃ t, mg "MOST_TOP" = some (.int 16384 t)
  c_MOST_WORD : ∃ t, mg "MOST_WORD" = some (.int 65535 t)
  c_NODE : ∃ t, mg "NODE" = some (.int 28 t)
  g_WIDTHS : mg "WIDTHS" = some (.ref (He.ga K "WIDTHS"))
  w_WIDTHS : ∀ H : Hp, SqT K H (He.ga K "WIDTHS") [.int 16, .int 32, .int 64]
  g_BadLine : mg "BadLine" = some (.ref (He.ga K "BadLine"))
  g_BadValue : mg "BadValue" = some (.ref (He.ga K "BadValue"))
  g_Broken : mg "Broken" = some (.ref (He.ga K "Broken"))
  g_Cut : mg "Cut" = some (.ref (He.ga K "Cut"))
  g_Fault : mg "Fault" = some (.ref (He.ga K "Fault"))
  g_NoRoom : mg "NoRoom" = some (.ref (He.ga K "NoRoom"))
  g_NotHeld : mg "NotHeld" = some (.ref (He.ga K "NotHeld"))
  g_StoreError : mg "StoreError" = some (.ref (He.ga K "StoreError"))
  g_Unknown : mg "Unknown" = some (.ref (He.ga K "Unknown"))
  z_ValueError : mg "ValueError" = none
  z_all : mg "all" = none
  z_bool : mg "bool" = none
  z_dict : mg "dict" = none
  z_int : mg "int" = none
  z_isinstance : mg "isinstance" = none
  z_len : mg "len" = none
  z_list : mg "list" = none
  z_min : mg "min" = none
  z_range : mg "range" = none
  z_set : mg "set" = none
  z_sorted : mg "sorted" = none
  z_str : mg "str" = none
  z_tuple : mg "tuple" = none
  fd_BadValue : FuncData
  F_BadValue : FunD K "__init__" "BadValue.__init__" (defArgs s_BadValue) (defBody s_BadValue) (defScope s_BadValue) [] [] (iBV K) fd_BadValue
  x_BadValue : OexC K (aBV K)
  i_BadValue : PySem.W.findIn K (.ref (aBV K)) "__init__" = some (some (.ref (iBV K)))
  t_BadValue : PySem.W.typeIn K (.ref (iBV K)) = some (.type "function")
  n_BadValue_parameter : PySem.W.findIn K (.ref (aBV K)) "parameter" = some none
  n_BadValue_told : PySem.W.findIn K (.ref (aBV K)) "told" = some none
  f_BadValue : XfC K (aBV K)
  d_BadValue : ExcD K (aBV K)
  m_BadValue : PySem.W.exmOne K (.ref (aBV K)) (.ref (aBV K)) = some true
  k_ValueError : PySem.W.kitOne K (.ref (aBV K)) (.type "ValueError") = some true
  k_StoreError : PySem.W.kitOne K (.ref (aBV K)) (.ref (He.ga K "StoreError")) = some true
  k_BadValue : PySem.W.kitOne K (.ref (aBV K)) (.ref (He.ga K "BadValue")) = some true
  k_Broken : PySem.W.kitOne K (.ref (aBV K)) (.ref (He.ga K "Broken")) = some false
  k_Unknown : PySem.W.kitOne K (.ref (aBV K)) (.ref (He.ga K "Unknown")) = some false
  k_NotHeld : PySem.W.kitOne K (.ref (aBV K)) (.ref (He.ga K "NotHeld")) = some false
  k_Fault : PySem.W.kitOne K (.ref (aBV K)) (.ref (He.ga K "Fault")) = some false
  k_NoRoom : PySem.W.kitOne K (.ref (aBV K)) (.ref (He.ga K "NoRoom")) = some false
  k_Cut : PySem.W.kitOne K (.ref (aBV K)) (.ref (He.ga K "Cut")) = some false
  k_BadLine : PySem.W.kitOne K (.ref (aBV K)) (.ref (He.ga K "BadLine")) = some false
variable {P : Program} {w : World} {K : PySem.W.Frag} {mg : Str → Option Value} {base : Heap}
theorem b_is_whole (T : Tx K mg) : Binds K T.fd_is_whole P_is_whole [] := T.F_is_whole.bindsN fun _ _ _ _ _ _ us hl => match us, hl with | [_], _ => rfl
theorem b_is_holder (T : Tx K mg) : Binds K T.fd_is_holder P_is_holder [] := T.F_is_holder.bindsN fun _ _ _ _ _ _ us hl => match us, hl with | [_], _ => rfl
theorem b_need (T : Tx K mg) : Binds K T.fd_need P_need [] := T.F_need.bindsN fun _ _ _ _ _ _ us hl => match us, hl with | [_, _], _ => rfl
theorem b_is_word (T : Tx K mg) : Binds K T.fd_is_word P_is_word [] := T.F_is_word.bindsN fun _ _ _ _ _ _ us hl => match us, hl with | [_], _ => rfl
theorem b_is_width (T : Tx K mg) : Binds K T.fd_is_width P_is_width [] := T.F_is_width.bindsN fun _ _ _ _ _ _ us hl => match us, hl with | [_], _ => rfl
theorem b_fits_pages (T : Tx K mg) : Binds K T.fd_fits_pages P_fits_pages [] := T.F_fits_pages.bindsN fun _ _ _ _ _ _ us hl => match us, hl with | [_, _], _ => rfl
theorem b_distinct (T : Tx K mg) : Binds K T.fd_distinct P_distinct [] := T.F_distinct.bindsN fun _ _ _ _ _ _ us hl => match us, hl with | [_], _ => rfl
theorem b_are_words (T : Tx K mg) : Binds K T.fd_are_words P_are_words [] := T.F_are_words.bindsN fun _ _ _ _ _ _ us hl => match us, hl with | [_], _ => rfl
theorem b_are_holders (T : Tx K mg) : Binds K T.fd_are_holders P_are_holders [] := T.F_are_holders.bindsN fun _ _ _ _ _ _ us hl => match us, hl with | [_], _ => rfl
theorem b_is_image (T : Tx K mg) : Binds K T.fd_is_image P_is_image [] := T.F_is_image.bindsN fun _ _ _ _ _ _ us hl => match us, hl with | [_], _ => rfl
theorem b_is_change (T : Tx K mg) : Binds K T.fd_is_change P_is_change [] := T.F_is_change.bindsN fun _ _ _ _ _ _ us hl => match us, hl with | [_], _ => rfl
theorem b_is_changes (T : Tx K mg) : Binds K T.fd_is_changes P_is_changes [] := T.F_is_changes.bindsN fun _ _ _ _ _ _ us hl => match us, hl with | [_], _ => rfl
theorem b_changes (T : Tx K mg) : Binds K T.fd_changes P_changes [] := T.F_changes.bindsN fun _ _ _ _ _ _ us hl => match us, hl with | [_, _], _ => rfl
theorem b_put_rows (T : Tx K mg) : Binds K T.fd_put_rows P_put_rows [] := T.F_put_rows.bindsN fun _ _ _ _ _ _ us hl => match us, hl with | [_, _, _], _ => rfl
theorem b_image_after (T : Tx K mg) : Binds K T.fd_image_after P_image_after [] := T.F_image_after.bindsN fun _ _ _ _ _ _ us hl => match us, hl with | [_, _], _ => rfl
theorem b_apply_changes (T : Tx K mg) : Binds K T.fd_apply_changes P_apply_changes [] := T.F_apply_changes.bindsN fun _ _ _ _ _ _ us hl => match us, hl with | [_, _], _ => rfl
theorem b_invert (T : Tx K mg) : Binds K T.fd_invert P_invert [] := T.F_invert.bindsN fun _ _ _ _ _ _ us hl => match us, hl with | [_], _ => rfl
theorem b_join_changes (T : Tx K mg) : Binds K T.fd_join_changes P_join_changes [] := T.F_join_changes.bindsN fun _ _ _ _ _ _ us hl => match us, hl with | [_, _], _ => rfl
theorem b_law_draws (T : Tx K mg) : Binds K T.fd_law_draws P_law_draws [] := T.F_law_draws.bindsN fun _ _ _ _ _ _ us hl => match us, hl with | [_], _ => rfl
theorem b_law_next_cell (T : Tx K mg) : Binds K T.fd_law_next_cell P_law_next_cell [] := T.F_law_next_cell.bindsN fun _ _ _ _ _ _ us hl => match us, hl with | [_], _ => rfl
theorem b_law_mixed (T : Tx K mg) : Binds K T.fd_law_mixed P_law_mixed [] := T.F_law_mixed.bindsN fun _ _ _ _ _ _ us hl => match us, hl with | [_, _, _], _ => rfl
theorem b_law_take (T : Tx K mg) : Binds K T.fd_law_take P_law_take [] := T.F_law_take.bindsN fun _ _ _ _ _ _ us hl => match us, hl with | [_, _], _ => rfl
theorem b_law_among (T : Tx K mg) : Binds K T.fd_law_among P_law_among [] := T.F_law_among.bindsN fun _ _ _ _ _ _ us hl => match us, hl with | [_, _], _ => rfl
theorem b_law_between (T : Tx K mg) : Binds K T.fd_law_between P_law_between [] := T.F_law_between.bindsN fun _ _ _ _ _ _ us hl => match us, hl with | [_, _, _], _ => rfl
theorem b_law_count (T : Tx K mg) : Binds K T.fd_law_count P_law_count [] := T.F_law_count.bindsN fun _ _ _ _ _ _ us hl => match us, hl with | [_, _, _], _ => rfl
theorem b_law_other (T : Tx K mg) : Binds K T.fd_law_other P_law_other [] := T.F_law_other.bindsN fun _ _ _ _ _ _ us hl => match us, hl with | [_, _, _], _ => rfl
theorem b_law_same (T : Tx K mg) : Binds K T.fd_law_same P_law_same [] := T.F_law_same.bindsN fun _ _ _ _ _ _ us hl => match us, hl with | [_, _], _ => rfl
theorem b_law_copy (T : Tx K mg) : Binds K T.fd_law_copy P_law_copy [] := T.F_law_copy.bindsN fun _ _ _ _ _ _ us hl => match us, hl with | [_], _ => rfl
theorem b_law_holders (T : Tx K mg) : Binds K T.fd_law_holders P_law_holders [] := T.F_law_holders.bindsN fun _ _ _ _ _ _ us hl => match us, hl with | [], _ => rfl
theorem b_law_holder (T : Tx K mg) : Binds K T.fd_law_holder P_law_holder [] := T.F_law_holder.bindsN fun _ _ _ _ _ _ us hl => match us, hl with | [_], _ => rfl
theorem b_law_word (T : Tx K mg) : Binds K T.fd_law_word P_law_word [] := T.F_law_word.bindsN fun _ _ _ _ _ _ us hl => match us, hl with | [_, _], _ => rfl
theorem b_law_other_word (T : Tx K mg) : Binds K T.fd_law_other_word P_law_other_word [] := T.F_law_other_word.bindsN fun _ _ _ _ _ _ us hl => match us, hl with | [_, _], _ => rfl
theorem b_law_blank (T : Tx K mg) : Binds K T.fd_law_blank P_law_blank [] := T.F_law_blank.bindsN fun _ _ _ _ _ _ us hl => match us, hl with | [_], _ => rfl
theorem b_law_near_image (T : Tx K mg) : Binds K T.fd_law_near_image P_law_near_image [] := T.F_law_near_image.bindsN fun _ _ _ _ _ _ us hl => match us, hl with | [_, _], _ => rfl
theorem b_law_changes_due (T : Tx K mg) : Binds K T.fd_law_changes_due P_law_changes_due [] := T.F_law_changes_due.bindsN fun _ _ _ _ _ _ us hl => match us, hl with | [_, _], _ => rfl
theorem b_law_change_from (T : Tx K mg) : Binds K T.fd_law_change_from P_law_change_from [] := T.F_law_change_from.bindsN fun _ _ _ _ _ _ us hl => match us, hl with | [_, _, _, _], _ => rfl
theorem b_law_change_rows (T : Tx K mg) : Binds K T.fd_law_change_rows P_law_change_rows [] := T.F_law_change_rows.bindsN fun _ _ _ _ _ _ us hl => match us, hl with | [_, _], _ => rfl
theorem b_law_joined (T : Tx K mg) : Binds K T.fd_law_joined P_law_joined [] := T.F_law_joined.bindsN fun _ _ _ _ _ _ us hl => match us, hl with | [_, _], _ => rfl
theorem b_law_kinds (T : Tx K mg) : Binds K T.fd_law_kinds P_law_kinds [] := T.F_law_kinds.bindsN fun _ _ _ _ _ _ us hl => match us, hl with | [_], _ => rfl
theorem b_law_refused (T : Tx K mg) : Binds K T.fd_law_refused P_law_refused [] := T.F_law_refused.bindsN fun _ _ _ _ _ _ us hl => match us, hl with | [_, _], _ => rfl
theorem b_law_asked (T : Tx K mg) : Binds K T.fd_law_asked P_law_asked [] := T.F_law_asked.bindsN fun _ _ _ _ _ _ us hl => match us, hl with | [_, _], _ => rfl
theorem b_law_joined_right (T : Tx K mg) : Binds K T.fd_law_joined_right P_law_joined_right [] := T.F_law_joined_right.bindsN fun _ _ _ _ _ _ us hl => match us, hl with | [_, _, _], _ => rfl
theorem b_law_small_image (T : Tx K mg) : Binds K T.fd_law_small_image P_law_small_image [] := T.F_law_small_image.bindsN fun _ _ _ _ _ _ us hl => match us, hl with | [_], _ => rfl
theorem b_law_behind_rows (T : Tx K mg) : Binds K T.fd_law_behind_rows P_law_behind_rows [] := T.F_law_behind_rows.bindsN fun _ _ _ _ _ _ us hl => match us, hl with | [_, _], _ => rfl
theorem b_law_bent_rows (T : Tx K mg) : Binds K T.fd_law_bent_rows P_law_bent_rows [] := T.F_law_bent_rows.bindsN fun _ _ _ _ _ _ us hl => match us, hl with | [_, _], _ => rfl
theorem b_law_rows_right (T : Tx K mg) : Binds K T.fd_law_rows_right P_law_rows_right [] := T.F_law_rows_right.bindsN fun _ _ _ _ _ _ us hl => match us, hl with | [_, _], _ => rfl
theorem b_law_near_cut (T : Tx K mg) : Binds K T.fd_law_near_cut P_law_near_cut [] := T.F_law_near_cut.bindsN fun _ _ _ _ _ _ us hl => match us, hl with | [_, _, _], _ => rfl
theorem b_law_images_right (T : Tx K mg) : Binds K T.fd_law_images_right P_law_images_right [] := T.F_law_images_right.bindsN fun _ _ _ _ _ _ us hl => match us, hl with | [_], _ => rfl
theorem b_law_torn (T : Tx K mg) : Binds K T.fd_law_torn P_law_torn [] := T.F_law_torn.bindsN fun _ _ _ _ _ _ us hl => match us, hl with | [_, _], _ => rfl
theorem b_law_refused_right (T : Tx K mg) : Binds K T.fd_law_refused_right P_law_refused_right [] := T.F_law_refused_right.bindsN fun _ _ _ _ _ _ us hl => match us, hl with | [_, _], _ => rfl
theorem b_law (T : Tx K mg) : Binds K T.fd_law P_law [] := T.F_law.bindsN fun _ _ _ _ _ _ us hl => match us, hl with | [_], _ => rfl
theorem b_BadValue (T : Tx K mg) : Binds K T.fd_BadValue P_BadValue [] := T.F_BadValue.bindsN fun _ _ _ _ _ _ us hl => match us, hl with | [_, _], _ => rfl
end K11

namespace K11
open PySem PySem.Spec PyProof.Rows L2 LL
variable {P : Program} {w : World} {K : PySem.W.Frag} {mg : Str → Option Value} {base : Heap}

def dd_is_whole : He.DefD := ⟨("is_whole", none), "is_whole", "is_whole", defArgs s_is_whole, defBody s_is_whole, defScope s_is_whole, [], []⟩
def dd_is_holder : He.DefD := ⟨("is_holder", none), "is_holder", "is_holder", defArgs s_is_holder, defBody s_is_holder, defScope s_is_holder, [], []⟩
def dd_need : He.DefD := ⟨("need", none), "need", "need", defArgs s_need, defBody s_need, defScope s_need, [], []⟩
def dd_is_word : He.DefD := ⟨("is_word", none), "is_word", "is_word", defArgs s_is_word, defBody s_is_word, defScope s_is_word, [], []⟩
def dd_is_width : He.DefD := ⟨("is_width", none), "is_width", "is_width", defArgs s_is_width, defBody s_is_width, defScope s_is_width, [], []⟩
def dd_fits_pages : He.DefD := ⟨("fits_pages", none), "fits_pages", "fits_pages", defArgs s_fits_pages, defBody s_fits_pages, defScope s_fits_pages, [], []⟩
def dd_distinct : He.DefD := ⟨("distinct", none), "distinct", "distinct", defArgs s_distinct, defBody s_distinct, defScope s_distinct, [], []⟩
def dd_are_words : He.DefD := ⟨("are_words", none), "are_words", "are_words", defArgs s_are_words, defBody s_are_words, defScope s_are_words, [], []⟩
def dd_are_holders : He.DefD := ⟨("are_holders", none), "are_holders", "are_holders", defArgs s_are_holders, defBody s_are_holders, defScope s_are_holders, [], []⟩
def dd_is_image : He.DefD := ⟨("is_image", none), "is_image", "is_image", defArgs s_is_image, defBody s_is_image, defScope s_is_image, [], []⟩
def dd_is_change : He.DefD := ⟨("is_change", none), "is_change", "is_change", defArgs s_is_change, defBody s_is_change, defScope s_is_change, [], []⟩
def dd_is_changes : He.DefD := ⟨("is_changes", none), "is_changes", "is_changes", defArgs s_is_changes, defBody s_is_changes, defScope s_is_changes, [], []⟩
def dd_changes : He.DefD := ⟨("changes", none), "changes", "changes", defArgs s_changes, defBody s_changes, defScope s_changes, [], []⟩
def dd_put_rows : He.DefD := ⟨("put_rows", none), "put_rows", "put_rows", defArgs s_put_rows, defBody s_put_rows, defScope s_put_rows, [], []⟩
def dd_image_after : He.DefD := ⟨("image_after", none), "image_after", "image_after", defArgs s_image_after, defBody s_image_after, defScope s_image_after, [], []⟩
def dd_apply_changes : He.DefD := ⟨("apply_changes", none), "apply_changes", "apply_changes", defArgs s_apply_changes, defBody s_apply_changes, defScope s_apply_changes, [], []⟩
def dd_invert : He.DefD := ⟨("invert", none), "invert", "invert", defArgs s_invert, defBody s_invert, defScope s_invert, [], []⟩
def dd_join_changes : He.DefD := ⟨("join_changes", none), "join_changes", "join_changes", defArgs s_join_changes, defBody s_join_changes, defScope s_join_changes, [], []⟩
def dd_law_draws : He.DefD := ⟨("_law_draws", none), "_law_draws", "_law_draws", defArgs s_law_draws, defBody s_law_draws, defScope s_law_draws, [], []⟩
def dd_law_next_cell : He.DefD := ⟨("_law_next_cell", none), "_law_next_cell", "_law_next_cell", defArgs s_law_next_cell, defBody s_law_next_cell, defScope s_law_next_cell, [], []⟩
def dd_law_mixed : He.DefD := ⟨("_law_mixed", none), "_law_mixed", "_law_mixed", defArgs s_law_mixed, defBody s_law_mixed, defScope s_law_mixed, [], []⟩
def dd_law_take : He.DefD := ⟨("_law_take", none), "_law_take", "_law_take", defArgs s_law_take, defBody s_law_take, defScope s_law_take, [], []⟩
def dd_law_among : He.DefD := ⟨("_law_among", none), "_law_among", "_law_among", defArgs s_law_among, defBody s_law_among, defScope s_law_among, [], []⟩
def dd_law_between : He.DefD := ⟨("_law_between", none), "_law_between", "_law_between", defArgs s_law_between, defBody s_law_between, defScope s_law_between, [], []⟩
def dd_law_count : He.DefD := ⟨("_law_count", none), "_law_count", "_law_count", defArgs s_law_count, defBody s_law_count, defScope s_law_count, [], []⟩
def dd_law_other : He.DefD := ⟨("_law_other", none), "_law_other", "_law_other", defArgs s_law_other, defBody s_law_other, defScope s_law_other, [], []⟩
def dd_law_same : He.DefD := ⟨("_law_same", none), "_law_same", "_law_same", defArgs s_law_same, defBody s_law_same, defScope s_law_same, [], []⟩
def dd_law_copy : He.DefD := ⟨("_law_copy", none), "_law_copy", "_law_copy", defArgs s_law_copy, defBody s_law_copy, defScope s_law_copy, [], []⟩
def dd_law_holders : He.DefD := ⟨("_law_holders", none), "_law_holders", "_law_holders", defArgs s_law_holders, defBody s_law_holders, defScope s_law_holders, [], []⟩
def dd_law_holder : He.DefD := ⟨("_law_holder", none), "_law_holder", "_law_holder", defArgs s_law_holder, defBody s_law_holder, defScope s_law_holder, [], []⟩
def dd_law_word : He.DefD := ⟨("_law_word", none), "_law_word", "_law_word", defArgs s_law_word, defBody s_law_word, defScope s_law_word, [], []⟩
def dd_law_other_word : He.DefD := ⟨("_law_other_word", none), "_law_other_word", "_law_other_word", defArgs s_law_other_word, defBody s_law_other_word, defScope s_law_other_word, [], []⟩
def dd_law_blank : He.DefD := ⟨("_law_blank", none), "_law_blank", "_law_blank", defArgs s_law_blank, defBody s_law_blank, defScope s_law_blank, [], []⟩
def dd_law_near_image : He.DefD := ⟨("_law_near_image", none), "_law_near_image", "_law_near_image", defArgs s_law_near_image, defBody s_law_near_image, defScope s_law_near_image, [], []⟩
def dd_law_changes_due : He.DefD := ⟨("_law_changes_due", none), "_law_changes_due", "_law_changes_due", defArgs s_law_changes_due, defBody s_law_changes_due, defScope s_law_changes_due, [], []⟩
def dd_law_change_from : He.DefD := ⟨("_law_change_from", none), "_law_change_from", "_law_change_from", defArgs s_law_change_from, defBody s_law_change_from, defScope s_law_change_from, [], []⟩
def dd_law_change_rows : He.DefD := ⟨("_law_change_rows", none), "_law_change_rows", "_law_change_rows", defArgs s_law_change_rows, defBody s_law_change_rows, defScope s_law_change_rows, [], []⟩
def dd_law_joined : He.DefD := ⟨("_law_joined", none), "_law_joined", "_law_joined", defArgs s_law_joined, defBody s_law_joined, defScope s_law_joined, [], []⟩
def dd_law_kinds : He.DefD := ⟨("_law_kinds", none), "_law_kinds", "_law_kinds", defArgs s_law_kinds, defBody s_law_kinds, defScope s_law_kinds, [], []⟩
def dd_law_refused : He.DefD := ⟨("_law_refused", none), "_law_refused", "_law_refused", defArgs s_law_refused, defBody s_law_refused, defScope s_law_refused, [], []⟩
def dd_law_asked : He.DefD := ⟨("_law_asked", none), "_law_asked", "_law_asked", defArgs s_law_asked, defBody s_law_asked, defScope s_law_asked, [], []⟩
def dd_law_joined_right : He.DefD := ⟨("_law_joined_right", none), "_law_joined_right", "_law_joined_right", defArgs s_law_joined_right, defBody s_law_joined_right, defScope s_law_joined_right, [], []⟩
def dd_law_small_image : He.DefD := ⟨("_law_small_image", none), "_law_small_image", "_law_small_image", defArgs s_law_small_image, defBody s_law_small_image, defScope s_law_small_image, [], []⟩
def dd_law_behind_rows : He.DefD := ⟨("_law_behind_rows", none), "_law_behind_rows", "_law_behind_rows", defArgs s_law_behind_rows, defBody s_law_behind_rows, defScope s_law_behind_rows, [], []⟩
def dd_law_bent_rows : He.DefD := ⟨("_law_bent_rows", none), "_law_bent_rows", "_law_bent_rows", defArgs s_law_bent_rows, defBody s_law_bent_rows, defScope s_law_bent_rows, [], []⟩
def dd_law_rows_right : He.DefD := ⟨("_law_rows_right", none), "_law_rows_right", "_law_rows_right", defArgs s_law_rows_right, defBody s_law_rows_right, defScope s_law_rows_right, [], []⟩
def dd_law_near_cut : He.DefD := ⟨("_law_near_cut", none), "_law_near_cut", "_law_near_cut", defArgs s_law_near_cut, defBody s_law_near_cut, defScope s_law_near_cut, [], []⟩
def dd_law_images_right : He.DefD := ⟨("_law_images_right", none), "_law_images_right", "_law_images_right", defArgs s_law_images_right, defBody s_law_images_right, defScope s_law_images_right, [], []⟩
def dd_law_torn : He.DefD := ⟨("_law_torn", none), "_law_torn", "_law_torn", defArgs s_law_torn, defBody s_law_torn, defScope s_law_torn, [], []⟩
def dd_law_refused_right : He.DefD := ⟨("_law_refused_right", none), "_law_refused_right", "_law_refused_right", defArgs s_law_refused_right, defBody s_law_refused_right, defScope s_law_refused_right, [], []⟩
def dd_law : He.DefD := ⟨("law", none), "law", "law", defArgs s_law, defBody s_law, defScope s_law, [], []⟩
def dd_BadValue : He.DefD := ⟨("BadValue", some "__init__"), "__init__", "BadValue.__init__", defArgs s_BadValue, defBody s_BadValue, defScope s_BadValue, [], []⟩
def fn : List He.DefD := [dd_is_whole, dd_is_holder, dd_need, dd_is_word, dd_is_width, dd_fits_pages, dd_distinct, dd_are_words, dd_are_holders, dd_is_image, dd_is_change, dd_is_changes, dd_changes, dd_put_rows, dd_image_after, dd_apply_changes, dd_invert, dd_join_changes, dd_law_draws, dd_law_next_cell, dd_law_mixed, dd_law_take, dd_law_among, dd_law_between, dd_law_count, dd_law_other, dd_law_same, dd_law_copy, dd_law_holders, dd_law_holder, dd_law_word, dd_law_other_word, dd_law_blank, dd_law_near_image, dd_law_changes_due, dd_law_change_from, dd_law_change_rows, dd_law_joined, dd_law_kinds, dd_law_refused, dd_law_asked, dd_law_joined_right, dd_law_small_image, dd_law_behind_rows, dd_law_bent_rows, dd_law_rows_right, dd_law_near_cut, dd_law_images_right, dd_law_torn, dd_law_refused_right, dd_law, dd_BadValue]
def fa : List He.Fa := [.glo "is_whole", .glo "is_holder", .glo "need", .glo "is_word", .glo "is_width", .glo "fits_pages", .glo "distinct", .glo "are_words", .glo "are_holders", .glo "is_image", .glo "is_change", .glo "is_changes", .glo "changes", .glo "put_rows", .glo "image_after", .glo "apply_changes", .glo "invert", .glo "join_changes", .glo "_law_draws", .glo "_law_next_cell", .glo "_law_mixed", .glo "_law_take", .glo "_law_among", .glo "_law_between", .glo "_law_count", .glo "_law_other", .glo "_law_same", .glo "_law_copy", .glo "_law_holders", .glo "_law_holder", .glo "_law_word", .glo "_law_other_word", .glo "_law_blank", .glo "_law_near_image", .glo "_law_changes_due", .glo "_law_change_from", .glo "_law_change_rows", .glo "_law_joined", .glo "_law_kinds", .glo "_law_refused", .glo "_law_asked", .glo "_law_joined_right", .glo "_law_small_image", .glo "_law_behind_rows", .glo "_law_bent_rows", .glo "_law_rows_right", .glo "_law_near_cut", .glo "_law_images_right", .glo "_law_torn", .glo "_law_refused_right", .glo "law", .int "MAP" 21, .int "MOST_PAGES" 256, .int "MOST_TOP" 16384, .int "MOST_WORD" 65535, .int "NODE" 28, .glo "WIDTHS", .glo "BadLine", .glo "BadValue", .glo "Broken", .glo "Cut", .glo "Fault", .glo "NoRoom", .glo "NotHeld", .glo "StoreError", .glo "Unknown", .free "ValueError", .free "all", .free "bool", .free "dict", .free "int", .free "isinstance", .free "len", .free "list", .free "min", .free "range", .free "set", .free "sorted", .free "str", .free "tuple"]
def exs : List (PySem.W.Frag → Bool) := [fun K => oexB K (He.ga K "BadValue"),
  fun K => decide (PySem.W.findIn K (.ref (He.ga K "BadValue")) "__init__" = some (some (.ref (He.ma K (He.ga K "BadValue") "__init__")))),
  fun K => decide (PySem.W.typeIn K (.ref (He.ma K (He.ga K "BadValue") "__init__")) = some (.type "function")),
  fun K => decide (PySem.W.findIn K (.ref (He.ga K "BadValue")) "parameter" = some none),
  fun K => decide (PySem.W.findIn K (.ref (He.ga K "BadValue")) "told" = some none),
  fun K => xfB K (He.ga K "BadValue"),
  fun K => excdB K (He.ga K "BadValue"),
  fun K => decide (PySem.W.exmOne K (.ref (He.ga K "BadValue")) (.ref (He.ga K "BadValue")) = some true),
  fun K => decide (PySem.W.kitOne K (.ref (He.ga K "BadValue")) (.type "ValueError") = some true),
  fun K => decide (PySem.W.kitOne K (.ref (He.ga K "BadValue")) (.ref (He.ga K "StoreError")) = some true),
  fun K => decide (PySem.W.kitOne K (.ref (He.ga K "BadValue")) (.ref (He.ga K "BadValue")) = some true),
  fun K => decide (PySem.W.kitOne K (.ref (He.ga K "BadValue")) (.ref (He.ga K "Broken")) = some false),
  fun K => decide (PySem.W.kitOne K (.ref (He.ga K "BadValue")) (.ref (He.ga K "Unknown")) = some false),
  fun K => decide (PySem.W.kitOne K (.ref (He.ga K "BadValue")) (.ref (He.ga K "NotHeld")) = some false),
  fun K => decide (PySem.W.kitOne K (.ref (He.ga K "BadValue")) (.ref (He.ga K "Fault")) = some false),
  fun K => decide (PySem.W.kitOne K (.ref (He.ga K "BadValue")) (.ref (He.ga K "NoRoom")) = some false),
  fun K => decide (PySem.W.kitOne K (.ref (He.ga K "BadValue")) (.ref (He.ga K "Cut")) = some false),
  fun K => decide (PySem.W.kitOne K (.ref (He.ga K "BadValue")) (.ref (He.ga K "BadLine")) = some false),
  fun K => He.tupB K "WIDTHS" [.int 16, .int 32, .int 64]]
def names : List Str := (["is_whole", "is_holder", "need", "is_word", "is_width", "fits_pages", "distinct", "are_words", "are_holders", "is_image", "is_change", "is_changes", "changes", "put_rows", "image_after", "apply_changes", "invert", "join_changes", "_law_draws", "_law_next_cell"] : List Str) ++ (["_law_mixed", "_law_take", "_law_among", "_law_between", "_law_count", "_law_other", "_law_same", "_law_copy", "_law_holders", "_law_holder", "_law_word", "_law_other_word", "_law_blank", "_law_near_image", "_law_changes_due", "_law_change_from", "_law_change_rows", "_law_joined", "_law_kinds", "_law_refused"] : List Str) ++ (["_law_asked", "_law_joined_right", "_law_small_image", "_law_behind_rows", "_law_bent_rows", "_law_rows_right", "_law_near_cut", "_law_images_right", "_law_torn", "_law_refused_right", "StoreError", "BadValue", "Broken", "Unknown", "NotHeld", "Fault", "NoRoom", "Cut", "BadLine", "MOST_WORD"] : List Str) ++ (["MAP", "NODE", "WIDTHS", "MOST_PAGES", "MOST_TOP"] : List Str)
abbrev R : PySem.W.OpenRow := PySem.W.OpenLaw.row PySem.Challenge.rw_allgivenback_k11_join_changes
abbrev hk : PySem.W.Hook := hookY 6 fa fn (fun K => exs.all fun e => e K)
def ob (s : PySem.W.SharedT) : AlY := obsY 6 fa fn (fun K => exs.all fun e => e K) (HandSHeadRun.getT s)
theorem ob_eq (s : PySem.W.SharedT) : ob s = hk.obs s.abs := obsY_eq (HandSHeadRun.getT_eq s)
theorem run (w : World) : HandSHeadRun.RunEq R (PySem.W.view R.prog [69]) hk ob 4000 names w := by
  intro os
  kernel_rfl
end K11

/-! data as trees; what code does, said of trees alone -/
namespace LT
open PySem PySem.Spec PyProof.Rows L2 LL

inductive Tr where
  | non | bl (b : Bool) | int (i : Int) | str (x : Str) | lst (ts : List Tr) | tup (ts : List Tr) | dic (ks : List Key) (ts : List Tr) | obj (a : Addr) | drw | ty (n : String)
/-- what may change, at its address -/
inductive Cell where
  | lst (ts : List Tr) | dic (ks : List Key) (ts : List Tr) | ins (C dx : Addr) (ns : List Str) (ts : List Tr)
abbrev Om := Addr → Option Cell
def put (Ω : Om) (a : Addr) (c : Cell) : Om := fun b => if b = a then some c else Ω b
def cut (Ω : Om) (a : Addr) : Om := fun b => if b = a then none else Ω b
theorem put_same {Ω : Om} {a : Addr} {c : Cell} : put Ω a c a = some c := by unfold put; rw [if_pos rfl]
theorem put_ne {Ω : Om} {a b : Addr} {c : Cell} (h : b ≠ a) : put Ω a c b = Ω b := by unfold put; rw [if_neg h]
theorem put_put {Ω : Om} {a : Addr} {c e : Cell} : put (put Ω a c) a e = put Ω a e := by
  funext b; unfold put; split <;> rfl
theorem cut_put {Ω : Om} {a : Addr} {c : Cell} (h : Ω a = none) : cut (put Ω a c) a = Ω := by
  funext b; unfold cut put
  split
  · rename_i e; rw [e, h]
  · rfl
theorem cut_same {Ω : Om} {a : Addr} : cut Ω a a = none := by unfold cut; rw [if_pos rfl]
theorem cut_ne {Ω : Om} {a b : Addr} (h : b ≠ a) : cut Ω a b = Ω b := by unfold cut; rw [if_neg h]
/-- an exception's value: its class, its fields -/
structure XV where
  cls : Str
  ns : List Str
  ts : List Tr
structure Gh where
  dr : Option (Addr × Addr)
  pr : Addr → Prop
  ex : List (Value × Option Addr × XV)
/-- a constant of the program's top -/
def ConstT (K : PySem.W.Frag) (a : Addr) (xs : List V) : Prop := (∀ H, SqT K H a xs) ∧ xs.all flatV = true
section
variable (K : PySem.W.Frag) (dr : Option (Addr × Addr)) (F : Addr → Prop) (H : Hp)
mutual
def VD : V → Tr → Prop
  | v, .non => v = .non
  | v, .bl b => v = .bl b
  | v, .int i => v = .int i
  | v, .str x => v = .str x
  | v, .lst ts => ∃ a xs, v = .ref a ∧ F a ∧ H a = some (.lst xs) ∧ VDL xs ts ∧ ts.length ≤ 1000000
  | v, .tup ts => ∃ a xs, v = .ref a ∧ ((F a ∧ H a = some (.tup xs)) ∨ ConstT K a xs) ∧ VDL xs ts ∧ ts.length ≤ 1000000
  | v, .dic ks ts => ∃ a xs, v = .ref a ∧ F a ∧ H a = some (.dK (ks.zip xs)) ∧ VDL xs ts ∧ ts.length = ks.length ∧ ts.length ≤ 1000000
  | v, .obj a => v = .ref a
  | v, .drw => ∃ d s, dr = some (d, s) ∧ v = .ref d
  | v, .ty n => v = .ty n
def VDL : List V → List Tr → Prop
  | xs, [] => xs = []
  | xs, t :: ts => ∃ v vs, xs = v :: vs ∧ VD v t ∧ VDL vs ts
end
end
section
variable {K : PySem.W.Frag} {dr : Option (Addr × Addr)} {F G : Addr → Prop} {H H' : Hp}
mutual
theorem VD.imp (hF : ∀ a o, F a → H a = some o → G a ∧ H' a = some o) : ∀ {v : V} (t : Tr), VD K dr F H v t → VD K dr G H' v t
  | _, .non, h => h
  | _, .bl _, h => h
  | _, .int _, h => h
  | _, .str _, h => h
  | _, .lst ts, h => by
    obtain ⟨a, xs, e, f, ha, hx, hz⟩ := h
    exact ⟨a, xs, e, (hF a _ f ha).1, (hF a _ f ha).2, VDL.imp hF ts hx, hz⟩
  | _, .tup ts, h => by
    obtain ⟨a, xs, e, ha, hx, hz⟩ := h
    exact ⟨a, xs, e, ha.imp (fun z => ⟨(hF a _ z.1 z.2).1, (hF a _ z.1 z.2).2⟩) id, VDL.imp hF ts hx, hz⟩
  | _, .dic ks ts, h => by
    obtain ⟨a, xs, e, f, ha, hx, hz⟩ := h
    exact ⟨a, xs, e, (hF a _ f ha).1, (hF a _ f ha).2, VDL.imp hF ts hx, hz⟩
  | _, .obj a, h => h
  | _, .drw, h => h
  | _, .ty n, h => h
theorem VDL.imp (hF : ∀ a o, F a → H a = some o → G a ∧ H' a = some o) : ∀ {xs : List V} (ts : List Tr), VDL K dr F H xs ts → VDL K dr G H' xs ts
  | _, [], h => h
  | _, t :: ts, h => by
    obtain ⟨v, vs, e, h1, h2⟩ := h
    exact ⟨v, vs, e, VD.imp hF t h1, VDL.imp hF ts h2⟩
end
theorem VDL.len : ∀ {xs : List V} (ts : List Tr), VDL K dr F H xs ts → xs.length = ts.length
  | _, [], h => by rw [show _ = [] from h]; rfl
  | _, t :: ts, h => by
    obtain ⟨v, vs, rfl, h1, h2⟩ := h
    rw [List.length_cons, List.length_cons, VDL.len ts h2]
theorem VDL.get : ∀ {xs : List V} (ts : List Tr) {i : Nat} {x : V}, VDL K dr F H xs ts → xs[i]? = some x → ∃ t, ts[i]? = some t ∧ VD K dr F H x t
  | _, [], _, _, h, e => by rw [show _ = [] from h] at e; cases e
  | _, t :: ts, 0, x, h, e => by
    obtain ⟨v, vs, rfl, h1, h2⟩ := h
    cases e
    exact ⟨t, rfl, h1⟩
  | _, t :: ts, i + 1, x, h, e => by
    obtain ⟨v, vs, rfl, h1, h2⟩ := h
    exact VDL.get ts (i := i) h2 e
theorem VDL.get' {xs : List V} {ts : List Tr} {i : Nat} {t : Tr} (h : VDL K dr F H xs ts) (e : ts[i]? = some t) : ∃ x, xs[i]? = some x ∧ VD K dr F H x t := by
  have hi := (List.getElem?_eq_some_iff.mp e).1
  have hx : i < xs.length := by rw [VDL.len ts h]; exact hi
  obtain ⟨t', e', d⟩ := VDL.get ts h (List.getElem?_eq_getElem hx)
  rw [e] at e'
  cases e'
  exact ⟨_, List.getElem?_eq_getElem hx, d⟩
theorem VDL.app : ∀ {xs ys : List V} (ts : List Tr) {us : List Tr}, VDL K dr F H xs ts → VDL K dr F H ys us → VDL K dr F H (xs ++ ys) (ts ++ us)
  | _, _, [], _, h, k => by rw [show _ = [] from h]; exact k
  | _, _, t :: ts, _, h, k => by
    obtain ⟨v, vs, rfl, h1, h2⟩ := h
    exact ⟨v, vs ++ _, rfl, h1, VDL.app ts h2 k⟩
theorem VDL.one {v : V} {t : Tr} (h : VD K dr F H v t) : VDL K dr F H [v] [t] := ⟨v, [], rfl, h, rfl⟩
theorem VDL.cons {v : V} {t : Tr} {vs : List V} {ts : List Tr} (h : VD K dr F H v t) (k : VDL K dr F H vs ts) : VDL K dr F H (v :: vs) (t :: ts) := ⟨v, vs, rfl, h, k⟩
theorem VDL.cons_inv {x : V} {xs : List V} {us : List Tr} (h : VDL K dr F H (x :: xs) us) : ∃ t ts, us = t :: ts ∧ VD K dr F H x t ∧ VDL K dr F H xs ts := by
  cases us with
  | nil => cases h
  | cons t ts =>
    obtain ⟨v, vs, e, h1, h2⟩ := h
    cases e
    exact ⟨t, ts, rfl, h1, h2⟩
theorem VDL.nil_inv {us : List Tr} (h : VDL K dr F H [] us) : us = [] := by
  cases us with
  | nil => rfl
  | cons t ts => obtain ⟨v, vs, e, _⟩ := h; cases e
theorem VDL.of_all : ∀ {xs : List V} {ts : List Tr}, xs.length = ts.length → (∀ (i : Nat) x t, xs[i]? = some x → ts[i]? = some t → VD K dr F H x t) → VDL K dr F H xs ts
  | [], [], _, _ => rfl
  | x :: xs, t :: ts, hl, h => ⟨x, xs, rfl, h 0 x t rfl rfl, VDL.of_all (by simpa using hl) fun i y u a b => h (i + 1) y u a b⟩
theorem VDL.all {xs : List V} {ts : List Tr} (h : VDL K dr F H xs ts) : ∀ (i : Nat) x t, xs[i]? = some x → ts[i]? = some t → VD K dr F H x t := fun i x t e1 e2 => by
  obtain ⟨t', e', d⟩ := h.get _ e1
  rw [e2] at e'
  cases e'
  exact d
theorem VDL.set {v : V} {t : Tr} {xs : List V} {ts : List Tr} {j : Nat} (h : VDL K dr F H xs ts) (d : VD K dr F H v t) : VDL K dr F H (xs.set j v) (ts.set j t) := by
  refine VDL.of_all (by rw [List.length_set, List.length_set, h.len]) fun i x u e1 e2 => ?_
  by_cases hij : j = i
  · subst hij
    have hl := h.len
    have hj := (List.getElem?_eq_some_iff.mp e2).1
    rw [List.length_set] at hj
    rw [List.getElem?_set_self (by omega)] at e1
    rw [List.getElem?_set_self hj] at e2
    cases e1
    cases e2
    exact d
  · rw [List.getElem?_set_ne hij] at e1 e2
    exact h.all i x u e1 e2
theorem VDL.sub {xs : List V} {ts : List Tr} (h : VDL K dr F H xs ts) (a n : Nat) : VDL K dr F H ((xs.drop a).take n) ((ts.drop a).take n) := by
  refine VDL.of_all (by rw [List.length_take, List.length_take, List.length_drop, List.length_drop, h.len]) fun i x u e1 e2 => ?_
  have hi : i < n := by
    have := (List.getElem?_eq_some_iff.mp e1).1
    rw [List.length_take] at this
    omega
  rw [List.getElem?_take_of_lt hi, List.getElem?_drop] at e1 e2
  exact h.all _ x u e1 e2
end
/-- may stand in data that is handed on -/
def NM (g : Gh) (Ω : Om) (b : Addr) : Prop := Ω b = none ∧ (∀ d, g.dr ≠ some (d, b)) ∧ ¬ g.pr b
def Keep (g : Gh) (H : Hp) (Ω : Om) (H' : Hp) (Ω' : Om) : Prop := ∀ b o, Ω b = none → (∀ d, g.dr ≠ some (d, b)) → H b = some o → H' b = some o ∧ Ω' b = none
section
variable {K : PySem.W.Frag} {g : Gh} {H H' H2 : Hp} {Ω Ω' Ω2 : Om}
theorem Keep.refl : Keep g H Ω H Ω := fun _ _ h _ e => ⟨e, h⟩
theorem Keep.trans (a : Keep g H Ω H' Ω') (b : Keep g H' Ω' H2 Ω2) : Keep g H Ω H2 Ω2 := fun c o h d e => b c o (a c o h d e).2 d (a c o h d e).1
theorem VD.keep {v : V} {t : Tr} (h : VD K g.dr (NM g Ω) H v t) (k : Keep g H Ω H' Ω') : VD K g.dr (NM g Ω') H' v t := VD.imp (fun a o f e => ⟨⟨(k a o f.1 f.2.1 e).2, f.2⟩, (k a o f.1 f.2.1 e).1⟩) t h
theorem VDL.keep {v : List V} {t : List Tr} (h : VDL K g.dr (NM g Ω) H v t) (k : Keep g H Ω H' Ω') : VDL K g.dr (NM g Ω') H' v t := VDL.imp (fun a o f e => ⟨⟨(k a o f.1 f.2.1 e).2, f.2⟩, (k a o f.1 f.2.1 e).1⟩) t h
end
/-- the exception's own dict tells its fields -/
def XR (K : PySem.W.Frag) (g : Gh) (Ω : Om) (H : Hp) (cls : Value) (d : Option Addr) (x : XV) : Prop :=
  cls = .ref (He.ga K x.cls) ∧ ∃ dd fs, d = some dd ∧ NM g Ω dd ∧ H dd = some (.xd fs) ∧ fs.map (·.1) = x.ns ∧ VDL K g.dr (NM g Ω) H (fs.map (·.2)) x.ts
def CellOk (K : PySem.W.Frag) (g : Gh) (Ω : Om) (H : Hp) (a : Addr) : Cell → Prop
  | .lst ts => ∃ xs, H a = some (.lst xs) ∧ VDL K g.dr (NM g Ω) H xs ts ∧ ts.length ≤ 1000000
  | .dic ks ts => ∃ xs, H a = some (.dK (ks.zip xs)) ∧ VDL K g.dr (NM g Ω) H xs ts ∧ ts.length = ks.length ∧ ts.length ≤ 1000000
  | .ins C dx ns ts => ∃ xs, H a = some (.ins C dx (ns.zip xs)) ∧ VDL K g.dr (NM g Ω) H xs ts ∧ ts.length = ns.length
/-- the draws stand, and none of their objects is a cell -/
def DrOk (pr : Addr → Prop) (H : Hp) (Ω : Om) (d s : Addr) : Prop := ∃ (c : Addr) (ns : List Int), H d = some (.lst [.ref c, .ref s]) ∧ c ≠ s ∧ H c = some (.lst (ns.map V.int)) ∧ StAt s H ∧ d ≠ s ∧ Ω d = none ∧ Ω s = none ∧ Ω c = none ∧ ¬ pr d ∧ ¬ pr s ∧ ¬ pr c
theorem DrOk.drw {pr : Addr → Prop} {H : Hp} {Ω : Om} {d s : Addr} (h : DrOk pr H Ω d s) : Drw d s H := by
  obtain ⟨c, ns, h1, h2, h3, h4, h5, _⟩ := h
  exact ⟨⟨c, h1, h2, ns, h3⟩, h4, h5⟩
theorem DrOk.imp {pr : Addr → Prop} {H H' : Hp} {Ω Ω' : Om} {d s : Addr} (h : DrOk pr H Ω d s) (st : StAt s H') (k : ∀ b o, b ≠ s → Ω b = none → H b = some o → H' b = some o) (kΩ : ∀ b, Ω b = none → H b ≠ none → Ω' b = none) : DrOk pr H' Ω' d s := by
  obtain ⟨c, ns, h1, h2, h3, h4, h5, h6, h7, h8, h9⟩ := h
  obtain ⟨_, _, _, _, _, _, q⟩ := h4
  exact ⟨c, ns, k _ _ h5 h6 h1, h2, k _ _ h2 h8 h3, st, h5, kΩ _ h6 (by rw [h1]; simp), kΩ _ h7 (by rw [q]; simp), kΩ _ h8 (by rw [h3]; simp), h9⟩
structure OmOk (K : PySem.W.Frag) (g : Gh) (H : Hp) (Ω : Om) : Prop where
  dr : ∀ d s, g.dr = some (d, s) → DrOk g.pr H Ω d s
  ce : ∀ a c, Ω a = some c → ¬ g.pr a ∧ CellOk K g Ω H a c
  ex : ∀ p ∈ g.ex, XR K g Ω H p.1 p.2.1 p.2.2
  pt : ∀ b, g.pr b → ∃ o, H b = some o
section
variable {K : PySem.W.Frag} {g : Gh} {H H' H2 : Hp} {Ω Ω' Ω2 : Om}
theorem CellOk.tracked {a : Addr} {c : Cell} (h : CellOk K g Ω H a c) : ∃ o, H a = some o := by
  cases c with
  | lst ts => obtain ⟨xs, e, _⟩ := h; exact ⟨_, e⟩
  | dic ks ts => obtain ⟨xs, e, _⟩ := h; exact ⟨_, e⟩
  | ins C dx ns ts => obtain ⟨xs, e, _⟩ := h; exact ⟨_, e⟩
theorem OmOk.fresh (h : OmOk K g H Ω) {a : Addr} (n : H a = none) : Ω a = none := by
  cases e : Ω a with
  | none => rfl
  | some c =>
    obtain ⟨o, q⟩ := (h.ce a c e).2.tracked
    rw [n] at q; cases q
theorem OmOk.nodr (h : OmOk K g H Ω) {a : Addr} (n : H a = none) : ∀ d, g.dr ≠ some (d, a) := fun d e => by
  obtain ⟨_, _, _, _, _, _, q⟩ := (h.dr d a e).drw.st
  rw [n] at q; cases q
theorem XR.keep {cls : Value} {d : Option Addr} {x : XV} (h : XR K g Ω H cls d x) (k : Keep g H Ω H' Ω') : XR K g Ω' H' cls d x := by
  obtain ⟨e, dd, fs, e1, n, e2, e3, e4⟩ := h
  exact ⟨e, dd, fs, e1, ⟨(k _ _ n.1 n.2.1 e2).2, n.2⟩, (k _ _ n.1 n.2.1 e2).1, e3, e4.keep k⟩
theorem CellOk.imp {a : Addr} {c : Cell} (h : CellOk K g Ω H a c) (e : H' a = H a) (k : ∀ b o, NM g Ω b → H b = some o → NM g Ω' b ∧ H' b = some o) : CellOk K g Ω' H' a c := by
  cases c with
  | lst ts => obtain ⟨xs, q, r, z⟩ := h; exact ⟨xs, by rw [e]; exact q, r.imp k, z⟩
  | dic ks ts => obtain ⟨xs, q, r, z⟩ := h; exact ⟨xs, by rw [e]; exact q, r.imp k, z⟩
  | ins C dx ns ts => obtain ⟨xs, q, r, z⟩ := h; exact ⟨xs, by rw [e]; exact q, r.imp k, z⟩
/-- a new object that is data -/
theorem Keep.new {p : Addr} {o : HO} (n : H p = none) : Keep g H Ω (upd H p o) Ω := fun b u hb _ e => ⟨by rw [upd_ne (ne_of_none e n)]; exact e, hb⟩
theorem OmOk.new {p : Addr} {o : HO} (h : OmOk K g H Ω) (n : H p = none) : OmOk K g (upd H p o) Ω where
  dr := fun d s e => by
    have D := h.dr d s e
    exact D.imp (D.drw.same (Same.new (Same.refl _) n)).st (fun b o _ _ q => by rw [upd_ne (ne_of_none q n)]; exact q) fun _ q _ => q
  ce := fun a c e => ⟨(h.ce a c e).1, (h.ce a c e).2.imp (by obtain ⟨o, q⟩ := (h.ce a c e).2.tracked; rw [upd_ne (ne_of_none q n)]) fun b u f q => ⟨f, by rw [upd_ne (ne_of_none q n)]; exact q⟩⟩
  ex := fun p hp => (h.ex p hp).keep (Keep.new n)
  pt := fun b hb => by
    obtain ⟨o, e⟩ := h.pt b hb
    exact ⟨o, by rw [upd_ne (ne_of_none e n)]; exact e⟩
theorem NM.new (h : OmOk K g H Ω) {p : Addr} (n : H p = none) (hp : ¬ g.pr p) : NM g Ω p := ⟨h.fresh n, h.nodr n, hp⟩
/-- a new cell -/
theorem Keep.cell {p : Addr} {o : HO} {c : Cell} (n : H p = none) : Keep g H Ω (upd H p o) (put Ω p c) := fun b u hb _ e => ⟨by rw [upd_ne (ne_of_none e n)]; exact e, by rw [put_ne (ne_of_none e n)]; exact hb⟩
/-- a cell is changed -/
theorem Keep.write {a : Addr} {o : HO} {c e : Cell} (h : Ω a = some c) : Keep g H Ω (upd H a o) (put Ω a e) := fun b u hb _ q => by
  have hba : b ≠ a := fun z => by rw [z, h] at hb; cases hb
  exact ⟨by rw [upd_ne hba]; exact q, by rw [put_ne hba]; exact hb⟩
theorem NM.put_new {p b : Addr} {c : Cell} {o : HO} (f : NM g Ω b) (e : H b = some o) (n : H p = none) : NM g (put Ω p c) b := ⟨by rw [put_ne (ne_of_none e n)]; exact f.1, f.2⟩
theorem NM.put_old {a b : Addr} {c e : Cell} (f : NM g Ω b) (h : Ω a = some c) : NM g (put Ω a e) b := ⟨by rw [put_ne (fun z => by rw [z] at f; rw [f.1] at h; cases h)]; exact f.1, f.2⟩
theorem OmOk.cell {p : Addr} {o : HO} {c : Cell} (h : OmOk K g H Ω) (n : H p = none) (hp : ¬ g.pr p) (hc : CellOk K g (put Ω p c) (upd H p o) p c) : OmOk K g (upd H p o) (put Ω p c) where
  dr := fun d s e => by
    have D := h.dr d s e
    exact D.imp (D.drw.same (Same.new (Same.refl _) n)).st (fun b o _ _ q => by rw [upd_ne (ne_of_none q n)]; exact q) fun b q nn => by rw [put_ne (fun z => nn (by rw [z]; exact n))]; exact q
  ce := fun a c' e => by
    by_cases ha : a = p
    · subst ha
      rw [put_same] at e
      cases e
      exact ⟨hp, hc⟩
    · rw [put_ne ha] at e
      exact ⟨(h.ce a c' e).1, (h.ce a c' e).2.imp (upd_ne ha) fun b u f q => ⟨f.put_new q n, by rw [upd_ne (ne_of_none q n)]; exact q⟩⟩
  ex := fun p hp => (h.ex p hp).keep (Keep.cell n)
  pt := fun b hb => by
    obtain ⟨o, e⟩ := h.pt b hb
    exact ⟨o, by rw [upd_ne (ne_of_none e n)]; exact e⟩
theorem OmOk.write {a : Addr} {o : HO} {c e : Cell} (h : OmOk K g H Ω) (ha : Ω a = some c) (hc : CellOk K g (put Ω a e) (upd H a o) a e) : OmOk K g (upd H a o) (put Ω a e) where
  dr := fun d s q => by
    have D := h.dr d s q
    have hs : s ≠ a := fun z => by
      obtain ⟨_, _, _, _, _, _, _, _, h7, _⟩ := D
      rw [z, ha] at h7; cases h7
    have st : StAt s (upd H a o) := by
      obtain ⟨i, v, kk, t, gg, h0, q4⟩ := D.drw.st
      exact ⟨i, v, kk, t, gg, h0, by rw [upd_ne hs]; exact q4⟩
    have ns : ∀ b, Ω b = none → b ≠ a := fun b hb z => by rw [z, ha] at hb; cases hb
    exact D.imp st (fun b u _ hb r => by rw [upd_ne (ns b hb)]; exact r) fun b hb _ => by rw [put_ne (ns b hb)]; exact hb
  ce := fun b c' q => by
    by_cases hb : b = a
    · subst hb
      rw [put_same] at q
      cases q
      exact ⟨(h.ce b c ha).1, hc⟩
    · rw [put_ne hb] at q
      exact ⟨(h.ce b c' q).1, (h.ce b c' q).2.imp (upd_ne hb) fun x u f r => ⟨f.put_old ha, by rw [upd_ne (fun z => by rw [z] at f; rw [f.1] at ha; cases ha)]; exact r⟩⟩
  ex := fun p hp => (h.ex p hp).keep (Keep.write ha)
  pt := fun b hb => by
    obtain ⟨o, e⟩ := h.pt b hb
    exact ⟨o, by rw [upd_ne (fun z => (h.ce a c ha).1 (by rw [← z]; exact hb))]; exact e⟩
/-- an object that is being made, and that nothing tells -/
def Gh.with (g : Gh) (D : Addr) : Gh := ⟨g.dr, fun b => g.pr b ∨ b = D, g.ex⟩
theorem NM.less {D : Addr} {b : Addr} (f : NM (g.with D) Ω b) : NM g Ω b := ⟨f.1, f.2.1, fun z => f.2.2 (.inl z)⟩
theorem NM.more {D : Addr} {b : Addr} (f : NM g Ω b) (h : b ≠ D) : NM (g.with D) Ω b := ⟨f.1, f.2.1, fun z => z.elim f.2.2 h⟩
theorem OmOk.less {D : Addr} (h : OmOk K (g.with D) H Ω) : OmOk K g H Ω where
  dr := fun d s e => by
    obtain ⟨c, ns, h1, h2, h3, h4, h5, h6, h7, h8, p1, p2, p3⟩ := h.dr d s e
    exact ⟨c, ns, h1, h2, h3, h4, h5, h6, h7, h8, fun z => p1 (.inl z), fun z => p2 (.inl z), fun z => p3 (.inl z)⟩
  ce := fun a c e => ⟨fun z => (h.ce a c e).1 (.inl z), (h.ce a c e).2.imp (g := g.with D) rfl (fun b o f q => ⟨f, q⟩) |> fun r => by
    cases c with
    | lst ts => obtain ⟨xs, q, r, z⟩ := r; exact ⟨xs, q, r.imp fun b o f q => ⟨f.less, q⟩, z⟩
    | dic ks ts => obtain ⟨xs, q, r, z⟩ := r; exact ⟨xs, q, r.imp fun b o f q => ⟨f.less, q⟩, z⟩
    | ins C dx ns ts => obtain ⟨xs, q, r, z⟩ := r; exact ⟨xs, q, r.imp fun b o f q => ⟨f.less, q⟩, z⟩⟩
  ex := fun p hp => by
    obtain ⟨e, dd, fs, e1, n, e2, e3, e4⟩ := h.ex p hp
    exact ⟨e, dd, fs, e1, n.less, e2, e3, e4.imp fun b o f q => ⟨f.less, q⟩⟩
  pt := fun b hb => h.pt b (.inl hb)
theorem VD.more {D : Addr} {v : V} {t : Tr} (h : VD K g.dr (NM g Ω) H v t) (n : H D = none) : VD K g.dr (NM (g.with D) Ω) H v t := VD.imp (fun b o f q => ⟨f.more (ne_of_none q n), q⟩) t h
theorem VDL.more {D : Addr} {v : List V} {t : List Tr} (h : VDL K g.dr (NM g Ω) H v t) (n : H D = none) : VDL K g.dr (NM (g.with D) Ω) H v t := VDL.imp (fun b o f q => ⟨f.more (ne_of_none q n), q⟩) t h
theorem VD.less {D : Addr} {v : V} {t : Tr} (h : VD K g.dr (NM (g.with D) Ω) H v t) : VD K g.dr (NM g Ω) H v t := VD.imp (fun b o f q => ⟨f.less, q⟩) t h
theorem VDL.less {D : Addr} {v : List V} {t : List Tr} (h : VDL K g.dr (NM (g.with D) Ω) H v t) : VDL K g.dr (NM g Ω) H v t := VDL.imp (fun b o f q => ⟨f.less, q⟩) t h
/-- D is laid -/
theorem OmOk.more {D : Addr} {o : HO} (h : OmOk K g H Ω) (n : H D = none) : OmOk K (g.with D) (upd H D o) Ω where
  dr := fun d s e => by
    have D0 := h.dr d s e
    obtain ⟨c, ns, h1, h2, h3, h4, h5, h6, h7, h8, p1, p2, p3⟩ := (h.new (o := o) n).dr d s e
    obtain ⟨c', ns', g1, _, g3, g4, _⟩ := D0
    obtain ⟨_, _, _, _, _, _, g5⟩ := g4
    have e1 : d ≠ D := ne_of_none g1 n
    have e2 : s ≠ D := ne_of_none g5 n
    have e3 : c = c' := by
      rw [upd_ne e1, g1] at h1
      cases h1; rfl
    have e4 : c ≠ D := by rw [e3]; exact ne_of_none g3 n
    exact ⟨c, ns, h1, h2, h3, h4, h5, h6, h7, h8, fun z => z.elim p1 e1, fun z => z.elim p2 e2, fun z => z.elim p3 e4⟩
  ce := fun a c e => by
    obtain ⟨u, q⟩ := (h.ce a c e).2.tracked
    have ha : a ≠ D := ne_of_none q n
    refine ⟨fun z => z.elim (h.ce a c e).1 ha, ?_⟩
    have r := (h.ce a c e).2
    have up : ∀ b o', NM g Ω b → H b = some o' → NM (g.with D) Ω b ∧ upd H D o b = some o' := fun b o' f r => ⟨f.more (ne_of_none r n), by rw [upd_ne (ne_of_none r n)]; exact r⟩
    cases c with
    | lst ts => obtain ⟨xs, q, r, z⟩ := r; exact ⟨xs, by rw [upd_ne ha]; exact q, r.imp up, z⟩
    | dic ks ts => obtain ⟨xs, q, r, z⟩ := r; exact ⟨xs, by rw [upd_ne ha]; exact q, r.imp up, z⟩
    | ins C dx ns ts => obtain ⟨xs, q, r, z⟩ := r; exact ⟨xs, by rw [upd_ne ha]; exact q, r.imp up, z⟩
  ex := fun p hp => by
    obtain ⟨e, dd, fs, e1, nn, e2, e3, e4⟩ := h.ex p hp
    have up : ∀ b o', NM g Ω b → H b = some o' → NM (g.with D) Ω b ∧ upd H D o b = some o' := fun b o' f r => ⟨f.more (ne_of_none r n), by rw [upd_ne (ne_of_none r n)]; exact r⟩
    exact ⟨e, dd, fs, e1, (up _ _ nn e2).1, (up _ _ nn e2).2, e3, e4.imp up⟩
  pt := fun b hb => by
    by_cases e : b = D
    · exact ⟨o, by rw [e, upd_same]⟩
    · obtain ⟨u, q⟩ := h.pt b (hb.resolve_right e)
      exact ⟨u, by rw [upd_ne e]; exact q⟩
/-- D is changed -/
theorem OmOk.prot {D : Addr} {o : HO} (h : OmOk K (g.with D) H Ω) : OmOk K (g.with D) (upd H D o) Ω where
  dr := fun d s e => by
    have D0 := h.dr d s e
    obtain ⟨c, ns, h1, h2, h3, h4, h5, h6, h7, h8, p1, p2, p3⟩ := D0
    obtain ⟨i, v, kk, t, gg, h0, q4⟩ := h4
    have e1 : d ≠ D := fun z => p1 (.inr z)
    have e2 : s ≠ D := fun z => p2 (.inr z)
    have e3 : c ≠ D := fun z => p3 (.inr z)
    exact ⟨c, ns, by rw [upd_ne e1]; exact h1, h2, by rw [upd_ne e3]; exact h3, ⟨i, v, kk, t, gg, h0, by rw [upd_ne e2]; exact q4⟩, h5, h6, h7, h8, p1, p2, p3⟩
  ce := fun a c e => by
    have ha : a ≠ D := fun z => (h.ce a c e).1 (.inr z)
    exact ⟨(h.ce a c e).1, (h.ce a c e).2.imp (upd_ne ha) fun b u f q => ⟨f, by rw [upd_ne (fun z => f.2.2 (.inr z))]; exact q⟩⟩
  ex := fun p hp => by
    obtain ⟨e, dd, fs, e1, nn, e2, e3, e4⟩ := h.ex p hp
    have up : ∀ b o', NM (g.with D) Ω b → H b = some o' → NM (g.with D) Ω b ∧ upd H D o b = some o' := fun b u f q => ⟨f, by rw [upd_ne (fun z => f.2.2 (.inr z))]; exact q⟩
    exact ⟨e, dd, fs, e1, nn, (up _ _ nn e2).2, e3, e4.imp up⟩
  pt := fun b hb => by
    by_cases e : b = D
    · exact ⟨o, by rw [e, upd_same]⟩
    · obtain ⟨u, q⟩ := h.pt b hb
      exact ⟨u, by rw [upd_ne e]; exact q⟩
theorem VDL.prot {D : Addr} {o : HO} {v : List V} {t : List Tr} (h : VDL K g.dr (NM (g.with D) Ω) H v t) : VDL K g.dr (NM (g.with D) Ω) (upd H D o) v t := VDL.imp (fun b u f q => ⟨f, by rw [upd_ne (fun z => f.2.2 (.inr z))]; exact q⟩) t h
theorem VD.prot {D : Addr} {o : HO} {v : V} {t : Tr} (h : VD K g.dr (NM (g.with D) Ω) H v t) : VD K g.dr (NM (g.with D) Ω) (upd H D o) v t := VD.imp (fun b u f q => ⟨f, by rw [upd_ne (fun z => f.2.2 (.inr z))]; exact q⟩) t h
/-- D becomes a cell -/
theorem OmOk.toCell {D : Addr} {c : Cell} (h : OmOk K (g.with D) H Ω) (hp : ¬ g.pr D) (hc : CellOk K (g.with D) Ω H D c) : OmOk K g H (put Ω D c) := by
  have hD : Ω D = none := by
    cases e : Ω D with
    | none => rfl
    | some c' => exact absurd (.inr rfl) (h.ce D c' e).1
  have up : ∀ b o', NM (g.with D) Ω b → H b = some o' → NM g (put Ω D c) b ∧ H b = some o' := fun b o' f r => ⟨⟨by rw [put_ne (fun z => f.2.2 (.inr z))]; exact f.1, f.less.2⟩, r⟩
  have cell : ∀ a c', CellOk K (g.with D) Ω H a c' → CellOk K g (put Ω D c) H a c' := fun a c' r => by
    cases c' with
    | lst ts => obtain ⟨xs, q, r, z⟩ := r; exact ⟨xs, q, r.imp up, z⟩
    | dic ks ts => obtain ⟨xs, q, r, z⟩ := r; exact ⟨xs, q, r.imp up, z⟩
    | ins C dx ns ts => obtain ⟨xs, q, r, z⟩ := r; exact ⟨xs, q, r.imp up, z⟩
  refine ⟨fun d s e => ?_, fun a c' e => ?_, fun p hp => ?_, fun b hb => h.pt b (.inl hb)⟩
  · obtain ⟨cc, ns, h1, h2, h3, h4, h5, h6, h7, h8, p1, p2, p3⟩ := h.dr d s e
    have e1 : d ≠ D := fun z => p1 (.inr z)
    have e2 : s ≠ D := fun z => p2 (.inr z)
    have e3 : cc ≠ D := fun z => p3 (.inr z)
    exact ⟨cc, ns, h1, h2, h3, h4, h5, by rw [put_ne e1]; exact h6, by rw [put_ne e2]; exact h7, by rw [put_ne e3]; exact h8, fun z => p1 (.inl z), fun z => p2 (.inl z), fun z => p3 (.inl z)⟩
  · by_cases ha : a = D
    · subst ha
      rw [put_same] at e
      cases e
      exact ⟨hp, cell _ _ hc⟩
    · rw [put_ne ha] at e
      exact ⟨fun z => (h.ce a c' e).1 (.inl z), cell _ _ (h.ce a c' e).2⟩
  · obtain ⟨e, dd, fs, e1, nn, e2, e3, e4⟩ := h.ex p hp
    exact ⟨e, dd, fs, e1, (up _ _ nn e2).1, e2, e3, e4.imp up⟩
/-- a cell becomes data -/
theorem Keep.freeze {a : Addr} : Keep g H Ω H (cut Ω a) := fun b o hb _ e => ⟨e, by unfold cut; split; rfl; exact hb⟩
theorem NM.cut {a b : Addr} (f : NM g Ω b) : NM g (cut Ω a) b := ⟨by unfold LT.cut; split; rfl; exact f.1, f.2⟩
theorem OmOk.freeze {a : Addr} (h : OmOk K g H Ω) : OmOk K g H (cut Ω a) := by
  have up : ∀ b o', NM g Ω b → H b = some o' → NM g (cut Ω a) b ∧ H b = some o' := fun b o' f r => ⟨f.cut, r⟩
  have hn : ∀ b, Ω b = none → cut Ω a b = none := fun b hb => by unfold cut; split; rfl; exact hb
  refine ⟨fun d s e => ?_, fun b c e => ?_, fun p hp => ?_, h.pt⟩
  · obtain ⟨cc, ns, h1, h2, h3, h4, h5, h6, h7, h8, p1⟩ := h.dr d s e
    exact ⟨cc, ns, h1, h2, h3, h4, h5, hn _ h6, hn _ h7, hn _ h8, p1⟩
  · by_cases hb : b = a
    · subst hb; rw [cut_same] at e; cases e
    · rw [cut_ne hb] at e
      exact ⟨(h.ce b c e).1, (h.ce b c e).2.imp rfl up⟩
  · exact (h.ex p hp).keep Keep.freeze
end
end LT

namespace LT
open PySem PySem.Spec PyProof.Rows L2 LL
/-! ### readings of trees -/
abbrev En := List (Option Tr)
abbrev PT' := Tr → Om → Prop
abbrev PXt := XV → Om → Prop
abbrev DE := En → Om → PT' → PXt → Prop
abbrev DA := En → Om → (List Tr → Om → Prop) → PXt → Prop
abbrev DT := En → Om → (Bool → Om → Prop) → PXt → Prop
structure DN where
  nx : En → Om → Prop
  rt : PT'
  bk : En → Om → Prop := fun _ _ => False
  ct : En → Om → Prop := fun _ _ => False
  ex : En → XV → Om → Prop := fun _ _ _ => False
abbrev DS := DN → En → Om → Prop
abbrev DG := Tr → En → Om → (En → Om → Prop) → PXt → Prop
abbrev DGs := List Tr → En → Om → (En → Om → Prop) → PXt → Prop
abbrev DI := En → Om → (List Tr → (Om → Prop) → Om → Prop) → PXt → Prop
abbrev DO := En → Om → (Option Int → Om → Prop) → PXt → Prop
def nox : PXt := fun _ _ => False
abbrev EK := L2.St → XK
structure Rel (K : PySem.W.Frag) (g : Gh) (σ : L2.St) (H : Hp) (ρ : En) (Ω : Om) : Prop where
  om : OmOk K g H Ω
  len : σ.length = ρ.length
  env : ∀ (i : Nat) t, ρ[i]? = some (some t) → ∃ v, σ[i]? = some (some v) ∧ VD K g.dr (NM g Ω) H v t
section
variable {K : PySem.W.Frag} {g : Gh} {H H' H2 : Hp} {Ω Ω' Ω2 : Om} {σ σ' : L2.St} {ρ ρ' : En}
theorem Rel.keep (R : Rel K g σ H ρ Ω) (k : Keep g H Ω H' Ω') (o : OmOk K g H' Ω') : Rel K g σ H' ρ Ω' := ⟨o, R.len, fun i t e => by
  obtain ⟨v, h1, h2⟩ := R.env i t e
  exact ⟨v, h1, h2.keep k⟩⟩
theorem Rel.set {v : V} {t : Tr} {i : Nat} (R : Rel K g σ H ρ Ω) (d : VD K g.dr (NM g Ω) H v t) : Rel K g (σ.set i (some v)) H (ρ.set i (some t)) Ω := ⟨R.om, by rw [List.length_set, List.length_set, R.len], fun j u e => by
  by_cases hij : i = j
  · subst hij
    have hj := (List.getElem?_eq_some_iff.mp e).1
    rw [List.length_set] at hj
    rw [List.getElem?_set_self hj] at e
    cases e
    exact ⟨v, List.getElem?_set_self (by rw [R.len]; exact hj), d⟩
  · rw [List.getElem?_set_ne hij] at e ⊢
    exact R.env j u e⟩
theorem Rel.none {i : Nat} (R : Rel K g σ H ρ Ω) : Rel K g (σ.set i none) H (ρ.set i none) Ω := ⟨R.om, by rw [List.length_set, List.length_set, R.len], fun j u e => by
  by_cases hij : i = j
  · subst hij
    have hj := (List.getElem?_eq_some_iff.mp e).1
    rw [List.length_set] at hj
    rw [List.getElem?_set_self hj] at e
    cases e
  · rw [List.getElem?_set_ne hij] at e ⊢
    exact R.env j u e⟩
end
/-! ### what a part's reading owes to the trees' reading -/
section
variable (K : PySem.W.Frag) (G : List (Value × Option Addr × XV) → Prop) (E : EK)
/-- what follows behind a value -/
def After (g : Gh) (H : Hp) (Ω : Om) (P : PT') (Q : VK) : Prop := ∀ t Ω' v H', P t Ω' → Keep g H Ω H' Ω' → OmOk K g H' Ω' → VD K g.dr (NM g Ω') H' v t → Q v H'
def AfterX (g : Gh) (H : Hp) (Ω : Om) (P : PXt) (Q : XK) : Prop := ∀ x Ω' cls d H', P x Ω' → Keep g H Ω H' Ω' → OmOk K g H' Ω' → XR K g Ω' H' cls d x → Q cls d H'
def SimE (te : TE) (de : DE) : Prop := ∀ g σ H ρ Ω P PX Q, G g.ex → Rel K g σ H ρ Ω → de ρ Ω P PX → After K g H Ω P Q → AfterX K g H Ω PX (E σ) → te σ H Q
def SimA (te : TA) (de : DA) : Prop := ∀ g σ H ρ Ω P PX Q, G g.ex → Rel K g σ H ρ Ω → de ρ Ω P PX → (∀ ts Ω' vs H', P ts Ω' → Keep g H Ω H' Ω' → OmOk K g H' Ω' → VDL K g.dr (NM g Ω') H' vs ts → Q vs H') → AfterX K g H Ω PX (E σ) → te σ H Q
def SimT (te : TT) (de : DT) : Prop := ∀ g σ H ρ Ω P PX Q, G g.ex → Rel K g σ H ρ Ω → de ρ Ω P PX → (∀ b Ω' H', P b Ω' → Keep g H Ω H' Ω' → OmOk K g H' Ω' → Q b H') → AfterX K g H Ω PX (E σ) → te σ H Q
def SimO (te : TO) (de : DO) : Prop := ∀ g σ H ρ Ω P PX Q, G g.ex → Rel K g σ H ρ Ω → de ρ Ω P PX → (∀ b Ω' H', P b Ω' → Keep g H Ω H' Ω' → OmOk K g H' Ω' → Q b H') → AfterX K g H Ω PX (E σ) → te σ H Q
def SimG (te : TG) (de : DG) : Prop := ∀ g σ H ρ Ω v t P PX Q, G g.ex → Rel K g σ H ρ Ω → VD K g.dr (NM g Ω) H v t → de t ρ Ω P PX → (∀ ρ' Ω' σ' H', P ρ' Ω' → Keep g H Ω H' Ω' → Rel K g σ' H' ρ' Ω' → Q σ' H') → (∀ cls d H', (∃ x Ω', PX x Ω' ∧ Keep g H Ω H' Ω' ∧ OmOk K g H' Ω' ∧ XR K g Ω' H' cls d x) → E σ cls d H') → te v σ H Q
def SimGs (te : TGs) (de : DGs) : Prop := ∀ g σ H ρ Ω v t P Q, G g.ex → Rel K g σ H ρ Ω → VDL K g.dr (NM g Ω) H v t → de t ρ Ω P nox → (∀ ρ' Ω' σ' H', P ρ' Ω' → Keep g H Ω H' Ω' → Rel K g σ' H' ρ' Ω' → Q σ' H') → te v σ H Q
structure EndsR (g : Gh) (H : Hp) (Ω : Om) (D : Ends) (DD : DN) : Prop where
  nx : ∀ ρ' Ω' σ' H', DD.nx ρ' Ω' → Keep g H Ω H' Ω' → Rel K g σ' H' ρ' Ω' → D.nx σ' H'
  rt : After K g H Ω DD.rt D.rt
  bk : ∀ ρ' Ω' σ' H', DD.bk ρ' Ω' → Keep g H Ω H' Ω' → Rel K g σ' H' ρ' Ω' → D.bk σ' H'
  ct : ∀ ρ' Ω' σ' H', DD.ct ρ' Ω' → Keep g H Ω H' Ω' → Rel K g σ' H' ρ' Ω' → D.ct σ' H'
  ex : ∀ x ρ' Ω' σ' cls d H', DD.ex ρ' x Ω' → Keep g H Ω H' Ω' → Rel K g σ' H' ρ' Ω' → XR K g Ω' H' cls d x → E σ' cls d H'
def SimS (ts : TS) (ds : DS) : Prop := ∀ g σ H ρ Ω D DD, G g.ex → Rel K g σ H ρ Ω → ds DD ρ Ω → EndsR K E g H Ω D DD → ts D σ H
end
section
variable {K : PySem.W.Frag} {G : List (Value × Option Addr × XV) → Prop} {E : EK}
theorem After.at {g : Gh} {H H1 : Hp} {Ω Ω1 : Om} {P : PT'} {Q : VK} (h : After K g H Ω P Q) (k : Keep g H Ω H1 Ω1) : After K g H1 Ω1 P Q := fun t Ω' v H' p k' o d => h t Ω' v H' p (k.trans k') o d
theorem AfterX.at {g : Gh} {H H1 : Hp} {Ω Ω1 : Om} {P : PXt} {Q : XK} (h : AfterX K g H Ω P Q) (k : Keep g H Ω H1 Ω1) : AfterX K g H1 Ω1 P Q := fun x Ω' c d H' p k' o r => h x Ω' c d H' p (k.trans k') o r
theorem EndsR.at {g : Gh} {H H1 : Hp} {Ω Ω1 : Om} {D : Ends} {DD : DN} (h : EndsR K E g H Ω D DD) (k : Keep g H Ω H1 Ω1) : EndsR K E g H1 Ω1 D DD :=
  ⟨fun ρ' Ω' σ' H' p k' r => h.nx ρ' Ω' σ' H' p (k.trans k') r, h.rt.at k, fun ρ' Ω' σ' H' p k' r => h.bk ρ' Ω' σ' H' p (k.trans k') r, fun ρ' Ω' σ' H' p k' r => h.ct ρ' Ω' σ' H' p (k.trans k') r, fun x ρ' Ω' σ' c d H' p k' r z => h.ex x ρ' Ω' σ' c d H' p (k.trans k') r z⟩
theorem AfterX.nox {g : Gh} {H : Hp} {Ω : Om} {Q : XK} : AfterX K g H Ω nox Q := fun _ _ _ _ _ p => p.elim
/-- an exception leaves a statement -/
theorem EndsR.exx {g : Gh} {σ : L2.St} {H : Hp} {ρ : En} {Ω : Om} {D : Ends} {DD : DN} (h : EndsR K E g H Ω D DD) (R : Rel K g σ H ρ Ω) : AfterX K g H Ω (fun x Ω' => DD.ex ρ x Ω') (E σ) := fun x Ω' c d H' p k o r => h.ex x ρ Ω' σ c d H' p k (R.keep k o) r
/-! ### names, constants, operators -/
def dVar (i : Nat) : DE := fun ρ Ω P _ => ∃ t, ρ[i]? = some (some t) ∧ P t Ω
theorem sim_var {i : Nat} : SimE K G E (tVar i) (dVar i) := fun g σ H ρ Ω P PX Q _ R ⟨t, e, p⟩ q _ => by
  obtain ⟨v, h1, h2⟩ := R.env i t e
  exact ⟨v, h1, q t Ω v H p .refl R.om h2⟩
def dC (t : Tr) : DE := fun _ Ω P _ => P t Ω
theorem sim_int {i : Int} : SimE K G E (tC (.int i)) (dC (.int i)) := fun g σ H ρ Ω P PX Q _ R p q _ => q _ Ω _ H p .refl R.om rfl
theorem sim_bl {b : Bool} : SimE K G E (tC (.bl b)) (dC (.bl b)) := fun g σ H ρ Ω P PX Q _ R p q _ => q _ Ω _ H p .refl R.om rfl
theorem sim_str {x : Str} : SimE K G E (tC (.str x)) (dC (.str x)) := fun g σ H ρ Ω P PX Q _ R p q _ => q _ Ω _ H p .refl R.om rfl
theorem sim_non : SimE K G E (tC .non) (dC .non) := fun g σ H ρ Ω P PX Q _ R p q _ => q _ Ω _ H p .refl R.om rfl
theorem sim_ty {n : String} : SimE K G E (tC (.ty n)) (dC (.ty n)) := fun g σ H ρ Ω P PX Q _ R p q _ => q _ Ω _ H p .refl R.om rfl
/-- a value without objects -/
def flatT : Tr → Bool
  | .non => true
  | .bl _ => true
  | .int _ => true
  | .str _ => true
  | .ty _ => true
  | _ => false
def toV : Tr → V
  | .non => .non
  | .bl b => .bl b
  | .int i => .int i
  | .str x => .str x
  | .ty n => .ty n
  | .obj a => .ref a
  | _ => .non
def ofV : V → Tr
  | .non => .non
  | .bl b => .bl b
  | .int i => .int i
  | .str x => .str x
  | .ty n => .ty n
  | _ => .non
def flatV' : V → Bool
  | .non => true
  | .bl _ => true
  | .int _ => true
  | .str _ => true
  | .ty _ => true
  | _ => false
theorem vd_flat {dr : Option (Addr × Addr)} {F : Addr → Prop} {H : Hp} {v : V} {t : Tr} (h : VD K dr F H v t) (f : flatT t = true) : v = toV t := by
  cases t with
  | non => exact h
  | bl b => exact h
  | int i => exact h
  | str x => exact h
  | ty n => exact h
  | _ => cases f
theorem vd_ofV {dr : Option (Addr × Addr)} {F : Addr → Prop} {H : Hp} {v : V} (h : flatV' v = true) : VD K dr F H v (ofV v) := by
  cases v with
  | non => rfl
  | bl b => rfl
  | int i => rfl
  | str x => rfl
  | ty n => rfl
  | _ => cases h
/-- a rule over two values -/
def SimR (K : PySem.W.Frag) (r : R2) (d : Tr → Tr → Om → PT' → Prop) : Prop := ∀ g H Ω x y tx ty P Q, OmOk K g H Ω → VD K g.dr (NM g Ω) H x tx → VD K g.dr (NM g Ω) H y ty → d tx ty Ω P → After K g H Ω P Q → r x y H Q
def dOp (d : Tr → Tr → Om → PT' → Prop) (da db : DE) : DE := fun ρ Ω P PX => da ρ Ω (fun x Ω1 => db ρ Ω1 (fun y Ω2 => d x y Ω2 P) PX) PX
theorem sim_op {r : R2} {d : Tr → Tr → Om → PT' → Prop} {ta tb : TE} {da db : DE} (hr : SimR K r d) (ha : SimE K G E ta da) (hb : SimE K G E tb db) : SimE K G E (tOp r ta tb) (dOp d da db) := fun g σ H ρ Ω P PX Q hG R h q qx =>
  ha g σ H ρ Ω _ PX _ hG R h (fun x Ω1 v H1 h1 k1 o1 d1 => hb g σ H1 ρ Ω1 _ PX _ hG (R.keep k1 o1) h1 (fun y Ω2 u H2 h2 k2 o2 d2 => hr g H2 Ω2 v u x y P Q o2 (d1.keep k2) d2 h2 (q.at (k1.trans k2))) (qx.at k1)) qx
def dI (C : Int → Int → Prop) (f : Int → Int → V) : Tr → Tr → Om → PT' → Prop := fun x y Ω P => ∃ i j, x = .int i ∧ y = .int j ∧ C i j ∧ P (ofV (f i j)) Ω
def dI0 (f : Int → Int → V) : Tr → Tr → Om → PT' → Prop := fun x y Ω P => ∃ i j, x = .int i ∧ y = .int j ∧ P (ofV (f i j)) Ω
theorem simr_I {C : Int → Int → Prop} {f : Int → Int → V} (hf : ∀ i j, flatV' (f i j) = true) : SimR K (rI C f) (dI C f) := fun g H Ω x y tx ty P Q o d1 d2 ⟨i, j, e1, e2, c, p⟩ q => by
  subst e1 e2
  exact ⟨i, j, d1, d2, c, q _ Ω _ H p .refl o (vd_ofV (hf i j))⟩
theorem simr_I0 {f : Int → Int → V} (hf : ∀ i j, flatV' (f i j) = true) : SimR K (rI0 f) (dI0 f) := fun g H Ω x y tx ty P Q o d1 d2 ⟨i, j, e1, e2, p⟩ q => by
  subst e1 e2
  exact ⟨i, j, d1, d2, q _ Ω _ H p .refl o (vd_ofV (hf i j))⟩
def dEq : Tr → Tr → Om → PT' → Prop := fun x y Ω P => flatT x = true ∧ flatT y = true ∧ scal (toV x) (toV y) = true ∧ P (.bl (decide (toV x = toV y))) Ω
def dNe : Tr → Tr → Om → PT' → Prop := fun x y Ω P => flatT x = true ∧ flatT y = true ∧ scal (toV x) (toV y) = true ∧ P (.bl (!decide (toV x = toV y))) Ω
theorem simr_Eq : SimR K rEq dEq := fun g H Ω x y tx ty P Q o d1 d2 ⟨f1, f2, s, p⟩ q => by
  obtain rfl := vd_flat d1 f1
  obtain rfl := vd_flat d2 f2
  exact ⟨s, q _ Ω _ H p .refl o rfl⟩
theorem simr_Ne : SimR K rNe dNe := fun g H Ω x y tx ty P Q o d1 d2 ⟨f1, f2, s, p⟩ q => by
  obtain rfl := vd_flat d1 f1
  obtain rfl := vd_flat d2 f2
  exact ⟨s, q _ Ω _ H p .refl o rfl⟩
def dUn (d : Tr → Om → PT' → Prop) (da : DE) : DE := fun ρ Ω P PX => da ρ Ω (fun x Ω1 => d x Ω1 P) PX
def dU (f : Int → V) : Tr → Om → PT' → Prop := fun x Ω P => ∃ i, x = .int i ∧ P (ofV (f i)) Ω
theorem sim_un {f : Int → V} {ta : TE} {da : DE} (hf : ∀ i, flatV' (f i) = true) (ha : SimE K G E ta da) : SimE K G E (tUn (rU f) ta) (dUn (dU f) da) := fun g σ H ρ Ω P PX Q hG R h q qx =>
  ha g σ H ρ Ω _ PX _ hG R h (fun x Ω1 v H1 ⟨i, e, p⟩ k1 o1 d1 => by
    subst e
    exact ⟨i, d1, q _ Ω1 _ H1 p k1 o1 (vd_ofV (hf i))⟩) qx
def isNonT : Tr → Bool
  | .non => true
  | _ => false
theorem vd_non {dr : Option (Addr × Addr)} {F : Addr → Prop} {H : Hp} {v : V} {t : Tr} (h : VD K dr F H v t) : decide (v = .non) = isNonT t := by
  cases t with
  | non => rw [show v = _ from h]; rfl
  | bl b => rw [show v = _ from h]; rfl
  | int b => rw [show v = _ from h]; rfl
  | str b => rw [show v = _ from h]; rfl
  | ty b => rw [show v = _ from h]; rfl
  | lst ts => obtain ⟨a, xs, rfl, _⟩ := h; rfl
  | tup ts => obtain ⟨a, xs, rfl, _⟩ := h; rfl
  | dic ks ts => obtain ⟨a, xs, rfl, _⟩ := h; rfl
  | obj a => rw [show v = _ from h]; rfl
  | drw => obtain ⟨d, s, _, rfl⟩ := h; rfl
/-! ### tests -/
def dTest (de : DE) : DT := fun ρ Ω P PX => de ρ Ω (fun x Ω1 => ∃ k, x = .bl k ∧ P k Ω1) PX
theorem sim_test {te : TE} {de : DE} (h : SimE K G E te de) : SimT K G E (tTest te) (dTest de) := fun g σ H ρ Ω P PX Q hG R h1 q qx =>
  h g σ H ρ Ω _ PX _ hG R h1 (fun x Ω1 v H1 ⟨k, e, p⟩ k1 o1 d1 => by
    subst e
    exact ⟨k, d1, q _ Ω1 H1 p k1 o1⟩) qx
theorem sim_tB {te : TE} {de : DE} (h : SimE K G E te de) : SimT K G E (tB te) (dTest de) := sim_test h
def dAnd (da db : DT) : DT := fun ρ Ω P PX => da ρ Ω (fun c Ω1 => if c = true then db ρ Ω1 P PX else P false Ω1) PX
def dOr (da db : DT) : DT := fun ρ Ω P PX => da ρ Ω (fun c Ω1 => if c = true then P true Ω1 else db ρ Ω1 P PX) PX
def dNot (da : DT) : DT := fun ρ Ω P PX => da ρ Ω (fun c Ω1 => P (!c) Ω1) PX
theorem sim_and {ta tb : TT} {da db : DT} (ha : SimT K G E ta da) (hb : SimT K G E tb db) : SimT K G E (tAnd ta tb) (dAnd da db) := fun g σ H ρ Ω P PX Q hG R h q qx =>
  ha g σ H ρ Ω _ PX _ hG R h (fun c Ω1 H1 h1 k1 o1 => by
    by_cases hc : c = true
    · rw [if_pos hc] at h1 ⊢
      exact hb g σ H1 ρ Ω1 P PX Q hG (R.keep k1 o1) h1 (fun b Ω2 H2 p k2 o2 => q b Ω2 H2 p (k1.trans k2) o2) (qx.at k1)
    · rw [if_neg hc] at h1 ⊢
      exact q _ Ω1 H1 h1 k1 o1) qx
theorem sim_or {ta tb : TT} {da db : DT} (ha : SimT K G E ta da) (hb : SimT K G E tb db) : SimT K G E (tOr ta tb) (dOr da db) := fun g σ H ρ Ω P PX Q hG R h q qx =>
  ha g σ H ρ Ω _ PX _ hG R h (fun c Ω1 H1 h1 k1 o1 => by
    by_cases hc : c = true
    · rw [if_pos hc] at h1 ⊢
      exact q _ Ω1 H1 h1 k1 o1
    · rw [if_neg hc] at h1 ⊢
      exact hb g σ H1 ρ Ω1 P PX Q hG (R.keep k1 o1) h1 (fun b Ω2 H2 p k2 o2 => q b Ω2 H2 p (k1.trans k2) o2) (qx.at k1)) qx
theorem sim_not {ta : TT} {da : DT} (ha : SimT K G E ta da) : SimT K G E (tNot ta) (dNot da) := fun g σ H ρ Ω P PX Q hG R h q qx =>
  ha g σ H ρ Ω _ PX _ hG R h (fun c Ω1 H1 h1 k1 o1 => q _ Ω1 H1 h1 k1 o1) qx
def dAndV (da db : DE) : DE := fun ρ Ω P PX => da ρ Ω (fun x Ω1 => ∃ c, x = .bl c ∧ if c = true then db ρ Ω1 P PX else P (.bl false) Ω1) PX
def dOrV (da db : DE) : DE := fun ρ Ω P PX => da ρ Ω (fun x Ω1 => ∃ c, x = .bl c ∧ if c = true then P (.bl true) Ω1 else db ρ Ω1 P PX) PX
def dNotV (da : DE) : DE := fun ρ Ω P PX => da ρ Ω (fun x Ω1 => ∃ c, x = .bl c ∧ P (.bl (!c)) Ω1) PX
theorem sim_andV {ta tb : TE} {da db : DE} (ha : SimE K G E ta da) (hb : SimE K G E tb db) : SimE K G E (tAndV ta tb) (dAndV da db) := fun g σ H ρ Ω P PX Q hG R h q qx =>
  ha g σ H ρ Ω _ PX _ hG R h (fun x Ω1 v H1 ⟨c, e, h1⟩ k1 o1 d1 => by
    subst e
    refine ⟨c, d1, ?_⟩
    by_cases hc : c = true
    · rw [if_pos hc] at h1 ⊢
      exact hb g σ H1 ρ Ω1 P PX Q hG (R.keep k1 o1) h1 (q.at k1) (qx.at k1)
    · rw [if_neg hc] at h1 ⊢
      exact q _ Ω1 _ H1 h1 k1 o1 rfl) qx
theorem sim_orV {ta tb : TE} {da db : DE} (ha : SimE K G E ta da) (hb : SimE K G E tb db) : SimE K G E (tOrV ta tb) (dOrV da db) := fun g σ H ρ Ω P PX Q hG R h q qx =>
  ha g σ H ρ Ω _ PX _ hG R h (fun x Ω1 v H1 ⟨c, e, h1⟩ k1 o1 d1 => by
    subst e
    refine ⟨c, d1, ?_⟩
    by_cases hc : c = true
    · rw [if_pos hc] at h1 ⊢
      exact q _ Ω1 _ H1 h1 k1 o1 rfl
    · rw [if_neg hc] at h1 ⊢
      exact hb g σ H1 ρ Ω1 P PX Q hG (R.keep k1 o1) h1 (q.at k1) (qx.at k1)) qx
theorem sim_notV {ta : TE} {da : DE} (ha : SimE K G E ta da) : SimE K G E (tNotV ta) (dNotV da) := fun g σ H ρ Ω P PX Q hG R h q qx =>
  ha g σ H ρ Ω _ PX _ hG R h (fun x Ω1 v H1 ⟨c, e, h1⟩ k1 o1 d1 => by
    subst e
    exact ⟨c, d1, q _ Ω1 _ H1 h1 k1 o1 rfl⟩) qx
def dIf (dt : DT) (da db : DE) : DE := fun ρ Ω P PX => dt ρ Ω (fun c Ω1 => if c = true then da ρ Ω1 P PX else db ρ Ω1 P PX) PX
theorem sim_if {tt : TT} {ta tb : TE} {dt : DT} {da db : DE} (ht : SimT K G E tt dt) (ha : SimE K G E ta da) (hb : SimE K G E tb db) : SimE K G E (tIf tt ta tb) (dIf dt da db) := fun g σ H ρ Ω P PX Q hG R h q qx =>
  ht g σ H ρ Ω _ PX _ hG R h (fun c Ω1 H1 h1 k1 o1 => by
    by_cases hc : c = true
    · rw [if_pos hc] at h1 ⊢
      exact ha g σ H1 ρ Ω1 P PX Q hG (R.keep k1 o1) h1 (q.at k1) (qx.at k1)
    · rw [if_neg hc] at h1 ⊢
      exact hb g σ H1 ρ Ω1 P PX Q hG (R.keep k1 o1) h1 (q.at k1) (qx.at k1)) qx
def dChain (d d' : Tr → Tr → Om → PT' → Prop) (da db dc : DE) : DE := fun ρ Ω P PX => da ρ Ω (fun x Ω1 => db ρ Ω1 (fun y Ω2 => d x y Ω2 fun z Ω3 => ∃ k, z = .bl k ∧ if k = true then dc ρ Ω3 (fun w Ω4 => d' y w Ω4 P) PX else P (.bl false) Ω3) PX) PX
/-! ### argument lists, displays -/
def dNil : DA := fun _ Ω P _ => P [] Ω
def dCons (de : DE) (da : DA) : DA := fun ρ Ω P PX => de ρ Ω (fun x Ω1 => da ρ Ω1 (fun xs Ω2 => P (x :: xs) Ω2) PX) PX
theorem sim_nil : SimA K G E tNil dNil := fun g σ H ρ Ω P PX Q _ R p q _ => q [] Ω [] H p .refl R.om rfl
theorem sim_cons {te : TE} {ta : TA} {de : DE} {da : DA} (he : SimE K G E te de) (ha : SimA K G E ta da) : SimA K G E (tCons te ta) (dCons de da) := fun g σ H ρ Ω P PX Q hG R h q qx =>
  he g σ H ρ Ω _ PX _ hG R h (fun x Ω1 v H1 h1 k1 o1 d1 => ha g σ H1 ρ Ω1 _ PX _ hG (R.keep k1 o1) h1 (fun ts Ω2 vs H2 p k2 o2 d2 => q _ Ω2 _ H2 p (k1.trans k2) o2 (.cons (d1.keep k2) d2)) (qx.at k1)) qx
theorem size_ok {n : Nat} (h : n ≤ 1000000) : n ≤ sizeLine := Nat.le_trans h (by decide)
theorem size_lt {n : Nat} (h : n ≤ 1000000) : n < sizeLine := Nat.lt_of_le_of_lt h (by decide)
def dTup (da : DA) : DE := fun ρ Ω P PX => da ρ Ω (fun ts Ω1 => ts.length ≤ 1000000 ∧ P (.tup ts) Ω1) PX
/-- a new tuple -/
theorem new_tup {g : Gh} {H : Hp} {Ω : Om} {vs : List V} {ts : List Tr} {P : PT'} {Q : VK} {p : Addr} (o : OmOk K g H Ω) (d : VDL K g.dr (NM g Ω) H vs ts) (hz : ts.length ≤ 1000000) (h : P (.tup ts) Ω) (q : After K g H Ω P Q) (n : H p = none) : Q (.ref p) (upd H p (.tup vs)) :=
  have np : ¬ g.pr p := fun z => by obtain ⟨u, e⟩ := o.pt p z; rw [n] at e; cases e
  q _ Ω _ _ h (.new n) (o.new n) ⟨p, vs, rfl, .inl ⟨NM.new o n np, upd_same⟩, d.keep (.new n), hz⟩
theorem sim_tup {ta : TA} {da : DA} (ha : SimA K G E ta da) : SimE K G E (tTup ta) (dTup da) := fun g σ H ρ Ω P PX Q hG R h q qx =>
  ha g σ H ρ Ω _ PX _ hG R h (fun ts Ω1 vs H1 ⟨hz, p⟩ k1 o1 d1 => ⟨by rw [d1.len]; exact size_ok hz, fun a n => new_tup o1 d1 hz p (q.at k1) n⟩) qx
/-- a new list: data, or a cell -/
def lstNew (ts : List Tr) (Ω : Om) (P : PT') : Prop := P (.lst ts) Ω ∨ ∀ a, Ω a = none → P (.obj a) (put Ω a (.lst ts))
theorem new_lst {g : Gh} {H : Hp} {Ω : Om} {vs : List V} {ts : List Tr} {P : PT'} {Q : VK} {p : Addr} (o : OmOk K g H Ω) (d : VDL K g.dr (NM g Ω) H vs ts) (hz : ts.length ≤ 1000000) (h : lstNew ts Ω P) (q : After K g H Ω P Q) (n : H p = none) : Q (.ref p) (upd H p (.lst vs)) := by
  have np : ¬ g.pr p := fun z => by obtain ⟨u, e⟩ := o.pt p z; rw [n] at e; cases e
  rcases h with h | h
  · exact q _ Ω _ _ h (.new n) (o.new n) ⟨p, vs, rfl, NM.new o n np, upd_same, d.keep (.new n), hz⟩
  · exact q _ _ _ _ (h p (o.fresh n)) (.cell n) (o.cell n np ⟨vs, upd_same, d.keep (.cell n), hz⟩) rfl
def dLst (da : DA) : DE := fun ρ Ω P PX => da ρ Ω (fun ts Ω1 => ts.length ≤ 1000000 ∧ lstNew ts Ω1 P) PX
theorem sim_lst {ta : TA} {da : DA} (ha : SimA K G E ta da) : SimE K G E (tLst ta) (dLst da) := fun g σ H ρ Ω P PX Q hG R h q qx =>
  ha g σ H ρ Ω _ PX _ hG R h (fun ts Ω1 vs H1 ⟨hz, p⟩ k1 o1 d1 => ⟨by rw [d1.len]; exact size_ok hz, fun a n => new_lst o1 d1 hz p (q.at k1) n⟩) qx
/-! ### calls -/
abbrev Pw := List Tr → Om → PT' → PXt → Prop
def spD (K : PySem.W.Frag) (P : Pw) (n : Nat) : Sp := fun vs H Q E => ∃ (g : Gh) (Ω : Om) (ts : List Tr) (PQ : PT') (PX : PXt), ts.length = n ∧ VDL K g.dr (NM g Ω) H vs ts ∧ OmOk K g H Ω ∧ P ts Ω PQ PX ∧ After K g H Ω PQ Q ∧ AfterX K g H Ω PX E
def dCall (P : Pw) (n : Nat) (da : DA) : DE := fun ρ Ω Q PX => da ρ Ω (fun ts Ω1 => ts.length = n ∧ P ts Ω1 Q PX) PX
def dCall0 (P : Pw) (n : Nat) (da : DA) : DE := fun ρ Ω Q PX => da ρ Ω (fun ts Ω1 => ts.length = n ∧ P ts Ω1 Q nox) PX
theorem sim_call {P : Pw} {n : Nat} {E1 : XK} {ta : TA} {da : DA} (ha : SimA K G (fun _ => E1) ta da) : SimE K G (fun _ => E1) (tCall (spD K P n) [] E1 ta) (dCall P n da) := fun g σ H ρ Ω Q PX QQ hG R h q qx =>
  ha g σ H ρ Ω _ PX _ hG R h (fun ts Ω1 vs H1 ⟨hl, p⟩ k1 o1 d1 => by rw [List.append_nil]; exact ⟨g, Ω1, ts, Q, PX, hl, d1, o1, p, q.at k1, qx.at k1⟩) qx
theorem sim_call0 {P : Pw} {n : Nat} {ta : TA} {da : DA} (ha : SimA K G E ta da) : SimE K G E (tCall (spD K P n) [] E0 ta) (dCall0 P n da) := fun g σ H ρ Ω Q PX QQ hG R h q qx =>
  ha g σ H ρ Ω _ PX _ hG R h (fun ts Ω1 vs H1 ⟨hl, p⟩ k1 o1 d1 => by rw [List.append_nil]; exact ⟨g, Ω1, ts, Q, nox, hl, d1, o1, p, q.at k1, AfterX.nox⟩) qx
theorem sim_callS {P : Pw} {n : Nat} {ta : TA} {da : DA} (ha : SimA K G E ta da) : SimE K G E (tCallS (spD K P n) E ta) (dCall P n da) := fun g σ H ρ Ω Q PX QQ hG R h q qx =>
  ha g σ H ρ Ω _ PX _ hG R h (fun ts Ω1 vs H1 ⟨hl, p⟩ k1 o1 d1 => ⟨g, Ω1, ts, Q, PX, hl, d1, o1, p, q.at k1, qx.at k1⟩) qx
/-- a built-in's rule -/
def SimC (K : PySem.W.Frag) (r : List V → Hp → VK → Prop) (d : List Tr → Om → PT' → Prop) : Prop := ∀ g H Ω vs ts P Q, OmOk K g H Ω → VDL K g.dr (NM g Ω) H vs ts → d ts Ω P → After K g H Ω P Q → r vs H Q
def dCB (d : List Tr → Om → PT' → Prop) (da : DA) : DE := fun ρ Ω P PX => da ρ Ω (fun ts Ω1 => d ts Ω1 P) PX
theorem sim_CB {r : List V → Hp → VK → Prop} {d : List Tr → Om → PT' → Prop} {ta : TA} {da : DA} (hr : SimC K r d) (ha : SimA K G E ta da) : SimE K G E (tCB r ta) (dCB d da) := fun g σ H ρ Ω P PX Q hG R h q qx =>
  ha g σ H ρ Ω _ PX _ hG R h (fun ts Ω1 vs H1 p k1 o1 d1 => hr g H1 Ω1 vs ts P Q o1 d1 p (q.at k1)) qx
/-! ### statements -/
def dNext : DS := fun D ρ Ω => D.nx ρ Ω
theorem sim_next : SimS K G E tNext dNext := fun g σ H ρ Ω D DD _ R h e => e.nx ρ Ω σ H h .refl R
def dSeq (a b : DS) : DS := fun D ρ Ω => a { D with nx := b D } ρ Ω
theorem sim_seq {a b : TS} {da db : DS} (ha : SimS K G E a da) (hb : SimS K G E b db) : SimS K G E (tSeq a b) (dSeq da db) := fun g σ H ρ Ω D DD hG R h e =>
  ha g σ H ρ Ω _ _ hG R h ⟨fun ρ' Ω' σ' H' p k r => hb g σ' H' ρ' Ω' D DD hG r p (e.at k), e.rt, e.bk, e.ct, e.ex⟩
def dRet (de : DE) : DS := fun D ρ Ω => de ρ Ω D.rt (fun x Ω' => D.ex ρ x Ω')
theorem sim_ret {te : TE} {de : DE} (h : SimE K G E te de) : SimS K G E (tRet te) (dRet de) := fun g σ H ρ Ω D DD hG R p e => h g σ H ρ Ω _ _ _ hG R p e.rt (e.exx R)
def dRetN : DS := fun D _ Ω => D.rt .non Ω
theorem sim_retN : SimS K G E tRetN dRetN := fun g σ H ρ Ω D DD _ R h e => e.rt _ Ω _ H h .refl R.om rfl
def dDrop (de : DE) : DS := fun D ρ Ω => de ρ Ω (fun _ Ω' => D.nx ρ Ω') (fun x Ω' => D.ex ρ x Ω')
theorem sim_drop {te : TE} {de : DE} (h : SimE K G E te de) : SimS K G E (tDrop te) (dDrop de) := fun g σ H ρ Ω D DD hG R p e => h g σ H ρ Ω _ _ _ hG R p (fun t Ω' v H' p k o d => e.nx ρ Ω' σ H' p k (R.keep k o)) (e.exx R)
def dBreak : DS := fun D ρ Ω => D.bk ρ Ω
def dCont : DS := fun D ρ Ω => D.ct ρ Ω
theorem sim_break : SimS K G E tBreak dBreak := fun g σ H ρ Ω D DD _ R h e => e.bk ρ Ω σ H h .refl R
theorem sim_cont : SimS K G E tCont dCont := fun g σ H ρ Ω D DD _ R h e => e.ct ρ Ω σ H h .refl R
def dIfS (dt : DT) (a b : DS) : DS := fun D ρ Ω => dt ρ Ω (fun c Ω1 => if c = true then a D ρ Ω1 else b D ρ Ω1) (fun x Ω' => D.ex ρ x Ω')
theorem sim_ifS {tt : TT} {a b : TS} {dt : DT} {da db : DS} (ht : SimT K G E tt dt) (ha : SimS K G E a da) (hb : SimS K G E b db) : SimS K G E (tIfS tt a b) (dIfS dt da db) := fun g σ H ρ Ω D DD hG R h e =>
  ht g σ H ρ Ω _ _ _ hG R h (fun c Ω1 H1 h1 k1 o1 => by
    by_cases hc : c = true
    · rw [if_pos hc] at h1 ⊢
      exact ha g σ H1 ρ Ω1 D DD hG (R.keep k1 o1) h1 (e.at k1)
    · rw [if_neg hc] at h1 ⊢
      exact hb g σ H1 ρ Ω1 D DD hG (R.keep k1 o1) h1 (e.at k1)) (e.exx R)
/-! ### targets -/
def dName (i : Nat) : DG := fun t ρ Ω P _ => P (ρ.set i (some t)) Ω
theorem sim_gName {i : Nat} : SimG K G E (gName i) (dName i) := fun g σ H ρ Ω v t P PX Q _ R d p q _ => q _ Ω _ H p .refl (R.set d)
def dgNil : DGs := fun ts ρ Ω P _ => ts = [] ∧ P ρ Ω
def dgCons (d : DG) (u : DGs) : DGs := fun ts ρ Ω P PX => ∃ t r, ts = t :: r ∧ d t ρ Ω (fun ρ' Ω' => u r ρ' Ω' P PX) PX
theorem sim_gNil : SimGs K G gNil dgNil := fun g σ H ρ Ω v t P Q _ R d ⟨e, p⟩ q => by
  subst e
  exact ⟨d, q ρ Ω σ H p .refl R⟩
theorem sim_gCons {t : TG} {u : TGs} {d : DG} {e : DGs} (ht : SimG K G (fun _ _ _ _ => False) t d) (hu : SimGs K G u e) : SimGs K G (gCons t u) (dgCons d e) := fun g σ H ρ Ω v ts P Q hG R dd ⟨x, r, e1, p⟩ q => by
  subst e1
  obtain ⟨v, vs, rfl, d1, d2⟩ := dd
  refine ⟨v, vs, rfl, ht g σ H ρ Ω v x _ _ _ hG R d1 p (fun ρ' Ω' σ' H' p' k r => hu g σ' H' ρ' Ω' vs _ P Q hG r (d2.keep k) p' fun ρ2 Ω2 σ2 H2 p2 k2 r2 => q ρ2 Ω2 σ2 H2 p2 (k.trans k2) r2) fun _ _ _ ⟨_, _, z, _⟩ => z.elim⟩
def dTupG (n : Nat) (d : DGs) : DG := fun t ρ Ω P _ => ∃ ts, t = .tup ts ∧ ts.length = n ∧ d ts ρ Ω P nox
theorem sqt {dr : Option (Addr × Addr)} {F : Addr → Prop} {H : Hp} {v : V} {ts : List Tr} (h : VD K dr F H v (.tup ts)) : ∃ a xs, v = .ref a ∧ SqT K H a xs ∧ VDL K dr F H xs ts ∧ ts.length ≤ 1000000 := by
  obtain ⟨a, xs, e, h, d, z⟩ := h
  exact ⟨a, xs, e, h.elim (fun h => SqT.of h.2) fun h => h.1 H, d, z⟩
theorem sql {dr : Option (Addr × Addr)} {F : Addr → Prop} {H : Hp} {v : V} {ts : List Tr} (h : VD K dr F H v (.lst ts)) : ∃ a xs, v = .ref a ∧ SqL K H a xs ∧ VDL K dr F H xs ts ∧ ts.length ≤ 1000000 := by
  obtain ⟨a, xs, e, f, h, d, z⟩ := h
  exact ⟨a, xs, e, SqL.of h, d, z⟩
theorem sim_gTup {n : Nat} {t : TGs} {d : DGs} (h : SimGs K G t d) : SimG K G E (gTup K n t) (dTupG n d) := fun g σ H ρ Ω v t' P PX Q hG R dd ⟨ts, e1, hl, p⟩ q _ => by
  subst e1
  obtain ⟨a, xs, rfl, hs, dl, hz⟩ := sqt dd
  exact ⟨a, xs, rfl, hs, by rw [dl.len]; exact hl, h g σ H ρ Ω xs ts P Q hG R dl p q⟩
def dAsg (de : DE) (dg : DG) : DS := fun D ρ Ω => de ρ Ω (fun x Ω1 => dg x ρ Ω1 D.nx (fun y Ω' => D.ex ρ y Ω')) (fun y Ω' => D.ex ρ y Ω')
theorem sim_asg {te : TE} {tg : TG} {de : DE} {dg : DG} (he : SimE K G E te de) (hg : SimG K G E tg dg) : SimS K G E (tAsg te tg) (dAsg de dg) := fun g σ H ρ Ω D DD hG R h e =>
  he g σ H ρ Ω _ _ _ hG R h (fun x Ω1 v H1 h1 k1 o1 d1 => hg g σ H1 ρ Ω1 v x _ _ _ hG (R.keep k1 o1) d1 h1 (fun ρ' Ω' σ' H' p k r => e.nx ρ' Ω' σ' H' p (k1.trans k) r) fun c d H' ⟨y, Ω', p, k, o, r⟩ => e.ex y ρ Ω' σ c d H' p (k1.trans k) (R.keep (k1.trans k) o) r) (e.exx R)
/-! ### loops -/
def ItOk (K : PySem.W.Frag) (g : Gh) (J : It) (items : List Tr) (H1 : Hp) (Ω1 : Om) (stay : Om → Prop) : Prop :=
  ∀ (g' : Gh), (g' = g ∨ ∃ D, H1 D = none ∧ g' = g.with D) → ∀ (i : Nat) H' Ω', Keep g H1 Ω1 H' Ω' → OmOk K g' H' Ω' → stay Ω' →
    (i = items.length → J.stop i H') ∧ (i < items.length → J.go i H' ∧ ∀ x H'', J.yld i H' x H'' → Keep g H' Ω' H'' Ω' ∧ OmOk K g' H'' Ω' ∧ ∃ t, items[i]? = some t ∧ VD K g'.dr (NM g' Ω') H'' x t)
def SimI (K : PySem.W.Frag) (G : List (Value × Option Addr × XV) → Prop) (E : EK) (wi : TI) (di : DI) : Prop := ∀ g σ H ρ Ω P PX R, G g.ex → Rel K g σ H ρ Ω → di ρ Ω P PX → (∀ items stay Ω' J H', P items stay Ω' → Keep g H Ω H' Ω' → OmOk K g H' Ω' → ItOk K g J items H' Ω' stay → R J H') → AfterX K g H Ω PX (E σ) → wi σ H R
def dFor (di : DI) (dg : DG) (db : DS) : DS := fun D ρ Ω => di ρ Ω (fun items stay Ω1 => ∃ W : Nat → En → Om → Prop, W 0 ρ Ω1 ∧ (∀ i ρ' Ω', W i ρ' Ω' → stay Ω') ∧
  (∀ i t ρ' Ω', items[i]? = some t → W i ρ' Ω' → dg t ρ' Ω' (fun ρ2 Ω2 => db { D with nx := W (i + 1), ct := W (i + 1), bk := D.nx } ρ2 Ω2) nox) ∧ ∀ ρ' Ω', W items.length ρ' Ω' → D.nx ρ' Ω') (fun y Ω' => D.ex ρ y Ω')
theorem sim_for {wi : TI} {tg : TG} {tb : TS} {di : DI} {dg : DG} {db : DS} (hi : SimI K G E wi di) (hg : SimG K G E tg dg) (hb : SimS K G E tb db) : SimS K G E (tFor wi tg tb) (dFor di dg db) := fun g σ H ρ Ω D DD hG R h e => by
  refine hi g σ H ρ Ω _ _ _ hG R h (fun items stay Ω1 J H1 h1 k1 o1 it => ?_) (e.exx R)
  obtain ⟨W, w0, wst, step, fin⟩ := h1
  refine ⟨fun i m σ' H' => m + i = items.length ∧ ∃ ρ' Ω', Keep g H1 Ω1 H' Ω' ∧ Rel K g σ' H' ρ' Ω' ∧ W i ρ' Ω', ⟨items.length, by omega, ρ, Ω1, .refl, R.keep k1 o1, w0⟩, ?_⟩
  rintro i m σ' H' ⟨hm, ρ', Ω', k2, R2, w⟩
  obtain ⟨s1, s2⟩ := it g (.inl rfl) i H' Ω' k2 R2.om (wst _ _ _ w)
  rcases Nat.lt_or_ge i items.length with hlt | hge
  · obtain ⟨go, yl⟩ := s2 hlt
    refine .inr ⟨go, fun σ2 H2 => m - 1 + (i + 1) = items.length ∧ ∃ ρ2 Ω2, Keep g H1 Ω1 H2 Ω2 ∧ Rel K g σ2 H2 ρ2 Ω2 ∧ W (i + 1) ρ2 Ω2, fun σ2 H2 z => ⟨m - 1, by omega, z⟩, fun x H'' y => ?_⟩
    obtain ⟨k3, o3, t, et, dt⟩ := yl x H'' y
    have R3 := R2.keep k3 o3
    refine hg g σ' H'' ρ' Ω' x t _ _ _ hG R3 dt (step i t ρ' Ω' et w) (fun ρ2 Ω2 σ2 H2 p k4 R4 => ?_) fun _ _ _ ⟨_, _, z, _⟩ => z.elim
    have k5 := (k2.trans k3).trans k4
    refine hb g σ2 H2 ρ2 Ω2 _ _ hG R4 p ⟨fun ρ3 Ω3 σ3 H3 p3 k r => ⟨by omega, ρ3, Ω3, k5.trans k, r, p3⟩, (e.rt.at k1).at k5, fun ρ3 Ω3 σ3 H3 p3 k r => e.nx ρ3 Ω3 σ3 H3 p3 ((k1.trans k5).trans k) r, fun ρ3 Ω3 σ3 H3 p3 k r => ⟨by omega, ρ3, Ω3, k5.trans k, r, p3⟩, fun x ρ3 Ω3 σ3 c d H3 p3 k r z => e.ex x ρ3 Ω3 σ3 c d H3 p3 ((k1.trans k5).trans k) r z⟩
  · have hi : i = items.length := by omega
    exact .inl ⟨s1 hi, e.nx ρ' Ω' σ' H' (fin ρ' Ω' (hi ▸ w)) (k1.trans k2) R2⟩
def dWhile (dt : DT) (db : DS) : DS := fun D ρ Ω => ∃ W : Nat → En → Om → Prop, (∃ m, W m ρ Ω) ∧ ∀ m ρ' Ω', W m ρ' Ω' → dt ρ' Ω' (fun b Ω1 => if b = true then db { D with nx := fun ρ2 Ω2 => ∃ m', m' < m ∧ W m' ρ2 Ω2, ct := fun ρ2 Ω2 => ∃ m', m' < m ∧ W m' ρ2 Ω2, bk := D.nx } ρ' Ω1 else D.nx ρ' Ω1) (fun x Ω1 => D.ex ρ' x Ω1)
theorem sim_while {tt : TT} {tb : TS} {dt : DT} {db : DS} (ht : SimT K G E tt dt) (hb : SimS K G E tb db) : SimS K G E (tWhile tt tb) (dWhile dt db) := fun g σ H ρ Ω D DD hG R ⟨W, ⟨m0, w0⟩, step⟩ e => by
  refine ⟨fun m σ' H' => ∃ ρ' Ω', Keep g H Ω H' Ω' ∧ Rel K g σ' H' ρ' Ω' ∧ W m ρ' Ω', ⟨m0, ρ, Ω, .refl, R, w0⟩, ?_⟩
  rintro m σ' H' ⟨ρ', Ω', k, R', w⟩
  refine ht g σ' H' ρ' Ω' _ _ _ hG R' (step m ρ' Ω' w) (fun b Ω1 H1 h1 k1 o1 => ?_) (fun x Ω1 c d H1 p k1 o1 r => e.ex x ρ' Ω1 σ' c d H1 p (k.trans k1) (R'.keep k1 o1) r)
  by_cases hbb : b = true
  · rw [if_pos hbb] at h1 ⊢
    have kk := k.trans k1
    refine ⟨fun σ2 H2 => ∃ m', m' < m ∧ ∃ ρ2 Ω2, Keep g H Ω H2 Ω2 ∧ Rel K g σ2 H2 ρ2 Ω2 ∧ W m' ρ2 Ω2, fun σ2 H2 z => z, ?_⟩
    exact hb g σ' H1 ρ' Ω1 _ _ hG (R'.keep k1 o1) h1 ⟨fun ρ3 Ω3 σ3 H3 ⟨m', hm, p3⟩ k3 r => ⟨m', hm, ρ3, Ω3, kk.trans k3, r, p3⟩, e.rt.at kk, fun ρ3 Ω3 σ3 H3 p3 k3 r => e.nx ρ3 Ω3 σ3 H3 p3 (kk.trans k3) r, fun ρ3 Ω3 σ3 H3 ⟨m', hm, p3⟩ k3 r => ⟨m', hm, ρ3, Ω3, kk.trans k3, r, p3⟩, fun x ρ3 Ω3 σ3 c d H3 p3 k3 r z => e.ex x ρ3 Ω3 σ3 c d H3 p3 (kk.trans k3) r z⟩
  · rw [if_neg hbb] at h1 ⊢
    exact e.nx ρ' Ω1 σ' H1 h1 (k.trans k1) (R'.keep k1 o1)
end
end LT

namespace LT
open PySem PySem.Spec PyProof.Rows L2 LL
section
variable {K : PySem.W.Frag} {G : List (Value × Option Addr × XV) → Prop} {E : EK}
/-! ### what is walked -/
def cellL : Option Cell → Option (List Tr)
  | some (.lst ts) => some ts
  | _ => none
/-- the items of a list, data or cell -/
def asL : Tr → Om → Option (List Tr)
  | .lst ts, _ => some ts
  | .obj a, Ω => cellL (Ω a)
  | _, _ => none
def asT : Tr → Option (List Tr)
  | .tup ts => some ts
  | _ => none
def asS : Tr → Om → Option (List Tr)
  | .tup ts, _ => some ts
  | .lst ts, _ => some ts
  | .obj a, Ω => cellL (Ω a)
  | _, _ => none
theorem asL_lst {ts : List Tr} {Ω : Om} : asL (.lst ts) Ω = some ts := rfl
theorem asL_obj {a : Addr} {ts : List Tr} {Ω : Om} (h : Ω a = some (.lst ts)) : asL (.obj a) Ω = some ts := by show cellL (Ω a) = _; rw [h]; rfl
theorem asS_lst {ts : List Tr} {Ω : Om} : asS (.lst ts) Ω = some ts := rfl
theorem asS_tup {ts : List Tr} {Ω : Om} : asS (.tup ts) Ω = some ts := rfl
theorem asT_tup {ts : List Tr} : asT (.tup ts) = some ts := rfl
theorem asS_obj {a : Addr} {ts : List Tr} {Ω : Om} (h : Ω a = some (.lst ts)) : asS (.obj a) Ω = some ts := by show cellL (Ω a) = _; rw [h]; rfl
theorem at_L {g : Gh} {H : Hp} {Ω : Om} {v : V} {t : Tr} {ts : List Tr} (o : OmOk K g H Ω) (d : VD K g.dr (NM g Ω) H v t) (h : asL t Ω = some ts) : ∃ a xs, v = .ref a ∧ SqL K H a xs ∧ H a = some (.lst xs) ∧ VDL K g.dr (NM g Ω) H xs ts ∧ ts.length ≤ 1000000 := by
  cases t with
  | lst us =>
    cases h
    obtain ⟨a, xs, e, f, h, d, z⟩ := d
    exact ⟨a, xs, e, SqL.of h, h, d, z⟩
  | obj a =>
    cases e : Ω a with
    | none =>
      replace h : cellL (Ω a) = some ts := h
      rw [e] at h
      cases h
    | some c =>
      cases c with
      | lst us =>
        rw [asL_obj e] at h
        cases h
        obtain ⟨xs, h1, h2, z⟩ := (o.ce a _ e).2
        exact ⟨a, xs, d, SqL.of h1, h1, h2, z⟩
      | _ =>
        replace h : cellL (Ω a) = some ts := h
        rw [e] at h
        cases h
  | _ => cases h
theorem at_T {g : Gh} {H : Hp} {Ω : Om} {v : V} {t : Tr} {ts : List Tr} (d : VD K g.dr (NM g Ω) H v t) (h : asT t = some ts) : ∃ a xs, v = .ref a ∧ SqT K H a xs ∧ VDL K g.dr (NM g Ω) H xs ts ∧ ts.length ≤ 1000000 := by
  cases t with
  | tup us =>
    cases h
    obtain ⟨a, xs, e, s, d, z⟩ := sqt d
    exact ⟨a, xs, e, s, d, z⟩
  | _ => cases h
theorem at_S {g : Gh} {H : Hp} {Ω : Om} {v : V} {t : Tr} {ts : List Tr} (o : OmOk K g H Ω) (d : VD K g.dr (NM g Ω) H v t) (h : asS t Ω = some ts) : ∃ a xs, v = .ref a ∧ (SqL K H a xs ∨ SqT K H a xs) ∧ VDL K g.dr (NM g Ω) H xs ts ∧ ts.length ≤ 1000000 := by
  cases t with
  | tup us =>
    obtain ⟨a, xs, e, s, d, z⟩ := at_T (ts := ts) d h
    exact ⟨a, xs, e, .inr s, d, z⟩
  | lst us =>
    obtain ⟨a, xs, e, s, _, d, z⟩ := at_L (ts := ts) o d h
    exact ⟨a, xs, e, .inl s, d, z⟩
  | obj us =>
    obtain ⟨a, xs, e, s, _, d, z⟩ := at_L (ts := ts) o d h
    exact ⟨a, xs, e, .inl s, d, z⟩
  | _ => cases h
/-- what must stay so while it is walked -/
def stay : Tr → List Tr → Om → Prop
  | .obj a, ts => fun Ω => Ω a = some (.lst ts)
  | _, _ => fun _ => True
theorem vd_at {g g' : Gh} {H1 H' : Hp} {Ω1 Ω' : Om} {v : V} {t : Tr} (hg : g' = g ∨ ∃ D, H1 D = none ∧ g' = g.with D) (k : Keep g H1 Ω1 H' Ω') (d : VD K g.dr (NM g Ω1) H1 v t) : VD K g'.dr (NM g' Ω') H' v t := by
  rcases hg with rfl | ⟨D, n, rfl⟩
  · exact d.keep k
  · exact (d.more n).keep (g := g.with D) k
theorem vdl_at {g g' : Gh} {H1 H' : Hp} {Ω1 Ω' : Om} {v : List V} {t : List Tr} (hg : g' = g ∨ ∃ D, H1 D = none ∧ g' = g.with D) (k : Keep g H1 Ω1 H' Ω') (d : VDL K g.dr (NM g Ω1) H1 v t) : VDL K g'.dr (NM g' Ω') H' v t := by
  rcases hg with rfl | ⟨D, n, rfl⟩
  · exact d.keep k
  · exact (d.more n).keep (g := g.with D) k
/-- a list that stays, at every turn -/
theorem stays_L {g g' : Gh} {H1 H' : Hp} {Ω1 Ω' : Om} {t : Tr} {ts : List Tr} {a : Addr} (hg : g' = g ∨ ∃ D, H1 D = none ∧ g' = g.with D) (k : Keep g H1 Ω1 H' Ω') (o' : OmOk K g' H' Ω') (st : stay t ts Ω') (h : asL t Ω1 = some ts) (d : VD K g.dr (NM g Ω1) H1 (.ref a) t) : ∃ ys, SqL K H' a ys ∧ VDL K g'.dr (NM g' Ω') H' ys ts := by
  cases t with
  | lst us =>
    cases h
    obtain ⟨b, ys, e, f, h, d, z⟩ := vd_at hg k d
    cases e
    exact ⟨ys, SqL.of h, d⟩
  | obj b =>
    cases d
    obtain ⟨ys, h1, h2, _⟩ := (o'.ce a _ st).2
    exact ⟨ys, SqL.of h1, h2⟩
  | _ => cases h
theorem itl_ok {g : Gh} {H1 : Hp} {Ω1 : Om} {t : Tr} {ts : List Tr} {a : Addr} (h : asL t Ω1 = some ts) (d : VD K g.dr (NM g Ω1) H1 (.ref a) t) : ItOk K g (Itl K a) ts H1 Ω1 (stay t ts) := fun g' hg i H' Ω' k o' st => by
  obtain ⟨ys, s, dl⟩ := stays_L hg k o' st h d
  refine ⟨fun e => ⟨ys, s, by rw [dl.len]; omega⟩, fun hi => ⟨⟨ys, ys[i]'(by rw [dl.len]; exact hi), s, List.getElem?_eq_getElem _⟩, ?_⟩⟩
  rintro x H'' ⟨rfl, hx⟩
  obtain ⟨t, et, dt⟩ := dl.get _ (hx ys s)
  exact ⟨.refl, o', t, et, dt⟩
theorem itt_ok {g : Gh} {H1 : Hp} {Ω1 : Om} {t : Tr} {ts : List Tr} {a : Addr} (h : asT t = some ts) (d : VD K g.dr (NM g Ω1) H1 (.ref a) t) : ItOk K g (Itt K a) ts H1 Ω1 (fun _ => True) := fun g' hg i H' Ω' k o' _ => by
  obtain ⟨b, ys, e, s, dl, _⟩ := at_T (vd_at hg k d) h
  cases e
  refine ⟨fun e => ⟨ys, s, by rw [dl.len]; omega⟩, fun hi => ⟨⟨ys, ys[i]'(by rw [dl.len]; exact hi), s, List.getElem?_eq_getElem _⟩, ?_⟩⟩
  rintro x H'' ⟨rfl, hx⟩
  obtain ⟨t, et, dt⟩ := dl.get _ (hx ys s)
  exact ⟨.refl, o', t, et, dt⟩
def diL (de : DE) : DI := fun ρ Ω P PX => de ρ Ω (fun t Ω1 => ∃ ts, asL t Ω1 = some ts ∧ (ts.length ≤ 1000000 → P ts (stay t ts) Ω1)) PX
theorem sim_iL {te : TE} {de : DE} (h : SimE K G E te de) : SimI K G E (iList K te) (diL de) := fun g σ H ρ Ω P PX R hG r p q qx =>
  h g σ H ρ Ω _ PX _ hG r p (fun t Ω1 v H1 ⟨ts, e, p1⟩ k1 o1 d1 => by
    obtain ⟨a, xs, rfl, s, _, dl, z⟩ := at_L o1 d1 e
    exact ⟨a, rfl, ⟨xs, s⟩, q ts _ Ω1 _ H1 (p1 z) k1 o1 (itl_ok e d1)⟩) qx
def diT (de : DE) : DI := fun ρ Ω P PX => de ρ Ω (fun t Ω1 => ∃ ts, asT t = some ts ∧ (ts.length ≤ 1000000 → P ts (fun _ => True) Ω1)) PX
theorem sim_iT {te : TE} {de : DE} (h : SimE K G E te de) : SimI K G E (iTup K te) (diT de) := fun g σ H ρ Ω P PX R hG r p q qx =>
  h g σ H ρ Ω _ PX _ hG r p (fun t Ω1 v H1 ⟨ts, e, p1⟩ k1 o1 d1 => by
    obtain ⟨a, xs, rfl, s, dl, z⟩ := at_T d1 e
    exact ⟨a, rfl, ⟨xs, s⟩, q ts _ Ω1 _ H1 (p1 z) k1 o1 (itt_ok e d1)⟩) qx
def diS (de : DE) : DI := fun ρ Ω P PX => de ρ Ω (fun t Ω1 => ∃ ts, asS t Ω1 = some ts ∧ (ts.length ≤ 1000000 → P ts (stay t ts) Ω1)) PX
theorem sim_iS {te : TE} {de : DE} (h : SimE K G E te de) : SimI K G E (iSeq K te) (diS de) := fun g σ H ρ Ω P PX R hG r p q qx =>
  h g σ H ρ Ω _ PX _ hG r p (fun t Ω1 v H1 ⟨ts, e, p1⟩ k1 o1 d1 => by
    cases t with
    | tup us =>
      obtain ⟨a, xs, rfl, s, dl, z⟩ := at_T (ts := ts) d1 e
      exact ⟨a, rfl, .inr ⟨⟨xs, s⟩, q ts _ Ω1 _ H1 (p1 z) k1 o1 (itt_ok (t := .tup us) e d1)⟩⟩
    | lst us =>
      obtain ⟨a, xs, rfl, s, _, dl, z⟩ := at_L (ts := ts) o1 d1 e
      exact ⟨a, rfl, .inl ⟨⟨xs, s⟩, q ts _ Ω1 _ H1 (p1 z) k1 o1 (itl_ok (t := .lst us) e d1)⟩⟩
    | obj b =>
      obtain ⟨a, xs, rfl, s, _, dl, z⟩ := at_L (ts := ts) o1 d1 e
      exact ⟨a, rfl, .inl ⟨⟨xs, s⟩, q ts _ Ω1 _ H1 (p1 z) k1 o1 (itl_ok (t := .obj b) e d1)⟩⟩
    | _ => cases e) qx
/-- the numbers of a range -/
def rngT (lo : Int) (n : Nat) : List Tr := (List.range n).map fun (i : Nat) => Tr.int (lo + i)
theorem rngT_len {lo : Int} {n : Nat} : (rngT lo n).length = n := by unfold rngT; rw [List.length_map, List.length_range]
theorem rngT_get {lo : Int} {n i : Nat} (h : i < n) : (rngT lo n)[i]? = some (.int (lo + i)) := by
  unfold rngT
  rw [List.getElem?_map, List.getElem?_range h]
  rfl
theorem itr_ok {g : Gh} {H1 : Hp} {Ω1 : Om} {lo : Int} {n : Nat} : ItOk K g (Itr lo n) (rngT lo n) H1 Ω1 (fun _ => True) := fun g' _ i H' Ω' k o' _ => by
  rw [rngT_len]
  refine ⟨fun e => (show n ≤ i by omega), fun hi => ⟨hi, ?_⟩⟩
  rintro x H'' ⟨rfl, rfl⟩
  exact ⟨.refl, o', _, rngT_get hi, rfl⟩
def diR1 (da : DA) : DI := fun ρ Ω P PX => da ρ Ω (fun ts Ω1 => ∃ j : Int, ts = [.int j] ∧ -(2 ^ 62) ≤ j ∧ j < 2 ^ 62 ∧ P (rngT 0 j.toNat) (fun _ => True) Ω1) PX
theorem sim_iR1 {ta : TA} {da : DA} (h : SimA K G E ta da) : SimI K G E (iRng1 ta) (diR1 da) := fun g σ H ρ Ω P PX R hG r p q qx =>
  h g σ H ρ Ω _ PX _ hG r p (fun ts Ω1 vs H1 ⟨j, e, b1, b2, p1⟩ k1 o1 d1 => by
    subst e
    obtain ⟨v, _, rfl, d, rfl⟩ := d1
    exact ⟨j, by rw [show v = _ from d], b1, b2, q _ _ Ω1 _ H1 p1 k1 o1 itr_ok⟩) qx
def diR2 (da : DA) : DI := fun ρ Ω P PX => da ρ Ω (fun ts Ω1 => ∃ i j : Int, ts = [.int i, .int j] ∧ (-(2 ^ 62) ≤ i ∧ i < 2 ^ 62 ∧ -(2 ^ 62) ≤ j ∧ j < 2 ^ 62) ∧ P (rngT i (j - i).toNat) (fun _ => True) Ω1) PX
theorem sim_iR2 {ta : TA} {da : DA} (h : SimA K G E ta da) : SimI K G E (iRng2 ta) (diR2 da) := fun g σ H ρ Ω P PX R hG r p q qx =>
  h g σ H ρ Ω _ PX _ hG r p (fun ts Ω1 vs H1 ⟨i, j, e, b1, p1⟩ k1 o1 d1 => by
    subst e
    obtain ⟨v, _, rfl, d, u, _, rfl, d2, rfl⟩ := d1
    exact ⟨i, j, by rw [show v = _ from d, show u = _ from d2], b1, q _ _ Ω1 _ H1 p1 k1 o1 itr_ok⟩) qx
/-- (0, x), (1, y), .. -/
def enumT (ts : List Tr) : List Tr := ts.mapIdx fun i t => .tup [.int (i : Nat), t]
theorem enumT_len {ts : List Tr} : (enumT ts).length = ts.length := by unfold enumT; rw [List.length_mapIdx]
theorem enumT_get {ts : List Tr} {i : Nat} {t : Tr} (h : ts[i]? = some t) : (enumT ts)[i]? = some (.tup [.int (i : Nat), t]) := by
  unfold enumT
  rw [List.getElem?_mapIdx, h]
  rfl
theorem not_pr {g : Gh} {H : Hp} {Ω : Om} (o : OmOk K g H Ω) {p : Addr} (n : H p = none) : ¬ g.pr p := fun z => by
  obtain ⟨u, e⟩ := o.pt p z
  rw [n] at e; cases e
theorem ite_ok {g : Gh} {H1 : Hp} {Ω1 : Om} {t : Tr} {ts : List Tr} {a : Addr} (h : asL t Ω1 = some ts) (d : VD K g.dr (NM g Ω1) H1 (.ref a) t) : ItOk K g (Ite K a) (enumT ts) H1 Ω1 (stay t ts) := fun g' hg i H' Ω' k o' st => by
  obtain ⟨ys, s, dl⟩ := stays_L hg k o' st h d
  rw [enumT_len]
  refine ⟨fun e => ⟨ys, s, by rw [dl.len]; omega⟩, fun hi => ⟨⟨ys, ys[i]'(by rw [dl.len]; exact hi), s, List.getElem?_eq_getElem _⟩, ?_⟩⟩
  rintro v H'' ⟨T, x, rfl, n, rfl, hx⟩
  obtain ⟨t, et, dt⟩ := dl.get _ (hx ys s)
  have kn : Keep g' H' Ω' (upd H' T (.tup [.int (i : Nat), x])) Ω' := .new n
  have hk : Keep g H' Ω' (upd H' T (.tup [.int (i : Nat), x])) Ω' := .new n
  exact ⟨hk, o'.new n, _, enumT_get et, T, _, rfl, .inl ⟨NM.new o' n (not_pr o' n), upd_same⟩, .cons rfl (.one (dt.keep kn)), by simp⟩
def diE (da : DA) : DI := fun ρ Ω P PX => da ρ Ω (fun us Ω1 => ∃ t ts, us = [t] ∧ asL t Ω1 = some ts ∧ (ts.length ≤ 1000000 → P (enumT ts) (stay t ts) Ω1)) PX
theorem sim_iE {ta : TA} {da : DA} (h : SimA K G E ta da) : SimI K G E (iEnum K ta) (diE da) := fun g σ H ρ Ω P PX R hG r p q qx =>
  h g σ H ρ Ω _ PX _ hG r p (fun us Ω1 vs H1 ⟨t, ts, e0, e, p1⟩ k1 o1 d1 => by
    subst e0
    obtain ⟨v, _, rfl, d, rfl⟩ := d1
    obtain ⟨a, xs, rfl, s, _, dl, z⟩ := at_L o1 d e
    exact ⟨a, xs, rfl, s, q _ _ Ω1 _ H1 (p1 z) k1 o1 (ite_ok e d)⟩) qx
/-! ### comprehensions -/
def wipeT (ρ : En) : List Nat → En
  | [] => ρ
  | v :: vs => (wipeT ρ vs).set v none
theorem Rel.wipe {g : Gh} {σ : L2.St} {H : Hp} {ρ : En} {Ω : Om} (R : Rel K g σ H ρ Ω) : ∀ vs : List Nat, Rel K g (L2.wipe σ vs) H (wipeT ρ vs) Ω
  | [] => R
  | v :: vs => (Rel.wipe R vs).none
theorem wipe_set {σ : L2.St} {x : Option V} : ∀ {vs : List Nat} {i : Nat}, i ∈ vs → L2.wipe (σ.set i x) vs = L2.wipe σ vs
  | v :: vs, i, h => by
    show (L2.wipe (σ.set i x) vs).set v none = (L2.wipe σ vs).set v none
    by_cases hv : i ∈ vs
    · rw [wipe_set hv]
    · have e : i = v := (List.mem_cons.mp h).resolve_right hv
      subst e
      have : ∀ (ws : List Nat), i ∉ ws → (L2.wipe (σ.set i x) ws).set i none = (L2.wipe σ ws).set i none := by
        intro ws
        induction ws with
        | nil => intro _; show (σ.set i x).set i none = σ.set i none; rw [List.set_set]
        | cons w ws ih =>
          intro hw
          have hne : w ≠ i := fun z => hw (z ▸ List.mem_cons_self)
          show ((L2.wipe (σ.set i x) ws).set w none).set i none = ((L2.wipe σ ws).set w none).set i none
          rw [List.set_comm _ _ hne, ih (fun z => hw (List.mem_cons_of_mem _ z)), List.set_comm _ _ hne]
      exact this vs hv
theorem wipe_idem {σ : L2.St} : ∀ {vs : List Nat}, L2.wipe (L2.wipe σ vs) vs = L2.wipe σ vs := by
  have h : ∀ (us vs : List Nat), (∀ u ∈ us, u ∈ vs) → L2.wipe (L2.wipe σ us) vs = L2.wipe σ vs := by
    intro us
    induction us with
    | nil => intro vs _; rfl
    | cons u us ih =>
      intro vs hs
      show L2.wipe ((L2.wipe σ us).set u none) vs = _
      rw [wipe_set (hs u List.mem_cons_self), ih vs fun z hz => hs z (List.mem_cons_of_mem _ hz)]
  intro vs
  exact h vs vs fun _ z => z
/-- a target that stores into slots of vs alone -/
def GIn (vs : List Nat) (tg : TG) : Prop := ∀ v σ H Q, tg v σ H Q → tg v σ H fun σ2 H2 => Q σ2 H2 ∧ L2.wipe σ2 vs = L2.wipe σ vs
def GsIn (vs : List Nat) (tg : TGs) : Prop := ∀ v σ H Q, tg v σ H Q → tg v σ H fun σ2 H2 => Q σ2 H2 ∧ L2.wipe σ2 vs = L2.wipe σ vs
theorem gin_name {vs : List Nat} {i : Nat} (h : i ∈ vs) : GIn vs (gName i) := fun v σ H Q q => ⟨q, wipe_set h⟩
theorem gin_nil {vs : List Nat} : GsIn vs gNil := fun v σ H Q ⟨e, q⟩ => ⟨e, q, rfl⟩
theorem gin_cons {vs : List Nat} {t : TG} {u : TGs} (ht : GIn vs t) (mt : ∀ v σ H (Q Q' : L2.St → Hp → Prop), (∀ a b, Q a b → Q' a b) → t v σ H Q → t v σ H Q') (hu : GsIn vs u) (mu : ∀ v σ H (Q Q' : L2.St → Hp → Prop), (∀ a b, Q a b → Q' a b) → u v σ H Q → u v σ H Q') : GsIn vs (gCons t u) := fun v σ H Q ⟨x, r, e, q⟩ =>
  ⟨x, r, e, mt _ _ _ _ _ (fun σ2 H2 ⟨q2, w2⟩ => mu _ _ _ _ _ (fun σ3 H3 ⟨q3, w3⟩ => ⟨q3, w3.trans w2⟩) (hu _ _ _ _ q2)) (ht _ _ _ _ q)⟩
theorem mono_name {i : Nat} : ∀ v σ H (Q Q' : L2.St → Hp → Prop), (∀ a b, Q a b → Q' a b) → gName i v σ H Q → gName i v σ H Q' := fun _ _ _ _ _ h q => h _ _ q
theorem mono_nil : ∀ v σ H (Q Q' : L2.St → Hp → Prop), (∀ a b, Q a b → Q' a b) → gNil v σ H Q → gNil v σ H Q' := fun _ _ _ _ _ h q => ⟨q.1, h _ _ q.2⟩
theorem mono_cons {t : TG} {u : TGs} (mt : ∀ v σ H (Q Q' : L2.St → Hp → Prop), (∀ a b, Q a b → Q' a b) → t v σ H Q → t v σ H Q') (mu : ∀ v σ H (Q Q' : L2.St → Hp → Prop), (∀ a b, Q a b → Q' a b) → u v σ H Q → u v σ H Q') :
    ∀ v σ H (Q Q' : L2.St → Hp → Prop), (∀ a b, Q a b → Q' a b) → gCons t u v σ H Q → gCons t u v σ H Q' := fun _ _ _ _ _ h ⟨x, r, e, q⟩ => ⟨x, r, e, mt _ _ _ _ _ (fun _ _ z => mu _ _ _ _ _ h z) q⟩
theorem gin_tup {vs : List Nat} {n : Nat} {t : TGs} (h : GsIn vs t) : GIn vs (gTup K n t) := fun v σ H Q ⟨a, xs, e, s, l, q⟩ => ⟨a, xs, e, s, l, h _ _ _ _ q⟩
theorem mono_tup {n : Nat} {t : TGs} (mt : ∀ v σ H (Q Q' : L2.St → Hp → Prop), (∀ a b, Q a b → Q' a b) → t v σ H Q → t v σ H Q') : ∀ v σ H (Q Q' : L2.St → Hp → Prop), (∀ a b, Q a b → Q' a b) → gTup K n t v σ H Q → gTup K n t v σ H Q' := fun _ _ _ _ _ h ⟨a, xs, e, s, l, q⟩ => ⟨a, xs, e, s, l, mt _ _ _ _ _ h q⟩
def dYes : DT := fun _ Ω P _ => P true Ω
theorem sim_yes : SimT K G E tYes dYes := fun g σ H ρ Ω P PX Q _ R p q _ => q _ Ω H p .refl R.om
def dLc (di : DI) (dg : DG) (dt : DT) (de : DE) (vs : List Nat) : DE := fun ρ Ω P PX => di ρ Ω (fun items st Ω1 => items.length ≤ 1000000 ∧ ∃ W : Nat → List Tr → Om → Prop, W 0 [] Ω1 ∧ (∀ i acc Ω', W i acc Ω' → st Ω') ∧
  (∀ i t acc Ω', items[i]? = some t → W i acc Ω' → dg t (wipeT ρ vs) Ω' (fun ρ2 Ω2 => dt ρ2 Ω2 (fun b Ω3 => if b = true then de ρ2 Ω3 (fun y Ω4 => W (i + 1) (acc ++ [y]) Ω4) nox else W (i + 1) acc Ω3) nox) nox) ∧
  ∀ acc Ω', W items.length acc Ω' → lstNew acc Ω' P) PX
theorem Keep.with {g : Gh} {D : Addr} {H H' : Hp} {Ω Ω' : Om} (k : Keep (g.with D) H Ω H' Ω') : Keep g H Ω H' Ω' := k
theorem Keep.prot {g : Gh} {D : Addr} {H H' : Hp} {Ω Ω' : Om} {o : HO} (k : Keep g H Ω H' Ω') (n : H D = none) : Keep g H Ω (upd H' D o) Ω' := fun b u h d e => ⟨by rw [upd_ne (ne_of_none e n)]; exact (k b u h d e).1, (k b u h d e).2⟩
theorem sim_lc {wi : TI} {tg : TG} {tt : TT} {te : TE} {vs : List Nat} {di : DI} {dg : DG} {dt : DT} {de : DE} (hi : SimI K G E wi di) (hg : SimG K G E tg dg) (gi : GIn vs tg) (ht : SimT K G E tt dt) (he : SimE K G E te de) : SimE K G E (tLc wi tg tt te vs) (dLc di dg dt de vs) := fun g σ H ρ Ω P PX Q hG R h q qx => by
  refine hi g σ H ρ Ω _ _ _ hG R h (fun items st Ω1 J H1 h1 k1 o1 it => ?_) qx
  obtain ⟨hz, W, w0, wst, step, fin⟩ := h1
  intro D nD
  have npr : ¬ g.pr D := not_pr o1 nD
  refine ⟨fun i m H' => m + i = items.length ∧ ∃ xs acc Ω', H' D = some (.lst xs) ∧ VDL K g.dr (NM (g.with D) Ω') H' xs acc ∧ acc.length ≤ i ∧ Keep g H1 Ω1 H' Ω' ∧ OmOk K (g.with D) H' Ω' ∧ W i acc Ω', ⟨items.length, by omega, [], [], Ω1, upd_same, rfl, Nat.le_refl _, .new nD, o1.more nD, w0⟩, ?_⟩
  rintro i m H' ⟨hm, xs, acc, Ω', eD, da, hl, k2, o2, w⟩
  obtain ⟨s1, s2⟩ := it (g.with D) (.inr ⟨D, nD, rfl⟩) i H' Ω' k2 o2 (wst _ _ _ w)
  have nΩ : ∀ {H2 : Hp} {Ω2 : Om}, OmOk K (g.with D) H2 Ω2 → Ω2 D = none := fun {H2 Ω2} o => by
    cases e : Ω2 D with
    | none => rfl
    | some c => exact absurd (.inr rfl) (o.ce D c e).1
  have nd : ∀ d, g.dr ≠ some (d, D) := o1.nodr nD
  rcases Nat.lt_or_ge i items.length with hlt | hge
  · obtain ⟨go, yl⟩ := s2 hlt
    refine .inr ⟨go, fun H2 => m - 1 + (i + 1) = items.length ∧ ∃ xs acc Ω', H2 D = some (.lst xs) ∧ VDL K g.dr (NM (g.with D) Ω') H2 xs acc ∧ acc.length ≤ i + 1 ∧ Keep g H1 Ω1 H2 Ω' ∧ OmOk K (g.with D) H2 Ω' ∧ W (i + 1) acc Ω', fun H2 z => ⟨m - 1, by omega, z⟩, fun x H'' y => ?_⟩
    obtain ⟨k3, o3, t, et, dd⟩ := yl x H'' y
    have Rw : Rel K (g.with D) (L2.wipe σ vs) H'' (wipeT ρ vs) Ω' := by
      have k13 := k2.trans k3
      refine ⟨o3, (Rel.wipe R vs).len, fun j u e => ?_⟩
      obtain ⟨v, h1, h2⟩ := ((Rel.wipe R vs).keep k1 o1).env j u e
      exact ⟨v, h1, (h2.more nD).keep (g := g.with D) k13⟩
    have h0 := hg (g.with D) (L2.wipe σ vs) H'' (wipeT ρ vs) Ω' x t _ _ (fun σ2 H2 => tt σ2 H2 fun b H3 => if b = true then te σ2 H3 fun y H4 => ∃ acc, H4 D = some (.lst acc) ∧ acc.length < sizeLine ∧ (m - 1 + (i + 1) = items.length ∧ ∃ xs acc_1 Ω', upd H4 D (.lst (acc ++ [y])) D = some (.lst xs) ∧ VDL K g.dr (NM (g.with D) Ω') (upd H4 D (.lst (acc ++ [y]))) xs acc_1 ∧ acc_1.length ≤ i + 1 ∧ Keep g H1 Ω1 (upd H4 D (.lst (acc ++ [y]))) Ω' ∧ OmOk K (g.with D) (upd H4 D (.lst (acc ++ [y]))) Ω' ∧ W (i + 1) acc_1 Ω') else (m - 1 + (i + 1) = items.length ∧ ∃ xs acc Ω', H3 D = some (.lst xs) ∧ VDL K g.dr (NM (g.with D) Ω') H3 xs acc ∧ acc.length ≤ i + 1 ∧ Keep g H1 Ω1 H3 Ω' ∧ OmOk K (g.with D) H3 Ω' ∧ W (i + 1) acc Ω')) hG Rw dd (step i t acc Ω' et w) (fun ρ2 Ω2 σ2 H2 p k4 R4 => ?_) fun _ _ _ ⟨_, _, z, _⟩ => z.elim
    · have h1 := gi _ _ _ _ h0
      refine Eq.mpr (congrArg (tg x (L2.wipe σ vs) H'') ?_) h1
      funext σ2 H2
      rw [wipe_idem]
      exact propext And.comm
    · have k5 := (k2.trans k3).trans k4
      refine ht (g.with D) σ2 H2 ρ2 Ω2 _ _ _ hG R4 p (fun b Ω3 H3 p3 k6 o6 => ?_) AfterX.nox
      have eD2 : H2 D = some (.lst xs) := (k4 D _ (nΩ o3) nd (k3 D _ (nΩ o2) nd eD).1).1
      have eD3 : H3 D = some (.lst xs) := (k6 D _ (nΩ R4.om) nd eD2).1
      have k7 := k5.trans k6
      have ka : Keep (g.with D) H' Ω' H3 Ω3 := (k3.trans k4).trans k6
      by_cases hb : b = true
      · rw [if_pos hb] at p3 ⊢
        refine he (g.with D) σ2 H3 ρ2 Ω3 _ _ _ hG (R4.keep k6 o6) p3 (fun y Ω4 v H4 p4 k8 o8 d8 => ?_) AfterX.nox
        have eD4 : H4 D = some (.lst xs) := (k8 D _ (nΩ o6) nd eD3).1
        have dac : VDL K g.dr (NM (g.with D) Ω4) H4 xs acc := (da.keep ka).keep (g := g.with D) k8
        refine ⟨xs, eD4, size_lt (by rw [da.len]; omega), by omega, xs ++ [v], acc ++ [y], Ω4, upd_same, (dac.app _ (.one d8)).prot, by rw [List.length_append]; simp; omega, (k7.trans k8).prot nD, o8.prot, p4⟩
      · rw [if_neg hb] at p3 ⊢
        exact ⟨by omega, xs, acc, Ω3, eD3, da.keep ka, by omega, k7, o6, p3⟩
  · have hi : i = items.length := by omega
    refine .inl ⟨s1 hi, ?_⟩
    have f := fin acc Ω' (hi ▸ w)
    rcases f with f | f
    · exact q _ Ω' _ H' f (k1.trans k2) o2.less ⟨D, xs, rfl, ⟨nΩ o2, nd, npr⟩, eD, da.less, by omega⟩
    · have kc : Keep g H1 Ω1 H' (put Ω' D (.lst acc)) := fun b u hb hd e => ⟨(k2 b u hb hd e).1, by rw [put_ne (ne_of_none e nD)]; exact (k2 b u hb hd e).2⟩
      exact q _ _ _ H' (f D (nΩ o2)) (k1.trans kc) (o2.toCell npr ⟨xs, eD, da, by omega⟩) rfl
/-- where each item has its value, whatever went before -/
theorem lc_map {items : List Tr} {st : Om → Prop} {Ω : Om} {ρ : En} {dg : DG} {de : DE} {vs : List Nat} {P : PT'} (f : Nat → Tr → Tr) (hz : items.length ≤ 1000000) (hst : st Ω) (hs : ∀ i t Q, items[i]? = some t → Q (f i t) Ω → dg t (wipeT ρ vs) Ω (fun ρ2 Ω2 => dYes ρ2 Ω2 (fun b Ω3 => if b = true then de ρ2 Ω3 Q nox else True) nox) nox)
    (hm : ∀ t ρ (P P' : En → Om → Prop), (∀ a b, P a b → P' a b) → dg t ρ Ω P nox → dg t ρ Ω P' nox) (h : lstNew (items.mapIdx f) Ω P) : items.length ≤ 1000000 ∧ ∃ W : Nat → List Tr → Om → Prop, W 0 [] Ω ∧ (∀ i acc Ω', W i acc Ω' → st Ω') ∧
  (∀ i t acc Ω', items[i]? = some t → W i acc Ω' → dg t (wipeT ρ vs) Ω' (fun ρ2 Ω2 => dYes ρ2 Ω2 (fun b Ω3 => if b = true then de ρ2 Ω3 (fun y Ω4 => W (i + 1) (acc ++ [y]) Ω4) nox else W (i + 1) acc Ω3) nox) nox) ∧
  ∀ acc Ω', W items.length acc Ω' → lstNew acc Ω' P := by
  refine ⟨hz, fun i acc Ω' => Ω' = Ω ∧ acc = (items.mapIdx f).take i, ⟨rfl, rfl⟩, fun i acc Ω' e => e.1 ▸ hst, ?_, ?_⟩
  · rintro i t acc Ω' ht ⟨rfl, rfl⟩
    refine hm _ _ _ _ (fun a b z => ?_) (hs i t (fun y Ω4 => Ω4 = Ω' ∧ (items.mapIdx f).take i ++ [y] = (items.mapIdx f).take (i + 1)) ht ⟨rfl, ?_⟩)
    · simpa [dYes] using z
    · rw [take_one (x := f i t) (by rw [List.getElem?_mapIdx, ht]; rfl)]
  · rintro acc Ω' ⟨rfl, rfl⟩
    rw [show items.length = (items.mapIdx f).length by rw [List.length_mapIdx], List.take_length]
    exact h
end
end LT

namespace LT
open PySem PySem.Spec PyProof.Rows L2 L2H LL
section
variable {K : PySem.W.Frag} {G : List (Value × Option Addr × XV) → Prop} {E : EK}
/-! ### a def -/
theorem dok {P : Program} {w : World} {mg : Str → Option Value} {base : Heap} {x qual : Str} {params : Arguments} {body : List Stmt} {sc : Scope} {kws : List (Str × V)} {f : Addr} {fd : FuncData} {CX : CXT} {N ps : List Str} {k : Nat} {Pd : Pw} (F : FunD K x qual params body sc [] kws f fd) (S : FnScope N ps sc)
    (h : ∀ (cdv : Value) (A : Around) (outer : List Env) (s : Shared) (H : Hp) (E : XK), Room k (A.deeper (envOfC qual sc s.heap.objs.size f cdv)) → ∃ t ds, PSs (cxOf CX P w K mg base N qual sc f cdv A outer s H E) body t ∧ SimS K (fun _ => True) (fun _ => E) t ds ∧
      ∀ ts Ω PQ PX, ts.length = ps.length → Pd ts Ω PQ PX → ds { nx := fun _ Ω' => PQ .non Ω', rt := PQ, ex := fun _ => PX } (ts.map some ++ List.replicate (N.length - ps.length) none) Ω) :
    FnOk P w K mg base CX (k + 1) f fd ps (spD K Pd ps.length) := by
  refine F.ok S (fun vs H Q E ⟨g, Ω, ts, PQ, PX, hl, d, _⟩ => by rw [d.len]; exact hl) (fun cdv A outer s H vs Q E hr hsp => ?_)
  obtain ⟨g, Ω, ts, PQ, PX, hl, d, o, p, q, qx⟩ := hsp
  obtain ⟨t, ds, h1, h2, h3⟩ := h cdv A outer s H E hr
  refine ⟨t, h1, h2 g _ H _ Ω _ _ trivial ⟨o, ?_, fun i u e => ?_⟩ (h3 ts Ω PQ PX hl p) ⟨fun ρ' Ω' σ' H' p k r => q _ Ω' _ H' p k r.om rfl, q, fun _ _ _ _ z => z.elim, fun _ _ _ _ z => z.elim, fun x ρ' Ω' σ' c dd H' p k r z => qx x Ω' c dd H' p k r.om z⟩⟩
  · show (vs.map some ++ List.replicate (N.length - vs.length) none).length = _
    rw [List.length_append, List.length_append, List.length_map, List.length_map, List.length_replicate, List.length_replicate, d.len, hl]
  · show ∃ v, (vs.map some ++ List.replicate (N.length - vs.length) none)[i]? = some (some v) ∧ _
    rw [List.getElem?_append] at e ⊢
    rw [List.length_map] at e ⊢
    rw [d.len]
    split at e
    · rename_i hlt
      rw [if_pos hlt]
      rw [List.getElem?_map] at e ⊢
      cases et : ts[i]? with
      | none => rw [et] at e; cases e
      | some t' =>
        rw [et] at e
        cases e
        obtain ⟨v, ev, dv⟩ := d.get' et
        exact ⟨v, by rw [ev]; rfl, dv⟩
    · have := List.mem_of_getElem? e
      rw [List.mem_replicate] at this
      exact absurd this.2 (by simp)
theorem dokMk {X : Cx} {body : List Stmt} {E : XK} {Q : DS → Prop} {t : TS} {ds : DS} (term : PSs X body t) (sim : SimS K (fun _ => True) (fun _ => E) t ds) (go : Q ds) : ∃ t ds, PSs X body t ∧ SimS K (fun _ => True) (fun _ => E) t ds ∧ Q ds := ⟨t, ds, term, sim, go⟩
/-! ### index, length, slices -/
theorem VDL.atI {dr : Option (Addr × Addr)} {F : Addr → Prop} {H : Hp} {xs : List V} {ts : List Tr} {i : Int} {t : Tr} (d : VDL K dr F H xs ts) (h : L2.atI ts i = some t) : ∃ v, L2.atI xs i = some v ∧ VD K dr F H v t := by
  unfold L2.atI at h ⊢
  rw [d.len]
  cases e : ixN ts.length i with
  | none => rw [e] at h; cases h
  | some j =>
    rw [e] at h
    obtain ⟨v, ev, dv⟩ := d.get' (i := j) h
    exact ⟨v, ev, dv⟩
def dIx (as : Tr → Om → Option (List Tr)) : Tr → Tr → Om → PT' → Prop := fun x y Ω P => ∃ ts i t, as x Ω = some ts ∧ y = .int i ∧ atI ts i = some t ∧ P t Ω
theorem simr_IxL : SimR K (rIxL K) (dIx asL) := fun g H Ω x y tx ty P Q o d1 d2 ⟨ts, i, t, e1, e2, e3, p⟩ q => by
  subst e2
  obtain ⟨a, xs, rfl, s, _, dl, _⟩ := at_L o d1 e1
  obtain ⟨v, ev, dv⟩ := dl.atI e3
  exact ⟨a, xs, i, v, rfl, d2, s, ev, q t Ω v H p .refl o dv⟩
theorem simr_IxT : SimR K (rIxT K) (dIx fun x _ => asT x) := fun g H Ω x y tx ty P Q o d1 d2 ⟨ts, i, t, e1, e2, e3, p⟩ q => by
  subst e2
  obtain ⟨a, xs, rfl, s, dl, _⟩ := at_T d1 e1
  obtain ⟨v, ev, dv⟩ := dl.atI e3
  exact ⟨a, xs, i, v, rfl, d2, s, ev, q t Ω v H p .refl o dv⟩
theorem simr_IxA : SimR K (rIxA K) (dIx asS) := fun g H Ω x y tx ty P Q o d1 d2 ⟨ts, i, t, e1, e2, e3, p⟩ q => by
  subst e2
  obtain ⟨a, xs, rfl, s, dl, _⟩ := at_S o d1 e1
  obtain ⟨v, ev, dv⟩ := dl.atI e3
  exact s.elim (fun s => .inl ⟨a, xs, i, v, rfl, d2, s, ev, q t Ω v H p .refl o dv⟩) fun s => .inr ⟨a, xs, i, v, rfl, d2, s, ev, q t Ω v H p .refl o dv⟩
def dIxS : Tr → Tr → Om → PT' → Prop := fun x y Ω P => ∃ z i c, x = .str z ∧ y = .int i ∧ z.length ≤ sizeLine ∧ atI z.cps.toList i = some c ∧ P (.str ⟨#[c]⟩) Ω
theorem simr_IxS : SimR K rIxS dIxS := fun g H Ω x y tx ty P Q o d1 d2 ⟨z, i, c, e1, e2, h1, h2, p⟩ q => by
  subst e1 e2
  exact ⟨z, i, c, d1, d2, h1, h2, q _ Ω _ H p .refl o rfl⟩
/-- the dict's keys and values -/
def cellD : Option Cell → Option (List Key × List Tr)
  | some (.dic ks ts) => some (ks, ts)
  | _ => none
def asD : Tr → Om → Option (List Key × List Tr)
  | .dic ks ts, _ => some (ks, ts)
  | .obj a, Ω => cellD (Ω a)
  | _, _ => none
theorem asD_obj {a : Addr} {ks : List Key} {ts : List Tr} {Ω : Om} (h : Ω a = some (.dic ks ts)) : asD (.obj a) Ω = some (ks, ts) := by show cellD (Ω a) = _; rw [h]; rfl
theorem at_D {g : Gh} {H : Hp} {Ω : Om} {v : V} {t : Tr} {ks : List Key} {ts : List Tr} (o : OmOk K g H Ω) (d : VD K g.dr (NM g Ω) H v t) (h : asD t Ω = some (ks, ts)) : ∃ a xs, v = .ref a ∧ H a = some (.dK (ks.zip xs)) ∧ VDL K g.dr (NM g Ω) H xs ts ∧ ts.length = ks.length ∧ ts.length ≤ 1000000 := by
  cases t with
  | dic ks' us =>
    cases h
    obtain ⟨a, xs, e, f, h, d, z⟩ := d
    exact ⟨a, xs, e, h, d, z⟩
  | obj a =>
    cases e : Ω a with
    | none =>
      replace h : cellD (Ω a) = some (ks, ts) := h
      rw [e] at h
      cases h
    | some c =>
      cases c with
      | dic ks' us =>
        rw [asD_obj e] at h
        cases h
        obtain ⟨xs, h1, h2, h3⟩ := (o.ce a _ e).2
        exact ⟨a, xs, d, h1, h2, h3⟩
      | _ =>
        replace h : cellD (Ω a) = some (ks, ts) := h
        rw [e] at h
        cases h
  | _ => cases h
def lenT : Tr → Om → Option Nat
  | .lst ts, _ => some ts.length
  | .tup ts, _ => some ts.length
  | .dic ks ts, _ => some ts.length
  | .obj a, Ω => match cellL (Ω a) with
    | some ts => some ts.length
    | none => (cellD (Ω a)).map fun (z : List Key × List Tr) => z.2.length
  | _, _ => none
theorem lenT_obj {a : Addr} {ts : List Tr} {Ω : Om} (h : Ω a = some (.lst ts)) : lenT (.obj a) Ω = some ts.length := by
  show (match cellL (Ω a) with | some ts => some ts.length | none => (cellD (Ω a)).map fun (z : List Key × List Tr) => z.2.length) = _
  rw [h]; rfl
theorem lenT_objD {a : Addr} {ks : List Key} {ts : List Tr} {Ω : Om} (h : Ω a = some (.dic ks ts)) : lenT (.obj a) Ω = some ts.length := by
  show (match cellL (Ω a) with | some ts => some ts.length | none => (cellD (Ω a)).map fun (z : List Key × List Tr) => z.2.length) = _
  rw [h]; rfl
/-- len of a list, a tuple, a dict -/
def rLenS (K : PySem.W.Frag) : List V → Hp → VK → Prop := fun vs H Q => (∃ p xs, vs = [.ref p] ∧ (SqL K H p xs ∨ SqT K H p xs) ∧ Q (.int xs.length) H) ∨ rLenD vs H Q
theorem call_lenS {X : Cx} : CallR X (.builtin "len") (rLenS X.K) := fun pins s σ H vs us Q I r h => by
  rcases h with ⟨p, xs, rfl, e, q⟩ | ⟨p, kvs, rfl, e, q⟩
  · exact call_len_seq pins s σ H _ us Q I r ⟨p, xs, rfl, e, q⟩
  · exact call_lenD pins s σ H _ us Q I r ⟨p, kvs, rfl, e, q⟩
def dLen : List Tr → Om → PT' → Prop := fun us Ω P => ∃ t n, us = [t] ∧ lenT t Ω = some n ∧ (n ≤ 1000000 → P (.int n) Ω)
theorem simc_len : SimC K (rLenS K) dLen := fun g H Ω vs us P Q o d ⟨t, n, e, hn, p⟩ q => by
  subst e
  obtain ⟨v, _, rfl, d, rfl⟩ := d
  have dic : ∀ (ks : List Key) (ts : List Tr), asD t Ω = some (ks, ts) → ts.length = n → rLenS K [v] H Q := fun ks ts h hn => by
    obtain ⟨a, xs, rfl, h1, h2, h3, z⟩ := at_D o d h
    refine .inr ⟨a, _, rfl, h1, ?_⟩
    rw [List.length_zip, h2.len, ← h3, Nat.min_self, hn]
    exact q _ Ω _ H (p (hn ▸ z)) .refl o rfl
  have lst : ∀ (ts : List Tr), asS t Ω = some ts → ts.length = n → rLenS K [v] H Q := fun ts h hn => by
    obtain ⟨a, xs, rfl, s, dl, z⟩ := at_S o d h
    exact .inl ⟨a, xs, rfl, s, by rw [dl.len, hn]; exact q _ Ω _ H (p (hn ▸ z)) .refl o rfl⟩
  cases t with
  | lst ts => exact lst ts rfl (by cases hn; rfl)
  | tup ts => exact lst ts rfl (by cases hn; rfl)
  | dic ks ts => exact dic ks ts rfl (by cases hn; rfl)
  | obj a =>
    cases e : Ω a with
    | none => simp only [lenT, e, cellL, cellD] at hn; cases hn
    | some c =>
      cases c with
      | lst ts =>
        rw [lenT_obj e] at hn
        exact lst ts (asS_obj e) (by cases hn; rfl)
      | dic ks ts =>
        rw [lenT_objD e] at hn
        exact dic ks ts (asD_obj e) (by cases hn; rfl)
      | ins _ _ _ _ => simp only [lenT, e, cellL, cellD] at hn; cases hn
  | _ => cases hn
/-! ### int, bool, max, min, sum, all, any -/
def rInt (xs : List V) (H : Hp) (Q : VK) : Prop := (∃ i, xs = [.int i] ∧ Q (.int i) H) ∨ ∃ k : Bool, xs = [.bl k] ∧ Q (.int (if k then 1 else 0)) H
theorem call_int {X : Cx} : CallR X (.type "int") rInt := call_int1
def dInt : List Tr → Om → PT' → Prop := fun us Ω P => ∃ t, us = [t] ∧ ((∃ i, t = .int i ∧ P (.int i) Ω) ∨ ∃ k : Bool, t = .bl k ∧ P (.int (if k then 1 else 0)) Ω)
theorem simc_int : SimC K rInt dInt := fun g H Ω vs us P Q o d ⟨t, e, h⟩ q => by
  subst e
  obtain ⟨v, _, rfl, d, rfl⟩ := d
  rcases h with ⟨i, e, p⟩ | ⟨k, e, p⟩
  · subst e
    exact .inl ⟨i, by rw [show v = _ from d], q _ Ω _ H p .refl o rfl⟩
  · subst e
    exact .inr ⟨k, by rw [show v = _ from d], q _ Ω _ H p .refl o rfl⟩
def dMx (f : Int → Int → Int) : List Tr → Om → PT' → Prop := fun us Ω P => ∃ i j, us = [.int i, .int j] ∧ P (.int (f i j)) Ω
theorem simc_mx : SimC K rMx (dMx max) := fun g H Ω vs us P Q o d ⟨i, j, e, p⟩ q => by
  subst e
  obtain ⟨v, _, rfl, d1, u, _, rfl, d2, rfl⟩ := d
  exact ⟨i, j, by rw [show v = _ from d1, show u = _ from d2], q _ Ω _ H p .refl o rfl⟩
theorem simc_mn : SimC K rMn (dMx min) := fun g H Ω vs us P Q o d ⟨i, j, e, p⟩ q => by
  subst e
  obtain ⟨v, _, rfl, d1, u, _, rfl, d2, rfl⟩ := d
  exact ⟨i, j, by rw [show v = _ from d1, show u = _ from d2], q _ Ω _ H p .refl o rfl⟩
theorem vdl_ints {dr : Option (Addr × Addr)} {F : Addr → Prop} {H : Hp} : ∀ {ns : List Int} {xs : List V}, VDL K dr F H xs (ns.map Tr.int) → xs = ns.map V.int
  | [], xs, h => h
  | n :: ns, xs, h => by
    obtain ⟨v, vs, rfl, h1, h2⟩ := h
    rw [show v = _ from h1, vdl_ints h2]
    rfl
theorem vdl_of_ints {dr : Option (Addr × Addr)} {F : Addr → Prop} {H : Hp} : ∀ {ns : List Int}, VDL K dr F H (ns.map V.int) (ns.map Tr.int)
  | [] => rfl
  | n :: ns => ⟨_, _, rfl, rfl, vdl_of_ints⟩
theorem vdl_bools {dr : Option (Addr × Addr)} {F : Addr → Prop} {H : Hp} : ∀ {ns : List Bool} {xs : List V}, VDL K dr F H xs (ns.map Tr.bl) → xs = ns.map V.bl
  | [], xs, h => h
  | n :: ns, xs, h => by
    obtain ⟨v, vs, rfl, h1, h2⟩ := h
    rw [show v = _ from h1, vdl_bools h2]
    rfl
def dSum : List Tr → Om → PT' → Prop := fun us Ω P => ∃ (t : Tr) (ns : List Int), us = [t] ∧ asL t Ω = some (ns.map Tr.int) ∧ P (.int ns.sum) Ω
theorem simc_sum : SimC K (rSum K) dSum := fun g H Ω vs us P Q o d ⟨t, ns, e, h, p⟩ q => by
  subst e
  obtain ⟨v, _, rfl, d, rfl⟩ := d
  obtain ⟨a, xs, rfl, s, _, dl, _⟩ := at_L o d h
  rw [vdl_ints dl] at s
  exact ⟨a, ns, rfl, s, q _ Ω _ H p .refl o rfl⟩
def dMaxL : List Tr → Om → PT' → Prop := fun us Ω P => ∃ (t : Tr) (ns : List Int), us = [t] ∧ asL t Ω = some (ns.map Tr.int) ∧ 0 < ns.length ∧ ∀ m, m ∈ ns → (∀ y, y ∈ ns → y ≤ m) → P (.int m) Ω
theorem simc_maxL : SimC K (rMax K) dMaxL := fun g H Ω vs us P Q o d ⟨t, ns, e, h, h0, p⟩ q => by
  subst e
  obtain ⟨v, _, rfl, d, rfl⟩ := d
  obtain ⟨a, xs, rfl, s, _, dl, _⟩ := at_L o d h
  rw [vdl_ints dl] at s
  exact ⟨a, ns, rfl, s, h0, fun m h1 h2 => q _ Ω _ H (p m h1 h2) .refl o rfl⟩
def dMinL : List Tr → Om → PT' → Prop := fun us Ω P => ∃ (t : Tr) (ns : List Int), us = [t] ∧ asL t Ω = some (ns.map Tr.int) ∧ 0 < ns.length ∧ ∀ m, m ∈ ns → (∀ y, y ∈ ns → m ≤ y) → P (.int m) Ω
theorem simc_minL : SimC K (rMin K) dMinL := fun g H Ω vs us P Q o d ⟨t, ns, e, h, h0, p⟩ q => by
  subst e
  obtain ⟨v, _, rfl, d, rfl⟩ := d
  obtain ⟨a, xs, rfl, s, _, dl, _⟩ := at_L o d h
  rw [vdl_ints dl] at s
  exact ⟨a, ns, rfl, s, h0, fun m h1 h2 => q _ Ω _ H (p m h1 h2) .refl o rfl⟩
def dAll (f : List Bool → Bool) : List Tr → Om → PT' → Prop := fun us Ω P => ∃ (t : Tr) (bs : List Bool), us = [t] ∧ asL t Ω = some (bs.map Tr.bl) ∧ P (.bl (f bs)) Ω
theorem simc_all : SimC K (rAll K) (dAll fun bs => bs.all id) := fun g H Ω vs us P Q o d ⟨t, ns, e, h, p⟩ q => by
  subst e
  obtain ⟨v, _, rfl, d, rfl⟩ := d
  obtain ⟨a, xs, rfl, s, _, dl, _⟩ := at_L o d h
  rw [vdl_bools dl] at s
  exact ⟨a, ns, rfl, s, q _ Ω _ H p .refl o rfl⟩
theorem simc_any : SimC K (rAny K) (dAll fun bs => bs.any id) := fun g H Ω vs us P Q o d ⟨t, ns, e, h, p⟩ q => by
  subst e
  obtain ⟨v, _, rfl, d, rfl⟩ := d
  obtain ⟨a, xs, rfl, s, _, dl, _⟩ := at_L o d h
  rw [vdl_bools dl] at s
  exact ⟨a, ns, rfl, s, q _ Ω _ H p .refl o rfl⟩
/-! ### list(x), tuple(x) -/
def rList (K : PySem.W.Frag) (xs : List V) (H : Hp) (Q : VK) : Prop := (∃ p ys, xs = [.ref p] ∧ (SqL K H p ys ∨ SqT K H p ys) ∧ ∀ l, H l = none → Q (.ref l) (upd H l (.lst ys))) ∨ rLstD xs H Q
theorem call_list {X : Cx} (hc : X.calm = true) : CallR X (.type "list") (rList X.K) := fun pins s σ H xs us Q I r h => by
  rcases h with h | h
  · exact call_list_of pins s σ H xs us Q I r h
  · exact call_lstD hc pins s σ H xs us Q I r h
def kT : Key → Tr
  | .inl i => .int i
  | .inr x => .str x
def dList : List Tr → Om → PT' → Prop := fun us Ω P => ∃ t, us = [t] ∧ ((∃ ts, asS t Ω = some ts ∧ (ts.length ≤ 1000000 → lstNew ts Ω P)) ∨ ∃ ks ts, asD t Ω = some (ks, ts) ∧ (ks.length ≤ 1000000 → lstNew (ks.map kT) Ω P))
theorem vdl_keys {dr : Option (Addr × Addr)} {F : Addr → Prop} {H : Hp} : ∀ {ks : List Key}, VDL K dr F H (ks.map kV) (ks.map kT)
  | [] => rfl
  | .inl i :: ks => ⟨_, _, rfl, rfl, vdl_keys⟩
  | .inr i :: ks => ⟨_, _, rfl, rfl, vdl_keys⟩
theorem simc_list : SimC K (rList K) dList := fun g H Ω vs us P Q o d ⟨t, e, h⟩ q => by
  subst e
  obtain ⟨v, _, rfl, d, rfl⟩ := d
  rcases h with ⟨ts, h, p⟩ | ⟨ks, ts, h, p⟩
  · obtain ⟨a, xs, rfl, s, dl, hz⟩ := at_S o d h
    exact .inl ⟨a, xs, rfl, s, fun l n => new_lst o dl hz (p hz) q n⟩
  · obtain ⟨a, xs, rfl, s, dl, hl, hz⟩ := at_D o d h
    rw [hl] at hz
    refine .inr ⟨a, _, rfl, s, fun l n => ?_⟩
    have e : (ks.zip xs).map (fun kv => kV kv.1) = ks.map kV := by
      have e2 : (ks.zip xs).map (fun kv => kV kv.1) = ((ks.zip xs).map Prod.fst).map kV := by rw [List.map_map]; rfl
      rw [e2, List.map_fst_zip (by rw [dl.len, hl]; exact Nat.le_refl _)]
    rw [e]
    exact new_lst o vdl_keys (by rw [List.length_map]; exact hz) (p hz) q n
def rTuple (K : PySem.W.Frag) (xs : List V) (H : Hp) (Q : VK) : Prop := ∃ p ys, xs = [.ref p] ∧ ((SqL K H p ys ∧ ∀ l, H l = none → Q (.ref l) (upd H l (.tup ys))) ∨ (SqT K H p ys ∧ Q (.ref p) H))
theorem call_tuple {X : Cx} : CallR X (.type "tuple") (rTuple X.K) := call_tuple_of
def dTuple : List Tr → Om → PT' → Prop := fun us Ω P => ∃ t ts, us = [t] ∧ asS t Ω = some ts ∧ (ts.length ≤ 1000000 → P (.tup ts) Ω)
theorem simc_tuple : SimC K (rTuple K) dTuple := fun g H Ω vs us P Q o d ⟨t, ts, e, h, p⟩ q => by
  subst e
  obtain ⟨v, _, rfl, d, rfl⟩ := d
  have lst : ∀ (h : asL t Ω = some ts), rTuple K [v] H Q := fun h => by
    obtain ⟨a, xs, rfl, s, _, dl, hz⟩ := at_L o d h
    exact ⟨a, xs, rfl, .inl ⟨s, fun l n => new_tup o dl hz (p hz) q n⟩⟩
  cases t with
  | tup us =>
    cases h
    obtain ⟨a, xs, rfl, s, dl, hz⟩ := sqt d
    exact ⟨a, xs, rfl, .inr ⟨s, q _ Ω _ H (p hz) .refl o d⟩⟩
  | lst us => exact lst h
  | obj b => exact lst h
  | _ => cases h
/-! ### isinstance -/
def kindT : Tr → Option String
  | .non => some "NoneType"
  | .bl _ => some "bool"
  | .int _ => some "int"
  | .str _ => some "str"
  | .lst _ => some "list"
  | .tup _ => some "tuple"
  | .dic _ _ => some "dict"
  | _ => none
theorem tyx_T {H : Hp} {a : Addr} {xs : List V} (h : SqT K H a xs) : TyX K H (.ref a) (.type "tuple") := by
  rcases h with (h | ⟨o, h⟩) | ⟨o, its, n, h1, h2, _⟩
  · exact .base (.tup h)
  · exact .fTuple h
  · exact .kTuple h1 h2
theorem tyx_of {dr : Option (Addr × Addr)} {F : Addr → Prop} {H : Hp} {v : V} {t : Tr} {n : String} (d : VD K dr F H v t) (h : kindT t = some n) : TyX K H v (.type n) := by
  cases t with
  | non => cases h; rw [show v = _ from d]; exact .base .non
  | bl b => cases h; rw [show v = _ from d]; exact .base (.bl b)
  | int b => cases h; rw [show v = _ from d]; exact .base (.int b)
  | str b => cases h; rw [show v = _ from d]; exact .base (.str b)
  | lst ts =>
    cases h
    obtain ⟨a, xs, rfl, f, e, _⟩ := d
    exact .base (.lst e)
  | tup ts =>
    cases h
    obtain ⟨a, xs, rfl, e, _⟩ := d
    rcases e with e | e
    · exact .base (.tup e.2)
    · exact tyx_T (e.1 H)
  | dic ks ts =>
    cases h
    obtain ⟨a, xs, rfl, f, e, _⟩ := d
    exact .base (.dK e)
  | _ => cases h
def tyNames : List String := ["int", "bool", "str", "list", "tuple", "dict"]
def isK (k n : String) : Bool := (kitB k n).getD false
def isT (t : Tr) (n : String) : Bool := match kindT t with
  | some k => isK k n
  | none => false
theorem kit_known : ∀ k ∈ ["NoneType", "bool", "int", "str", "list", "tuple", "dict"], ∀ n ∈ tyNames, kitB k n = some (isK k n) := by decide +kernel
theorem kind_mem {t : Tr} {k : String} (h : kindT t = some k) : k ∈ ["NoneType", "bool", "int", "str", "list", "tuple", "dict"] := by
  cases t <;> cases h <;> simp
def dIsi : List Tr → Om → PT' → Prop := fun us Ω P => ∃ x n, us = [x, .ty n] ∧ (kindT x).isSome = true ∧ n ∈ tyNames ∧ P (.bl (isT x n)) Ω
theorem simc_isi : SimC K (rIsi K) dIsi := fun g H Ω vs us P Q o d ⟨x, n, e, hk, hn, p⟩ q => by
  subst e
  obtain ⟨v, _, rfl, d1, u, _, rfl, d2, rfl⟩ := d
  obtain rfl : u = .ty n := d2
  obtain ⟨k, ek⟩ := Option.isSome_iff_exists.mp hk
  refine ⟨v, .ty n, _, _, isT x n, rfl, .ty n, tyx_of d1 ek, ?_, q _ Ω _ H p .refl o rfl⟩
  have := kit_known k (kind_mem ek) n hn
  unfold isT
  rw [ek]
  exact kit_ty this
theorem isT_int {t : Tr} : isT t "int" = (match t with | .int _ => true | .bl _ => true | _ => false) := by
  cases t <;> simp only [isT, kindT] <;> decide +kernel
theorem isT_bool {t : Tr} : isT t "bool" = (match t with | .bl _ => true | _ => false) := by
  cases t <;> simp only [isT, kindT] <;> decide +kernel
theorem isT_str {t : Tr} : isT t "str" = (match t with | .str _ => true | _ => false) := by
  cases t <;> simp only [isT, kindT] <;> decide +kernel
theorem isT_list {t : Tr} : isT t "list" = (match t with | .lst _ => true | _ => false) := by
  cases t <;> simp only [isT, kindT] <;> decide +kernel
theorem isT_tuple {t : Tr} : isT t "tuple" = (match t with | .tup _ => true | _ => false) := by
  cases t <;> simp only [isT, kindT] <;> decide +kernel
theorem isT_dict {t : Tr} : isT t "dict" = (match t with | .dic _ _ => true | _ => false) := by
  cases t <;> simp only [isT, kindT] <;> decide +kernel
end
end LT

namespace LT
open PySem PySem.Spec PyProof.Rows L2 L2H LL
section
variable {K : PySem.W.Frag} {G : List (Value × Option Addr × XV) → Prop} {E : EK}
/-! ### slices -/
def doNone : DO := fun _ Ω P _ => P none Ω
def doSome (de : DE) : DO := fun ρ Ω P PX => de ρ Ω (fun x Ω1 => ∃ i, x = .int i ∧ P (some i) Ω1) PX
theorem sim_oNone : SimO K G E tNoPart doNone := fun g σ H ρ Ω P PX Q _ R p q _ => q none Ω H p .refl R.om
theorem sim_oSome {te : TE} {de : DE} (h : SimE K G E te de) : SimO K G E (tPart te) (doSome de) := fun g σ H ρ Ω P PX Q hG R p q qx =>
  h g σ H ρ Ω _ PX _ hG R p (fun x Ω1 v H1 ⟨i, e, p1⟩ k1 o1 d1 => by
    subst e
    exact ⟨i, d1, q (some i) Ω1 H1 p1 k1 o1⟩) qx
def cutT (ts : List Tr) (lo hi : Option Int) : List Tr := (ts.drop (HT.sIx ts.length 0 lo)).take (HT.sIx ts.length ts.length hi - HT.sIx ts.length 0 lo)
theorem VDL.cut {dr : Option (Addr × Addr)} {F : Addr → Prop} {H : Hp} {xs : List V} {ts : List Tr} (d : VDL K dr F H xs ts) (lo hi : Option Int) : VDL K dr F H (cutV xs lo hi) (cutT ts lo hi) := by
  unfold cutV cutT
  rw [d.len]
  exact d.sub _ _
theorem cutT_le (ts : List Tr) (lo hi : Option Int) : (cutT ts lo hi).length ≤ ts.length := by
  unfold cutT
  rw [List.length_take, List.length_drop]
  omega
def SimSl (K : PySem.W.Frag) (r : V → Option Int → Option Int → Hp → VK → Prop) (d : Tr → Option Int → Option Int → Om → PT' → Prop) : Prop := ∀ g H Ω x tx lo hi P Q, OmOk K g H Ω → VD K g.dr (NM g Ω) H x tx → d tx lo hi Ω P → After K g H Ω P Q → r x lo hi H Q
def dSl (d : Tr → Option Int → Option Int → Om → PT' → Prop) (de : DE) (dl dh : DO) : DE := fun ρ Ω P PX => de ρ Ω (fun x Ω1 => dl ρ Ω1 (fun l Ω2 => dh ρ Ω2 (fun u Ω3 => d x l u Ω3 P) PX) PX) PX
theorem sim_sl {r : V → Option Int → Option Int → Hp → VK → Prop} {d : Tr → Option Int → Option Int → Om → PT' → Prop} {te : TE} {tl th : TO} {de : DE} {dl dh : DO} (hr : SimSl K r d) (he : SimE K G E te de) (hl : SimO K G E tl dl) (hh : SimO K G E th dh) : SimE K G E (tSl r te tl th) (dSl d de dl dh) := fun g σ H ρ Ω P PX Q hG R p q qx =>
  he g σ H ρ Ω _ PX _ hG R p (fun x Ω1 v H1 p1 k1 o1 d1 => hl g σ H1 ρ Ω1 _ PX _ hG (R.keep k1 o1) p1 (fun l Ω2 H2 p2 k2 o2 => hh g σ H2 ρ Ω2 _ PX _ hG (R.keep (k1.trans k2) o2) p2 (fun u Ω3 H3 p3 k3 o3 => hr g H3 Ω3 v x l u P Q o3 (d1.keep (k2.trans k3)) p3 (q.at ((k1.trans k2).trans k3))) (qx.at (k1.trans k2))) (qx.at k1)) qx
def dSlL : Tr → Option Int → Option Int → Om → PT' → Prop := fun x lo hi Ω P => ∃ ts, asL x Ω = some ts ∧ (ts.length ≤ 1000000 → lstNew (cutT ts lo hi) Ω P)
theorem simsl_L : SimSl K (rSlL K) dSlL := fun g H Ω x tx lo hi P Q o d ⟨ts, e, p⟩ q => by
  obtain ⟨a, xs, rfl, s, _, dl, z⟩ := at_L o d e
  exact ⟨a, xs, rfl, s, fun l n => new_lst o (dl.cut lo hi) (Nat.le_trans (cutT_le ts lo hi) z) (p z) q n⟩
def rSlG (K : PySem.W.Frag) : V → Option Int → Option Int → Hp → VK → Prop := fun x lo hi H Q => rSlL K x lo hi H Q ∨ rSlA K x lo hi H Q ∨ rSlS x lo hi H Q
theorem sl_G {X : Cx} : SlR X (rSlG X.K) := sl_list.or (sl_tupA.or sl_str)
def dSlG : Tr → Option Int → Option Int → Om → PT' → Prop
  | .tup ts, lo, hi, Ω, P => P (.tup (cutT ts lo hi)) Ω
  | .str z, lo, hi, Ω, P => z.length ≤ sizeLine ∧ P (.str (cutS z lo hi)) Ω
  | x, lo, hi, Ω, P => ∃ ts, asL x Ω = some ts ∧ (ts.length ≤ 1000000 → lstNew (cutT ts lo hi) Ω P)
theorem cut_whole {ts : List Tr} {lo hi : Option Int} (h : HT.sIx ts.length 0 lo = 0 ∧ HT.sIx ts.length ts.length hi = ts.length) : cutT ts lo hi = ts := by
  unfold cutT
  rw [h.1, h.2]
  simp
theorem simsl_G : SimSl K (rSlG K) dSlG := fun g H Ω x tx lo hi P Q o d p q => by
  have lst : (∃ ts, asL tx Ω = some ts ∧ (ts.length ≤ 1000000 → lstNew (cutT ts lo hi) Ω P)) → rSlG K x lo hi H Q := fun p => .inl (simsl_L g H Ω x tx lo hi P Q o d p q)
  cases tx with
  | tup ts =>
    obtain ⟨a, xs, rfl, s, dl, z⟩ := sqt d
    refine .inr (.inl ⟨a, xs, rfl, s, fun h => ?_, fun _ l n => ?_⟩)
    · rw [dl.len] at h
      replace p : P (.tup (cutT ts lo hi)) Ω := p
      rw [cut_whole h] at p
      exact q _ Ω _ H p .refl o d
    · exact new_tup o (dl.cut lo hi) (Nat.le_trans (cutT_le ts lo hi) z) p q n
  | str y => exact .inr (.inr ⟨y, d, p.1, q _ Ω _ H p.2 .refl o rfl⟩)
  | _ => exact lst p
/-! ### x + y -/
def rAddS : R2 := fun x y H Q => ∃ i j, x = .str i ∧ y = .str j ∧ i.length + j.length ≤ sizeLine ∧ Q (.str (i ++ j)) H
def rAddG (K : PySem.W.Frag) : R2 := fun x y H Q => rI0 (fun i j => V.int (i + j)) x y H Q ∨ rCat x y H Q ∨ rCatA K x y H Q ∨ rAddS x y H Q
theorem op_addG {X : Cx} : OpR X (binaryOp .Add) (rAddG X.K) := op_add.or (op_cat.or (op_catA.or op_add_str))
def dAddG : Tr → Tr → Om → PT' → Prop
  | .int i, .int j, Ω, P => P (.int (i + j)) Ω
  | .tup xs, .tup ys, Ω, P => xs.length + ys.length ≤ 1000000 ∧ P (.tup (xs ++ ys)) Ω
  | .str a, .str b, Ω, P => a.length + b.length ≤ sizeLine ∧ P (.str (a ++ b)) Ω
  | x, y, Ω, P => ∃ xs ys, asL x Ω = some xs ∧ asL y Ω = some ys ∧ xs.length + ys.length ≤ 1000000 ∧ lstNew (xs ++ ys) Ω P
theorem simr_addG : SimR K (rAddG K) dAddG := fun g H Ω x y tx ty P Q o d1 d2 p q => by
  have lst : (∃ xs ys, asL tx Ω = some xs ∧ asL ty Ω = some ys ∧ xs.length + ys.length ≤ 1000000 ∧ lstNew (xs ++ ys) Ω P) → rAddG K x y H Q := fun ⟨xs, ys, e1, e2, hz, p⟩ => by
    obtain ⟨a, us, rfl, _, h1, l1, _⟩ := at_L o d1 e1
    obtain ⟨b, ws, rfl, _, h2, l2, _⟩ := at_L o d2 e2
    exact .inr (.inl ⟨a, b, us, ws, rfl, rfl, h1, h2, by rw [l1.len, l2.len]; exact size_ok hz, fun l n => new_lst o (l1.app _ l2) (by rw [List.length_append]; exact hz) p q n⟩)
  cases tx with
  | int i =>
    cases ty with
    | int j => exact .inl ⟨i, j, d1, d2, q _ Ω _ H p .refl o rfl⟩
    | _ => exact lst p
  | tup xs =>
    cases ty with
    | tup ys =>
      obtain ⟨hz, p⟩ := p
      have d1' := d1
      have d2' := d2
      obtain ⟨a, us, rfl, s1, l1, _⟩ := sqt d1
      obtain ⟨b, ws, rfl, s2, l2, _⟩ := sqt d2
      refine .inr (.inr (.inl ⟨a, b, us, ws, rfl, rfl, s1, s2, by rw [l1.len, l2.len]; exact size_ok hz, fun e => ?_, fun _ e => ?_, fun _ _ l n => new_tup o (l1.app _ l2) (by rw [List.length_append]; exact hz) p q n⟩))
      · subst e
        rw [l1.nil_inv] at p
        exact q _ Ω _ H p .refl o d2'
      · subst e
        rw [l2.nil_inv, List.append_nil] at p
        exact q _ Ω _ H p .refl o d1'
    | _ => exact lst p
  | str a =>
    cases ty with
    | str b => exact .inr (.inr (.inr ⟨a, b, d1, d2, p.1, q _ Ω _ H p.2 .refl o rfl⟩))
    | _ => exact lst p
  | lst a => cases ty <;> exact lst p
  | obj a => cases ty <;> exact lst p
  | _ => exact lst p
/-! ### methods of cells, items of cells -/
def dApp (de : DE) (da : DA) : DE := fun ρ Ω P PX => de ρ Ω (fun x Ω1 => (asL x Ω1).isSome = true ∧ da ρ Ω1 (fun ts Ω2 => ∃ a us y, x = .obj a ∧ ts = [y] ∧ Ω2 a = some (.lst us) ∧ us.length + 1 ≤ 1000000 ∧ P .non (put Ω2 a (.lst (us ++ [y])))) PX) PX
theorem sim_append {te : TE} {ta : TA} {de : DE} {da : DA} (he : SimE K G E te de) (ha : SimA K G E ta da) : SimE K G E (tBM K "list" rAppend te ta) (dApp de da) := fun g σ H ρ Ω P PX Q hG R p q qx =>
  he g σ H ρ Ω _ PX _ hG R p (fun x Ω1 v H1 ⟨hs, p1⟩ k1 o1 d1 => by
    obtain ⟨us, e1⟩ := Option.isSome_iff_exists.mp hs
    obtain ⟨a, xs, e2, s, _⟩ := at_L o1 d1 e1
    refine ⟨by rw [e2]; exact .inl ⟨rfl, xs, s⟩, ha g σ H1 ρ Ω1 _ PX _ hG (R.keep k1 o1) p1 (fun ts Ω2 vs H2 ⟨b, us, y, e, ey, h1, hz, p2⟩ k2 o2 d2 => ?_) (qx.at k1)⟩
    subst e ey
    obtain ⟨w, _, rfl, dw, rfl⟩ := d2
    obtain ⟨_, ys, e3, _, h2, l2, z2⟩ := at_L o2 (show VD K g.dr (NM g Ω2) H2 (.ref b) (.obj b) from rfl) (asL_obj h1)
    cases e3
    rw [show v = .ref b from d1]
    refine ⟨b, ys, w, rfl, rfl, h2, by rw [l2.len]; exact size_lt z2, q _ _ _ _ p2 ((k1.trans k2).trans (.write h1)) (o2.write h1 ⟨ys ++ [w], upd_same, ?_, by rw [List.length_append]; exact hz⟩) rfl⟩
    have kw : Keep g H2 Ω2 (upd H2 b (.lst (ys ++ [w]))) (put Ω2 b (.lst (us ++ [y]))) := .write h1
    exact (l2.keep kw).app _ (.one (dw.keep kw))) qx
def dSet (v : Tr) (o i : Tr) (Ω : Om) (P : Om → Prop) : Prop := ∃ a us k j, o = .obj a ∧ i = .int k ∧ Ω a = some (.lst us) ∧ ixN us.length k = some j ∧ P (put Ω a (.lst (us.set j v)))
def dSub (d1 d2 : DE) : DG := fun v ρ Ω P PX => d1 ρ Ω (fun o Ω1 => d2 ρ Ω1 (fun i Ω2 => dSet v o i Ω2 (P ρ)) PX) PX
theorem sim_gSub {t1 t2 : TE} {d1 d2 : DE} (h1 : SimE K G E t1 d1) (h2 : SimE K G E t2 d2) : SimG K G E (gSub t1 t2 rSetL) (dSub d1 d2) := fun g σ H ρ Ω v t P PX Q hG R dv p q qx =>
  h1 g σ H ρ Ω _ PX _ hG R p (fun o Ω1 ov H1 p1 k1 o1 do1 => h2 g σ H1 ρ Ω1 _ PX _ hG (R.keep k1 o1) p1 (fun i Ω2 iv H2 ⟨a, us, k, j, e1, e2, hc, hx, p2⟩ k2 o2 di => by
    subst e1 e2
    obtain ⟨_, ys, e3, _, hh, l2, z2⟩ := at_L o2 (show VD K g.dr (NM g Ω2) H2 (.ref a) (.obj a) from rfl) (asL_obj hc)
    cases e3
    have kw : Keep g H2 Ω2 (upd H2 a (.lst (ys.set j v))) (put Ω2 a (.lst (us.set j t))) := .write hc
    have kk := (k1.trans k2).trans kw
    have o3 : OmOk K g (upd H2 a (.lst (ys.set j v))) (put Ω2 a (.lst (us.set j t))) := o2.write hc ⟨_, upd_same, (l2.keep kw).set (dv.keep kk), by rw [List.length_set]; exact z2⟩
    exact ⟨a, ys, k, j, show ov = .ref a from do1, show iv = .int k from di, hh, by rw [l2.len]; exact hx, q ρ _ σ _ p2 kk (R.keep kk o3)⟩) (fun x Ω' c d H' hp k o r => qx c d H' ⟨x, Ω', hp, k1.trans k, o, r⟩)) fun x Ω' c d H' hp k o r => qx c d H' ⟨x, Ω', hp, k, o, r⟩
/-- a cell becomes data (nothing runs) -/
theorem freeze {g : Gh} {σ : L2.St} {H : Hp} {ρ : En} {Ω : Om} {i : Nat} {a : Addr} {ts : List Tr} (R : Rel K g σ H ρ Ω) (h1 : ρ[i]? = some (some (.obj a))) (h2 : Ω a = some (.lst ts)) : Rel K g σ H (ρ.set i (some (.lst ts))) (cut Ω a) := by
  have R1 := R.keep Keep.freeze (R.om.freeze (a := a))
  obtain ⟨v, ev, dv⟩ := R.env i _ h1
  obtain ⟨xs, h3, h4, h5⟩ := (R.om.ce a _ h2).2
  have hd : ∀ d, g.dr ≠ some (d, a) := fun d e => by
    obtain ⟨_, _, _, _, _, _, _, _, h7, _⟩ := R.om.dr d a e
    rw [h2] at h7
    cases h7
  have hn : NM g (cut Ω a) a := ⟨cut_same, hd, (R.om.ce a _ h2).1⟩
  have R2 := R1.set (v := v) (t := .lst ts) (i := i) ⟨a, xs, dv, hn, h3, h4.keep Keep.freeze, h5⟩
  have es : σ.set i (some v) = σ := by
    apply List.ext_getElem?
    intro j
    by_cases hj : i = j
    · subst hj
      rw [List.getElem?_set_self ((List.getElem?_eq_some_iff.mp ev).1), ev]
    · rw [List.getElem?_set_ne hj]
  rw [es] at R2
  exact R2
/-- what follows may take the cell of slot i as data -/
def dThaw (i : Nat) (d : DS) : DS := fun D ρ Ω => d D ρ Ω ∨ ∃ a ts, ρ[i]? = some (some (.obj a)) ∧ Ω a = some (.lst ts) ∧ d D (ρ.set i (some (.lst ts))) (cut Ω a)
theorem sim_thaw {i : Nat} {ts : TS} {ds : DS} (h : SimS K G E ts ds) : SimS K G E ts (dThaw i ds) := fun g σ H ρ Ω D DD hG R p e => by
  rcases p with p | ⟨a, us, h1, h2, p⟩
  · exact h g σ H ρ Ω D DD hG R p e
  · exact h g σ H _ _ D DD hG (freeze R h1 h2) p (e.at Keep.freeze)
/-- return: the cell of slot i may become data first -/
def dRetT (i : Nat) (de : DE) : DS := dThaw i (dRet de)
theorem sim_retThaw {i : Nat} {te : TE} {de : DE} (h : SimE K G E te de) : SimS K G E (tRet te) (dRetT i de) := sim_thaw (sim_ret h)
end
end LT

namespace LT
open PySem PySem.Spec PyProof.Rows L2 L2H LL
section
variable {K : PySem.W.Frag} {G : List (Value × Option Addr × XV) → Prop} {E : EK}
/-! ### == of data -/
mutual
def toP : Tr → PyData
  | .bl b => .bool b
  | .int i => .int i
  | .str x => .str x
  | .lst ts => .list (toPs ts)
  | .tup ts => .tuple (toPs ts)
  | _ => .none
def toPs : List Tr → List PyData
  | [] => []
  | t :: ts => toP t :: toPs ts
end
mutual
/-- no dict, no cell in it -/
def plainT : Tr → Bool
  | .dic _ _ => false
  | .obj _ => false
  | .drw => false
  | .ty _ => false
  | .lst ts => plainTs ts
  | .tup ts => plainTs ts
  | _ => true
def plainTs : List Tr → Bool
  | [] => true
  | t :: ts => plainT t && plainTs ts
end
mutual
theorem dp_of {dr : Option (Addr × Addr)} {F : Addr → Prop} {H : Hp} : ∀ {v : V} (t : Tr), VD K dr F H v t → plainT t = true → Dp K H v (toP t)
  | _, .non, h, _ => by rw [show _ = V.non from h]; exact .non
  | _, .bl b, h, _ => by rw [show _ = V.bl b from h]; exact .bl b
  | _, .int b, h, _ => by rw [show _ = V.int b from h]; exact .int b
  | _, .str b, h, _ => by rw [show _ = V.str b from h]; exact .str b
  | _, .lst ts, h, p => by
    obtain ⟨a, xs, rfl, s, d, _⟩ := sql h
    exact .lst s (dps_of ts d p)
  | _, .tup ts, h, p => by
    obtain ⟨a, xs, rfl, s, d, _⟩ := sqt h
    exact .tup s (dps_of ts d p)
  | _, .dic _ _, _, p => by cases p
  | _, .obj _, _, p => by cases p
  | _, .drw, _, p => by cases p
  | _, .ty _, _, p => by cases p
theorem dps_of {dr : Option (Addr × Addr)} {F : Addr → Prop} {H : Hp} : ∀ {vs : List V} (ts : List Tr), VDL K dr F H vs ts → plainTs ts = true → DpAll K H vs (toPs ts)
  | _, [], h, _ => by rw [show _ = [] from h]; exact .nil
  | _, t :: ts, h, p => by
    obtain ⟨v, vs, rfl, h1, h2⟩ := h
    have p' := Bool.and_eq_true_iff.mp (show (plainT t && plainTs ts) = true from p)
    exact .cons (dp_of t h1 p'.1) (dps_of ts h2 p'.2)
end
def eqT (x y : Tr) : Bool := PyData.eqv (toP x) (toP y)
def okEq (x : Tr) : Bool := plainT x && SeqAt.shaped (toP x)
def dEqD (f : Bool → Bool) : Tr → Tr → Om → PT' → Prop := fun x y Ω P => okEq x = true ∧ okEq y = true ∧ P (.bl (f (eqT x y))) Ω
theorem simr_EqD : SimR K (rEqD K) (dEqD fun b => b) := fun g H Ω x y tx ty P Q o d1 d2 ⟨h1, h2, p⟩ q =>
  have a := Bool.and_eq_true_iff.mp h1
  have b := Bool.and_eq_true_iff.mp h2
  ⟨_, _, dp_of tx d1 a.1, dp_of ty d2 b.1, a.2, b.2, q _ Ω _ H p .refl o rfl⟩
theorem simr_NeD : SimR K (rNeD K) (dEqD fun b => !b) := fun g H Ω x y tx ty P Q o d1 d2 ⟨h1, h2, p⟩ q =>
  have a := Bool.and_eq_true_iff.mp h1
  have b := Bool.and_eq_true_iff.mp h2
  ⟨_, _, dp_of tx d1 a.1, dp_of ty d2 b.1, a.2, b.2, q _ Ω _ H p .refl o rfl⟩
/-! ### x is None -/
theorem sim_isN {te : TE} {de : DE} (h : SimE K G E te de) : SimE K G E (tIsN te) (fun ρ Ω P PX => de ρ Ω (fun x Ω1 => P (.bl (isNonT x)) Ω1) PX) := fun g σ H ρ Ω P PX Q hG R p q qx =>
  h g σ H ρ Ω _ PX _ hG R p (fun x Ω1 v H1 p1 k1 o1 d1 => by rw [vd_non d1]; exact q _ Ω1 _ H1 p1 k1 o1 rfl) qx
/-! ### dicts -/
def keyT : Tr → Option Key
  | .int i => some (.inl i)
  | .str x => some (.inr x)
  | _ => none
def valT (ks : List Key) (ts : List Tr) (k : Key) : Option Tr := ((ks.zip ts).find? fun kv => decide (kv.1 = k)).map (·.2)
theorem valT_nil {ts : List Tr} {k : Key} : valT [] ts k = none := rfl
theorem valT_cons {a : Key} {ks : List Key} {t : Tr} {ts : List Tr} {k : Key} : valT (a :: ks) (t :: ts) k = if a = k then some t else valT ks ts k := by
  unfold valT
  rw [List.zip_cons_cons, List.find?_cons]
  by_cases h : a = k
  · simp [h]
  · simp [h]
theorem vd_key {dr : Option (Addr × Addr)} {F : Addr → Prop} {H : Hp} {v : V} {t : Tr} {k : Key} (d : VD K dr F H v t) (h : keyT t = some k) : v = kV k := by
  cases t with
  | int i => cases h; exact d
  | str i => cases h; exact d
  | _ => cases h
theorem val_of {dr : Option (Addr × Addr)} {F : Addr → Prop} {H : Hp} {k : Key} : ∀ {ks : List Key} {xs : List V} {ts : List Tr}, VDL K dr F H xs ts → ts.length = ks.length → (valV (ks.zip xs) k = none ∧ valT ks ts k = none) ∨ ∃ v t, valV (ks.zip xs) k = some v ∧ valT ks ts k = some t ∧ VD K dr F H v t
  | [], _, _, _, _ => .inl ⟨rfl, rfl⟩
  | a :: ks, xs, [], _, hl => by cases hl
  | a :: ks, xs, t :: ts, d, hl => by
    obtain ⟨v, vs, rfl, d1, d2⟩ := d
    rw [valT_cons]
    by_cases h : a = k
    · subst h
      rw [if_pos rfl]
      exact .inr ⟨v, t, by rw [List.zip_cons_cons, valV_pos rfl], rfl, d1⟩
    · rw [if_neg h]
      rw [List.zip_cons_cons, valV_neg h]
      exact val_of d2 (by simpa using hl)
def dGet (dd dk : DE) : DE := fun ρ Ω P PX => dd ρ Ω (fun x Ω1 => dk ρ Ω1 (fun y Ω2 => ∃ ks ts k t, asD x Ω2 = some (ks, ts) ∧ keyT y = some k ∧ valT ks ts k = some t ∧ P t Ω2) PX) PX
theorem sim_dget {td tk : TE} {dd dk : DE} (hd : SimE K G E td dd) (hk : SimE K G E tk dk) : SimE K G E (tDGet td tk) (dGet dd dk) := fun g σ H ρ Ω P PX Q hG R p q qx =>
  hd g σ H ρ Ω _ PX _ hG R p (fun x Ω1 v H1 p1 k1 o1 d1 => hk g σ H1 ρ Ω1 _ PX _ hG (R.keep k1 o1) p1 (fun y Ω2 u H2 ⟨ks, ts, k, t, e1, e2, e3, p2⟩ k2 o2 d2 => by
    obtain ⟨a, xs, rfl, h1, h2, h3, _⟩ := at_D o2 (d1.keep k2) e1
    obtain rfl := vd_key d2 e2
    rcases val_of (k := k) h2 h3 with ⟨_, z⟩ | ⟨w, t', z1, z2, dw⟩
    · rw [e3] at z; cases z
    · rw [e3] at z2
      cases z2
      exact ⟨a, w, rfl, by rw [← z1]; exact DGet.k h1, q _ Ω2 _ H2 p2 (k1.trans k2) o2 dw⟩) (qx.at k1)) qx
def dGet2 (dd dk dx : DE) : DE := fun ρ Ω P PX => dd ρ Ω (fun x Ω1 => (asD x Ω1).isSome = true ∧ dk ρ Ω1 (fun y Ω2 => dx ρ Ω2 (fun z Ω3 => ∃ ks ts k, asD x Ω3 = some (ks, ts) ∧ keyT y = some k ∧ P ((valT ks ts k).getD z) Ω3) PX) PX) PX
theorem isD_of {g : Gh} {H : Hp} {Ω : Om} {v : V} {t : Tr} (o : OmOk K g H Ω) (d : VD K g.dr (NM g Ω) H v t) (h : (asD t Ω).isSome = true) : ∃ a, v = .ref a ∧ IsD H a := by
  obtain ⟨⟨ks, ts⟩, e⟩ := Option.isSome_iff_exists.mp h
  obtain ⟨a, xs, rfl, h1, _⟩ := at_D o d e
  exact ⟨a, rfl, .inl ⟨_, .inl h1⟩⟩
theorem sim_dget2 {td tk tx : TE} {dd dk dx : DE} (hd : SimE K G E td dd) (hk : SimE K G E tk dk) (hx : SimE K G E tx dx) : SimE K G E (tDGet2 td tk tx) (dGet2 dd dk dx) := fun g σ H ρ Ω P PX Q hG R p q qx =>
  hd g σ H ρ Ω _ PX _ hG R p (fun x Ω1 v H1 ⟨hs, p1⟩ k1 o1 d1 => by
    obtain ⟨a, rfl, isd⟩ := isD_of o1 d1 hs
    refine ⟨a, rfl, isd, hk g σ H1 ρ Ω1 _ PX _ hG (R.keep k1 o1) p1 (fun y Ω2 u H2 p2 k2 o2 d2 => hx g σ H2 ρ Ω2 _ PX _ hG (R.keep (k1.trans k2) o2) p2 (fun z Ω3 zz H3 ⟨ks, ts, k, e1, e2, p3⟩ k3 o3 d3 => ?_) (qx.at (k1.trans k2))) (qx.at k1)⟩
    obtain ⟨b, xs, e, h1, h2, h3, _⟩ := at_D o3 (d1.keep (k2.trans k3)) e1
    cases e
    obtain rfl := vd_key (d2.keep k3) e2
    have kk := (k1.trans k2).trans k3
    rcases val_of (k := k) h2 h3 with ⟨z1, z2⟩ | ⟨w, t', z1, z2, dw⟩
    · exact ⟨none, by rw [← z1]; exact DGet.k h1, by rw [z2] at p3; exact q _ Ω3 _ H3 p3 kk o3 d3⟩
    · exact ⟨some w, by rw [← z1]; exact DGet.k h1, by rw [z2] at p3; exact q _ Ω3 _ H3 p3 kk o3 dw⟩) qx
def dGet1 (dd dk : DE) : DE := fun ρ Ω P PX => dd ρ Ω (fun x Ω1 => (asD x Ω1).isSome = true ∧ dk ρ Ω1 (fun y Ω2 => ∃ ks ts k, asD x Ω2 = some (ks, ts) ∧ keyT y = some k ∧ P ((valT ks ts k).getD .non) Ω2) PX) PX
theorem sim_dget1 {td tk : TE} {dd dk : DE} (hd : SimE K G E td dd) (hk : SimE K G E tk dk) : SimE K G E (tDGet1 td tk) (dGet1 dd dk) := fun g σ H ρ Ω P PX Q hG R p q qx =>
  hd g σ H ρ Ω _ PX _ hG R p (fun x Ω1 v H1 ⟨hs, p1⟩ k1 o1 d1 => by
    obtain ⟨a, rfl, isd⟩ := isD_of o1 d1 hs
    refine ⟨a, rfl, isd, hk g σ H1 ρ Ω1 _ PX _ hG (R.keep k1 o1) p1 (fun y Ω2 u H2 ⟨ks, ts, k, e1, e2, p3⟩ k2 o2 d2 => ?_) (qx.at k1)⟩
    obtain ⟨b, xs, e, h1, h2, h3, _⟩ := at_D o2 (d1.keep k2) e1
    cases e
    obtain rfl := vd_key d2 e2
    have kk := k1.trans k2
    rcases val_of (k := k) h2 h3 with ⟨z1, z2⟩ | ⟨w, t', z1, z2, dw⟩
    · exact ⟨none, by rw [← z1]; exact DGet.k h1, by rw [z2] at p3; exact q _ Ω2 _ H2 p3 kk o2 rfl⟩
    · exact ⟨some w, by rw [← z1]; exact DGet.k h1, by rw [z2] at p3; exact q _ Ω2 _ H2 p3 kk o2 dw⟩) qx
def dIn (neg : Bool) (dk dd : DE) : DE := fun ρ Ω P PX => dk ρ Ω (fun y Ω1 => dd ρ Ω1 (fun x Ω2 => ∃ ks ts k, asD x Ω2 = some (ks, ts) ∧ keyT y = some k ∧ P (.bl (if neg then !(valT ks ts k).isSome else (valT ks ts k).isSome)) Ω2) PX) PX
theorem sim_din {td tk : TE} {dd dk : DE} (hk : SimE K G E tk dk) (hd : SimE K G E td dd) : SimE K G E (tDIn tk td) (dIn false dk dd) := fun g σ H ρ Ω P PX Q hG R p q qx =>
  hk g σ H ρ Ω _ PX _ hG R p (fun y Ω1 u H1 p1 k1 o1 d1 => hd g σ H1 ρ Ω1 _ PX _ hG (R.keep k1 o1) p1 (fun x Ω2 v H2 ⟨ks, ts, k, e1, e2, p2⟩ k2 o2 d2 => by
    obtain ⟨a, xs, rfl, h1, h2, h3, _⟩ := at_D o2 d2 e1
    obtain rfl := vd_key d1 e2
    refine ⟨a, _, rfl, DGet.k h1, ?_⟩
    rcases val_of (k := k) h2 h3 with ⟨z1, z2⟩ | ⟨w, t', z1, z2, dw⟩
    · rw [z1]; rw [z2] at p2; exact q _ Ω2 _ H2 p2 (k1.trans k2) o2 rfl
    · rw [z1]; rw [z2] at p2; exact q _ Ω2 _ H2 p2 (k1.trans k2) o2 rfl) (qx.at k1)) qx
theorem sim_dnotin {td tk : TE} {dd dk : DE} (hk : SimE K G E tk dk) (hd : SimE K G E td dd) : SimE K G E (tDNotIn tk td) (dIn true dk dd) := fun g σ H ρ Ω P PX Q hG R p q qx =>
  hk g σ H ρ Ω _ PX _ hG R p (fun y Ω1 u H1 p1 k1 o1 d1 => hd g σ H1 ρ Ω1 _ PX _ hG (R.keep k1 o1) p1 (fun x Ω2 v H2 ⟨ks, ts, k, e1, e2, p2⟩ k2 o2 d2 => by
    obtain ⟨a, xs, rfl, h1, h2, h3, _⟩ := at_D o2 d2 e1
    obtain rfl := vd_key d1 e2
    refine ⟨a, _, rfl, DGet.k h1, ?_⟩
    rcases val_of (k := k) h2 h3 with ⟨z1, z2⟩ | ⟨w, t', z1, z2, dw⟩
    · rw [z1]; rw [z2] at p2; exact q _ Ω2 _ H2 p2 (k1.trans k2) o2 rfl
    · rw [z1]; rw [z2] at p2; exact q _ Ω2 _ H2 p2 (k1.trans k2) o2 rfl) (qx.at k1)) qx
/-- an entry in its place, or at the end -/
def putT (kvs : List (Key × Tr)) (k : Key) (v : Tr) : List (Key × Tr) :=
  if (kvs.any fun kv => decide (kv.1 = k)) = true then kvs.map (fun kv => if kv.1 = k then (kv.1, v) else kv) else kvs ++ [(k, v)]
def dicOf (kvs : List (Key × Tr)) : Tr := .dic (kvs.map (·.1)) (kvs.map (·.2))
/-- the same keys, the values' data -/
def KVD (K : PySem.W.Frag) (dr : Option (Addr × Addr)) (F : Addr → Prop) (H : Hp) (kvs : List (Key × V)) (us : List (Key × Tr)) : Prop := kvs.map (·.1) = us.map (·.1) ∧ VDL K dr F H (kvs.map (·.2)) (us.map (·.2))
theorem KVD.put {dr : Option (Addr × Addr)} {F : Addr → Prop} {H : Hp} {k : Key} {v : V} {t : Tr} (d : VD K dr F H v t) : ∀ {kvs : List (Key × V)} {us : List (Key × Tr)}, KVD K dr F H kvs us → KVD K dr F H (putK kvs k v) (putT us k t) := by
  have any : ∀ {kvs : List (Key × V)} {us : List (Key × Tr)}, KVD K dr F H kvs us → (kvs.any fun kv => decide (kv.1 = k)) = (us.any fun kv => decide (kv.1 = k)) := fun {kvs us} h => by
    have e1 : (kvs.any fun kv => decide (kv.1 = k)) = (kvs.map (·.1)).any fun x => decide (x = k) := by rw [List.any_map]; rfl
    have e2 : (us.any fun kv => decide (kv.1 = k)) = (us.map (·.1)).any fun x => decide (x = k) := by rw [List.any_map]; rfl
    rw [e1, e2, h.1]
  have mp : ∀ {kvs : List (Key × V)} {us : List (Key × Tr)}, KVD K dr F H kvs us → KVD K dr F H (kvs.map (fun kv => if kv.1 = k then (kv.1, v) else kv)) (us.map (fun kv => if kv.1 = k then (kv.1, t) else kv)) := by
    intro kvs
    induction kvs with
    | nil =>
      intro us h
      cases us with
      | nil => exact h
      | cons u us => cases h.1
    | cons kv kvs ih =>
      intro us h
      cases us with
      | nil => cases h.1
      | cons u us =>
        obtain ⟨h1, w, ws, e, h2, h3⟩ := h
        simp only [List.map_cons, List.cons.injEq] at h1 e
        have r := ih (us := us) ⟨h1.2, by rw [e.2]; exact h3⟩
        obtain ⟨k1, v1⟩ := kv
        obtain ⟨k2, t2⟩ := u
        simp only at h1 e h2
        obtain ⟨rfl, h1'⟩ := h1
        obtain ⟨rfl, e'⟩ := e
        by_cases hk : k1 = k
        · simp only [List.map_cons, hk, if_true]
          exact ⟨by simp only [List.map_cons]; rw [r.1], v, _, rfl, d, r.2⟩
        · simp only [List.map_cons, hk, if_false]
          exact ⟨by simp only [List.map_cons]; rw [r.1], _, _, rfl, h2, r.2⟩
  intro kvs us h
  unfold putK putT
  rw [any h]
  by_cases hc : (us.any fun kv => decide (kv.1 = k)) = true
  · rw [if_pos hc, if_pos hc]
    exact mp h
  · rw [if_neg hc, if_neg hc]
    exact ⟨by rw [List.map_append, List.map_append, h.1]; rfl, by rw [List.map_append, List.map_append]; exact h.2.app _ (.one d)⟩
theorem putT_len {kvs : List (Key × Tr)} {k : Key} {t : Tr} : (putT kvs k t).length ≤ kvs.length + 1 := by
  unfold putT
  split
  · rw [List.length_map]; omega
  · rw [List.length_append]; simp
theorem KVD.len {dr : Option (Addr × Addr)} {F : Addr → Prop} {H : Hp} {kvs : List (Key × V)} {us : List (Key × Tr)} (h : KVD K dr F H kvs us) : kvs.length = us.length := by
  have := congrArg List.length h.1
  simpa using this
theorem zip_fst_snd {α β : Type} : ∀ (l : List (α × β)), (l.map (·.1)).zip (l.map (·.2)) = l
  | [] => rfl
  | (a, b) :: l => by simp only [List.map_cons, List.zip_cons_cons, zip_fst_snd l]
/-- a new dict: data, or a cell -/
def dicNew (us : List (Key × Tr)) (Ω : Om) (P : PT') : Prop := P (dicOf us) Ω ∨ ∀ a, Ω a = none → P (.obj a) (put Ω a (.dic (us.map (·.1)) (us.map (·.2))))
def dDc (di : DI) (dg : DG) (dt : DT) (dk dv : DE) (vs : List Nat) : DE := fun ρ Ω P PX => di ρ Ω (fun items st Ω1 => items.length ≤ 1000000 ∧ ∃ W : Nat → List (Key × Tr) → Om → Prop, W 0 [] Ω1 ∧ (∀ i acc Ω', W i acc Ω' → st Ω') ∧
  (∀ i t acc Ω', items[i]? = some t → W i acc Ω' → dg t (wipeT ρ vs) Ω' (fun ρ2 Ω2 => dt ρ2 Ω2 (fun b Ω3 => if b = true then dk ρ2 Ω3 (fun y Ω4 => dv ρ2 Ω4 (fun z Ω5 => ∃ k, keyT y = some k ∧ W (i + 1) (putT acc k z) Ω5) nox) nox else W (i + 1) acc Ω3) nox) nox) ∧
  ∀ acc Ω', W items.length acc Ω' → dicNew acc Ω' P) PX
theorem sim_dc {wi : TI} {tg : TG} {tt : TT} {tk te : TE} {vs : List Nat} {di : DI} {dg : DG} {dt : DT} {dk de : DE} (hi : SimI K G E wi di) (hg : SimG K G E tg dg) (gi : GIn vs tg) (ht : SimT K G E tt dt) (hk : SimE K G E tk dk) (he : SimE K G E te de) : SimE K G E (tDc wi tg tt tk te vs) (dDc di dg dt dk de vs) := fun g σ H ρ Ω P PX Q hG R h q qx => by
  refine hi g σ H ρ Ω _ _ _ hG R h (fun items st Ω1 J H1 h1 k1 o1 it => ?_) qx
  obtain ⟨hz, W, w0, wst, step, fin⟩ := h1
  intro D nD
  have npr : ¬ g.pr D := not_pr o1 nD
  refine ⟨fun i m H' => m + i = items.length ∧ ∃ xs acc Ω', H' D = some (.dK xs) ∧ KVD K g.dr (NM (g.with D) Ω') H' xs acc ∧ acc.length ≤ i ∧ Keep g H1 Ω1 H' Ω' ∧ OmOk K (g.with D) H' Ω' ∧ W i acc Ω', ⟨items.length, by omega, [], [], Ω1, upd_same, ⟨rfl, rfl⟩, Nat.le_refl _, .new nD, o1.more nD, w0⟩, ?_⟩
  rintro i m H' ⟨hm, xs, acc, Ω', eD, da, hl, k2, o2, w⟩
  obtain ⟨s1, s2⟩ := it (g.with D) (.inr ⟨D, nD, rfl⟩) i H' Ω' k2 o2 (wst _ _ _ w)
  have nΩ : ∀ {H2 : Hp} {Ω2 : Om}, OmOk K (g.with D) H2 Ω2 → Ω2 D = none := fun {H2 Ω2} o => by
    cases e : Ω2 D with
    | none => rfl
    | some c => exact absurd (.inr rfl) (o.ce D c e).1
  have nd : ∀ d, g.dr ≠ some (d, D) := o1.nodr nD
  rcases Nat.lt_or_ge i items.length with hlt | hge
  · obtain ⟨go, yl⟩ := s2 hlt
    refine .inr ⟨go, fun H2 => m - 1 + (i + 1) = items.length ∧ ∃ xs acc Ω', H2 D = some (.dK xs) ∧ KVD K g.dr (NM (g.with D) Ω') H2 xs acc ∧ acc.length ≤ i + 1 ∧ Keep g H1 Ω1 H2 Ω' ∧ OmOk K (g.with D) H2 Ω' ∧ W (i + 1) acc Ω', fun H2 z => ⟨m - 1, by omega, z⟩, fun x H'' y => ?_⟩
    obtain ⟨k3, o3, t, et, dd⟩ := yl x H'' y
    have Rw : Rel K (g.with D) (L2.wipe σ vs) H'' (wipeT ρ vs) Ω' := by
      have k13 := k2.trans k3
      refine ⟨o3, (Rel.wipe R vs).len, fun j u e => ?_⟩
      obtain ⟨v, h1, h2⟩ := ((Rel.wipe R vs).keep k1 o1).env j u e
      exact ⟨v, h1, (h2.more nD).keep (g := g.with D) k13⟩
    have h0 := hg (g.with D) (L2.wipe σ vs) H'' (wipeT ρ vs) Ω' x t _ _ (fun σ2 H2 => tt σ2 H2 fun b H3 => if b = true then tk σ2 H3 fun y H4 => te σ2 H4 fun z H5 => ∃ kvs k, y = kV k ∧ H5 D = some (.dK kvs) ∧ kvs.length < sizeLine ∧ (m - 1 + (i + 1) = items.length ∧ ∃ xs acc_1 Ω', upd H5 D (.dK (putK kvs k z)) D = some (.dK xs) ∧ KVD K g.dr (NM (g.with D) Ω') (upd H5 D (.dK (putK kvs k z))) xs acc_1 ∧ acc_1.length ≤ i + 1 ∧ Keep g H1 Ω1 (upd H5 D (.dK (putK kvs k z))) Ω' ∧ OmOk K (g.with D) (upd H5 D (.dK (putK kvs k z))) Ω' ∧ W (i + 1) acc_1 Ω') else (m - 1 + (i + 1) = items.length ∧ ∃ xs acc Ω', H3 D = some (.dK xs) ∧ KVD K g.dr (NM (g.with D) Ω') H3 xs acc ∧ acc.length ≤ i + 1 ∧ Keep g H1 Ω1 H3 Ω' ∧ OmOk K (g.with D) H3 Ω' ∧ W (i + 1) acc Ω')) hG Rw dd (step i t acc Ω' et w) (fun ρ2 Ω2 σ2 H2 p k4 R4 => ?_) fun _ _ _ ⟨_, _, z, _⟩ => z.elim
    · have h1 := gi _ _ _ _ h0
      refine Eq.mpr (congrArg (tg x (L2.wipe σ vs) H'') ?_) h1
      funext σ2 H2
      rw [wipe_idem]
      exact propext And.comm
    · have k5 := (k2.trans k3).trans k4
      refine ht (g.with D) σ2 H2 ρ2 Ω2 _ _ _ hG R4 p (fun b Ω3 H3 p3 k6 o6 => ?_) AfterX.nox
      have eD2 : H2 D = some (.dK xs) := (k4 D _ (nΩ o3) nd (k3 D _ (nΩ o2) nd eD).1).1
      have eD3 : H3 D = some (.dK xs) := (k6 D _ (nΩ R4.om) nd eD2).1
      have k7 := k5.trans k6
      have ka : Keep (g.with D) H' Ω' H3 Ω3 := (k3.trans k4).trans k6
      by_cases hb : b = true
      · rw [if_pos hb] at p3 ⊢
        refine hk (g.with D) σ2 H3 ρ2 Ω3 _ _ _ hG (R4.keep k6 o6) p3 (fun y Ω4 v H4 p4 k8 o8 d8 => ?_) AfterX.nox
        refine he (g.with D) σ2 H4 ρ2 Ω4 _ _ _ hG (R4.keep (k6.trans k8) o8) p4 (fun z Ω5 u H5 ⟨k, ek, p5⟩ k9 o9 d9 => ?_) AfterX.nox
        have eD4 : H4 D = some (.dK xs) := (k8 D _ (nΩ o6) nd eD3).1
        have eD5 : H5 D = some (.dK xs) := (k9 D _ (nΩ o8) nd eD4).1
        have dac : VDL K g.dr (NM (g.with D) Ω5) H5 (xs.map (·.2)) (acc.map (·.2)) := ((da.2.keep ka).keep (g := g.with D) k8).keep (g := g.with D) k9
        have r := KVD.put (k := k) d9 (show KVD K _ _ H5 xs acc from ⟨da.1, dac⟩)
        have hlen := da.len
        refine ⟨xs, k, vd_key d8 ek, eD5, size_lt (by omega), by omega, _, putT acc k z, Ω5, upd_same, ⟨r.1, r.2.prot⟩, Nat.le_trans putT_len (by omega), ((k7.trans k8).trans k9).prot nD, o9.prot, p5⟩
      · rw [if_neg hb] at p3 ⊢
        exact ⟨by omega, xs, acc, Ω3, eD3, ⟨da.1, VDL.keep (g := g.with D) (v := xs.map (·.2)) (t := acc.map (·.2)) da.2 ka⟩, by omega, k7, o6, p3⟩
  · have hi : i = items.length := by omega
    refine .inl ⟨s1 hi, ?_⟩
    have f := fin acc Ω' (hi ▸ w)
    have hlen := da.len
    have ez : (acc.map (·.1)).zip (xs.map (·.2)) = xs := by rw [← da.1]; exact zip_fst_snd xs
    rcases f with f | f
    · exact q _ Ω' _ H' f (k1.trans k2) o2.less ⟨D, xs.map (·.2), rfl, ⟨nΩ o2, nd, npr⟩, by rw [ez]; exact eD, da.2.less, by simp, by rw [List.length_map]; omega⟩
    · have kc : Keep g H1 Ω1 H' (put Ω' D (.dic (acc.map (·.1)) (acc.map (·.2)))) := fun b u hb hd e => ⟨(k2 b u hb hd e).1, by rw [put_ne (ne_of_none e nD)]; exact (k2 b u hb hd e).2⟩
      exact q _ _ _ H' (f D (nΩ o2)) (k1.trans kc) (o2.toCell npr ⟨xs.map (·.2), by rw [ez]; exact eD, (show VDL K (g.with D).dr (NM (g.with D) Ω') H' (xs.map (·.2)) (acc.map (·.2)) from da.2), by simp, by rw [List.length_map]; omega⟩) rfl
end
end LT

namespace LT
open PySem PySem.Spec PyProof.Rows L2 L2H LL
section
variable {K : PySem.W.Frag} {G : List (Value × Option Addr × XV) → Prop} {E : EK}
/-! ### raise, try -/
/-- n.__init__: the fields are kept in order, then told -/
def sp_Exc (K : PySem.W.Frag) (cn : Str) (ns : List Str) : Sp := fun vs H Q _ => ∃ (a : Addr) (us : List V), vs = .ref a :: us ∧ us.length = ns.length ∧ H a = some (exo a (He.ga K cn) none) ∧
  ∀ d p1 p2 H', H d = none → d ≠ a → H' a = some (exo a (He.ga K cn) (some d)) → H' d = some (exd d (("told", .ref p2) :: (ns.zip us).reverse)) → H' p1 = some (.tup us) → H' p2 = some (.tup [.str cn, .ref p1]) → H p1 = none → H p2 = none → (∀ b o, b ≠ a → H b = some o → H' b = some o) → Q .non H'
theorem exd_tup' {a : Addr} {vs : List (Str × V)} {xs : List V} : ¬ exd a vs = .tup xs := exd_tup
def excT (cn : Str) (ns : List Str) (ts : List Tr) : XV := ⟨cn, "told" :: ns.reverse, .tup [.str cn, .tup ts] :: ts.reverse⟩
def dRaise (cn : Str) (ns : List Str) (da : DA) : DS := fun D ρ Ω => da ρ Ω (fun ts Ω' => ts.length = ns.length ∧ ts.length ≤ 100 ∧ D.ex ρ (excT cn ns ts) Ω') (fun x Ω' => D.ex ρ x Ω')
theorem VDL.rev {dr : Option (Addr × Addr)} {F : Addr → Prop} {H : Hp} : ∀ {xs : List V} {ts : List Tr}, VDL K dr F H xs ts → VDL K dr F H xs.reverse ts.reverse
  | _, [], h => by rw [show _ = [] from h]; rfl
  | _, t :: ts, h => by
    obtain ⟨v, vs, rfl, h1, h2⟩ := h
    rw [List.reverse_cons, List.reverse_cons]
    exact VDL.app _ (VDL.rev h2) (.one h1)
theorem sim_raise {cn : Str} {ns : List Str} {ta : TA} {da : DA} (ha : SimA K G E ta da) : SimS K G E (fun _ σ H => tMkO (He.ga K cn) (sp_Exc K cn ns) [] ta σ H fun cls d H' => E σ cls d H') (dRaise cn ns da) := fun g σ H ρ Ω D DD hG R p e => by
  refine ha g σ H ρ Ω _ _ _ hG R p (fun ts Ω1 vs H1 ⟨hl, hz, p1⟩ k1 o1 d1 => ?_) (e.exx R)
  refine ⟨by rw [d1.len]; omega, fun a na => ?_⟩
  rw [List.append_nil]
  refine ⟨a, vs, rfl, by rw [d1.len, hl], upd_same, fun d p1' p2' H' hd hne e1 e2 e3 e4 f1 f2 kk => ⟨rfl, d, _, e1, e2, ?_, ?_⟩⟩
  · rw [upd_ne hne] at hd; exact hd
  · have fd : H1 d = none := by rw [upd_ne hne] at hd; exact hd
    have na1 : p1' ≠ a := fun z => by rw [z, upd_same] at f1; cases f1
    have na2 : p2' ≠ a := fun z => by rw [z, upd_same] at f2; cases f2
    have nd1 : p1' ≠ d := fun z => by rw [z, e2] at e3; exact exd_tup' (Option.some.inj e3)
    have nd2 : p2' ≠ d := fun z => by rw [z, e2] at e4; exact exd_tup' (Option.some.inj e4)
    rw [upd_ne na1] at f1
    rw [upd_ne na2] at f2
    have nb : ∀ b o, H1 b = some o → upd (del H' a) d (.xd (("told", .ref p2') :: (ns.zip vs).reverse)) b = some o := fun b o q => by
      have nba : b ≠ a := ne_of_none q na
      rw [upd_ne (ne_of_none q fd), del_ne nba]
      exact kk b o nba (by rw [upd_ne nba]; exact q)
    have k2 : Keep g H1 Ω1 (upd (del H' a) d (.xd (("told", .ref p2') :: (ns.zip vs).reverse))) Ω1 := fun b o h _ q => ⟨nb b o q, h⟩
    have o2 : OmOk K g (upd (del H' a) d (.xd (("told", .ref p2') :: (ns.zip vs).reverse))) Ω1 := by
      refine ⟨fun d' s' q => ?_, fun b c q => ?_, fun q hq => (o1.ex q hq).keep k2, fun b hb => ?_⟩
      · have D0 := o1.dr d' s' q
        exact D0.imp (D0.drw.same nb).st (fun b o _ _ q => nb b o q) fun _ q _ => q
      · obtain ⟨u, hu⟩ := (o1.ce b c q).2.tracked
        exact ⟨(o1.ce b c q).1, (o1.ce b c q).2.imp (by rw [nb b u hu, hu]) fun b' o' f q' => ⟨f, nb b' o' q'⟩⟩
      · obtain ⟨u, hu⟩ := o1.pt b hb
        exact ⟨u, nb b u hu⟩
    have hp1 : upd (del H' a) d (.xd (("told", .ref p2') :: (ns.zip vs).reverse)) p1' = some (.tup vs) := by rw [upd_ne nd1, del_ne na1]; exact e3
    have hp2 : upd (del H' a) d (.xd (("told", .ref p2') :: (ns.zip vs).reverse)) p2' = some (.tup [.str cn, .ref p1']) := by rw [upd_ne nd2, del_ne na2]; exact e4
    have n1 : NM g Ω1 p1' := NM.new o1 f1 (not_pr o1 f1)
    have n2 : NM g Ω1 p2' := NM.new o1 f2 (not_pr o1 f2)
    have d2 := d1.keep k2
    refine e.ex _ ρ Ω1 σ _ _ _ p1 (k1.trans k2) (R.keep (k1.trans k2) o2) ⟨rfl, d, _, rfl, NM.new o1 fd (not_pr o1 fd), upd_same, ?_, ?_⟩
    · show ("told" : Str) :: ((ns.zip vs).reverse).map (·.1) = ("told" : Str) :: ns.reverse
      rw [List.map_reverse, List.map_fst_zip (by rw [d1.len, hl]; exact Nat.le_refl _)]
    · show VDL K g.dr _ _ (V.ref p2' :: ((ns.zip vs).reverse).map (·.2)) (Tr.tup [.str cn, .tup ts] :: ts.reverse)
      rw [List.map_reverse, List.map_snd_zip (by rw [d1.len, hl]; exact Nat.le_refl _)]
      refine .cons ⟨p2', _, rfl, .inl ⟨n2, hp2⟩, .cons rfl (.one ⟨p1', vs, rfl, .inl ⟨n1, hp1⟩, d2, by omega⟩), by simp⟩ d2.rev
/-- the exceptions that are known in the suite -/
def GX (G : List (Value × Option Addr × XV) → Prop) (cls : Value) (d : Option Addr) (x : XV) : List (Value × Option Addr × XV) → Prop := fun l => ∃ r, l = (cls, d, x) :: r ∧ G r
def Gh.and (g : Gh) (p : Value × Option Addr × XV) : Gh := ⟨g.dr, g.pr, p :: g.ex⟩
theorem OmOk.and {g : Gh} {H : Hp} {Ω : Om} {cls : Value} {d : Option Addr} {x : XV} (o : OmOk K g H Ω) (h : XR K g Ω H cls d x) : OmOk K (g.and (cls, d, x)) H Ω := by
  refine ⟨o.dr, fun a c q => ⟨(o.ce a c q).1, (by cases c <;> exact (o.ce a _ q).2)⟩, fun p hp => ?_, o.pt⟩
  rcases List.mem_cons.mp hp with rfl | hp
  · exact h
  · exact o.ex p hp
theorem OmOk.drop {g : Gh} {H : Hp} {Ω : Om} {p : Value × Option Addr × XV} (o : OmOk K (g.and p) H Ω) : OmOk K g H Ω :=
  ⟨o.dr, fun a c q => ⟨(o.ce a c q).1, (by cases c <;> exact (o.ce a _ q).2)⟩, fun p hp => o.ex p (List.mem_cons_of_mem _ hp), o.pt⟩
theorem Rel.and {g : Gh} {σ : L2.St} {H : Hp} {ρ : En} {Ω : Om} {cls : Value} {d : Option Addr} {x : XV} (R : Rel K g σ H ρ Ω) (h : XR K g Ω H cls d x) : Rel K (g.and (cls, d, x)) σ H ρ Ω := ⟨R.om.and h, R.len, R.env⟩
theorem Rel.drop {g : Gh} {σ : L2.St} {H : Hp} {ρ : En} {Ω : Om} {p : Value × Option Addr × XV} (R : Rel K (g.and p) σ H ρ Ω) : Rel K g σ H ρ Ω := ⟨R.om.drop, R.len, R.env⟩
def dTry (K : PySem.W.Frag) (c : Value) (i : Nat) (db : DS) (ds : Addr → XV → DS) : DS := fun DD ρ Ω => db { DD with ex := fun ρ' x Ω' => ∃ b, PySem.W.exmOne K (.ref (He.ga K x.cls)) c = some b ∧
  (b = true → ∀ a, ds a x { nx := fun ρ2 Ω2 => DD.nx (ρ2.set i none) Ω2, rt := DD.rt, bk := fun ρ2 Ω2 => DD.bk (ρ2.set i none) Ω2, ct := fun ρ2 Ω2 => DD.ct (ρ2.set i none) Ω2, ex := fun _ _ _ => False } (ρ'.set i (some (.obj a))) Ω') ∧ (b = false → DD.ex ρ' x Ω') } ρ Ω
theorem sim_try {c : Value} {i : Nat} {tb : WX → TS} {ts : Addr → Value → Option Addr → TS} {Wout : WX} {db : DS} {ds : Addr → XV → DS} (hE : ∀ σ cls d H, E σ cls d H = Wout cls d σ H) (hb : ∀ W : WX, SimS K G (fun σ cls d H => W cls d σ H) (tb W) db)
    (hs : ∀ a cls d x, SimS K (GX G cls d x) (fun _ _ _ _ => False) (ts a cls d) (ds a x)) : SimS K G E (fun D σ H => tb (wAs K c i ts Wout D) D σ H) (dTry K c i db ds) := fun g σ H ρ Ω D DD hG R p e => by
  refine hb _ g σ H ρ Ω D _ hG R p ⟨e.nx, e.rt, e.bk, e.ct, fun x ρ' Ω' σ' cls d H' ⟨b, eb, h1, h2⟩ k R' xr => ?_⟩
  have ec : cls = .ref (He.ga K x.cls) := xr.1
  refine ⟨b, by rw [ec]; exact eb, fun hb' a na => ?_, fun hb' => by rw [← hE]; exact e.ex x ρ' Ω' σ' cls d H' (h2 hb') k R' xr⟩
  refine hs a cls d x (g.and (cls, d, x)) _ H' _ Ω' _ _ ⟨g.ex, rfl, hG⟩ ((R'.set (v := .ref a) (t := .obj a) rfl).and xr) (h1 hb' a) ⟨fun ρ2 Ω2 σ2 H2 p2 k2 r2 => e.nx _ Ω2 _ H2 p2 (k.trans k2) r2.drop.none, fun t Ω2 v H2 p2 k2 o2 d2 => e.rt t Ω2 v H2 p2 (k.trans k2) o2.drop d2, fun ρ2 Ω2 σ2 H2 p2 k2 r2 => e.bk _ Ω2 _ H2 p2 (k.trans k2) r2.drop.none, fun ρ2 Ω2 σ2 H2 p2 k2 r2 => e.ct _ Ω2 _ H2 p2 (k.trans k2) r2.drop.none, fun _ _ _ _ _ _ _ z => z.elim⟩
/-- e.f in the suite -/
def dXf (K : PySem.W.Frag) (a : Addr) (x : XV) (C : Addr) (n : Str) (de : DE) : DE := fun ρ Ω P PX => de ρ Ω (fun t Ω1 => ∃ u, t = .obj a ∧ He.ga K x.cls = C ∧ (x.ns.zip x.ts).lookup n = some u ∧ P u Ω1) PX
theorem lookup_vd {dr : Option (Addr × Addr)} {F : Addr → Prop} {H : Hp} {n : Str} {u : Tr} : ∀ {fs : List (Str × V)} {ns : List Str} {ts : List Tr}, fs.map (·.1) = ns → VDL K dr F H (fs.map (·.2)) ts → (ns.zip ts).lookup n = some u → ∃ v, fs.lookup n = some v ∧ VD K dr F H v u
  | [], ns, ts, e, _, h => by
    subst e
    simp at h
  | (m, w) :: fs, ns, ts, e, d, h => by
    subst e
    obtain ⟨t, ts', rfl, d1, d2⟩ := VDL.cons_inv d
    rw [List.map_cons, List.zip_cons_cons, List.lookup_cons] at h
    rw [List.lookup_cons]
    cases q : n == m with
    | true =>
      rw [q] at h
      cases h
      exact ⟨w, rfl, d1⟩
    | false =>
      rw [q] at h
      exact lookup_vd rfl d2 h
theorem sim_xf {a C : Addr} {cls : Value} {d : Option Addr} {x : XV} {n : Str} {te : TE} {de : DE} (h : SimE K (GX G cls d x) E te de) : SimE K (GX G cls d x) E (tXf a cls d C n te) (dXf K a x C n de) := fun g σ H ρ Ω P PX Q hG R p q qx =>
  h g σ H ρ Ω _ PX _ hG R p (fun t Ω1 v H1 ⟨u, e, ec, hl, p1⟩ k1 o1 d1 => by
    subst e
    obtain ⟨r, er, _⟩ := hG
    obtain ⟨ecls, dd, fs, ed, nn, eh, en, dl⟩ := o1.ex (cls, d, x) (by rw [er]; exact List.mem_cons_self)
    obtain ⟨w, hw, dw⟩ := lookup_vd en dl hl
    exact ⟨d1, by rw [← ec]; exact ecls, dd, fs, w, ed, eh, hw, q u Ω1 w H1 p1 k1 o1 dw⟩) qx
def clsV : Tr → Option Value
  | .ty n => some (.type n)
  | .obj a => some (.ref a)
  | _ => none
/-- isinstance(e, c) in the suite -/
def dIsX (K : PySem.W.Frag) (a : Addr) (x : XV) : List Tr → Om → PT' → Prop := fun us Ω P => ∃ c cv b, us = [.obj a, c] ∧ clsV c = some cv ∧ PySem.W.kitOne K (.ref (He.ga K x.cls)) cv = some b ∧ P (.bl b) Ω
theorem sim_isX {a C : Addr} {cls : Value} {d : Option Addr} {x : XV} {ta : TA} {da : DA} (h : SimA K (GX G cls d x) E ta da) : SimE K (GX G cls d x) E (tCB (rIsXC K a C cls d) ta) (fun ρ Ω P PX => da ρ Ω (fun us Ω1 => He.ga K x.cls = C ∧ dIsX K a x us Ω1 P) PX) := fun g σ H ρ Ω P PX Q hG R p q qx =>
  h g σ H ρ Ω _ PX _ hG R p (fun us Ω1 vs H1 ⟨ec, c, cv, b, e, hc, hk, p1⟩ k1 o1 d1 => by
    subst e
    obtain ⟨v, _, rfl, dv, u, _, rfl, du, rfl⟩ := d1
    obtain ⟨r, er, _⟩ := hG
    obtain ⟨ecls, dd, fs, ed, nn, eh, en, dl⟩ := o1.ex (cls, d, x) (by rw [er]; exact List.mem_cons_self)
    obtain rfl : v = .ref a := dv
    have hcv : ClsV u cv := by
      cases c with
      | ty n => cases hc; rw [show u = _ from du]; exact .ty n
      | obj b => cases hc; rw [show u = _ from du]; exact .own b
      | _ => cases hc
    exact ⟨dd, u, cv, b, fs, by rw [← ec]; exact ecls, ed, rfl, hcv, by rw [← ec]; exact hk, eh, q _ Ω1 _ H1 p1 k1 o1 rfl⟩) qx
theorem sim_ref {a : Addr} : SimE K G E (tC (.ref a)) (dC (.obj a)) := fun g σ H ρ Ω P PX Q _ R p q _ => q _ Ω _ H p .refl R.om rfl
def flatK : Tr → Bool
  | .non => true
  | .bl _ => true
  | .int _ => true
  | .str _ => true
  | _ => false
theorem vdl_flat {dr : Option (Addr × Addr)} {F : Addr → Prop} {H : Hp} : ∀ {us : List Tr}, us.all flatK = true → VDL K dr F H (us.map toV) us
  | [], _ => rfl
  | t :: ts, hf => by
    have hf' := Bool.and_eq_true_iff.mp (show (flatK t && ts.all flatK) = true from hf)
    refine ⟨_, _, rfl, ?_, vdl_flat hf'.2⟩
    cases t with
    | non => rfl
    | bl b => rfl
    | int b => rfl
    | str b => rfl
    | _ => cases (show false = true from hf'.1)
theorem sim_const {a : Addr} {us : List Tr} {xs : List V} (hc : ∀ H, SqT K H a xs) (hx : xs = us.map toV) (hf : us.all flatK = true) (hz : us.length ≤ 1000) : SimE K G E (tC (.ref a)) (dC (.tup us)) := fun g σ H ρ Ω P PX Q _ R p q _ =>
  q _ Ω _ H p .refl R.om ⟨a, xs, rfl, .inr ⟨hc, by
    subst hx
    rw [List.all_map, List.all_eq_true]
    intro t ht
    have := List.all_eq_true.mp hf t ht
    cases t <;> first | rfl | cases (show false = true from this)⟩, by subst hx; exact vdl_flat hf, by omega⟩
def dIsN (f : Bool → Bool) : Tr → Tr → Om → PT' → Prop := fun x y Ω P => y = .non ∧ P (.bl (f (isNonT x))) Ω
theorem simr_isN : SimR K rIsN (dIsN fun b => b) := fun g H Ω x y tx ty P Q o d1 d2 ⟨e, p⟩ q => by
  subst e
  exact ⟨d2, by rw [vd_non d1]; exact q _ Ω _ H p .refl o rfl⟩
theorem simr_notN : SimR K rNotN (dIsN fun b => !b) := fun g H Ω x y tx ty P Q o d1 d2 ⟨e, p⟩ q => by
  subst e
  exact ⟨d2, by rw [vd_non d1]; exact q _ Ω _ H p .refl o rfl⟩
def isBT (b : Bool) : Tr → Bool
  | .bl c => decide (c = b)
  | _ => false
def dIsB : Tr → Tr → Om → PT' → Prop := fun x y Ω P => ∃ b : Bool, y = .bl b ∧ (kindT x).isSome = true ∧ P (.bl (isBT b x)) Ω
theorem simr_isB : SimR K rIsBx dIsB := fun g H Ω x y tx ty P Q o d1 d2 ⟨b, e, hk, p⟩ q => by
  subst e
  have fin : okIs x = true → decide (x = .bl b) = isBT b tx → rIsBx x y H Q := fun h1 h2 => ⟨b, d2, h1, by rw [h2]; exact q _ Ω _ H p .refl o rfl⟩
  cases tx with
  | non => rw [show x = _ from d1] at fin ⊢; exact fin rfl rfl
  | bl c => rw [show x = _ from d1] at fin ⊢; exact fin rfl (by simp [isBT])
  | int c => rw [show x = _ from d1] at fin ⊢; exact fin rfl rfl
  | str c => rw [show x = _ from d1] at fin ⊢; exact fin rfl rfl
  | lst ts => obtain ⟨a, xs, rfl, _⟩ := d1; exact fin rfl rfl
  | tup ts => obtain ⟨a, xs, rfl, _⟩ := d1; exact fin rfl rfl
  | dic ks ts => obtain ⟨a, xs, rfl, _⟩ := d1; exact fin rfl rfl
  | _ => cases hk
def inT (x : Tr) (ts : List Tr) : Bool := ts.any fun t => eqV (toV t) (toV x)
def dIn' (neg : Bool) : Tr → Tr → Om → PT' → Prop := fun x y Ω P => ∃ ts, asS y Ω = some ts ∧ flatK x = true ∧ ts.all flatK = true ∧ P (.bl (if neg then !inT x ts else inT x ts)) Ω
theorem flatK_V {t : Tr} (h : flatK t = true) : flatT t = true ∧ flatV (toV t) = true := by
  cases t <;> first | exact ⟨rfl, rfl⟩ | cases (show false = true from h)
theorem vdl_flatV {dr : Option (Addr × Addr)} {F : Addr → Prop} {H : Hp} : ∀ {xs : List V} {ts : List Tr}, VDL K dr F H xs ts → ts.all flatK = true → xs = ts.map toV
  | _, [], d, _ => d
  | _, t :: ts, d, h2 => by
    obtain ⟨v, vs, rfl, h, k⟩ := d
    have h2' := Bool.and_eq_true_iff.mp (show (flatK t && ts.all flatK) = true from h2)
    rw [List.map_cons, ← vdl_flatV k h2'.2, vd_flat h (flatK_V h2'.1).1]
theorem simr_in {neg : Bool} : SimR K (rIn K neg) (dIn' neg) := fun g H Ω x y tx ty P Q o d1 d2 ⟨ts, e, h1, h2, p⟩ q => by
  obtain ⟨a, xs, rfl, s, dl, z⟩ := at_S o d2 e
  obtain rfl := vd_flat d1 (flatK_V h1).1
  have ex : xs = ts.map toV := vdl_flatV dl h2
  refine ⟨a, xs, rfl, s, (flatK_V h1).2, ?_, ?_⟩
  · rw [ex, List.all_map, List.all_eq_true]
    exact fun t ht => (flatK_V (List.all_eq_true.mp h2 t ht)).2
  · have ei : inV (toV tx) xs = inT tx ts := by
      unfold inV inT
      rw [ex, List.any_map]
      rfl
    rw [ei]
    exact q _ Ω _ H p .refl o rfl
/-- isinstance(x, (A, B, ..)) -/
def dIsiT : List Tr → Om → PT' → Prop := fun us Ω P => ∃ x ns, us = [x, .tup (ns.map Tr.ty)] ∧ ns ≠ [] ∧ (kindT x).isSome = true ∧ (∀ n ∈ ns, n ∈ tyNames) ∧ P (.bl (ns.any fun n => isT x n)) Ω
theorem clsv_all {dr : Option (Addr × Addr)} {F : Addr → Prop} {H : Hp} : ∀ {xs : List V} {ns : List String}, VDL K dr F H xs (ns.map Tr.ty) → Paired ClsV xs (ns.map Value.type)
  | xs, [], d => by rw [show xs = [] from d]; exact .nil
  | xs, n :: ns, d => by
    obtain ⟨w, ws, rfl, h1, h2⟩ := d
    rw [show w = _ from h1]
    exact .cons (.ty n) (clsv_all h2)
theorem kit_all {x : Tr} {k : String} (ek : kindT x = some k) : ∀ {ns : List String}, (∀ n ∈ ns, n ∈ tyNames) → PySem.W.kitAny K (.type k) (ns.map Value.type) = some (ns.any fun n => isT x n)
  | [], _ => rfl
  | n :: ns, hn => by
    have e1 : PySem.W.kitOne K (.type k) (.type n) = some (isT x n) := by
      have := kit_known k (kind_mem ek) n (hn n List.mem_cons_self)
      unfold isT
      rw [ek]
      exact kit_ty this
    refine kitAny_cons e1 (fun hb => ?_) fun hb => by simp [hb]
    rw [show ((n :: ns).any fun n => isT x n) = (ns.any fun n => isT x n) by rw [List.any_cons, hb]; rfl]
    exact kit_all ek fun m hm => hn m (List.mem_cons_of_mem _ hm)
theorem simc_isiT : SimC K (rIsiT K) dIsiT := fun g H Ω vs us P Q o d ⟨x, ns, e, hne, hk, hn, p⟩ q => by
  subst e
  obtain ⟨v, _, rfl, d1, u, _, rfl, d2, rfl⟩ := d
  obtain ⟨k, ek⟩ := Option.isSome_iff_exists.mp hk
  obtain ⟨a, xs, rfl, h, dl, _⟩ := d2
  rcases h with ⟨_, h⟩ | h
  · refine ⟨v, a, xs, .type k, ns.map Value.type, _, rfl, h, ?_, tyx_of d1 ek, ?_, q _ Ω _ H p .refl o rfl⟩
    · exact clsv_all dl
    · exact kit_all ek hn
  · exfalso
    cases ns with
    | nil => exact hne rfl
    | cons n ns =>
      obtain ⟨w, ws, rfl, h1, _⟩ := dl
      have h2 := h.2
      rw [show w = _ from h1] at h2
      cases h2
theorem sim_chain {r r' : R2} {d d' : Tr → Tr → Om → PT' → Prop} {ta tb tc : TE} {da db dc : DE} (hr : SimR K r d) (hr' : SimR K r' d') (ha : SimE K G E ta da) (hb : SimE K G E tb db) (hc : SimE K G E tc dc) : SimE K G E (tChain r r' ta tb tc) (dChain d d' da db dc) := fun g σ H ρ Ω P PX Q hG R p q qx =>
  ha g σ H ρ Ω _ PX _ hG R p (fun x Ω1 v H1 p1 k1 o1 d1 => hb g σ H1 ρ Ω1 _ PX _ hG (R.keep k1 o1) p1 (fun y Ω2 u H2 p2 k2 o2 d2 => hr g H2 Ω2 v u x y _ _ o2 (d1.keep k2) d2 p2 (fun z Ω3 zz H3 ⟨b, ez, p3⟩ k3 o3 d3 => by
    subst ez
    refine ⟨b, d3, ?_⟩
    have kk := (k1.trans k2).trans k3
    by_cases hb' : b = true
    · rw [if_pos hb'] at p3 ⊢
      exact hc g σ H3 ρ Ω3 _ PX _ hG (R.keep kk o3) p3 (fun w Ω4 ww H4 p4 k4 o4 d4 => hr' g H4 Ω4 u ww y w P Q o4 (d2.keep (k3.trans k4)) d4 p4 (q.at (kk.trans k4))) (qx.at kk)
    · rw [if_neg hb'] at p3 ⊢
      exact q _ Ω3 _ H3 p3 kk o3 rfl)) (qx.at k1)) qx
/-! ### readings of written trees -/
theorem kindT_non  : kindT .non = some "NoneType" := rfl
theorem isNonT_non  : isNonT .non = true := rfl
theorem flatT_non  : flatT .non = true := rfl
theorem flatK_non  : flatK .non = true := rfl
theorem isBT_non_true  : isBT true .non = false := rfl
theorem isBT_non_false  : isBT false .non = false := rfl
theorem toV_non  : toV Tr.non = V.non := rfl
theorem ofV_non  : ofV V.non = Tr.non := rfl
theorem keyT_non  : keyT .non = none := rfl
theorem isT_non_int  : isT .non "int" = false := show isK "NoneType" "int" = false from by decide +kernel
theorem isT_non_bool  : isT .non "bool" = false := show isK "NoneType" "bool" = false from by decide +kernel
theorem isT_non_str  : isT .non "str" = false := show isK "NoneType" "str" = false from by decide +kernel
theorem isT_non_list  : isT .non "list" = false := show isK "NoneType" "list" = false from by decide +kernel
theorem isT_non_tuple  : isT .non "tuple" = false := show isK "NoneType" "tuple" = false from by decide +kernel
theorem isT_non_dict  : isT .non "dict" = false := show isK "NoneType" "dict" = false from by decide +kernel
theorem kindT_bl {b : Bool} : kindT (.bl b) = some "bool" := rfl
theorem isNonT_bl {b : Bool} : isNonT (.bl b) = false := rfl
theorem flatT_bl {b : Bool} : flatT (.bl b) = true := rfl
theorem flatK_bl {b : Bool} : flatK (.bl b) = true := rfl
theorem toV_bl {b : Bool} : toV (Tr.bl b) = (V.bl b) := rfl
theorem ofV_bl {b : Bool} : ofV (V.bl b) = (Tr.bl b) := rfl
theorem keyT_bl {b : Bool} : keyT (.bl b) = none := rfl
theorem isT_bl_int {b : Bool} : isT (.bl b) "int" = true := show isK "bool" "int" = true from by decide +kernel
theorem isT_bl_bool {b : Bool} : isT (.bl b) "bool" = true := show isK "bool" "bool" = true from by decide +kernel
theorem isT_bl_str {b : Bool} : isT (.bl b) "str" = false := show isK "bool" "str" = false from by decide +kernel
theorem isT_bl_list {b : Bool} : isT (.bl b) "list" = false := show isK "bool" "list" = false from by decide +kernel
theorem isT_bl_tuple {b : Bool} : isT (.bl b) "tuple" = false := show isK "bool" "tuple" = false from by decide +kernel
theorem isT_bl_dict {b : Bool} : isT (.bl b) "dict" = false := show isK "bool" "dict" = false from by decide +kernel
theorem kindT_int {i : Int} : kindT (.int i) = some "int" := rfl
theorem isNonT_int {i : Int} : isNonT (.int i) = false := rfl
theorem flatT_int {i : Int} : flatT (.int i) = true := rfl
theorem flatK_int {i : Int} : flatK (.int i) = true := rfl
theorem isBT_int_true {i : Int} : isBT true (.int i) = false := rfl
theorem isBT_int_false {i : Int} : isBT false (.int i) = false := rfl
theorem toV_int {i : Int} : toV (Tr.int i) = (V.int i) := rfl
theorem ofV_int {i : Int} : ofV (V.int i) = (Tr.int i) := rfl
theorem keyT_int {i : Int} : keyT (.int i) = some (.inl i) := rfl
theorem isT_int_int {i : Int} : isT (.int i) "int" = true := show isK "int" "int" = true from by decide +kernel
theorem isT_int_bool {i : Int} : isT (.int i) "bool" = false := show isK "int" "bool" = false from by decide +kernel
theorem isT_int_str {i : Int} : isT (.int i) "str" = false := show isK "int" "str" = false from by decide +kernel
theorem isT_int_list {i : Int} : isT (.int i) "list" = false := show isK "int" "list" = false from by decide +kernel
theorem isT_int_tuple {i : Int} : isT (.int i) "tuple" = false := show isK "int" "tuple" = false from by decide +kernel
theorem isT_int_dict {i : Int} : isT (.int i) "dict" = false := show isK "int" "dict" = false from by decide +kernel
theorem kindT_str {x : Str} : kindT (.str x) = some "str" := rfl
theorem isNonT_str {x : Str} : isNonT (.str x) = false := rfl
theorem flatT_str {x : Str} : flatT (.str x) = true := rfl
theorem flatK_str {x : Str} : flatK (.str x) = true := rfl
theorem isBT_str_true {x : Str} : isBT true (.str x) = false := rfl
theorem isBT_str_false {x : Str} : isBT false (.str x) = false := rfl
theorem toV_str {x : Str} : toV (Tr.str x) = (V.str x) := rfl
theorem ofV_str {x : Str} : ofV (V.str x) = (Tr.str x) := rfl
theorem keyT_str {x : Str} : keyT (.str x) = some (.inr x) := rfl
theorem isT_str_int {x : Str} : isT (.str x) "int" = false := show isK "str" "int" = false from by decide +kernel
theorem isT_str_bool {x : Str} : isT (.str x) "bool" = false := show isK "str" "bool" = false from by decide +kernel
theorem isT_str_str {x : Str} : isT (.str x) "str" = true := show isK "str" "str" = true from by decide +kernel
theorem isT_str_list {x : Str} : isT (.str x) "list" = false := show isK "str" "list" = false from by decide +kernel
theorem isT_str_tuple {x : Str} : isT (.str x) "tuple" = false := show isK "str" "tuple" = false from by decide +kernel
theorem isT_str_dict {x : Str} : isT (.str x) "dict" = false := show isK "str" "dict" = false from by decide +kernel
theorem kindT_lst {ts : List Tr} : kindT (.lst ts) = some "list" := rfl
theorem isNonT_lst {ts : List Tr} : isNonT (.lst ts) = false := rfl
theorem flatT_lst {ts : List Tr} : flatT (.lst ts) = false := rfl
theorem flatK_lst {ts : List Tr} : flatK (.lst ts) = false := rfl
theorem isBT_lst_true {ts : List Tr} : isBT true (.lst ts) = false := rfl
theorem isBT_lst_false {ts : List Tr} : isBT false (.lst ts) = false := rfl
theorem lenT_lst {ts : List Tr} {Ω : Om} : lenT (.lst ts) Ω = some ts.length := rfl
theorem keyT_lst {ts : List Tr} : keyT (.lst ts) = none := rfl
theorem isT_lst_int {ts : List Tr} : isT (.lst ts) "int" = false := show isK "list" "int" = false from by decide +kernel
theorem isT_lst_bool {ts : List Tr} : isT (.lst ts) "bool" = false := show isK "list" "bool" = false from by decide +kernel
theorem isT_lst_str {ts : List Tr} : isT (.lst ts) "str" = false := show isK "list" "str" = false from by decide +kernel
theorem isT_lst_list {ts : List Tr} : isT (.lst ts) "list" = true := show isK "list" "list" = true from by decide +kernel
theorem isT_lst_tuple {ts : List Tr} : isT (.lst ts) "tuple" = false := show isK "list" "tuple" = false from by decide +kernel
theorem isT_lst_dict {ts : List Tr} : isT (.lst ts) "dict" = false := show isK "list" "dict" = false from by decide +kernel
theorem kindT_tup {ts : List Tr} : kindT (.tup ts) = some "tuple" := rfl
theorem isNonT_tup {ts : List Tr} : isNonT (.tup ts) = false := rfl
theorem flatT_tup {ts : List Tr} : flatT (.tup ts) = false := rfl
theorem flatK_tup {ts : List Tr} : flatK (.tup ts) = false := rfl
theorem isBT_tup_true {ts : List Tr} : isBT true (.tup ts) = false := rfl
theorem isBT_tup_false {ts : List Tr} : isBT false (.tup ts) = false := rfl
theorem lenT_tup {ts : List Tr} {Ω : Om} : lenT (.tup ts) Ω = some ts.length := rfl
theorem keyT_tup {ts : List Tr} : keyT (.tup ts) = none := rfl
theorem isT_tup_int {ts : List Tr} : isT (.tup ts) "int" = false := show isK "tuple" "int" = false from by decide +kernel
theorem isT_tup_bool {ts : List Tr} : isT (.tup ts) "bool" = false := show isK "tuple" "bool" = false from by decide +kernel
theorem isT_tup_str {ts : List Tr} : isT (.tup ts) "str" = false := show isK "tuple" "str" = false from by decide +kernel
theorem isT_tup_list {ts : List Tr} : isT (.tup ts) "list" = false := show isK "tuple" "list" = false from by decide +kernel
theorem isT_tup_tuple {ts : List Tr} : isT (.tup ts) "tuple" = true := show isK "tuple" "tuple" = true from by decide +kernel
theorem isT_tup_dict {ts : List Tr} : isT (.tup ts) "dict" = false := show isK "tuple" "dict" = false from by decide +kernel
theorem kindT_dic {ks : List Key} {ts : List Tr} : kindT (.dic ks ts) = some "dict" := rfl
theorem isNonT_dic {ks : List Key} {ts : List Tr} : isNonT (.dic ks ts) = false := rfl
theorem flatT_dic {ks : List Key} {ts : List Tr} : flatT (.dic ks ts) = false := rfl
theorem flatK_dic {ks : List Key} {ts : List Tr} : flatK (.dic ks ts) = false := rfl
theorem isBT_dic_true {ks : List Key} {ts : List Tr} : isBT true (.dic ks ts) = false := rfl
theorem isBT_dic_false {ks : List Key} {ts : List Tr} : isBT false (.dic ks ts) = false := rfl
theorem lenT_dic {ks : List Key} {ts : List Tr} {Ω : Om} : lenT (.dic ks ts) Ω = some ts.length := rfl
theorem keyT_dic {ks : List Key} {ts : List Tr} : keyT (.dic ks ts) = none := rfl
theorem isT_dic_int {ks : List Key} {ts : List Tr} : isT (.dic ks ts) "int" = false := show isK "dict" "int" = false from by decide +kernel
theorem isT_dic_bool {ks : List Key} {ts : List Tr} : isT (.dic ks ts) "bool" = false := show isK "dict" "bool" = false from by decide +kernel
theorem isT_dic_str {ks : List Key} {ts : List Tr} : isT (.dic ks ts) "str" = false := show isK "dict" "str" = false from by decide +kernel
theorem isT_dic_list {ks : List Key} {ts : List Tr} : isT (.dic ks ts) "list" = false := show isK "dict" "list" = false from by decide +kernel
theorem isT_dic_tuple {ks : List Key} {ts : List Tr} : isT (.dic ks ts) "tuple" = false := show isK "dict" "tuple" = false from by decide +kernel
theorem isT_dic_dict {ks : List Key} {ts : List Tr} : isT (.dic ks ts) "dict" = true := show isK "dict" "dict" = true from by decide +kernel
theorem kindT_obj {a : Addr} : kindT (.obj a) = none := rfl
theorem isNonT_obj {a : Addr} : isNonT (.obj a) = false := rfl
theorem flatT_obj {a : Addr} : flatT (.obj a) = false := rfl
theorem flatK_obj {a : Addr} : flatK (.obj a) = false := rfl
theorem isBT_obj_true {a : Addr} : isBT true (.obj a) = false := rfl
theorem isBT_obj_false {a : Addr} : isBT false (.obj a) = false := rfl
theorem keyT_obj {a : Addr} : keyT (.obj a) = none := rfl
theorem kindT_drw  : kindT .drw = none := rfl
theorem isNonT_drw  : isNonT .drw = false := rfl
theorem flatT_drw  : flatT .drw = false := rfl
theorem flatK_drw  : flatK .drw = false := rfl
theorem isBT_drw_true  : isBT true .drw = false := rfl
theorem isBT_drw_false  : isBT false .drw = false := rfl
theorem keyT_drw  : keyT .drw = none := rfl
theorem kindT_ty {n : String} : kindT (.ty n) = none := rfl
theorem isNonT_ty {n : String} : isNonT (.ty n) = false := rfl
theorem flatT_ty {n : String} : flatT (.ty n) = true := rfl
theorem flatK_ty {n : String} : flatK (.ty n) = false := rfl
theorem isBT_ty_true {n : String} : isBT true (.ty n) = false := rfl
theorem isBT_ty_false {n : String} : isBT false (.ty n) = false := rfl
theorem toV_ty {n : String} : toV (Tr.ty n) = (V.ty n) := rfl
theorem ofV_ty {n : String} : ofV (V.ty n) = (Tr.ty n) := rfl
theorem keyT_ty {n : String} : keyT (.ty n) = none := rfl
theorem asD_dic {ks : List Key} {ts : List Tr} {Ω : Om} : asD (.dic ks ts) Ω = some (ks, ts) := rfl
theorem isBT_bl {b c : Bool} : isBT b (.bl c) = decide (c = b) := rfl
theorem dAddG_int {i j : Int} {Ω : Om} {P : PT'} : dAddG (.int i) (.int j) Ω P = P (.int (i + j)) Ω := rfl
theorem dAddG_str {a b : Str} {Ω : Om} {P : PT'} : dAddG (.str a) (.str b) Ω P = (a.length + b.length ≤ sizeLine ∧ P (.str (a ++ b)) Ω) := rfl
theorem dAddG_tup {xs ys : List Tr} {Ω : Om} {P : PT'} : dAddG (.tup xs) (.tup ys) Ω P = (xs.length + ys.length ≤ 1000000 ∧ P (.tup (xs ++ ys)) Ω) := rfl
theorem dAddG_lst_lst {xs : List Tr} {ys : List Tr} {Ω : Om} {P : PT'} : dAddG (.lst xs) (.lst ys) Ω P = ∃ us ws, asL (.lst xs) Ω = some us ∧ asL (.lst ys) Ω = some ws ∧ us.length + ws.length ≤ 1000000 ∧ lstNew (us ++ ws) Ω P := rfl
theorem dAddG_lst_obj {xs : List Tr} {b : Addr} {Ω : Om} {P : PT'} : dAddG (.lst xs) (.obj b) Ω P = ∃ us ws, asL (.lst xs) Ω = some us ∧ asL (.obj b) Ω = some ws ∧ us.length + ws.length ≤ 1000000 ∧ lstNew (us ++ ws) Ω P := rfl
theorem dAddG_obj_lst {a : Addr} {ys : List Tr} {Ω : Om} {P : PT'} : dAddG (.obj a) (.lst ys) Ω P = ∃ us ws, asL (.obj a) Ω = some us ∧ asL (.lst ys) Ω = some ws ∧ us.length + ws.length ≤ 1000000 ∧ lstNew (us ++ ws) Ω P := rfl
theorem dAddG_obj_obj {a : Addr} {b : Addr} {Ω : Om} {P : PT'} : dAddG (.obj a) (.obj b) Ω P = ∃ us ws, asL (.obj a) Ω = some us ∧ asL (.obj b) Ω = some ws ∧ us.length + ws.length ≤ 1000000 ∧ lstNew (us ++ ws) Ω P := rfl
theorem dSlG_tup {ts : List Tr} {lo hi : Option Int} {Ω : Om} {P : PT'} : dSlG (.tup ts) lo hi Ω P = P (.tup (cutT ts lo hi)) Ω := rfl
theorem dSlG_str {z : Str} {lo hi : Option Int} {Ω : Om} {P : PT'} : dSlG (.str z) lo hi Ω P = (z.length ≤ sizeLine ∧ P (.str (cutS z lo hi)) Ω) := rfl
theorem dSlG_lst {xs : List Tr} {lo hi : Option Int} {Ω : Om} {P : PT'} : dSlG (.lst xs) lo hi Ω P = ∃ ts, asL (.lst xs) Ω = some ts ∧ (ts.length ≤ 1000000 → lstNew (cutT ts lo hi) Ω P) := rfl
theorem dSlG_obj {a : Addr} {lo hi : Option Int} {Ω : Om} {P : PT'} : dSlG (.obj a) lo hi Ω P = ∃ ts, asL (.obj a) Ω = some ts ∧ (ts.length ≤ 1000000 → lstNew (cutT ts lo hi) Ω P) := rfl
theorem tyN_int : (("int" : String) ∈ tyNames) = True := eq_true (by decide)
theorem tyN_bool : (("bool" : String) ∈ tyNames) = True := eq_true (by decide)
theorem tyN_str : (("str" : String) ∈ tyNames) = True := eq_true (by decide)
theorem tyN_list : (("list" : String) ∈ tyNames) = True := eq_true (by decide)
theorem tyN_tuple : (("tuple" : String) ∈ tyNames) = True := eq_true (by decide)
theorem tyN_dict : (("dict" : String) ∈ tyNames) = True := eq_true (by decide)
/-! ### the draws, by the promises that stand -/
theorem of_aft {g : Gh} {H H' : Hp} {Ω : Om} {d s : Addr} (o : OmOk K g H Ω) (e : g.dr = some (d, s)) (a : Aft d s H H') : Keep g H Ω H' Ω ∧ OmOk K g H' Ω := by
  have hs : Ω s = none := by
    obtain ⟨_, _, _, _, _, _, _, _, h7, _⟩ := o.dr d s e
    exact h7
  have nx : ∀ b, (∀ d, g.dr ≠ some (d, b)) → b ≠ s := fun b h z => h d (by rw [z]; exact e)
  have nc : ∀ b, Ω b ≠ none → b ≠ s := fun b h z => h (by rw [z]; exact hs)
  have k : Keep g H Ω H' Ω := fun b u h hd q => ⟨a.kp b u (nx b hd) q, h⟩
  have np : ¬ g.pr s := by
    obtain ⟨_, _, _, _, _, _, _, _, _, _, _, p, _⟩ := o.dr d s e
    exact p
  refine ⟨k, fun d' s' q => ?_, fun b c q => ⟨(o.ce b c q).1, ?_⟩, fun p hp => (o.ex p hp).keep k, fun b hb => ?_⟩
  · rw [e] at q
    cases q
    exact (o.dr d s e).imp a.dr.st (fun b u hb _ q => a.kp b u hb q) fun _ h _ => h
  · obtain ⟨u, hu⟩ := (o.ce b c q).2.tracked
    have hb := nc b (by rw [q]; simp)
    exact (o.ce b c q).2.imp (by rw [a.kp b u hb hu, hu]) fun b' o' f q' => ⟨f, a.kp b' o' (nx b' f.2.1) q'⟩
  · obtain ⟨u, hu⟩ := o.pt b hb
    exact ⟨u, a.kp b u (fun z => np (z ▸ hb)) hu⟩
end
end LT

namespace LT
open PySem PySem.Spec PyProof.Rows L2 L2H LL
section
variable {prog : Program} {w : World} {A : Around} {E : Value → Shared → Prop} {s : Shared} {l : Addr} {its : List Value} {ns : List Int}
theorem min_intTup {xs : Array (Int × Tok)} {Q : Value → Shared → Prop} (hh : A.handled = none) (hl : s.heap.IsTuple l (intItems xs)) (hne : 0 < xs.size)
    (h : ∀ v h' tk, (intItems xs)[argBest (fun i j => decide (numAt xs i < numAt xs j)) (xs.size - 1)]? = some v → (∀ b o, s.heap.get? b = some o → h'.get? b = some o) → Q v { s with heap := h', toks := tk }) :
    wpAny (model prog w) A (call (.builtin "min") [.ref l]) Q E s := by
  have hlt : l < s.heap.objs.size := by obtain ⟨_, e, _⟩ := hl; exact Heap.lt_size e
  refine call_min_walk (wpAny_pyIter_tuple hl ?_)
  refine ⟨_, [_, l], [_], _, _, _, _, rfl, Walks.tuple (A := A.in1) hh _ l (Nat.ne_of_lt hlt) (intItems xs), ⟨⟨_, Heap.get?_push_size _ rfl, rfl, rfl⟩, hl.push _⟩, fun c hc => ?_, by simpa [intItems] using hne, CmpOf.ints_lt (numAt xs) (fun _ _ => intItems_at), fun v h' tk hP hk => ?_⟩
  · show c < (s.heap.push _).objs.size
    rw [Heap.size_push]
    rcases List.mem_cons.mp hc with rfl | hc
    · exact Nat.lt_succ_self _
    · rcases List.mem_cons.mp hc with rfl | hc
      · exact Nat.lt_succ_of_lt hlt
      · cases hc
  · refine h v h' tk (by simpa [intItems] using hP) fun b o e => ?_
    refine hk b o (fun hm => ?_) (Heap.get?_push_of_some _ e)
    rcases List.mem_cons.mp hm with e1 | hm
    · exact absurd (e1 ▸ Heap.lt_size e) (Nat.lt_irrefl _)
    · cases hm
theorem min_rawT {Q : Value → Shared → Prop} (hh : A.handled = none) (hl : s.heap.IsTuple l its.toArray) (hi : IntsAre its ns) (hne : 0 < ns.length)
    (h : ∀ h' tk M t', (∀ b o, s.heap.get? b = some o → h'.get? b = some o) → M ∈ ns → (∀ a, a ∈ ns → M ≤ a) → Q (.int M t') { s with heap := h', toks := tk }) : wpAny (model prog w) A (call (.builtin "min") [.ref l]) Q E s := by
  obtain ⟨xs, e⟩ := hi.allInts.items
  have hn : numsOf (intItems xs).toList = ns := by rw [← e]; exact hi.numsOf
  rw [nums_intItems] at hn
  subst hn
  rw [e] at hl
  have hsz : 0 < xs.size := by simpa using hne
  refine min_intTup hh hl hsz fun v h' tk hv hk => ?_
  obtain ⟨t, rfl⟩ := intItems_at hv
  obtain ⟨h1, h2⟩ := argBest_lt (numAt xs) (xs.size - 1)
  refine h h' tk _ t hk ?_ fun a ha => ?_
  · rw [numAt_eq]; exact PySem.getD_mem (by rw [List.length_map, Array.length_toList]; omega)
  · obtain ⟨j, hj, rfl⟩ := mem_getD ha
    rw [List.length_map, Array.length_toList] at hj
    rw [← numAt_eq]; exact h2 j (by omega)
end
/-- min(t), t a list or a tuple of ints -/
def rMinS (K : PySem.W.Frag) : List V → Hp → VK → Prop := fun vs H Q => ∃ (a : Addr) (ns : List Int), vs = [V.ref a] ∧ (SqL K H a (ns.map V.int) ∨ SqT K H a (ns.map V.int)) ∧ 0 < ns.length ∧ ∀ m, m ∈ ns → (∀ y, y ∈ ns → m ≤ y) → Q (.int m) H
theorem cr_minS {X : Cx} (hc : X.calm = true) : CallR X (.builtin "min") (rMinS X.K) := by
  intro pins s σ H vs us Q I r h
  obtain ⟨a, ns, rfl, hs, hne, q⟩ := h
  rcases hs with hs | hs
  · exact cr_min hc pins s σ H _ us Q I r ⟨a, ns, rfl, hs, hne, q⟩
  · obtain ⟨its, rv, hl, _⟩ := I.tuple hs
    rw [Vals.ref1 r]
    exact min_rawT (I.ok.hd hc) hl rv.ints hne fun h' tk m t' hk h1 h2 => ⟨.int _, H, I.kept hk, ⟨_, rfl⟩, q m h1 h2⟩
def dMinS : List Tr → Om → PT' → Prop := fun us Ω P => ∃ (t : Tr) (ns : List Int), us = [t] ∧ asS t Ω = some (ns.map Tr.int) ∧ 0 < ns.length ∧ ∀ m, m ∈ ns → (∀ y, y ∈ ns → m ≤ y) → P (.int m) Ω
theorem simc_minS {K : PySem.W.Frag} : SimC K (rMinS K) dMinS := fun g H Ω vs us P Q o d ⟨t, ns, e, h, h0, p⟩ q => by
  subst e
  obtain ⟨v, _, rfl, d, rfl⟩ := d
  obtain ⟨a, xs, rfl, s, dl, _⟩ := at_S o d h
  rw [vdl_ints dl] at s
  exact ⟨a, ns, rfl, s, h0, fun m h1 h2 => q _ Ω _ H (p m h1 h2) .refl o rfl⟩
/-! ### [x] * n -/
def dRep : Tr → Tr → Om → PT' → Prop := fun x y Ω P => ∃ ts k, asL x Ω = some ts ∧ y = .int k ∧ -(2 ^ 63) ≤ k ∧ k < 2 ^ 63 ∧ ts.length * k.toNat ≤ 1000000 ∧ lstNew (List.replicate k.toNat ts).flatten Ω P
theorem VDL.rep {K : PySem.W.Frag} {dr : Option (Addr × Addr)} {F : Addr → Prop} {H : Hp} {xs : List V} {ts : List Tr} (d : VDL K dr F H xs ts) : ∀ n : Nat, VDL K dr F H (List.replicate n xs).flatten (List.replicate n ts).flatten
  | 0 => rfl
  | n + 1 => by
    rw [List.replicate_succ, List.replicate_succ, List.flatten_cons, List.flatten_cons]
    exact d.app _ (VDL.rep d n)
theorem simr_rep {K : PySem.W.Frag} : SimR K rRep dRep := fun g H Ω x y tx ty P Q o d1 d2 ⟨ts, k, e, e2, h1, h2, hz, p⟩ q => by
  subst e2
  obtain ⟨a, xs, rfl, _, hh, dl, _⟩ := at_L o d1 e
  refine ⟨a, k, xs, rfl, d2, hh, h1, h2, by rw [dl.len]; exact size_ok hz, fun l n => new_lst o (dl.rep _) ?_ p q n⟩
  have : ∀ m : Nat, (List.replicate m ts).flatten.length = ts.length * m := fun m => by
    induction m with
    | zero => simp
    | succ m ih => rw [List.replicate_succ, List.flatten_cons, List.length_append, ih, Nat.mul_succ, Nat.add_comm]
  rw [this]; exact hz
/-! ### loops -/
section
variable {dg : DG} {db : DS} {D : DN} {ρ : En} {Ω : Om}
theorem stay_of {t : Tr} {ts : List Tr} (h : asS t Ω = some ts) : stay t ts Ω := by
  cases t with
  | obj a =>
    have h' : cellL (Ω a) = some ts := h
    cases e : Ω a with
    | none => rw [e] at h'; cases h'
    | some c =>
      cases c with
      | lst us => rw [e] at h'; cases h'; exact e
      | _ => rw [e] at h'; cases h'
  | _ => trivial
/-- over a list or a tuple in slot i -/
theorem for_S {i : Nat} {t : Tr} {ts : List Tr} (ht : ρ[i]? = some (some t)) (hs : asS t Ω = some ts) (W : Nat → En → Om → Prop) (w0 : W 0 ρ Ω) (wst : ∀ i ρ' Ω', W i ρ' Ω' → stay t ts Ω')
    (step : ts.length ≤ 1000000 → ∀ i x ρ' Ω', ts[i]? = some x → W i ρ' Ω' → dg x ρ' Ω' (fun ρ2 Ω2 => db { D with nx := W (i + 1), ct := W (i + 1), bk := D.nx } ρ2 Ω2) nox) (fin : ∀ ρ' Ω', W ts.length ρ' Ω' → D.nx ρ' Ω') : dFor (diS (dVar i)) dg db D ρ Ω :=
  ⟨t, ht, ts, hs, fun hz => ⟨W, w0, wst, step hz, fin⟩⟩
/-- over any list or tuple -/
theorem for_Se {de : DE} {t : Tr} {ts : List Tr} {Ω1 : Om} (he : ∀ P : PT', P t Ω1 → de ρ Ω P (fun y Ω' => D.ex ρ y Ω')) (hs : asS t Ω1 = some ts) (W : Nat → En → Om → Prop) (w0 : W 0 ρ Ω1) (wst : ∀ i ρ' Ω', W i ρ' Ω' → stay t ts Ω')
    (step : ts.length ≤ 1000000 → ∀ i x ρ' Ω', ts[i]? = some x → W i ρ' Ω' → dg x ρ' Ω' (fun ρ2 Ω2 => db { D with nx := W (i + 1), ct := W (i + 1), bk := D.nx } ρ2 Ω2) nox) (fin : ∀ ρ' Ω', W ts.length ρ' Ω' → D.nx ρ' Ω') : dFor (diS de) dg db D ρ Ω :=
  he _ ⟨ts, hs, fun hz => ⟨W, w0, wst, step hz, fin⟩⟩
/-- over range(a, b) -/
theorem for_R2 {da : DA} {a b : Int} {Ω1 : Om} (he : ∀ P : List Tr → Om → Prop, P [.int a, .int b] Ω1 → da ρ Ω P (fun y Ω' => D.ex ρ y Ω')) (hb : -(2 ^ 62) ≤ a ∧ a < 2 ^ 62 ∧ -(2 ^ 62) ≤ b ∧ b < 2 ^ 62) (W : Nat → En → Om → Prop) (w0 : W 0 ρ Ω1)
    (step : ∀ (i : Nat) ρ' Ω', i < (b - a).toNat → W i ρ' Ω' → dg (.int (a + i)) ρ' Ω' (fun ρ2 Ω2 => db { D with nx := W (i + 1), ct := W (i + 1), bk := D.nx } ρ2 Ω2) nox) (fin : ∀ ρ' Ω', W (b - a).toNat ρ' Ω' → D.nx ρ' Ω') : dFor (diR2 da) dg db D ρ Ω :=
  he _ ⟨a, b, rfl, hb, W, w0, fun _ _ _ _ => trivial, fun i t ρ' Ω' e w => by
    have hi : i < (b - a).toNat := by have := (List.getElem?_eq_some_iff.mp e).1; rwa [rngT_len] at this
    rw [rngT_get hi] at e
    cases e
    exact step i ρ' Ω' hi w, fun ρ' Ω' w => fin ρ' Ω' (by rwa [rngT_len] at w)⟩
/-- over range(n) -/
theorem for_R1 {da : DA} {n : Int} {Ω1 : Om} (he : ∀ P : List Tr → Om → Prop, P [.int n] Ω1 → da ρ Ω P (fun y Ω' => D.ex ρ y Ω')) (hb : -(2 ^ 62) ≤ n ∧ n < 2 ^ 62) (W : Nat → En → Om → Prop) (w0 : W 0 ρ Ω1)
    (step : ∀ (i : Nat) ρ' Ω', i < n.toNat → W i ρ' Ω' → dg (.int (i : Int)) ρ' Ω' (fun ρ2 Ω2 => db { D with nx := W (i + 1), ct := W (i + 1), bk := D.nx } ρ2 Ω2) nox) (fin : ∀ ρ' Ω', W n.toNat ρ' Ω' → D.nx ρ' Ω') : dFor (diR1 da) dg db D ρ Ω :=
  he _ ⟨n, rfl, hb.1, hb.2, W, w0, fun _ _ _ _ => trivial, fun i t ρ' Ω' e w => by
    have hi : i < n.toNat := by have := (List.getElem?_eq_some_iff.mp e).1; rwa [rngT_len] at this
    rw [rngT_get hi, Int.zero_add] at e
    cases e
    exact step i ρ' Ω' hi w, fun ρ' Ω' w => fin ρ' Ω' (by rwa [rngT_len] at w)⟩
/-- the same, the number drawn -/
theorem for_R1X {da : DA} {R : Int → Prop} {Ω1 : Om} (he : ∀ P : List Tr → Om → Prop, (∀ n : Int, R n → P [.int n] Ω1) → da ρ Ω P (fun y Ω' => D.ex ρ y Ω')) (hb : ∀ n, R n → -(2 ^ 62) ≤ n ∧ n < 2 ^ 62) (W : Int → Nat → En → Om → Prop) (w0 : ∀ n, R n → W n 0 ρ Ω1)
    (step : ∀ n, R n → ∀ (i : Nat) ρ' Ω', i < n.toNat → W n i ρ' Ω' → dg (.int (i : Int)) ρ' Ω' (fun ρ2 Ω2 => db { D with nx := W n (i + 1), ct := W n (i + 1), bk := D.nx } ρ2 Ω2) nox) (fin : ∀ n, R n → ∀ ρ' Ω', W n n.toNat ρ' Ω' → D.nx ρ' Ω') : dFor (diR1 da) dg db D ρ Ω :=
  he _ fun n hn => ⟨n, rfl, (hb n hn).1, (hb n hn).2, W n, w0 n hn, fun _ _ _ _ => trivial, fun i t ρ' Ω' e w => by
    have hi : i < n.toNat := by have := (List.getElem?_eq_some_iff.mp e).1; rwa [rngT_len] at this
    rw [rngT_get hi, Int.zero_add] at e
    cases e
    exact step n hn i ρ' Ω' hi w, fun ρ' Ω' w => fin n hn ρ' Ω' (by rwa [rngT_len] at w)⟩
end
/-- a comprehension over a list or a tuple, each item with its value -/
theorem map_S {de : DE} {t : Tr} {ts : List Tr} {ρ : En} {Ω : Om} {dg : DG} {del : DE} {vs : List Nat} {P : PT'} {PX : PXt} (he : ∀ P : PT', P t Ω → de ρ Ω P PX) (hs : asS t Ω = some ts) (f : Tr → Tr)
    (hm : ∀ t ρ (P P' : En → Om → Prop), (∀ a b, P a b → P' a b) → dg t ρ Ω P nox → dg t ρ Ω P' nox) (hf : ∀ x ∈ ts, ∀ Q : PT', Q (f x) Ω → dg x (wipeT ρ vs) Ω (fun ρ2 Ω2 => del ρ2 Ω2 Q nox) nox) (h : lstNew (ts.map f) Ω P) : dLc (diS de) dg dYes del vs ρ Ω P PX :=
  he _ ⟨ts, hs, fun hz => by
    refine ⟨hz, fun i acc Ω' => Ω' = Ω ∧ acc = (ts.map f).take i, ⟨rfl, rfl⟩, fun i acc Ω' e => e.1 ▸ stay_of hs, ?_, ?_⟩
    · rintro i x acc Ω' hx ⟨rfl, rfl⟩
      refine hm _ _ _ _ (fun a b z => ?_) (hf x (List.mem_of_getElem? hx) (fun y Ω4 => Ω4 = Ω' ∧ (ts.map f).take i ++ [y] = (ts.map f).take (i + 1)) ⟨rfl, ?_⟩)
      · simpa [dYes] using z
      · rw [take_one (x := f x) (by rw [List.getElem?_map, hx]; rfl)]
    · rintro acc Ω' ⟨rfl, rfl⟩
      rw [show ts.length = (ts.map f).length by rw [List.length_map], List.take_length]
      exact h⟩
theorem mono_dName {i : Nat} {Ω : Om} : ∀ t ρ (P P' : En → Om → Prop), (∀ a b, P a b → P' a b) → dName i t ρ Ω P nox → dName i t ρ Ω P' nox := fun _ _ _ _ h p => h _ _ p
theorem atI_0 {α : Type} {a : α} {r : List α} : atI (a :: r) 0 = some a := atI_nat (j := 0) rfl
theorem atI_1 {α : Type} {a b : α} {r : List α} : atI (a :: b :: r) 1 = some b := atI_nat (j := 1) rfl
theorem atI_2 {α : Type} {a b c : α} {r : List α} : atI (a :: b :: c :: r) 2 = some c := atI_nat (j := 2) rfl
theorem atI_3 {α : Type} {a b c d : α} {r : List α} : atI (a :: b :: c :: d :: r) 3 = some d := atI_nat (j := 3) rfl
theorem atI_4 {α : Type} {a b c d e : α} {r : List α} : atI (a :: b :: c :: d :: e :: r) 4 = some e := atI_nat (j := 4) rfl
theorem atI_5 {α : Type} {a b c d e f : α} {r : List α} : atI (a :: b :: c :: d :: e :: f :: r) 5 = some f := atI_nat (j := 5) rfl
theorem atI_6 {α : Type} {a b c d e f g : α} {r : List α} : atI (a :: b :: c :: d :: e :: f :: g :: r) 6 = some g := atI_nat (j := 6) rfl
theorem atI_7 {α : Type} {a b c d e f g h : α} {r : List α} : atI (a :: b :: c :: d :: e :: f :: g :: h :: r) 7 = some h := atI_nat (j := 7) rfl
theorem atI_8 {α : Type} {a b c d e f g h i : α} {r : List α} : atI (a :: b :: c :: d :: e :: f :: g :: h :: i :: r) 8 = some i := atI_nat (j := 8) rfl
theorem atI_9 {α : Type} {a b c d e f g h i j : α} {r : List α} : atI (a :: b :: c :: d :: e :: f :: g :: h :: i :: j :: r) 9 = some j := atI_nat (j := 9) rfl
theorem exq {α : Type} {a : α} {p : α → Prop} : (∃ x, some a = some x ∧ p x) = p a := by simp
theorem stay_put {t : Tr} {ts : List Tr} {Ω : Om} {a : Addr} {c : Cell} (h : asS t Ω = some ts) (ha : Ω a = none) : stay t ts (put Ω a c) := by
  have s := stay_of h
  cases t with
  | obj b =>
    show put Ω a c b = _
    rw [put_ne (fun z => by rw [z] at s; rw [show Ω a = _ from s] at ha; cases ha)]
    exact s
  | _ => trivial
theorem asS_put {t : Tr} {ts : List Tr} {Ω : Om} {a : Addr} {c : Cell} (h : asS t Ω = some ts) (ha : Ω a = none) : asS t (put Ω a c) = some ts := by
  cases t with
  | obj b =>
    have s : Ω b = some (.lst ts) := stay_of h
    exact asS_obj (by rw [put_ne (fun z => by rw [z] at s; rw [s] at ha; cases ha)]; exact s)
  | _ => exact h
theorem asL_put {a : Addr} {ts : List Tr} {Ω : Om} : asL (.obj a) (put Ω a (.lst ts)) = some ts := asL_obj put_same
/-- the list that was made is handed back as data -/
theorem ret_new {D : DN} {ρ : En} {Ω : Om} {i : Nat} {a : Addr} {ts : List Tr} (h1 : ρ[i]? = some (some (.obj a))) (ha : Ω a = none) (q : D.rt (.lst ts) Ω) : dRetT i (dVar i) D ρ (put Ω a (.lst ts)) :=
  .inr ⟨a, ts, h1, put_same, .lst ts, by rw [List.getElem?_set_self (List.getElem?_eq_some_iff.mp h1).1], by rw [cut_put ha]; exact q⟩
/-- a list that was made, as data, ahead of what follows -/
theorem thaw_new {d : DS} {D : DN} {ρ : En} {Ω : Om} {i : Nat} {a : Addr} {ts : List Tr} (h1 : ρ[i]? = some (some (.obj a))) (ha : Ω a = none) (q : d D (ρ.set i (some (.lst ts))) Ω) : dThaw i d D ρ (put Ω a (.lst ts)) :=
  .inr ⟨a, ts, h1, put_same, by rw [cut_put ha]; exact q⟩
/-- a slice of a list or a tuple, as data -/
theorem slice_S {c : Tr} {us : List Tr} {lo hi : Option Int} {Ω : Om} {P : PT'} (h : c = .lst us ∨ c = .tup us) (q : ∀ d, (d = .lst (cutT us lo hi) ∨ d = .tup (cutT us lo hi)) → P d Ω) : dSlG c lo hi Ω P := by
  rcases h with rfl | rfl
  · exact ⟨us, rfl, fun _ => .inl (q _ (.inl rfl))⟩
  · exact q _ (.inr rfl)
theorem seq_asS {d : Tr} {us : List Tr} {Ω : Om} (h : d = .lst us ∨ d = .tup us) : asS d Ω = some us := by
  rcases h with rfl | rfl <;> rfl
theorem seq_stay {d : Tr} {us : List Tr} {Ω : Om} (h : d = .lst us ∨ d = .tup us) : stay d us Ω := by
  rcases h with rfl | rfl <;> trivial
theorem cutT_nat {us : List Tr} {f k : Nat} (hf : f ≤ us.length) : cutT us (some (f : Int)) (some (k : Int)) = (us.drop f).take (k - f) := by
  unfold cutT
  rw [HT.sIx_nat, HT.sIx_nat, Nat.min_eq_left hf]
  rcases Nat.le_total k us.length with h | h
  · rw [Nat.min_eq_left h]
  · rw [Nat.min_eq_right h, List.take_of_length_le (by rw [List.length_drop]; exact Nat.le_refl _), List.take_of_length_le (by rw [List.length_drop]; omega)]
/-- over something that is the items us, a list or a tuple, as data -/
theorem for_SX {dg : DG} {db : DS} {D : DN} {ρ : En} {Ω : Om} {de : DE} {us : List Tr} (he : ∀ P : PT', (∀ d, (d = .lst us ∨ d = .tup us) → P d Ω) → de ρ Ω P (fun y Ω' => D.ex ρ y Ω')) (W : Nat → En → Om → Prop) (w0 : W 0 ρ Ω)
    (step : us.length ≤ 1000000 → ∀ i x ρ' Ω', us[i]? = some x → W i ρ' Ω' → dg x ρ' Ω' (fun ρ2 Ω2 => db { D with nx := W (i + 1), ct := W (i + 1), bk := D.nx } ρ2 Ω2) nox) (fin : ∀ ρ' Ω', W us.length ρ' Ω' → D.nx ρ' Ω') : dFor (diS de) dg db D ρ Ω :=
  he _ fun d hd => ⟨us, seq_asS hd, fun hz => ⟨W, w0, fun _ _ _ _ => seq_stay hd, step hz, fin⟩⟩
theorem pg_tupK {X : Cx} {K : PySem.W.Frag} {pos : Pos} {es : List Expr} {k : Nat} {t : TGs} {n : Nat} (hK : X.K = K) (hc : X.calm = true) (h : PGs X es t) (h1 : (assignEach es X.env).length = n := by rfl) (h2 : List.findIdx? (fun x => x.1) (assignEach es X.env) = none := by rfl) : PG X (.Tuple es k pos) (gTup K n t) := hK ▸ pg_tup hc h h1 h2
theorem pi_seqK {X : Cx} {K : PySem.W.Frag} {tg l : Expr} {te : TE} (hK : X.K = K) (hl : PE X l te) : PI X tg l (iSeq K te) := hK ▸ LL.pi_seq hl
def MonoG (dg : DG) : Prop := ∀ t ρ Ω (P P' : En → Om → Prop), (∀ a b, P a b → P' a b) → dg t ρ Ω P nox → dg t ρ Ω P' nox
def MonoGs (dg : DGs) : Prop := ∀ t ρ Ω (P P' : En → Om → Prop), (∀ a b, P a b → P' a b) → dg t ρ Ω P nox → dg t ρ Ω P' nox
theorem mg_name {i : Nat} : MonoG (dName i) := fun _ _ _ _ _ h p => h _ _ p
theorem mg_nil : MonoGs dgNil := fun _ _ _ _ _ h p => ⟨p.1, h _ _ p.2⟩
theorem mg_cons {d : DG} {u : DGs} (hd : MonoG d) (hu : MonoGs u) : MonoGs (dgCons d u) := fun ts ρ Ω P P' h ⟨t, r, e, p⟩ => ⟨t, r, e, hd _ _ _ _ _ (fun a b z => hu _ _ _ _ _ h z) p⟩
theorem mg_tup {n : Nat} {u : DGs} (hu : MonoGs u) : MonoG (dTupG n u) := fun t ρ Ω P P' h ⟨ts, e, l, p⟩ => ⟨ts, e, l, hu _ _ _ _ _ h p⟩
/-! ### written dicts -/
section
variable {K : PySem.W.Frag} {G : List (Value × Option Addr × XV) → Prop} {E : EK}
theorem new_dic {g : Gh} {H : Hp} {Ω : Om} {D : Addr} {kvs : List (Key × V)} {us : List (Key × Tr)} {P : PT'} {Q : VK} {H0 : Hp} {Ω0 : Om} (o : OmOk K (g.with D) H Ω) (npr : ¬ g.pr D) (nd : ∀ d, g.dr ≠ some (d, D)) (e : H D = some (.dK kvs)) (d : KVD K g.dr (NM (g.with D) Ω) H kvs us) (hz : us.length ≤ 1000000) (k : Keep g H0 Ω0 H Ω) (n0 : H0 D = none) (h : dicNew us Ω P) (q : After K g H0 Ω0 P Q) : Q (.ref D) H := by
  have nΩ : Ω D = none := by
    cases e : Ω D with
    | none => rfl
    | some c => exact absurd (.inr rfl) (o.ce D c e).1
  have hlen := d.len
  have ez : (us.map (·.1)).zip (kvs.map (·.2)) = kvs := by rw [← d.1]; exact LT.zip_fst_snd kvs
  rcases h with h | h
  · exact q _ Ω _ H h k o.less ⟨D, kvs.map (·.2), rfl, ⟨nΩ, nd, npr⟩, by rw [ez]; exact e, d.2.less, by simp, by rw [List.length_map]; omega⟩
  · have kc : Keep g H0 Ω0 H (put Ω D (.dic (us.map (·.1)) (us.map (·.2)))) := fun b u hb hd e => ⟨(k b u hb hd e).1, by rw [put_ne (ne_of_none e n0)]; exact (k b u hb hd e).2⟩
    exact q _ _ _ H (h D nΩ) kc (o.toCell npr ⟨kvs.map (·.2), by rw [ez]; exact e, (show VDL K (g.with D).dr (NM (g.with D) Ω) H (kvs.map (·.2)) (us.map (·.2)) from d.2), by simp, by rw [List.length_map]; omega⟩) rfl
def dNewD : DE := fun _ Ω P _ => dicNew [] Ω P
theorem sim_newD : SimE K G E tDNewK dNewD := fun g σ H ρ Ω P PX Q _ R p q _ D nD =>
  new_dic (us := []) (R.om.more nD) (not_pr R.om nD) (R.om.nodr nD) upd_same ⟨rfl, rfl⟩ (by simp) (.new nD) nD p q
def dDisp1 (dk dv : DE) : DE := fun ρ Ω P PX => dk ρ Ω (fun y Ω1 => dv ρ Ω1 (fun z Ω2 => ∃ k, keyT y = some k ∧ dicNew [(k, z)] Ω2 P) nox) nox
theorem sim_disp1 {tk tv : TE} {dk dv : DE} (hk : SimE K G E tk dk) (hv : SimE K G E tv dv) : SimE K G E (tDisp [(tk, tv)]) (dDisp1 dk dv) := fun g σ H ρ Ω P PX Q hG R p q _ D nD => by
  have o1 : OmOk K (g.with D) (upd H D (.dK [])) Ω := R.om.more nD
  have k1 : Keep g H Ω (upd H D (.dK [])) Ω := .new nD
  have nd := R.om.nodr nD
  have nΩ : ∀ {H2 : Hp} {Ω2 : Om}, OmOk K (g.with D) H2 Ω2 → Ω2 D = none := fun {H2 Ω2} o => by
    cases e : Ω2 D with
    | none => rfl
    | some c => exact absurd (.inr rfl) (o.ce D c e).1
  have R1 : Rel K (g.with D) σ (upd H D (.dK [])) ρ Ω := ⟨o1, R.len, fun j u e => by
    obtain ⟨v, h1, h2⟩ := R.env j u e
    exact ⟨v, h1, (h2.more nD).keep (g := g.with D) k1⟩⟩
  refine hk (g.with D) σ _ ρ Ω _ _ _ hG R1 p (fun y Ω1 v H1 p1 k2 o2 d2 => ?_) AfterX.nox
  refine hv (g.with D) σ H1 ρ Ω1 _ _ _ hG (R1.keep k2 o2) p1 (fun z Ω2 u H2 ⟨k, ek, p2⟩ k3 o3 d3 => ?_) AfterX.nox
  have e1 : H1 D = some (.dK []) := (k2 D _ (nΩ o1) nd upd_same).1
  have e2 : H2 D = some (.dK []) := (k3 D _ (nΩ o2) nd e1).1
  refine ⟨e2, [(k, u)], by rw [vd_key d2 ek]; rfl, by simp, ?_⟩
  have kk : Keep g H Ω (upd H2 D (.dK (mergeK [] [(k, u)]))) Ω2 := ((k1.trans k2).trans k3).prot nD
  exact new_dic o3.prot (not_pr R.om nD) nd upd_same (us := [(k, z)]) ⟨rfl, .one d3.prot⟩ (by simp) kk nD p2 q
end
end LT
namespace LT
open PySem PySem.Spec PyProof.Rows L2 L2H LL
section
variable {K : PySem.W.Frag} {G : List (Value × Option Addr × XV) → Prop} {E : EK}
/-- try .. except C as n, its reading kept folded -/
def tTryAs (K : PySem.W.Frag) (c : Value) (i : Nat) (tb : WX → TS) (ts : Addr → Value → Option Addr → TS) (Wout : WX) : TS := fun D σ H => tb (wAs K c i ts Wout D) D σ H
theorem ps_tryT {X : Cx} {x n : Str} {c : Value} {i : Nat} {body suite : List Stmt} {b₀ : Stmt} {np pos pos' : Pos} {tb : WX → TS} {ts : Addr → Value → Option Addr → TS} {Wout : WX} (hs : X.stack = X.env :: X.outer) (hf : X.env.frame = some X.env.locals) (hN : X.N.Nodup) (hi : X.N[i]? = some n) (hln : X.env.kindOf n = some .local) (hc : Names X x c) (tk : Takes X Wout)
    (hb : ∀ (W : WX) (pn : List (Addr × Obj)) (xe : Value → Shared → Prop), Takes (X.tr pn xe) W → PassesOwn (model X.prog X.w) X.A X.env xe → PSs (X.tr pn xe) body (tb W))
    (hsu : ∀ (a : Addr) (oe : Obj) (cls : Value) (d : Option Addr) (pn : List (Addr × Obj)), Zc cls d oe → (∃ vs, oe.data = .fields vs) → PSs (X.suite a ((a, oe) :: pn)) (b₀ :: suite) (ts a cls d)) :
    PS X (.Try body [.ExceptHandler (some (.Name x np)) (some n) (b₀ :: suite) pos'] [] [] pos) (tTryAs X.K c i tb ts Wout) := ps_try_as hs hf hN hi hln hc tk hb hsu
theorem sim_tryT {c : Value} {i : Nat} {tb : WX → TS} {ts : Addr → Value → Option Addr → TS} {Wout : WX} {db : DS} {ds : Addr → XV → DS} (hE : ∀ σ cls d H, E σ cls d H = Wout cls d σ H) (hb : ∀ W : WX, SimS K G (WE W) (tb W) db)
    (hs : ∀ a cls d x, SimS K (GX G cls d x) (fun _ _ _ _ => False) (ts a cls d) (ds a x)) : SimS K G E (tTryAs K c i tb ts Wout) (dTry K c i db ds) := sim_try hE hb hs
theorem pickP {us : List Tr} {v : Int} {P : Tr → Prop} (h0 : 0 ≤ v) (h1 : v < us.length) (h : ∀ x ∈ us, P x) : ∃ x, L2.atI us v = some x ∧ P x := by
  obtain ⟨j, rfl⟩ := Int.eq_ofNat_of_zero_le h0
  have hj : j < us.length := by omega
  exact ⟨us[j], atI_nat (List.getElem?_eq_getElem hj), h _ (List.getElem_mem hj)⟩
end
end LT
namespace LT
open PySem PySem.Spec PyProof.Rows L2 L2H LL
section
variable {K : PySem.W.Frag} {G : List (Value × Option Addr × XV) → Prop} {E : EK}
/-- in a def that raises nothing: each exception is caught -/
def dTry0 (K : PySem.W.Frag) (c : Value) (i : Nat) (db : DS) (ds : Addr → XV → DS) : DS := fun DD ρ Ω => db { DD with ex := fun ρ' x Ω' => PySem.W.exmOne K (.ref (He.ga K x.cls)) c = some true ∧ ∀ a, ds a x { nx := fun ρ2 Ω2 => DD.nx (ρ2.set i none) Ω2, rt := DD.rt, bk := fun ρ2 Ω2 => DD.bk (ρ2.set i none) Ω2, ct := fun ρ2 Ω2 => DD.ct (ρ2.set i none) Ω2, ex := fun _ _ _ => False } (ρ'.set i (some (.obj a))) Ω' } ρ Ω
theorem sim_tryT0 {c : Value} {i : Nat} {tb : WX → TS} {ts : Addr → Value → Option Addr → TS} {db : DS} {ds : Addr → XV → DS} (hb : ∀ W : WX, SimS K G (WE W) (tb W) db)
    (hs : ∀ a cls d x, SimS K (GX G cls d x) (fun _ _ _ _ => False) (ts a cls d) (ds a x)) : SimS K G E (tTryAs K c i tb ts (fun _ _ _ _ => False)) (dTry0 K c i db ds) := fun g σ H ρ Ω D DD hG R p e => by
  refine hb _ g σ H ρ Ω D _ hG R p ⟨e.nx, e.rt, e.bk, e.ct, fun x ρ' Ω' σ' cls d H' ⟨eb, h1⟩ k R' xr => ?_⟩
  have ec : cls = .ref (He.ga K x.cls) := xr.1
  refine ⟨true, by rw [ec]; exact eb, fun hb' a na => ?_, fun hb' => by cases hb'⟩
  refine hs a cls d x (g.and (cls, d, x)) _ H' _ Ω' _ _ ⟨g.ex, rfl, hG⟩ ((R'.set (v := .ref a) (t := .obj a) rfl).and xr) (h1 a) ⟨fun ρ2 Ω2 σ2 H2 p2 k2 r2 => e.nx _ Ω2 _ H2 p2 (k.trans k2) r2.drop.none, fun t Ω2 v H2 p2 k2 o2 d2 => e.rt t Ω2 v H2 p2 (k.trans k2) o2.drop d2, fun ρ2 Ω2 σ2 H2 p2 k2 r2 => e.bk _ Ω2 _ H2 p2 (k.trans k2) r2.drop.none, fun ρ2 Ω2 σ2 H2 p2 k2 r2 => e.ct _ Ω2 _ H2 p2 (k.trans k2) r2.drop.none, fun _ _ _ _ _ _ _ z => z.elim⟩
end
end LT
namespace LT
open PySem PySem.Spec PyProof.Rows L2 L2H LL
/-- a loop that may be left at two places: what comes behind it once -/
theorem for_cut {di : DI} {dg : DG} {db : DS} {D : DN} {ρ : En} {Ω : Om} (R : En → Om → Prop) (h1 : ∀ ρ' Ω', R ρ' Ω' → D.nx ρ' Ω') (h2 : ∀ N : En → Om → Prop, (∀ ρ' Ω', R ρ' Ω' → N ρ' Ω') → dFor di dg db { D with nx := N } ρ Ω) : dFor di dg db D ρ Ω := h2 D.nx h1
/-- a comprehension with a condition -/
theorem flt_S {de : DE} {t : Tr} {ts : List Tr} {ρ : En} {Ω : Om} {dg : DG} {dt : DT} {del : DE} {vs : List Nat} {P : PT'} {PX : PXt} (he : ∀ P : PT', P t Ω → de ρ Ω P PX) (hs : asS t Ω = some ts) (f : Tr → Tr) (b : Tr → Bool)
    (hf : ∀ x ∈ ts, ∀ (Q : PT') (N : Om → Prop), (b x = true → Q (f x) Ω) → (b x = false → N Ω) → dg x (wipeT ρ vs) Ω (fun ρ2 Ω2 => dt ρ2 Ω2 (fun k Ω3 => if k = true then del ρ2 Ω3 Q nox else N Ω3) nox) nox) (h : lstNew ((ts.filter b).map f) Ω P) : dLc (diS de) dg dt del vs ρ Ω P PX :=
  he _ ⟨ts, hs, fun hz => by
    refine ⟨hz, fun i acc Ω' => Ω' = Ω ∧ acc = ((ts.take i).filter b).map f, ⟨rfl, rfl⟩, fun i acc Ω' e => e.1 ▸ stay_of hs, ?_, ?_⟩
    · rintro i x acc Ω' hx ⟨rfl, rfl⟩
      have e1 : ts.take (i + 1) = ts.take i ++ [x] := take_one hx
      refine hf x (List.mem_of_getElem? hx) (fun y Ω4 => Ω4 = Ω' ∧ ((ts.take i).filter b).map f ++ [y] = ((ts.take (i + 1)).filter b).map f) (fun Ω3 => Ω3 = Ω' ∧ ((ts.take i).filter b).map f = ((ts.take (i + 1)).filter b).map f) (fun hb => ⟨rfl, ?_⟩) (fun hb => ⟨rfl, ?_⟩)
      · rw [e1, List.filter_append, List.map_append, List.filter_cons, hb]; rfl
      · rw [e1, List.filter_append, List.map_append, List.filter_cons, hb]; exact (List.append_nil _).symm
    · rintro acc Ω' ⟨rfl, rfl⟩
      rw [List.take_length]
      exact h⟩
theorem cutT_from {us : List Tr} {f : Nat} (hf : f ≤ us.length) : cutT us (some (f : Int)) none = us.drop f := by
  have h := cutT_nat (us := us) (f := f) (k := us.length) hf
  have e : cutT us (some (f : Int)) none = cutT us (some (f : Int)) (some (us.length : Int)) := by
    unfold cutT
    rw [HT.sIx_nat us.length us.length us.length, Nat.min_self]; rfl
  rw [e, h, List.take_of_length_le]
  rw [List.length_drop]; omega
theorem cutT_to {us : List Tr} {k : Nat} : cutT us none (some (k : Int)) = us.take k := by
  have h := cutT_nat (us := us) (f := 0) (k := k) (Nat.zero_le _)
  have e : cutT us none (some (k : Int)) = cutT us (some ((0 : Nat) : Int)) (some (k : Int)) := by
    unfold cutT
    rw [HT.sIx_nat us.length 0 0, Nat.zero_min]; rfl
  rw [e, h]; rfl
end LT
namespace LT
open PySem PySem.Spec PyProof.Rows L2 L2H LL
/-- over a list of which only a fact about its items is known -/
theorem for_SR {dg : DG} {db : DS} {D : DN} {ρ : En} {Ω : Om} {de : DE} (R : Tr → Prop) (he : ∀ P : PT', (∀ us, (∀ x ∈ us, R x) → P (.lst us) Ω) → de ρ Ω P (fun y Ω' => D.ex ρ y Ω')) (W : En → Om → Prop) (w0 : W ρ Ω)
    (step : ∀ x ρ' Ω', R x → W ρ' Ω' → dg x ρ' Ω' (fun ρ2 Ω2 => db { D with nx := W, ct := W, bk := D.nx } ρ2 Ω2) nox) (fin : ∀ ρ' Ω', W ρ' Ω' → D.nx ρ' Ω') : dFor (diS de) dg db D ρ Ω :=
  he _ fun us hus => ⟨us, rfl, fun hz => ⟨fun _ => W, w0, fun _ _ _ _ => trivial, fun i x ρ' Ω' hx w => step x ρ' Ω' (hus x (List.mem_of_getElem? hx)) w, fin⟩⟩
/-- a comprehension over range(n), its items known -/
theorem map_R1 {da : DA} {n : Int} {ρ : En} {Ω : Om} {dg : DG} {del : DE} {vs : List Nat} {P : PT'} {PX : PXt} (he : ∀ P : List Tr → Om → Prop, P [.int n] Ω → da ρ Ω P PX) (hb : 0 ≤ n ∧ n ≤ 1000000) (f : Nat → Tr)
    (hf : ∀ i : Nat, i < n.toNat → ∀ Q : PT', Q (f i) Ω → dg (.int (i : Int)) (wipeT ρ vs) Ω (fun ρ2 Ω2 => dYes ρ2 Ω2 (fun b Ω3 => if b = true then del ρ2 Ω3 Q nox else False) nox) nox) (hm : MonoG dg) (h : lstNew ((List.range n.toNat).map f) Ω P) : dLc (diR1 da) dg dYes del vs ρ Ω P PX :=
  he _ ⟨n, rfl, by omega, by omega, by
    refine ⟨by rw [rngT_len]; omega, fun i acc Ω' => Ω' = Ω ∧ acc = ((List.range n.toNat).map f).take i, ⟨rfl, rfl⟩, fun _ _ _ _ => trivial, ?_, ?_⟩
    · rintro i x acc Ω' e ⟨rfl, rfl⟩
      have hi : i < n.toNat := by have := (List.getElem?_eq_some_iff.mp e).1; rwa [rngT_len] at this
      rw [rngT_get hi, Int.zero_add] at e
      cases e
      refine hm _ _ _ _ _ (fun a b z => ?_) (hf i hi (fun y Ω4 => Ω4 = Ω' ∧ ((List.range n.toNat).map f).take i ++ [y] = ((List.range n.toNat).map f).take (i + 1)) ⟨rfl, ?_⟩)
      · simpa [dYes] using z
      · rw [take_one (x := f i) (by rw [List.getElem?_map, List.getElem?_range hi]; rfl)]
    · rintro acc Ω' ⟨rfl, rfl⟩
      rw [rngT_len, List.take_of_length_le (by simp)]
      exact h⟩
/-- a comprehension over range(n), both drawn -/
theorem map_R1R {da : DA} {ρ : En} {Ω : Om} {dg : DG} {del : DE} {vs : List Nat} {P : PT'} {PX : PXt} (A : Tr → Prop) (he : ∀ P : List Tr → Om → Prop, (∀ n : Int, 0 ≤ n → n ≤ 1000000 → P [.int n] Ω) → da ρ Ω P PX)
    (hf : ∀ (i : Nat), i < 1000000 → ∀ (Q : PT'), (∀ t, A t → Q t Ω) → dg (.int (i : Int)) (wipeT ρ vs) Ω (fun ρ2 Ω2 => dYes ρ2 Ω2 (fun b Ω3 => if b = true then del ρ2 Ω3 Q nox else False) nox) nox) (hm : MonoG dg) (h : ∀ us : List Tr, us.length ≤ 1000000 → (∀ t ∈ us, A t) → lstNew us Ω P) : dLc (diR1 da) dg dYes del vs ρ Ω P PX :=
  he _ fun n n0 n1 => ⟨n, rfl, by omega, by omega, by
    refine ⟨by rw [rngT_len]; omega, fun i acc Ω' => Ω' = Ω ∧ acc.length = i ∧ ∀ t ∈ acc, A t, ⟨rfl, rfl, fun _ z => (List.not_mem_nil z).elim⟩, fun _ _ _ _ => trivial, ?_, ?_⟩
    · rintro i x acc Ω' e ⟨rfl, hl, ha⟩
      have hi : i < n.toNat := by have := (List.getElem?_eq_some_iff.mp e).1; rwa [rngT_len] at this
      rw [rngT_get hi, Int.zero_add] at e
      cases e
      refine hm _ _ _ _ _ (fun a b z => ?_) (hf i (by omega) (fun y Ω4 => Ω4 = Ω' ∧ (acc ++ [y]).length = i + 1 ∧ ∀ t ∈ acc ++ [y], A t) fun t ht => ⟨rfl, by rw [List.length_append, hl]; rfl, fun u hu => ?_⟩)
      · simpa [dYes] using z
      · rcases List.mem_append.mp hu with hu | hu
        · exact ha u hu
        · rw [List.mem_singleton.mp hu]; exact ht
    · rintro acc Ω' ⟨rfl, hl, ha⟩
      rw [rngT_len] at hl
      exact h acc (by omega) ha⟩
end LT

namespace LT
open PySem PySem.Spec PyProof.Rows L2 L2H LL
section
variable {K : PySem.W.Frag} {G : List (Value × Option Addr × XV) → Prop} {E : EK}
/-! ### a def that is called within an except suite -/
theorem dokH {P : Program} {w : World} {mg : Str → Option Value} {base : Heap} {x qual : Str} {params : Arguments} {body : List Stmt} {sc : Scope} {f : Addr} {fd : FuncData} {N ps : List Str} {k : Nat} {Pd : Pw} (F : FunD K x qual params body sc [] [] f fd) (S : FnScope N ps sc)
    (h : ∀ (cdv : Value) (A : Around) (outer : List Env) (s : Shared) (H : Hp) (E : XK) (p : Addr × Obj), Hot1 A p → RoomH k (A.deeper (envOfC qual sc s.heap.objs.size f cdv)) → ∃ t ds, PSs (cxH CX0 P w K mg base N qual sc f cdv A outer s H E p) body t ∧ SimS K (fun _ => True) (fun _ => E) t ds ∧
      ∀ ts Ω PQ PX, ts.length = ps.length → Pd ts Ω PQ PX → ds { nx := fun _ Ω' => PQ .non Ω', rt := PQ, ex := fun _ => PX } (ts.map some ++ List.replicate (N.length - ps.length) none) Ω) :
    FnH P w K mg base CX0 (k + 1) f fd ps (spD K Pd ps.length) := by
  obtain ⟨oc, od, dV, kV, doc, pm, an, cdv, ct, osl, rfl, lk, hcd, _, _⟩ := F.ex
  refine fn_ofH lk hcd S (fun vs H Q E ⟨g, Ω, ts, PQ, PX, hl, d, _⟩ => by rw [d.len]; exact hl) (fun A outer s H vs Q E p hot hr hsp => ?_)
  obtain ⟨g, Ω, ts, PQ, PX, hl, d, o, pp, q, qx⟩ := hsp
  obtain ⟨t, ds, h1, h2, h3⟩ := h cdv A outer s H E p hot hr
  refine ⟨t, h1, h2 g _ H _ Ω _ _ trivial ⟨o, ?_, fun i u e => ?_⟩ (h3 ts Ω PQ PX hl pp) ⟨fun ρ' Ω' σ' H' p k r => q _ Ω' _ H' p k r.om rfl, q, fun _ _ _ _ z => z.elim, fun _ _ _ _ z => z.elim, fun x ρ' Ω' σ' c dd H' p k r z => qx x Ω' c dd H' p k r.om z⟩⟩
  · show (vs.map some ++ List.replicate (N.length - vs.length) none).length = _
    rw [List.length_append, List.length_append, List.length_map, List.length_map, List.length_replicate, List.length_replicate, d.len, hl]
  · show ∃ v, (vs.map some ++ List.replicate (N.length - vs.length) none)[i]? = some (some v) ∧ _
    rw [List.getElem?_append] at e ⊢
    rw [List.length_map] at e ⊢
    rw [d.len]
    split at e
    · rename_i hlt
      rw [if_pos hlt]
      rw [List.getElem?_map] at e ⊢
      cases et : ts[i]? with
      | none => rw [et] at e; cases e
      | some t' =>
        rw [et] at e
        cases e
        obtain ⟨v, ev, dv⟩ := d.get' et
        exact ⟨v, by rw [ev]; rfl, dv⟩
    · have := List.mem_of_getElem? e
      rw [List.mem_replicate] at this
      exact absurd this.2 (by simp)
/-- what is never reached -/
def tDead : TS := fun _ _ _ => False
def dDead : DS := fun _ _ _ => False
theorem ps_dead {X : Cx} {s : Stmt} : PS X s tDead := ⟨fun pins s σ H D I h => h.elim⟩
theorem sim_dead : SimS K G E tDead dDead := fun g σ H ρ Ω D DD hG R h e => h.elim
theorem hot_deeper {A : Around} {env : Env} {p : Addr × Obj} (h : Hot1 A p) : Hot1 (A.deeper env) p := h
theorem pass0H {X : Cx} {E : XK} {σ : L2.St} : PassesAt CX0 X σ E := fun _ _ _ e s' I c => by
  exact (show False from c).elim
end
end LT
namespace LT
open PySem PySem.Spec PyProof.Rows L2 L2H LL
theorem law_cut {te : TE} {tg : TG} {rest : TS} {D : Ends} {σ : L2.St} {H : Hp} (C : L2.St → Hp → Prop) (h : ∀ N : L2.St → Hp → Prop, (∀ σ' H', C σ' H' → N σ' H') → tAsg te tg { D with nx := N } σ H) (h2 : ∀ σ' H', C σ' H' → rest D σ' H') : tSeq (tAsg te tg) rest D σ H := h _ h2
theorem law_sim {K : PySem.W.Frag} {E : EK} {rest : TS} {dr : DS} (sim : SimS K (fun _ => True) E rest dr) {d s : Addr} {H : Hp} {Q : VK} {σ : L2.St} {n : Nat} {v0 : Option V} (hs : σ = v0 :: some (.ref d) :: List.replicate n none) (D1 : Drw d s H) (q : ∀ H', Q (.bl true) H') (nx : L2.St → Hp → Prop)
    (h : dr { nx := fun _ _ => False, rt := fun t _ => t = .bl true, ex := fun _ => nox } (none :: some .drw :: List.replicate n none) (fun _ => none)) : rest { nx := nx, rt := Q } σ H := by
  subst hs
  refine sim ⟨some (d, s), fun _ => False, []⟩ _ H _ (fun _ => none) _ _ trivial ⟨?_, ?_, fun i t e => ?_⟩ h ⟨fun _ _ _ _ z => z.elim, fun t Ω' v H' e k o dv => ?_, fun _ _ _ _ z => z.elim, fun _ _ _ _ z => z.elim, fun _ _ _ _ _ _ _ z => z.elim⟩
  · refine ⟨fun d' s' e => ?_, (fun a c e => by cases e), (fun p hp => (List.not_mem_nil hp).elim), fun b z => (show False from z).elim⟩
    cases e
    obtain ⟨⟨c, h1, h2, ns, h3⟩, h4, h5⟩ := D1
    exact ⟨c, ns, h1, h2, h3, h4, h5, rfl, rfl, rfl, id, id, id⟩
  · rw [List.length_cons, List.length_cons, List.length_cons, List.length_cons, List.length_replicate, List.length_replicate]
  · match i, e with
    | 1, e =>
      cases e
      exact ⟨_, rfl, d, s, rfl, rfl⟩
    | i + 2, e =>
      have := List.mem_of_getElem? (show (List.replicate n (none : Option Tr))[i]? = some (some t) from e)
      rw [List.mem_replicate] at this
      cases this.2
  · have e' : t = .bl true := e
    subst e'
    rw [show v = .bl true from dv]
    exact q H'
end LT

namespace LT
open PySem PySem.Spec PyProof.Rows L2
/-- C(e, ..) makes an exception whose context is None -/
theorem pmkN {Y : Cx} {D : CXT} {cn : Str} {e0 : Expr} {er : List Expr} {t0 : TA} {p1 p2 : Pos} {Ca ia : Addr} {j : Nat} {fn : FuncData} {pn : List Str} {spc : Sp} {dv : List Value} {dw : List V} (o : OexC Y.K Ca) (i1 : PySem.W.findIn Y.K (.ref Ca) "__init__" = some (some (.ref ia))) (i2 : PySem.W.typeIn Y.K (.ref ia) = some (.type "function"))
    (f1 : FnOk Y.prog Y.w Y.K Y.mg Y.base D j ia fn pn spc) (room : Room (j + 1) Y.A) (bi : Binds Y.K fn pn dv) (dd : Vals dw dv) (px : Passes D Y (fun _ _ _ => False)) (gl : Gl Y cn) (mg : Y.mg cn = some (.ref Ca)) (args : PA Y (e0 :: er) t0)
    (nd : (cn == ("__debug__" : Str)) = false := by decide) (s1 : starEach (e0 :: er) Y.env = (false, eval e0 Y.env) :: starEach er Y.env := by rfl) (s2 : (backTo p2 (starEach er Y.env)).any (·.1) = false := by rfl) :
    L2N.PMk Y (.Call (.Name cn p1) (e0 :: er) [] p2) (tMkO Ca spc dw t0) := fun ps st ρ G W inv hyp => by
  obtain ⟨_, _, _, _, bm, _, _, _, _, _, _, _, _, _, _, cls, refs⟩ := o.cls
  refine wpAny_Call_Name_kw (ld_glob inv gl mg (PySem.W.callWith_K (h₀ := Y.base) inv.ok.mod.kin o.kC (thn (args.run p2 ps st ρ G _ inv hyp) fun ua ⟨hp, g, dr, tk, os⟩ ⟨vs, G1, inv1, rel, _, ask⟩ => ⟨inv1.kIn, ?_⟩) s1 s2) nd)
  have new : hp.objs.size ≤ hp.objs.size + 1 := Nat.le_succ _
  have call1 := ask (hp.objs.size + 1) (inv1.hok.fresh new)
  let h2 := (hp.push (PySem.W.kdv_tup ua)).push (PySem.HandSPX.excO Ca hp.objs.size)
  have keep : ∀ b ob, hp.get? b = some ob → h2.get? b = some ob := fun b ob z => Heap.get?_push_of_some _ (Heap.get?_push_of_some _ z)
  have there : h2.get? (hp.objs.size + 1) = some (PySem.HandSPX.excO Ca hp.objs.size) := by show ((hp.push _).push _).get? _ = _; heap_get
  have inv2 : Inv Y ps ρ (upd G1 (hp.objs.size + 1) (exo (hp.objs.size + 1) Ca none)) ⟨h2, g, dr, tk, os⟩ := inv1.laid (t' := tk) (o := exo (hp.objs.size + 1) Ca none) keep new (exo_ok there)
  have rel2 : Vals (V.ref (hp.objs.size + 1) :: (vs ++ dw)) (Value.ref (hp.objs.size + 1) :: (ua ++ dv)) := .cons rfl (rel.append dd)
  have len2 : (Value.ref (hp.objs.size + 1) :: ua ++ dv).length = pn.length := (f1.len _ _ _ _ call1 ▸ rel2.length).symm
  have small : ua.length ≤ sizeLine := by have := Paired.length rel; rw [sizeLine_eq]; omega
  refine wpAny_call (PySem.HandSPX.call_own F.excBase_ValueError (fun Z => PySem.HandSPX.refsVE_contains Z bm refs) (inv1.kIn _ _ cls) (PySem.W.looks_findIn inv1.kIn i1) (fun self => PySem.W.bind_fn inv1.kIn self i2) small (codeAny_mono (f1.run _ Y.stack _ _ ⟨Value.ref (hp.objs.size + 1) :: ua, []⟩ (Value.ref (hp.objs.size + 1) :: (ua ++ dv)) _ _ (fun _ _ _ => False) (room.make Ca ua []) (inv2.env0.make Ca ua []) (bi _ (Value.ref (hp.objs.size + 1) :: ua) inv2.kIn len2) rel2 call1) fun r fin out => ?_))
  match r, out with
  | .error er, out => exact px ps ρ _ _ er fin inv2 out
  | .ok (.ret u), ⟨v, G2, o2, ba2, un2, ho2, rv, ev, d, fs, ea, ed, n1, w2⟩ =>
    subst ev
    obtain ⟨hf, gf, df, tf, of⟩ := fin
    obtain ⟨t9, G9, J9, k9, ge9, he9, na9⟩ := mk_end0 (d2 := df) (t2 := tf) inv1 new keep un2 ho2 o2 ba2 ea ed n1
    exact ⟨rv, hp.objs.size + 1, _, _, ⟨G9, gf, df, tf, of⟩, _, .ref Ca, some d, rfl, J9, k9, ge9, he9, ⟨rfl, rfl, fun z hz => by cases hz; rfl⟩, rfl, rfl, na9, rfl, ba2, raises_own o.exC o.tyC, w2⟩
  | .ok .next, out => exact False.elim out
  | .ok .brk, out => exact False.elim out
  | .ok .cont, out => exact False.elim out
theorem takes0N {X : Cx} : L2N.Takes X (fun _ _ _ _ => False) := fun u s' z => by
  obtain ⟨_, _, _, _, _, _, _, _, _, _, _, _, _, _, _, _, w⟩ := z
  exact w.elim
theorem hotN {X : Cx} {a : Addr} {oe : Obj} {cls : Value} {d : Option Addr} {pn : List (Addr × Obj)} (hz : L2N.Zn cls d oe) (hf : ∃ vs, oe.data = .fields vs) : L2H.HotC (X.suite a ((a, oe) :: pn)) := by
  obtain ⟨vs, e⟩ := hf
  exact ⟨(a, oe), ⟨rfl, vs, e, hz.2.2 vs e⟩, List.mem_cons_self⟩
theorem ps_tryN {X : Cx} {x n : Str} {c : Value} {i : Nat} {body suite : List Stmt} {b₀ : Stmt} {np pos pos' : Pos} {tb : WX → TS} {ts : Addr → Value → Option Addr → TS} {Wout : WX} (hs : X.stack = X.env :: X.outer) (hf : X.env.frame = some X.env.locals) (hN : X.N.Nodup) (hi : X.N[i]? = some n) (hln : X.env.kindOf n = some .local) (hc : Names X x c) (tk : L2N.Takes X Wout)
    (hb : ∀ (W : WX) (pn : List (Addr × Obj)) (xe : Value → Shared → Prop), L2N.Takes (X.tr pn xe) W → PassesOwn (model X.prog X.w) X.A X.env xe → PSs (X.tr pn xe) body (tb W))
    (hsu : ∀ (a : Addr) (oe : Obj) (cls : Value) (d : Option Addr) (pn : List (Addr × Obj)), L2N.Zn cls d oe → (∃ vs, oe.data = .fields vs) → PSs (X.suite a ((a, oe) :: pn)) (b₀ :: suite) (ts a cls d)) :
    PS X (.Try body [.ExceptHandler (some (.Name x np)) (some n) (b₀ :: suite) pos'] [] [] pos) (tTryAs X.K c i tb ts Wout) := L2N.ps_try_as hs hf hN hi hln hc tk hb hsu
end LT

/-! zip of two, each a list or a tuple -/
namespace LL
open PySem PySem.Spec PyProof.Rows L2
/-- b: a tuple; else a list -/
def SqB (K : PySem.W.Frag) (b : Bool) (H : Hp) (a : Addr) (xs : List V) : Prop := if b = true then SqT K H a xs else SqL K H a xs
def itB (b : Bool) (h : Heap) (j a : Addr) (n : Nat) : Prop := if b = true then h.IsTupleIter j a n else h.IsListIter j a n
def isB (b : Bool) (h : Heap) (a : Addr) (xs : Array Value) : Prop := if b = true then h.IsTuple a xs else h.IsList a xs
theorem itB_obj {b : Bool} {h : Heap} {j a : Addr} {n : Nat} (e : itB b h j a n) : ∃ o, h.get? j = some o ∧ ∃ vs, o.data = .fields vs := by
  cases b
  · obtain ⟨o, e1, _, e2⟩ := (show h.IsListIter j a n from e)
    exact ⟨o, e1, _, e2⟩
  · obtain ⟨o, e1, _, e2⟩ := (show h.IsTupleIter j a n from e)
    exact ⟨o, e1, _, e2⟩
theorem itB_at {b : Bool} {h h' : Heap} {j a : Addr} {n : Nat} (e : itB b h j a n) (k : ∀ o, h.get? j = some o → h'.get? j = some o) : itB b h' j a n := by
  cases b
  · exact (show h.IsListIter j a n from e).at k
  · exact (show h.IsTupleIter j a n from e).at k
theorem drawsB {prog : Program} {w : World} {A : Around} (hh : A.handled = none) (b : Bool) (j a : Addr) (hne : a ≠ j) (xs : List Value) : Draws prog w A j [j, a] xs.length (fun i v => xs[i]? = some v) (fun i h => itB b h j a i ∧ isB b h a xs.toArray) := by
  have e : (fun (i : Nat) (v : Value) => xs.toArray[i]? = some v) = (fun (i : Nat) (v : Value) => xs[i]? = some v) := by
    funext i v
    simp
  rw [← e, ← List.size_toArray (as := xs)]
  cases b
  · exact Draws.list hh j a hne xs.toArray
  · exact Draws.tuple hh j a hne xs.toArray
theorem sqB_inv {X : Cx} {pins : List (Addr × Obj)} {σ : L2.St} {H : Hp} {s : Shared} {b : Bool} {a : Addr} {xs : List V} (I : Inv X pins σ H s) (h : SqB X.K b H a xs) : ∃ its : List Value, Vals xs its ∧ isB b s.heap a its.toArray := by
  cases b
  · obtain ⟨its, rv, p, _⟩ := I.list (show SqL X.K H a xs from h)
    exact ⟨its, rv, p.isList⟩
  · obtain ⟨its, rv, p, _⟩ := I.tuple (show SqT X.K H a xs from h)
    exact ⟨its, rv, p⟩
theorem sqB_inj {X : Cx} {pins : List (Addr × Obj)} {σ : L2.St} {H : Hp} {s : Shared} {b : Bool} {a : Addr} {xs ys : List V} (I : Inv X pins σ H s) (h : SqB X.K b H a xs) (k : SqB X.K b H a ys) : xs = ys := by
  cases b
  · exact I.list_inj (show SqL X.K H a xs from h) k
  · exact I.tuple_inj (show SqT X.K H a xs from h) k
/-- pairs of the items at a and at b -/
def ItzB (K : PySem.W.Frag) (b1 b2 : Bool) (a b : Addr) : It :=
  ⟨fun i H => ∃ xs ys x y, SqB K b1 H a xs ∧ SqB K b2 H b ys ∧ xs[i]? = some x ∧ ys[i]? = some y,
    fun i H v H' => ∃ T x y, v = .ref T ∧ H T = none ∧ H' = upd H T (.tup [x, y]) ∧ (∀ xs, SqB K b1 H a xs → xs[i]? = some x) ∧ (∀ ys, SqB K b2 H b ys → ys[i]? = some y),
    fun i H => ∃ xs ys, SqB K b1 H a xs ∧ SqB K b2 H b ys ∧ i ≤ xs.length ∧ i ≤ ys.length ∧ (i = xs.length ∨ i = ys.length)⟩
theorem turn_zipB {P : Program} {w : World} {K : PySem.W.Frag} {elts : List Expr} {kk : Nat} {tpos : Pos} {b1 b2 : Bool} {a b z TI TO j1 j2 : Addr} (S : ZipSep2 z TI TO j1 j2 [j1, a] [j2, b]) (n1 : a ≠ j1) (n2 : b ≠ j2) :
    Turn P w K (.Tuple elts kk tpos) (ItzB K b1 b2 a b) [z, TI, TO, j1, j2] z (fun i h => IsZip h z TI TO .none ∧ IsTupOf2 h TI (.ref j1) (.ref j2) ∧ (∃ x y, IsTupOf2 h TO x y) ∧ itB b1 h j1 a i ∧ itB b2 h j2 b i) where
  mem := List.mem_cons_self
  obj := fun i h st c hc => by
    obtain ⟨f1, f2, ⟨u, v, f3⟩, f4, f5⟩ := st
    simp only [List.mem_cons, List.not_mem_nil, or_false] at hc
    rcases hc with rfl | rfl | rfl | rfl | rfl
    · exact ⟨_, f1, fun _ e => nomatch e⟩
    · exact ⟨_, f2, fun _ e => nomatch e⟩
    · exact ⟨_, f3, fun _ e => nomatch e⟩
    · obtain ⟨o, e1, vs, e2⟩ := itB_obj f4
      exact ⟨o, e1, fun _ e => by rw [e2] at e; cases e⟩
    · obtain ⟨o, e1, vs, e2⟩ := itB_obj f5
      exact ⟨o, e1, fun _ e => by rw [e2] at e; cases e⟩
  keep := fun i h h' st k => by
    obtain ⟨f1, f2, ⟨u, v, f3⟩, f4, f5⟩ := st
    exact ⟨k z (by simp) _ f1, k TI (by simp) _ f2, ⟨u, v, k TO (by simp) _ f3⟩, itB_at f4 fun o e => k j1 (by simp) o e, itB_at f5 fun o e => k j2 (by simp) o e⟩
  item := by
    intro X eP ew eK hc i pins s σ H E I hf st hg
    subst eP ew eK
    obtain ⟨f1, f2, ⟨u0, v0, f3⟩, f4, f5⟩ := st
    obtain ⟨xs, ys, x, y, sx, sy, ex, ey⟩ := hg
    obtain ⟨as, ra, pa⟩ := sqB_inv I sx
    obtain ⟨bs, rb, pb⟩ := sqB_inv I sy
    obtain ⟨u, eu, ru⟩ := ra.get ex
    obtain ⟨v, ev, rv⟩ := rb.get ey
    have hzl : z < s.heap.objs.size := Heap.lt_size f1
    have hTl : TO < s.heap.objs.size := Heap.lt_size f3
    have hIl : TI < s.heap.objs.size := Heap.lt_size f2
    have h1l : j1 < s.heap.objs.size := by obtain ⟨_, e, _⟩ := itB_obj f4; exact Heap.lt_size e
    have h2l : j2 < s.heap.objs.size := by obtain ⟨_, e, _⟩ := itB_obj f5; exact Heap.lt_size e
    have hd : X.A.handled = none := I.ok.hd hc
    have D1 := drawsB (prog := X.prog) (w := X.w) (A := X.A.in1) hd b1 j1 a n1 as
    have D2 := drawsB (prog := X.prog) (w := X.w) (A := X.A.in1) hd b2 j2 b n2 bs
    refine wpAny_pyNext_zipD2_item S D1 D2 f1 f2 f3 (i := i) ⟨f4, pa⟩ ⟨f5, pb⟩ (List.getElem?_eq_some_iff.mp eu).1 (List.getElem?_eq_some_iff.mp ev).1 fun u' v' h' tk q1 q2 g1 g2 g3 g4 g5 _ hk => ?_
    rw [eu] at q1
    rw [ev] at q2
    cases q1
    cases q2
    refine ⟨_, rfl, wpAny_letOwnedTupleGo_zip (s := { s with heap := h', toks := tk }) g1 fun h2 g1' sb => ?_⟩
    have eT : h2.get? s.heap.objs.size = some { cls := .type "tuple", data := .seq #[u, v] } := (sb.2 _ (Nat.ne_of_gt hzl)).trans g5
    have fresh := I.hok.fresh (Nat.le_refl s.heap.objs.size)
    have ob : ObjOk X.prog X.w (upd H s.heap.objs.size (.tup [x, y])) h2 s.heap.objs.size (.tup [x, y]) := ⟨(show 2 ≤ sizeLine by decide), [u, v], .cons ru (.cons rv .nil), ⟨_, eT, rfl, _, rfl⟩⟩
    have kp : ∀ c o, c ∉ [z, TI, TO, j1, j2] → s.heap.get? c = some o → h2.get? c = some o := fun c o hb e => by
      simp only [List.mem_cons, List.not_mem_nil, or_false, not_or] at hb
      exact (sb.2 c hb.1).trans (hk c o hb.1 hb.2.2.1 hb.2.2.2.1 hb.2.2.2.2 e)
    have J : Inv X pins σ (upd H s.heap.objs.size (.tup [x, y])) { s with heap := h2, toks := tk } := I.turnedNew (t' := tk) (ch := [z, TI, TO, j1, j2]) kp hf (Nat.le_refl _) ob
    refine ⟨.ref s.heap.objs.size, _, J, rfl, ⟨_, x, y, rfl, fresh, rfl, fun l hl => by rw [sqB_inj I hl sx]; exact ex, fun l hl => by rw [sqB_inj I hl sy]; exact ey⟩, ⟨g1', ?_, ⟨u, v, ?_⟩, ?_, ?_⟩, fun c hcm => ?_⟩
    · exact (sb.2 _ S.TIz).trans (hk _ _ S.TIz S.TITO S.TIi1 S.TIi2 f2)
    · exact (sb.2 _ S.TOz).trans g2
    · exact itB_at g3.1 fun o e => (sb.2 _ S.zi1.symm).trans e
    · exact itB_at g4.1 fun o e => (sb.2 _ S.zi2.symm).trans e
    · have hlt : c < s.heap.objs.size := by
        simp only [List.mem_cons, List.not_mem_nil, or_false] at hcm
        rcases hcm with rfl | rfl | rfl | rfl | rfl <;> assumption
      rw [upd_ne (Nat.ne_of_lt hlt)]
      exact (hf c hcm).1
  done := by
    intro X eP ew eK hc i pins s σ H E I hf st hg
    subst eP ew eK
    obtain ⟨f1, f2, ⟨u0, v0, f3⟩, f4, f5⟩ := st
    obtain ⟨xs, ys, sx, sy, l1, l2, hend⟩ := hg
    obtain ⟨as, ra, pa⟩ := sqB_inv I sx
    obtain ⟨bs, rb, pb⟩ := sqB_inv I sy
    have e1 : xs.length = as.length := ra.length
    have e2 : ys.length = bs.length := rb.length
    have hd : X.A.handled = none := I.ok.hd hc
    have D1 := drawsB (prog := X.prog) (w := X.w) (A := X.A.in1) hd b1 j1 a n1 as
    have D2 := drawsB (prog := X.prog) (w := X.w) (A := X.A.in1) hd b2 j2 b n2 bs
    refine wpAny_pyNext_zipD2_end S D1 D2 f1 f2 f3 (i := i) ⟨f4, pa⟩ ⟨f5, pb⟩ (by omega) (by omega) (by omega) fun h' tk hk => ⟨rfl, I.turnedL (t' := tk) (ch := [z, TI, TO, j1, j2]) (fun c o hb e => ?_) hf⟩
    simp only [List.mem_cons, List.not_mem_nil, or_false, not_or] at hb
    exact hk c o hb.1 hb.2.2.1 hb.2.2.2.1 hb.2.2.2.2 e
  self := fun A i s Q E st h => wpAny_pyIter_zip st.1 h
def iZipB (K : PySem.W.Frag) (ta : TA) : TI := fun σ H R => ta σ H fun vs H1 => ∃ b1 b2 a b xs ys, vs = [.ref a, .ref b] ∧ SqB K b1 H1 a xs ∧ SqB K b2 H1 b ys ∧ R (ItzB K b1 b2 a b) H1
theorem beginsB (b : Bool) (a : Addr) (xs : Array Value) : ∃ o, Begins (.ref a) o (fun h => isB b h a xs) ∧ ∀ h j, h.get? j = some o → itB b h j a 0 := by
  cases b
  · exact ⟨_, begins_list a xs, fun h j e => ⟨_, e, rfl, rfl⟩⟩
  · exact ⟨_, begins_tuple a xs, fun h j e => ⟨_, e, rfl, rfl⟩⟩
theorem isB_lt {b : Bool} {h : Heap} {a : Addr} {xs : Array Value} (e : isB b h a xs) : a < h.objs.size := by
  cases b
  · obtain ⟨o, q, _⟩ := (show h.IsList a xs from e)
    exact Heap.lt_size q
  · obtain ⟨o, q, _⟩ := (show h.IsTuple a xs from e)
    exact Heap.lt_size q
theorem pi_zipB {X : Cx} {e e2 : Expr} {ta : TA} {p pos tpos : Pos} {elts : List Expr} {kk : Nat} {K : PySem.W.Frag} (hK : X.K = K) (hg : Gl X "zip") (hm : X.mg "zip" = none) (ha : PA X [e, e2] ta)
    (hs : starEach [e, e2] X.env = (false, eval e X.env) :: starEach [e2] X.env := by rfl) (hpl : (backTo pos (starEach [e2] X.env)).any (·.1) = false := by rfl) : PI X (.Tuple elts kk tpos) (.Call (.Name "zip" p) [e, e2] [] pos) (iZipB K ta) := by
  subst hK
  refine ⟨fun pins s σ H R I h => Call_ (ld_blt I hg hm PyProof.Rows.boot_zip (PyProof.Rows.callWith_type1 (thn (ha.run pos pins s σ H _ I h) fun us s1 ⟨vs, H1, I1, r1, q1⟩ => ?_) hs hpl))⟩
  obtain ⟨b1, b2, a, b, xs, ys, rfl, sx, sy, q⟩ := q1
  cases r1 with
  | cons r rr =>
    cases rr with
    | cons r' rr =>
      cases rr
      cases r
      cases r'
      obtain ⟨as, ra, pa⟩ := sqB_inv I1 sx
      obtain ⟨bs, rb, pb⟩ := sqB_inv I1 sy
      obtain ⟨o1, B1, t1⟩ := beginsB b1 a as.toArray
      obtain ⟨o2, B2, t2⟩ := beginsB b2 b bs.toArray
      have la := isB_lt pa
      have lb := isB_lt pb
      refine zip_begins2 B1 B2 pa pb fun h' g1 g2 g3 g4 g5 _ hk => wpAny_pyIter_zip g1 ?_
      have I2 : Inv X pins σ H1 { s1 with heap := h' } := I1.kept (t' := s1.toks) hk
      have S : ZipSep2 (s1.heap.objs.size + 4) (s1.heap.objs.size + 2) (s1.heap.objs.size + 3) s1.heap.objs.size (s1.heap.objs.size + 1) [s1.heap.objs.size, a] [s1.heap.objs.size + 1, b] := by
        generalize s1.heap.objs.size = n at la lb
        have ha2 : a ≠ n := Nat.ne_of_lt la
        have hb2 : b ≠ n := Nat.ne_of_lt lb
        have x1 : ∀ k : Nat, n + k ≠ a := fun k z => by have : n + k < n := z ▸ la; omega
        have x2 : ∀ k : Nat, n + k ≠ b := fun k z => by have : n + k < n := z ▸ lb; omega
        have x3 : ∀ k l : Nat, k ≠ l → n + k ≠ n + l := fun k l h z => h (by have : n + k = n + l := z; omega)
        have x4 : ∀ k : Nat, k ≠ 0 → n + k ≠ n := fun k h z => h (by have : n + k = n := z; omega)
        refine ⟨x3 2 4 (by decide), x3 3 4 (by decide), x3 2 3 (by decide), x4 2 (by decide), List.mem_cons_self, ?_, ?_, x3 2 1 (by decide), List.mem_cons_self, ?_, ?_, ?_, ?_⟩ <;> simp only [List.mem_cons, List.not_mem_nil, or_false, not_or]
        · exact ⟨x4 4 (by decide), x1 4⟩
        · exact ⟨x4 3 (by decide), x1 3⟩
        · exact ⟨x3 4 1 (by decide), x2 4⟩
        · exact ⟨x3 3 1 (by decide), x2 3⟩
        · exact ⟨(x4 1 (by decide)).symm, hb2.symm⟩
        · exact ⟨x4 1 (by decide), x1 1⟩
      refine ⟨s1.heap.objs.size + 4, _, _, _, H1, rfl, I2, turn_zipB S (Nat.ne_of_lt la) (Nat.ne_of_lt (Nat.lt_succ_of_lt lb)), ⟨g1, g2, ⟨_, _, g3⟩, t1 _ _ g4, t2 _ _ g5⟩, fun c hcm => ?_, q⟩
      have hle : s1.heap.objs.size ≤ c := by
        simp only [List.mem_cons, List.not_mem_nil, or_false] at hcm
        generalize s1.heap.objs.size = n at hcm
        rcases hcm with e | e | e | e | e <;> rw [e]
        · exact Nat.le_add_right n 4
        · exact Nat.le_add_right n 2
        · exact Nat.le_add_right n 3
        · exact Nat.le_refl n
        · exact Nat.le_add_right n 1
      exact I1.fpOk hle (I1.hok.fresh hle)
end LL

/-! t[::-1], t a tuple -/
namespace LL
open PySem PySem.Spec PyProof.Rows L2 HT
theorem back_pick (n : Nat) (xs : Array Value) (hn : n = xs.size) : ((List.range n).filterMap fun (m : Nat) => xs[((n : Int) - 1 + (m : Int) * (-1)).toNat]?) = xs.toList.reverse := by
  subst hn
  have e : (fun (m : Nat) => xs[(((xs.size : Nat) : Int) - 1 + (m : Int) * (-1)).toNat]?) = (fun k => xs[k]?) ∘ fun k => xs.size - 1 - k := by
    funext m
    show _ = xs[xs.size - 1 - m]?
    congr 1
    omega
  rw [e, ← List.filterMap_map, PySem.W.krv_range, List.filterMap_reverse, PySem.W.krv_all]
theorem back_places (n : Nat) : Builtin.Slice.slicePlaces ((n : Int) - 1) (-1) (-1) = n := by
  unfold Builtin.Slice.slicePlaces
  have h1 : ¬ (-1 : Int) > 0 := by omega
  simp only [h1, if_false, show (- -1 : Int) = 1 by decide, Int.ediv_one]
  split <;> omega
section
variable {prog : Program} {w : World} {A : Around} {E : Value → Shared → Prop} {s : Shared}
theorem tup_back {t sl : Addr} {xs : Array Value} {v1 v2 v3 : Value} {Q : Value → Shared → Prop} (ht : IsTup s.heap t xs) (hq : s.heap.IsSliceOf sl v1 v2 v3) (p1 : IsPart v1 none) (p2 : IsPart v2 none) (p3 : IsPart v3 (some (-1)))
    (h : Q (.ref s.heap.objs.size) { s with heap := s.heap.push { cls := .type "tuple", data := .seq xs.toList.reverse.toArray } }) (hz : xs.size ≤ sizeLine) : wpAny (model prog w) A (getItem (.ref t) (.ref sl)) Q E s := by
  have sz : sizeOk (.seq xs.toList.reverse.toArray) := by
    show xs.toList.reverse.toArray.size ≤ sizeLine
    rw [List.size_toArray, List.length_reverse, Array.length_toList]; exact hz
  obtain ⟨ob, eo, ec, ed⟩ := id hq
  have tS : s.TypeIs (.ref sl) "slice" := ⟨ob, eo, ec⟩
  unfold getItem
  try with_reducible refine wpAny_holding ?_
  first | refine wpAny_bind (wpAny_pure ?_) | skip
  refine wpAny_bind (wpAny_sequenceKey ht.typeIs (by decide) (wpAny_bind (wpAny_callSpecial?_slot (name := Str.ofString "__getitem__") ht.typeIs PyProof.Rows.slot_tuple_getitem (wpAny_call_entry PyProof.Rows.slot_tuple_getitem ht.typeIs entry_tuple_getitem ?_ (args_tuple_getitem _ _)))))
  show wpAny _ _ (Builtin.Tuple.tupleItemsOf (.ref t) >>= fun _ => _) _ _ s
  refine wpAny_bind (tupleItemsOf_ ht (wpAny_bind (wpAny_typeOf tS ?_)))
  rw [if_pos (show _ = true by decide)]
  refine wpAny_bind ?_
  · unfold Builtin.Slice.sliceApplied Builtin.Slice.sliceFields
    refine wpAny_bind (wpAny_bind (wpAny_field eo ed (x := v1) rfl (wpAny_bind (wpAny_field eo ed (x := v2) rfl (wpAny_bind (wpAny_field eo ed (x := v3) rfl (wpAny_pure ?_)))))))
    refine wpAny_bind (slicePart_ p3 ?_)
    show wpAny _ _ (if ((-1 : Int) == 0) = true then _ else _) _ _ s
    rw [if_neg (show ¬ _ by decide)]
    refine wpAny_bind (slicePart_ p1 (wpAny_bind (slicePart_ p2 (wpAny_bind (wpAny_pure ?_)))))
    show wpAny _ _ (pure ((((xs.size : Nat) : Int) - 1), (-1 : Int), Builtin.Slice.slicePlaces (((xs.size : Nat) : Int) - 1) (-1) (-1))) _ _ s
    rw [back_places]
    refine wpAny_pure ?_
    have no : ¬ (((((xs.size : Nat) : Int) - 1 == 0) && ((-1 : Int) == 1) && (xs.size == xs.size)) = true) := by
      intro z
      rw [show ((-1 : Int) == 1) = false by decide] at z
      simp at z
    show wpAny _ _ (if (((((xs.size : Nat) : Int) - 1 == 0) && ((-1 : Int) == 1) && (xs.size == xs.size)) = true) then _ else _) _ _ s
    rw [if_neg no, back_pick xs.size xs rfl]
    first
      | exact wpAny_bind (m := Builtin.Tuple.tupleExact _) (wpAny_newObj_type (wpAny_pure ⟨_, rfl, wpAny_pure h⟩) sz)
      | exact wpAny_bind (m := Builtin.Tuple.tupleExact _) (wpAny_newObj_type (wpAny_bind (wpAny_pure (wpAny_pure ⟨_, rfl, wpAny_pure h⟩))) sz)
      | exact wpAny_bind (wpAny_bind (m := Builtin.Tuple.tupleExact _) (wpAny_newObj_type (wpAny_pure (wpAny_pure ⟨_, rfl, wpAny_pure h⟩)) sz))
      | exact wpAny_bind (wpAny_bind (m := Builtin.Tuple.tupleExact _) (wpAny_newObj_type (wpAny_pure ⟨_, rfl, wpAny_pure h⟩) sz))
end
def tRevT (K : PySem.W.Frag) (te : TE) : TE := fun σ H Q => te σ H fun x H1 => ∃ a xs, x = .ref a ∧ SqT K H1 a xs ∧ ∀ p, H1 p = none → Q (.ref p) (upd H1 p (.tup xs.reverse))
theorem pe_revT {X : Cx} {K : PySem.W.Frag} {e : Expr} {te : TE} {k : Nat} {q1 q2 q3 pos : Pos} (hK : X.K = K) (he : PE X e te) : PE X (.Subscript e (.Slice none none (some (.UnaryOp .USub (.Constant (.int 1) k q1) q2)) q3) pos) (tRevT K te) := by
  subst hK
  refine ⟨fun pins s σ H Q I h => Subscript_ (thn (he.run pins s σ H _ I h) fun v s1 ⟨x, H1, I1, r1, a, xs, ex, hx, q⟩ => ?_)⟩
  subst ex
  cases r1
  have hst : PO X (some (.UnaryOp .USub (.Constant (.int 1) k q1) q2)) (tPart (tUn (rU fun i => .int (-i)) (tC (.int 1)))) := po_some (pe_un un_neg pe_int)
  refine wpAny_Slice (thn (po_none.run pins s1 σ H1 (fun o G => o = none ∧ G = H1) I1 ⟨rfl, rfl⟩) fun v1 s2 ⟨l, H2, I2, p1, el, e2⟩ => ?_)
  subst el e2
  refine thn (po_none.run pins s2 σ H2 (fun o G => o = none ∧ G = H2) I2 ⟨rfl, rfl⟩) fun v2 s3 ⟨u, H3, I3, p2, eu, e3⟩ => ?_
  subst eu e3
  refine thn (hst.run pins s3 σ H3 (fun o G => o = some (-1) ∧ G = H3) I3 ⟨1, rfl, -1, rfl, rfl, rfl⟩) fun v3 s4 ⟨o, H4, I4, p3, eo, e4⟩ => ?_
  subst eo e4
  have J : Inv X pins σ H4 { s4 with heap := s4.heap.push { cls := .type "slice", data := .fields #[v1, v2, v3] } } := I4.kept (t' := s4.toks) fun b ob z => Heap.get?_push_of_some _ z
  obtain ⟨its, r, ht, hz⟩ := J.tuple hx
  have hlen := r.length
  show wpAny (model X.prog X.w) X.A (subscriptTail e (.Slice none none (some (.UnaryOp .USub (.Constant (.int 1) k q1) q2)) q3) (.ref a) (.ref s4.heap.objs.size)) (EP X pins σ Q) X.xe { s4 with heap := s4.heap.push { cls := .type "slice", data := .fields #[v1, v2, v3] } }
  refine tail_any (ops := [.ref a, .ref s4.heap.objs.size]) ht.typeIs PyProof.Rows.slot_tuple_getitem.lookup ?_ (by with_unfolding_all rfl)
  refine tup_back ht (Heap.IsSliceOf.new _ v1 v2 v3) p1 p2 p3 ?_ (by rw [List.size_toArray]; omega)
  refine ⟨.ref _, _, J.laid (t' := s4.toks) (o := .tup xs.reverse) (fun b ob z => Heap.get?_push_of_some _ z) (Nat.le_refl _) ?_, rfl, q _ (J.hok.fresh (Nat.le_refl _))⟩
  exact ⟨by rw [List.length_reverse]; exact hz, _, r.reverse, IsTup.new _ _⟩
end LL

namespace LT
open PySem PySem.Spec PyProof.Rows L2 LL
section
variable {K : PySem.W.Frag} {G : List (Value × Option Addr × XV) → Prop} {E : EK}
theorem passE0N {X : Cx} : Passes (L2N.CX X.prog X.w) X E0 := fun _ _ _ _ _ _ _ h => by
  obtain ⟨_, _, _, _, _, _, _, _, _, _, _, _, hE⟩ := h
  exact hE.elim
theorem wide_mul' {v : Int} (h : v.natAbs < 2 ^ 5000) : CMulW v 10000000000000000000000000000000000000000000000000000000000000000 := wide_mul h (b := 300) (by decide) (by decide) (by decide) (by decide)
theorem nil_all {P : Tr → Prop} : ∀ x ∈ ([] : List Tr), P x := fun _ h => nomatch h
theorem rngT_mem {lo : Int} {n : Nat} {x : Tr} (h : x ∈ rngT lo n) : ∃ i : Nat, i < n ∧ x = .int (lo + i) := by
  unfold rngT at h
  obtain ⟨i, hi, rfl⟩ := List.mem_map.mp h
  exact ⟨i, List.mem_range.mp hi, rfl⟩
/-! ### zip -/
def zipT (us ws : List Tr) : List Tr := List.zipWith (fun x y => .tup [x, y]) us ws
theorem zipT_get {us ws : List Tr} {i : Nat} {x y : Tr} (h1 : us[i]? = some x) (h2 : ws[i]? = some y) : (zipT us ws)[i]? = some (.tup [x, y]) := by
  unfold zipT
  rw [List.getElem?_zipWith, h1, h2]
theorem zipT_at {us ws : List Tr} {i : Nat} {x : Tr} (h : (zipT us ws)[i]? = some x) : ∃ a b, us[i]? = some a ∧ ws[i]? = some b ∧ x = .tup [a, b] := by
  unfold zipT at h
  rw [List.getElem?_zipWith] at h
  split at h
  · rename_i a b ha hb
    cases h
    exact ⟨a, b, ha, hb, rfl⟩
  · cases h
theorem atI_last {us : List Tr} {x : Tr} {n : Nat} (h : us[n]? = some x) (hn : us.length = n + 1) : L2.atI us (-1) = some x := by
  have e : ixN us.length (-1) = some n := by
    unfold ixN
    rw [if_neg (by omega), hn]
    first
      | (rw [if_pos (by omega)]; congr 1; omega)
      | simp
  unfold L2.atI
  rw [e]
  exact h
theorem zipT_len {us ws : List Tr} : (zipT us ws).length = min us.length ws.length := by unfold zipT; rw [List.length_zipWith]
/-- a list or a tuple, as the machine has it -/
def isTupT : Tr → Bool
  | .tup _ => true
  | _ => false
theorem at_B {g : Gh} {H : Hp} {Ω : Om} {v : V} {t : Tr} {ts : List Tr} (o : OmOk K g H Ω) (d : VD K g.dr (NM g Ω) H v t) (h : asS t Ω = some ts) : ∃ a xs, v = .ref a ∧ SqB K (isTupT t) H a xs ∧ VDL K g.dr (NM g Ω) H xs ts ∧ ts.length ≤ 1000000 := by
  cases t with
  | tup us =>
    obtain ⟨a, xs, e, s, d, z⟩ := at_T (ts := ts) d h
    exact ⟨a, xs, e, s, d, z⟩
  | lst us =>
    obtain ⟨a, xs, e, s, _, d, z⟩ := at_L (ts := ts) o d h
    exact ⟨a, xs, e, s, d, z⟩
  | obj us =>
    obtain ⟨a, xs, e, s, _, d, z⟩ := at_L (ts := ts) o d h
    exact ⟨a, xs, e, s, d, z⟩
  | _ => cases h
theorem stays_B {g g' : Gh} {H1 H' : Hp} {Ω1 Ω' : Om} {t : Tr} {ts : List Tr} {a : Addr} (hg : g' = g ∨ ∃ D, H1 D = none ∧ g' = g.with D) (k : Keep g H1 Ω1 H' Ω') (o' : OmOk K g' H' Ω') (st : stay t ts Ω') (h : asS t Ω1 = some ts) (d : VD K g.dr (NM g Ω1) H1 (.ref a) t) : ∃ ys, SqB K (isTupT t) H' a ys ∧ VDL K g'.dr (NM g' Ω') H' ys ts := by
  cases t with
  | tup us =>
    obtain ⟨b, ys, e, s, dl, _⟩ := at_T (ts := ts) (vd_at hg k d) h
    cases e
    exact ⟨ys, s, dl⟩
  | lst us =>
    obtain ⟨ys, s, dl⟩ := stays_L (ts := ts) hg k o' st h d
    exact ⟨ys, s, dl⟩
  | obj us =>
    obtain ⟨ys, s, dl⟩ := stays_L (ts := ts) hg k o' st h d
    exact ⟨ys, s, dl⟩
  | _ => cases h
theorem itz_ok {g : Gh} {H1 : Hp} {Ω1 : Om} {t u : Tr} {ts us : List Tr} {a b : Addr} (h : asS t Ω1 = some ts) (d : VD K g.dr (NM g Ω1) H1 (.ref a) t) (h2 : asS u Ω1 = some us) (d2 : VD K g.dr (NM g Ω1) H1 (.ref b) u) : ItOk K g (ItzB K (isTupT t) (isTupT u) a b) (zipT ts us) H1 Ω1 (fun Ω => stay t ts Ω ∧ stay u us Ω) := fun g' hg i H' Ω' k o' st => by
  obtain ⟨xs, s1, l1⟩ := stays_B hg k o' st.1 h d
  obtain ⟨ys, s2, l2⟩ := stays_B hg k o' st.2 h2 d2
  have e1 := l1.len
  have e2 := l2.len
  rw [zipT_len]
  refine ⟨fun e => ⟨xs, ys, s1, s2, by omega, by omega, by omega⟩, fun hi => ⟨⟨xs, ys, xs[i]'(by omega), ys[i]'(by omega), s1, s2, List.getElem?_eq_getElem _, List.getElem?_eq_getElem _⟩, ?_⟩⟩
  rintro v H'' ⟨T, x, y, rfl, n, rfl, hx, hy⟩
  obtain ⟨tx, ex, dx⟩ := l1.get _ (hx xs s1)
  obtain ⟨ty, ey, dy⟩ := l2.get _ (hy ys s2)
  have kn : Keep g' H' Ω' (upd H' T (.tup [x, y])) Ω' := .new n
  have hk : Keep g H' Ω' (upd H' T (.tup [x, y])) Ω' := .new n
  exact ⟨hk, o'.new n, _, zipT_get ex ey, T, _, rfl, .inl ⟨NM.new o' n (not_pr o' n), upd_same⟩, .cons (dx.keep kn) (.one (dy.keep kn)), by simp⟩
def diZ (da : DA) : DI := fun ρ Ω P PX => da ρ Ω (fun vs Ω1 => ∃ t u ts us, vs = [t, u] ∧ asS t Ω1 = some ts ∧ asS u Ω1 = some us ∧ (ts.length ≤ 1000000 → us.length ≤ 1000000 → P (zipT ts us) (fun Ω => stay t ts Ω ∧ stay u us Ω) Ω1)) PX
theorem sim_iZ {ta : TA} {da : DA} (h : SimA K G E ta da) : SimI K G E (iZipB K ta) (diZ da) := fun g σ H ρ Ω P PX R hG r p q qx =>
  h g σ H ρ Ω _ PX _ hG r p (fun vs Ω1 ws H1 ⟨t, u, ts, us, e0, e1, e2, p1⟩ k1 o1 d1 => by
    subst e0
    obtain ⟨v, _, rfl, dv, w, _, rfl, dw, rfl⟩ := d1
    obtain ⟨a, xs, rfl, s1, l1, z1⟩ := at_B o1 dv e1
    obtain ⟨b, ys, rfl, s2, l2, z2⟩ := at_B o1 dw e2
    exact ⟨_, _, a, b, xs, ys, rfl, s1, s2, q _ _ Ω1 _ H1 (p1 z1 z2) k1 o1 (itz_ok e1 dv e2 dw)⟩) qx
/-! ### t[::-1] -/
def dRevT (de : DE) : DE := fun ρ Ω P PX => de ρ Ω (fun t Ω1 => ∃ ts, t = .tup ts ∧ P (.tup ts.reverse) Ω1) PX
theorem VDL.rv {dr : Option (Addr × Addr)} {F : Addr → Prop} {H : Hp} {xs : List V} {ts : List Tr} (d : VDL K dr F H xs ts) : VDL K dr F H xs.reverse ts.reverse := by
  have e := d.len
  refine VDL.of_all (by rw [List.length_reverse, List.length_reverse, e]) fun i x t h1 h2 => ?_
  have h3 := (List.getElem?_eq_some_iff.mp h1).1
  rw [List.length_reverse] at h3
  rw [List.getElem?_reverse h3] at h1
  rw [List.getElem?_reverse (by omega), ← e] at h2
  exact d.all _ x t h1 h2
theorem sim_revT {te : TE} {de : DE} (h : SimE K G E te de) : SimE K G E (tRevT K te) (dRevT de) := fun g σ H ρ Ω P PX Q hG R p q qx =>
  h g σ H ρ Ω _ PX _ hG R p (fun t Ω1 v H1 ⟨ts, e, p1⟩ k1 o1 d1 => by
    subst e
    obtain ⟨a, xs, rfl, s, dl, z⟩ := sqt d1
    exact ⟨a, xs, rfl, s, fun p n => new_tup o1 dl.rv (by rw [List.length_reverse]; exact z) p1 (q.at k1) n⟩) qx
/-! ### str(i) -/
def rStrI : List V → Hp → VK → Prop := fun xs H Q => ∃ i : Int, xs = [.int i] ∧ i.natAbs.log2 < 1920 ∧ Q (.str (toString i)) H
theorem call_strI {X : Cx} : CallR X (.type "str") rStrI := call_str_int
def dStrI : List Tr → Om → PT' → Prop := fun us Ω P => ∃ i : Int, us = [.int i] ∧ i.natAbs.log2 < 1920 ∧ P (.str (toString i)) Ω
theorem simc_strI : SimC K rStrI dStrI := fun g H Ω vs us P Q o d ⟨i, e, hz, p⟩ q => by
  subst e
  obtain ⟨v, _, rfl, dv, rfl⟩ := d
  exact ⟨i, by rw [show v = _ from dv], hz, q _ Ω _ H p .refl o rfl⟩
/-! ### isinstance(e, (C1, C2, ..)) in the suite that holds e -/
def rIsXT (K : PySem.W.Frag) (a D : Addr) (cls : Value) (d : Option Addr) : List V → Hp → VK → Prop := fun xs H Q => ∃ (dd tp : Addr) (cs : List V) (us : List Value) (b : Bool) (fs : List (Str × V)), cls = .ref D ∧ d = some dd ∧ xs = [.ref a, .ref tp] ∧ H tp = some (.tup cs) ∧ Paired ClsV cs us ∧ PySem.W.kitAny K (.ref D) us = some b ∧ H dd = some (.xd fs) ∧ Q (.bl b) H
theorem call_isXT {X : Cx} {p : Addr × Obj} {D : Addr} {cls : Value} {d : Option Addr} (hp : p ∈ X.pn) (C : ExcD X.K D) (hz : Zc cls d p.2) (hf : ∃ fs, p.2.data = .fields fs) : CallR X (.builtin "isinstance") (rIsXT X.K p.1 D cls d) := by
  rintro pins s σ H xs us Q I r ⟨dd, tp, cs, ws, b, fs, rfl, rfl, rfl, hT, k, e, hd, q⟩
  obtain ⟨u1, u2, rfl, r1, r2⟩ := vals2 r
  cases (show u1 = Value.ref p.1 from r1)
  cases (show u2 = Value.ref tp from r2)
  obtain ⟨hget, _⟩ := I.pin p (List.mem_append_left _ hp)
  have hx : ObjOk X.prog X.w H s.heap dd (.xd fs) := I.hok dd _ hd
  obtain ⟨mA, ⟨od, es, ep, ho, hr⟩, _⟩ := hx
  obtain ⟨vs, hv⟩ := hf
  have J : PySem.W.InstAt s.heap p.1 p.2 D (some od) := ⟨hget, hz.1, by unfold PySem.W.notCls; rw [hv] <;> rfl, by rw [hz.2]; exact ho⟩
  obtain ⟨_, its, rv, oo, h1, h2, n, h3⟩ := (show ObjOk X.prog X.w H s.heap tp (.tup cs) from I.hok tp _ hT)
  have e3 := ClsV.all k rv
  subst e3
  obtain ⟨oc, odd, dt, sl⟩ := oo
  simp only at h2 h3
  subst h2 h3
  exact PySem.W.kia_tup (PySem.W.kitx_exc C.hc C.hg C.hk C.hs C.ha C.hn C.ht C.hm) I.kIn J h1 e (fun z => nomatch z) fun tk => ⟨.bl b, H, I.tok tk, rfl, q⟩
/-- the classes of a tuple, one by one -/
def anyK (K : PySem.W.Frag) (t : Value) : List Tr → Bool → Prop
  | [], r => r = false
  | c :: cs, r => ∃ cv b, clsV c = some cv ∧ PySem.W.kitOne K t cv = some b ∧ if b = true then r = true else anyK K t cs r
def dIsXT (K : PySem.W.Frag) (a : Addr) (x : XV) : List Tr → Om → PT' → Prop := fun us Ω P => ∃ cs b, us = [.obj a, .tup cs] ∧ cs.all (fun c => (clsV c).isSome) = true ∧ anyK K (.ref (He.ga K x.cls)) cs b ∧ P (.bl b) Ω
theorem any_kit {K : PySem.W.Frag} {t : Value} {g : Gh} {Ω : Om} {H : Hp} : ∀ {cs : List Tr} {vs : List V} {b : Bool}, VDL K g.dr (NM g Ω) H vs cs → cs.all (fun c => (clsV c).isSome) = true → anyK K t cs b → ∃ us, Paired ClsV vs us ∧ PySem.W.kitAny K t us = some b
  | [], vs, b, d, _, h => by
    rw [show vs = [] from d, show b = false from h]
    exact ⟨[], .nil, kitAny_nil⟩
  | c :: cs, vs, b, d, ha, h => by
    obtain ⟨v, ws, rfl, d1, d2⟩ := d
    obtain ⟨cv, k, hc, hk, hr⟩ := h
    have ha' := Bool.and_eq_true_iff.mp (show ((clsV c).isSome && cs.all (fun c => (clsV c).isSome)) = true from ha)
    have hcv : ClsV v cv := by
      cases c with
      | ty n => cases hc; rw [show v = _ from d1]; exact .ty n
      | obj b => cases hc; rw [show v = _ from d1]; exact .own b
      | _ => cases hc
    cases k with
    | true =>
      rw [if_pos rfl] at hr
      subst hr
      have rest : ∀ {cs : List Tr} {ws : List V}, VDL K g.dr (NM g Ω) H ws cs → cs.all (fun c => (clsV c).isSome) = true → ∃ us, Paired ClsV ws us := by
        intro cs
        induction cs with
        | nil => intro ws d _; rw [show ws = [] from d]; exact ⟨[], .nil⟩
        | cons c cs ih =>
          intro ws d ha
          obtain ⟨v, ws, rfl, d1, d2⟩ := d
          have ha' := Bool.and_eq_true_iff.mp (show ((clsV c).isSome && cs.all (fun c => (clsV c).isSome)) = true from ha)
          obtain ⟨us, hu⟩ := ih d2 ha'.2
          obtain ⟨cv, hc⟩ := Option.isSome_iff_exists.mp ha'.1
          have hcv : ClsV v cv := by
            cases c with
            | ty n => cases hc; rw [show v = _ from d1]; exact .ty n
            | obj b => cases hc; rw [show v = _ from d1]; exact .own b
            | _ => cases hc
          exact ⟨cv :: us, .cons hcv hu⟩
      obtain ⟨us, hu⟩ := rest d2 ha'.2
      exact ⟨cv :: us, .cons hcv hu, kitAny_cons hk (fun z => nomatch z) fun _ => rfl⟩
    | false =>
      rw [if_neg Bool.false_ne_true] at hr
      obtain ⟨us, hu, hb⟩ := any_kit d2 ha'.2 hr
      exact ⟨cv :: us, .cons hcv hu, kitAny_cons hk (fun _ => hb) fun z => nomatch z⟩
theorem sim_isXT {a C : Addr} {cls : Value} {d : Option Addr} {x : XV} {te : TE} {ta : TA} {de : DE} {da : DA} (he : SimE K (GX G cls d x) E te de) (h : SimA K (GX G cls d x) E ta da) : SimE K (GX G cls d x) E (tCB (rIsXT K a C cls d) (tCons te (tCons (tTup ta) tNil))) (fun ρ Ω P PX => de ρ Ω (fun t Ω1 => da ρ Ω1 (fun cs Ω2 => cs.length ≤ 1000000 ∧ He.ga K x.cls = C ∧ dIsXT K a x [t, .tup cs] Ω2 P) PX) PX) := fun g σ H ρ Ω P PX Q hG R p q qx =>
  he g σ H ρ Ω _ PX _ hG R p (fun t Ω1 v H1 p1 k1 o1 d1 => h g σ H1 ρ Ω1 _ PX _ hG (R.keep k1 o1) p1 (fun cs Ω2 vs H2 ⟨hz, ec, cs', b, e, hall, hany, p2⟩ k2 o2 d2 => by
    cases e
    obtain ⟨r, er, _⟩ := hG
    obtain ⟨ecls, dd, fs, ed, nn, eh, en, dl⟩ := o2.ex (cls, d, x) (by rw [er]; exact List.mem_cons_self)
    obtain ⟨us, hu, hk⟩ := any_kit d2 hall hany
    refine ⟨by rw [d2.len]; exact size_ok hz, fun tp ntp => ?_⟩
    have k3 : Keep g H2 Ω2 (upd H2 tp (.tup vs)) Ω2 := .new ntp
    obtain rfl : v = .ref a := d1
    exact ⟨dd, tp, vs, us, b, fs, by rw [← ec]; exact ecls, ed, rfl, upd_same, hu, by rw [← ec]; exact hk, by rw [upd_ne (ne_of_none eh ntp)]; exact eh, q _ Ω2 _ _ p2 ((k1.trans k2).trans k3) (o2.new ntp) rfl⟩) (qx.at k1)) qx
/-! ### any comprehension -/
theorem lc_I {di : DI} {items : List Tr} {st : Om → Prop} {ρ : En} {Ω : Om} {dg : DG} {dt : DT} {del : DE} {vs : List Nat} {P : PT'} {PX : PXt} (hd : ∀ R : List Tr → (Om → Prop) → Om → Prop, (items.length ≤ 1000000 → R items st Ω) → di ρ Ω R PX) (hst : st Ω) (f : Tr → Tr) (b : Tr → Bool)
    (hf : ∀ x ∈ items, ∀ (Q : PT') (N : Om → Prop), (b x = true → Q (f x) Ω) → (b x = false → N Ω) → dg x (wipeT ρ vs) Ω (fun ρ2 Ω2 => dt ρ2 Ω2 (fun k Ω3 => if k = true then del ρ2 Ω3 Q nox else N Ω3) nox) nox) (h : items.length ≤ 1000000 → lstNew ((items.filter b).map f) Ω P) : dLc di dg dt del vs ρ Ω P PX :=
  hd _ fun hz => by
    refine ⟨hz, fun i acc Ω' => Ω' = Ω ∧ acc = ((items.take i).filter b).map f, ⟨rfl, rfl⟩, fun i acc Ω' e => e.1 ▸ hst, ?_, ?_⟩
    · rintro i x acc Ω' hx ⟨rfl, rfl⟩
      have e1 : items.take (i + 1) = items.take i ++ [x] := take_one hx
      refine hf x (List.mem_of_getElem? hx) (fun y Ω4 => Ω4 = Ω' ∧ ((items.take i).filter b).map f ++ [y] = ((items.take (i + 1)).filter b).map f) (fun Ω3 => Ω3 = Ω' ∧ ((items.take i).filter b).map f = ((items.take (i + 1)).filter b).map f) (fun hb => ⟨rfl, ?_⟩) (fun hb => ⟨rfl, ?_⟩)
      · rw [e1, List.filter_append, List.map_append, List.filter_cons, hb]; rfl
      · rw [e1, List.filter_append, List.map_append, List.filter_cons, hb]; exact (List.append_nil _).symm
    · rintro acc Ω' ⟨rfl, rfl⟩
      rw [List.take_length]
      exact h hz
theorem lc_M {di : DI} {items : List Tr} {st : Om → Prop} {ρ : En} {Ω : Om} {dg : DG} {del : DE} {vs : List Nat} {P : PT'} {PX : PXt} (hd : ∀ R : List Tr → (Om → Prop) → Om → Prop, (items.length ≤ 1000000 → R items st Ω) → di ρ Ω R PX) (hst : st Ω) (f : Tr → Tr)
    (hf : ∀ x ∈ items, ∀ (Q : PT') (N : Om → Prop), Q (f x) Ω → dg x (wipeT ρ vs) Ω (fun ρ2 Ω2 => dYes ρ2 Ω2 (fun k Ω3 => if k = true then del ρ2 Ω3 Q nox else N Ω3) nox) nox) (h : items.length ≤ 1000000 → lstNew (items.map f) Ω P) : dLc di dg dYes del vs ρ Ω P PX :=
  lc_I hd hst f (fun _ => true) (fun x hx Q N q _ => hf x hx Q N (q rfl)) (fun hz => by rw [List.filter_eq_self.mpr (fun _ _ => rfl)]; exact h hz)
/-- of whose items only a fact is known -/
theorem lc_A {di : DI} {items : List Tr} {st : Om → Prop} {ρ : En} {Ω : Om} {dg : DG} {dt : DT} {del : DE} {vs : List Nat} {P : PT'} {PX : PXt} (hd : ∀ R : List Tr → (Om → Prop) → Om → Prop, (items.length ≤ 1000000 → R items st Ω) → di ρ Ω R PX) (hst : st Ω) (A : Tr → Prop)
    (hf : ∀ x ∈ items, ∀ (Q : PT') (N : Om → Prop), (∀ y, A y → Q y Ω) → N Ω → dg x (wipeT ρ vs) Ω (fun ρ2 Ω2 => dt ρ2 Ω2 (fun k Ω3 => if k = true then del ρ2 Ω3 Q nox else N Ω3) nox) nox) (h : ∀ us : List Tr, (∀ y ∈ us, A y) → us.length ≤ items.length → items.length ≤ 1000000 → lstNew us Ω P) : dLc di dg dt del vs ρ Ω P PX :=
  hd _ fun hz => by
    refine ⟨hz, fun i acc Ω' => Ω' = Ω ∧ (∀ y ∈ acc, A y) ∧ acc.length ≤ i, ⟨rfl, fun _ h => (List.not_mem_nil h).elim, Nat.le_refl _⟩, fun i acc Ω' e => e.1 ▸ hst, ?_, ?_⟩
    · rintro i x acc Ω' hx ⟨rfl, ha, hl⟩
      refine hf x (List.mem_of_getElem? hx) (fun y Ω4 => Ω4 = Ω' ∧ (∀ z ∈ acc ++ [y], A z) ∧ (acc ++ [y]).length ≤ i + 1) (fun Ω3 => Ω3 = Ω' ∧ (∀ y ∈ acc, A y) ∧ acc.length ≤ i + 1) (fun y hy => ⟨rfl, fun z hz => ?_, ?_⟩) ⟨rfl, ha, Nat.le_succ_of_le hl⟩
      · rcases List.mem_append.mp hz with hz | hz
        · exact ha z hz
        · rw [List.mem_singleton.mp hz]; exact hy
      · rw [List.length_append]
        exact Nat.succ_le_succ hl
    · rintro acc Ω' ⟨rfl, ha, hl⟩
      exact h acc ha hl hz
/-- any loop -/
theorem for_I {di : DI} {items : List Tr} {st : Om → Prop} {dg : DG} {db : DS} {D : DN} {ρ : En} {Ω : Om} (hd : ∀ R : List Tr → (Om → Prop) → Om → Prop, (items.length ≤ 1000000 → R items st Ω) → di ρ Ω R (fun y Ω' => D.ex ρ y Ω')) (W : Nat → En → Om → Prop) (w0 : W 0 ρ Ω) (wst : ∀ i ρ' Ω', W i ρ' Ω' → st Ω')
    (step : items.length ≤ 1000000 → ∀ i x ρ' Ω', items[i]? = some x → W i ρ' Ω' → dg x ρ' Ω' (fun ρ2 Ω2 => db { D with nx := W (i + 1), ct := W (i + 1), bk := D.nx } ρ2 Ω2) nox) (fin : ∀ ρ' Ω', W items.length ρ' Ω' → D.nx ρ' Ω') : dFor di dg db D ρ Ω :=
  hd _ fun hz => ⟨W, w0, wst, step hz, fin⟩
/-! ### a cell becomes data ahead of a statement -/
def tMk (n : Nat) (t : TS) : TS := t
theorem ps_mk {X : Cx} {s : Stmt} {t : TS} {n : Nat} (h : PS X s t) : PS X s (tMk n t) := h
theorem sim_mk {n : Nat} {t : TS} {d : DS} (h : SimS K G E t d) : SimS K G E (tMk n t) (dThaw n d) := sim_thaw (ts := t) h
end
end LT

namespace LT
open PySem PySem.Spec PyProof.Rows L2 LL
/-! ### cells that are lent to a call as data -/
mutual
/-- the second is the first, its lists read where they are cells -/
inductive Drf (Ω : Om) : Tr → Tr → Prop
  | same (t : Tr) : Drf Ω t t
  | cell {a : Addr} {ts us : List Tr} : Ω a = some (.lst ts) → DrfL Ω ts us → Drf Ω (.obj a) (.lst us)
  | tup {ts us : List Tr} : DrfL Ω ts us → Drf Ω (.tup ts) (.tup us)
  | lst {ts us : List Tr} : DrfL Ω ts us → Drf Ω (.lst ts) (.lst us)
inductive DrfL (Ω : Om) : List Tr → List Tr → Prop
  | nil : DrfL Ω [] []
  | cons {t u : Tr} {ts us : List Tr} : Drf Ω t u → DrfL Ω ts us → DrfL Ω (t :: ts) (u :: us)
end
theorem DrfL.same {Ω : Om} : ∀ (ts : List Tr), DrfL Ω ts ts
  | [] => .nil
  | t :: ts => .cons (.same t) (DrfL.same ts)
theorem DrfL.len {Ω : Om} : ∀ {ts us : List Tr}, DrfL Ω ts us → ts.length = us.length
  | [], _, .nil => rfl
  | _ :: _, _, .cons _ h => by rw [List.length_cons, List.length_cons, h.len]
def noΩ : Om := fun _ => none
theorem NM.lent {g : Gh} {Ω : Om} {b : Addr} (h : NM g Ω b) : NM g noΩ b := ⟨rfl, h.2⟩
section
variable {K : PySem.W.Frag} {g : Gh} {H H' : Hp} {Ω Ω' : Om}
theorem OmOk.notdr (o : OmOk K g H Ω) {a : Addr} {c : Cell} (h : Ω a = some c) : ∀ d, g.dr ≠ some (d, a) := fun d e => by
  obtain ⟨_, _, _, _, _, _, _, _, h7, _⟩ := o.dr d a e
  rw [h7] at h; cases h
mutual
theorem VD.lent (o : OmOk K g H Ω) : ∀ {v : V} (t u : Tr), Drf Ω t u → VD K g.dr (NM g Ω) H v t → VD K g.dr (NM g noΩ) H v u
  | v, t, _, .same _, d => d.imp fun _ _ f e => ⟨f.lent, e⟩
  | v, _, _, .cell (a := a) (ts := ts) (us := us) h r, d => by
    obtain ⟨np, xs, e, dx, hz⟩ := o.ce a _ h
    exact ⟨a, xs, d, ⟨rfl, o.notdr h, np⟩, e, VDL.lent o ts us r dx, by rw [← r.len]; exact hz⟩
  | v, _, _, .tup (ts := ts) (us := us) r, d => by
    obtain ⟨a, xs, e, ha, dx, hz⟩ := d
    exact ⟨a, xs, e, ha.imp (fun z => ⟨z.1.lent, z.2⟩) id, VDL.lent o ts us r dx, by rw [← r.len]; exact hz⟩
  | v, _, _, .lst (ts := ts) (us := us) r, d => by
    obtain ⟨a, xs, e, ha, he, dx, hz⟩ := d
    exact ⟨a, xs, e, ha.lent, he, VDL.lent o ts us r dx, by rw [← r.len]; exact hz⟩
theorem VDL.lent (o : OmOk K g H Ω) : ∀ {v : List V} (t u : List Tr), DrfL Ω t u → VDL K g.dr (NM g Ω) H v t → VDL K g.dr (NM g noΩ) H v u
  | v, _, _, .nil, d => d
  | v, _, _, .cons (t := t) (u := u) (ts := ts) (us := us) h r, d => by
    obtain ⟨x, xs, e, d1, d2⟩ := d
    exact ⟨x, xs, e, VD.lent o t u h d1, VDL.lent o ts us r d2⟩
end
theorem OmOk.lent (o : OmOk K g H Ω) : OmOk K g H noΩ where
  dr := fun d s e => by
    obtain ⟨c, ns, h1, h2, h3, h4, h5, h6, h7, h8, p⟩ := o.dr d s e
    exact ⟨c, ns, h1, h2, h3, h4, h5, rfl, rfl, rfl, p⟩
  ce := fun a c e => by cases e
  ex := fun p hp => by
    obtain ⟨e, dd, fs, e1, n, e2, e3, e4⟩ := o.ex p hp
    exact ⟨e, dd, fs, e1, n.lent, e2, e3, e4.imp fun _ _ f e => ⟨f.lent, e⟩⟩
  pt := o.pt
/-- what was lent is as it was -/
theorem Keep.back (k : Keep g H noΩ H' Ω') : Keep g H Ω H' Ω := fun b o hb hd e => ⟨(k b o rfl hd e).1, hb⟩
theorem OmOk.back (o : OmOk K g H Ω) (o' : OmOk K g H' Ω') (k : Keep g H noΩ H' Ω') : OmOk K g H' Ω where
  dr := fun d s e => (o.dr d s e).imp (o'.dr d s e).drw.st (fun b u hb _ q => (k b u rfl (fun d' e' => by rw [e] at e'; cases e'; exact hb rfl) q).1) fun _ hb _ => hb
  ce := fun a c e => by
    obtain ⟨u, q⟩ := (o.ce a c e).2.tracked
    exact ⟨(o.ce a c e).1, (o.ce a c e).2.imp (by rw [q]; exact (k a u rfl (o.notdr e) q).1) fun b u f q => ⟨f, (k b u rfl f.2.1 q).1⟩⟩
  ex := fun p hp => (o.ex p hp).keep k.back
  pt := fun b hb => o'.pt b hb
/-- what is no cell's kind -/
def noCell : HO → Bool
  | .lst _ => false
  | .dK _ => false
  | .ins _ _ _ => false
  | _ => true
theorem NM.back (o : OmOk K g H Ω) (k : Keep g H noΩ H' Ω') {b : Addr} {u : HO} (f : NM g Ω' b) (e : H' b = some u) (n : noCell u = true) : NM g Ω b := by
  refine ⟨?_, f.2⟩
  cases h : Ω b with
  | none => rfl
  | some c =>
    have ce := (o.ce b c h).2
    have nd := o.notdr h
    exfalso
    cases c with
    | lst ts => obtain ⟨xs, q, _⟩ := ce; rw [(k b _ rfl nd q).1] at e; cases e; cases n
    | dic ks ts => obtain ⟨xs, q, _⟩ := ce; rw [(k b _ rfl nd q).1] at e; cases e; cases n
    | ins C dx ns ts => obtain ⟨xs, q, _⟩ := ce; rw [(k b _ rfl nd q).1] at e; cases e; cases n
mutual
/-- no list and no dict in it -/
def tupT : Tr → Bool
  | .lst _ => false
  | .dic _ _ => false
  | .tup ts => tupTL ts
  | _ => true
def tupTL : List Tr → Bool
  | [] => true
  | t :: ts => tupT t && tupTL ts
end
mutual
theorem VD.back (o : OmOk K g H Ω) (k : Keep g H noΩ H' Ω') : ∀ {v : V} (t : Tr), tupT t = true → VD K g.dr (NM g Ω') H' v t → VD K g.dr (NM g Ω) H' v t
  | _, .non, _, h => h
  | _, .bl _, _, h => h
  | _, .int _, _, h => h
  | _, .str _, _, h => h
  | _, .tup ts, n, h => by
    obtain ⟨a, xs, e, ha, dx, hz⟩ := h
    exact ⟨a, xs, e, ha.imp (fun z => ⟨NM.back o k z.1 z.2 rfl, z.2⟩) id, VDL.back o k ts n dx, hz⟩
  | _, .obj a, _, h => h
  | _, .drw, _, h => h
  | _, .ty n, _, h => h
theorem VDL.back (o : OmOk K g H Ω) (k : Keep g H noΩ H' Ω') : ∀ {v : List V} (t : List Tr), tupTL t = true → VDL K g.dr (NM g Ω') H' v t → VDL K g.dr (NM g Ω) H' v t
  | _, [], _, h => h
  | _, t :: ts, n, h => by
    obtain ⟨v, vs, e, d1, d2⟩ := h
    have n' := Bool.and_eq_true_iff.mp (show (tupT t && tupTL ts) = true from n)
    exact ⟨v, vs, e, VD.back o k t n'.1 d1, VDL.back o k ts n'.2 d2⟩
end
theorem XR.back (o : OmOk K g H Ω) (k : Keep g H noΩ H' Ω') {cls : Value} {d : Option Addr} {x : XV} (h : XR K g Ω' H' cls d x) (n : tupTL x.ts = true) : XR K g Ω H' cls d x := by
  obtain ⟨e, dd, fs, e1, nn, e2, e3, e4⟩ := h
  exact ⟨e, dd, fs, e1, NM.back o k nn e2 rfl, e2, e3, VDL.back o k _ n e4⟩
variable {G : List (Value × Option Addr × XV) → Prop} {E : EK}
/-- the mark of a call to which cells are lent -/
def tBor (t : TE) : TE := t
theorem pe_bor {X : Cx} {e : Expr} {t : TE} (h : PE X e t) : PE X e (tBor t) := h
def dBor (P : Pw) (n : Nat) (da : DA) : DE := fun ρ Ω Q PX => da ρ Ω (fun ts Ω1 => ∃ us, DrfL Ω1 ts us ∧ us.length = n ∧ P us noΩ (fun t _ => tupT t = true ∧ Q t Ω1) (fun x _ => tupTL x.ts = true ∧ PX x Ω1)) PX
def dBor0 (P : Pw) (n : Nat) (da : DA) : DE := fun ρ Ω Q PX => da ρ Ω (fun ts Ω1 => ∃ us, DrfL Ω1 ts us ∧ us.length = n ∧ P us noΩ (fun t _ => tupT t = true ∧ Q t Ω1) nox) PX
theorem After.lent {P : PT'} {Q : VK} (o : OmOk K g H Ω) (q : After K g H Ω P Q) : After K g H noΩ (fun t _ => tupT t = true ∧ P t Ω) Q := fun t Ω' v H' ⟨n, p⟩ k o' d => q t Ω v H' p k.back (o.back o' k) (VD.back o k t n d)
theorem AfterX.lent {P : PXt} {Q : XK} (o : OmOk K g H Ω) (q : AfterX K g H Ω P Q) : AfterX K g H noΩ (fun x _ => tupTL x.ts = true ∧ P x Ω) Q := fun x Ω' c d H' ⟨n, p⟩ k o' r => q x Ω c d H' p k.back (o.back o' k) (r.back o k n)
theorem sim_bor {P : Pw} {n : Nat} {E1 : XK} {ta : TA} {da : DA} (ha : SimA K G (fun _ => E1) ta da) : SimE K G (fun _ => E1) (tBor (tCall (spD K P n) [] E1 ta)) (dBor P n da) := fun g σ H ρ Ω Q PX QQ hG R h q qx =>
  ha g σ H ρ Ω _ PX _ hG R h (fun ts Ω1 vs H1 ⟨us, r, hl, p⟩ k1 o1 d1 => by rw [List.append_nil]; exact ⟨g, noΩ, us, _, _, hl, VDL.lent o1 ts us r d1, o1.lent, p, (q.at k1).lent o1, (qx.at k1).lent o1⟩) qx
theorem sim_bor0 {P : Pw} {n : Nat} {ta : TA} {da : DA} (ha : SimA K G E ta da) : SimE K G E (tBor (tCall (spD K P n) [] E0 ta)) (dBor0 P n da) := fun g σ H ρ Ω Q PX QQ hG R h q qx =>
  ha g σ H ρ Ω _ PX _ hG R h (fun ts Ω1 vs H1 ⟨us, r, hl, p⟩ k1 o1 d1 => by rw [List.append_nil]; exact ⟨g, noΩ, us, _, nox, hl, VDL.lent o1 ts us r d1, o1.lent, p, (q.at k1).lent o1, AfterX.nox⟩) qx
theorem sim_borS {P : Pw} {n : Nat} {ta : TA} {da : DA} (ha : SimA K G E ta da) : SimE K G E (tBor (tCallS (spD K P n) E ta)) (dBor P n da) := fun g σ H ρ Ω Q PX QQ hG R h q qx =>
  ha g σ H ρ Ω _ PX _ hG R h (fun ts Ω1 vs H1 ⟨us, r, hl, p⟩ k1 o1 d1 => ⟨g, noΩ, us, _, _, hl, VDL.lent o1 ts us r d1, o1.lent, p, (q.at k1).lent o1, (qx.at k1).lent o1⟩) qx
/-! ### a cell that is asked no more is dropped -/
def tFg (t : TS) : TS := t
theorem ps_fg {X : Cx} {s : Stmt} {t : TS} (h : PS X s t) : PS X s (tFg t) := h
def dForget (d : DS) : DS := fun D ρ Ω => d D ρ Ω ∨ ∃ a, d D ρ (cut Ω a)
theorem sim_fg {t : TS} {d : DS} (h : SimS K G E t d) : SimS K G E (tFg t) (dForget d) := fun g σ H ρ Ω D DD hG R p e => by
  rcases p with p | ⟨a, p⟩
  · exact h g σ H ρ Ω D DD hG R p e
  · exact h g σ H ρ (cut Ω a) D DD hG (R.keep .freeze R.om.freeze) p (e.at .freeze)
theorem fg_new {d : DS} {D : DN} {ρ : En} {Ω : Om} {a : Addr} {c : Cell} (ha : Ω a = none) (q : d D ρ Ω) : dForget d D ρ (put Ω a c) := .inr ⟨a, by rw [cut_put ha]; exact q⟩
end
end LT

namespace LT
open PySem PySem.Spec PyProof.Rows L2 L2H LL
/-! ### a def that is called within an except suite, on the exception that the suite holds -/
abbrev Pz := Addr → XV → Pw
/-- a: the exception; x: its value -/
def spZ (K : PySem.W.Frag) (P : Pz) (n : Nat) : Addr → Addr → Addr → Sp := fun a D dd vs H Q _ => ∃ (g : Gh) (Ω : Om) (ts : List Tr) (PQ : PT') (x : XV) (r : List (Value × Option Addr × XV)), g.ex = (.ref D, some dd, x) :: r ∧ ts.length = n ∧ VDL K g.dr (NM g Ω) H vs ts ∧ OmOk K g H Ω ∧ P a x ts Ω PQ nox ∧ After K g H Ω PQ Q
section
variable {K : PySem.W.Frag} {G : List (Value × Option Addr × XV) → Prop} {E : EK}
/-- the call's reading -/
def dCallZ (a : Addr) (x : XV) (P : Pz) (n : Nat) (da : DA) : DE := fun ρ Ω Q PX => da ρ Ω (fun ts Ω1 => ts.length = n ∧ P a x ts Ω1 Q nox) PX
theorem sim_callZ {a : Addr} {cls : Value} {d : Option Addr} {x : XV} {P : Pz} {n : Nat} {ta : TA} {da : DA} (ha : SimA K (GX G cls d x) E ta da) : SimE K (GX G cls d x) E (tCallZ cls d a (spZ K P n) ta) (dCallZ a x P n da) := fun g σ H ρ Ω Q PX QQ hG R h q qx =>
  ha g σ H ρ Ω _ PX _ hG R h (fun ts Ω1 vs H1 ⟨hl, p⟩ k1 o1 d1 => by
    obtain ⟨r, er, _⟩ := hG
    obtain ⟨ecls, dd, fs, ed, _⟩ := o1.ex (cls, d, x) (by rw [er]; exact List.mem_cons_self)
    exact ⟨_, dd, ecls, ed, g, Ω1, ts, Q, x, r, by rw [er, show cls = _ from ecls, show d = _ from ed], hl, d1, o1, p, q.at k1⟩) qx
theorem dokMkZ {X : Cx} {body : List Stmt} {E : XK} {cls : Value} {d : Option Addr} {Q : (XV → DS) → Prop} {t : TS} {ds : XV → DS} (term : PSs X body t) (sim : ∀ x, SimS K (GX (fun _ => True) cls d x) (fun _ => E) t (ds x)) (go : Q ds) : ∃ (t : TS) (ds : XV → DS), PSs X body t ∧ (∀ x, SimS K (GX (fun _ => True) cls d x) (fun _ => E) t (ds x)) ∧ Q ds := ⟨t, ds, term, sim, go⟩
theorem dokZ {P : Program} {w : World} {mg : Str → Option Value} {base : Heap} {xn qual : Str} {params : Arguments} {body : List Stmt} {sc : Scope} {f : Addr} {fd : FuncData} {N ps : List Str} {k : Nat} {C : Str} {Pd : Pz} (F : FunD K xn qual params body sc [] [] f fd) (S : FnScope N ps sc)
    (hC : ∀ a x ts Ω Q, Pd a x ts Ω Q nox → x.cls = C)
    (h : ∀ (cdv : Value) (A : Around) (outer : List Env) (s : Shared) (H : Hp) (E : XK) (p : Addr × Obj) (cls : Value) (d : Option Addr), Zc cls d p.2 → (∃ fs, p.2.data = .fields fs) → RoomH k (A.deeper (envOfC qual sc s.heap.objs.size f cdv)) → ∃ (t : TS) (ds : XV → DS), PSs (cxH CX0 P w K mg base N qual sc f cdv A outer s H E p) body t ∧ (∀ x, SimS K (GX (fun _ => True) cls d x) (fun _ => E) t (ds x)) ∧
      ∀ x ts Ω PQ, x.cls = C → ts.length = ps.length → Pd p.1 x ts Ω PQ nox → ds x { nx := fun _ Ω' => PQ .non Ω', rt := PQ, ex := fun _ _ _ => False } (ts.map some ++ List.replicate (N.length - ps.length) none) Ω) :
    FnZ P w K mg base (k + 1) f fd ps (spZ K Pd ps.length) := by
  refine okZ F S (fun a D dd vs H Q E ⟨g, Ω, ts, PQ, x, r, _, hl, d, _⟩ => by rw [d.len]; exact hl) (fun cdv A outer s H vs Q E p D dd hr hz hf hsp => ?_)
  obtain ⟨g, Ω, ts, PQ, x, r, er, hl, d, o, pp, q⟩ := hsp
  obtain ⟨t, ds, h1, h2, h3⟩ := h cdv A outer s H E p (.ref D) (some dd) hz hf hr
  refine ⟨t, h1, h2 x g _ H _ Ω _ _ ⟨r, er, trivial⟩ ⟨o, ?_, fun i u e => ?_⟩ (h3 x ts Ω PQ (hC _ _ _ _ _ pp) hl pp) ⟨fun ρ' Ω' σ' H' p k r => q _ Ω' _ H' p k r.om rfl, q, fun _ _ _ _ z => z.elim, fun _ _ _ _ z => z.elim, fun _ _ _ _ _ _ _ z => z.elim⟩⟩
  · show (vs.map some ++ List.replicate (N.length - vs.length) none).length = _
    rw [List.length_append, List.length_append, List.length_map, List.length_map, List.length_replicate, List.length_replicate, d.len, hl]
  · show ∃ v, (vs.map some ++ List.replicate (N.length - vs.length) none)[i]? = some (some v) ∧ _
    rw [List.getElem?_append] at e ⊢
    rw [List.length_map] at e ⊢
    rw [d.len]
    split at e
    · rename_i hlt
      rw [if_pos hlt]
      rw [List.getElem?_map] at e ⊢
      cases et : ts[i]? with
      | none => rw [et] at e; cases e
      | some t' =>
        rw [et] at e
        cases e
        obtain ⟨v, ev, dv⟩ := d.get' et
        exact ⟨v, by rw [ev]; rfl, dv⟩
    · have := List.mem_of_getElem? e
      rw [List.mem_replicate] at this
      exact absurd this.2 (by simp)
end
end LT

namespace LT
open PySem PySem.Spec PyProof.Rows L2 LL
section
variable {K : PySem.W.Frag} {G : List (Value × Option Addr × XV) → Prop} {E : EK}
/-! ### d[k] = v, d a dict's cell -/
def putL (ks : List Key) (ts : List Tr) (k : Key) (v : Tr) : List (Key × Tr) := putT (ks.zip ts) k v
def dDPut (dd dk dv : DE) : DS := fun D ρ Ω => dv ρ Ω (fun v Ω1 => dd ρ Ω1 (fun x Ω2 => dk ρ Ω2 (fun y Ω3 => ∃ a ks ts k, x = .obj a ∧ keyT y = some k ∧ Ω3 a = some (.dic ks ts) ∧ ts.length + 1 ≤ 1000000 ∧ D.nx ρ (put Ω3 a (.dic ((putL ks ts k v).map (·.1)) ((putL ks ts k v).map (·.2))))) (fun y Ω' => D.ex ρ y Ω')) (fun y Ω' => D.ex ρ y Ω')) (fun y Ω' => D.ex ρ y Ω')
theorem sim_dput {td tk tv : TE} {dd dk dv : DE} (hd : SimE K G E td dd) (hk : SimE K G E tk dk) (hv : SimE K G E tv dv) : SimS K G E (sDPut td tk tv) (dDPut dd dk dv) := fun g σ H ρ Ω D DD hG R h e => by
  refine hv g σ H ρ Ω _ _ _ hG R h (fun v Ω1 vv H1 h1 k1 o1 d1 => ?_) (e.exx R)
  have R1 := R.keep k1 o1
  refine hd g σ H1 ρ Ω1 _ _ _ hG R1 h1 (fun x Ω2 xv H2 h2 k2 o2 d2 => ?_) ((e.at k1).exx R1)
  have R2 := R1.keep k2 o2
  refine hk g σ H2 ρ Ω2 _ _ _ hG R2 h2 (fun y Ω3 yv H3 ⟨a, ks, ts, k, ex, ek, hc, hz, p⟩ k3 o3 d3 => ?_) ((e.at (k1.trans k2)).exx R2)
  subst ex
  obtain rfl : xv = .ref a := d2
  obtain rfl := vd_key d3 ek
  obtain ⟨xs, h4, h5, h6, h7⟩ := (o3.ce a _ hc).2
  have kk := (k1.trans k2).trans k3
  have hl5 := h5.len
  have hzl : (ks.zip xs).length = ts.length := by rw [List.length_zip]; omega
  refine ⟨a, _, rfl, DPut.k h4 (by rw [hzl]; exact size_lt h7), ?_⟩
  have kv : KVD K g.dr (NM g Ω3) H3 (ks.zip xs) (ks.zip ts) := by
    refine ⟨by rw [List.map_fst_zip (by omega), List.map_fst_zip (by omega)], ?_⟩
    rw [List.map_snd_zip (by omega), List.map_snd_zip (by omega)]
    exact h5
  have kv2 := KVD.put (k := k) (d1.keep (k2.trans k3)) kv
  have kw : Keep g H3 Ω3 (upd H3 a (.dK (putK (ks.zip xs) k vv))) (put Ω3 a (.dic ((putL ks ts k v).map (·.1)) ((putL ks ts k v).map (·.2)))) := .write hc
  have hlen : (putL ks ts k v).length ≤ ts.length + 1 := by
    have := putT_len (kvs := ks.zip ts) (k := k) (t := v)
    rw [List.length_zip] at this
    unfold putL
    omega
  have o4 : OmOk K g (upd H3 a (.dK (putK (ks.zip xs) k vv))) (put Ω3 a (.dic ((putL ks ts k v).map (·.1)) ((putL ks ts k v).map (·.2)))) := by
    refine o3.write hc ⟨(putK (ks.zip xs) k vv).map (·.2), ?_, kv2.2.keep kw, by simp, by rw [List.length_map]; omega⟩
    rw [upd_same]
    have e1 : (putL ks ts k v).map (·.1) = (putK (ks.zip xs) k vv).map (·.1) := kv2.1.symm
    rw [e1, LT.zip_fst_snd]
  exact e.nx ρ _ σ _ p (kk.trans kw) (R.keep (kk.trans kw) o4)
/-! ### sorted(set(t)) -/
def dSortS (da : DA) : DE := fun ρ Ω P PX => da ρ Ω (fun us Ω1 => ∃ (t : Tr) (ns ds : List Int), us = [t] ∧ asT t = some (ns.map Tr.int) ∧ ds.length ≤ 4000 ∧ (∀ k ∈ ns, k ∈ ds) ∧ ∀ ms : List Int, ms.Pairwise (· < ·) → (∀ k, k ∈ ms ↔ k ∈ ns) → ms.length ≤ 1000000 → lstNew (ms.map Tr.int) Ω1 P) PX
theorem sim_sortS {w : World} {ta : TA} {da : DA} (ha : SimA K G E ta da) : SimE K G E (tCB (rSortS w) (tCons (tCB (rSetT K w) ta) tNil)) (dSortS da) := fun g σ H ρ Ω P PX Q hG R h q qx =>
  ha g σ H ρ Ω _ PX _ hG R h (fun us Ω1 vs H1 ⟨t, ns, ds, e, ht, few, sub, p⟩ k1 o1 d1 => by
    subst e
    obtain ⟨v, _, rfl, dv, rfl⟩ := d1
    obtain ⟨a, xs, rfl, s, dl, hz⟩ := at_T dv ht
    rw [vdl_ints dl] at s
    refine ⟨a, ns, ds, rfl, s, by unfold scanBound; omega, sub, fun b c hb => ?_⟩
    refine ⟨b, _, c, rfl, upd_same, fun ms pa hs hm hp => ?_⟩
    have k2 : Keep g H1 Ω1 (upd H1 b (SetO w b (fun j => decide (j ∈ ns)) c)) Ω1 := .new hb
    have o2 := o1.new (o := SetO w b (fun j => decide (j ∈ ns)) c) hb
    have hm' : ∀ k, k ∈ ms ↔ k ∈ ns := fun k => by rw [hm k]; exact decide_eq_true_iff
    have len : ms.length ≤ 1000000 := by
      have := nodup_le (l := ms) (ds := ds) (hs.imp fun h => Int.ne_of_lt h) fun k hk => sub k ((hm' k).mp hk)
      omega
    exact new_lst o2 vdl_of_ints (by rw [List.length_map]; exact len) (p ms hs hm' len) (q.at (k1.trans k2)) hp) qx
/-! ### cells that are asked no more -/
def cuts (Ω : Om) : List Addr → Om
  | [] => Ω
  | a :: as => cut (cuts Ω as) a
theorem Keep.freezes {g : Gh} {H : Hp} {Ω : Om} : ∀ as : List Addr, Keep g H Ω H (cuts Ω as)
  | [] => .refl
  | a :: as => (Keep.freezes as).trans .freeze
theorem OmOk.freezes {g : Gh} {H : Hp} {Ω : Om} (o : OmOk K g H Ω) : ∀ as : List Addr, OmOk K g H (cuts Ω as)
  | [] => o
  | a :: as => (OmOk.freezes o as).freeze
/-- return: what is asked no more is dropped -/
def dRetF (de : DE) : DS := fun D ρ Ω => de ρ Ω (fun t Ω' => ∃ as, D.rt t (cuts Ω' as)) (fun x Ω' => D.ex ρ x Ω')
theorem sim_retF {te : TE} {de : DE} (h : SimE K G E te de) : SimS K G E (tRet te) (dRetF de) := fun g σ H ρ Ω D DD hG R p e => h g σ H ρ Ω _ _ _ hG R p (fun t Ω' v H' ⟨as, q⟩ k o d => e.rt t _ v H' q (k.trans (.freezes as)) (o.freezes as) (d.keep (.freezes as))) (e.exx R)
theorem retF_0 {t : Tr} {Ω : Om} {P : PT'} (q : P t Ω) : ∃ as, P t (cuts Ω as) := ⟨[], q⟩
theorem retF_1 {t : Tr} {Ω : Om} {P : PT'} {a : Addr} {c : Cell} (ha : Ω a = none) (q : P t Ω) : ∃ as, P t (cuts (put Ω a c) as) := ⟨[a], by show P t (cut (put Ω a c) a); rw [cut_put ha]; exact q⟩
theorem retF_2 {t : Tr} {Ω : Om} {P : PT'} {a b : Addr} {c d : Cell} (ha : Ω a = none) (hb : put Ω a c b = none) (q : P t Ω) : ∃ as, P t (cuts (put (put Ω a c) b d) as) := ⟨[a, b], by show P t (cut (cut (put (put Ω a c) b d) b) a); rw [cut_put hb, cut_put ha]; exact q⟩
/-- the same ahead of a statement -/
def tFgl (t : TS) : TS := t
theorem ps_fgl {X : Cx} {s : Stmt} {t : TS} (h : PS X s t) : PS X s (tFgl t) := h
def dForgets (d : DS) : DS := fun D ρ Ω => ∃ as, d D ρ (cuts Ω as)
theorem sim_fgl {t : TS} {d : DS} (h : SimS K G E t d) : SimS K G E (tFgl t) (dForgets d) := fun g σ H ρ Ω D DD hG R ⟨as, p⟩ e => h g σ H ρ (cuts Ω as) D DD hG (R.keep (.freezes as) (R.om.freezes as)) p (e.at (.freezes as))
/-- a dict's cell becomes data -/
theorem freezeD {g : Gh} {σ : L2.St} {H : Hp} {ρ : En} {Ω : Om} {i : Nat} {a : Addr} {ks : List Key} {ts : List Tr} (R : Rel K g σ H ρ Ω) (h1 : ρ[i]? = some (some (.obj a))) (h2 : Ω a = some (.dic ks ts)) : Rel K g σ H (ρ.set i (some (.dic ks ts))) (cut Ω a) := by
  have R1 := R.keep Keep.freeze (R.om.freeze (a := a))
  obtain ⟨v, ev, dv⟩ := R.env i _ h1
  obtain ⟨xs, h3, h4, h5⟩ := (R.om.ce a _ h2).2
  have hn : NM g (cut Ω a) a := ⟨cut_same, R.om.notdr h2, (R.om.ce a _ h2).1⟩
  have R2 := R1.set (v := v) (t := .dic ks ts) (i := i) ⟨a, xs, dv, hn, h3, h4.keep Keep.freeze, h5⟩
  have es : σ.set i (some v) = σ := by
    apply List.ext_getElem?
    intro j
    by_cases hj : i = j
    · subst hj
      rw [List.getElem?_set_self ((List.getElem?_eq_some_iff.mp ev).1), ev]
    · rw [List.getElem?_set_ne hj]
  rw [es] at R2
  exact R2
def dThawD (i : Nat) (d : DS) : DS := fun D ρ Ω => d D ρ Ω ∨ ∃ a ks ts, ρ[i]? = some (some (.obj a)) ∧ Ω a = some (.dic ks ts) ∧ d D (ρ.set i (some (.dic ks ts))) (cut Ω a)
theorem sim_thawD {i : Nat} {ts : TS} {ds : DS} (h : SimS K G E ts ds) : SimS K G E ts (dThawD i ds) := fun g σ H ρ Ω D DD hG R p e => by
  rcases p with p | ⟨a, ks, us, h1, h2, p⟩
  · exact h g σ H ρ Ω D DD hG R p e
  · exact h g σ H _ _ D DD hG (freezeD R h1 h2) p (e.at Keep.freeze)
def dRetTD (i : Nat) (de : DE) : DS := dThawD i (dRet de)
theorem sim_retThawD {i : Nat} {te : TE} {de : DE} (h : SimE K G E te de) : SimS K G E (tRet te) (dRetTD i de) := sim_thawD (sim_ret h)
theorem ret_newD {D : DN} {ρ : En} {Ω : Om} {i : Nat} {a : Addr} {ks : List Key} {ts : List Tr} (h1 : ρ[i]? = some (some (.obj a))) (ha : Ω a = none) (q : D.rt (.dic ks ts) Ω) : dRetTD i (dVar i) D ρ (put Ω a (.dic ks ts)) :=
  .inr ⟨a, ks, ts, h1, put_same, .dic ks ts, by rw [List.getElem?_set_self (List.getElem?_eq_some_iff.mp h1).1], by rw [cut_put ha]; exact q⟩
theorem asD_put {a : Addr} {ks : List Key} {ts : List Tr} {Ω : Om} : asD (.obj a) (put Ω a (.dic ks ts)) = some (ks, ts) := asD_obj put_same
/-- a dict without a key takes it at its end -/
theorem putT_new {kvs : List (Key × Tr)} {k : Key} {v : Tr} (h : k ∉ kvs.map (·.1)) : putT kvs k v = kvs ++ [(k, v)] := by
  unfold putT
  rw [if_neg]
  intro z
  obtain ⟨kv, hm, e⟩ := List.any_eq_true.mp z
  exact h (List.mem_map.mpr ⟨kv, hm, of_decide_eq_true e⟩)
theorem valT_at : ∀ {ks : List Key} {ts : List Tr} {i : Nat} {k : Key} {t : Tr}, ks.Nodup → ks[i]? = some k → ts[i]? = some t → valT ks ts k = some t
  | a :: ks, [], _, _, _, _, _, h2 => by cases h2
  | a :: ks, u :: ts, 0, k, t, _, h1, h2 => by
    cases h1
    cases h2
    rw [valT_cons, if_pos rfl]
  | a :: ks, u :: ts, i + 1, k, t, hn, h1, h2 => by
    obtain ⟨n1, n2⟩ := List.nodup_cons.mp hn
    have hk : k ∈ ks := List.mem_of_getElem? (i := i) h1
    rw [valT_cons, if_neg (fun e => n1 (by rw [e]; exact hk))]
    exact valT_at (i := i) n2 h1 h2
/-! ### t * n -/
def dRepW : Tr → Tr → Om → PT' → Prop := fun x y Ω P => ∃ ts k, x = .tup ts ∧ y = .int k ∧ ts ≠ [] ∧ 2 ≤ k ∧ ts.length * k.toNat ≤ 1000000 ∧ P (.tup (List.replicate k.toNat ts).flatten) Ω
theorem flat_len {α : Type} {ts : List α} : ∀ m : Nat, (List.replicate m ts).flatten.length = ts.length * m
  | 0 => by simp
  | m + 1 => by rw [List.replicate_succ, List.flatten_cons, List.length_append, flat_len m, Nat.mul_succ, Nat.add_comm]
theorem simr_repW : SimR K (rRepW K) dRepW := fun g H Ω x y tx ty P Q o d1 d2 ⟨ts, k, e, e2, ne, h1, hz, p⟩ q => by
  subst e e2
  obtain ⟨a, xs, rfl, s, dl, z⟩ := sqt d1
  have hl := dl.len
  refine ⟨a, k, xs, rfl, d2, s, fun e => ne (by rw [e] at hl; exact List.eq_nil_of_length_eq_zero hl.symm), h1, by rw [hl]; exact hz, fun l n => new_tup o (dl.rep _) (by rw [flat_len]; exact hz) p q n⟩
theorem flat_one {α : Type} {a : α} : ∀ m : Nat, (List.replicate m [a]).flatten = List.replicate m a
  | 0 => rfl
  | m + 1 => by rw [List.replicate_succ, List.replicate_succ, List.flatten_cons, flat_one m]; rfl
/-! ### list(range(i, j)) -/
def dLstRg (da db : DE) : DE := fun ρ Ω P PX => da ρ Ω (fun x Ω1 => db ρ Ω1 (fun y Ω2 => ∃ i j : Int, x = .int i ∧ y = .int j ∧ (0 ≤ i ∧ i ≤ 1000000 ∧ 0 ≤ j ∧ j ≤ 1000000) ∧ lstNew (rngT i (j - i).toNat) Ω2 P) PX) PX
theorem sim_listRg {ta tb : TE} {da db : DE} (ha : SimE K G E ta da) (hb : SimE K G E tb db) : SimE K G E (tLstRg (tRg2 ta tb)) (dLstRg da db) := fun g σ H ρ Ω P PX Q hG R h q qx =>
  ha g σ H ρ Ω _ PX _ hG R h (fun x Ω1 v H1 h1 k1 o1 d1 => hb g σ H1 ρ Ω1 _ PX _ hG (R.keep k1 o1) h1 (fun y Ω2 u H2 ⟨i, j, e1, e2, b, p⟩ k2 o2 d2 => by
    subst e1 e2
    refine ⟨i, j, d1, d2, RgOk.of_le b.1 (by omega) (by omega) b.2.2.1 |> fun r => ⟨r, fun q' hq => ?_⟩⟩
    have e1 : rgV i j = ((List.range (j - i).toNat).map fun (k : Nat) => i + (k : Int)).map V.int := by unfold rgV; rw [List.map_map]; rfl
    have e2 : rngT i (j - i).toNat = ((List.range (j - i).toNat).map fun (k : Nat) => i + (k : Int)).map Tr.int := by unfold rngT; rw [List.map_map]; rfl
    rw [e1]
    refine new_lst o2 vdl_of_ints ?_ (by rw [← e2]; exact p) (q.at (k1.trans k2)) hq
    rw [List.length_map, List.length_map, List.length_range]
    omega) (qx.at k1)) qx
/-! ### loops of which one fact stays -/
theorem for_R2W {dg : DG} {db : DS} {D : DN} {ρ : En} {Ω : Om} {da : DA} {R : Int → Int → Prop} {Ω1 : Om} (he : ∀ P : List Tr → Om → Prop, (∀ a n : Int, R a n → P [.int a, .int n] Ω1) → da ρ Ω P (fun y Ω' => D.ex ρ y Ω')) (hb : ∀ a n, R a n → -(2 ^ 62) ≤ a ∧ a < 2 ^ 62 ∧ -(2 ^ 62) ≤ n ∧ n < 2 ^ 62) (W : En → Om → Prop) (w0 : W ρ Ω1)
    (step : ∀ a n, R a n → ∀ (v : Int) ρ' Ω', a ≤ v → v < n → W ρ' Ω' → dg (.int v) ρ' Ω' (fun ρ2 Ω2 => db { D with nx := W, ct := W, bk := D.nx } ρ2 Ω2) nox) (fin : ∀ ρ' Ω', W ρ' Ω' → D.nx ρ' Ω') : dFor (diR2 da) dg db D ρ Ω :=
  he _ fun a n hn => ⟨a, n, rfl, hb a n hn, fun _ => W, w0, fun _ _ _ _ => trivial, fun i t ρ' Ω' e w => by
    have hi : i < (n - a).toNat := by have := (List.getElem?_eq_some_iff.mp e).1; rwa [rngT_len] at this
    rw [rngT_get hi] at e
    cases e
    exact step a n hn _ ρ' Ω' (by omega) (by omega) w, fun ρ' Ω' w => fin ρ' Ω' w⟩
theorem for_R1W {dg : DG} {db : DS} {D : DN} {ρ : En} {Ω : Om} {da : DA} {R : Int → Prop} {Ω1 : Om} (he : ∀ P : List Tr → Om → Prop, (∀ n : Int, R n → P [.int n] Ω1) → da ρ Ω P (fun y Ω' => D.ex ρ y Ω')) (hb : ∀ n, R n → -(2 ^ 62) ≤ n ∧ n < 2 ^ 62) (W : En → Om → Prop) (w0 : W ρ Ω1)
    (step : ∀ n, R n → ∀ (v : Int) ρ' Ω', 0 ≤ v → v < n → W ρ' Ω' → dg (.int v) ρ' Ω' (fun ρ2 Ω2 => db { D with nx := W, ct := W, bk := D.nx } ρ2 Ω2) nox) (fin : ∀ ρ' Ω', W ρ' Ω' → D.nx ρ' Ω') : dFor (diR1 da) dg db D ρ Ω :=
  he _ fun n hn => ⟨n, rfl, (hb n hn).1, (hb n hn).2, fun _ => W, w0, fun _ _ _ _ => trivial, fun i t ρ' Ω' e w => by
    have hi : i < n.toNat := by have := (List.getElem?_eq_some_iff.mp e).1; rwa [rngT_len] at this
    rw [rngT_get hi, Int.zero_add] at e
    cases e
    exact step n hn _ ρ' Ω' (by omega) (by omega) w, fun ρ' Ω' w => fin ρ' Ω' w⟩
end
end LT

namespace LT
open PySem PySem.Spec PyProof.Rows L2 LL
section
variable {K : PySem.W.Frag} {G : List (Value × Option Addr × XV) → Prop} {E : EK}
/-! ### sorted -/
def dSortI : List Tr → Om → PT' → Prop := fun us Ω P => ∃ (t : Tr) (ns : List Int), us = [t] ∧ asL t Ω = some (ns.map Tr.int) ∧ ∀ ms : List Int, ms.Perm ns → ms.Pairwise (· ≤ ·) → lstNew (ms.map Tr.int) Ω P
theorem simc_sortI : SimC K (rSortedI K) dSortI := fun g H Ω vs us P Q o d ⟨t, ns, e, h, p⟩ q => by
  subst e
  obtain ⟨v, _, rfl, d, rfl⟩ := d
  obtain ⟨a, xs, rfl, s, _, dl, z⟩ := at_L o d h
  rw [vdl_ints dl] at s
  rw [List.length_map] at z
  exact ⟨a, ns, rfl, s, fun ms p' hp hs n => new_lst o vdl_of_ints (by rw [List.length_map, hp.length_eq]; exact z) (p ms hp hs) q n⟩
def rowT (r : List Int) : Tr := .tup (r.map Tr.int)
theorem toPs_ints : ∀ {ns : List Int}, toPs (ns.map Tr.int) = ns.map PyData.int
  | [] => rfl
  | n :: ns => by show PyData.int n :: toPs (ns.map Tr.int) = _; rw [toPs_ints]; rfl
theorem plain_ints : ∀ {ns : List Int}, plainTs (ns.map Tr.int) = true
  | [] => rfl
  | n :: ns => by show (true && plainTs (ns.map Tr.int)) = true; rw [plain_ints]; rfl
theorem vdl_pairs {dr : Option (Addr × Addr)} {F : Addr → Prop} {H : Hp} : ∀ {bs : List (V × List Int)}, (∀ b ∈ bs, VD K dr F H b.1 (rowT b.2)) → VDL K dr F H (bs.map (·.1)) ((bs.map (·.2)).map rowT)
  | [], _ => rfl
  | b :: bs, h => .cons (h b List.mem_cons_self) (vdl_pairs fun c hc => h c (List.mem_cons_of_mem _ hc))
theorem vdl_zip {dr : Option (Addr × Addr)} {F : Addr → Prop} {H : Hp} : ∀ {xs : List V} {rs : List (List Int)}, VDL K dr F H xs (rs.map rowT) → ∀ b ∈ xs.zip rs, VD K dr F H b.1 (rowT b.2) ∧ b.2 ∈ rs
  | xs, [], _, b, hb => by rw [List.zip_nil_right] at hb; cases hb
  | xs, r :: rs, d, b, hb => by
    obtain ⟨v, vs, rfl, d1, d2⟩ := d
    rw [List.zip_cons_cons] at hb
    rcases List.mem_cons.mp hb with rfl | hb
    · exact ⟨d1, List.mem_cons_self⟩
    · obtain ⟨h1, h2⟩ := vdl_zip d2 b hb
      exact ⟨h1, List.mem_cons_of_mem _ h2⟩
def dSortR : List Tr → Om → PT' → Prop := fun us Ω P => ∃ (t : Tr) (rs : List (List Int)), us = [t] ∧ asL t Ω = some (rs.map rowT) ∧ (∀ r ∈ rs, r ≠ []) ∧ lstNew ((rs.mergeSort leR).map rowT) Ω P
theorem simc_sortR : SimC K (rSortedR K) dSortR := fun g H Ω vs us P Q o d ⟨t, rs, e, h, ne, p⟩ q => by
  subst e
  obtain ⟨v, _, rfl, d, rfl⟩ := d
  obtain ⟨a, xs, rfl, s, _, dl, z⟩ := at_L o d h
  have len := dl.len
  rw [List.length_map] at z len
  have e1 : (xs.zip rs).map (·.1) = xs := List.map_fst_zip (Nat.le_of_eq len)
  have e2 : (xs.zip rs).map (·.2) = rs := List.map_snd_zip (Nat.le_of_eq len.symm)
  have hz := vdl_zip dl
  have e3 : ((xs.zip rs).mergeSort fun a b => leR a.2 b.2).map (·.2) = rs.mergeSort leR := by
    have := List.map_mergeSort (r := fun (a b : V × List Int) => leR a.2 b.2) (s := leR) (f := fun b : V × List Int => b.2) (l := xs.zip rs) (fun _ _ _ _ => rfl)
    rw [this, e2]
  refine ⟨a, xs.zip rs, rfl, by rw [e1]; exact s, fun b hb => ⟨?_, ne _ (hz b hb).2⟩, fun l n => ?_⟩
  · have := dp_of (rowT b.2) (hz b hb).1 (by show plainTs (b.2.map Tr.int) = true; exact plain_ints)
    rw [show toP (rowT b.2) = .tuple (toPs (b.2.map Tr.int)) from rfl, toPs_ints] at this
    exact this
  · have dv : VDL K g.dr (NM g Ω) H (((xs.zip rs).mergeSort fun a b => leR a.2 b.2).map (·.1)) ((rs.mergeSort leR).map rowT) := by
      rw [← e3]
      exact vdl_pairs fun b hb => (hz b (List.mem_mergeSort.mp hb)).1
    exact new_lst o dv (by rw [List.length_map, List.length_mergeSort]; exact z) p q n
end
end LT

namespace K11
open PySem PySem.Spec PyProof.Rows L2 LL LT
local macro_rules | `(tactic| fail "s") => `(tactic| first | (with_reducible first | exact sim_var | exact sim_int | exact sim_bl | exact sim_str | exact sim_non | exact sim_ty | exact sim_ref | exact sim_nil | apply sim_cons | apply sim_op | apply simr_I0 | apply simr_I | exact simr_Eq | exact simr_Ne | exact simr_IxA | exact simr_addG | exact simr_isN | exact simr_notN | exact simr_isB | exact simr_in | exact simr_IxL | exact simr_IxT | exact simr_IxS | exact simr_EqD | exact simr_NeD | exact simr_rep | exact simr_repW | apply sim_un | apply sim_test | apply sim_tB | apply sim_and | apply sim_or | apply sim_not | apply sim_andV | apply sim_orV | apply sim_notV | apply sim_if | apply sim_chain | apply sim_tup | apply sim_lst | apply sim_bor0 | apply sim_bor | apply sim_borS | apply sim_call0 | apply sim_call | apply sim_callS | apply sim_callZ | apply sim_isXT | apply sim_isX | apply sim_xf | apply sim_sortS | apply sim_listRg | apply sim_CB | exact simc_len | exact simc_int | exact simc_isi | exact simc_mx | exact simc_mn | exact simc_sum | exact simc_maxL | exact simc_minL | exact simc_minS | exact simc_all | exact simc_any | exact simc_list | exact simc_tuple | exact simc_isiT | exact simc_strI | exact simc_sortI | exact simc_sortR | apply sim_sl | exact simsl_G | exact simsl_L | exact sim_oNone | apply sim_oSome | apply sim_append | exact sim_newD | apply sim_disp1 | apply sim_dget2 | apply sim_dget1 | apply sim_dget | apply sim_din | apply sim_dnotin | apply sim_lc | apply sim_dc | exact sim_yes | apply sim_iL | apply sim_iT | apply sim_iS | apply sim_iR1 | apply sim_iR2 | apply sim_iE | apply sim_iZ | apply sim_revT | exact gin_name (by decide) | apply gin_tup | exact gin_nil | apply gin_cons | exact mono_name | exact mono_nil | apply mono_cons | apply mono_tup | exact sim_next | apply sim_mk | apply sim_fgl | apply sim_fg | apply sim_seq | apply sim_ret | exact sim_retN | apply sim_drop | exact sim_break | exact sim_cont | apply sim_ifS | apply sim_asg | exact sim_gName | apply sim_gTup | exact sim_gNil | apply sim_gCons | apply sim_gSub | apply sim_for | apply sim_while | apply sim_dput | apply sim_raise | apply sim_tryT0 | apply sim_tryT) | exact fun _ _ => rfl | exact fun _ => rfl | exact fun _ _ _ _ => rfl | intro W | intro a cls d x)
local macro_rules | `(tactic| fail "l") => `(tactic| (simp only [List.length_append,List.length_take,List.length_drop,List.length_map,List.length_cons,List.length_nil,List.length_set,List.length_replicate,List.length_range]; omega))
local macro_rules | `(tactic| fail "r") => `(tactic| first | fail "d" | with_reducible refine fun (_ : _ ≤ 1000000) => ?_ | with_reducible refine Or.inl (fun (_ : _ ≤ 1000000) => ?_) | with_reducible refine lst_in ?_ | with_reducible refine dic_in ?_ | with_reducible refine tk_call (by first | decide | exact tk_big (by omega) (by omega)) fun v h0 h1 => ?_ | with_reducible refine bt_call (by first | decide | exact tk_big (by omega) (by omega)) fun v h0 h1 => ?_ | with_reducible refine ct_call (by first | decide | exact ⟨by omega, by omega, by omega⟩) fun v h0 h1 => ?_ | with_reducible refine LL.itei (fun h => ?_) fun h => ?_ | with_reducible refine pickP (by omega) (by simp only [List.length_cons, List.length_nil]; omega) ?_ | with_reducible refine List.forall_mem_cons.mpr (And.intro ?_ ?_) | with_reducible exact LT.nil_all | with_reducible refine And.intro (by first | (unfold CPow; decide) | omega | rfl) ?_ | with_reducible refine am_call rfl (List.cons_ne_nil _ _) ?_ | refine And.intro (show CMul _ _ from .inl ⟨by omega, by omega⟩) ?_)
local macro_rules | `(tactic| fail "d") => `(tactic| simp only [and_true,dSortI,dSortR,dLstRg,dRepW,dRetF,dForgets,asD_put,dSortS,dDPut,dCallZ,dBor,dBor0,diZ,dRevT,dStrI,dIsXT,dTry0,dTry,dXf,dIsX,dNewD,dDisp1,Prod.mk.injEq,wipeT,Int.toNat_natCast,asL_put,put_same,put_put,Cell.lst.injEq,atI_0,atI_1,atI_2,atI_3,atI_4,atI_5,atI_6,atI_7,atI_8,atI_9,Tr.ty.injEq,tyN_int,tyN_bool,tyN_str,tyN_list,tyN_tuple,tyN_dict,dVar,dC,dName,dOp,dI,dI0,dUn,dU,dEq,dNe,dTest,dAnd,dOr,dNot,dAndV,dOrV,dNotV,dIf,dChain,dNil,dCons,dTup,dLst,dCall,dCall0,dCB,dNext,dSeq,dRet,dRetN,dDrop,dBreak,dCont,dIfS,dgNil,dgCons,dTupG,dAsg,diL,diT,diS,diR1,diR2,diE,dYes,dIx,dLen,dInt,dMx,dSum,dAll,dIsi,dIsiT,doNone,doSome,dSl,dApp,dSub,dSet,dEqD,dGet,dGet1,dGet2,LT.dIn,dIsN,dIsB,dIn',dList,dTuple,dRaise,dMaxL,dMinL,dMinS,dRep,asL_lst,asS_lst,asS_tup,asT_tup,flatV',Tr.int.injEq,Tr.bl.injEq,Tr.str.injEq,Tr.lst.injEq,Tr.tup.injEq,Tr.obj.injEq,Option.isSome_some,List.map_cons,List.map_nil,List.length_cons,List.length_nil,List.replicate_succ,List.replicate_zero,List.cons_append,List.nil_append,List.append_nil,List.getElem?_cons_zero,List.getElem?_cons_succ,List.set_cons_zero,List.set_cons_succ,Nat.add_sub_cancel,Nat.reduceAdd,Nat.reduceSub,Option.some.injEq,List.cons.injEq,and_true,true_and,and_false,false_and,exists_eq_left,exists_eq_left',exists_and_left,exists_and_right,exists_eq,exists_eq',LL.if_dec,reduceCtorEq,exists_false,exists_const,or_false,false_or,if_true,if_false,and_assoc,Int.reduceEq,Int.reduceNe,Int.reduceNeg,Int.reduceLT,Int.reduceLE,Int.reduceMul,Int.reduceAdd,Int.reduceSub,Int.reducePow,Int.reduceToNat,Nat.reducePow,Nat.reduceLT,Nat.reduceLeDiff,true_or,or_true,Bool.not_true,Bool.not_false,Bool.false_eq_true,Bool.or_false,Bool.or_true,Bool.true_or,Bool.false_or,decide_true,decide_false,not_true_eq_false,not_false_eq_true,LL.scal_int,LL.scal_bl,LL.scal_str,V.int.injEq,V.bl.injEq,V.str.injEq,Nat.zero_le,forall_const,true_implies,kindT_non,isNonT_non,flatT_non,flatK_non,isBT_non_true,isBT_non_false,toV_non,ofV_non,keyT_non,isT_non_int,isT_non_bool,isT_non_str,isT_non_list,isT_non_tuple,isT_non_dict,kindT_bl,isNonT_bl,flatT_bl,flatK_bl,toV_bl,ofV_bl,keyT_bl,isT_bl_int,isT_bl_bool,isT_bl_str,isT_bl_list,isT_bl_tuple,isT_bl_dict,kindT_int,isNonT_int,flatT_int,flatK_int,isBT_int_true,isBT_int_false,toV_int,ofV_int,keyT_int,isT_int_int,isT_int_bool,isT_int_str,isT_int_list,isT_int_tuple,isT_int_dict,kindT_str,isNonT_str,flatT_str,flatK_str,isBT_str_true,isBT_str_false,toV_str,ofV_str,keyT_str,isT_str_int,isT_str_bool,isT_str_str,isT_str_list,isT_str_tuple,isT_str_dict,kindT_lst,isNonT_lst,flatT_lst,flatK_lst,isBT_lst_true,isBT_lst_false,lenT_lst,keyT_lst,isT_lst_int,isT_lst_bool,isT_lst_str,isT_lst_list,isT_lst_tuple,isT_lst_dict,kindT_tup,isNonT_tup,flatT_tup,flatK_tup,isBT_tup_true,isBT_tup_false,lenT_tup,keyT_tup,isT_tup_int,isT_tup_bool,isT_tup_str,isT_tup_list,isT_tup_tuple,isT_tup_dict,kindT_dic,isNonT_dic,flatT_dic,flatK_dic,isBT_dic_true,isBT_dic_false,lenT_dic,keyT_dic,isT_dic_int,isT_dic_bool,isT_dic_str,isT_dic_list,isT_dic_tuple,isT_dic_dict,kindT_obj,isNonT_obj,flatT_obj,flatK_obj,isBT_obj_true,isBT_obj_false,keyT_obj,kindT_drw,isNonT_drw,flatT_drw,flatK_drw,isBT_drw_true,isBT_drw_false,keyT_drw,kindT_ty,isNonT_ty,flatT_ty,flatK_ty,isBT_ty_true,isBT_ty_false,toV_ty,ofV_ty,keyT_ty,asD_dic,isBT_bl,dAddG_int,dAddG_str,dAddG_tup,dAddG_lst_lst,dAddG_lst_obj,dAddG_obj_lst,dAddG_obj_obj,dSlG_tup,dSlG_str,dSlG_lst,dSlG_obj])
local macro_rules | `(tactic| simp! only [$xs,*]) => `(tactic| try simp only [$xs,*,dSortI,dSortR,dLstRg,dRepW,dRetF,dForgets,asD_put,dSortS,dDPut,dCallZ,dBor,dBor0,diZ,dRevT,dStrI,dIsXT,dTry0,dTry,dXf,dIsX,dNewD,dDisp1,Prod.mk.injEq,wipeT,Int.toNat_natCast,asL_put,put_same,put_put,Cell.lst.injEq,atI_0,atI_1,atI_2,atI_3,atI_4,atI_5,atI_6,atI_7,atI_8,atI_9,Tr.ty.injEq,tyN_int,tyN_bool,tyN_str,tyN_list,tyN_tuple,tyN_dict,dVar,dC,dName,dOp,dI,dI0,dUn,dU,dEq,dNe,dTest,dAnd,dOr,dNot,dAndV,dOrV,dNotV,dIf,dChain,dNil,dCons,dTup,dLst,dCall,dCall0,dCB,dNext,dSeq,dRet,dRetN,dDrop,dBreak,dCont,dIfS,dgNil,dgCons,dTupG,dAsg,diL,diT,diS,diR1,diR2,diE,dYes,dIx,dLen,dInt,dMx,dSum,dAll,dIsi,dIsiT,doNone,doSome,dSl,dApp,dSub,dSet,dEqD,dGet,dGet1,dGet2,LT.dIn,dIsN,dIsB,dIn',dList,dTuple,dRaise,dMaxL,dMinL,dMinS,dRep,asL_lst,asS_lst,asS_tup,asT_tup,flatV',Tr.int.injEq,Tr.bl.injEq,Tr.str.injEq,Tr.lst.injEq,Tr.tup.injEq,Tr.obj.injEq,Option.isSome_some,List.map_cons,List.map_nil,List.length_cons,List.length_nil,List.replicate_succ,List.replicate_zero,List.cons_append,List.nil_append,List.append_nil,List.getElem?_cons_zero,List.getElem?_cons_succ,List.set_cons_zero,List.set_cons_succ,Nat.add_sub_cancel,Nat.reduceAdd,Nat.reduceSub,Option.some.injEq,List.cons.injEq,and_true,true_and,and_false,false_and,exists_eq_left,exists_eq_left',exists_and_left,exists_and_right,exists_eq,exists_eq',LL.if_dec,reduceCtorEq,exists_false,exists_const,or_false,false_or,if_true,if_false,and_assoc,Int.reduceEq,Int.reduceNe,Int.reduceNeg,Int.reduceLT,Int.reduceLE,Int.reduceMul,Int.reduceAdd,Int.reduceSub,Int.reducePow,Int.reduceToNat,Nat.reducePow,Nat.reduceLT,Nat.reduceLeDiff,true_or,or_true,Bool.not_true,Bool.not_false,Bool.false_eq_true,Bool.or_false,Bool.or_true,Bool.true_or,Bool.false_or,decide_true,decide_false,not_true_eq_false,not_false_eq_true,LL.scal_int,LL.scal_bl,LL.scal_str,V.int.injEq,V.bl.injEq,V.str.injEq,Nat.zero_le,forall_const,true_implies,kindT_non,isNonT_non,flatT_non,flatK_non,isBT_non_true,isBT_non_false,toV_non,ofV_non,keyT_non,isT_non_int,isT_non_bool,isT_non_str,isT_non_list,isT_non_tuple,isT_non_dict,kindT_bl,isNonT_bl,flatT_bl,flatK_bl,toV_bl,ofV_bl,keyT_bl,isT_bl_int,isT_bl_bool,isT_bl_str,isT_bl_list,isT_bl_tuple,isT_bl_dict,kindT_int,isNonT_int,flatT_int,flatK_int,isBT_int_true,isBT_int_false,toV_int,ofV_int,keyT_int,isT_int_int,isT_int_bool,isT_int_str,isT_int_list,isT_int_tuple,isT_int_dict,kindT_str,isNonT_str,flatT_str,flatK_str,isBT_str_true,isBT_str_false,toV_str,ofV_str,keyT_str,isT_str_int,isT_str_bool,isT_str_str,isT_str_list,isT_str_tuple,isT_str_dict,kindT_lst,isNonT_lst,flatT_lst,flatK_lst,isBT_lst_true,isBT_lst_false,lenT_lst,keyT_lst,isT_lst_int,isT_lst_bool,isT_lst_str,isT_lst_list,isT_lst_tuple,isT_lst_dict,kindT_tup,isNonT_tup,flatT_tup,flatK_tup,isBT_tup_true,isBT_tup_false,lenT_tup,keyT_tup,isT_tup_int,isT_tup_bool,isT_tup_str,isT_tup_list,isT_tup_tuple,isT_tup_dict,kindT_dic,isNonT_dic,flatT_dic,flatK_dic,isBT_dic_true,isBT_dic_false,lenT_dic,keyT_dic,isT_dic_int,isT_dic_bool,isT_dic_str,isT_dic_list,isT_dic_tuple,isT_dic_dict,kindT_obj,isNonT_obj,flatT_obj,flatK_obj,isBT_obj_true,isBT_obj_false,keyT_obj,kindT_drw,isNonT_drw,flatT_drw,flatK_drw,isBT_drw_true,isBT_drw_false,keyT_drw,kindT_ty,isNonT_ty,flatT_ty,flatK_ty,isBT_ty_true,isBT_ty_false,toV_ty,ofV_ty,keyT_ty,asD_dic,isBT_bl,dAddG_int,dAddG_str,dAddG_tup,dAddG_lst_lst,dAddG_lst_obj,dAddG_obj_lst,dAddG_obj_obj,dSlG_tup,dSlG_str,dSlG_lst,dSlG_obj])
variable {P : Program} {w : World} {K : PySem.W.Frag} {mg : Str → Option Value} {base : Heap}

/-- 0 < many: a number of 0 .. many - 1 -/
def sp_law_mixed : Sp := fun vs H Q _ => ∃ a b m : Int, vs = [.int a, .int b, .int m] ∧ 0 < m ∧ ∀ v : Int, 0 ≤ v → v < m → Q (.int v) H
def sp_law_next_cell : Sp := fun vs H Q _ => ∃ d s, vs = [.ref d] ∧ Drw d s H ∧ ∀ H', Aft d s H H' → Q .non H'
def sp_law_take : Sp := fun vs H Q _ => ∃ d s m, vs = [.ref d, .int m] ∧ Drw d s H ∧ m.natAbs < 2 ^ 4000 ∧ ∀ v H', Aft d s H H' → 0 ≤ v → (v < m ∨ v = 0) → Q (.int v) H'
theorem use_take {d s : Addr} {m : Int} {H : Hp} {Q : VK} {E : XK} (D : Drw d s H) (hm : m.natAbs < 2 ^ 4000) (q : ∀ v H', Aft d s H H' → Drw d s H' → 0 ≤ v → (v < m ∨ v = 0) → Q (.int v) H') : sp_law_take [.ref d, .int m] H Q E :=
  ⟨d, s, m, rfl, D, hm, fun v H' a => q v H' a a.dr⟩

theorem ok_law_mixed (T : Tx K mg) : FnOk P w K mg base CX0 1 (He.ga K "_law_mixed") T.fd_law_mixed P_law_mixed sp_law_mixed := by
  refine T.F_law_mixed.ok sc_law_mixed (fun vs H Q E h => ?_) (fun cdv A outer s H vs Q E hr h => ⟨_, PSs.nox (pss_cons (ps_set (i := 3) sc_law_mixed.nd rfl (Or.inl rfl) (pe_int)) (pss_cons (ps_for PassesOwn.never rfl (pi_range1 rfl T.z_range (pa_cons (pe_int) pa_nil)) (pg_name (i := 4) sc_law_mixed.nd rfl (Or.inl rfl)) (pss_cons (ps_set (i := 5) sc_law_mixed.nd rfl (Or.inl rfl) (pe_op op_mod (pe_callTy LL.call_intI (by rfl) T.z_int (by decide +kernel) (pa_cons (pe_op op_mul (pe_op op_add (pe_op op_add (pv 0) (pe_int)) (pe_op op_mul (pe_op op_add (pe_op op_mul (pe_int) (pv 1)) (pv 4)) (pe_int))) (pe_int)) pa_nil)) (pe_int))) (pss_cons (ps_set (i := 6) sc_law_mixed.nd rfl (Or.inl rfl) (pe_op op_mod (pe_callTy LL.call_intI (by rfl) T.z_int (by decide +kernel) (pa_cons (pe_op op_add (pe_op op_add (pe_op op_mul (pv 5) (pv 5)) (pe_op op_mul (pe_op op_fdiv (pv 5) (pe_int)) (pe_int))) (pv 1)) pa_nil)) (pe_int))) (pss_one (ps_set (i := 3) sc_law_mixed.nd rfl (Or.inl rfl) (pe_op op_add (pe_op op_mul (pv 3) (pe_int)) (pe_op op_fdiv (pv 6) (pe_int)))))))) (pss_one (ps_ret (pe_op op_mod (pe_callTy LL.call_intI (by rfl) T.z_int (by decide +kernel) (pa_cons (pv 3) pa_nil)) (pv 2)))))), ?_⟩)
  · obtain ⟨_, _, _, rfl, _⟩ := h
    rfl
  · obtain ⟨a, b, m, rfl, hm, q⟩ := h
    simp only [tSeq, tAsg, tRet, tRetN, tDrop, tNext, tVar, tC, gName, tOp, tUn, rI, rI0, rU, tIfS, tTest, tB, tIf, tAnd, tOr, tNot, tAndV, tOrV, tNotV, tCall, tCons, tNil, tCB, tLst, tTup, tChain, CMul, CDiv, CPow, rEq, rNe, gSub, L2.start, LL.cxK0, LL.cxK1, List.map_cons, List.map_nil, List.length_cons, List.length_nil, List.replicate_succ, List.replicate_zero, List.cons_append, List.nil_append, List.append_nil, List.getElem?_cons_zero, List.getElem?_cons_succ, List.set_cons_zero, List.set_cons_succ, Nat.add_sub_cancel, Nat.reduceAdd, Nat.reduceSub, Option.some.injEq, V.int.injEq, V.bl.injEq, V.ref.injEq, V.str.injEq, List.cons.injEq, and_true, true_and, and_false, false_and, exists_eq_left, exists_eq_left', exists_and_left, exists_and_right, exists_eq, exists_eq', LL.if_dec, reduceCtorEq, exists_false, exists_const, or_false, false_or, if_true, if_false, LL.rInt1, LL.rMx, LL.rMn, and_assoc, Int.reduceNeg, Int.reduceLT, Int.reduceLE, Int.reduceMul, Int.reduceAdd, Int.reduceSub, Int.reducePow, Int.reduceToNat, Nat.reducePow, Nat.reduceLT, true_or, or_true, Bool.not_true, Bool.not_false, Bool.false_eq_true, Bool.or_false, Bool.or_true, Bool.true_or, Bool.false_or, decide_true, decide_false, not_true_eq_false, not_false_eq_true, LL.scal_int, LL.scal_bl, LL.scal_str, LL.isInt, LL.isBl, LL.isStr, LL.isLst, LL.isTup, LL.isDic, N_law_mixed]
    refine use_forR (j := 2) (fun Q q => q) (by decide) (by decide) (fun i σ' H' => H' = H ∧ ∃ (v : Int) (x1 x2 x3 : Option V), σ' = [some (.int a), some (.int b), some (.int m), some (.int v), x1, x2, x3]) ⟨rfl, _, _, _, _, rfl⟩ ?_ ?_
    · rintro i σ' H' hi ⟨rfl, v, x1, x2, x3, rfl⟩
      simp only [tSeq, tAsg, tRet, tRetN, tDrop, tNext, tVar, tC, gName, tOp, tUn, rI, rI0, rU, tIfS, tTest, tB, tIf, tAnd, tOr, tNot, tAndV, tOrV, tNotV, tCall, tCons, tNil, tCB, tLst, tTup, tChain, CMul, CDiv, CPow, rEq, rNe, gSub, L2.start, LL.cxK0, LL.cxK1, List.map_cons, List.map_nil, List.length_cons, List.length_nil, List.replicate_succ, List.replicate_zero, List.cons_append, List.nil_append, List.append_nil, List.getElem?_cons_zero, List.getElem?_cons_succ, List.set_cons_zero, List.set_cons_succ, Nat.add_sub_cancel, Nat.reduceAdd, Nat.reduceSub, Option.some.injEq, V.int.injEq, V.bl.injEq, V.ref.injEq, V.str.injEq, List.cons.injEq, and_true, true_and, and_false, false_and, exists_eq_left, exists_eq_left', exists_and_left, exists_and_right, exists_eq, exists_eq', LL.if_dec, reduceCtorEq, exists_false, exists_const, or_false, false_or, if_true, if_false, LL.rInt1, LL.rMx, LL.rMn, and_assoc, Int.reduceNeg, Int.reduceLT, Int.reduceLE, Int.reduceMul, Int.reduceAdd, Int.reduceSub, Int.reducePow, Int.reduceToNat, Nat.reducePow, Nat.reduceLT, true_or, or_true, Bool.not_true, Bool.not_false, Bool.false_eq_true, Bool.or_false, Bool.or_true, Bool.true_or, Bool.false_or, decide_true, decide_false, not_true_eq_false, not_false_eq_true, LL.scal_int, LL.scal_bl, LL.scal_str, LL.isInt, LL.isBl, LL.isStr, LL.isLst, LL.isTup, LL.isDic]
      have h1 := Int.emod_nonneg ((a + 7 + (2 * b + (0 + (i : Int))) * 1000003) * 48271) (show (2147483647 : Int) ≠ 0 by decide)
      have h2 := Int.emod_lt_of_pos ((a + 7 + (2 * b + (0 + (i : Int))) * 1000003) * 48271) (show (0 : Int) < 2147483647 by decide)
      exact Or.inl ⟨by omega, by omega⟩
    · rintro σ' H' ⟨rfl, v, x1, x2, x3, rfl⟩
      simp only [tSeq, tAsg, tRet, tRetN, tDrop, tNext, tVar, tC, gName, tOp, tUn, rI, rI0, rU, tIfS, tTest, tB, tIf, tAnd, tOr, tNot, tAndV, tOrV, tNotV, tCall, tCons, tNil, tCB, tLst, tTup, tChain, CMul, CDiv, CPow, rEq, rNe, gSub, L2.start, LL.cxK0, LL.cxK1, List.map_cons, List.map_nil, List.length_cons, List.length_nil, List.replicate_succ, List.replicate_zero, List.cons_append, List.nil_append, List.append_nil, List.getElem?_cons_zero, List.getElem?_cons_succ, List.set_cons_zero, List.set_cons_succ, Nat.add_sub_cancel, Nat.reduceAdd, Nat.reduceSub, Option.some.injEq, V.int.injEq, V.bl.injEq, V.ref.injEq, V.str.injEq, List.cons.injEq, and_true, true_and, and_false, false_and, exists_eq_left, exists_eq_left', exists_and_left, exists_and_right, exists_eq, exists_eq', LL.if_dec, reduceCtorEq, exists_false, exists_const, or_false, false_or, if_true, if_false, LL.rInt1, LL.rMx, LL.rMn, and_assoc, Int.reduceNeg, Int.reduceLT, Int.reduceLE, Int.reduceMul, Int.reduceAdd, Int.reduceSub, Int.reducePow, Int.reduceToNat, Nat.reducePow, Nat.reduceLT, true_or, or_true, Bool.not_true, Bool.not_false, Bool.false_eq_true, Bool.or_false, Bool.or_true, Bool.true_or, Bool.false_or, decide_true, decide_false, not_true_eq_false, not_false_eq_true, LL.scal_int, LL.scal_bl, LL.scal_str, LL.isInt, LL.isBl, LL.isStr, LL.isLst, LL.isTup, LL.isDic]
      exact ⟨hm, q _ (Int.emod_nonneg _ (by omega)) (Int.emod_lt_of_pos _ hm)⟩
theorem ok_law_next_cell (T : Tx K mg) : FnOk P w K mg base CX0 1 (He.ga K "_law_next_cell") T.fd_law_next_cell P_law_next_cell sp_law_next_cell := by
  refine T.F_law_next_cell.ok sc_law_next_cell (fun vs H Q E h => ?_) (fun cdv A outer s H vs Q E hr h => ⟨_, PSs.nox (pss_cons (ps_set (i := 1) sc_law_next_cell.nd rfl (Or.inl rfl) (pe_ix (show IxR _ (rIxL K) from ix_list) (pv 0) (pe_int) (fun _ _ => rfl))) (pss_cons (ps_set (i := 2) sc_law_next_cell.nd rfl (Or.inl rfl) (pe_ix (show IxR _ (rIxL K) from ix_list) (pv 0) (pe_int) (fun _ _ => rfl))) (pss_one (ps_if (pt_cmpR op_lt (pe_ix (show IxR _ (rIxL K) from ix_list) (pv 2) (pe_int) (fun _ _ => rfl)) (pe_callB LL.call_lenL (by rfl) T.z_len (by decide +kernel) (pa_cons (pv 1) pa_nil)) (nomark _)) (pss_cons (ps_set (i := 3) sc_law_next_cell.nd rfl (Or.inl rfl) (pe_callTy LL.call_intI (by rfl) T.z_int (by decide +kernel) (pa_cons (pe_ix (show IxR _ (rIxL K) from ix_list) (pv 1) (pe_ix (show IxR _ (rIxL K) from ix_list) (pv 2) (pe_int) (fun _ _ => rfl)) (fun _ _ => rfl)) pa_nil))) (pss_cons (ps_asg (pe_op op_add (pe_ix (show IxR _ (rIxL K) from ix_list) (pv 2) (pe_int) (fun _ _ => rfl)) (pe_int)) (pg_sub (pv 2) (pe_int) set_list)) (pss_cons (ps_asg (pe_op op_mod (pe_callTy LL.call_intI (by rfl) T.z_int (by decide +kernel) (pa_cons (pe_op op_add (pe_op op_add (pe_op op_mul (pe_ix (show IxR _ (rIxL K) from ix_list) (pv 2) (pe_int) (fun _ _ => rfl)) (pe_int)) (pe_op op_mod (pv 3) (pe_int))) (pe_int)) pa_nil)) (pe_int)) (pg_sub (pv 2) (pe_int) set_list)) (pss_one (ps_if (pt_cmpR op_ge (pv 3) (pe_op op_pow (pe_int) (pe_int)) (nomark _)) (pss_one (ps_asg (pv 3) (pg_sub (pv 2) (pe_int) set_list))) (pss_one (ps_asg (pe_int) (pg_sub (pv 2) (pe_int) set_list)))))))) pss_nil)))), ?_⟩)
  · obtain ⟨_, _, rfl, _⟩ := h
    rfl
  · obtain ⟨d, s, rfl, D, q⟩ := h
    obtain ⟨⟨c, hd, hcs, ns, hc⟩, ⟨i, v, k, t, gg, hi, hs⟩, hds⟩ := _root_.id D
    simp only [tSeq, tAsg, tRet, tRetN, tDrop, tNext, tVar, tC, gName, tOp, tUn, rI, rI0, rU, tIfS, tTest, tB, tIf, tAnd, tOr, tNot, tAndV, tOrV, tNotV, tCall, tCons, tNil, tCB, tLst, tTup, tChain, CMul, CDiv, CPow, rEq, rNe, gSub, L2.start, LL.cxK0, LL.cxK1, List.map_cons, List.map_nil, List.length_cons, List.length_nil, List.replicate_succ, List.replicate_zero, List.cons_append, List.nil_append, List.append_nil, List.getElem?_cons_zero, List.getElem?_cons_succ, List.set_cons_zero, List.set_cons_succ, Nat.add_sub_cancel, Nat.reduceAdd, Nat.reduceSub, Option.some.injEq, V.int.injEq, V.bl.injEq, V.ref.injEq, V.str.injEq, List.cons.injEq, and_true, true_and, and_false, false_and, exists_eq_left, exists_eq_left', exists_and_left, exists_and_right, exists_eq, exists_eq', LL.if_dec, reduceCtorEq, exists_false, exists_const, or_false, false_or, if_true, if_false, LL.rInt1, LL.rMx, LL.rMn, and_assoc, Int.reduceNeg, Int.reduceLT, Int.reduceLE, Int.reduceMul, Int.reduceAdd, Int.reduceSub, Int.reducePow, Int.reduceToNat, Nat.reducePow, Nat.reduceLT, true_or, or_true, Bool.not_true, Bool.not_false, Bool.false_eq_true, Bool.or_false, Bool.or_true, Bool.true_or, Bool.false_or, decide_true, decide_false, not_true_eq_false, not_false_eq_true, LL.scal_int, LL.scal_bl, LL.scal_str, LL.isInt, LL.isBl, LL.isStr, LL.isLst, LL.isTup, LL.isDic, N_law_next_cell]
    refine use_ixL hd rfl (use_ixL hd rfl (use_ixL hs rfl ?_))
    refine use_lenL hc ?_
    simp only [tSeq, tAsg, tRet, tRetN, tDrop, tNext, tVar, tC, gName, tOp, tUn, rI, rI0, rU, tIfS, tTest, tB, tIf, tAnd, tOr, tNot, tAndV, tOrV, tNotV, tCall, tCons, tNil, tCB, tLst, tTup, tChain, CMul, CDiv, CPow, rEq, rNe, gSub, L2.start, LL.cxK0, LL.cxK1, List.map_cons, List.map_nil, List.length_cons, List.length_nil, List.replicate_succ, List.replicate_zero, List.cons_append, List.nil_append, List.append_nil, List.getElem?_cons_zero, List.getElem?_cons_succ, List.set_cons_zero, List.set_cons_succ, Nat.add_sub_cancel, Nat.reduceAdd, Nat.reduceSub, Option.some.injEq, V.int.injEq, V.bl.injEq, V.ref.injEq, V.str.injEq, List.cons.injEq, and_true, true_and, and_false, false_and, exists_eq_left, exists_eq_left', exists_and_left, exists_and_right, exists_eq, exists_eq', LL.if_dec, reduceCtorEq, exists_false, exists_const, or_false, false_or, if_true, if_false, LL.rInt1, LL.rMx, LL.rMn, and_assoc, Int.reduceNeg, Int.reduceLT, Int.reduceLE, Int.reduceMul, Int.reduceAdd, Int.reduceSub, Int.reducePow, Int.reduceToNat, Nat.reducePow, Nat.reduceLT, true_or, or_true, Bool.not_true, Bool.not_false, Bool.false_eq_true, Bool.or_false, Bool.or_true, Bool.true_or, Bool.false_or, decide_true, decide_false, not_true_eq_false, not_false_eq_true, LL.scal_int, LL.scal_bl, LL.scal_str, LL.isInt, LL.isBl, LL.isStr, LL.isLst, LL.isTup, LL.isDic]
    split
    · rename_i hlt
      obtain ⟨n, hn⟩ := atI_int hi (by simpa using hlt)
      refine use_ixL hs rfl (use_ixL hc hn ?_)
      simp only [tSeq, tAsg, tRet, tRetN, tDrop, tNext, tVar, tC, gName, tOp, tUn, rI, rI0, rU, tIfS, tTest, tB, tIf, tAnd, tOr, tNot, tAndV, tOrV, tNotV, tCall, tCons, tNil, tCB, tLst, tTup, tChain, CMul, CDiv, CPow, rEq, rNe, gSub, L2.start, LL.cxK0, LL.cxK1, List.map_cons, List.map_nil, List.length_cons, List.length_nil, List.replicate_succ, List.replicate_zero, List.cons_append, List.nil_append, List.append_nil, List.getElem?_cons_zero, List.getElem?_cons_succ, List.set_cons_zero, List.set_cons_succ, Nat.add_sub_cancel, Nat.reduceAdd, Nat.reduceSub, Option.some.injEq, V.int.injEq, V.bl.injEq, V.ref.injEq, V.str.injEq, List.cons.injEq, and_true, true_and, and_false, false_and, exists_eq_left, exists_eq_left', exists_and_left, exists_and_right, exists_eq, exists_eq', LL.if_dec, reduceCtorEq, exists_false, exists_const, or_false, false_or, if_true, if_false, LL.rInt1, LL.rMx, LL.rMn, and_assoc, Int.reduceNeg, Int.reduceLT, Int.reduceLE, Int.reduceMul, Int.reduceAdd, Int.reduceSub, Int.reducePow, Int.reduceToNat, Nat.reducePow, Nat.reduceLT, true_or, or_true, Bool.not_true, Bool.not_false, Bool.false_eq_true, Bool.or_false, Bool.or_true, Bool.true_or, Bool.false_or, decide_true, decide_false, not_true_eq_false, not_false_eq_true, LL.scal_int, LL.scal_bl, LL.scal_str, LL.isInt, LL.isBl, LL.isStr, LL.isLst, LL.isTup, LL.isDic]
      refine use_ixL hs rfl ?_
      simp only [tSeq, tAsg, tRet, tRetN, tDrop, tNext, tVar, tC, gName, tOp, tUn, rI, rI0, rU, tIfS, tTest, tB, tIf, tAnd, tOr, tNot, tAndV, tOrV, tNotV, tCall, tCons, tNil, tCB, tLst, tTup, tChain, CMul, CDiv, CPow, rEq, rNe, gSub, L2.start, LL.cxK0, LL.cxK1, List.map_cons, List.map_nil, List.length_cons, List.length_nil, List.replicate_succ, List.replicate_zero, List.cons_append, List.nil_append, List.append_nil, List.getElem?_cons_zero, List.getElem?_cons_succ, List.set_cons_zero, List.set_cons_succ, Nat.add_sub_cancel, Nat.reduceAdd, Nat.reduceSub, Option.some.injEq, V.int.injEq, V.bl.injEq, V.ref.injEq, V.str.injEq, List.cons.injEq, and_true, true_and, and_false, false_and, exists_eq_left, exists_eq_left', exists_and_left, exists_and_right, exists_eq, exists_eq', LL.if_dec, reduceCtorEq, exists_false, exists_const, or_false, false_or, if_true, if_false, LL.rInt1, LL.rMx, LL.rMn, and_assoc, Int.reduceNeg, Int.reduceLT, Int.reduceLE, Int.reduceMul, Int.reduceAdd, Int.reduceSub, Int.reducePow, Int.reduceToNat, Nat.reducePow, Nat.reduceLT, true_or, or_true, Bool.not_true, Bool.not_false, Bool.false_eq_true, Bool.or_false, Bool.or_true, Bool.true_or, Bool.false_or, decide_true, decide_false, not_true_eq_false, not_false_eq_true, LL.scal_int, LL.scal_bl, LL.scal_str, LL.isInt, LL.isBl, LL.isStr, LL.isLst, LL.isTup, LL.isDic]
      refine use_setL hs rfl ?_
      refine use_ixL upd_same rfl ?_
      simp only [tSeq, tAsg, tRet, tRetN, tDrop, tNext, tVar, tC, gName, tOp, tUn, rI, rI0, rU, tIfS, tTest, tB, tIf, tAnd, tOr, tNot, tAndV, tOrV, tNotV, tCall, tCons, tNil, tCB, tLst, tTup, tChain, CMul, CDiv, CPow, rEq, rNe, gSub, L2.start, LL.cxK0, LL.cxK1, List.map_cons, List.map_nil, List.length_cons, List.length_nil, List.replicate_succ, List.replicate_zero, List.cons_append, List.nil_append, List.append_nil, List.getElem?_cons_zero, List.getElem?_cons_succ, List.set_cons_zero, List.set_cons_succ, Nat.add_sub_cancel, Nat.reduceAdd, Nat.reduceSub, Option.some.injEq, V.int.injEq, V.bl.injEq, V.ref.injEq, V.str.injEq, List.cons.injEq, and_true, true_and, and_false, false_and, exists_eq_left, exists_eq_left', exists_and_left, exists_and_right, exists_eq, exists_eq', LL.if_dec, reduceCtorEq, exists_false, exists_const, or_false, false_or, if_true, if_false, LL.rInt1, LL.rMx, LL.rMn, and_assoc, Int.reduceNeg, Int.reduceLT, Int.reduceLE, Int.reduceMul, Int.reduceAdd, Int.reduceSub, Int.reducePow, Int.reduceToNat, Nat.reducePow, Nat.reduceLT, true_or, or_true, Bool.not_true, Bool.not_false, Bool.false_eq_true, Bool.or_false, Bool.or_true, Bool.true_or, Bool.false_or, decide_true, decide_false, not_true_eq_false, not_false_eq_true, LL.scal_int, LL.scal_bl, LL.scal_str, LL.isInt, LL.isBl, LL.isStr, LL.isLst, LL.isTup, LL.isDic]
      refine use_setL upd_same rfl ?_
      rw [upd_upd]
      refine ⟨by decide, ?_⟩
      split
      · exact use_setL upd_same rfl (by rw [upd_upd]; exact q _ (Aft.st D (by omega)))
      · exact use_setL upd_same rfl (by rw [upd_upd]; exact q _ (Aft.st D (by omega)))
    · exact q _ (Aft.refl D)
theorem ok_law_take (T : Tx K mg) : FnOk P w K mg base CX0 2 (He.ga K "_law_take") T.fd_law_take P_law_take sp_law_take := by
  refine T.F_law_take.ok sc_law_take (fun vs H Q E h => ?_) (fun cdv A outer s H vs Q E hr h => ⟨_, PSs.nox (pss_cons (ps_if (pt_cmpR op_lt (pv 1) (pe_int) (nomark _)) (pss_one (ps_ret (pe_int))) pss_nil) (pss_cons (ps_set (i := 2) sc_law_take.nd rfl (Or.inl rfl) (pe_ix (show IxR _ (rIxL K) from ix_list) (pv 0) (pe_int) (fun _ _ => rfl))) (pss_cons (ps_asg (pe_op op_add (pe_ix (show IxR _ (rIxL K) from ix_list) (pv 2) (pe_int) (fun _ _ => rfl)) (pe_int)) (pg_sub (pv 2) (pe_int) set_list)) (pss_cons (ps_if (PW.pt (pw_and (pt_cmpR op_lt (pe_ix (show IxR _ (rIxL K) from ix_list) (pv 2) (pe_int) (fun _ _ => rfl)) (pe_int) (nomark _)) (pw_and1 (pt_cmpR op_lt (pe_ix (show IxR _ (rIxL K) from ix_list) (pv 2) (pe_int) (fun _ _ => rfl)) (pe_int) (nomark _))))) (pss_one (ps_expr (pe_call (ok_law_next_cell T) hr rfl T.g_law_next_cell T.F_law_next_cell.kp (b_law_next_cell T) .nil pass0 (pa_cons (pv 0) pa_nil)))) pss_nil) (pss_cons (ps_if (pt_cmpR op_gt (pe_ix (show IxR _ (rIxL K) from ix_list) (pv 2) (pe_int) (fun _ _ => rfl)) (pe_int) (nomark _)) (pss_cons (ps_set (i := 3) sc_law_take.nd rfl (Or.inl rfl) (pe_op op_mod (pe_callTy LL.call_intI (by rfl) T.z_int (by decide +kernel) (pa_cons (pe_ix (show IxR _ (rIxL K) from ix_list) (pv 2) (pe_int) (fun _ _ => rfl)) pa_nil)) (pv 1))) (pss_cons (ps_asg (pe_op op_fdivW (pe_ix (show IxR _ (rIxL K) from ix_list) (pv 2) (pe_int) (fun _ _ => rfl)) (pv 1)) (pg_sub (pv 2) (pe_int) set_list)) (pss_one (ps_ret (pv 3))))) pss_nil) (pss_cons (ps_if (pt_cmpR op_gt (pe_ix (show IxR _ (rIxL K) from ix_list) (pv 2) (pe_int) (fun _ _ => rfl)) (pe_int) (nomark _)) (pss_one (ps_asg (pe_op op_sub (pe_ix (show IxR _ (rIxL K) from ix_list) (pv 2) (pe_int) (fun _ _ => rfl)) (pe_int)) (pg_sub (pv 2) (pe_int) set_list))) pss_nil) (pss_one (ps_ret (pe_call (ok_law_mixed T) hr rfl T.g_law_mixed T.F_law_mixed.kp (b_law_mixed T) .nil pass0 (pa_cons (pe_ix (show IxR _ (rIxL K) from ix_list) (pv 2) (pe_int) (fun _ _ => rfl)) (pa_cons (pe_ix (show IxR _ (rIxL K) from ix_list) (pv 2) (pe_int) (fun _ _ => rfl)) (pa_cons (pv 1) pa_nil)))))))))))), ?_⟩)
  · obtain ⟨_, _, _, rfl, _⟩ := h
    rfl
  · obtain ⟨d, s, m, rfl, D, hmb, q⟩ := h
    obtain ⟨⟨c, hd, hcs, ns, hc⟩, ⟨i, v, k, t, gg, hi, hs⟩, hds⟩ := _root_.id D
    simp only [tSeq, tAsg, tRet, tRetN, tDrop, tNext, tVar, tC, gName, tOp, tUn, rI, rI0, rU, tIfS, tTest, tB, tIf, tAnd, tOr, tNot, tAndV, tOrV, tNotV, tCall, tCons, tNil, tCB, tLst, tTup, tChain, CMul, CDiv, CPow, rEq, rNe, gSub, L2.start, LL.cxK0, LL.cxK1, List.map_cons, List.map_nil, List.length_cons, List.length_nil, List.replicate_succ, List.replicate_zero, List.cons_append, List.nil_append, List.append_nil, List.getElem?_cons_zero, List.getElem?_cons_succ, List.set_cons_zero, List.set_cons_succ, Nat.add_sub_cancel, Nat.reduceAdd, Nat.reduceSub, Option.some.injEq, V.int.injEq, V.bl.injEq, V.ref.injEq, V.str.injEq, List.cons.injEq, and_true, true_and, and_false, false_and, exists_eq_left, exists_eq_left', exists_and_left, exists_and_right, exists_eq, exists_eq', LL.if_dec, reduceCtorEq, exists_false, exists_const, or_false, false_or, if_true, if_false, LL.rInt1, LL.rMx, LL.rMn, and_assoc, Int.reduceNeg, Int.reduceLT, Int.reduceLE, Int.reduceMul, Int.reduceAdd, Int.reduceSub, Int.reducePow, Int.reduceToNat, Nat.reducePow, Nat.reduceLT, true_or, or_true, Bool.not_true, Bool.not_false, Bool.false_eq_true, Bool.or_false, Bool.or_true, Bool.true_or, Bool.false_or, decide_true, decide_false, not_true_eq_false, not_false_eq_true, LL.scal_int, LL.scal_bl, LL.scal_str, LL.isInt, LL.isBl, LL.isStr, LL.isLst, LL.isTup, LL.isDic, N_law_take]
    split
    · exact q _ _ (Aft.refl D) (by decide) (.inr rfl)
    · rename_i hm
      have hm0 : 0 < m := by omega
      refine use_ixL hd rfl (use_ixL hs rfl ?_)
      simp only [tSeq, tAsg, tRet, tRetN, tDrop, tNext, tVar, tC, gName, tOp, tUn, rI, rI0, rU, tIfS, tTest, tB, tIf, tAnd, tOr, tNot, tAndV, tOrV, tNotV, tCall, tCons, tNil, tCB, tLst, tTup, tChain, CMul, CDiv, CPow, rEq, rNe, gSub, L2.start, LL.cxK0, LL.cxK1, List.map_cons, List.map_nil, List.length_cons, List.length_nil, List.replicate_succ, List.replicate_zero, List.cons_append, List.nil_append, List.append_nil, List.getElem?_cons_zero, List.getElem?_cons_succ, List.set_cons_zero, List.set_cons_succ, Nat.add_sub_cancel, Nat.reduceAdd, Nat.reduceSub, Option.some.injEq, V.int.injEq, V.bl.injEq, V.ref.injEq, V.str.injEq, List.cons.injEq, and_true, true_and, and_false, false_and, exists_eq_left, exists_eq_left', exists_and_left, exists_and_right, exists_eq, exists_eq', LL.if_dec, reduceCtorEq, exists_false, exists_const, or_false, false_or, if_true, if_false, LL.rInt1, LL.rMx, LL.rMn, and_assoc, Int.reduceNeg, Int.reduceLT, Int.reduceLE, Int.reduceMul, Int.reduceAdd, Int.reduceSub, Int.reducePow, Int.reduceToNat, Nat.reducePow, Nat.reduceLT, true_or, or_true, Bool.not_true, Bool.not_false, Bool.false_eq_true, Bool.or_false, Bool.or_true, Bool.true_or, Bool.false_or, decide_true, decide_false, not_true_eq_false, not_false_eq_true, LL.scal_int, LL.scal_bl, LL.scal_str, LL.isInt, LL.isBl, LL.isStr, LL.isLst, LL.isTup, LL.isDic]
      refine use_setL hs rfl (use_ixL upd_same rfl ?_)
      simp only [tSeq, tAsg, tRet, tRetN, tDrop, tNext, tVar, tC, gName, tOp, tUn, rI, rI0, rU, tIfS, tTest, tB, tIf, tAnd, tOr, tNot, tAndV, tOrV, tNotV, tCall, tCons, tNil, tCB, tLst, tTup, tChain, CMul, CDiv, CPow, rEq, rNe, gSub, L2.start, LL.cxK0, LL.cxK1, List.map_cons, List.map_nil, List.length_cons, List.length_nil, List.replicate_succ, List.replicate_zero, List.cons_append, List.nil_append, List.append_nil, List.getElem?_cons_zero, List.getElem?_cons_succ, List.set_cons_zero, List.set_cons_succ, Nat.add_sub_cancel, Nat.reduceAdd, Nat.reduceSub, Option.some.injEq, V.int.injEq, V.bl.injEq, V.ref.injEq, V.str.injEq, List.cons.injEq, and_true, true_and, and_false, false_and, exists_eq_left, exists_eq_left', exists_and_left, exists_and_right, exists_eq, exists_eq', LL.if_dec, reduceCtorEq, exists_false, exists_const, or_false, false_or, if_true, if_false, LL.rInt1, LL.rMx, LL.rMn, and_assoc, Int.reduceNeg, Int.reduceLT, Int.reduceLE, Int.reduceMul, Int.reduceAdd, Int.reduceSub, Int.reducePow, Int.reduceToNat, Nat.reducePow, Nat.reduceLT, true_or, or_true, Bool.not_true, Bool.not_false, Bool.false_eq_true, Bool.or_false, Bool.or_true, Bool.true_or, Bool.false_or, decide_true, decide_false, not_true_eq_false, not_false_eq_true, LL.scal_int, LL.scal_bl, LL.scal_str, LL.isInt, LL.isBl, LL.isStr, LL.isLst, LL.isTup, LL.isDic]
      have a1 : Aft d s H (upd H s (.lst [.int i, .int v, .int k, .int (t + 1), .int gg])) := Aft.st D hi
      show (if v < 2 then rIxL K (V.ref s) (V.int 2) (upd H s (.lst [.int i, .int v, .int k, .int (t + 1), .int gg])) _ else rIxL K (V.ref s) (V.int 1) (upd H s (.lst [.int i, .int v, .int k, .int (t + 1), .int gg])) _)
      generalize upd H s (.lst [.int i, .int v, .int k, .int (t + 1), .int gg]) = H1 at a1 ⊢
      clear hs
      have tail : ∀ H1, Aft d s H H1 → rIxL K (V.ref s) (V.int 1) H1 (fun x H1 => ∃ i, x = V.int i ∧ if 1 < i then rIxL K (V.ref s) (V.int 1) H1 (fun x H1 => ∃ i, x = V.int i ∧ 0 < m ∧ rIxL K (V.ref s) (V.int 1) H1 (fun x H1 => ∃ i_1, x = V.int i_1 ∧ CDivW i_1 m ∧ rSetL (V.ref s) (V.int 1) (V.int (i_1 / m)) H1 fun H3 => Q (V.int (i % m)) H3))
          else rIxL K (V.ref s) (V.int 2) H1 (fun x H1 => ∃ i, x = V.int i ∧ if 0 < i then rIxL K (V.ref s) (V.int 2) H1 (fun x H1 => ∃ i, x = V.int i ∧ rSetL (V.ref s) (V.int 2) (V.int (i - 1)) H1 fun H3 => rIxL K (V.ref s) (V.int 4) H3 fun x H1 => rIxL K (V.ref s) (V.int 3) H1 fun x_1 H1 => sp_law_mixed [x, x_1, V.int m] H1 Q E0)
            else rIxL K (V.ref s) (V.int 4) H1 fun x H1 => rIxL K (V.ref s) (V.int 3) H1 fun x_1 H1 => sp_law_mixed [x, x_1, V.int m] H1 Q E0)) := by
        intro H2 a2
        obtain ⟨⟨c2, hd2, hcs2, ns2, hc2⟩, ⟨i2, v2, k2, t2, gg2, hi2, hs2⟩, _⟩ := _root_.id a2.dr
        refine use_ixL hs2 rfl ⟨_, rfl, ?_⟩
        split
        · refine use_ixL hs2 rfl ⟨_, rfl, hm0, use_ixL hs2 rfl ⟨_, rfl, wide_div hm0 hmb (by decide) (by decide), ?_⟩⟩
          exact use_setL hs2 rfl (q _ _ (a2.st2 hi2) (Int.emod_nonneg _ (by omega)) (.inl (Int.emod_lt_of_pos _ hm0)))
        · refine use_ixL hs2 rfl ⟨_, rfl, ?_⟩
          split
          · refine use_ixL hs2 rfl ⟨_, rfl, use_setL hs2 rfl (use_ixL upd_same rfl (use_ixL upd_same rfl ?_))⟩
            exact ⟨_, _, _, rfl, hm0, fun v h0 h1 => q _ _ (a2.st2 hi2) h0 (.inl h1)⟩
          · refine use_ixL hs2 rfl (use_ixL hs2 rfl ?_)
            exact ⟨_, _, _, rfl, hm0, fun v h0 h1 => q _ _ a2 h0 (.inl h1)⟩
      split
      · obtain ⟨_, ⟨i3, v3, k3, t3, gg3, hi3, hs3⟩, _⟩ := _root_.id a1.dr
        refine use_ixL hs3 rfl ⟨_, rfl, ?_⟩
        split
        · exact ⟨d, s, rfl, a1.dr, fun H' a2 => tail _ (a1.trans a2)⟩
        · exact tail _ a1
      · exact tail _ a1
def sp_law_draws (K : PySem.W.Frag) : Sp := fun vs H Q _ => ∃ (a : Addr) (ns : List Int), vs = [.ref a] ∧ SqL K H a (ns.map V.int) ∧ ns.length ≤ 100000 ∧ ∀ d s H', Same H H' → Drw d s H' → H d = none → H s = none → Q (.ref d) H'

theorem ok_law_draws (T : Tx K mg) : FnOk P w K mg base CX0 1 (He.ga K "_law_draws") T.fd_law_draws P_law_draws (sp_law_draws K) := by
  refine T.F_law_draws.ok sc_law_draws (fun vs H Q E h => ?_) (fun cdv A outer s H vs Q E hr h => ⟨_, PSs.nox (pss_one (ps_ret (pe_lst (pa_cons (pe_lc (own := [("_law_cell", 1)]) (by rfl) sc_law_draws.nd (pi_list (pv 0)) (blkOk_by (N := N_law_draws) (sc := defScope s_law_draws) (by decide +kernel)) (fun _ _ _ _ _ => (pg_name (i := 1) sc_law_draws.nd rfl (Or.inl rfl))) (fun _ _ _ _ _ => pts_nil) (fun _ _ _ _ _ => (pe_callTy LL.call_intI (by rfl) T.z_int (by decide +kernel) (pa_cons (pv 1) pa_nil)))) (pa_cons (pe_lst (pa_cons (pe_int) (pa_cons (pe_int) (pa_cons (pe_int) (pa_cons (pe_int) (pa_cons (pe_int) pa_nil)))))) pa_nil))))), ?_⟩)
  · obtain ⟨_, _, rfl, _⟩ := h
    rfl
  · obtain ⟨a, ns, rfl, hs, hn, q⟩ := h
    simp only [tSeq, tAsg, tRet, tRetN, tDrop, tNext, tVar, tC, gName, tOp, tUn, rI, rI0, rU, tIfS, tTest, tB, tIf, tAnd, tOr, tNot, tAndV, tOrV, tNotV, tCall, tCons, tNil, tCB, tLst, tTup, tChain, CMul, CDiv, CPow, rEq, rNe, gSub, L2.start, LL.cxK0, LL.cxK1, List.map_cons, List.map_nil, List.length_cons, List.length_nil, List.replicate_succ, List.replicate_zero, List.cons_append, List.nil_append, List.append_nil, List.getElem?_cons_zero, List.getElem?_cons_succ, List.set_cons_zero, List.set_cons_succ, Nat.add_sub_cancel, Nat.reduceAdd, Nat.reduceSub, Option.some.injEq, V.int.injEq, V.bl.injEq, V.ref.injEq, V.str.injEq, List.cons.injEq, and_true, true_and, and_false, false_and, exists_eq_left, exists_eq_left', exists_and_left, exists_and_right, exists_eq, exists_eq', LL.if_dec, reduceCtorEq, exists_false, exists_const, or_false, false_or, if_true, if_false, LL.rInt1, LL.rMx, LL.rMn, and_assoc, Int.reduceNeg, Int.reduceLT, Int.reduceLE, Int.reduceMul, Int.reduceAdd, Int.reduceSub, Int.reducePow, Int.reduceToNat, Nat.reducePow, Nat.reduceLT, true_or, or_true, Bool.not_true, Bool.not_false, Bool.false_eq_true, Bool.or_false, Bool.or_true, Bool.true_or, Bool.false_or, decide_true, decide_false, not_true_eq_false, not_false_eq_true, LL.scal_int, LL.scal_bl, LL.scal_str, LL.isInt, LL.isBl, LL.isStr, LL.isLst, LL.isTup, LL.isDic, N_law_draws]
    refine ⟨_, rfl, a, rfl, ⟨_, hs⟩, fun D hD => ?_⟩
    refine lc_list (K := K) (a := a) (xs := ns.map V.int) (fun i H' => Same H H' ∧ H' D = some (.lst ((ns.take i).map V.int))) ⟨Same.new (Same.refl _) hD, upd_same⟩ (fun i H' _ ⟨s1, _⟩ => s1.seq hs) ?_ ?_
    · rintro i x H' hi ⟨s1, eD⟩
      rw [List.getElem?_map] at hi
      obtain ⟨n, hn2, rfl⟩ := Option.map_eq_some_iff.mp hi
      simp only [tSeq, tAsg, tRet, tRetN, tDrop, tNext, tVar, tC, gName, tOp, tUn, rI, rI0, rU, tIfS, tTest, tB, tIf, tAnd, tOr, tNot, tAndV, tOrV, tNotV, tCall, tCons, tNil, tCB, tLst, tTup, tChain, CMul, CDiv, CPow, rEq, rNe, gSub, L2.start, LL.cxK0, LL.cxK1, List.map_cons, List.map_nil, List.length_cons, List.length_nil, List.replicate_succ, List.replicate_zero, List.cons_append, List.nil_append, List.append_nil, List.getElem?_cons_zero, List.getElem?_cons_succ, List.set_cons_zero, List.set_cons_succ, Nat.add_sub_cancel, Nat.reduceAdd, Nat.reduceSub, Option.some.injEq, V.int.injEq, V.bl.injEq, V.ref.injEq, V.str.injEq, List.cons.injEq, and_true, true_and, and_false, false_and, exists_eq_left, exists_eq_left', exists_and_left, exists_and_right, exists_eq, exists_eq', LL.if_dec, reduceCtorEq, exists_false, exists_const, or_false, false_or, if_true, if_false, LL.rInt1, LL.rMx, LL.rMn, and_assoc, Int.reduceNeg, Int.reduceLT, Int.reduceLE, Int.reduceMul, Int.reduceAdd, Int.reduceSub, Int.reducePow, Int.reduceToNat, Nat.reducePow, Nat.reduceLT, true_or, or_true, Bool.not_true, Bool.not_false, Bool.false_eq_true, Bool.or_false, Bool.or_true, Bool.true_or, Bool.false_or, decide_true, decide_false, not_true_eq_false, not_false_eq_true, LL.scal_int, LL.scal_bl, LL.scal_str, LL.isInt, LL.isBl, LL.isStr, LL.isLst, LL.isTup, LL.isDic, tYes, wipe, List.foldl_cons, List.foldl_nil]
      refine ⟨_, eD, small_sz (by rw [List.length_map, List.length_take]; omega), Same.own s1 hD, ?_⟩
      rw [upd_same, take_one hn2, List.map_append]
      rfl
    · rintro H' ⟨s1, eD⟩
      rw [List.length_map, List.take_length] at eD
      refine ⟨by decide, ?_⟩
      have nD : ∀ b, H' b = none → b ≠ D := fun b nb z => by rw [z, eD] at nb; cases nb
      intro p2 np2
      generalize hq : upd H' p2 _ = H2
      have sH2 : Same H' H2 := hq ▸ Same.new (Same.refl _) np2
      have ep2 := hq ▸ (upd_same (H := H') (a := p2))
      clear hq
      replace eD := sH2 _ _ eD
      refine ⟨by decide, ?_⟩
      intro p3 np3
      generalize hq : upd H2 p3 _ = H3
      have sH3 : Same H2 H3 := hq ▸ Same.new (Same.refl _) np3
      have ep3 := hq ▸ (upd_same (H := H2) (a := p3))
      clear hq
      replace eD := sH3 _ _ eD
      replace ep2 := sH3 _ _ ep2
      refine q p3 p2 H3 ((s1.trans sH2).trans sH3) ⟨⟨D, ep3, (nD _ np2).symm, ns, eD⟩, ⟨0, 0, 0, 0, 11, by decide, ep2⟩, fun z => by rw [z] at np3; rw [z] at ep3; rw [ep3] at ep2; cases ep2⟩ ((s1.trans sH2).free np3) (s1.free np2)
def wp_take : Pw := fun ts Ω PQ _ => ∃ m : Int, ts = [.drw, .int m] ∧ m.natAbs < 2 ^ 4000 ∧ ∀ v : Int, 0 ≤ v → (v < m ∨ v = 0) → PQ (.int v) Ω
theorem okt_law_take (T : Tx K mg) : FnOk P w K mg base CX0 2 (He.ga K "_law_take") T.fd_law_take P_law_take (spD K wp_take 2) := (ok_law_take T).imp fun vs H Q E h => by
  obtain ⟨g, Ω, ts, PQ, PX, hl, d, o, ⟨m, rfl, hm, q⟩, aq, _⟩ := h
  obtain ⟨v, _, rfl, ⟨d0, s, eg, rfl⟩, u, _, rfl, rfl, rfl⟩ := d
  refine ⟨d0, s, m, rfl, (o.dr d0 s eg).drw, hm, fun v H' a h0 h1 => ?_⟩
  obtain ⟨k, o'⟩ := of_aft o eg a
  exact aq _ Ω _ H' (q v h0 h1) k o' rfl
theorem big_of {n : Int} (h0 : -1000000000000 ≤ n) (h : n ≤ 1000000000000) : n.natAbs < 2 ^ 4000 := Nat.lt_of_le_of_lt (show n.natAbs ≤ 1000000000000 by omega) (by decide +kernel)
def wp_between : Pw := fun ts Ω PQ _ => ∃ lo hi : Int, ts = [.drw, .int lo, .int hi] ∧ (hi - lo + 1).natAbs < 2 ^ 4000 ∧ ∀ v : Int, lo ≤ v → (v ≤ hi ∨ v = lo) → PQ (.int v) Ω
def wp_count : Pw := fun ts Ω PQ _ => ∃ lo hi : Int, ts = [.drw, .int lo, .int hi] ∧ 0 ≤ lo ∧ lo ≤ hi ∧ hi ≤ 100000000000 ∧ ∀ v : Int, 0 ≤ v → v ≤ hi → PQ (.int v) Ω
theorem lenT_of {t : Tr} {Ω : Om} {us : List Tr} (h : asS t Ω = some us) : ∃ n, lenT t Ω = some n ∧ n = us.length := by
  cases t with
  | lst ts => cases h; exact ⟨_, rfl, rfl⟩
  | tup ts => cases h; exact ⟨_, rfl, rfl⟩
  | obj a =>
    have h' : cellL (Ω a) = some us := h
    exact ⟨_, by show (match cellL (Ω a) with | some ts => some ts.length | none => _) = _; rw [h'], rfl⟩
  | _ => cases h
def wp_among : Pw := fun ts Ω PQ _ => ∃ r us, ts = [.drw, r] ∧ asS r Ω = some us ∧ us ≠ [] ∧ ∀ x ∈ us, PQ x Ω
theorem tk_call {m : Int} {Ω : Om} {P : PT'} {X : PXt} (h : m.natAbs < 2 ^ 4000) (k : ∀ v : Int, 0 ≤ v → (v < m ∨ v = 0) → P (.int v) Ω) : wp_take [.drw, .int m] Ω P X := ⟨m, rfl, h, k⟩
theorem tk_big {m : Int} (h0 : -1000000000000 ≤ m) (h : m ≤ 1000000000000) : m.natAbs < 2 ^ 4000 := big_of h0 h
theorem bt_call {lo hi : Int} {Ω : Om} {P : PT'} {X : PXt} (h : (hi - lo + 1).natAbs < 2 ^ 4000) (k : ∀ v : Int, lo ≤ v → (v ≤ hi ∨ v = lo) → P (.int v) Ω) : wp_between [.drw, .int lo, .int hi] Ω P X := ⟨lo, hi, rfl, h, k⟩
theorem ct_call {lo hi : Int} {Ω : Om} {P : PT'} {X : PXt} (h : 0 ≤ lo ∧ lo ≤ hi ∧ hi ≤ 100000000000) (k : ∀ v : Int, 0 ≤ v → v ≤ hi → P (.int v) Ω) : wp_count [.drw, .int lo, .int hi] Ω P X := ⟨lo, hi, rfl, h.1, h.2.1, h.2.2, k⟩
theorem am_call {r : Tr} {us : List Tr} {Ω : Om} {P : PT'} {X : PXt} (h : asS r Ω = some us) (h1 : us ≠ []) (k : ∀ x ∈ us, P x Ω) : wp_among [.drw, r] Ω P X := ⟨r, us, rfl, h, h1, k⟩
theorem lst_in {ts : List Tr} {Ω : Om} {P : PT'} (h : P (.lst ts) Ω) : lstNew ts Ω P := .inl h
theorem dic_in {us : List (Key × Tr)} {Ω : Om} {P : PT'} (h : P (dicOf us) Ω) : dicNew us Ω P := .inl h
theorem pick_at {α : Type} {us : List α} {v : Int} (h0 : 0 ≤ v) (h1 : v < us.length) : ∃ x ∈ us, L2.atI us v = some x := by
  obtain ⟨j, rfl⟩ := Int.eq_ofNat_of_zero_le h0
  have hj : j < us.length := by omega
  exact ⟨us[j], List.getElem_mem hj, atI_nat (List.getElem?_eq_getElem hj)⟩
theorem ok_law_between (T : Tx K mg) : FnOk P w K mg base CX0 3 (He.ga K "_law_between") T.fd_law_between P_law_between (spD K wp_between 3) := by
  refine dok T.F_law_between sc_law_between fun cdv A outer s H E hr => ?_
  refine' dokMk (PSs.nox (pss_cons (ps_if (pt_cmpR op_le (pv 2) (pv 1) (nomark _)) (pss_one (ps_ret (pv 1))) pss_nil) (pss_cons (ps_set (i := 3) sc_law_between.nd rfl (Or.inl rfl) (pe_call (okt_law_take T) hr rfl T.g_law_take T.F_law_take.kp (b_law_take T) .nil pass0 (pa_cons (pv 0) (pa_cons (pe_int) pa_nil)))) (pss_cons (ps_if (pt_cmpR op_eq (pv 3) (pe_int) (nomark _)) (pss_one (ps_ret (pv 1))) pss_nil) (pss_cons (ps_if (pt_cmpR op_eq (pv 3) (pe_int) (nomark _)) (pss_one (ps_ret (pv 2))) pss_nil) (pss_one (ps_ret (pe_op (show OpR _ _ (LT.rAddG K) from LT.op_addG) (pv 1) (pe_call (okt_law_take T) hr rfl T.g_law_take T.F_law_take.kp (b_law_take T) .nil pass0 (pa_cons (pv 0) (pa_cons (pe_op (show OpR _ _ (LT.rAddG K) from LT.op_addG) (pe_op op_sub (pv 2) (pv 1)) (pe_int)) pa_nil))))))))))) ?sim ?go
  case sim =>
    try simp only [LL.cxK0, LL.cxK1, List.map_cons, List.map_nil]
    repeat' (first | fail "s")
  case go =>
    intro ts Ω PQ PX hl h
    obtain ⟨lo, hi, rfl, hm, q⟩ := h
    simp! only [N_law_between]
    refine itei (fun h => q _ (by omega) (.inr rfl)) fun h => ?_
    refine ⟨6, rfl, by decide, fun v h0 h1 => ?_⟩
    simp! only [and_true]
    refine itei (fun h => q _ (by omega) (.inr rfl)) fun h => itei (fun h => q _ (by omega) (.inl (by omega))) fun h => ?_
    exact ⟨_, rfl, hm, fun v h0 h1 => q _ (by omega) (by omega)⟩
theorem ok_law_count (T : Tx K mg) : FnOk P w K mg base CX0 4 (He.ga K "_law_count") T.fd_law_count P_law_count (spD K wp_count 3) := by
  refine dok T.F_law_count sc_law_count fun cdv A outer s H E hr => ?_
  refine' dokMk (PSs.nox (pss_cons (ps_if (pt_cmpR op_eq (pe_call (okt_law_take T) (hr.mono (by decide)) rfl T.g_law_take T.F_law_take.kp (b_law_take T) .nil pass0 (pa_cons (pv 0) (pa_cons (pe_int) pa_nil))) (pe_int) (nomark _)) (pss_one (ps_ret (pe_call (ok_law_between T) hr rfl T.g_law_between T.F_law_between.kp (b_law_between T) .nil pass0 (pa_cons (pv 0) (pa_cons (pv 1) (pa_cons (pv 2) pa_nil)))))) pss_nil) (pss_one (ps_ret (pe_call (ok_law_between T) hr rfl T.g_law_between T.F_law_between.kp (b_law_between T) .nil pass0 (pa_cons (pv 0) (pa_cons (pe_int) (pa_cons (pv 1) pa_nil)))))))) ?sim ?go
  case sim =>
    try simp only [LL.cxK0, LL.cxK1, List.map_cons, List.map_nil]
    repeat' (first | fail "s")
  case go =>
    intro ts Ω PQ PX hl h
    obtain ⟨lo, hi, rfl, h0, h1, h2, q⟩ := h
    simp! only [N_law_count]
    refine ⟨8, rfl, by decide, fun v h3 h4 => ?_⟩
    simp! only [and_true]
    refine itei (fun h => ⟨_, _, rfl, big_of (by omega) (by omega), fun v h5 h6 => q v (by omega) (by omega)⟩) fun h => ⟨_, _, rfl, big_of (by omega) (by omega), fun v h5 h6 => q v (by omega) (by omega)⟩
theorem ok_law_among (T : Tx K mg) : FnOk P w K mg base CX0 3 (He.ga K "_law_among") T.fd_law_among P_law_among (spD K wp_among 2) := by
  refine dok T.F_law_among sc_law_among fun cdv A outer s H E hr => ?_
  refine' dokMk (PSs.nox (pss_one (ps_ret (pe_ix (show IxR _ (LL.rIxA K) from LL.ix_A) (pv 1) (pe_call (okt_law_take T) hr rfl T.g_law_take T.F_law_take.kp (b_law_take T) .nil pass0 (pa_cons (pv 0) (pa_cons (pe_callB (show CallR _ _ (LT.rLenS K) from LT.call_lenS) (by rfl) T.z_len (by decide +kernel) (pa_cons (pv 1) pa_nil)) pa_nil))) (fun _ _ => rfl))))) ?sim ?go
  case sim =>
    try simp only [LL.cxK0, LL.cxK1, List.map_cons, List.map_nil]
    repeat' (first | fail "s")
  case go =>
    intro ts Ω PQ PX hl h
    obtain ⟨r, us, rfl, hr, hne, q⟩ := h
    have hl' : ∃ n, lenT r Ω = some n ∧ n = us.length := lenT_of hr
    obtain ⟨n, en, rfl⟩ := hl'
    simp! only [N_law_among]
    refine ⟨_, en, fun hz => ⟨_, rfl, Nat.lt_of_le_of_lt (show (us.length : Int).natAbs ≤ 1000000 by omega) (by decide +kernel), fun v h0 h1 => ?_⟩⟩
    have h2 : v < us.length := by
      rcases h1 with h1 | h1
      · exact h1
      · have := List.length_pos_iff.mpr hne
        omega
    obtain ⟨x, hx, e⟩ := pick_at h0 h2
    exact ⟨us, hr, v, rfl, x, e, q x hx⟩
end K11

namespace K11
open PySem PySem.Spec PyProof.Rows L2 LL LT
local macro_rules | `(tactic| fail "s") => `(tactic| first | (with_reducible first | exact sim_var | exact sim_int | exact sim_bl | exact sim_str | exact sim_non | exact sim_ty | exact sim_ref | exact sim_nil | apply sim_cons | apply sim_op | apply simr_I0 | apply simr_I | exact simr_Eq | exact simr_Ne | exact simr_IxA | exact simr_addG | exact simr_isN | exact simr_notN | exact simr_isB | exact simr_in | exact simr_IxL | exact simr_IxT | exact simr_IxS | exact simr_EqD | exact simr_NeD | exact simr_rep | exact simr_repW | apply sim_un | apply sim_test | apply sim_tB | apply sim_and | apply sim_or | apply sim_not | apply sim_andV | apply sim_orV | apply sim_notV | apply sim_if | apply sim_chain | apply sim_tup | apply sim_lst | apply sim_bor0 | apply sim_bor | apply sim_borS | apply sim_call0 | apply sim_call | apply sim_callS | apply sim_callZ | apply sim_isXT | apply sim_isX | apply sim_xf | apply sim_sortS | apply sim_listRg | apply sim_CB | exact simc_len | exact simc_int | exact simc_isi | exact simc_mx | exact simc_mn | exact simc_sum | exact simc_maxL | exact simc_minL | exact simc_minS | exact simc_all | exact simc_any | exact simc_list | exact simc_tuple | exact simc_isiT | exact simc_strI | exact simc_sortI | exact simc_sortR | apply sim_sl | exact simsl_G | exact simsl_L | exact sim_oNone | apply sim_oSome | apply sim_append | exact sim_newD | apply sim_disp1 | apply sim_dget2 | apply sim_dget1 | apply sim_dget | apply sim_din | apply sim_dnotin | apply sim_lc | apply sim_dc | exact sim_yes | apply sim_iL | apply sim_iT | apply sim_iS | apply sim_iR1 | apply sim_iR2 | apply sim_iE | apply sim_iZ | apply sim_revT | exact gin_name (by decide) | apply gin_tup | exact gin_nil | apply gin_cons | exact mono_name | exact mono_nil | apply mono_cons | apply mono_tup | exact sim_next | apply sim_mk | apply sim_fgl | apply sim_fg | apply sim_seq | apply sim_ret | exact sim_retN | apply sim_drop | exact sim_break | exact sim_cont | apply sim_ifS | apply sim_asg | exact sim_gName | apply sim_gTup | exact sim_gNil | apply sim_gCons | apply sim_gSub | apply sim_for | apply sim_while | apply sim_dput | apply sim_raise | apply sim_tryT0 | apply sim_tryT) | exact fun _ _ => rfl | exact fun _ => rfl | exact fun _ _ _ _ => rfl | intro W | intro a cls d x)
local macro_rules | `(tactic| fail "l") => `(tactic| (simp only [List.length_append,List.length_take,List.length_drop,List.length_map,List.length_cons,List.length_nil,List.length_set,List.length_replicate,List.length_range]; omega))
local macro_rules | `(tactic| fail "r") => `(tactic| first | fail "d" | with_reducible refine fun (_ : _ ≤ 1000000) => ?_ | with_reducible refine Or.inl (fun (_ : _ ≤ 1000000) => ?_) | with_reducible refine lst_in ?_ | with_reducible refine dic_in ?_ | with_reducible refine tk_call (by first | decide | exact tk_big (by omega) (by omega)) fun v h0 h1 => ?_ | with_reducible refine bt_call (by first | decide | exact tk_big (by omega) (by omega)) fun v h0 h1 => ?_ | with_reducible refine ct_call (by first | decide | exact ⟨by omega, by omega, by omega⟩) fun v h0 h1 => ?_ | with_reducible refine LL.itei (fun h => ?_) fun h => ?_ | with_reducible refine pickP (by omega) (by simp only [List.length_cons, List.length_nil]; omega) ?_ | with_reducible refine List.forall_mem_cons.mpr (And.intro ?_ ?_) | with_reducible exact LT.nil_all | with_reducible refine And.intro (by first | (unfold CPow; decide) | omega | rfl) ?_ | with_reducible refine am_call rfl (List.cons_ne_nil _ _) ?_ | refine And.intro (show CMul _ _ from .inl ⟨by omega, by omega⟩) ?_)
local macro_rules | `(tactic| fail "d") => `(tactic| simp only [and_true,dSortI,dSortR,dLstRg,dRepW,dRetF,dForgets,asD_put,dSortS,dDPut,dCallZ,dBor,dBor0,diZ,dRevT,dStrI,dIsXT,dTry0,dTry,dXf,dIsX,dNewD,dDisp1,Prod.mk.injEq,wipeT,Int.toNat_natCast,asL_put,put_same,put_put,Cell.lst.injEq,atI_0,atI_1,atI_2,atI_3,atI_4,atI_5,atI_6,atI_7,atI_8,atI_9,Tr.ty.injEq,tyN_int,tyN_bool,tyN_str,tyN_list,tyN_tuple,tyN_dict,dVar,dC,dName,dOp,dI,dI0,dUn,dU,dEq,dNe,dTest,dAnd,dOr,dNot,dAndV,dOrV,dNotV,dIf,dChain,dNil,dCons,dTup,dLst,dCall,dCall0,dCB,dNext,dSeq,dRet,dRetN,dDrop,dBreak,dCont,dIfS,dgNil,dgCons,dTupG,dAsg,diL,diT,diS,diR1,diR2,diE,dYes,dIx,dLen,dInt,dMx,dSum,dAll,dIsi,dIsiT,doNone,doSome,dSl,dApp,dSub,dSet,dEqD,dGet,dGet1,dGet2,LT.dIn,dIsN,dIsB,dIn',dList,dTuple,dRaise,dMaxL,dMinL,dMinS,dRep,asL_lst,asS_lst,asS_tup,asT_tup,flatV',Tr.int.injEq,Tr.bl.injEq,Tr.str.injEq,Tr.lst.injEq,Tr.tup.injEq,Tr.obj.injEq,Option.isSome_some,List.map_cons,List.map_nil,List.length_cons,List.length_nil,List.replicate_succ,List.replicate_zero,List.cons_append,List.nil_append,List.append_nil,List.getElem?_cons_zero,List.getElem?_cons_succ,List.set_cons_zero,List.set_cons_succ,Nat.add_sub_cancel,Nat.reduceAdd,Nat.reduceSub,Option.some.injEq,List.cons.injEq,and_true,true_and,and_false,false_and,exists_eq_left,exists_eq_left',exists_and_left,exists_and_right,exists_eq,exists_eq',LL.if_dec,reduceCtorEq,exists_false,exists_const,or_false,false_or,if_true,if_false,and_assoc,Int.reduceEq,Int.reduceNe,Int.reduceNeg,Int.reduceLT,Int.reduceLE,Int.reduceMul,Int.reduceAdd,Int.reduceSub,Int.reducePow,Int.reduceToNat,Nat.reducePow,Nat.reduceLT,Nat.reduceLeDiff,true_or,or_true,Bool.not_true,Bool.not_false,Bool.false_eq_true,Bool.or_false,Bool.or_true,Bool.true_or,Bool.false_or,decide_true,decide_false,not_true_eq_false,not_false_eq_true,LL.scal_int,LL.scal_bl,LL.scal_str,V.int.injEq,V.bl.injEq,V.str.injEq,Nat.zero_le,forall_const,true_implies,kindT_non,isNonT_non,flatT_non,flatK_non,isBT_non_true,isBT_non_false,toV_non,ofV_non,keyT_non,isT_non_int,isT_non_bool,isT_non_str,isT_non_list,isT_non_tuple,isT_non_dict,kindT_bl,isNonT_bl,flatT_bl,flatK_bl,toV_bl,ofV_bl,keyT_bl,isT_bl_int,isT_bl_bool,isT_bl_str,isT_bl_list,isT_bl_tuple,isT_bl_dict,kindT_int,isNonT_int,flatT_int,flatK_int,isBT_int_true,isBT_int_false,toV_int,ofV_int,keyT_int,isT_int_int,isT_int_bool,isT_int_str,isT_int_list,isT_int_tuple,isT_int_dict,kindT_str,isNonT_str,flatT_str,flatK_str,isBT_str_true,isBT_str_false,toV_str,ofV_str,keyT_str,isT_str_int,isT_str_bool,isT_str_str,isT_str_list,isT_str_tuple,isT_str_dict,kindT_lst,isNonT_lst,flatT_lst,flatK_lst,isBT_lst_true,isBT_lst_false,lenT_lst,keyT_lst,isT_lst_int,isT_lst_bool,isT_lst_str,isT_lst_list,isT_lst_tuple,isT_lst_dict,kindT_tup,isNonT_tup,flatT_tup,flatK_tup,isBT_tup_true,isBT_tup_false,lenT_tup,keyT_tup,isT_tup_int,isT_tup_bool,isT_tup_str,isT_tup_list,isT_tup_tuple,isT_tup_dict,kindT_dic,isNonT_dic,flatT_dic,flatK_dic,isBT_dic_true,isBT_dic_false,lenT_dic,keyT_dic,isT_dic_int,isT_dic_bool,isT_dic_str,isT_dic_list,isT_dic_tuple,isT_dic_dict,kindT_obj,isNonT_obj,flatT_obj,flatK_obj,isBT_obj_true,isBT_obj_false,keyT_obj,kindT_drw,isNonT_drw,flatT_drw,flatK_drw,isBT_drw_true,isBT_drw_false,keyT_drw,kindT_ty,isNonT_ty,flatT_ty,flatK_ty,isBT_ty_true,isBT_ty_false,toV_ty,ofV_ty,keyT_ty,asD_dic,isBT_bl,dAddG_int,dAddG_str,dAddG_tup,dAddG_lst_lst,dAddG_lst_obj,dAddG_obj_lst,dAddG_obj_obj,dSlG_tup,dSlG_str,dSlG_lst,dSlG_obj])
local macro_rules | `(tactic| simp! only [$xs,*]) => `(tactic| try simp only [$xs,*,dSortI,dSortR,dLstRg,dRepW,dRetF,dForgets,asD_put,dSortS,dDPut,dCallZ,dBor,dBor0,diZ,dRevT,dStrI,dIsXT,dTry0,dTry,dXf,dIsX,dNewD,dDisp1,Prod.mk.injEq,wipeT,Int.toNat_natCast,asL_put,put_same,put_put,Cell.lst.injEq,atI_0,atI_1,atI_2,atI_3,atI_4,atI_5,atI_6,atI_7,atI_8,atI_9,Tr.ty.injEq,tyN_int,tyN_bool,tyN_str,tyN_list,tyN_tuple,tyN_dict,dVar,dC,dName,dOp,dI,dI0,dUn,dU,dEq,dNe,dTest,dAnd,dOr,dNot,dAndV,dOrV,dNotV,dIf,dChain,dNil,dCons,dTup,dLst,dCall,dCall0,dCB,dNext,dSeq,dRet,dRetN,dDrop,dBreak,dCont,dIfS,dgNil,dgCons,dTupG,dAsg,diL,diT,diS,diR1,diR2,diE,dYes,dIx,dLen,dInt,dMx,dSum,dAll,dIsi,dIsiT,doNone,doSome,dSl,dApp,dSub,dSet,dEqD,dGet,dGet1,dGet2,LT.dIn,dIsN,dIsB,dIn',dList,dTuple,dRaise,dMaxL,dMinL,dMinS,dRep,asL_lst,asS_lst,asS_tup,asT_tup,flatV',Tr.int.injEq,Tr.bl.injEq,Tr.str.injEq,Tr.lst.injEq,Tr.tup.injEq,Tr.obj.injEq,Option.isSome_some,List.map_cons,List.map_nil,List.length_cons,List.length_nil,List.replicate_succ,List.replicate_zero,List.cons_append,List.nil_append,List.append_nil,List.getElem?_cons_zero,List.getElem?_cons_succ,List.set_cons_zero,List.set_cons_succ,Nat.add_sub_cancel,Nat.reduceAdd,Nat.reduceSub,Option.some.injEq,List.cons.injEq,and_true,true_and,and_false,false_and,exists_eq_left,exists_eq_left',exists_and_left,exists_and_right,exists_eq,exists_eq',LL.if_dec,reduceCtorEq,exists_false,exists_const,or_false,false_or,if_true,if_false,and_assoc,Int.reduceEq,Int.reduceNe,Int.reduceNeg,Int.reduceLT,Int.reduceLE,Int.reduceMul,Int.reduceAdd,Int.reduceSub,Int.reducePow,Int.reduceToNat,Nat.reducePow,Nat.reduceLT,Nat.reduceLeDiff,true_or,or_true,Bool.not_true,Bool.not_false,Bool.false_eq_true,Bool.or_false,Bool.or_true,Bool.true_or,Bool.false_or,decide_true,decide_false,not_true_eq_false,not_false_eq_true,LL.scal_int,LL.scal_bl,LL.scal_str,V.int.injEq,V.bl.injEq,V.str.injEq,Nat.zero_le,forall_const,true_implies,kindT_non,isNonT_non,flatT_non,flatK_non,isBT_non_true,isBT_non_false,toV_non,ofV_non,keyT_non,isT_non_int,isT_non_bool,isT_non_str,isT_non_list,isT_non_tuple,isT_non_dict,kindT_bl,isNonT_bl,flatT_bl,flatK_bl,toV_bl,ofV_bl,keyT_bl,isT_bl_int,isT_bl_bool,isT_bl_str,isT_bl_list,isT_bl_tuple,isT_bl_dict,kindT_int,isNonT_int,flatT_int,flatK_int,isBT_int_true,isBT_int_false,toV_int,ofV_int,keyT_int,isT_int_int,isT_int_bool,isT_int_str,isT_int_list,isT_int_tuple,isT_int_dict,kindT_str,isNonT_str,flatT_str,flatK_str,isBT_str_true,isBT_str_false,toV_str,ofV_str,keyT_str,isT_str_int,isT_str_bool,isT_str_str,isT_str_list,isT_str_tuple,isT_str_dict,kindT_lst,isNonT_lst,flatT_lst,flatK_lst,isBT_lst_true,isBT_lst_false,lenT_lst,keyT_lst,isT_lst_int,isT_lst_bool,isT_lst_str,isT_lst_list,isT_lst_tuple,isT_lst_dict,kindT_tup,isNonT_tup,flatT_tup,flatK_tup,isBT_tup_true,isBT_tup_false,lenT_tup,keyT_tup,isT_tup_int,isT_tup_bool,isT_tup_str,isT_tup_list,isT_tup_tuple,isT_tup_dict,kindT_dic,isNonT_dic,flatT_dic,flatK_dic,isBT_dic_true,isBT_dic_false,lenT_dic,keyT_dic,isT_dic_int,isT_dic_bool,isT_dic_str,isT_dic_list,isT_dic_tuple,isT_dic_dict,kindT_obj,isNonT_obj,flatT_obj,flatK_obj,isBT_obj_true,isBT_obj_false,keyT_obj,kindT_drw,isNonT_drw,flatT_drw,flatK_drw,isBT_drw_true,isBT_drw_false,keyT_drw,kindT_ty,isNonT_ty,flatT_ty,flatK_ty,isBT_ty_true,isBT_ty_false,toV_ty,ofV_ty,keyT_ty,asD_dic,isBT_bl,dAddG_int,dAddG_str,dAddG_tup,dAddG_lst_lst,dAddG_lst_obj,dAddG_obj_lst,dAddG_obj_obj,dSlG_tup,dSlG_str,dSlG_lst,dSlG_obj])
variable {P : Program} {w : World} {K : PySem.W.Frag} {mg : Str → Option Value} {base : Heap}

def wp_align : Pw := fun ts Ω PQ _ => ∃ m : Int, ts = [.drw, .int m] ∧ 0 ≤ m ∧ m ≤ 40 ∧ ∀ k : Nat, (k : Int) ≤ m → PQ (.int (2 ^ k)) Ω
def wp_number : Pw := fun ts Ω PQ _ => ∃ lo hi : Int, ts = [.drw, .int lo, .int hi] ∧ lo ≤ hi ∧ -100000000000 ≤ lo ∧ hi ≤ 100000000000 ∧ ∀ v : Int, lo ≤ v → v ≤ hi → PQ (.int v) Ω
theorem al_call {m : Int} {Ω : Om} {P : PT'} {X : PXt} (h : 0 ≤ m ∧ m ≤ 40) (k : ∀ k : Nat, (k : Int) ≤ m → P (.int (2 ^ k)) Ω) : wp_align [.drw, .int m] Ω P X := ⟨m, rfl, h.1, h.2, k⟩
theorem nu_call {lo hi : Int} {Ω : Om} {P : PT'} {X : PXt} (h : lo ≤ hi ∧ -100000000000 ≤ lo ∧ hi ≤ 100000000000) (k : ∀ v : Int, lo ≤ v → v ≤ hi → P (.int v) Ω) : wp_number [.drw, .int lo, .int hi] Ω P X := ⟨lo, hi, rfl, h.1, h.2.1, h.2.2, k⟩
end K11

namespace K11
open PySem PySem.Spec PyProof.Rows L2 LL LT
local macro_rules | `(tactic| fail "s") => `(tactic| first | (with_reducible first | exact sim_var | exact sim_int | exact sim_bl | exact sim_str | exact sim_non | exact sim_ty | exact sim_ref | exact sim_nil | apply sim_cons | apply sim_op | apply simr_I0 | apply simr_I | exact simr_Eq | exact simr_Ne | exact simr_IxA | exact simr_addG | exact simr_isN | exact simr_notN | exact simr_isB | exact simr_in | exact simr_IxL | exact simr_IxT | exact simr_IxS | exact simr_EqD | exact simr_NeD | exact simr_rep | exact simr_repW | apply sim_un | apply sim_test | apply sim_tB | apply sim_and | apply sim_or | apply sim_not | apply sim_andV | apply sim_orV | apply sim_notV | apply sim_if | apply sim_chain | apply sim_tup | apply sim_lst | apply sim_bor0 | apply sim_bor | apply sim_borS | apply sim_call0 | apply sim_call | apply sim_callS | apply sim_callZ | apply sim_isXT | apply sim_isX | apply sim_xf | apply sim_sortS | apply sim_listRg | apply sim_CB | exact simc_len | exact simc_int | exact simc_isi | exact simc_mx | exact simc_mn | exact simc_sum | exact simc_maxL | exact simc_minL | exact simc_minS | exact simc_all | exact simc_any | exact simc_list | exact simc_tuple | exact simc_isiT | exact simc_strI | exact simc_sortI | exact simc_sortR | apply sim_sl | exact simsl_G | exact simsl_L | exact sim_oNone | apply sim_oSome | apply sim_append | exact sim_newD | apply sim_disp1 | apply sim_dget2 | apply sim_dget1 | apply sim_dget | apply sim_din | apply sim_dnotin | apply sim_lc | apply sim_dc | exact sim_yes | apply sim_iL | apply sim_iT | apply sim_iS | apply sim_iR1 | apply sim_iR2 | apply sim_iE | apply sim_iZ | apply sim_revT | exact gin_name (by decide) | apply gin_tup | exact gin_nil | apply gin_cons | exact mono_name | exact mono_nil | apply mono_cons | apply mono_tup | exact sim_next | apply sim_mk | apply sim_fgl | apply sim_fg | apply sim_seq | apply sim_ret | exact sim_retN | apply sim_drop | exact sim_break | exact sim_cont | apply sim_ifS | apply sim_asg | exact sim_gName | apply sim_gTup | exact sim_gNil | apply sim_gCons | apply sim_gSub | apply sim_for | apply sim_while | apply sim_dput | apply sim_raise | apply sim_tryT0 | apply sim_tryT) | exact fun _ _ => rfl | exact fun _ => rfl | exact fun _ _ _ _ => rfl | intro W | intro a cls d x)
local macro_rules | `(tactic| fail "l") => `(tactic| (simp only [List.length_append,List.length_take,List.length_drop,List.length_map,List.length_cons,List.length_nil,List.length_set,List.length_replicate,List.length_range]; omega))
local macro_rules | `(tactic| fail "r") => `(tactic| first | fail "d" | with_reducible refine fun (_ : _ ≤ 1000000) => ?_ | with_reducible refine Or.inl (fun (_ : _ ≤ 1000000) => ?_) | with_reducible refine lst_in ?_ | with_reducible refine dic_in ?_ | with_reducible refine tk_call (by first | decide | exact tk_big (by omega) (by omega)) fun v h0 h1 => ?_ | with_reducible refine bt_call (by first | decide | exact tk_big (by omega) (by omega)) fun v h0 h1 => ?_ | with_reducible refine ct_call (by first | decide | exact ⟨by omega, by omega, by omega⟩) fun v h0 h1 => ?_ | with_reducible refine LL.itei (fun h => ?_) fun h => ?_ | with_reducible refine pickP (by omega) (by simp only [List.length_cons, List.length_nil]; omega) ?_ | with_reducible refine List.forall_mem_cons.mpr (And.intro ?_ ?_) | with_reducible exact LT.nil_all | with_reducible refine And.intro (by first | (unfold CPow; decide) | omega | rfl) ?_ | with_reducible refine am_call rfl (List.cons_ne_nil _ _) ?_ | refine And.intro (show CMul _ _ from .inl ⟨by omega, by omega⟩) ?_)
local macro_rules | `(tactic| fail "d") => `(tactic| simp only [and_true,dSortI,dSortR,dLstRg,dRepW,dRetF,dForgets,asD_put,dSortS,dDPut,dCallZ,dBor,dBor0,diZ,dRevT,dStrI,dIsXT,dTry0,dTry,dXf,dIsX,dNewD,dDisp1,Prod.mk.injEq,wipeT,Int.toNat_natCast,asL_put,put_same,put_put,Cell.lst.injEq,atI_0,atI_1,atI_2,atI_3,atI_4,atI_5,atI_6,atI_7,atI_8,atI_9,Tr.ty.injEq,tyN_int,tyN_bool,tyN_str,tyN_list,tyN_tuple,tyN_dict,dVar,dC,dName,dOp,dI,dI0,dUn,dU,dEq,dNe,dTest,dAnd,dOr,dNot,dAndV,dOrV,dNotV,dIf,dChain,dNil,dCons,dTup,dLst,dCall,dCall0,dCB,dNext,dSeq,dRet,dRetN,dDrop,dBreak,dCont,dIfS,dgNil,dgCons,dTupG,dAsg,diL,diT,diS,diR1,diR2,diE,dYes,dIx,dLen,dInt,dMx,dSum,dAll,dIsi,dIsiT,doNone,doSome,dSl,dApp,dSub,dSet,dEqD,dGet,dGet1,dGet2,LT.dIn,dIsN,dIsB,dIn',dList,dTuple,dRaise,dMaxL,dMinL,dMinS,dRep,asL_lst,asS_lst,asS_tup,asT_tup,flatV',Tr.int.injEq,Tr.bl.injEq,Tr.str.injEq,Tr.lst.injEq,Tr.tup.injEq,Tr.obj.injEq,Option.isSome_some,List.map_cons,List.map_nil,List.length_cons,List.length_nil,List.replicate_succ,List.replicate_zero,List.cons_append,List.nil_append,List.append_nil,List.getElem?_cons_zero,List.getElem?_cons_succ,List.set_cons_zero,List.set_cons_succ,Nat.add_sub_cancel,Nat.reduceAdd,Nat.reduceSub,Option.some.injEq,List.cons.injEq,and_true,true_and,and_false,false_and,exists_eq_left,exists_eq_left',exists_and_left,exists_and_right,exists_eq,exists_eq',LL.if_dec,reduceCtorEq,exists_false,exists_const,or_false,false_or,if_true,if_false,and_assoc,Int.reduceEq,Int.reduceNe,Int.reduceNeg,Int.reduceLT,Int.reduceLE,Int.reduceMul,Int.reduceAdd,Int.reduceSub,Int.reducePow,Int.reduceToNat,Nat.reducePow,Nat.reduceLT,Nat.reduceLeDiff,true_or,or_true,Bool.not_true,Bool.not_false,Bool.false_eq_true,Bool.or_false,Bool.or_true,Bool.true_or,Bool.false_or,decide_true,decide_false,not_true_eq_false,not_false_eq_true,LL.scal_int,LL.scal_bl,LL.scal_str,V.int.injEq,V.bl.injEq,V.str.injEq,Nat.zero_le,forall_const,true_implies,kindT_non,isNonT_non,flatT_non,flatK_non,isBT_non_true,isBT_non_false,toV_non,ofV_non,keyT_non,isT_non_int,isT_non_bool,isT_non_str,isT_non_list,isT_non_tuple,isT_non_dict,kindT_bl,isNonT_bl,flatT_bl,flatK_bl,toV_bl,ofV_bl,keyT_bl,isT_bl_int,isT_bl_bool,isT_bl_str,isT_bl_list,isT_bl_tuple,isT_bl_dict,kindT_int,isNonT_int,flatT_int,flatK_int,isBT_int_true,isBT_int_false,toV_int,ofV_int,keyT_int,isT_int_int,isT_int_bool,isT_int_str,isT_int_list,isT_int_tuple,isT_int_dict,kindT_str,isNonT_str,flatT_str,flatK_str,isBT_str_true,isBT_str_false,toV_str,ofV_str,keyT_str,isT_str_int,isT_str_bool,isT_str_str,isT_str_list,isT_str_tuple,isT_str_dict,kindT_lst,isNonT_lst,flatT_lst,flatK_lst,isBT_lst_true,isBT_lst_false,lenT_lst,keyT_lst,isT_lst_int,isT_lst_bool,isT_lst_str,isT_lst_list,isT_lst_tuple,isT_lst_dict,kindT_tup,isNonT_tup,flatT_tup,flatK_tup,isBT_tup_true,isBT_tup_false,lenT_tup,keyT_tup,isT_tup_int,isT_tup_bool,isT_tup_str,isT_tup_list,isT_tup_tuple,isT_tup_dict,kindT_dic,isNonT_dic,flatT_dic,flatK_dic,isBT_dic_true,isBT_dic_false,lenT_dic,keyT_dic,isT_dic_int,isT_dic_bool,isT_dic_str,isT_dic_list,isT_dic_tuple,isT_dic_dict,kindT_obj,isNonT_obj,flatT_obj,flatK_obj,isBT_obj_true,isBT_obj_false,keyT_obj,kindT_drw,isNonT_drw,flatT_drw,flatK_drw,isBT_drw_true,isBT_drw_false,keyT_drw,kindT_ty,isNonT_ty,flatT_ty,flatK_ty,isBT_ty_true,isBT_ty_false,toV_ty,ofV_ty,keyT_ty,asD_dic,isBT_bl,dAddG_int,dAddG_str,dAddG_tup,dAddG_lst_lst,dAddG_lst_obj,dAddG_obj_lst,dAddG_obj_obj,dSlG_tup,dSlG_str,dSlG_lst,dSlG_obj])
local macro_rules | `(tactic| simp! only [$xs,*]) => `(tactic| try simp only [$xs,*,dSortI,dSortR,dLstRg,dRepW,dRetF,dForgets,asD_put,dSortS,dDPut,dCallZ,dBor,dBor0,diZ,dRevT,dStrI,dIsXT,dTry0,dTry,dXf,dIsX,dNewD,dDisp1,Prod.mk.injEq,wipeT,Int.toNat_natCast,asL_put,put_same,put_put,Cell.lst.injEq,atI_0,atI_1,atI_2,atI_3,atI_4,atI_5,atI_6,atI_7,atI_8,atI_9,Tr.ty.injEq,tyN_int,tyN_bool,tyN_str,tyN_list,tyN_tuple,tyN_dict,dVar,dC,dName,dOp,dI,dI0,dUn,dU,dEq,dNe,dTest,dAnd,dOr,dNot,dAndV,dOrV,dNotV,dIf,dChain,dNil,dCons,dTup,dLst,dCall,dCall0,dCB,dNext,dSeq,dRet,dRetN,dDrop,dBreak,dCont,dIfS,dgNil,dgCons,dTupG,dAsg,diL,diT,diS,diR1,diR2,diE,dYes,dIx,dLen,dInt,dMx,dSum,dAll,dIsi,dIsiT,doNone,doSome,dSl,dApp,dSub,dSet,dEqD,dGet,dGet1,dGet2,LT.dIn,dIsN,dIsB,dIn',dList,dTuple,dRaise,dMaxL,dMinL,dMinS,dRep,asL_lst,asS_lst,asS_tup,asT_tup,flatV',Tr.int.injEq,Tr.bl.injEq,Tr.str.injEq,Tr.lst.injEq,Tr.tup.injEq,Tr.obj.injEq,Option.isSome_some,List.map_cons,List.map_nil,List.length_cons,List.length_nil,List.replicate_succ,List.replicate_zero,List.cons_append,List.nil_append,List.append_nil,List.getElem?_cons_zero,List.getElem?_cons_succ,List.set_cons_zero,List.set_cons_succ,Nat.add_sub_cancel,Nat.reduceAdd,Nat.reduceSub,Option.some.injEq,List.cons.injEq,and_true,true_and,and_false,false_and,exists_eq_left,exists_eq_left',exists_and_left,exists_and_right,exists_eq,exists_eq',LL.if_dec,reduceCtorEq,exists_false,exists_const,or_false,false_or,if_true,if_false,and_assoc,Int.reduceEq,Int.reduceNe,Int.reduceNeg,Int.reduceLT,Int.reduceLE,Int.reduceMul,Int.reduceAdd,Int.reduceSub,Int.reducePow,Int.reduceToNat,Nat.reducePow,Nat.reduceLT,Nat.reduceLeDiff,true_or,or_true,Bool.not_true,Bool.not_false,Bool.false_eq_true,Bool.or_false,Bool.or_true,Bool.true_or,Bool.false_or,decide_true,decide_false,not_true_eq_false,not_false_eq_true,LL.scal_int,LL.scal_bl,LL.scal_str,V.int.injEq,V.bl.injEq,V.str.injEq,Nat.zero_le,forall_const,true_implies,kindT_non,isNonT_non,flatT_non,flatK_non,isBT_non_true,isBT_non_false,toV_non,ofV_non,keyT_non,isT_non_int,isT_non_bool,isT_non_str,isT_non_list,isT_non_tuple,isT_non_dict,kindT_bl,isNonT_bl,flatT_bl,flatK_bl,toV_bl,ofV_bl,keyT_bl,isT_bl_int,isT_bl_bool,isT_bl_str,isT_bl_list,isT_bl_tuple,isT_bl_dict,kindT_int,isNonT_int,flatT_int,flatK_int,isBT_int_true,isBT_int_false,toV_int,ofV_int,keyT_int,isT_int_int,isT_int_bool,isT_int_str,isT_int_list,isT_int_tuple,isT_int_dict,kindT_str,isNonT_str,flatT_str,flatK_str,isBT_str_true,isBT_str_false,toV_str,ofV_str,keyT_str,isT_str_int,isT_str_bool,isT_str_str,isT_str_list,isT_str_tuple,isT_str_dict,kindT_lst,isNonT_lst,flatT_lst,flatK_lst,isBT_lst_true,isBT_lst_false,lenT_lst,keyT_lst,isT_lst_int,isT_lst_bool,isT_lst_str,isT_lst_list,isT_lst_tuple,isT_lst_dict,kindT_tup,isNonT_tup,flatT_tup,flatK_tup,isBT_tup_true,isBT_tup_false,lenT_tup,keyT_tup,isT_tup_int,isT_tup_bool,isT_tup_str,isT_tup_list,isT_tup_tuple,isT_tup_dict,kindT_dic,isNonT_dic,flatT_dic,flatK_dic,isBT_dic_true,isBT_dic_false,lenT_dic,keyT_dic,isT_dic_int,isT_dic_bool,isT_dic_str,isT_dic_list,isT_dic_tuple,isT_dic_dict,kindT_obj,isNonT_obj,flatT_obj,flatK_obj,isBT_obj_true,isBT_obj_false,keyT_obj,kindT_drw,isNonT_drw,flatT_drw,flatK_drw,isBT_drw_true,isBT_drw_false,keyT_drw,kindT_ty,isNonT_ty,flatT_ty,flatK_ty,isBT_ty_true,isBT_ty_false,toV_ty,ofV_ty,keyT_ty,asD_dic,isBT_bl,dAddG_int,dAddG_str,dAddG_tup,dAddG_lst_lst,dAddG_lst_obj,dAddG_obj_lst,dAddG_obj_obj,dSlG_tup,dSlG_str,dSlG_lst,dSlG_obj])
variable {P : Program} {w : World} {K : PySem.W.Frag} {mg : Str → Option Value} {base : Heap}

theorem ok_BadValue (T : Tx K mg) : FnOk P w K mg base CX0 1 (iBV K) T.fd_BadValue P_BadValue (sp_Exc K "BadValue" ["parameter"]) := by
  refine T.F_BadValue.ok sc_BadValue (fun vs H Q E h => ?_) (fun cdv A outer s H vs Q E hr h => ⟨_, PSs.nox (pss_cons (ps_ost (pv 0) (pv 1)) (pss_one (ps_ost (pv 0) (pe_tup (pa_cons pe_str (pa_cons (pe_tup (pa_cons (pv 1) pa_nil)) pa_nil)))))), ?_⟩)
  · obtain ⟨_, us, rfl, hl, _⟩ := h
    match us, hl with
    | [_], _ => rfl
  · obtain ⟨a, us, rfl, hl, ha, q⟩ := h
    obtain ⟨n, rfl⟩ : ∃ n, us = [n] := match us, hl with
      | [n], _ => ⟨n, rfl⟩
    simp only [tSeq, tAsg, tRet, tRetN, tDrop, tNext, tVar, tC, gName, tOp, tUn, rI, rI0, rU, tIfS, tTest, tB, tIf, tAnd, tOr, tNot, tAndV, tOrV, tNotV, tCall, tCons, tNil, tCB, tLst, tTup, tChain, CMul, CDiv, CPow, rEq, rNe, gSub, L2.start, LL.cxK0, LL.cxK1, List.map_cons, List.map_nil, List.length_cons, List.length_nil, List.replicate_succ, List.replicate_zero, List.cons_append, List.nil_append, List.append_nil, List.getElem?_cons_zero, List.getElem?_cons_succ, List.set_cons_zero, List.set_cons_succ, Nat.add_sub_cancel, Nat.reduceAdd, Nat.reduceSub, Option.some.injEq, V.int.injEq, V.bl.injEq, V.ref.injEq, V.str.injEq, List.cons.injEq, and_true, true_and, and_false, false_and, exists_eq_left, exists_eq_left', exists_and_left, exists_and_right, exists_eq, exists_eq', LL.if_dec, reduceCtorEq, exists_false, exists_const, or_false, false_or, if_true, if_false, LL.rInt1, LL.rMx, LL.rMn, and_assoc, Int.reduceNeg, Int.reduceLT, Int.reduceLE, Int.reduceMul, Int.reduceAdd, Int.reduceSub, Int.reducePow, Int.reduceToNat, Nat.reducePow, Nat.reduceLT, true_or, or_true, Bool.not_true, Bool.not_false, Bool.false_eq_true, Bool.or_false, Bool.or_true, Bool.true_or, Bool.false_or, decide_true, decide_false, not_true_eq_false, not_false_eq_true, LL.scal_int, LL.scal_bl, LL.scal_str, LL.isInt, LL.isBl, LL.isStr, LL.isLst, LL.isTup, LL.isDic, P_BadValue, tOst]
    refine ⟨_, T.x_BadValue, T.n_BadValue_parameter, .inl ⟨ha, fun dx hdx hne => ?_⟩⟩
    have e1 : upd (upd H dx (exd dx [("parameter", n)])) a (exo a (aBV K) (some dx)) a = some (exo a (aBV K) (some dx)) := upd_same
    have e2 : upd (upd H dx (exd dx [("parameter", n)])) a (exo a (aBV K) (some dx)) dx = some (exd dx [("parameter", n)]) := by rw [upd_ne hne, upd_same]
    have e3 : ∀ b o, b ≠ a → H b = some o → upd (upd H dx (exd dx [("parameter", n)])) a (exo a (aBV K) (some dx)) b = some o := fun b o hb e => by rw [upd_ne hb, upd_ne (ne_of_none e hdx)]; exact e
    have e4 : ∀ b, upd (upd H dx (exd dx [("parameter", n)])) a (exo a (aBV K) (some dx)) b = none → H b = none := fun b hb => by
      by_cases c : b = a
      · rw [c, upd_same] at hb; cases hb
      · rw [upd_ne c] at hb
        by_cases c2 : b = dx
        · rw [c2]; exact hdx
        · rw [upd_ne c2] at hb; exact hb
    generalize upd (upd H dx (exd dx [("parameter", n)])) a (exo a (aBV K) (some dx)) = H1 at e1 e2 e3 e4 ⊢
    refine ⟨by decide, ?_⟩
    intro p1 np1
    generalize hq : upd H1 p1 _ = H2
    have sH2 : Same H1 H2 := hq ▸ Same.new (Same.refl _) np1
    have ep1 := hq ▸ (upd_same (H := H1) (a := p1))
    clear hq
    replace e1 := sH2 _ _ e1
    replace e2 := sH2 _ _ e2
    refine ⟨by decide, ?_⟩
    intro p2 np2
    generalize hq : upd H2 p2 _ = H3
    have sH3 : Same H2 H3 := hq ▸ Same.new (Same.refl _) np2
    have ep2 := hq ▸ (upd_same (H := H2) (a := p2))
    clear hq
    replace e1 := sH3 _ _ e1
    replace e2 := sH3 _ _ e2
    replace ep1 := sH3 _ _ ep1
    refine ⟨_, T.x_BadValue, T.n_BadValue_told, .inr ⟨dx, e1, _, e2, by simp, ?_⟩⟩
    have f1 := e4 _ np1
    have f2 := e4 _ (sH2.free np2)
    have x1 : p1 ≠ dx := fun z => by rw [z, e2] at ep1; exact (show ¬ exd dx [("parameter", n)] = .tup [n] from exd_tup) (Option.some.inj ep1)
    have x2 : p2 ≠ dx := fun z => by rw [z, e2] at ep2; exact (show ¬ exd dx [("parameter", n)] = .tup [.str "BadValue", .ref p1] from exd_tup) (Option.some.inj ep2)
    refine q dx p1 p2 _ hdx hne (by rw [upd_ne hne.symm]; exact e1) upd_same (by rw [upd_ne x1]; exact ep1) (by rw [upd_ne x2]; exact ep2) f1 f2 (fun b o hb e => ?_)
    rw [upd_ne (ne_of_none e hdx)]
    exact sH3 _ _ (sH2 _ _ (e3 _ _ hb e))

def InR (lo hi : Int) : Tr → Prop
  | .int i => lo ≤ i ∧ i ≤ hi
  | _ => False
instance (lo hi : Int) (t : Tr) : Decidable (InR lo hi t) := by
  cases t <;> unfold InR <;> infer_instance
/-- data of a kind that isinstance knows -/
def isInt : Tr → Bool
  | .int _ => true
  | _ => false
def wp_isint : Pw := fun ts Ω PQ _ => ∃ t, ts = [t] ∧ (kindT t).isSome = true ∧ PQ (.bl (isInt t)) Ω
def badX (n : Tr) : XV := excT "BadValue" ["parameter"] [n]
def wp_need_whole : Pw := fun ts Ω PQ PX => ∃ t lo hi n, ts = [t, .int lo, .int hi, n] ∧ (kindT t).isSome = true ∧ (InR lo hi t → PQ .non Ω) ∧ (¬ InR lo hi t → PX (badX n) Ω)
def wp_need : Pw := fun ts Ω PQ PX => ∃ b n, ts = [.bl b, n] ∧ (b = true → PQ .non Ω) ∧ (b = false → PX (badX n) Ω)
theorem ok_is_whole (T : Tx K mg) : FnOk P w K mg base CX0 1 (He.ga K "is_whole") T.fd_is_whole P_is_whole (spD K wp_isint 1) := by
  refine dok T.F_is_whole sc_is_whole fun cdv A outer s H E hr => ?_
  refine' dokMk (PSs.nox (pss_one (ps_ret ((pe_and (pe_callB (show CallR _ _ (rIsi K) from call_isi) (by rfl) T.z_isinstance (by decide +kernel) (pa_cons (pv 0) (pa_cons (pe_bltn (v := .ty "int") (u := .type "int") (by rfl) T.z_int (by decide +kernel) rfl) pa_nil))) (pe_one (pe_not (pe_callB (show CallR _ _ (rIsi K) from call_isi) (by rfl) T.z_isinstance (by decide +kernel) (pa_cons (pv 0) (pa_cons (pe_bltn (v := .ty "bool") (u := .type "bool") (by rfl) T.z_bool (by decide +kernel) rfl) pa_nil)))))))))) ?sim ?go
  case sim =>
    try simp only [LL.cxK0, LL.cxK1, List.map_cons, List.map_nil]
    repeat' (first | fail "s")
  case go =>
    intro ts Ω PQ PX hl h
    obtain ⟨t, rfl, hk, q⟩ := h
    simp! only [N_is_whole]
    cases t <;> first | (cases hk; done) | (simp! only [and_true]; exact q)
mutual
/-- data, dicts too -/
def dataT : Tr → Bool
  | .obj _ => false
  | .drw => false
  | .ty _ => false
  | .lst ts => dataTs ts
  | .tup ts => dataTs ts
  | .dic ks ts => decide ks.Nodup && (decide (ts.length = ks.length) && dataTs ts)
  | _ => true
def dataTs : List Tr → Bool
  | [] => true
  | t :: ts => dataT t && dataTs ts
end
theorem data_kind {t : Tr} (h : dataT t = true) : (kindT t).isSome = true := by
  cases t <;> first | rfl | cases (show false = true from h)
theorem dataTs_mem : ∀ {ts : List Tr} {t : Tr}, dataTs ts = true → t ∈ ts → dataT t = true
  | u :: us, t, h, m => by
    have h' := Bool.and_eq_true_iff.mp (show (dataT u && dataTs us) = true from h)
    rcases List.mem_cons.mp m with rfl | m
    · exact h'.1
    · exact dataTs_mem h'.2 m
theorem dataTs_of : ∀ {ts : List Tr}, (∀ t ∈ ts, dataT t = true) → dataTs ts = true
  | [], _ => rfl
  | t :: ts, h => by
    show (dataT t && dataTs ts) = true
    rw [h t List.mem_cons_self, dataTs_of fun u hu => h u (List.mem_cons_of_mem _ hu)]
    rfl
theorem data_dic {ks : List Key} {ts : List Tr} (h : dataT (.dic ks ts) = true) : ks.Nodup ∧ ts.length = ks.length ∧ dataTs ts = true := by
  have h1 := Bool.and_eq_true_iff.mp (show (decide ks.Nodup && (decide (ts.length = ks.length) && dataTs ts)) = true from h)
  have h2 := Bool.and_eq_true_iff.mp h1.2
  exact ⟨of_decide_eq_true h1.1, of_decide_eq_true h2.1, h2.2⟩
theorem data_app {as bs : List Tr} (h1 : dataTs as = true) (h2 : dataTs bs = true) : dataTs (as ++ bs) = true := dataTs_of fun t ht => (List.mem_append.mp ht).elim (dataTs_mem h1) (dataTs_mem h2)
theorem data_one {x : Tr} (h1 : dataT x = true) : dataTs [x] = true := dataTs_of fun t ht => by
  rw [List.mem_singleton.mp ht]
  exact h1
theorem data_cons {x : Tr} {ts : List Tr} (h1 : dataT x = true) (h2 : dataTs ts = true) : dataTs (x :: ts) = true := by show (dataT x && dataTs ts) = true; rw [h1, h2]; rfl
theorem data_ints {ns : List Int} : dataTs (ns.map Tr.int) = true := dataTs_of fun t ht => by
  obtain ⟨n, _, rfl⟩ := List.mem_map.mp ht
  rfl
theorem data_sub {ts us : List Tr} (h : dataTs ts = true) (s : ∀ t ∈ us, t ∈ ts) : dataTs us = true := dataTs_of fun t ht => dataTs_mem h (s t ht)
def isFlagT : Tr → Bool
  | .bl _ => true
  | _ => false
def isRowT : Tr → Bool
  | .lst _ => true
  | .tup _ => true
  | _ => false
def wp_flag (f : Tr → Bool) : Pw := fun ts Ω PQ _ => ∃ t, ts = [t] ∧ dataT t = true ∧ PQ (.bl (f t)) Ω
theorem len_S {t : Tr} {Ω : Om} {us : List Tr} (h : asS t Ω = some us) : lenT t Ω = some us.length := by
  obtain ⟨n, e, rfl⟩ := lenT_of h
  exact e
theorem asS_of_asL {t : Tr} {Ω : Om} {us : List Tr} (h : asL t Ω = some us) : asS t Ω = some us := by
  cases t <;> first | exact h | cases h
theorem ok_need (T : Tx K mg) : FnOk P w K mg base (L2.CX P w) 3 (He.ga K "need") T.fd_need P_need (spD K wp_need 2) := by
  refine dok T.F_need sc_need fun cdv A outer s H E hr => ?_
  refine' dokMk ((pss_one (ps_if (pt_not (pt_val (pv 0))) (pss_one (ps_raise rfl (takes_of rfl rfl rfl rfl) (pmk_oex T.x_BadValue T.i_BadValue T.t_BadValue (ok_BadValue T) hr (b_BadValue T) .nil pass0 rfl T.g_BadValue (pa_cons (pv 1) pa_nil)))) pss_nil))) ?sim ?go
  case sim =>
    try simp only [LL.cxK0, LL.cxK1, List.map_cons, List.map_nil]
    repeat' (first | fail "s")
  case go =>
    intro ts Ω PQ PX hl h
    obtain ⟨b, n, rfl, q1, q2⟩ := h
    simp! only [N_need]
    cases b with
    | true => exact q1 rfl
    | false => exact q2 rfl
end K11

namespace K11
open PySem PySem.Spec PyProof.Rows L2 LL LT
local macro_rules | `(tactic| fail "s") => `(tactic| first | (with_reducible first | exact sim_var | exact sim_int | exact sim_bl | exact sim_str | exact sim_non | exact sim_ty | exact sim_ref | exact sim_nil | apply sim_cons | apply sim_op | apply simr_I0 | apply simr_I | exact simr_Eq | exact simr_Ne | exact simr_IxA | exact simr_addG | exact simr_isN | exact simr_notN | exact simr_isB | exact simr_in | exact simr_IxL | exact simr_IxT | exact simr_IxS | exact simr_EqD | exact simr_NeD | exact simr_rep | exact simr_repW | apply sim_un | apply sim_test | apply sim_tB | apply sim_and | apply sim_or | apply sim_not | apply sim_andV | apply sim_orV | apply sim_notV | apply sim_if | apply sim_chain | apply sim_tup | apply sim_lst | apply sim_bor0 | apply sim_bor | apply sim_borS | apply sim_call0 | apply sim_call | apply sim_callS | apply sim_callZ | apply sim_isXT | apply sim_isX | apply sim_xf | apply sim_sortS | apply sim_listRg | apply sim_CB | exact simc_len | exact simc_int | exact simc_isi | exact simc_mx | exact simc_mn | exact simc_sum | exact simc_maxL | exact simc_minL | exact simc_minS | exact simc_all | exact simc_any | exact simc_list | exact simc_tuple | exact simc_isiT | exact simc_strI | exact simc_sortI | exact simc_sortR | apply sim_sl | exact simsl_G | exact simsl_L | exact sim_oNone | apply sim_oSome | apply sim_append | exact sim_newD | apply sim_disp1 | apply sim_dget2 | apply sim_dget1 | apply sim_dget | apply sim_din | apply sim_dnotin | apply sim_lc | apply sim_dc | exact sim_yes | apply sim_iL | apply sim_iT | apply sim_iS | apply sim_iR1 | apply sim_iR2 | apply sim_iE | apply sim_iZ | apply sim_revT | exact gin_name (by decide) | apply gin_tup | exact gin_nil | apply gin_cons | exact mono_name | exact mono_nil | apply mono_cons | apply mono_tup | exact sim_next | apply sim_mk | apply sim_fgl | apply sim_fg | apply sim_seq | apply sim_ret | exact sim_retN | apply sim_drop | exact sim_break | exact sim_cont | apply sim_ifS | apply sim_asg | exact sim_gName | apply sim_gTup | exact sim_gNil | apply sim_gCons | apply sim_gSub | apply sim_for | apply sim_while | apply sim_dput | apply sim_raise | apply sim_tryT0 | apply sim_tryT) | exact fun _ _ => rfl | exact fun _ => rfl | exact fun _ _ _ _ => rfl | intro W | intro a cls d x)
local macro_rules | `(tactic| fail "l") => `(tactic| (simp only [List.length_append,List.length_take,List.length_drop,List.length_map,List.length_cons,List.length_nil,List.length_set,List.length_replicate,List.length_range]; omega))
local macro_rules | `(tactic| fail "r") => `(tactic| first | fail "d" | with_reducible refine fun (_ : _ ≤ 1000000) => ?_ | with_reducible refine Or.inl (fun (_ : _ ≤ 1000000) => ?_) | with_reducible refine lst_in ?_ | with_reducible refine dic_in ?_ | with_reducible refine tk_call (by first | decide | exact tk_big (by omega) (by omega)) fun v h0 h1 => ?_ | with_reducible refine bt_call (by first | decide | exact tk_big (by omega) (by omega)) fun v h0 h1 => ?_ | with_reducible refine ct_call (by first | decide | exact ⟨by omega, by omega, by omega⟩) fun v h0 h1 => ?_ | with_reducible refine LL.itei (fun h => ?_) fun h => ?_ | with_reducible refine pickP (by omega) (by simp only [List.length_cons, List.length_nil]; omega) ?_ | with_reducible refine List.forall_mem_cons.mpr (And.intro ?_ ?_) | with_reducible exact LT.nil_all | with_reducible refine And.intro (by first | (unfold CPow; decide) | omega | rfl) ?_ | with_reducible refine am_call rfl (List.cons_ne_nil _ _) ?_ | refine And.intro (show CMul _ _ from .inl ⟨by omega, by omega⟩) ?_)
local macro_rules | `(tactic| fail "d") => `(tactic| simp only [and_true,dSortI,dSortR,dLstRg,dRepW,dRetF,dForgets,asD_put,dSortS,dDPut,dCallZ,dBor,dBor0,diZ,dRevT,dStrI,dIsXT,dTry0,dTry,dXf,dIsX,dNewD,dDisp1,Prod.mk.injEq,wipeT,Int.toNat_natCast,asL_put,put_same,put_put,Cell.lst.injEq,atI_0,atI_1,atI_2,atI_3,atI_4,atI_5,atI_6,atI_7,atI_8,atI_9,Tr.ty.injEq,tyN_int,tyN_bool,tyN_str,tyN_list,tyN_tuple,tyN_dict,dVar,dC,dName,dOp,dI,dI0,dUn,dU,dEq,dNe,dTest,dAnd,dOr,dNot,dAndV,dOrV,dNotV,dIf,dChain,dNil,dCons,dTup,dLst,dCall,dCall0,dCB,dNext,dSeq,dRet,dRetN,dDrop,dBreak,dCont,dIfS,dgNil,dgCons,dTupG,dAsg,diL,diT,diS,diR1,diR2,diE,dYes,dIx,dLen,dInt,dMx,dSum,dAll,dIsi,dIsiT,doNone,doSome,dSl,dApp,dSub,dSet,dEqD,dGet,dGet1,dGet2,LT.dIn,dIsN,dIsB,dIn',dList,dTuple,dRaise,dMaxL,dMinL,dMinS,dRep,asL_lst,asS_lst,asS_tup,asT_tup,flatV',Tr.int.injEq,Tr.bl.injEq,Tr.str.injEq,Tr.lst.injEq,Tr.tup.injEq,Tr.obj.injEq,Option.isSome_some,List.map_cons,List.map_nil,List.length_cons,List.length_nil,List.replicate_succ,List.replicate_zero,List.cons_append,List.nil_append,List.append_nil,List.getElem?_cons_zero,List.getElem?_cons_succ,List.set_cons_zero,List.set_cons_succ,Nat.add_sub_cancel,Nat.reduceAdd,Nat.reduceSub,Option.some.injEq,List.cons.injEq,and_true,true_and,and_false,false_and,exists_eq_left,exists_eq_left',exists_and_left,exists_and_right,exists_eq,exists_eq',LL.if_dec,reduceCtorEq,exists_false,exists_const,or_false,false_or,if_true,if_false,and_assoc,Int.reduceEq,Int.reduceNe,Int.reduceNeg,Int.reduceLT,Int.reduceLE,Int.reduceMul,Int.reduceAdd,Int.reduceSub,Int.reducePow,Int.reduceToNat,Nat.reducePow,Nat.reduceLT,Nat.reduceLeDiff,true_or,or_true,Bool.not_true,Bool.not_false,Bool.false_eq_true,Bool.or_false,Bool.or_true,Bool.true_or,Bool.false_or,decide_true,decide_false,not_true_eq_false,not_false_eq_true,LL.scal_int,LL.scal_bl,LL.scal_str,V.int.injEq,V.bl.injEq,V.str.injEq,Nat.zero_le,forall_const,true_implies,kindT_non,isNonT_non,flatT_non,flatK_non,isBT_non_true,isBT_non_false,toV_non,ofV_non,keyT_non,isT_non_int,isT_non_bool,isT_non_str,isT_non_list,isT_non_tuple,isT_non_dict,kindT_bl,isNonT_bl,flatT_bl,flatK_bl,toV_bl,ofV_bl,keyT_bl,isT_bl_int,isT_bl_bool,isT_bl_str,isT_bl_list,isT_bl_tuple,isT_bl_dict,kindT_int,isNonT_int,flatT_int,flatK_int,isBT_int_true,isBT_int_false,toV_int,ofV_int,keyT_int,isT_int_int,isT_int_bool,isT_int_str,isT_int_list,isT_int_tuple,isT_int_dict,kindT_str,isNonT_str,flatT_str,flatK_str,isBT_str_true,isBT_str_false,toV_str,ofV_str,keyT_str,isT_str_int,isT_str_bool,isT_str_str,isT_str_list,isT_str_tuple,isT_str_dict,kindT_lst,isNonT_lst,flatT_lst,flatK_lst,isBT_lst_true,isBT_lst_false,lenT_lst,keyT_lst,isT_lst_int,isT_lst_bool,isT_lst_str,isT_lst_list,isT_lst_tuple,isT_lst_dict,kindT_tup,isNonT_tup,flatT_tup,flatK_tup,isBT_tup_true,isBT_tup_false,lenT_tup,keyT_tup,isT_tup_int,isT_tup_bool,isT_tup_str,isT_tup_list,isT_tup_tuple,isT_tup_dict,kindT_dic,isNonT_dic,flatT_dic,flatK_dic,isBT_dic_true,isBT_dic_false,lenT_dic,keyT_dic,isT_dic_int,isT_dic_bool,isT_dic_str,isT_dic_list,isT_dic_tuple,isT_dic_dict,kindT_obj,isNonT_obj,flatT_obj,flatK_obj,isBT_obj_true,isBT_obj_false,keyT_obj,kindT_drw,isNonT_drw,flatT_drw,flatK_drw,isBT_drw_true,isBT_drw_false,keyT_drw,kindT_ty,isNonT_ty,flatT_ty,flatK_ty,isBT_ty_true,isBT_ty_false,toV_ty,ofV_ty,keyT_ty,asD_dic,isBT_bl,dAddG_int,dAddG_str,dAddG_tup,dAddG_lst_lst,dAddG_lst_obj,dAddG_obj_lst,dAddG_obj_obj,dSlG_tup,dSlG_str,dSlG_lst,dSlG_obj])
local macro_rules | `(tactic| simp! only [$xs,*]) => `(tactic| try simp only [$xs,*,dSortI,dSortR,dLstRg,dRepW,dRetF,dForgets,asD_put,dSortS,dDPut,dCallZ,dBor,dBor0,diZ,dRevT,dStrI,dIsXT,dTry0,dTry,dXf,dIsX,dNewD,dDisp1,Prod.mk.injEq,wipeT,Int.toNat_natCast,asL_put,put_same,put_put,Cell.lst.injEq,atI_0,atI_1,atI_2,atI_3,atI_4,atI_5,atI_6,atI_7,atI_8,atI_9,Tr.ty.injEq,tyN_int,tyN_bool,tyN_str,tyN_list,tyN_tuple,tyN_dict,dVar,dC,dName,dOp,dI,dI0,dUn,dU,dEq,dNe,dTest,dAnd,dOr,dNot,dAndV,dOrV,dNotV,dIf,dChain,dNil,dCons,dTup,dLst,dCall,dCall0,dCB,dNext,dSeq,dRet,dRetN,dDrop,dBreak,dCont,dIfS,dgNil,dgCons,dTupG,dAsg,diL,diT,diS,diR1,diR2,diE,dYes,dIx,dLen,dInt,dMx,dSum,dAll,dIsi,dIsiT,doNone,doSome,dSl,dApp,dSub,dSet,dEqD,dGet,dGet1,dGet2,LT.dIn,dIsN,dIsB,dIn',dList,dTuple,dRaise,dMaxL,dMinL,dMinS,dRep,asL_lst,asS_lst,asS_tup,asT_tup,flatV',Tr.int.injEq,Tr.bl.injEq,Tr.str.injEq,Tr.lst.injEq,Tr.tup.injEq,Tr.obj.injEq,Option.isSome_some,List.map_cons,List.map_nil,List.length_cons,List.length_nil,List.replicate_succ,List.replicate_zero,List.cons_append,List.nil_append,List.append_nil,List.getElem?_cons_zero,List.getElem?_cons_succ,List.set_cons_zero,List.set_cons_succ,Nat.add_sub_cancel,Nat.reduceAdd,Nat.reduceSub,Option.some.injEq,List.cons.injEq,and_true,true_and,and_false,false_and,exists_eq_left,exists_eq_left',exists_and_left,exists_and_right,exists_eq,exists_eq',LL.if_dec,reduceCtorEq,exists_false,exists_const,or_false,false_or,if_true,if_false,and_assoc,Int.reduceEq,Int.reduceNe,Int.reduceNeg,Int.reduceLT,Int.reduceLE,Int.reduceMul,Int.reduceAdd,Int.reduceSub,Int.reducePow,Int.reduceToNat,Nat.reducePow,Nat.reduceLT,Nat.reduceLeDiff,true_or,or_true,Bool.not_true,Bool.not_false,Bool.false_eq_true,Bool.or_false,Bool.or_true,Bool.true_or,Bool.false_or,decide_true,decide_false,not_true_eq_false,not_false_eq_true,LL.scal_int,LL.scal_bl,LL.scal_str,V.int.injEq,V.bl.injEq,V.str.injEq,Nat.zero_le,forall_const,true_implies,kindT_non,isNonT_non,flatT_non,flatK_non,isBT_non_true,isBT_non_false,toV_non,ofV_non,keyT_non,isT_non_int,isT_non_bool,isT_non_str,isT_non_list,isT_non_tuple,isT_non_dict,kindT_bl,isNonT_bl,flatT_bl,flatK_bl,toV_bl,ofV_bl,keyT_bl,isT_bl_int,isT_bl_bool,isT_bl_str,isT_bl_list,isT_bl_tuple,isT_bl_dict,kindT_int,isNonT_int,flatT_int,flatK_int,isBT_int_true,isBT_int_false,toV_int,ofV_int,keyT_int,isT_int_int,isT_int_bool,isT_int_str,isT_int_list,isT_int_tuple,isT_int_dict,kindT_str,isNonT_str,flatT_str,flatK_str,isBT_str_true,isBT_str_false,toV_str,ofV_str,keyT_str,isT_str_int,isT_str_bool,isT_str_str,isT_str_list,isT_str_tuple,isT_str_dict,kindT_lst,isNonT_lst,flatT_lst,flatK_lst,isBT_lst_true,isBT_lst_false,lenT_lst,keyT_lst,isT_lst_int,isT_lst_bool,isT_lst_str,isT_lst_list,isT_lst_tuple,isT_lst_dict,kindT_tup,isNonT_tup,flatT_tup,flatK_tup,isBT_tup_true,isBT_tup_false,lenT_tup,keyT_tup,isT_tup_int,isT_tup_bool,isT_tup_str,isT_tup_list,isT_tup_tuple,isT_tup_dict,kindT_dic,isNonT_dic,flatT_dic,flatK_dic,isBT_dic_true,isBT_dic_false,lenT_dic,keyT_dic,isT_dic_int,isT_dic_bool,isT_dic_str,isT_dic_list,isT_dic_tuple,isT_dic_dict,kindT_obj,isNonT_obj,flatT_obj,flatK_obj,isBT_obj_true,isBT_obj_false,keyT_obj,kindT_drw,isNonT_drw,flatT_drw,flatK_drw,isBT_drw_true,isBT_drw_false,keyT_drw,kindT_ty,isNonT_ty,flatT_ty,flatK_ty,isBT_ty_true,isBT_ty_false,toV_ty,ofV_ty,keyT_ty,asD_dic,isBT_bl,dAddG_int,dAddG_str,dAddG_tup,dAddG_lst_lst,dAddG_lst_obj,dAddG_obj_lst,dAddG_obj_obj,dSlG_tup,dSlG_str,dSlG_lst,dSlG_obj])
variable {P : Program} {w : World} {K : PySem.W.Frag} {mg : Str → Option Value} {base : Heap}

mutual
def depTr2 : Tr → Nat
  | .lst ts => depTrs2 ts + 1
  | .tup ts => depTrs2 ts + 1
  | .dic _ ts => depTrs2 ts + 1
  | _ => 0
def depTrs2 : List Tr → Nat
  | [] => 0
  | t :: ts => max (depTr2 t) (depTrs2 ts)
end
theorem depTrs2_mem : ∀ {ts : List Tr} {t : Tr}, t ∈ ts → depTr2 t ≤ depTrs2 ts
  | u :: us, t, h => by
    rcases List.mem_cons.mp h with rfl | h
    · exact Nat.le_max_left _ _
    · exact Nat.le_trans (depTrs2_mem h) (Nat.le_max_right _ _)
theorem depTrs2_of {n : Nat} : ∀ {ts : List Tr}, (∀ t ∈ ts, depTr2 t ≤ n) → depTrs2 ts ≤ n
  | [], _ => Nat.zero_le _
  | t :: ts, h => Nat.max_le.mpr ⟨h t List.mem_cons_self, depTrs2_of fun u hu => h u (List.mem_cons_of_mem _ hu)⟩
/-- _law_same of equal data -/
def wp_same (n : Nat) : Pw := fun ts Ω PQ _ => ∃ t, ts = [t, t] ∧ dataT t = true ∧ depTr2 t < n ∧ PQ (.bl true) Ω
theorem sm_call {t : Tr} {n : Nat} {Ω : Om} {Q : PT'} {X : PXt} (h1 : dataT t = true) (h2 : depTr2 t < n) (q : Q (.bl true) Ω) : wp_same n [t, t] Ω Q X := ⟨t, rfl, h1, h2, q⟩
theorem fun_false {P : Program} {w : World} {K : PySem.W.Frag} {mg : Str → Option Value} {base : Heap} {CX : CXT} {k : Nat} {f : Addr} {fd : FuncData} {ps : List Str} {Pd : Pw} {n : Nat} (h : ∀ ts Ω Q X, ¬ Pd ts Ω Q X) (hn : n = ps.length) : FnOk P w K mg base CX k f fd ps (spD K Pd n) :=
  ⟨fun vs H Q E ⟨g, Ω, ts, PQ, PX, hl, d, _⟩ => by rw [d.len, hl, hn], fun A outer s H args us vs Q E hr he hb hv ⟨g, Ω, ts, PQ, PX, hl, d, o, p, _⟩ => absurd p (h _ _ _ _)⟩
theorem ok_law_same (T : Tx K mg) : ∀ n : Nat, FnOk P w K mg base CX0 (n + 1) (He.ga K "_law_same") T.fd_law_same P_law_same (spD K (wp_same n) 2) := by
  intro n
  induction n with
  | zero => exact fun_false (fun ts Ω Q X ⟨_, _, _, h, _⟩ => absurd h (Nat.not_lt_zero _)) rfl
  | succ n ih =>
    refine dok T.F_law_same sc_law_same fun cdv A outer s H E hr => ?_
    refine' dokMk (PSs.nox (pss_cons (ps_if (PW.pt (pw_or (pt_cmpR op_isN1 (pv 0) (pe_non) (nomark _)) (pw_or1 (pt_cmpR op_isN1 (pv 1) (pe_non) (nomark _))))) (pss_one (ps_ret ((pe_and (pe_cmpR op_isN1 (pv 0) (pe_non) (nomark _)) (pe_one (pe_cmpR op_isN1 (pv 1) (pe_non) (nomark _))))))) pss_nil) (pss_cons (ps_if (PW.pt (pw_or (pt_val (pe_callB (show CallR _ _ (rIsi K) from call_isi) (by rfl) T.z_isinstance (by decide +kernel) (pa_cons (pv 0) (pa_cons (pe_bltn (v := .ty "bool") (u := .type "bool") (by rfl) T.z_bool (by decide +kernel) rfl) pa_nil)))) (pw_or1 (pt_val (pe_callB (show CallR _ _ (rIsi K) from call_isi) (by rfl) T.z_isinstance (by decide +kernel) (pa_cons (pv 1) (pa_cons (pe_bltn (v := .ty "bool") (u := .type "bool") (by rfl) T.z_bool (by decide +kernel) rfl) pa_nil))))))) (pss_one (ps_ret ((pe_and (pe_callB (show CallR _ _ (rIsi K) from call_isi) (by rfl) T.z_isinstance (by decide +kernel) (pa_cons (pv 0) (pa_cons (pe_bltn (v := .ty "bool") (u := .type "bool") (by rfl) T.z_bool (by decide +kernel) rfl) pa_nil))) (pe_and (pe_callB (show CallR _ _ (rIsi K) from call_isi) (by rfl) T.z_isinstance (by decide +kernel) (pa_cons (pv 1) (pa_cons (pe_bltn (v := .ty "bool") (u := .type "bool") (by rfl) T.z_bool (by decide +kernel) rfl) pa_nil))) (pe_one (pe_cmpR op_eq (pv 0) (pv 1) (nomark _)))))))) pss_nil) (pss_cons (ps_if (pt_val (pe_callB (show CallR _ _ (rIsi K) from call_isi) (by rfl) T.z_isinstance (by decide +kernel) (pa_cons (pv 1) (pa_cons (pe_bltn (v := .ty "int") (u := .type "int") (by rfl) T.z_int (by decide +kernel) rfl) pa_nil)))) (pss_one (ps_ret ((pe_and (pe_callB (show CallR _ _ (rIsi K) from call_isi) (by rfl) T.z_isinstance (by decide +kernel) (pa_cons (pv 0) (pa_cons (pe_bltn (v := .ty "int") (u := .type "int") (by rfl) T.z_int (by decide +kernel) rfl) pa_nil))) (pe_one (pe_cmpR op_eq (pv 0) (pv 1) (nomark _))))))) pss_nil) (pss_cons (ps_if (pt_val (pe_callB (show CallR _ _ (rIsi K) from call_isi) (by rfl) T.z_isinstance (by decide +kernel) (pa_cons (pv 1) (pa_cons (pe_bltn (v := .ty "str") (u := .type "str") (by rfl) T.z_str (by decide +kernel) rfl) pa_nil)))) (pss_one (ps_ret ((pe_and (pe_callB (show CallR _ _ (rIsi K) from call_isi) (by rfl) T.z_isinstance (by decide +kernel) (pa_cons (pv 0) (pa_cons (pe_bltn (v := .ty "str") (u := .type "str") (by rfl) T.z_str (by decide +kernel) rfl) pa_nil))) (pe_one (pe_cmpR op_eq (pv 0) (pv 1) (nomark _))))))) pss_nil) (pss_cons (ps_if (pt_val (pe_callB (show CallR _ _ (rIsi K) from call_isi) (by rfl) T.z_isinstance (by decide +kernel) (pa_cons (pv 1) (pa_cons (pe_bltn (v := .ty "dict") (u := .type "dict") (by rfl) T.z_dict (by decide +kernel) rfl) pa_nil)))) (pss_cons (ps_if (PW.pt (pw_or (pt_not (pt_val (pe_callB (show CallR _ _ (rIsi K) from call_isi) (by rfl) T.z_isinstance (by decide +kernel) (pa_cons (pv 0) (pa_cons (pe_bltn (v := .ty "dict") (u := .type "dict") (by rfl) T.z_dict (by decide +kernel) rfl) pa_nil))))) (pw_or1 (pt_cmpR op_ne (pe_callB (show CallR _ _ (LT.rLenS K) from LT.call_lenS) (by rfl) T.z_len (by decide +kernel) (pa_cons (pv 0) pa_nil)) (pe_callB (show CallR _ _ (LT.rLenS K) from LT.call_lenS) (by rfl) T.z_len (by decide +kernel) (pa_cons (pv 1) pa_nil)) (nomark _))))) (pss_one (ps_ret (pe_bl))) pss_nil) (pss_cons (ps_for PassesOwn.never rfl (LT.pi_seqK (K := K) rfl (pe_callTy (show CallR _ _ (LT.rList K) from LT.call_list rfl) (by rfl) T.z_list (by decide +kernel) (pa_cons (pv 1) pa_nil))) (pg_name (i := 3) sc_law_same.nd rfl (Or.inl rfl)) (pss_one (ps_if (PW.pt (pw_or (pt_cmp (pc_dnotin (hu_of hr) (pv 3) (pv 0))) (pw_or1 (pt_not (pt_val (pe_call ih hr rfl T.g_law_same T.F_law_same.kp (b_law_same T) .nil pass0 (pa_cons (pe_dget (hu_of hr) (pv 0) (pv 3) (fun _ _ => rfl)) (pa_cons (pe_dget (hu_of hr) (pv 1) (pv 3) (fun _ _ => rfl)) pa_nil)))))))) (pss_one (ps_ret (pe_bl))) pss_nil))) (pss_one (ps_ret (pe_bl))))) pss_nil) (pss_cons (ps_if (pt_cmpR op_ne (pe_callB (show CallR _ _ (rIsi K) from call_isi) (by rfl) T.z_isinstance (by decide +kernel) (pa_cons (pv 1) (pa_cons (pe_bltn (v := .ty "list") (u := .type "list") (by rfl) T.z_list (by decide +kernel) rfl) pa_nil))) (pe_callB (show CallR _ _ (rIsi K) from call_isi) (by rfl) T.z_isinstance (by decide +kernel) (pa_cons (pv 0) (pa_cons (pe_bltn (v := .ty "list") (u := .type "list") (by rfl) T.z_list (by decide +kernel) rfl) pa_nil))) (nomark _)) (pss_one (ps_ret (pe_bl))) pss_nil) (pss_cons (ps_if (pt_cmpR op_ne (pe_callB (show CallR _ _ (rIsi K) from call_isi) (by rfl) T.z_isinstance (by decide +kernel) (pa_cons (pv 1) (pa_cons (pe_bltn (v := .ty "tuple") (u := .type "tuple") (by rfl) T.z_tuple (by decide +kernel) rfl) pa_nil))) (pe_callB (show CallR _ _ (rIsi K) from call_isi) (by rfl) T.z_isinstance (by decide +kernel) (pa_cons (pv 0) (pa_cons (pe_bltn (v := .ty "tuple") (u := .type "tuple") (by rfl) T.z_tuple (by decide +kernel) rfl) pa_nil))) (nomark _)) (pss_one (ps_ret (pe_bl))) pss_nil) (pss_cons (ps_if (PW.pt (pw_or (PW.pt (pw_and (pt_not (pt_val (pe_callB (show CallR _ _ (rIsi K) from call_isi) (by rfl) T.z_isinstance (by decide +kernel) (pa_cons (pv 1) (pa_cons (pe_bltn (v := .ty "list") (u := .type "list") (by rfl) T.z_list (by decide +kernel) rfl) pa_nil))))) (pw_and1 (pt_not (pt_val (pe_callB (show CallR _ _ (rIsi K) from call_isi) (by rfl) T.z_isinstance (by decide +kernel) (pa_cons (pv 1) (pa_cons (pe_bltn (v := .ty "tuple") (u := .type "tuple") (by rfl) T.z_tuple (by decide +kernel) rfl) pa_nil)))))))) (pw_or1 (pt_cmpR op_ne (pe_callB (show CallR _ _ (LT.rLenS K) from LT.call_lenS) (by rfl) T.z_len (by decide +kernel) (pa_cons (pv 0) pa_nil)) (pe_callB (show CallR _ _ (LT.rLenS K) from LT.call_lenS) (by rfl) T.z_len (by decide +kernel) (pa_cons (pv 1) pa_nil)) (nomark _))))) (pss_one (ps_ret (pe_bl))) pss_nil) (pss_cons (ps_for PassesOwn.never rfl (pi_range1 rfl T.z_range (pa_cons (pe_callB (show CallR _ _ (LT.rLenS K) from LT.call_lenS) (by rfl) T.z_len (by decide +kernel) (pa_cons (pv 1) pa_nil)) pa_nil)) (pg_name (i := 2) sc_law_same.nd rfl (Or.inl rfl)) (pss_one (ps_if (pt_not (pt_val (pe_call ih hr rfl T.g_law_same T.F_law_same.kp (b_law_same T) .nil pass0 (pa_cons (pe_ix (show IxR _ (LL.rIxA K) from LL.ix_A) (pv 0) (pv 2) (fun _ _ => rfl)) (pa_cons (pe_ix (show IxR _ (LL.rIxA K) from LL.ix_A) (pv 1) (pv 2) (fun _ _ => rfl)) pa_nil))))) (pss_one (ps_ret (pe_bl))) pss_nil))) (pss_one (ps_ret (pe_bl))))))))))))) ?sim ?go
    case sim =>
      try simp only [LL.cxK0, LL.cxK1, List.map_cons, List.map_nil]
      repeat' (first | fail "s")
    case go =>
      intro ts Ω PQ PX hl h
      obtain ⟨t, rfl, hd, hdep, q⟩ := h
      cases t with
      | lst bs =>
          simp! only [N_law_same]
          intro hz hz'
          refine for_R1 (n := (bs.length : Nat)) (Ω1 := Ω) (fun P p => ?_) (by omega) (fun i ρ' Ω' => Ω' = Ω ∧ ∃ x y, ρ' = [some (.lst bs), some (.lst bs), x, y]) ⟨rfl, _, _, rfl⟩ ?_ ?_
          · simp! only [and_true]
            exact fun _ => p
          · rintro i ρ' Ω' hi ⟨rfl, x, y, rfl⟩
            obtain ⟨u, hu⟩ : ∃ u, bs[i]? = some u := ⟨_, List.getElem?_eq_getElem (show i < bs.length by omega)⟩
            have e1 := atI_nat hu
            simp! only [e1]
            have h1 := depTrs2_mem (List.mem_of_getElem? hu)
            have h2 : depTrs2 bs + 1 < n + 1 := hdep
            refine ⟨u, rfl, dataTs_mem hd (List.mem_of_getElem? hu), by omega, ?_⟩
            simp! only [and_true]
          · rintro ρ' Ω' ⟨rfl, x, y, rfl⟩
            simp! only [and_true]
            exact q
      | tup bs =>
          simp! only [N_law_same]
          intro hz hz'
          refine for_R1 (n := (bs.length : Nat)) (Ω1 := Ω) (fun P p => ?_) (by omega) (fun i ρ' Ω' => Ω' = Ω ∧ ∃ x y, ρ' = [some (.tup bs), some (.tup bs), x, y]) ⟨rfl, _, _, rfl⟩ ?_ ?_
          · simp! only [and_true]
            exact fun _ => p
          · rintro i ρ' Ω' hi ⟨rfl, x, y, rfl⟩
            obtain ⟨u, hu⟩ : ∃ u, bs[i]? = some u := ⟨_, List.getElem?_eq_getElem (show i < bs.length by omega)⟩
            have e1 := atI_nat hu
            simp! only [e1]
            have h1 := depTrs2_mem (List.mem_of_getElem? hu)
            have h2 : depTrs2 bs + 1 < n + 1 := hdep
            refine ⟨u, rfl, dataTs_mem hd (List.mem_of_getElem? hu), by omega, ?_⟩
            simp! only [and_true]
          · rintro ρ' Ω' ⟨rfl, x, y, rfl⟩
            simp! only [and_true]
            exact q
      | dic ks us =>
          obtain ⟨nd, hkl, hdd⟩ := data_dic hd
          simp! only [N_law_same]
          intro hz hz'
          refine for_Se (t := .lst (ks.map kT)) (ts := ks.map kT) (Ω1 := Ω) (fun P p => ?_) rfl (fun i ρ' Ω' => Ω' = Ω ∧ ∃ x y, ρ' = [some (.dic ks us), some (.dic ks us), x, y]) ⟨rfl, _, _, rfl⟩ (fun _ _ _ w => trivial) ?_ ?_
          · simp! only [and_true]
            exact .inr fun _ => .inl p
          · rintro hz2 i x ρ' Ω' hx ⟨rfl, x1, y1, rfl⟩
            rw [List.getElem?_map] at hx
            obtain ⟨k, hk, rfl⟩ := Option.map_eq_some_iff.mp hx
            have hi := (List.getElem?_eq_some_iff.mp hk).1
            obtain ⟨u, hu⟩ : ∃ u, us[i]? = some u := ⟨_, List.getElem?_eq_getElem (by omega)⟩
            have ev := valT_at nd hk hu
            have ek : keyT (kT k) = some k := by cases k <;> rfl
            simp! only [ev, ek]
            have h1 := depTrs2_mem (List.mem_of_getElem? hu)
            have h2 : depTrs2 us + 1 < n + 1 := hdep
            refine ⟨u, rfl, dataTs_mem hdd (List.mem_of_getElem? hu), by omega, ?_⟩
            simp! only [and_true]
          · rintro ρ' Ω' ⟨rfl, x, y, rfl⟩
            simp! only [and_true]
            exact q
      | _ => first | (cases (show false = true from hd); done) | (simp! only [N_law_same]; exact q)
end K11

namespace K11
open PySem PySem.Spec PyProof.Rows L2 LL LT
local macro_rules | `(tactic| fail "s") => `(tactic| first | (with_reducible first | exact sim_var | exact sim_int | exact sim_bl | exact sim_str | exact sim_non | exact sim_ty | exact sim_ref | exact sim_nil | apply sim_cons | apply sim_op | apply simr_I0 | apply simr_I | exact simr_Eq | exact simr_Ne | exact simr_IxA | exact simr_addG | exact simr_isN | exact simr_notN | exact simr_isB | exact simr_in | exact simr_IxL | exact simr_IxT | exact simr_IxS | exact simr_EqD | exact simr_NeD | exact simr_rep | exact simr_repW | apply sim_un | apply sim_test | apply sim_tB | apply sim_and | apply sim_or | apply sim_not | apply sim_andV | apply sim_orV | apply sim_notV | apply sim_if | apply sim_chain | apply sim_tup | apply sim_lst | apply sim_bor0 | apply sim_bor | apply sim_borS | apply sim_call0 | apply sim_call | apply sim_callS | apply sim_callZ | apply sim_isXT | apply sim_isX | apply sim_xf | apply sim_sortS | apply sim_listRg | apply sim_CB | exact simc_len | exact simc_int | exact simc_isi | exact simc_mx | exact simc_mn | exact simc_sum | exact simc_maxL | exact simc_minL | exact simc_minS | exact simc_all | exact simc_any | exact simc_list | exact simc_tuple | exact simc_isiT | exact simc_strI | exact simc_sortI | exact simc_sortR | apply sim_sl | exact simsl_G | exact simsl_L | exact sim_oNone | apply sim_oSome | apply sim_append | exact sim_newD | apply sim_disp1 | apply sim_dget2 | apply sim_dget1 | apply sim_dget | apply sim_din | apply sim_dnotin | apply sim_lc | apply sim_dc | exact sim_yes | apply sim_iL | apply sim_iT | apply sim_iS | apply sim_iR1 | apply sim_iR2 | apply sim_iE | apply sim_iZ | apply sim_revT | exact gin_name (by decide) | apply gin_tup | exact gin_nil | apply gin_cons | exact mono_name | exact mono_nil | apply mono_cons | apply mono_tup | exact sim_next | apply sim_mk | apply sim_fgl | apply sim_fg | apply sim_seq | apply sim_ret | exact sim_retN | apply sim_drop | exact sim_break | exact sim_cont | apply sim_ifS | apply sim_asg | exact sim_gName | apply sim_gTup | exact sim_gNil | apply sim_gCons | apply sim_gSub | apply sim_for | apply sim_while | apply sim_dput | apply sim_raise | apply sim_tryT0 | apply sim_tryT) | exact fun _ _ => rfl | exact fun _ => rfl | exact fun _ _ _ _ => rfl | intro W | intro a cls d x)
local macro_rules | `(tactic| fail "l") => `(tactic| (simp only [List.length_append,List.length_take,List.length_drop,List.length_map,List.length_cons,List.length_nil,List.length_set,List.length_replicate,List.length_range]; omega))
local macro_rules | `(tactic| fail "r") => `(tactic| first | fail "d" | with_reducible refine fun (_ : _ ≤ 1000000) => ?_ | with_reducible refine Or.inl (fun (_ : _ ≤ 1000000) => ?_) | with_reducible refine lst_in ?_ | with_reducible refine dic_in ?_ | with_reducible refine tk_call (by first | decide | exact tk_big (by omega) (by omega)) fun v h0 h1 => ?_ | with_reducible refine bt_call (by first | decide | exact tk_big (by omega) (by omega)) fun v h0 h1 => ?_ | with_reducible refine ct_call (by first | decide | exact ⟨by omega, by omega, by omega⟩) fun v h0 h1 => ?_ | with_reducible refine LL.itei (fun h => ?_) fun h => ?_ | with_reducible refine pickP (by omega) (by simp only [List.length_cons, List.length_nil]; omega) ?_ | with_reducible refine List.forall_mem_cons.mpr (And.intro ?_ ?_) | with_reducible exact LT.nil_all | with_reducible refine And.intro (by first | (unfold CPow; decide) | omega | rfl) ?_ | with_reducible refine am_call rfl (List.cons_ne_nil _ _) ?_ | refine And.intro (show CMul _ _ from .inl ⟨by omega, by omega⟩) ?_)
local macro_rules | `(tactic| fail "d") => `(tactic| simp only [and_true,dSortI,dSortR,dLstRg,dRepW,dRetF,dForgets,asD_put,dSortS,dDPut,dCallZ,dBor,dBor0,diZ,dRevT,dStrI,dIsXT,dTry0,dTry,dXf,dIsX,dNewD,dDisp1,Prod.mk.injEq,wipeT,Int.toNat_natCast,asL_put,put_same,put_put,Cell.lst.injEq,atI_0,atI_1,atI_2,atI_3,atI_4,atI_5,atI_6,atI_7,atI_8,atI_9,Tr.ty.injEq,tyN_int,tyN_bool,tyN_str,tyN_list,tyN_tuple,tyN_dict,dVar,dC,dName,dOp,dI,dI0,dUn,dU,dEq,dNe,dTest,dAnd,dOr,dNot,dAndV,dOrV,dNotV,dIf,dChain,dNil,dCons,dTup,dLst,dCall,dCall0,dCB,dNext,dSeq,dRet,dRetN,dDrop,dBreak,dCont,dIfS,dgNil,dgCons,dTupG,dAsg,diL,diT,diS,diR1,diR2,diE,dYes,dIx,dLen,dInt,dMx,dSum,dAll,dIsi,dIsiT,doNone,doSome,dSl,dApp,dSub,dSet,dEqD,dGet,dGet1,dGet2,LT.dIn,dIsN,dIsB,dIn',dList,dTuple,dRaise,dMaxL,dMinL,dMinS,dRep,asL_lst,asS_lst,asS_tup,asT_tup,flatV',Tr.int.injEq,Tr.bl.injEq,Tr.str.injEq,Tr.lst.injEq,Tr.tup.injEq,Tr.obj.injEq,Option.isSome_some,List.map_cons,List.map_nil,List.length_cons,List.length_nil,List.replicate_succ,List.replicate_zero,List.cons_append,List.nil_append,List.append_nil,List.getElem?_cons_zero,List.getElem?_cons_succ,List.set_cons_zero,List.set_cons_succ,Nat.add_sub_cancel,Nat.reduceAdd,Nat.reduceSub,Option.some.injEq,List.cons.injEq,and_true,true_and,and_false,false_and,exists_eq_left,exists_eq_left',exists_and_left,exists_and_right,exists_eq,exists_eq',LL.if_dec,reduceCtorEq,exists_false,exists_const,or_false,false_or,if_true,if_false,and_assoc,Int.reduceEq,Int.reduceNe,Int.reduceNeg,Int.reduceLT,Int.reduceLE,Int.reduceMul,Int.reduceAdd,Int.reduceSub,Int.reducePow,Int.reduceToNat,Nat.reducePow,Nat.reduceLT,Nat.reduceLeDiff,true_or,or_true,Bool.not_true,Bool.not_false,Bool.false_eq_true,Bool.or_false,Bool.or_true,Bool.true_or,Bool.false_or,decide_true,decide_false,not_true_eq_false,not_false_eq_true,LL.scal_int,LL.scal_bl,LL.scal_str,V.int.injEq,V.bl.injEq,V.str.injEq,Nat.zero_le,forall_const,true_implies,kindT_non,isNonT_non,flatT_non,flatK_non,isBT_non_true,isBT_non_false,toV_non,ofV_non,keyT_non,isT_non_int,isT_non_bool,isT_non_str,isT_non_list,isT_non_tuple,isT_non_dict,kindT_bl,isNonT_bl,flatT_bl,flatK_bl,toV_bl,ofV_bl,keyT_bl,isT_bl_int,isT_bl_bool,isT_bl_str,isT_bl_list,isT_bl_tuple,isT_bl_dict,kindT_int,isNonT_int,flatT_int,flatK_int,isBT_int_true,isBT_int_false,toV_int,ofV_int,keyT_int,isT_int_int,isT_int_bool,isT_int_str,isT_int_list,isT_int_tuple,isT_int_dict,kindT_str,isNonT_str,flatT_str,flatK_str,isBT_str_true,isBT_str_false,toV_str,ofV_str,keyT_str,isT_str_int,isT_str_bool,isT_str_str,isT_str_list,isT_str_tuple,isT_str_dict,kindT_lst,isNonT_lst,flatT_lst,flatK_lst,isBT_lst_true,isBT_lst_false,lenT_lst,keyT_lst,isT_lst_int,isT_lst_bool,isT_lst_str,isT_lst_list,isT_lst_tuple,isT_lst_dict,kindT_tup,isNonT_tup,flatT_tup,flatK_tup,isBT_tup_true,isBT_tup_false,lenT_tup,keyT_tup,isT_tup_int,isT_tup_bool,isT_tup_str,isT_tup_list,isT_tup_tuple,isT_tup_dict,kindT_dic,isNonT_dic,flatT_dic,flatK_dic,isBT_dic_true,isBT_dic_false,lenT_dic,keyT_dic,isT_dic_int,isT_dic_bool,isT_dic_str,isT_dic_list,isT_dic_tuple,isT_dic_dict,kindT_obj,isNonT_obj,flatT_obj,flatK_obj,isBT_obj_true,isBT_obj_false,keyT_obj,kindT_drw,isNonT_drw,flatT_drw,flatK_drw,isBT_drw_true,isBT_drw_false,keyT_drw,kindT_ty,isNonT_ty,flatT_ty,flatK_ty,isBT_ty_true,isBT_ty_false,toV_ty,ofV_ty,keyT_ty,asD_dic,isBT_bl,dAddG_int,dAddG_str,dAddG_tup,dAddG_lst_lst,dAddG_lst_obj,dAddG_obj_lst,dAddG_obj_obj,dSlG_tup,dSlG_str,dSlG_lst,dSlG_obj])
local macro_rules | `(tactic| simp! only [$xs,*]) => `(tactic| try simp only [$xs,*,dSortI,dSortR,dLstRg,dRepW,dRetF,dForgets,asD_put,dSortS,dDPut,dCallZ,dBor,dBor0,diZ,dRevT,dStrI,dIsXT,dTry0,dTry,dXf,dIsX,dNewD,dDisp1,Prod.mk.injEq,wipeT,Int.toNat_natCast,asL_put,put_same,put_put,Cell.lst.injEq,atI_0,atI_1,atI_2,atI_3,atI_4,atI_5,atI_6,atI_7,atI_8,atI_9,Tr.ty.injEq,tyN_int,tyN_bool,tyN_str,tyN_list,tyN_tuple,tyN_dict,dVar,dC,dName,dOp,dI,dI0,dUn,dU,dEq,dNe,dTest,dAnd,dOr,dNot,dAndV,dOrV,dNotV,dIf,dChain,dNil,dCons,dTup,dLst,dCall,dCall0,dCB,dNext,dSeq,dRet,dRetN,dDrop,dBreak,dCont,dIfS,dgNil,dgCons,dTupG,dAsg,diL,diT,diS,diR1,diR2,diE,dYes,dIx,dLen,dInt,dMx,dSum,dAll,dIsi,dIsiT,doNone,doSome,dSl,dApp,dSub,dSet,dEqD,dGet,dGet1,dGet2,LT.dIn,dIsN,dIsB,dIn',dList,dTuple,dRaise,dMaxL,dMinL,dMinS,dRep,asL_lst,asS_lst,asS_tup,asT_tup,flatV',Tr.int.injEq,Tr.bl.injEq,Tr.str.injEq,Tr.lst.injEq,Tr.tup.injEq,Tr.obj.injEq,Option.isSome_some,List.map_cons,List.map_nil,List.length_cons,List.length_nil,List.replicate_succ,List.replicate_zero,List.cons_append,List.nil_append,List.append_nil,List.getElem?_cons_zero,List.getElem?_cons_succ,List.set_cons_zero,List.set_cons_succ,Nat.add_sub_cancel,Nat.reduceAdd,Nat.reduceSub,Option.some.injEq,List.cons.injEq,and_true,true_and,and_false,false_and,exists_eq_left,exists_eq_left',exists_and_left,exists_and_right,exists_eq,exists_eq',LL.if_dec,reduceCtorEq,exists_false,exists_const,or_false,false_or,if_true,if_false,and_assoc,Int.reduceEq,Int.reduceNe,Int.reduceNeg,Int.reduceLT,Int.reduceLE,Int.reduceMul,Int.reduceAdd,Int.reduceSub,Int.reducePow,Int.reduceToNat,Nat.reducePow,Nat.reduceLT,Nat.reduceLeDiff,true_or,or_true,Bool.not_true,Bool.not_false,Bool.false_eq_true,Bool.or_false,Bool.or_true,Bool.true_or,Bool.false_or,decide_true,decide_false,not_true_eq_false,not_false_eq_true,LL.scal_int,LL.scal_bl,LL.scal_str,V.int.injEq,V.bl.injEq,V.str.injEq,Nat.zero_le,forall_const,true_implies,kindT_non,isNonT_non,flatT_non,flatK_non,isBT_non_true,isBT_non_false,toV_non,ofV_non,keyT_non,isT_non_int,isT_non_bool,isT_non_str,isT_non_list,isT_non_tuple,isT_non_dict,kindT_bl,isNonT_bl,flatT_bl,flatK_bl,toV_bl,ofV_bl,keyT_bl,isT_bl_int,isT_bl_bool,isT_bl_str,isT_bl_list,isT_bl_tuple,isT_bl_dict,kindT_int,isNonT_int,flatT_int,flatK_int,isBT_int_true,isBT_int_false,toV_int,ofV_int,keyT_int,isT_int_int,isT_int_bool,isT_int_str,isT_int_list,isT_int_tuple,isT_int_dict,kindT_str,isNonT_str,flatT_str,flatK_str,isBT_str_true,isBT_str_false,toV_str,ofV_str,keyT_str,isT_str_int,isT_str_bool,isT_str_str,isT_str_list,isT_str_tuple,isT_str_dict,kindT_lst,isNonT_lst,flatT_lst,flatK_lst,isBT_lst_true,isBT_lst_false,lenT_lst,keyT_lst,isT_lst_int,isT_lst_bool,isT_lst_str,isT_lst_list,isT_lst_tuple,isT_lst_dict,kindT_tup,isNonT_tup,flatT_tup,flatK_tup,isBT_tup_true,isBT_tup_false,lenT_tup,keyT_tup,isT_tup_int,isT_tup_bool,isT_tup_str,isT_tup_list,isT_tup_tuple,isT_tup_dict,kindT_dic,isNonT_dic,flatT_dic,flatK_dic,isBT_dic_true,isBT_dic_false,lenT_dic,keyT_dic,isT_dic_int,isT_dic_bool,isT_dic_str,isT_dic_list,isT_dic_tuple,isT_dic_dict,kindT_obj,isNonT_obj,flatT_obj,flatK_obj,isBT_obj_true,isBT_obj_false,keyT_obj,kindT_drw,isNonT_drw,flatT_drw,flatK_drw,isBT_drw_true,isBT_drw_false,keyT_drw,kindT_ty,isNonT_ty,flatT_ty,flatK_ty,isBT_ty_true,isBT_ty_false,toV_ty,ofV_ty,keyT_ty,asD_dic,isBT_bl,dAddG_int,dAddG_str,dAddG_tup,dAddG_lst_lst,dAddG_lst_obj,dAddG_obj_lst,dAddG_obj_obj,dSlG_tup,dSlG_str,dSlG_lst,dSlG_obj])
variable {P : Program} {w : World} {K : PySem.W.Frag} {mg : Str → Option Value} {base : Heap}

def kindsT : Tr := .lst [.bl true, .bl true, .bl true, .bl false, .bl false, .bl false, .bl false, .bl false, .bl false, .bl false]
def wp_kinds : Pz := fun a x ts Ω PQ _ => x.cls = "BadValue" ∧ ts = [.obj a] ∧ PQ kindsT Ω
theorem ok_law_kinds (T : Tx K mg) : FnZ P w K mg base 1 (He.ga K "_law_kinds") T.fd_law_kinds P_law_kinds (spZ K wp_kinds 1) := by
  refine dokZ T.F_law_kinds sc_law_kinds (fun a x ts Ω Q hh => hh.1) fun cdv A outer s H E p cls d hz hf hr => ?_
  refine' dokMkZ (PSs.nox (pss_one (ps_ret (pe_lst (pa_cons (pe_callB (show CallR _ _ (LL.rIsXC K p.1 (He.ga K "BadValue") cls d) from LL.call_isXC (p := p) List.mem_cons_self T.d_BadValue hz hf) (by rfl) T.z_isinstance (by decide +kernel) (pa_cons (pv 0) (pa_cons (pe_glob (v := .ref (He.ga K "StoreError")) (u := .ref (He.ga K "StoreError")) rfl T.g_StoreError rfl) pa_nil))) (pa_cons (pe_callB (show CallR _ _ (LL.rIsXC K p.1 (He.ga K "BadValue") cls d) from LL.call_isXC (p := p) List.mem_cons_self T.d_BadValue hz hf) (by rfl) T.z_isinstance (by decide +kernel) (pa_cons (pv 0) (pa_cons (pe_bltn (v := .ty "ValueError") (u := .type "ValueError") (by rfl) T.z_ValueError (by decide +kernel) rfl) pa_nil))) (pa_cons (pe_callB (show CallR _ _ (LL.rIsXC K p.1 (He.ga K "BadValue") cls d) from LL.call_isXC (p := p) List.mem_cons_self T.d_BadValue hz hf) (by rfl) T.z_isinstance (by decide +kernel) (pa_cons (pv 0) (pa_cons (pe_glob (v := .ref (He.ga K "BadValue")) (u := .ref (He.ga K "BadValue")) rfl T.g_BadValue rfl) pa_nil))) (pa_cons (pe_callB (show CallR _ _ (LL.rIsXC K p.1 (He.ga K "BadValue") cls d) from LL.call_isXC (p := p) List.mem_cons_self T.d_BadValue hz hf) (by rfl) T.z_isinstance (by decide +kernel) (pa_cons (pv 0) (pa_cons (pe_glob (v := .ref (He.ga K "Broken")) (u := .ref (He.ga K "Broken")) rfl T.g_Broken rfl) pa_nil))) (pa_cons (pe_callB (show CallR _ _ (LL.rIsXC K p.1 (He.ga K "BadValue") cls d) from LL.call_isXC (p := p) List.mem_cons_self T.d_BadValue hz hf) (by rfl) T.z_isinstance (by decide +kernel) (pa_cons (pv 0) (pa_cons (pe_glob (v := .ref (He.ga K "Unknown")) (u := .ref (He.ga K "Unknown")) rfl T.g_Unknown rfl) pa_nil))) (pa_cons (pe_callB (show CallR _ _ (LL.rIsXC K p.1 (He.ga K "BadValue") cls d) from LL.call_isXC (p := p) List.mem_cons_self T.d_BadValue hz hf) (by rfl) T.z_isinstance (by decide +kernel) (pa_cons (pv 0) (pa_cons (pe_glob (v := .ref (He.ga K "NotHeld")) (u := .ref (He.ga K "NotHeld")) rfl T.g_NotHeld rfl) pa_nil))) (pa_cons (pe_callB (show CallR _ _ (LL.rIsXC K p.1 (He.ga K "BadValue") cls d) from LL.call_isXC (p := p) List.mem_cons_self T.d_BadValue hz hf) (by rfl) T.z_isinstance (by decide +kernel) (pa_cons (pv 0) (pa_cons (pe_glob (v := .ref (He.ga K "Fault")) (u := .ref (He.ga K "Fault")) rfl T.g_Fault rfl) pa_nil))) (pa_cons (pe_callB (show CallR _ _ (LL.rIsXC K p.1 (He.ga K "BadValue") cls d) from LL.call_isXC (p := p) List.mem_cons_self T.d_BadValue hz hf) (by rfl) T.z_isinstance (by decide +kernel) (pa_cons (pv 0) (pa_cons (pe_glob (v := .ref (He.ga K "NoRoom")) (u := .ref (He.ga K "NoRoom")) rfl T.g_NoRoom rfl) pa_nil))) (pa_cons (pe_callB (show CallR _ _ (LL.rIsXC K p.1 (He.ga K "BadValue") cls d) from LL.call_isXC (p := p) List.mem_cons_self T.d_BadValue hz hf) (by rfl) T.z_isinstance (by decide +kernel) (pa_cons (pv 0) (pa_cons (pe_glob (v := .ref (He.ga K "Cut")) (u := .ref (He.ga K "Cut")) rfl T.g_Cut rfl) pa_nil))) (pa_cons (pe_callB (show CallR _ _ (LL.rIsXC K p.1 (He.ga K "BadValue") cls d) from LL.call_isXC (p := p) List.mem_cons_self T.d_BadValue hz hf) (by rfl) T.z_isinstance (by decide +kernel) (pa_cons (pv 0) (pa_cons (pe_glob (v := .ref (He.ga K "BadLine")) (u := .ref (He.ga K "BadLine")) rfl T.g_BadLine rfl) pa_nil))) pa_nil)))))))))))))) ?sim ?go
  case sim =>
    intro x
    try simp only [LL.cxK0, LL.cxK1, List.map_cons, List.map_nil]
    repeat' (first | fail "s")
  case go =>
    intro x ts Ω PQ hx hl h
    obtain ⟨_, rfl, q⟩ := h
    simp! only [N_law_kinds]
    rw [hx]
    exact ⟨rfl, _, rfl, _, T.k_StoreError, rfl, _, rfl, _, T.k_ValueError, rfl, _, rfl, _, T.k_BadValue, rfl, _, rfl, _, T.k_Broken, rfl, _, rfl, _, T.k_Unknown, rfl, _, rfl, _, T.k_NotHeld, rfl, _, rfl, _, T.k_Fault, rfl, _, rfl, _, T.k_NoRoom, rfl, _, rfl, _, T.k_Cut, rfl, _, rfl, _, T.k_BadLine, .inl q⟩
end K11

namespace K11
open PySem PySem.Spec PyProof.Rows L2 LL LT
local macro_rules | `(tactic| fail "s") => `(tactic| first | (with_reducible first | exact sim_var | exact sim_int | exact sim_bl | exact sim_str | exact sim_non | exact sim_ty | exact sim_ref | exact sim_nil | apply sim_cons | apply sim_op | apply simr_I0 | apply simr_I | exact simr_Eq | exact simr_Ne | exact simr_IxA | exact simr_addG | exact simr_isN | exact simr_notN | exact simr_isB | exact simr_in | exact simr_IxL | exact simr_IxT | exact simr_IxS | exact simr_EqD | exact simr_NeD | exact simr_rep | exact simr_repW | apply sim_un | apply sim_test | apply sim_tB | apply sim_and | apply sim_or | apply sim_not | apply sim_andV | apply sim_orV | apply sim_notV | apply sim_if | apply sim_chain | apply sim_tup | apply sim_lst | apply sim_bor0 | apply sim_bor | apply sim_borS | apply sim_call0 | apply sim_call | apply sim_callS | apply sim_callZ | apply sim_isXT | apply sim_isX | apply sim_xf | apply sim_sortS | apply sim_listRg | apply sim_CB | exact simc_len | exact simc_int | exact simc_isi | exact simc_mx | exact simc_mn | exact simc_sum | exact simc_maxL | exact simc_minL | exact simc_minS | exact simc_all | exact simc_any | exact simc_list | exact simc_tuple | exact simc_isiT | exact simc_strI | exact simc_sortI | exact simc_sortR | apply sim_sl | exact simsl_G | exact simsl_L | exact sim_oNone | apply sim_oSome | apply sim_append | exact sim_newD | apply sim_disp1 | apply sim_dget2 | apply sim_dget1 | apply sim_dget | apply sim_din | apply sim_dnotin | apply sim_lc | apply sim_dc | exact sim_yes | apply sim_iL | apply sim_iT | apply sim_iS | apply sim_iR1 | apply sim_iR2 | apply sim_iE | apply sim_iZ | apply sim_revT | exact gin_name (by decide) | apply gin_tup | exact gin_nil | apply gin_cons | exact mono_name | exact mono_nil | apply mono_cons | apply mono_tup | exact sim_next | apply sim_mk | apply sim_fgl | apply sim_fg | apply sim_seq | apply sim_ret | exact sim_retN | apply sim_drop | exact sim_break | exact sim_cont | apply sim_ifS | apply sim_asg | exact sim_gName | apply sim_gTup | exact sim_gNil | apply sim_gCons | apply sim_gSub | apply sim_for | apply sim_while | apply sim_dput | apply sim_raise | apply sim_tryT0 | apply sim_tryT) | exact fun _ _ => rfl | exact fun _ => rfl | exact fun _ _ _ _ => rfl | intro W | intro a cls d x)
local macro_rules | `(tactic| fail "l") => `(tactic| (simp only [List.length_append,List.length_take,List.length_drop,List.length_map,List.length_cons,List.length_nil,List.length_set,List.length_replicate,List.length_range]; omega))
local macro_rules | `(tactic| fail "r") => `(tactic| first | fail "d" | with_reducible refine fun (_ : _ ≤ 1000000) => ?_ | with_reducible refine Or.inl (fun (_ : _ ≤ 1000000) => ?_) | with_reducible refine lst_in ?_ | with_reducible refine dic_in ?_ | with_reducible refine tk_call (by first | decide | exact tk_big (by omega) (by omega)) fun v h0 h1 => ?_ | with_reducible refine bt_call (by first | decide | exact tk_big (by omega) (by omega)) fun v h0 h1 => ?_ | with_reducible refine ct_call (by first | decide | exact ⟨by omega, by omega, by omega⟩) fun v h0 h1 => ?_ | with_reducible refine LL.itei (fun h => ?_) fun h => ?_ | with_reducible refine pickP (by omega) (by simp only [List.length_cons, List.length_nil]; omega) ?_ | with_reducible refine List.forall_mem_cons.mpr (And.intro ?_ ?_) | with_reducible exact LT.nil_all | with_reducible refine And.intro (by first | (unfold CPow; decide) | omega | rfl) ?_ | with_reducible refine am_call rfl (List.cons_ne_nil _ _) ?_ | refine And.intro (show CMul _ _ from .inl ⟨by omega, by omega⟩) ?_)
local macro_rules | `(tactic| fail "d") => `(tactic| simp only [and_true,dSortI,dSortR,dLstRg,dRepW,dRetF,dForgets,asD_put,dSortS,dDPut,dCallZ,dBor,dBor0,diZ,dRevT,dStrI,dIsXT,dTry0,dTry,dXf,dIsX,dNewD,dDisp1,Prod.mk.injEq,wipeT,Int.toNat_natCast,asL_put,put_same,put_put,Cell.lst.injEq,atI_0,atI_1,atI_2,atI_3,atI_4,atI_5,atI_6,atI_7,atI_8,atI_9,Tr.ty.injEq,tyN_int,tyN_bool,tyN_str,tyN_list,tyN_tuple,tyN_dict,dVar,dC,dName,dOp,dI,dI0,dUn,dU,dEq,dNe,dTest,dAnd,dOr,dNot,dAndV,dOrV,dNotV,dIf,dChain,dNil,dCons,dTup,dLst,dCall,dCall0,dCB,dNext,dSeq,dRet,dRetN,dDrop,dBreak,dCont,dIfS,dgNil,dgCons,dTupG,dAsg,diL,diT,diS,diR1,diR2,diE,dYes,dIx,dLen,dInt,dMx,dSum,dAll,dIsi,dIsiT,doNone,doSome,dSl,dApp,dSub,dSet,dEqD,dGet,dGet1,dGet2,LT.dIn,dIsN,dIsB,dIn',dList,dTuple,dRaise,dMaxL,dMinL,dMinS,dRep,asL_lst,asS_lst,asS_tup,asT_tup,flatV',Tr.int.injEq,Tr.bl.injEq,Tr.str.injEq,Tr.lst.injEq,Tr.tup.injEq,Tr.obj.injEq,Option.isSome_some,List.map_cons,List.map_nil,List.length_cons,List.length_nil,List.replicate_succ,List.replicate_zero,List.cons_append,List.nil_append,List.append_nil,List.getElem?_cons_zero,List.getElem?_cons_succ,List.set_cons_zero,List.set_cons_succ,Nat.add_sub_cancel,Nat.reduceAdd,Nat.reduceSub,Option.some.injEq,List.cons.injEq,and_true,true_and,and_false,false_and,exists_eq_left,exists_eq_left',exists_and_left,exists_and_right,exists_eq,exists_eq',LL.if_dec,reduceCtorEq,exists_false,exists_const,or_false,false_or,if_true,if_false,and_assoc,Int.reduceEq,Int.reduceNe,Int.reduceNeg,Int.reduceLT,Int.reduceLE,Int.reduceMul,Int.reduceAdd,Int.reduceSub,Int.reducePow,Int.reduceToNat,Nat.reducePow,Nat.reduceLT,Nat.reduceLeDiff,true_or,or_true,Bool.not_true,Bool.not_false,Bool.false_eq_true,Bool.or_false,Bool.or_true,Bool.true_or,Bool.false_or,decide_true,decide_false,not_true_eq_false,not_false_eq_true,LL.scal_int,LL.scal_bl,LL.scal_str,V.int.injEq,V.bl.injEq,V.str.injEq,Nat.zero_le,forall_const,true_implies,kindT_non,isNonT_non,flatT_non,flatK_non,isBT_non_true,isBT_non_false,toV_non,ofV_non,keyT_non,isT_non_int,isT_non_bool,isT_non_str,isT_non_list,isT_non_tuple,isT_non_dict,kindT_bl,isNonT_bl,flatT_bl,flatK_bl,toV_bl,ofV_bl,keyT_bl,isT_bl_int,isT_bl_bool,isT_bl_str,isT_bl_list,isT_bl_tuple,isT_bl_dict,kindT_int,isNonT_int,flatT_int,flatK_int,isBT_int_true,isBT_int_false,toV_int,ofV_int,keyT_int,isT_int_int,isT_int_bool,isT_int_str,isT_int_list,isT_int_tuple,isT_int_dict,kindT_str,isNonT_str,flatT_str,flatK_str,isBT_str_true,isBT_str_false,toV_str,ofV_str,keyT_str,isT_str_int,isT_str_bool,isT_str_str,isT_str_list,isT_str_tuple,isT_str_dict,kindT_lst,isNonT_lst,flatT_lst,flatK_lst,isBT_lst_true,isBT_lst_false,lenT_lst,keyT_lst,isT_lst_int,isT_lst_bool,isT_lst_str,isT_lst_list,isT_lst_tuple,isT_lst_dict,kindT_tup,isNonT_tup,flatT_tup,flatK_tup,isBT_tup_true,isBT_tup_false,lenT_tup,keyT_tup,isT_tup_int,isT_tup_bool,isT_tup_str,isT_tup_list,isT_tup_tuple,isT_tup_dict,kindT_dic,isNonT_dic,flatT_dic,flatK_dic,isBT_dic_true,isBT_dic_false,lenT_dic,keyT_dic,isT_dic_int,isT_dic_bool,isT_dic_str,isT_dic_list,isT_dic_tuple,isT_dic_dict,kindT_obj,isNonT_obj,flatT_obj,flatK_obj,isBT_obj_true,isBT_obj_false,keyT_obj,kindT_drw,isNonT_drw,flatT_drw,flatK_drw,isBT_drw_true,isBT_drw_false,keyT_drw,kindT_ty,isNonT_ty,flatT_ty,flatK_ty,isBT_ty_true,isBT_ty_false,toV_ty,ofV_ty,keyT_ty,asD_dic,isBT_bl,dAddG_int,dAddG_str,dAddG_tup,dAddG_lst_lst,dAddG_lst_obj,dAddG_obj_lst,dAddG_obj_obj,dSlG_tup,dSlG_str,dSlG_lst,dSlG_obj])
local macro_rules | `(tactic| simp! only [$xs,*]) => `(tactic| try simp only [$xs,*,dSortI,dSortR,dLstRg,dRepW,dRetF,dForgets,asD_put,dSortS,dDPut,dCallZ,dBor,dBor0,diZ,dRevT,dStrI,dIsXT,dTry0,dTry,dXf,dIsX,dNewD,dDisp1,Prod.mk.injEq,wipeT,Int.toNat_natCast,asL_put,put_same,put_put,Cell.lst.injEq,atI_0,atI_1,atI_2,atI_3,atI_4,atI_5,atI_6,atI_7,atI_8,atI_9,Tr.ty.injEq,tyN_int,tyN_bool,tyN_str,tyN_list,tyN_tuple,tyN_dict,dVar,dC,dName,dOp,dI,dI0,dUn,dU,dEq,dNe,dTest,dAnd,dOr,dNot,dAndV,dOrV,dNotV,dIf,dChain,dNil,dCons,dTup,dLst,dCall,dCall0,dCB,dNext,dSeq,dRet,dRetN,dDrop,dBreak,dCont,dIfS,dgNil,dgCons,dTupG,dAsg,diL,diT,diS,diR1,diR2,diE,dYes,dIx,dLen,dInt,dMx,dSum,dAll,dIsi,dIsiT,doNone,doSome,dSl,dApp,dSub,dSet,dEqD,dGet,dGet1,dGet2,LT.dIn,dIsN,dIsB,dIn',dList,dTuple,dRaise,dMaxL,dMinL,dMinS,dRep,asL_lst,asS_lst,asS_tup,asT_tup,flatV',Tr.int.injEq,Tr.bl.injEq,Tr.str.injEq,Tr.lst.injEq,Tr.tup.injEq,Tr.obj.injEq,Option.isSome_some,List.map_cons,List.map_nil,List.length_cons,List.length_nil,List.replicate_succ,List.replicate_zero,List.cons_append,List.nil_append,List.append_nil,List.getElem?_cons_zero,List.getElem?_cons_succ,List.set_cons_zero,List.set_cons_succ,Nat.add_sub_cancel,Nat.reduceAdd,Nat.reduceSub,Option.some.injEq,List.cons.injEq,and_true,true_and,and_false,false_and,exists_eq_left,exists_eq_left',exists_and_left,exists_and_right,exists_eq,exists_eq',LL.if_dec,reduceCtorEq,exists_false,exists_const,or_false,false_or,if_true,if_false,and_assoc,Int.reduceEq,Int.reduceNe,Int.reduceNeg,Int.reduceLT,Int.reduceLE,Int.reduceMul,Int.reduceAdd,Int.reduceSub,Int.reducePow,Int.reduceToNat,Nat.reducePow,Nat.reduceLT,Nat.reduceLeDiff,true_or,or_true,Bool.not_true,Bool.not_false,Bool.false_eq_true,Bool.or_false,Bool.or_true,Bool.true_or,Bool.false_or,decide_true,decide_false,not_true_eq_false,not_false_eq_true,LL.scal_int,LL.scal_bl,LL.scal_str,V.int.injEq,V.bl.injEq,V.str.injEq,Nat.zero_le,forall_const,true_implies,kindT_non,isNonT_non,flatT_non,flatK_non,isBT_non_true,isBT_non_false,toV_non,ofV_non,keyT_non,isT_non_int,isT_non_bool,isT_non_str,isT_non_list,isT_non_tuple,isT_non_dict,kindT_bl,isNonT_bl,flatT_bl,flatK_bl,toV_bl,ofV_bl,keyT_bl,isT_bl_int,isT_bl_bool,isT_bl_str,isT_bl_list,isT_bl_tuple,isT_bl_dict,kindT_int,isNonT_int,flatT_int,flatK_int,isBT_int_true,isBT_int_false,toV_int,ofV_int,keyT_int,isT_int_int,isT_int_bool,isT_int_str,isT_int_list,isT_int_tuple,isT_int_dict,kindT_str,isNonT_str,flatT_str,flatK_str,isBT_str_true,isBT_str_false,toV_str,ofV_str,keyT_str,isT_str_int,isT_str_bool,isT_str_str,isT_str_list,isT_str_tuple,isT_str_dict,kindT_lst,isNonT_lst,flatT_lst,flatK_lst,isBT_lst_true,isBT_lst_false,lenT_lst,keyT_lst,isT_lst_int,isT_lst_bool,isT_lst_str,isT_lst_list,isT_lst_tuple,isT_lst_dict,kindT_tup,isNonT_tup,flatT_tup,flatK_tup,isBT_tup_true,isBT_tup_false,lenT_tup,keyT_tup,isT_tup_int,isT_tup_bool,isT_tup_str,isT_tup_list,isT_tup_tuple,isT_tup_dict,kindT_dic,isNonT_dic,flatT_dic,flatK_dic,isBT_dic_true,isBT_dic_false,lenT_dic,keyT_dic,isT_dic_int,isT_dic_bool,isT_dic_str,isT_dic_list,isT_dic_tuple,isT_dic_dict,kindT_obj,isNonT_obj,flatT_obj,flatK_obj,isBT_obj_true,isBT_obj_false,keyT_obj,kindT_drw,isNonT_drw,flatT_drw,flatK_drw,isBT_drw_true,isBT_drw_false,keyT_drw,kindT_ty,isNonT_ty,flatT_ty,flatK_ty,isBT_ty_true,isBT_ty_false,toV_ty,ofV_ty,keyT_ty,asD_dic,isBT_bl,dAddG_int,dAddG_str,dAddG_tup,dAddG_lst_lst,dAddG_lst_obj,dAddG_obj_lst,dAddG_obj_obj,dSlG_tup,dSlG_str,dSlG_lst,dSlG_obj])
variable {P : Program} {w : World} {K : PySem.W.Frag} {mg : Str → Option Value} {base : Heap}

def isBV2 : Tr → Tr
  | .str s => .bl (decide (s = "BadValue"))
  | _ => .non
def refLT (f : Tr) : Tr := .lst [.str "refused", .tup [.str "BadValue", f], f, kindsT]
def wp_refL : Pw := fun ts Ω PQ _ => ∃ f, ts = [.str "BadValue", f] ∧ PQ (refLT f) Ω
theorem ok_law_refused (T : Tx K mg) : FnOk P w K mg base CX0 1 (He.ga K "_law_refused") T.fd_law_refused P_law_refused (spD K wp_refL 2) := by
  refine dok T.F_law_refused sc_law_refused fun cdv A outer s H E hr => ?_
  refine' dokMk (PSs.nox (pss_cons (ps_set (i := 2) sc_law_refused.nd rfl (Or.inl rfl) (pe_lst (pa_cons (pe_str) (pa_cons (pe_str) (pa_cons (pe_str) (pa_cons (pe_str) (pa_cons (pe_str) (pa_cons (pe_str) (pa_cons (pe_str) (pa_cons (pe_str) pa_nil)))))))))) (pss_one (ps_ret (pe_lst (pa_cons (pe_str) (pa_cons (pe_tup (pa_cons (pv 0) (pa_cons (pv 1) pa_nil))) (pa_cons (pv 1) (pa_cons (pe_op (show OpR _ _ (LT.rAddG K) from LT.op_addG) (pe_lst (pa_cons (pe_bl) (pa_cons (pe_bl) pa_nil))) (pe_lc (own := [("_law_one", 3)]) (by rfl) sc_law_refused.nd (LT.pi_seqK (K := K) rfl (pv 2)) (blkOk_by (N := N_law_refused) (sc := defScope s_law_refused) (by decide +kernel)) (fun _ _ _ _ _ => (pg_name (i := 3) sc_law_refused.nd rfl (Or.inl rfl))) (fun _ _ _ _ _ => pts_nil) (fun _ _ _ _ _ => (pe_cmpR op_eq (pv 3) (pv 0) (nomark _))))) pa_nil))))))))) ?sim ?go
  case sim =>
    try simp only [LL.cxK0, LL.cxK1, List.map_cons, List.map_nil]
    repeat' (first | fail "s")
  case go =>
    intro ts Ω PQ PX hl h
    obtain ⟨f, rfl, q⟩ := h
    simp! only [N_law_refused]
    refine .inl ?_
    simp! only [and_true]
    refine .inl ?_
    refine map_S (fun P p => ⟨_, rfl, p⟩) rfl isBV2 mono_dName (fun x hx Q q => ?_) (.inl ?_)
    · simp only [List.mem_cons, List.not_mem_nil, or_false] at hx
      rcases hx with rfl | rfl | rfl | rfl | rfl | rfl | rfl | rfl <;> (unfold isBV2 at q; simp! only [and_true]; exact q)
    · simp! only [and_true]
      exact .inl (.inl q)
end K11

namespace K11
open PySem PySem.Spec PyProof.Rows L2 LL LT
local macro_rules | `(tactic| fail "s") => `(tactic| first | (with_reducible first | exact sim_var | exact sim_int | exact sim_bl | exact sim_str | exact sim_non | exact sim_ty | exact sim_ref | exact sim_nil | apply sim_cons | apply sim_op | apply simr_I0 | apply simr_I | exact simr_Eq | exact simr_Ne | exact simr_IxA | exact simr_addG | exact simr_isN | exact simr_notN | exact simr_isB | exact simr_in | exact simr_IxL | exact simr_IxT | exact simr_IxS | exact simr_EqD | exact simr_NeD | exact simr_rep | exact simr_repW | apply sim_un | apply sim_test | apply sim_tB | apply sim_and | apply sim_or | apply sim_not | apply sim_andV | apply sim_orV | apply sim_notV | apply sim_if | apply sim_chain | apply sim_tup | apply sim_lst | apply sim_bor0 | apply sim_bor | apply sim_borS | apply sim_call0 | apply sim_call | apply sim_callS | apply sim_callZ | apply sim_isXT | apply sim_isX | apply sim_xf | apply sim_sortS | apply sim_listRg | apply sim_CB | exact simc_len | exact simc_int | exact simc_isi | exact simc_mx | exact simc_mn | exact simc_sum | exact simc_maxL | exact simc_minL | exact simc_minS | exact simc_all | exact simc_any | exact simc_list | exact simc_tuple | exact simc_isiT | exact simc_strI | exact simc_sortI | exact simc_sortR | apply sim_sl | exact simsl_G | exact simsl_L | exact sim_oNone | apply sim_oSome | apply sim_append | exact sim_newD | apply sim_disp1 | apply sim_dget2 | apply sim_dget1 | apply sim_dget | apply sim_din | apply sim_dnotin | apply sim_lc | apply sim_dc | exact sim_yes | apply sim_iL | apply sim_iT | apply sim_iS | apply sim_iR1 | apply sim_iR2 | apply sim_iE | apply sim_iZ | apply sim_revT | exact gin_name (by decide) | apply gin_tup | exact gin_nil | apply gin_cons | exact mono_name | exact mono_nil | apply mono_cons | apply mono_tup | exact sim_next | apply sim_mk | apply sim_fgl | apply sim_fg | apply sim_seq | apply sim_ret | exact sim_retN | apply sim_drop | exact sim_break | exact sim_cont | apply sim_ifS | apply sim_asg | exact sim_gName | apply sim_gTup | exact sim_gNil | apply sim_gCons | apply sim_gSub | apply sim_for | apply sim_while | apply sim_dput | apply sim_raise | apply sim_tryT0 | apply sim_tryT) | exact fun _ _ => rfl | exact fun _ => rfl | exact fun _ _ _ _ => rfl | intro W | intro a cls d x)
local macro_rules | `(tactic| fail "l") => `(tactic| (simp only [List.length_append,List.length_take,List.length_drop,List.length_map,List.length_cons,List.length_nil,List.length_set,List.length_replicate,List.length_range]; omega))
local macro_rules | `(tactic| fail "r") => `(tactic| first | fail "d" | with_reducible refine fun (_ : _ ≤ 1000000) => ?_ | with_reducible refine Or.inl (fun (_ : _ ≤ 1000000) => ?_) | with_reducible refine lst_in ?_ | with_reducible refine dic_in ?_ | with_reducible refine tk_call (by first | decide | exact tk_big (by omega) (by omega)) fun v h0 h1 => ?_ | with_reducible refine bt_call (by first | decide | exact tk_big (by omega) (by omega)) fun v h0 h1 => ?_ | with_reducible refine ct_call (by first | decide | exact ⟨by omega, by omega, by omega⟩) fun v h0 h1 => ?_ | with_reducible refine LL.itei (fun h => ?_) fun h => ?_ | with_reducible refine pickP (by omega) (by simp only [List.length_cons, List.length_nil]; omega) ?_ | with_reducible refine List.forall_mem_cons.mpr (And.intro ?_ ?_) | with_reducible exact LT.nil_all | with_reducible refine And.intro (by first | (unfold CPow; decide) | omega | rfl) ?_ | with_reducible refine am_call rfl (List.cons_ne_nil _ _) ?_ | refine And.intro (show CMul _ _ from .inl ⟨by omega, by omega⟩) ?_)
local macro_rules | `(tactic| fail "d") => `(tactic| simp only [and_true,dSortI,dSortR,dLstRg,dRepW,dRetF,dForgets,asD_put,dSortS,dDPut,dCallZ,dBor,dBor0,diZ,dRevT,dStrI,dIsXT,dTry0,dTry,dXf,dIsX,dNewD,dDisp1,Prod.mk.injEq,wipeT,Int.toNat_natCast,asL_put,put_same,put_put,Cell.lst.injEq,atI_0,atI_1,atI_2,atI_3,atI_4,atI_5,atI_6,atI_7,atI_8,atI_9,Tr.ty.injEq,tyN_int,tyN_bool,tyN_str,tyN_list,tyN_tuple,tyN_dict,dVar,dC,dName,dOp,dI,dI0,dUn,dU,dEq,dNe,dTest,dAnd,dOr,dNot,dAndV,dOrV,dNotV,dIf,dChain,dNil,dCons,dTup,dLst,dCall,dCall0,dCB,dNext,dSeq,dRet,dRetN,dDrop,dBreak,dCont,dIfS,dgNil,dgCons,dTupG,dAsg,diL,diT,diS,diR1,diR2,diE,dYes,dIx,dLen,dInt,dMx,dSum,dAll,dIsi,dIsiT,doNone,doSome,dSl,dApp,dSub,dSet,dEqD,dGet,dGet1,dGet2,LT.dIn,dIsN,dIsB,dIn',dList,dTuple,dRaise,dMaxL,dMinL,dMinS,dRep,asL_lst,asS_lst,asS_tup,asT_tup,flatV',Tr.int.injEq,Tr.bl.injEq,Tr.str.injEq,Tr.lst.injEq,Tr.tup.injEq,Tr.obj.injEq,Option.isSome_some,List.map_cons,List.map_nil,List.length_cons,List.length_nil,List.replicate_succ,List.replicate_zero,List.cons_append,List.nil_append,List.append_nil,List.getElem?_cons_zero,List.getElem?_cons_succ,List.set_cons_zero,List.set_cons_succ,Nat.add_sub_cancel,Nat.reduceAdd,Nat.reduceSub,Option.some.injEq,List.cons.injEq,and_true,true_and,and_false,false_and,exists_eq_left,exists_eq_left',exists_and_left,exists_and_right,exists_eq,exists_eq',LL.if_dec,reduceCtorEq,exists_false,exists_const,or_false,false_or,if_true,if_false,and_assoc,Int.reduceEq,Int.reduceNe,Int.reduceNeg,Int.reduceLT,Int.reduceLE,Int.reduceMul,Int.reduceAdd,Int.reduceSub,Int.reducePow,Int.reduceToNat,Nat.reducePow,Nat.reduceLT,Nat.reduceLeDiff,true_or,or_true,Bool.not_true,Bool.not_false,Bool.false_eq_true,Bool.or_false,Bool.or_true,Bool.true_or,Bool.false_or,decide_true,decide_false,not_true_eq_false,not_false_eq_true,LL.scal_int,LL.scal_bl,LL.scal_str,V.int.injEq,V.bl.injEq,V.str.injEq,Nat.zero_le,forall_const,true_implies,kindT_non,isNonT_non,flatT_non,flatK_non,isBT_non_true,isBT_non_false,toV_non,ofV_non,keyT_non,isT_non_int,isT_non_bool,isT_non_str,isT_non_list,isT_non_tuple,isT_non_dict,kindT_bl,isNonT_bl,flatT_bl,flatK_bl,toV_bl,ofV_bl,keyT_bl,isT_bl_int,isT_bl_bool,isT_bl_str,isT_bl_list,isT_bl_tuple,isT_bl_dict,kindT_int,isNonT_int,flatT_int,flatK_int,isBT_int_true,isBT_int_false,toV_int,ofV_int,keyT_int,isT_int_int,isT_int_bool,isT_int_str,isT_int_list,isT_int_tuple,isT_int_dict,kindT_str,isNonT_str,flatT_str,flatK_str,isBT_str_true,isBT_str_false,toV_str,ofV_str,keyT_str,isT_str_int,isT_str_bool,isT_str_str,isT_str_list,isT_str_tuple,isT_str_dict,kindT_lst,isNonT_lst,flatT_lst,flatK_lst,isBT_lst_true,isBT_lst_false,lenT_lst,keyT_lst,isT_lst_int,isT_lst_bool,isT_lst_str,isT_lst_list,isT_lst_tuple,isT_lst_dict,kindT_tup,isNonT_tup,flatT_tup,flatK_tup,isBT_tup_true,isBT_tup_false,lenT_tup,keyT_tup,isT_tup_int,isT_tup_bool,isT_tup_str,isT_tup_list,isT_tup_tuple,isT_tup_dict,kindT_dic,isNonT_dic,flatT_dic,flatK_dic,isBT_dic_true,isBT_dic_false,lenT_dic,keyT_dic,isT_dic_int,isT_dic_bool,isT_dic_str,isT_dic_list,isT_dic_tuple,isT_dic_dict,kindT_obj,isNonT_obj,flatT_obj,flatK_obj,isBT_obj_true,isBT_obj_false,keyT_obj,kindT_drw,isNonT_drw,flatT_drw,flatK_drw,isBT_drw_true,isBT_drw_false,keyT_drw,kindT_ty,isNonT_ty,flatT_ty,flatK_ty,isBT_ty_true,isBT_ty_false,toV_ty,ofV_ty,keyT_ty,asD_dic,isBT_bl,dAddG_int,dAddG_str,dAddG_tup,dAddG_lst_lst,dAddG_lst_obj,dAddG_obj_lst,dAddG_obj_obj,dSlG_tup,dSlG_str,dSlG_lst,dSlG_obj])
local macro_rules | `(tactic| simp! only [$xs,*]) => `(tactic| try simp only [$xs,*,dSortI,dSortR,dLstRg,dRepW,dRetF,dForgets,asD_put,dSortS,dDPut,dCallZ,dBor,dBor0,diZ,dRevT,dStrI,dIsXT,dTry0,dTry,dXf,dIsX,dNewD,dDisp1,Prod.mk.injEq,wipeT,Int.toNat_natCast,asL_put,put_same,put_put,Cell.lst.injEq,atI_0,atI_1,atI_2,atI_3,atI_4,atI_5,atI_6,atI_7,atI_8,atI_9,Tr.ty.injEq,tyN_int,tyN_bool,tyN_str,tyN_list,tyN_tuple,tyN_dict,dVar,dC,dName,dOp,dI,dI0,dUn,dU,dEq,dNe,dTest,dAnd,dOr,dNot,dAndV,dOrV,dNotV,dIf,dChain,dNil,dCons,dTup,dLst,dCall,dCall0,dCB,dNext,dSeq,dRet,dRetN,dDrop,dBreak,dCont,dIfS,dgNil,dgCons,dTupG,dAsg,diL,diT,diS,diR1,diR2,diE,dYes,dIx,dLen,dInt,dMx,dSum,dAll,dIsi,dIsiT,doNone,doSome,dSl,dApp,dSub,dSet,dEqD,dGet,dGet1,dGet2,LT.dIn,dIsN,dIsB,dIn',dList,dTuple,dRaise,dMaxL,dMinL,dMinS,dRep,asL_lst,asS_lst,asS_tup,asT_tup,flatV',Tr.int.injEq,Tr.bl.injEq,Tr.str.injEq,Tr.lst.injEq,Tr.tup.injEq,Tr.obj.injEq,Option.isSome_some,List.map_cons,List.map_nil,List.length_cons,List.length_nil,List.replicate_succ,List.replicate_zero,List.cons_append,List.nil_append,List.append_nil,List.getElem?_cons_zero,List.getElem?_cons_succ,List.set_cons_zero,List.set_cons_succ,Nat.add_sub_cancel,Nat.reduceAdd,Nat.reduceSub,Option.some.injEq,List.cons.injEq,and_true,true_and,and_false,false_and,exists_eq_left,exists_eq_left',exists_and_left,exists_and_right,exists_eq,exists_eq',LL.if_dec,reduceCtorEq,exists_false,exists_const,or_false,false_or,if_true,if_false,and_assoc,Int.reduceEq,Int.reduceNe,Int.reduceNeg,Int.reduceLT,Int.reduceLE,Int.reduceMul,Int.reduceAdd,Int.reduceSub,Int.reducePow,Int.reduceToNat,Nat.reducePow,Nat.reduceLT,Nat.reduceLeDiff,true_or,or_true,Bool.not_true,Bool.not_false,Bool.false_eq_true,Bool.or_false,Bool.or_true,Bool.true_or,Bool.false_or,decide_true,decide_false,not_true_eq_false,not_false_eq_true,LL.scal_int,LL.scal_bl,LL.scal_str,V.int.injEq,V.bl.injEq,V.str.injEq,Nat.zero_le,forall_const,true_implies,kindT_non,isNonT_non,flatT_non,flatK_non,isBT_non_true,isBT_non_false,toV_non,ofV_non,keyT_non,isT_non_int,isT_non_bool,isT_non_str,isT_non_list,isT_non_tuple,isT_non_dict,kindT_bl,isNonT_bl,flatT_bl,flatK_bl,toV_bl,ofV_bl,keyT_bl,isT_bl_int,isT_bl_bool,isT_bl_str,isT_bl_list,isT_bl_tuple,isT_bl_dict,kindT_int,isNonT_int,flatT_int,flatK_int,isBT_int_true,isBT_int_false,toV_int,ofV_int,keyT_int,isT_int_int,isT_int_bool,isT_int_str,isT_int_list,isT_int_tuple,isT_int_dict,kindT_str,isNonT_str,flatT_str,flatK_str,isBT_str_true,isBT_str_false,toV_str,ofV_str,keyT_str,isT_str_int,isT_str_bool,isT_str_str,isT_str_list,isT_str_tuple,isT_str_dict,kindT_lst,isNonT_lst,flatT_lst,flatK_lst,isBT_lst_true,isBT_lst_false,lenT_lst,keyT_lst,isT_lst_int,isT_lst_bool,isT_lst_str,isT_lst_list,isT_lst_tuple,isT_lst_dict,kindT_tup,isNonT_tup,flatT_tup,flatK_tup,isBT_tup_true,isBT_tup_false,lenT_tup,keyT_tup,isT_tup_int,isT_tup_bool,isT_tup_str,isT_tup_list,isT_tup_tuple,isT_tup_dict,kindT_dic,isNonT_dic,flatT_dic,flatK_dic,isBT_dic_true,isBT_dic_false,lenT_dic,keyT_dic,isT_dic_int,isT_dic_bool,isT_dic_str,isT_dic_list,isT_dic_tuple,isT_dic_dict,kindT_obj,isNonT_obj,flatT_obj,flatK_obj,isBT_obj_true,isBT_obj_false,keyT_obj,kindT_drw,isNonT_drw,flatT_drw,flatK_drw,isBT_drw_true,isBT_drw_false,keyT_drw,kindT_ty,isNonT_ty,flatT_ty,flatK_ty,isBT_ty_true,isBT_ty_false,toV_ty,ofV_ty,keyT_ty,asD_dic,isBT_bl,dAddG_int,dAddG_str,dAddG_tup,dAddG_lst_lst,dAddG_lst_obj,dAddG_obj_lst,dAddG_obj_obj,dSlG_tup,dSlG_str,dSlG_lst,dSlG_obj])
variable {P : Program} {w : World} {K : PySem.W.Frag} {mg : Str → Option Value} {base : Heap}

def wp_copy (n : Nat) : Pw := fun ts Ω PQ _ => ∃ t, ts = [t] ∧ dataT t = true ∧ depTr2 t < n ∧ PQ t Ω
theorem putL_take {ks : List Key} {us : List Tr} {i : Nat} {k : Key} {u : Tr} (nd : ks.Nodup) (hl : us.length = ks.length) (hk : ks[i]? = some k) (hu : us[i]? = some u) : (putL (ks.take i) (us.take i) k u).map (·.1) = ks.take (i + 1) ∧ (putL (ks.take i) (us.take i) k u).map (·.2) = us.take (i + 1) := by
  have hi := (List.getElem?_eq_some_iff.mp hk).1
  have e1 : ((ks.take i).zip (us.take i)).map (·.1) = ks.take i := List.map_fst_zip (by rw [List.length_take, List.length_take]; omega)
  have e2 : ((ks.take i).zip (us.take i)).map (·.2) = us.take i := List.map_snd_zip (by rw [List.length_take, List.length_take]; omega)
  have hn : k ∉ ((ks.take i).zip (us.take i)).map (·.1) := by
    rw [e1]
    intro hm
    have hd : ks = ks.take i ++ k :: ks.drop (i + 1) := by
      conv => lhs; rw [← List.take_append_drop i ks, List.drop_eq_getElem_cons hi, (List.getElem?_eq_some_iff.mp hk).2]
    rw [hd] at nd
    exact (List.nodup_append.mp nd).2.2 k hm k List.mem_cons_self rfl
  unfold putL
  rw [putT_new hn, List.map_append, List.map_append, e1, e2, take_one hk, take_one hu]
  exact ⟨rfl, rfl⟩
theorem ok_law_copy (T : Tx K mg) : ∀ n : Nat, FnOk P w K mg base CX0 (n + 1) (He.ga K "_law_copy") T.fd_law_copy P_law_copy (spD K (wp_copy n) 1) := by
  intro n
  induction n with
  | zero => exact fun_false (fun ts Ω Q X ⟨_, _, _, h, _⟩ => absurd h (Nat.not_lt_zero _)) rfl
  | succ n ih =>
    refine dok T.F_law_copy sc_law_copy fun cdv A outer s H E hr => ?_
    refine' dokMk (PSs.nox (pss_cons (ps_if (pt_val (pe_callB (show CallR _ _ (rIsi K) from call_isi) (by rfl) T.z_isinstance (by decide +kernel) (pa_cons (pv 0) (pa_cons (pe_bltn (v := .ty "list") (u := .type "list") (by rfl) T.z_list (by decide +kernel) rfl) pa_nil)))) (pss_one (ps_ret (pe_lc (own := [("_law_one", 3)]) (by rfl) sc_law_copy.nd (LT.pi_seqK (K := K) rfl (pv 0)) (blkOk_by (N := N_law_copy) (sc := defScope s_law_copy) (by decide +kernel)) (fun _ _ _ _ _ => (pg_name (i := 3) sc_law_copy.nd rfl (Or.inl rfl))) (fun _ _ _ _ _ => pts_nil) (fun _ _ _ _ _ => (pe_call ih hr rfl T.g_law_copy T.F_law_copy.kp (b_law_copy T) .nil pass0 (pa_cons (pv 3) pa_nil)))))) pss_nil) (pss_cons (ps_if (pt_val (pe_callB (show CallR _ _ (rIsi K) from call_isi) (by rfl) T.z_isinstance (by decide +kernel) (pa_cons (pv 0) (pa_cons (pe_bltn (v := .ty "tuple") (u := .type "tuple") (by rfl) T.z_tuple (by decide +kernel) rfl) pa_nil)))) (pss_one (ps_ret (pe_callTy (show CallR _ _ (LT.rTuple K) from LT.call_tuple) (by rfl) T.z_tuple (by decide +kernel) (pa_cons (pe_lc (own := [("_law_one", 3)]) (by rfl) sc_law_copy.nd (LT.pi_seqK (K := K) rfl (pv 0)) (blkOk_by (N := N_law_copy) (sc := defScope s_law_copy) (by decide +kernel)) (fun _ _ _ _ _ => (pg_name (i := 3) sc_law_copy.nd rfl (Or.inl rfl))) (fun _ _ _ _ _ => pts_nil) (fun _ _ _ _ _ => (pe_call ih hr rfl T.g_law_copy T.F_law_copy.kp (b_law_copy T) .nil pass0 (pa_cons (pv 3) pa_nil)))) pa_nil)))) pss_nil) (pss_cons (ps_if (pt_val (pe_callB (show CallR _ _ (rIsi K) from call_isi) (by rfl) T.z_isinstance (by decide +kernel) (pa_cons (pv 0) (pa_cons (pe_bltn (v := .ty "dict") (u := .type "dict") (by rfl) T.z_dict (by decide +kernel) rfl) pa_nil)))) (pss_cons (ps_set (i := 1) sc_law_copy.nd rfl (Or.inl rfl) (pe_dnewK)) (pss_cons (ps_for PassesOwn.never rfl (LT.pi_seqK (K := K) rfl (pe_callTy (show CallR _ _ (LT.rList K) from LT.call_list rfl) (by rfl) T.z_list (by decide +kernel) (pa_cons (pv 0) pa_nil))) (pg_name (i := 2) sc_law_copy.nd rfl (Or.inl rfl)) (pss_one (ps_dput (hu_of hr) (pv 1) (pv 2) (pe_call ih hr rfl T.g_law_copy T.F_law_copy.kp (b_law_copy T) .nil pass0 (pa_cons (pe_dget (hu_of hr) (pv 0) (pv 2) (fun _ _ => rfl)) pa_nil)) rfl))) (pss_one (ps_ret (pv 1))))) pss_nil) (pss_one (ps_ret (pv 0))))))) ?sim ?go
    case sim =>
      try simp only [LL.cxK0, LL.cxK1, List.map_cons, List.map_nil]
      repeat' (first | with_reducible apply sim_retThawD (i := 1) | fail "s")
    case go =>
      intro ts Ω PQ PX hl h
      obtain ⟨t, rfl, hd, hdep, q⟩ := h
      cases t with
      | lst us =>
        simp! only [N_law_copy]
        refine .inl ?_
        simp! only [and_true]
        refine map_S (t := .lst us) (ts := us) (fun P p => ⟨_, rfl, p⟩) rfl id mono_dName (fun x hx Q q => ?_) (.inl ?_)
        · have h1 := depTrs2_mem hx
          have h2 : depTrs2 us + 1 < n + 1 := hdep
          simp! only [and_true]
          exact ⟨x, rfl, dataTs_mem hd hx, by omega, q⟩
        · rw [List.map_id]
          exact q
      | tup us =>
        simp! only [N_law_copy]
        refine .inl ?_
        simp! only [and_true]
        refine map_S (t := .tup us) (ts := us) (fun P p => ⟨_, rfl, p⟩) rfl id mono_dName (fun x hx Q q => ?_) (.inl ?_)
        · have h1 := depTrs2_mem hx
          have h2 : depTrs2 us + 1 < n + 1 := hdep
          simp! only [and_true]
          exact ⟨x, rfl, dataTs_mem hd hx, by omega, q⟩
        · rw [List.map_id]
          simp! only [and_true]
          exact fun _ => q
      | dic ks us =>
        obtain ⟨nd, hkl, hdd⟩ := data_dic hd
        simp! only [N_law_copy]
        refine .inr fun c hc => ?_
        refine for_Se (t := .lst (ks.map kT)) (ts := ks.map kT) (Ω1 := put Ω c (.dic [] [])) (fun P p => ?_) rfl (fun i ρ' Ω' => Ω' = put Ω c (.dic (ks.take i) (us.take i)) ∧ ∃ x y, ρ' = [some (.dic ks us), some (.obj c), x, y]) ⟨rfl, _, _, rfl⟩ (fun _ _ _ w => trivial) ?_ ?_
        · simp! only [and_true]
          exact .inr fun _ => .inl p
        · rintro hz2 i x ρ' Ω' hx ⟨rfl, x1, y1, rfl⟩
          rw [List.getElem?_map] at hx
          obtain ⟨k, hk, rfl⟩ := Option.map_eq_some_iff.mp hx
          have hi := (List.getElem?_eq_some_iff.mp hk).1
          obtain ⟨u, hu⟩ : ∃ u, us[i]? = some u := ⟨_, List.getElem?_eq_getElem (by omega)⟩
          have ev := valT_at nd hk hu
          have ek : keyT (kT k) = some k := by cases k <;> rfl
          simp! only [ev, ek]
          have h1 := depTrs2_mem (List.mem_of_getElem? hu)
          have h2 : depTrs2 us + 1 < n + 1 := hdep
          refine ⟨u, rfl, dataTs_mem hdd (List.mem_of_getElem? hu), by omega, ?_⟩
          simp! only [and_true]
          have hp := putL_take nd hkl hk hu
          rw [List.length_map] at hz2
          exact ⟨_, _, rfl, by rw [List.length_take]; omega, by rw [hp.1, hp.2]⟩
        · rintro ρ' Ω' ⟨rfl, x, y, rfl⟩
          rw [List.length_map, List.take_length, List.take_of_length_le (by omega)]
          exact ret_newD rfl hc q
      | _ => first | (cases (show false = true from hd); done) | (simp! only [N_law_copy]; refine .inl ?_; simp! only [and_true]; exact q)
end K11

namespace K11
open PySem PySem.Spec PyProof.Rows L2 LL LT
local macro_rules | `(tactic| fail "s") => `(tactic| first | (with_reducible first | exact sim_var | exact sim_int | exact sim_bl | exact sim_str | exact sim_non | exact sim_ty | exact sim_ref | exact sim_nil | apply sim_cons | apply sim_op | apply simr_I0 | apply simr_I | exact simr_Eq | exact simr_Ne | exact simr_IxA | exact simr_addG | exact simr_isN | exact simr_notN | exact simr_isB | exact simr_in | exact simr_IxL | exact simr_IxT | exact simr_IxS | exact simr_EqD | exact simr_NeD | exact simr_rep | exact simr_repW | apply sim_un | apply sim_test | apply sim_tB | apply sim_and | apply sim_or | apply sim_not | apply sim_andV | apply sim_orV | apply sim_notV | apply sim_if | apply sim_chain | apply sim_tup | apply sim_lst | apply sim_bor0 | apply sim_bor | apply sim_borS | apply sim_call0 | apply sim_call | apply sim_callS | apply sim_callZ | apply sim_isXT | apply sim_isX | apply sim_xf | apply sim_sortS | apply sim_listRg | apply sim_CB | exact simc_len | exact simc_int | exact simc_isi | exact simc_mx | exact simc_mn | exact simc_sum | exact simc_maxL | exact simc_minL | exact simc_minS | exact simc_all | exact simc_any | exact simc_list | exact simc_tuple | exact simc_isiT | exact simc_strI | exact simc_sortI | exact simc_sortR | apply sim_sl | exact simsl_G | exact simsl_L | exact sim_oNone | apply sim_oSome | apply sim_append | exact sim_newD | apply sim_disp1 | apply sim_dget2 | apply sim_dget1 | apply sim_dget | apply sim_din | apply sim_dnotin | apply sim_lc | apply sim_dc | exact sim_yes | apply sim_iL | apply sim_iT | apply sim_iS | apply sim_iR1 | apply sim_iR2 | apply sim_iE | apply sim_iZ | apply sim_revT | exact gin_name (by decide) | apply gin_tup | exact gin_nil | apply gin_cons | exact mono_name | exact mono_nil | apply mono_cons | apply mono_tup | exact sim_next | apply sim_mk | apply sim_fgl | apply sim_fg | apply sim_seq | apply sim_ret | exact sim_retN | apply sim_drop | exact sim_break | exact sim_cont | apply sim_ifS | apply sim_asg | exact sim_gName | apply sim_gTup | exact sim_gNil | apply sim_gCons | apply sim_gSub | apply sim_for | apply sim_while | apply sim_dput | apply sim_raise | apply sim_tryT0 | apply sim_tryT) | exact fun _ _ => rfl | exact fun _ => rfl | exact fun _ _ _ _ => rfl | intro W | intro a cls d x)
local macro_rules | `(tactic| fail "l") => `(tactic| (simp only [List.length_append,List.length_take,List.length_drop,List.length_map,List.length_cons,List.length_nil,List.length_set,List.length_replicate,List.length_range]; omega))
local macro_rules | `(tactic| fail "r") => `(tactic| first | fail "d" | with_reducible refine fun (_ : _ ≤ 1000000) => ?_ | with_reducible refine Or.inl (fun (_ : _ ≤ 1000000) => ?_) | with_reducible refine lst_in ?_ | with_reducible refine dic_in ?_ | with_reducible refine tk_call (by first | decide | exact tk_big (by omega) (by omega)) fun v h0 h1 => ?_ | with_reducible refine bt_call (by first | decide | exact tk_big (by omega) (by omega)) fun v h0 h1 => ?_ | with_reducible refine ct_call (by first | decide | exact ⟨by omega, by omega, by omega⟩) fun v h0 h1 => ?_ | with_reducible refine LL.itei (fun h => ?_) fun h => ?_ | with_reducible refine pickP (by omega) (by simp only [List.length_cons, List.length_nil]; omega) ?_ | with_reducible refine List.forall_mem_cons.mpr (And.intro ?_ ?_) | with_reducible exact LT.nil_all | with_reducible refine And.intro (by first | (unfold CPow; decide) | omega | rfl) ?_ | with_reducible refine am_call rfl (List.cons_ne_nil _ _) ?_ | refine And.intro (show CMul _ _ from .inl ⟨by omega, by omega⟩) ?_)
local macro_rules | `(tactic| fail "d") => `(tactic| simp only [and_true,dSortI,dSortR,dLstRg,dRepW,dRetF,dForgets,asD_put,dSortS,dDPut,dCallZ,dBor,dBor0,diZ,dRevT,dStrI,dIsXT,dTry0,dTry,dXf,dIsX,dNewD,dDisp1,Prod.mk.injEq,wipeT,Int.toNat_natCast,asL_put,put_same,put_put,Cell.lst.injEq,atI_0,atI_1,atI_2,atI_3,atI_4,atI_5,atI_6,atI_7,atI_8,atI_9,Tr.ty.injEq,tyN_int,tyN_bool,tyN_str,tyN_list,tyN_tuple,tyN_dict,dVar,dC,dName,dOp,dI,dI0,dUn,dU,dEq,dNe,dTest,dAnd,dOr,dNot,dAndV,dOrV,dNotV,dIf,dChain,dNil,dCons,dTup,dLst,dCall,dCall0,dCB,dNext,dSeq,dRet,dRetN,dDrop,dBreak,dCont,dIfS,dgNil,dgCons,dTupG,dAsg,diL,diT,diS,diR1,diR2,diE,dYes,dIx,dLen,dInt,dMx,dSum,dAll,dIsi,dIsiT,doNone,doSome,dSl,dApp,dSub,dSet,dEqD,dGet,dGet1,dGet2,LT.dIn,dIsN,dIsB,dIn',dList,dTuple,dRaise,dMaxL,dMinL,dMinS,dRep,asL_lst,asS_lst,asS_tup,asT_tup,flatV',Tr.int.injEq,Tr.bl.injEq,Tr.str.injEq,Tr.lst.injEq,Tr.tup.injEq,Tr.obj.injEq,Option.isSome_some,List.map_cons,List.map_nil,List.length_cons,List.length_nil,List.replicate_succ,List.replicate_zero,List.cons_append,List.nil_append,List.append_nil,List.getElem?_cons_zero,List.getElem?_cons_succ,List.set_cons_zero,List.set_cons_succ,Nat.add_sub_cancel,Nat.reduceAdd,Nat.reduceSub,Option.some.injEq,List.cons.injEq,and_true,true_and,and_false,false_and,exists_eq_left,exists_eq_left',exists_and_left,exists_and_right,exists_eq,exists_eq',LL.if_dec,reduceCtorEq,exists_false,exists_const,or_false,false_or,if_true,if_false,and_assoc,Int.reduceEq,Int.reduceNe,Int.reduceNeg,Int.reduceLT,Int.reduceLE,Int.reduceMul,Int.reduceAdd,Int.reduceSub,Int.reducePow,Int.reduceToNat,Nat.reducePow,Nat.reduceLT,Nat.reduceLeDiff,true_or,or_true,Bool.not_true,Bool.not_false,Bool.false_eq_true,Bool.or_false,Bool.or_true,Bool.true_or,Bool.false_or,decide_true,decide_false,not_true_eq_false,not_false_eq_true,LL.scal_int,LL.scal_bl,LL.scal_str,V.int.injEq,V.bl.injEq,V.str.injEq,Nat.zero_le,forall_const,true_implies,kindT_non,isNonT_non,flatT_non,flatK_non,isBT_non_true,isBT_non_false,toV_non,ofV_non,keyT_non,isT_non_int,isT_non_bool,isT_non_str,isT_non_list,isT_non_tuple,isT_non_dict,kindT_bl,isNonT_bl,flatT_bl,flatK_bl,toV_bl,ofV_bl,keyT_bl,isT_bl_int,isT_bl_bool,isT_bl_str,isT_bl_list,isT_bl_tuple,isT_bl_dict,kindT_int,isNonT_int,flatT_int,flatK_int,isBT_int_true,isBT_int_false,toV_int,ofV_int,keyT_int,isT_int_int,isT_int_bool,isT_int_str,isT_int_list,isT_int_tuple,isT_int_dict,kindT_str,isNonT_str,flatT_str,flatK_str,isBT_str_true,isBT_str_false,toV_str,ofV_str,keyT_str,isT_str_int,isT_str_bool,isT_str_str,isT_str_list,isT_str_tuple,isT_str_dict,kindT_lst,isNonT_lst,flatT_lst,flatK_lst,isBT_lst_true,isBT_lst_false,lenT_lst,keyT_lst,isT_lst_int,isT_lst_bool,isT_lst_str,isT_lst_list,isT_lst_tuple,isT_lst_dict,kindT_tup,isNonT_tup,flatT_tup,flatK_tup,isBT_tup_true,isBT_tup_false,lenT_tup,keyT_tup,isT_tup_int,isT_tup_bool,isT_tup_str,isT_tup_list,isT_tup_tuple,isT_tup_dict,kindT_dic,isNonT_dic,flatT_dic,flatK_dic,isBT_dic_true,isBT_dic_false,lenT_dic,keyT_dic,isT_dic_int,isT_dic_bool,isT_dic_str,isT_dic_list,isT_dic_tuple,isT_dic_dict,kindT_obj,isNonT_obj,flatT_obj,flatK_obj,isBT_obj_true,isBT_obj_false,keyT_obj,kindT_drw,isNonT_drw,flatT_drw,flatK_drw,isBT_drw_true,isBT_drw_false,keyT_drw,kindT_ty,isNonT_ty,flatT_ty,flatK_ty,isBT_ty_true,isBT_ty_false,toV_ty,ofV_ty,keyT_ty,asD_dic,isBT_bl,dAddG_int,dAddG_str,dAddG_tup,dAddG_lst_lst,dAddG_lst_obj,dAddG_obj_lst,dAddG_obj_obj,dSlG_tup,dSlG_str,dSlG_lst,dSlG_obj])
local macro_rules | `(tactic| simp! only [$xs,*]) => `(tactic| try simp only [$xs,*,dSortI,dSortR,dLstRg,dRepW,dRetF,dForgets,asD_put,dSortS,dDPut,dCallZ,dBor,dBor0,diZ,dRevT,dStrI,dIsXT,dTry0,dTry,dXf,dIsX,dNewD,dDisp1,Prod.mk.injEq,wipeT,Int.toNat_natCast,asL_put,put_same,put_put,Cell.lst.injEq,atI_0,atI_1,atI_2,atI_3,atI_4,atI_5,atI_6,atI_7,atI_8,atI_9,Tr.ty.injEq,tyN_int,tyN_bool,tyN_str,tyN_list,tyN_tuple,tyN_dict,dVar,dC,dName,dOp,dI,dI0,dUn,dU,dEq,dNe,dTest,dAnd,dOr,dNot,dAndV,dOrV,dNotV,dIf,dChain,dNil,dCons,dTup,dLst,dCall,dCall0,dCB,dNext,dSeq,dRet,dRetN,dDrop,dBreak,dCont,dIfS,dgNil,dgCons,dTupG,dAsg,diL,diT,diS,diR1,diR2,diE,dYes,dIx,dLen,dInt,dMx,dSum,dAll,dIsi,dIsiT,doNone,doSome,dSl,dApp,dSub,dSet,dEqD,dGet,dGet1,dGet2,LT.dIn,dIsN,dIsB,dIn',dList,dTuple,dRaise,dMaxL,dMinL,dMinS,dRep,asL_lst,asS_lst,asS_tup,asT_tup,flatV',Tr.int.injEq,Tr.bl.injEq,Tr.str.injEq,Tr.lst.injEq,Tr.tup.injEq,Tr.obj.injEq,Option.isSome_some,List.map_cons,List.map_nil,List.length_cons,List.length_nil,List.replicate_succ,List.replicate_zero,List.cons_append,List.nil_append,List.append_nil,List.getElem?_cons_zero,List.getElem?_cons_succ,List.set_cons_zero,List.set_cons_succ,Nat.add_sub_cancel,Nat.reduceAdd,Nat.reduceSub,Option.some.injEq,List.cons.injEq,and_true,true_and,and_false,false_and,exists_eq_left,exists_eq_left',exists_and_left,exists_and_right,exists_eq,exists_eq',LL.if_dec,reduceCtorEq,exists_false,exists_const,or_false,false_or,if_true,if_false,and_assoc,Int.reduceEq,Int.reduceNe,Int.reduceNeg,Int.reduceLT,Int.reduceLE,Int.reduceMul,Int.reduceAdd,Int.reduceSub,Int.reducePow,Int.reduceToNat,Nat.reducePow,Nat.reduceLT,Nat.reduceLeDiff,true_or,or_true,Bool.not_true,Bool.not_false,Bool.false_eq_true,Bool.or_false,Bool.or_true,Bool.true_or,Bool.false_or,decide_true,decide_false,not_true_eq_false,not_false_eq_true,LL.scal_int,LL.scal_bl,LL.scal_str,V.int.injEq,V.bl.injEq,V.str.injEq,Nat.zero_le,forall_const,true_implies,kindT_non,isNonT_non,flatT_non,flatK_non,isBT_non_true,isBT_non_false,toV_non,ofV_non,keyT_non,isT_non_int,isT_non_bool,isT_non_str,isT_non_list,isT_non_tuple,isT_non_dict,kindT_bl,isNonT_bl,flatT_bl,flatK_bl,toV_bl,ofV_bl,keyT_bl,isT_bl_int,isT_bl_bool,isT_bl_str,isT_bl_list,isT_bl_tuple,isT_bl_dict,kindT_int,isNonT_int,flatT_int,flatK_int,isBT_int_true,isBT_int_false,toV_int,ofV_int,keyT_int,isT_int_int,isT_int_bool,isT_int_str,isT_int_list,isT_int_tuple,isT_int_dict,kindT_str,isNonT_str,flatT_str,flatK_str,isBT_str_true,isBT_str_false,toV_str,ofV_str,keyT_str,isT_str_int,isT_str_bool,isT_str_str,isT_str_list,isT_str_tuple,isT_str_dict,kindT_lst,isNonT_lst,flatT_lst,flatK_lst,isBT_lst_true,isBT_lst_false,lenT_lst,keyT_lst,isT_lst_int,isT_lst_bool,isT_lst_str,isT_lst_list,isT_lst_tuple,isT_lst_dict,kindT_tup,isNonT_tup,flatT_tup,flatK_tup,isBT_tup_true,isBT_tup_false,lenT_tup,keyT_tup,isT_tup_int,isT_tup_bool,isT_tup_str,isT_tup_list,isT_tup_tuple,isT_tup_dict,kindT_dic,isNonT_dic,flatT_dic,flatK_dic,isBT_dic_true,isBT_dic_false,lenT_dic,keyT_dic,isT_dic_int,isT_dic_bool,isT_dic_str,isT_dic_list,isT_dic_tuple,isT_dic_dict,kindT_obj,isNonT_obj,flatT_obj,flatK_obj,isBT_obj_true,isBT_obj_false,keyT_obj,kindT_drw,isNonT_drw,flatT_drw,flatK_drw,isBT_drw_true,isBT_drw_false,keyT_drw,kindT_ty,isNonT_ty,flatT_ty,flatK_ty,isBT_ty_true,isBT_ty_false,toV_ty,ofV_ty,keyT_ty,asD_dic,isBT_bl,dAddG_int,dAddG_str,dAddG_tup,dAddG_lst_lst,dAddG_lst_obj,dAddG_obj_lst,dAddG_obj_obj,dSlG_tup,dSlG_str,dSlG_lst,dSlG_obj])
variable {P : Program} {w : World} {K : PySem.W.Frag} {mg : Str → Option Value} {base : Heap}

/-! ### images and change rows -/
def holdB (i : Int) : Bool := (decide (0 ≤ i) && decide (i ≤ 8)) || (decide (11 ≤ i) && decide (i ≤ 18)) || (decide (21 ≤ i) && decide (i ≤ 28))
def holdT : Tr → Bool
  | .int i => holdB i
  | _ => false
def wordB (i : Int) : Bool := decide (0 ≤ i) && decide (i ≤ 65535)
def wordT : Tr → Bool
  | .int i => wordB i
  | _ => false
def widthB (i : Int) : Bool := decide (i = 16) || decide (i = 32) || decide (i = 64)
def widthT : Tr → Bool
  | .int i => widthB i
  | _ => false
def fitsB (n w : Int) : Bool := decide (n % w = 0) && (decide (1 ≤ n / w) && decide (n / w ≤ 256))
/-- few different ones -/
def Few (us : List Tr) : Prop := ∀ ns : List Int, us = ns.map Tr.int → ∃ ds : List Int, ds.length ≤ 4000 ∧ ∀ k ∈ ns, k ∈ ds
def itemsOf : Tr → List Tr
  | .tup us => us
  | .lst us => us
  | _ => []
def intOf : Tr → Int
  | .int i => i
  | _ => 0
def imgB : Tr → Bool
  | .tup [a, b, c, d] => widthT a && (wordT b && (isTupT c && (isTupT d && (decide ((itemsOf c).length = (itemsOf d).length) && (fitsB (itemsOf c).length (intOf a) && ((itemsOf c).all wordT && (itemsOf d).all holdT))))))
  | _ => false
/-- what an image may be of -/
def FewI (t : Tr) : Prop := ∀ w f ws hs, t = .tup [w, f, .tup ws, .tup hs] → Few ws ∧ Few hs
structure Ch where
  p : Int
  w : Int
  h : Int
  w' : Int
  h' : Int
deriving DecidableEq
def cT (c : Ch) : Tr := .tup [.int c.p, .int c.w, .int c.h, .int c.w', .int c.h']
def chB : Tr → Bool
  | .tup [a, b, c, d, f] => isInt a && ((decide (0 ≤ intOf a) && decide (intOf a < 16384)) && (wordT b && (holdT c && (wordT d && (holdT f && (!decide (toV b = toV d) || !decide (toV c = toV f)))))))
  | _ => false
def placeT : Tr → Int
  | .tup (.int p :: _) => p
  | _ => 0
def chsB : Int → List Tr → Bool
  | _, [] => true
  | l, r :: rs => chB r && (decide (l < placeT r) && chsB (placeT r) rs)
def chsT : Tr → Bool
  | .lst us => chsB (-1) us
  | _ => false
theorem ok_is_holder (T : Tx K mg) : FnOk P w K mg base CX0 2 (He.ga K "is_holder") T.fd_is_holder P_is_holder (spD K (wp_flag holdT) 1) := by
  refine dok T.F_is_holder sc_is_holder fun cdv A outer s H E hr => ?_
  refine' dokMk (PSs.nox (pss_cons (ps_if (pt_not (pt_val (pe_call (ok_is_whole T) hr rfl T.g_is_whole T.F_is_whole.kp (b_is_whole T) .nil pass0 (pa_cons (pv 0) pa_nil)))) (pss_one (ps_ret (pe_bl))) pss_nil) (pss_one (ps_ret ((pe_or (pe_chain op_le op_le (pe_int) (pv 0) (pe_int)) (pe_or (pe_chain op_le op_le (pe_int) (pv 0) (pe_int)) (pe_one (pe_chain op_le op_le (pe_glob (v := .int 21) rfl T.c_MAP.choose_spec ⟨_, rfl⟩) (pv 0) (pe_glob (v := .int 28) rfl T.c_NODE.choose_spec ⟨_, rfl⟩)))))))))) ?sim ?go
  case sim =>
    try simp only [LL.cxK0, LL.cxK1, List.map_cons, List.map_nil]
    repeat' (first | fail "s")
  case go =>
    intro ts Ω PQ PX hl h
    obtain ⟨t, rfl, hk, q⟩ := h
    simp! only [N_is_holder]
    refine ⟨t, rfl, data_kind hk, ?_⟩
    cases t with
    | int i =>
      simp! only [isInt]
      unfold holdT holdB at q
      by_cases h1 : 0 ≤ i <;> by_cases h2 : i ≤ 8 <;> by_cases h3 : 11 ≤ i <;> by_cases h4 : i ≤ 18 <;> by_cases h5 : 21 ≤ i <;> by_cases h6 : i ≤ 28 <;> simpa [h1, h2, h3, h4, h5, h6] using q
    | _ => first | (cases (show false = true from hk); done) | (simp! only [isInt]; exact q)
theorem ok_is_word (T : Tx K mg) : FnOk P w K mg base CX0 2 (He.ga K "is_word") T.fd_is_word P_is_word (spD K (wp_flag wordT) 1) := by
  refine dok T.F_is_word sc_is_word fun cdv A outer s H E hr => ?_
  refine' dokMk (PSs.nox (pss_one (ps_ret ((pe_and (pe_call (ok_is_whole T) hr rfl T.g_is_whole T.F_is_whole.kp (b_is_whole T) .nil pass0 (pa_cons (pv 0) pa_nil)) (pe_one (pe_chain op_le op_le (pe_int) (pv 0) (pe_glob (v := .int 65535) rfl T.c_MOST_WORD.choose_spec ⟨_, rfl⟩)))))))) ?sim ?go
  case sim =>
    try simp only [LL.cxK0, LL.cxK1, List.map_cons, List.map_nil]
    repeat' (first | fail "s")
  case go =>
    intro ts Ω PQ PX hl h
    obtain ⟨t, rfl, hk, q⟩ := h
    simp! only [N_is_word]
    refine ⟨t, rfl, data_kind hk, ?_⟩
    cases t with
    | int i =>
      simp! only [isInt]
      unfold wordT wordB at q
      by_cases h1 : 0 ≤ i <;> by_cases h2 : i ≤ 65535 <;> simpa [h1, h2] using q
    | _ => first | (cases (show false = true from hk); done) | (simp! only [isInt]; exact q)
theorem ok_is_width (T : Tx K mg) : FnOk P w K mg base CX0 2 (He.ga K "is_width") T.fd_is_width P_is_width (spD K (wp_flag widthT) 1) := by
  refine dok T.F_is_width sc_is_width fun cdv A outer s H E hr => ?_
  refine' dokMk (PSs.nox (pss_one (ps_ret ((pe_and (pe_call (ok_is_whole T) hr rfl T.g_is_whole T.F_is_whole.kp (b_is_whole T) .nil pass0 (pa_cons (pv 0) pa_nil)) (pe_one (pe_cmpR (show OpR _ _ (rIn K false) from op_in_seq) (pv 0) (pe_glob (v := .ref (He.ga K "WIDTHS")) (u := .ref (He.ga K "WIDTHS")) rfl T.g_WIDTHS rfl) (by rfl)))))))) ?sim ?go
  case sim =>
    try simp only [LL.cxK0, LL.cxK1, List.map_cons, List.map_nil]
    repeat' (first | with_reducible exact sim_const T.w_WIDTHS (us := [Tr.int 16, Tr.int 32, Tr.int 64]) (by with_unfolding_all rfl) (by with_unfolding_all rfl) (by with_unfolding_all decide) | fail "s")
  case go =>
    intro ts Ω PQ PX hl h
    obtain ⟨t, rfl, hk, q⟩ := h
    simp! only [N_is_width]
    refine ⟨t, rfl, data_kind hk, ?_⟩
    cases t with
    | int i =>
      simp! only [isInt]
      refine ⟨rfl, ?_⟩
      have e : inT (.int i) [.int 16, .int 32, .int 64] = widthT (.int i) := by
        simp only [inT, List.any_cons, List.any_nil, toV, eqV, widthT, widthB]
        have e : ∀ j : Int, (j == i) = decide (i = j) := fun j => by by_cases h : j = i <;> simp [h, Ne.symm]
        rw [e, e, e, Bool.or_false, Bool.or_assoc]
      rw [e]
      exact q
    | _ => first | (cases (show false = true from hk); done) | (simp! only [isInt]; exact q)
def wp_fits : Pw := fun ts Ω PQ _ => ∃ n w : Int, ts = [.int n, .int w] ∧ widthB w = true ∧ PQ (.bl (fitsB n w)) Ω
def wp_distinct : Pw := fun ts Ω PQ _ => ∃ us, ts = [.tup us] ∧ dataTs us = true ∧ Few us ∧ (us.all isInt = false → PQ .non Ω) ∧ ∀ ns ms : List Int, us = ns.map Tr.int → (∀ k, k ∈ ms ↔ k ∈ ns) → PQ (.lst (ms.map Tr.int)) Ω
def wp_all (f : Tr → Bool) : Pw := fun ts Ω PQ _ => ∃ us, ts = [.tup us] ∧ dataTs us = true ∧ Few us ∧ PQ (.bl (us.all f)) Ω
theorem ok_fits_pages (T : Tx K mg) : FnOk P w K mg base CX0 1 (He.ga K "fits_pages") T.fd_fits_pages P_fits_pages (spD K wp_fits 2) := by
  refine dok T.F_fits_pages sc_fits_pages fun cdv A outer s H E hr => ?_
  refine' dokMk (PSs.nox (pss_one (ps_ret ((pe_and (pe_cmpR op_eq (pe_op op_mod (pv 0) (pv 1)) (pe_int) (nomark _)) (pe_one (pe_chain op_le op_le (pe_int) (pe_op op_fdiv (pv 0) (pv 1)) (pe_glob (v := .int 256) rfl T.c_MOST_PAGES.choose_spec ⟨_, rfl⟩)))))))) ?sim ?go
  case sim =>
    try simp only [LL.cxK0, LL.cxK1, List.map_cons, List.map_nil]
    repeat' (first | fail "s")
  case go =>
    intro ts Ω PQ PX hl h
    obtain ⟨n, w, rfl, hw, q⟩ := h
    have hw' : w = 16 ∨ w = 32 ∨ w = 64 := by
      unfold widthB at hw
      simpa [or_assoc] using hw
    simp! only [N_fits_pages]
    refine ⟨by omega, itei (fun h => ⟨⟨by omega, by omega⟩, itei (fun h2 => ?_) fun h2 => ?_⟩) fun h => ?_⟩
    · simpa [fitsB, h, h2] using q
    · simpa [fitsB, h, h2] using q
    · simpa [fitsB, h] using q
theorem ints_of_all : ∀ {us : List Tr}, us.all isInt = true → ∃ ns : List Int, us = ns.map Tr.int
  | [], _ => ⟨[], rfl⟩
  | u :: us, h => by
    have h' := Bool.and_eq_true_iff.mp (show (isInt u && us.all isInt) = true from h)
    obtain ⟨ns, rfl⟩ := ints_of_all h'.2
    cases u with
    | int i => exact ⟨i :: ns, rfl⟩
    | _ => cases (show false = true from h'.1)
theorem allB {us : List Tr} {f : Tr → Bool} : (us.map fun t => Tr.bl (f t)) = List.map Tr.bl (us.map f) := by rw [List.map_map]; rfl
theorem allM {us : List Tr} {f : Tr → Bool} : (us.map f).all id = us.all f := by rw [List.all_map]; rfl
theorem ok_distinct (T : Tx K mg) : FnOk P w K mg base CX0 2 (He.ga K "distinct") T.fd_distinct P_distinct (spD K wp_distinct 1) := by
  refine dok T.F_distinct sc_distinct fun cdv A outer s H E hr => ?_
  refine' dokMk (PSs.nox (pss_cons (ps_if (pt_not (pt_val (pe_callB (show CallR _ _ (rAll K) from cr_all rfl) (by rfl) T.z_all (by decide +kernel) (pa_cons (pe_lc (own := [("value", 1)]) (by rfl) sc_distinct.nd (LT.pi_seqK (K := K) rfl (pv 0)) (blkOk_by (N := N_distinct) (sc := defScope s_distinct) (by decide +kernel)) (fun _ _ _ _ _ => (pg_name (i := 1) sc_distinct.nd rfl (Or.inl rfl))) (fun _ _ _ _ _ => pts_nil) (fun _ _ _ _ _ => (pe_call (ok_is_whole T) hr rfl T.g_is_whole T.F_is_whole.kp (b_is_whole T) .nil pass0 (pa_cons (pv 1) pa_nil)))) pa_nil)))) (pss_one (ps_ret (pe_non))) pss_nil) (pss_one (ps_ret (pe_callB (show CallR _ _ (LL.rSortS w) from LL.cr_sortS rfl) (by rfl) T.z_sorted (by decide +kernel) (pa_cons (pe_callTy (show CallR _ _ (LL.rSetT K w) from LL.cr_setT rfl) (by rfl) T.z_set (by decide +kernel) (pa_cons (pv 0) pa_nil)) pa_nil)))))) ?sim ?go
  case sim =>
    try simp only [LL.cxK0, LL.cxK1, List.map_cons, List.map_nil]
    repeat' (first | fail "s")
  case go =>
    intro ts Ω PQ PX hl h
    obtain ⟨us, rfl, hd, few, q1, q2⟩ := h
    simp! only [N_distinct]
    refine map_S (t := .tup us) (ts := us) (fun P p => ⟨_, rfl, p⟩) rfl (fun t => .bl (isInt t)) mono_dName (fun x hx Q q => ?_) (.inl ?_)
    · simp! only [and_true]
      exact ⟨x, rfl, data_kind (dataTs_mem hd hx), q⟩
    · simp! only [and_true]
      refine ⟨us.map isInt, allB, ?_⟩
      rw [allM]
      cases ha : us.all isInt with
      | false => exact q1 ha
      | true =>
        obtain ⟨ns, rfl⟩ := ints_of_all ha
        obtain ⟨ds, h1, h2⟩ := few ns rfl
        exact ⟨ns, rfl, ds, h1, h2, fun ms hs hm hz => .inl (q2 ns ms rfl hm)⟩
theorem ok_are_words (T : Tx K mg) : FnOk P w K mg base CX0 3 (He.ga K "are_words") T.fd_are_words P_are_words (spD K (wp_all wordT) 1) := by
  refine dok T.F_are_words sc_are_words fun cdv A outer s H E hr => ?_
  refine' dokMk (PSs.nox (pss_cons (ps_set (i := 1) sc_are_words.nd rfl (Or.inl rfl) (pe_call (ok_distinct T) hr rfl T.g_distinct T.F_distinct.kp (b_distinct T) .nil pass0 (pa_cons (pv 0) pa_nil))) (pss_one (ps_ret ((pe_and (pe_cmpR op_notN1 (pv 1) (pe_non) (nomark _)) (pe_one (pe_callB (show CallR _ _ (rAll K) from cr_all rfl) (by rfl) T.z_all (by decide +kernel) (pa_cons (pe_lc (own := [("number", 2)]) (by rfl) sc_are_words.nd (LT.pi_seqK (K := K) rfl (pv 1)) (blkOk_by (N := N_are_words) (sc := defScope s_are_words) (by decide +kernel)) (fun _ _ _ _ _ => (pg_name (i := 2) sc_are_words.nd rfl (Or.inl rfl))) (fun _ _ _ _ _ => pts_nil) (fun _ _ _ _ _ => (pe_call (ok_is_word T) hr rfl T.g_is_word T.F_is_word.kp (b_is_word T) .nil pass0 (pa_cons (pv 2) pa_nil)))) pa_nil))))))))) ?sim ?go
  case sim =>
    try simp only [LL.cxK0, LL.cxK1, List.map_cons, List.map_nil]
    repeat' (first | fail "s")
  case go =>
    intro ts Ω PQ PX hl h
    obtain ⟨us, rfl, hd, few, q⟩ := h
    simp! only [N_are_words]
    refine ⟨us, rfl, hd, few, fun ha => ?_, fun ns ms e hm => ?_⟩
    · have e : us.all wordT = false := by
        cases hw : us.all wordT with
        | false => rfl
        | true =>
          refine absurd (List.all_eq_true.mpr fun t ht => ?_) (show ¬ us.all isInt = true by rw [ha]; exact Bool.false_ne_true)
          have := List.all_eq_true.mp hw t ht
          cases t <;> first | rfl | cases (show false = true from this)
      simp! only [and_true]
      rw [e] at q
      exact q
    · subst e
      simp! only [and_true]
      refine map_S (t := .lst (ms.map Tr.int)) (ts := ms.map Tr.int) (fun P p => ⟨_, rfl, p⟩) rfl (fun t => .bl (wordT t)) mono_dName (fun x hx Q q => ?_) (.inl ?_)
      · obtain ⟨i, hi, rfl⟩ := List.mem_map.mp hx
        simp! only [and_true]
        exact ⟨_, rfl, rfl, q⟩
      · simp! only [and_true]
        refine ⟨(ms.map Tr.int).map wordT, allB, ?_⟩
        rw [allM]
        have e : (ms.map Tr.int).all wordT = (ns.map Tr.int).all wordT := by
          rw [Bool.eq_iff_iff, List.all_eq_true, List.all_eq_true]
          constructor
          · intro h t ht
            obtain ⟨i, hi, rfl⟩ := List.mem_map.mp ht
            exact h _ (List.mem_map.mpr ⟨i, (hm i).mpr hi, rfl⟩)
          · intro h t ht
            obtain ⟨i, hi, rfl⟩ := List.mem_map.mp ht
            exact h _ (List.mem_map.mpr ⟨i, (hm i).mp hi, rfl⟩)
        rw [e]
        exact q
theorem ok_are_holders (T : Tx K mg) : FnOk P w K mg base CX0 3 (He.ga K "are_holders") T.fd_are_holders P_are_holders (spD K (wp_all holdT) 1) := by
  refine dok T.F_are_holders sc_are_holders fun cdv A outer s H E hr => ?_
  refine' dokMk (PSs.nox (pss_cons (ps_set (i := 1) sc_are_holders.nd rfl (Or.inl rfl) (pe_call (ok_distinct T) hr rfl T.g_distinct T.F_distinct.kp (b_distinct T) .nil pass0 (pa_cons (pv 0) pa_nil))) (pss_one (ps_ret ((pe_and (pe_cmpR op_notN1 (pv 1) (pe_non) (nomark _)) (pe_one (pe_callB (show CallR _ _ (rAll K) from cr_all rfl) (by rfl) T.z_all (by decide +kernel) (pa_cons (pe_lc (own := [("number", 2)]) (by rfl) sc_are_holders.nd (LT.pi_seqK (K := K) rfl (pv 1)) (blkOk_by (N := N_are_holders) (sc := defScope s_are_holders) (by decide +kernel)) (fun _ _ _ _ _ => (pg_name (i := 2) sc_are_holders.nd rfl (Or.inl rfl))) (fun _ _ _ _ _ => pts_nil) (fun _ _ _ _ _ => (pe_call (ok_is_holder T) hr rfl T.g_is_holder T.F_is_holder.kp (b_is_holder T) .nil pass0 (pa_cons (pv 2) pa_nil)))) pa_nil))))))))) ?sim ?go
  case sim =>
    try simp only [LL.cxK0, LL.cxK1, List.map_cons, List.map_nil]
    repeat' (first | fail "s")
  case go =>
    intro ts Ω PQ PX hl h
    obtain ⟨us, rfl, hd, few, q⟩ := h
    simp! only [N_are_holders]
    refine ⟨us, rfl, hd, few, fun ha => ?_, fun ns ms e hm => ?_⟩
    · have e : us.all holdT = false := by
        cases hw : us.all holdT with
        | false => rfl
        | true =>
          refine absurd (List.all_eq_true.mpr fun t ht => ?_) (show ¬ us.all isInt = true by rw [ha]; exact Bool.false_ne_true)
          have := List.all_eq_true.mp hw t ht
          cases t <;> first | rfl | cases (show false = true from this)
      simp! only [and_true]
      rw [e] at q
      exact q
    · subst e
      simp! only [and_true]
      refine map_S (t := .lst (ms.map Tr.int)) (ts := ms.map Tr.int) (fun P p => ⟨_, rfl, p⟩) rfl (fun t => .bl (holdT t)) mono_dName (fun x hx Q q => ?_) (.inl ?_)
      · obtain ⟨i, hi, rfl⟩ := List.mem_map.mp hx
        simp! only [and_true]
        exact ⟨_, rfl, rfl, q⟩
      · simp! only [and_true]
        refine ⟨(ms.map Tr.int).map holdT, allB, ?_⟩
        rw [allM]
        have e : (ms.map Tr.int).all holdT = (ns.map Tr.int).all holdT := by
          rw [Bool.eq_iff_iff, List.all_eq_true, List.all_eq_true]
          constructor
          · intro h t ht
            obtain ⟨i, hi, rfl⟩ := List.mem_map.mp ht
            exact h _ (List.mem_map.mpr ⟨i, (hm i).mpr hi, rfl⟩)
          · intro h t ht
            obtain ⟨i, hi, rfl⟩ := List.mem_map.mp ht
            exact h _ (List.mem_map.mpr ⟨i, (hm i).mp hi, rfl⟩)
        rw [e]
        exact q
def wp_isimg : Pw := fun ts Ω PQ _ => ∃ t, ts = [t] ∧ dataT t = true ∧ FewI t ∧ PQ (.bl (imgB t)) Ω
theorem ok_is_image (T : Tx K mg) : FnOk P w K mg base CX0 4 (He.ga K "is_image") T.fd_is_image P_is_image (spD K wp_isimg 1) := by
  refine dok T.F_is_image sc_is_image fun cdv A outer s H E hr => ?_
  refine' dokMk (PSs.nox (pss_cons (ps_if (PW.pt (pw_or (pt_not (pt_val (pe_callB (show CallR _ _ (rIsi K) from call_isi) (by rfl) T.z_isinstance (by decide +kernel) (pa_cons (pv 0) (pa_cons (pe_bltn (v := .ty "tuple") (u := .type "tuple") (by rfl) T.z_tuple (by decide +kernel) rfl) pa_nil))))) (pw_or1 (pt_cmpR op_ne (pe_callB (show CallR _ _ (LT.rLenS K) from LT.call_lenS) (by rfl) T.z_len (by decide +kernel) (pa_cons (pv 0) pa_nil)) (pe_int) (nomark _))))) (pss_one (ps_ret (pe_bl))) pss_nil) (pss_cons (ps_asg (pv 0) (LT.pg_tupK (K := K) (n := 4) rfl rfl (pgs_cons (pg_name (i := 1) sc_is_image.nd rfl (Or.inl rfl)) (pgs_cons (pg_name (i := 2) sc_is_image.nd rfl (Or.inl rfl)) (pgs_cons (pg_name (i := 3) sc_is_image.nd rfl (Or.inl rfl)) (pgs_cons (pg_name (i := 4) sc_is_image.nd rfl (Or.inl rfl)) pgs_nil)))))) (pss_cons (ps_if (PW.pt (pw_or (pt_not (pt_val (pe_call (ok_is_width T) (hr.mono (by decide)) rfl T.g_is_width T.F_is_width.kp (b_is_width T) .nil pass0 (pa_cons (pv 1) pa_nil)))) (pw_or1 (pt_not (pt_val (pe_call (ok_is_word T) (hr.mono (by decide)) rfl T.g_is_word T.F_is_word.kp (b_is_word T) .nil pass0 (pa_cons (pv 2) pa_nil))))))) (pss_one (ps_ret (pe_bl))) pss_nil) (pss_cons (ps_if (PW.pt (pw_or (pt_not (pt_val (pe_callB (show CallR _ _ (rIsi K) from call_isi) (by rfl) T.z_isinstance (by decide +kernel) (pa_cons (pv 3) (pa_cons (pe_bltn (v := .ty "tuple") (u := .type "tuple") (by rfl) T.z_tuple (by decide +kernel) rfl) pa_nil))))) (pw_or1 (pt_not (pt_val (pe_callB (show CallR _ _ (rIsi K) from call_isi) (by rfl) T.z_isinstance (by decide +kernel) (pa_cons (pv 4) (pa_cons (pe_bltn (v := .ty "tuple") (u := .type "tuple") (by rfl) T.z_tuple (by decide +kernel) rfl) pa_nil)))))))) (pss_one (ps_ret (pe_bl))) pss_nil) (pss_cons (ps_if (PW.pt (pw_or (pt_cmpR op_ne (pe_callB (show CallR _ _ (LT.rLenS K) from LT.call_lenS) (by rfl) T.z_len (by decide +kernel) (pa_cons (pv 3) pa_nil)) (pe_callB (show CallR _ _ (LT.rLenS K) from LT.call_lenS) (by rfl) T.z_len (by decide +kernel) (pa_cons (pv 4) pa_nil)) (nomark _)) (pw_or1 (pt_not (pt_val (pe_call (ok_fits_pages T) (hr.mono (by decide)) rfl T.g_fits_pages T.F_fits_pages.kp (b_fits_pages T) .nil pass0 (pa_cons (pe_callB (show CallR _ _ (LT.rLenS K) from LT.call_lenS) (by rfl) T.z_len (by decide +kernel) (pa_cons (pv 3) pa_nil)) (pa_cons (pv 1) pa_nil)))))))) (pss_one (ps_ret (pe_bl))) pss_nil) (pss_one (ps_ret ((pe_and (pe_call (ok_are_words T) hr rfl T.g_are_words T.F_are_words.kp (b_are_words T) .nil pass0 (pa_cons (pv 3) pa_nil)) (pe_one (pe_call (ok_are_holders T) hr rfl T.g_are_holders T.F_are_holders.kp (b_are_holders T) .nil pass0 (pa_cons (pv 4) pa_nil))))))))))))) ?sim ?go
  case sim =>
    try simp only [LL.cxK0, LL.cxK1, List.map_cons, List.map_nil]
    repeat' (first | fail "s")
  case go =>
    intro ts Ω PQ PX hl h
    obtain ⟨t, rfl, hk, few, q⟩ := h
    simp! only [N_is_image]
    cases t with
    | tup us =>
      simp! only [and_true]
      intro hz
      by_cases h4 : us.length = 4
      · rw [if_neg (by simp [h4])]
        obtain ⟨a, b, c, d, rfl⟩ : ∃ a b c d, us = [a, b, c, d] := match us, h4 with
          | [a, b, c, d], _ => ⟨a, b, c, d, rfl⟩
        have hk' : dataTs [a, b, c, d] = true := hk
        have ha := dataTs_mem hk' (t := a) (by simp)
        have hb := dataTs_mem hk' (t := b) (by simp)
        have hc := dataTs_mem hk' (t := c) (by simp)
        have hd := dataTs_mem hk' (t := d) (by simp)
        simp! only [and_true]
        simp only [imgB] at q
        refine ⟨a, rfl, ha, ?_⟩
        cases hA : widthT a with
        | false => rw [hA, Bool.false_and] at q; simp! only [and_true]; exact q
        | true =>
        rw [hA, Bool.true_and] at q
        simp! only [and_true]
        refine ⟨b, rfl, hb, ?_⟩
        cases hB : wordT b with
        | false => rw [hB, Bool.false_and] at q; simp! only [and_true]; exact q
        | true =>
        rw [hB, Bool.true_and] at q
        simp! only [and_true]
        refine ⟨data_kind hc, ?_⟩
        cases c with
        | tup ws =>
          rw [show isTupT (.tup ws) = true from rfl, Bool.true_and] at q
          simp! only [and_true]
          refine ⟨data_kind hd, ?_⟩
          cases d with
          | tup hs =>
            rw [show isTupT (.tup hs) = true from rfl, Bool.true_and, show itemsOf (.tup ws) = ws from rfl, show itemsOf (.tup hs) = hs from rfl] at q
            simp! only [and_true]
            intro hz1 hz2
            by_cases hl : ws.length = hs.length
            · rw [decide_eq_true hl, Bool.true_and] at q
              rw [if_neg (by simp [hl])]
              cases a with
              | int w =>
                refine fun _ => ⟨_, _, rfl, hA, ?_⟩
                rw [show intOf (.int w) = w from rfl] at q
                cases hF : fitsB ws.length w with
                | false => rw [hF, Bool.false_and] at q; simp! only [and_true]; exact q
                | true =>
                rw [hF, Bool.true_and] at q
                simp! only [and_true]
                obtain ⟨f1, f2⟩ := few _ _ _ _ rfl
                refine ⟨ws, rfl, hc, f1, ?_⟩
                cases hW : ws.all wordT with
                | false => rw [hW, Bool.false_and] at q; simp! only [and_true]; exact q
                | true =>
                rw [hW, Bool.true_and] at q
                simp! only [and_true]
                exact ⟨hs, rfl, hd, f2, q⟩
              | _ => cases hA
            · rw [decide_eq_false hl, Bool.false_and] at q
              rw [if_pos (by simp; omega)]
              exact q
          | _ => first | (cases (show false = true from hd); done) | (simp! only [and_true]; exact q)
        | _ => first | (cases (show false = true from hc); done) | (simp! only [and_true]; exact q)
      · rw [if_pos (by simp; omega)]
        have e : imgB (.tup us) = false := by
          match us, h4 with
          | [], _ => rfl
          | [a], _ => rfl
          | [a, b], _ => rfl
          | [a, b, c], _ => rfl
          | [a, b, c, d], h => exact absurd rfl h
          | a :: b :: c :: d :: f :: r, _ => rfl
        rw [e] at q
        exact q
    | _ => first | (cases (show false = true from hk); done) | (simp! only [and_true]; exact q)
theorem ok_is_change (T : Tx K mg) : FnOk P w K mg base CX0 3 (He.ga K "is_change") T.fd_is_change P_is_change (spD K (wp_flag chB) 1) := by
  refine dok T.F_is_change sc_is_change fun cdv A outer s H E hr => ?_
  refine' dokMk (PSs.nox (pss_cons (ps_if (PW.pt (pw_or (pt_not (pt_val (pe_callB (show CallR _ _ (rIsi K) from call_isi) (by rfl) T.z_isinstance (by decide +kernel) (pa_cons (pv 0) (pa_cons (pe_bltn (v := .ty "tuple") (u := .type "tuple") (by rfl) T.z_tuple (by decide +kernel) rfl) pa_nil))))) (pw_or1 (pt_cmpR op_ne (pe_callB (show CallR _ _ (LT.rLenS K) from LT.call_lenS) (by rfl) T.z_len (by decide +kernel) (pa_cons (pv 0) pa_nil)) (pe_int) (nomark _))))) (pss_one (ps_ret (pe_bl))) pss_nil) (pss_cons (ps_asg (pv 0) (LT.pg_tupK (K := K) (n := 5) rfl rfl (pgs_cons (pg_name (i := 1) sc_is_change.nd rfl (Or.inl rfl)) (pgs_cons (pg_name (i := 2) sc_is_change.nd rfl (Or.inl rfl)) (pgs_cons (pg_name (i := 3) sc_is_change.nd rfl (Or.inl rfl)) (pgs_cons (pg_name (i := 4) sc_is_change.nd rfl (Or.inl rfl)) (pgs_cons (pg_name (i := 5) sc_is_change.nd rfl (Or.inl rfl)) pgs_nil))))))) (pss_cons (ps_if (PW.pt (pw_or (pt_not (pt_val (pe_call (ok_is_whole T) (hr.mono (by decide)) rfl T.g_is_whole T.F_is_whole.kp (b_is_whole T) .nil pass0 (pa_cons (pv 1) pa_nil)))) (pw_or1 (pt_not (pt_chain op_le op_lt (pe_int) (pv 1) (pe_glob (v := .int 16384) rfl T.c_MOST_TOP.choose_spec ⟨_, rfl⟩)))))) (pss_one (ps_ret (pe_bl))) pss_nil) (pss_cons (ps_if (PW.pt (pw_or (pt_not (pt_val (pe_call (ok_is_word T) hr rfl T.g_is_word T.F_is_word.kp (b_is_word T) .nil pass0 (pa_cons (pv 2) pa_nil)))) (pw_or1 (pt_not (pt_val (pe_call (ok_is_holder T) hr rfl T.g_is_holder T.F_is_holder.kp (b_is_holder T) .nil pass0 (pa_cons (pv 3) pa_nil))))))) (pss_one (ps_ret (pe_bl))) pss_nil) (pss_cons (ps_if (PW.pt (pw_or (pt_not (pt_val (pe_call (ok_is_word T) hr rfl T.g_is_word T.F_is_word.kp (b_is_word T) .nil pass0 (pa_cons (pv 4) pa_nil)))) (pw_or1 (pt_not (pt_val (pe_call (ok_is_holder T) hr rfl T.g_is_holder T.F_is_holder.kp (b_is_holder T) .nil pass0 (pa_cons (pv 5) pa_nil))))))) (pss_one (ps_ret (pe_bl))) pss_nil) (pss_one (ps_ret ((pe_or (pe_cmpR op_ne (pv 2) (pv 4) (nomark _)) (pe_one (pe_cmpR op_ne (pv 3) (pv 5) (nomark _))))))))))))) ?sim ?go
  case sim =>
    try simp only [LL.cxK0, LL.cxK1, List.map_cons, List.map_nil]
    repeat' (first | fail "s")
  case go =>
    intro ts Ω PQ PX hl h
    obtain ⟨t, rfl, hk, q⟩ := h
    simp! only [N_is_change]
    cases t with
    | tup us =>
      simp! only [and_true]
      intro hz
      by_cases h5 : us.length = 5
      · rw [if_neg (by simp [h5])]
        obtain ⟨a, b, c, d, f, rfl⟩ : ∃ a b c d f, us = [a, b, c, d, f] := match us, h5 with
          | [a, b, c, d, f], _ => ⟨a, b, c, d, f, rfl⟩
        have hk' : dataTs [a, b, c, d, f] = true := hk
        have ha := dataTs_mem hk' (t := a) (by simp)
        have hb := dataTs_mem hk' (t := b) (by simp)
        have hc := dataTs_mem hk' (t := c) (by simp)
        have hd := dataTs_mem hk' (t := d) (by simp)
        have hf := dataTs_mem hk' (t := f) (by simp)
        simp! only [and_true]
        simp only [chB] at q
        refine ⟨a, rfl, data_kind ha, ?_⟩
        cases a with
        | int p =>
          rw [show isInt (.int p) = true from rfl, Bool.true_and, show intOf (.int p) = p from rfl] at q
          simp! only [isInt]
          refine itei (fun h0 => ?_) fun h0 => ?_
          · rw [decide_eq_true h0, Bool.true_and] at q
            by_cases h1 : p < 16384
            · rw [decide_eq_true h1, Bool.true_and] at q
              rw [if_neg (by simp [h1])]
              refine ⟨b, rfl, hb, ?_⟩
              cases hB : wordT b with
              | false => rw [hB, Bool.false_and] at q; simp! only [and_true]; exact q
              | true =>
              rw [hB, Bool.true_and] at q
              simp! only [and_true]
              refine ⟨c, rfl, hc, ?_⟩
              cases hC : holdT c with
              | false => rw [hC, Bool.false_and] at q; simp! only [and_true]; exact q
              | true =>
              rw [hC, Bool.true_and] at q
              simp! only [and_true]
              refine ⟨d, rfl, hd, ?_⟩
              cases hD : wordT d with
              | false => rw [hD, Bool.false_and] at q; simp! only [and_true]; exact q
              | true =>
              rw [hD, Bool.true_and] at q
              simp! only [and_true]
              refine ⟨f, rfl, hf, ?_⟩
              cases hE : holdT f with
              | false => rw [hE, Bool.false_and] at q; simp! only [and_true]; exact q
              | true =>
              rw [hE, Bool.true_and] at q
              simp! only [and_true]
              obtain ⟨b, rfl⟩ : ∃ i, b = .int i := by cases b <;> first | exact ⟨_, rfl⟩ | cases hB
              obtain ⟨c, rfl⟩ : ∃ i, c = .int i := by cases c <;> first | exact ⟨_, rfl⟩ | cases hC
              obtain ⟨d, rfl⟩ : ∃ i, d = .int i := by cases d <;> first | exact ⟨_, rfl⟩ | cases hD
              obtain ⟨f, rfl⟩ : ∃ i, f = .int i := by cases f <;> first | exact ⟨_, rfl⟩ | cases hE
              simp! only [and_true]
              rw [toV_int, toV_int, toV_int, toV_int] at q
              refine itei (fun hbd => ?_) fun hbd => ?_
              · have hbd' : ¬ b = d := by simpa using hbd
                simpa [hbd'] using q
              · have hbd' : b = d := by simpa using hbd
                simpa [hbd'] using q
            · rw [decide_eq_false h1, Bool.false_and] at q
              rw [if_pos (by simp; omega)]
              exact q
          · rw [decide_eq_false h0, Bool.false_and, Bool.false_and] at q
            exact q
        | _ => first | (cases (show false = true from ha); done) | (simp! only [isInt]; exact q)
      · rw [if_pos (by simp; omega)]
        have e : chB (.tup us) = false := by
          match us, h5 with
          | [], _ => rfl
          | [a], _ => rfl
          | [a, b], _ => rfl
          | [a, b, c], _ => rfl
          | [a, b, c, d], _ => rfl
          | [a, b, c, d, f], h => exact absurd rfl h
          | a :: b :: c :: d :: f :: z :: r, _ => rfl
        rw [e] at q
        exact q
    | _ => first | (cases (show false = true from hk); done) | (simp! only [and_true]; exact q)
/-! ### the rest -/
structure Img where
  w : Int
  f : Int
  ws : List Int
  hs : List Int
def imT (I : Img) : Tr := .tup [.int I.w, .int I.f, .tup (I.ws.map Tr.int), .tup (I.hs.map Tr.int)]
structure GI (I : Img) : Prop where
  w : widthB I.w = true
  f : wordB I.f = true
  len : I.ws.length = I.hs.length
  fit : fitsB I.ws.length I.w = true
  ws : ∀ k ∈ I.ws, wordB k = true
  hs : ∀ k ∈ I.hs, holdB k = true
theorem all_int {f : Tr → Bool} {g : Int → Bool} (e : ∀ i, f (.int i) = g i) {ns : List Int} : (ns.map Tr.int).all f = true ↔ ∀ k ∈ ns, g k = true := by
  rw [List.all_map, List.all_eq_true]
  constructor
  · intro h k hk; rw [← e]; exact h k hk
  · intro h k hk; show f (.int k) = true; rw [e]; exact h k hk
theorem GI.img {I : Img} (h : GI I) : imgB (imT I) = true := by
  have h1 : (I.ws.map Tr.int).all wordT = true := (all_int (fun _ => rfl)).mpr h.ws
  have h2 : (I.hs.map Tr.int).all holdT = true := (all_int (fun _ => rfl)).mpr h.hs
  simp only [imT, imgB, itemsOf, intOf, isTupT, widthT, wordT, h.w, h.f, h1, h2, h.fit, List.length_map, h.len, decide_true, Bool.true_and, Bool.and_true]
  rw [← h.len]; exact h.fit
theorem imgB_form {t : Tr} (h : imgB t = true) : ∃ I, t = imT I ∧ GI I := by
  match t, h with
  | .tup [a, b, c, d], h =>
    simp only [imgB, Bool.and_eq_true, decide_eq_true_eq] at h
    obtain ⟨h1, h2, h3, h4, h5, h6, h7, h8⟩ := h
    obtain ⟨w, rfl⟩ : ∃ i, a = .int i := by cases a <;> first | exact ⟨_, rfl⟩ | cases h1
    obtain ⟨f, rfl⟩ : ∃ i, b = .int i := by cases b <;> first | exact ⟨_, rfl⟩ | cases h2
    obtain ⟨ws, rfl⟩ : ∃ i, c = .tup i := by cases c <;> first | exact ⟨_, rfl⟩ | cases h3
    obtain ⟨hs, rfl⟩ : ∃ i, d = .tup i := by cases d <;> first | exact ⟨_, rfl⟩ | cases h4
    obtain ⟨ws, rfl⟩ := ints_of_all (us := ws) (List.all_eq_true.mpr fun t ht => by
      have := List.all_eq_true.mp h7 t ht
      cases t <;> first | rfl | cases (show false = true from this))
    obtain ⟨hs, rfl⟩ := ints_of_all (us := hs) (List.all_eq_true.mpr fun t ht => by
      have := List.all_eq_true.mp h8 t ht
      cases t <;> first | rfl | cases (show false = true from this))
    simp only [itemsOf, List.length_map] at h5 h6
    exact ⟨⟨w, f, ws, hs⟩, rfl, h1, h2, h5, h6, (all_int (fun _ => rfl)).mp h7, (all_int (fun _ => rfl)).mp h8⟩
def like (I J : Img) : Bool := decide (J.w = I.w) && (decide (J.f = I.f) && decide (J.ws.length = I.ws.length))
theorem imT_inj {I J : Img} (h : imT I = imT J) : I = J := by
  obtain ⟨w, f, ws, hs⟩ := I
  obtain ⟨w', f', ws', hs'⟩ := J
  have im : ∀ {a b : List Int}, a.map Tr.int = b.map Tr.int → a = b := fun {a b} e => by
    have e2 := congrArg (List.map intOf) e
    rw [List.map_map, List.map_map] at e2
    simpa [Function.comp_def, intOf] using e2
  simp only [imT, Tr.tup.injEq, List.cons.injEq, Tr.int.injEq, and_true] at h
  obtain ⟨rfl, rfl, h3, h4⟩ := h
  rw [im h3, im h4]
theorem data_im {I : Img} : dataT (imT I) = true := by
  simp only [imT, dataT, dataTs, data_ints, Bool.and_self]
/-- the rows that tell two lists of words and holders apart -/
def diffL : Int → List Int → List Int → List Int → List Int → List Ch
  | p, w :: ws, h :: hs, w' :: ws', h' :: hs' => if w = w' ∧ h = h' then diffL (p + 1) ws hs ws' hs' else ⟨p, w, h, w', h'⟩ :: diffL (p + 1) ws hs ws' hs'
  | _, _, _, _, _ => []
def diff (I J : Img) : List Ch := diffL 0 I.ws I.hs J.ws J.hs
def putRows : List Int → List Int → List Ch → Option (List Int × List Int)
  | ws, hs, [] => some (ws, hs)
  | ws, hs, c :: cs => if c.p < ws.length ∧ ws[c.p.toNat]? = some c.w ∧ hs[c.p.toNat]? = some c.h then putRows (ws.set c.p.toNat c.w') (hs.set c.p.toNat c.h') cs else none
def invC (c : Ch) : Ch := ⟨c.p, c.w', c.h', c.w, c.h⟩
theorem chB_form {t : Tr} (h : chB t = true) : ∃ c : Ch, t = cT c ∧ 0 ≤ c.p ∧ c.p < 16384 ∧ wordB c.w = true ∧ holdB c.h = true ∧ wordB c.w' = true ∧ holdB c.h' = true ∧ ¬ (c.w = c.w' ∧ c.h = c.h') := by
  match t, h with
  | .tup [a, b, c, d, f], h =>
    simp only [chB, Bool.and_eq_true, Bool.or_eq_true, decide_eq_true_eq, Bool.not_eq_true', decide_eq_false_iff_not] at h
    obtain ⟨h1, h2, h3, h4, h5, h6, h7⟩ := h
    obtain ⟨a, rfl⟩ : ∃ i, a = .int i := by cases a <;> first | exact ⟨_, rfl⟩ | cases h1
    obtain ⟨b, rfl⟩ : ∃ i, b = .int i := by cases b <;> first | exact ⟨_, rfl⟩ | cases h3
    obtain ⟨c, rfl⟩ : ∃ i, c = .int i := by cases c <;> first | exact ⟨_, rfl⟩ | cases h4
    obtain ⟨d, rfl⟩ : ∃ i, d = .int i := by cases d <;> first | exact ⟨_, rfl⟩ | cases h5
    obtain ⟨f, rfl⟩ : ∃ i, f = .int i := by cases f <;> first | exact ⟨_, rfl⟩ | cases h6
    refine ⟨⟨a, b, c, d, f⟩, rfl, h2.1, h2.2, h3, h4, h5, h6, fun z => ?_⟩
    rcases h7 with h7 | h7
    · exact h7 (by rw [show b = d from z.1])
    · exact h7 (by rw [show c = f from z.2])
theorem chB_cT {c : Ch} (h0 : 0 ≤ c.p) (h1 : c.p < 16384) (h2 : wordB c.w = true) (h3 : holdB c.h = true) (h4 : wordB c.w' = true) (h5 : holdB c.h' = true) (h6 : ¬ (c.w = c.w' ∧ c.h = c.h')) : chB (cT c) = true := by
  simp only [cT, chB, Bool.and_eq_true, Bool.or_eq_true, decide_eq_true_eq, Bool.not_eq_true', decide_eq_false_iff_not]
  refine ⟨rfl, ⟨h0, h1⟩, h2, h3, h4, h5, ?_⟩
  by_cases e : c.w = c.w'
  · exact .inr fun z => h6 ⟨e, V.int.inj z⟩
  · exact .inl fun z => e (V.int.inj z)
theorem chsB_drop {l : Int} {us : List Tr} {i : Nat} {x : Tr} (h : us[i]? = some x) : chsB l (us.drop i) = (chB x && (decide (l < placeT x) && chsB (placeT x) (us.drop (i + 1)))) := by
  rw [List.drop_eq_getElem_cons (List.getElem?_eq_some_iff.mp h).1, (List.getElem?_eq_some_iff.mp h).2]
  rfl
theorem ok_is_changes (T : Tx K mg) : FnOk P w K mg base CX0 4 (He.ga K "is_changes") T.fd_is_changes P_is_changes (spD K (wp_flag chsT) 1) := by
  refine dok T.F_is_changes sc_is_changes fun cdv A outer s H E hr => ?_
  refine' dokMk (PSs.nox (pss_cons (ps_if (pt_not (pt_val (pe_callB (show CallR _ _ (rIsi K) from call_isi) (by rfl) T.z_isinstance (by decide +kernel) (pa_cons (pv 0) (pa_cons (pe_bltn (v := .ty "list") (u := .type "list") (by rfl) T.z_list (by decide +kernel) rfl) pa_nil))))) (pss_one (ps_ret (pe_bl))) pss_nil) (pss_cons (ps_set (i := 1) sc_is_changes.nd rfl (Or.inl rfl) (pe_un un_neg (pe_int))) (pss_cons (ps_for PassesOwn.never rfl (LT.pi_seqK (K := K) rfl (pv 0)) (pg_name (i := 2) sc_is_changes.nd rfl (Or.inl rfl)) (pss_cons (ps_if (PW.pt (pw_or (pt_not (pt_val (pe_call (ok_is_change T) hr rfl T.g_is_change T.F_is_change.kp (b_is_change T) .nil pass0 (pa_cons (pv 2) pa_nil)))) (pw_or1 (pt_cmpR op_le (pe_ix (show IxR _ (LL.rIxA K) from LL.ix_A) (pv 2) (pe_int) (fun _ _ => rfl)) (pv 1) (nomark _))))) (pss_one (ps_ret (pe_bl))) pss_nil) (pss_one (ps_set (i := 1) sc_is_changes.nd rfl (Or.inl rfl) (pe_ix (show IxR _ (LL.rIxA K) from LL.ix_A) (pv 2) (pe_int) (fun _ _ => rfl)))))) (pss_one (ps_ret (pe_bl))))))) ?sim ?go
  case sim =>
    try simp only [LL.cxK0, LL.cxK1, List.map_cons, List.map_nil]
    repeat' (first | fail "s")
  case go =>
    intro ts Ω PQ PX hl h
    obtain ⟨t, rfl, hk, q⟩ := h
    simp! only [N_is_changes]
    refine ⟨data_kind hk, ?_⟩
    cases t with
    | lst us =>
      simp! only [and_true]
      refine for_S rfl rfl (fun i ρ' Ω' => Ω' = Ω ∧ ∃ (l : Int) (x : Option Tr), chsB l (us.drop i) = chsB (-1) us ∧ ρ' = [some (.lst us), some (.int l), x]) ⟨rfl, _, _, rfl, rfl⟩ (fun _ _ _ w => w.1 ▸ trivial) ?_ ?_
      · rintro hz i x ρ' Ω' hx ⟨rfl, l, y, he, rfl⟩
        rw [chsB_drop hx] at he
        simp! only [and_true]
        refine ⟨x, rfl, dataTs_mem hk (List.mem_of_getElem? hx), ?_⟩
        cases hc : chB x with
        | false =>
          rw [hc, Bool.false_and] at he
          rw [show chsT (.lst us) = chsB (-1) us from rfl, ← he] at q
          simp! only [and_true]
          exact q
        | true =>
          obtain ⟨c, rfl, _⟩ := chB_form hc
          rw [hc, Bool.true_and] at he
          simp! only [cT]
          refine itei (fun h => ?_) fun h => ?_
          · rw [show placeT (cT c) = c.p from rfl, decide_eq_false (by omega), Bool.false_and] at he
            rw [show chsT (.lst us) = chsB (-1) us from rfl, ← he] at q
            exact q
          · rw [show placeT (cT c) = c.p from rfl, decide_eq_true (by omega), Bool.true_and] at he
            exact ⟨_, he, rfl⟩
      · rintro ρ' Ω' ⟨rfl, l, y, he, rfl⟩
        rw [List.drop_length] at he
        rw [show chsT (.lst us) = chsB (-1) us from rfl, ← he] at q
        simp! only [and_true]
        exact q
    | _ => first | (cases (show false = true from hk); done) | (simp! only [and_true]; exact q)
def wp_changes : Pw := fun ts Ω PQ PX => ∃ b a, ts = [b, a] ∧ dataT b = true ∧ dataT a = true ∧ FewI b ∧ FewI a ∧ (imgB b = false → PX (badX (.str "before")) Ω) ∧ ∀ I, b = imT I → GI I → (imgB a = false → PX (badX (.str "after")) Ω) ∧ ∀ J, a = imT J → GI J → (like I J = false → PX (badX (.str "after")) Ω) ∧ (like I J = true → lstNew ((diff I J).map cT) Ω PQ)
def wp_put : Pw := fun ts Ω PQ _ => ∃ a b r cs ws hs, ts = [.obj a, .obj b, r] ∧ Ω a = some (.lst (ws.map Tr.int)) ∧ Ω b = some (.lst (hs.map Tr.int)) ∧ a ≠ b ∧ r ≠ .obj a ∧ r ≠ .obj b ∧ ws.length = hs.length ∧ asS r Ω = some (cs.map cT) ∧ (∀ c ∈ cs, 0 ≤ c.p) ∧ (putRows ws hs cs = none → ∀ ws' hs' : List Int, PQ (.bl false) (put (put Ω a (.lst (ws'.map Tr.int))) b (.lst (hs'.map Tr.int)))) ∧ ∀ ws' hs', putRows ws hs cs = some (ws', hs') → PQ (.bl true) (put (put Ω a (.lst (ws'.map Tr.int))) b (.lst (hs'.map Tr.int)))
end K11

namespace K11
open PySem PySem.Spec PyProof.Rows L2 LL LT
local macro_rules | `(tactic| fail "s") => `(tactic| first | (with_reducible first | exact sim_var | exact sim_int | exact sim_bl | exact sim_str | exact sim_non | exact sim_ty | exact sim_ref | exact sim_nil | apply sim_cons | apply sim_op | apply simr_I0 | apply simr_I | exact simr_Eq | exact simr_Ne | exact simr_IxA | exact simr_addG | exact simr_isN | exact simr_notN | exact simr_isB | exact simr_in | exact simr_IxL | exact simr_IxT | exact simr_IxS | exact simr_EqD | exact simr_NeD | exact simr_rep | exact simr_repW | apply sim_un | apply sim_test | apply sim_tB | apply sim_and | apply sim_or | apply sim_not | apply sim_andV | apply sim_orV | apply sim_notV | apply sim_if | apply sim_chain | apply sim_tup | apply sim_lst | apply sim_bor0 | apply sim_bor | apply sim_borS | apply sim_call0 | apply sim_call | apply sim_callS | apply sim_callZ | apply sim_isXT | apply sim_isX | apply sim_xf | apply sim_sortS | apply sim_listRg | apply sim_CB | exact simc_len | exact simc_int | exact simc_isi | exact simc_mx | exact simc_mn | exact simc_sum | exact simc_maxL | exact simc_minL | exact simc_minS | exact simc_all | exact simc_any | exact simc_list | exact simc_tuple | exact simc_isiT | exact simc_strI | exact simc_sortI | exact simc_sortR | apply sim_sl | exact simsl_G | exact simsl_L | exact sim_oNone | apply sim_oSome | apply sim_append | exact sim_newD | apply sim_disp1 | apply sim_dget2 | apply sim_dget1 | apply sim_dget | apply sim_din | apply sim_dnotin | apply sim_lc | apply sim_dc | exact sim_yes | apply sim_iL | apply sim_iT | apply sim_iS | apply sim_iR1 | apply sim_iR2 | apply sim_iE | apply sim_iZ | apply sim_revT | exact gin_name (by decide) | apply gin_tup | exact gin_nil | apply gin_cons | exact mono_name | exact mono_nil | apply mono_cons | apply mono_tup | exact sim_next | apply sim_mk | apply sim_fgl | apply sim_fg | apply sim_seq | apply sim_ret | exact sim_retN | apply sim_drop | exact sim_break | exact sim_cont | apply sim_ifS | apply sim_asg | exact sim_gName | apply sim_gTup | exact sim_gNil | apply sim_gCons | apply sim_gSub | apply sim_for | apply sim_while | apply sim_dput | apply sim_raise | apply sim_tryT0 | apply sim_tryT) | exact fun _ _ => rfl | exact fun _ => rfl | exact fun _ _ _ _ => rfl | intro W | intro a cls d x)
local macro_rules | `(tactic| fail "l") => `(tactic| (simp only [List.length_append,List.length_take,List.length_drop,List.length_map,List.length_cons,List.length_nil,List.length_set,List.length_replicate,List.length_range]; omega))
local macro_rules | `(tactic| fail "r") => `(tactic| first | fail "d" | with_reducible refine fun (_ : _ ≤ 1000000) => ?_ | with_reducible refine Or.inl (fun (_ : _ ≤ 1000000) => ?_) | with_reducible refine lst_in ?_ | with_reducible refine dic_in ?_ | with_reducible refine tk_call (by first | decide | exact tk_big (by omega) (by omega)) fun v h0 h1 => ?_ | with_reducible refine bt_call (by first | decide | exact tk_big (by omega) (by omega)) fun v h0 h1 => ?_ | with_reducible refine ct_call (by first | decide | exact ⟨by omega, by omega, by omega⟩) fun v h0 h1 => ?_ | with_reducible refine LL.itei (fun h => ?_) fun h => ?_ | with_reducible refine pickP (by omega) (by simp only [List.length_cons, List.length_nil]; omega) ?_ | with_reducible refine List.forall_mem_cons.mpr (And.intro ?_ ?_) | with_reducible exact LT.nil_all | with_reducible refine And.intro (by first | (unfold CPow; decide) | omega | rfl) ?_ | with_reducible refine am_call rfl (List.cons_ne_nil _ _) ?_ | refine And.intro (show CMul _ _ from .inl ⟨by omega, by omega⟩) ?_)
local macro_rules | `(tactic| fail "d") => `(tactic| simp only [and_true,dSortI,dSortR,dLstRg,dRepW,dRetF,dForgets,asD_put,dSortS,dDPut,dCallZ,dBor,dBor0,diZ,dRevT,dStrI,dIsXT,dTry0,dTry,dXf,dIsX,dNewD,dDisp1,Prod.mk.injEq,wipeT,Int.toNat_natCast,asL_put,put_same,put_put,Cell.lst.injEq,atI_0,atI_1,atI_2,atI_3,atI_4,atI_5,atI_6,atI_7,atI_8,atI_9,Tr.ty.injEq,tyN_int,tyN_bool,tyN_str,tyN_list,tyN_tuple,tyN_dict,dVar,dC,dName,dOp,dI,dI0,dUn,dU,dEq,dNe,dTest,dAnd,dOr,dNot,dAndV,dOrV,dNotV,dIf,dChain,dNil,dCons,dTup,dLst,dCall,dCall0,dCB,dNext,dSeq,dRet,dRetN,dDrop,dBreak,dCont,dIfS,dgNil,dgCons,dTupG,dAsg,diL,diT,diS,diR1,diR2,diE,dYes,dIx,dLen,dInt,dMx,dSum,dAll,dIsi,dIsiT,doNone,doSome,dSl,dApp,dSub,dSet,dEqD,dGet,dGet1,dGet2,LT.dIn,dIsN,dIsB,dIn',dList,dTuple,dRaise,dMaxL,dMinL,dMinS,dRep,asL_lst,asS_lst,asS_tup,asT_tup,flatV',Tr.int.injEq,Tr.bl.injEq,Tr.str.injEq,Tr.lst.injEq,Tr.tup.injEq,Tr.obj.injEq,Option.isSome_some,List.map_cons,List.map_nil,List.length_cons,List.length_nil,List.replicate_succ,List.replicate_zero,List.cons_append,List.nil_append,List.append_nil,List.getElem?_cons_zero,List.getElem?_cons_succ,List.set_cons_zero,List.set_cons_succ,Nat.add_sub_cancel,Nat.reduceAdd,Nat.reduceSub,Option.some.injEq,List.cons.injEq,and_true,true_and,and_false,false_and,exists_eq_left,exists_eq_left',exists_and_left,exists_and_right,exists_eq,exists_eq',LL.if_dec,reduceCtorEq,exists_false,exists_const,or_false,false_or,if_true,if_false,and_assoc,Int.reduceEq,Int.reduceNe,Int.reduceNeg,Int.reduceLT,Int.reduceLE,Int.reduceMul,Int.reduceAdd,Int.reduceSub,Int.reducePow,Int.reduceToNat,Nat.reducePow,Nat.reduceLT,Nat.reduceLeDiff,true_or,or_true,Bool.not_true,Bool.not_false,Bool.false_eq_true,Bool.or_false,Bool.or_true,Bool.true_or,Bool.false_or,decide_true,decide_false,not_true_eq_false,not_false_eq_true,LL.scal_int,LL.scal_bl,LL.scal_str,V.int.injEq,V.bl.injEq,V.str.injEq,Nat.zero_le,forall_const,true_implies,kindT_non,isNonT_non,flatT_non,flatK_non,isBT_non_true,isBT_non_false,toV_non,ofV_non,keyT_non,isT_non_int,isT_non_bool,isT_non_str,isT_non_list,isT_non_tuple,isT_non_dict,kindT_bl,isNonT_bl,flatT_bl,flatK_bl,toV_bl,ofV_bl,keyT_bl,isT_bl_int,isT_bl_bool,isT_bl_str,isT_bl_list,isT_bl_tuple,isT_bl_dict,kindT_int,isNonT_int,flatT_int,flatK_int,isBT_int_true,isBT_int_false,toV_int,ofV_int,keyT_int,isT_int_int,isT_int_bool,isT_int_str,isT_int_list,isT_int_tuple,isT_int_dict,kindT_str,isNonT_str,flatT_str,flatK_str,isBT_str_true,isBT_str_false,toV_str,ofV_str,keyT_str,isT_str_int,isT_str_bool,isT_str_str,isT_str_list,isT_str_tuple,isT_str_dict,kindT_lst,isNonT_lst,flatT_lst,flatK_lst,isBT_lst_true,isBT_lst_false,lenT_lst,keyT_lst,isT_lst_int,isT_lst_bool,isT_lst_str,isT_lst_list,isT_lst_tuple,isT_lst_dict,kindT_tup,isNonT_tup,flatT_tup,flatK_tup,isBT_tup_true,isBT_tup_false,lenT_tup,keyT_tup,isT_tup_int,isT_tup_bool,isT_tup_str,isT_tup_list,isT_tup_tuple,isT_tup_dict,kindT_dic,isNonT_dic,flatT_dic,flatK_dic,isBT_dic_true,isBT_dic_false,lenT_dic,keyT_dic,isT_dic_int,isT_dic_bool,isT_dic_str,isT_dic_list,isT_dic_tuple,isT_dic_dict,kindT_obj,isNonT_obj,flatT_obj,flatK_obj,isBT_obj_true,isBT_obj_false,keyT_obj,kindT_drw,isNonT_drw,flatT_drw,flatK_drw,isBT_drw_true,isBT_drw_false,keyT_drw,kindT_ty,isNonT_ty,flatT_ty,flatK_ty,isBT_ty_true,isBT_ty_false,toV_ty,ofV_ty,keyT_ty,asD_dic,isBT_bl,dAddG_int,dAddG_str,dAddG_tup,dAddG_lst_lst,dAddG_lst_obj,dAddG_obj_lst,dAddG_obj_obj,dSlG_tup,dSlG_str,dSlG_lst,dSlG_obj])
local macro_rules | `(tactic| simp! only [$xs,*]) => `(tactic| try simp only [$xs,*,dSortI,dSortR,dLstRg,dRepW,dRetF,dForgets,asD_put,dSortS,dDPut,dCallZ,dBor,dBor0,diZ,dRevT,dStrI,dIsXT,dTry0,dTry,dXf,dIsX,dNewD,dDisp1,Prod.mk.injEq,wipeT,Int.toNat_natCast,asL_put,put_same,put_put,Cell.lst.injEq,atI_0,atI_1,atI_2,atI_3,atI_4,atI_5,atI_6,atI_7,atI_8,atI_9,Tr.ty.injEq,tyN_int,tyN_bool,tyN_str,tyN_list,tyN_tuple,tyN_dict,dVar,dC,dName,dOp,dI,dI0,dUn,dU,dEq,dNe,dTest,dAnd,dOr,dNot,dAndV,dOrV,dNotV,dIf,dChain,dNil,dCons,dTup,dLst,dCall,dCall0,dCB,dNext,dSeq,dRet,dRetN,dDrop,dBreak,dCont,dIfS,dgNil,dgCons,dTupG,dAsg,diL,diT,diS,diR1,diR2,diE,dYes,dIx,dLen,dInt,dMx,dSum,dAll,dIsi,dIsiT,doNone,doSome,dSl,dApp,dSub,dSet,dEqD,dGet,dGet1,dGet2,LT.dIn,dIsN,dIsB,dIn',dList,dTuple,dRaise,dMaxL,dMinL,dMinS,dRep,asL_lst,asS_lst,asS_tup,asT_tup,flatV',Tr.int.injEq,Tr.bl.injEq,Tr.str.injEq,Tr.lst.injEq,Tr.tup.injEq,Tr.obj.injEq,Option.isSome_some,List.map_cons,List.map_nil,List.length_cons,List.length_nil,List.replicate_succ,List.replicate_zero,List.cons_append,List.nil_append,List.append_nil,List.getElem?_cons_zero,List.getElem?_cons_succ,List.set_cons_zero,List.set_cons_succ,Nat.add_sub_cancel,Nat.reduceAdd,Nat.reduceSub,Option.some.injEq,List.cons.injEq,and_true,true_and,and_false,false_and,exists_eq_left,exists_eq_left',exists_and_left,exists_and_right,exists_eq,exists_eq',LL.if_dec,reduceCtorEq,exists_false,exists_const,or_false,false_or,if_true,if_false,and_assoc,Int.reduceEq,Int.reduceNe,Int.reduceNeg,Int.reduceLT,Int.reduceLE,Int.reduceMul,Int.reduceAdd,Int.reduceSub,Int.reducePow,Int.reduceToNat,Nat.reducePow,Nat.reduceLT,Nat.reduceLeDiff,true_or,or_true,Bool.not_true,Bool.not_false,Bool.false_eq_true,Bool.or_false,Bool.or_true,Bool.true_or,Bool.false_or,decide_true,decide_false,not_true_eq_false,not_false_eq_true,LL.scal_int,LL.scal_bl,LL.scal_str,V.int.injEq,V.bl.injEq,V.str.injEq,Nat.zero_le,forall_const,true_implies,kindT_non,isNonT_non,flatT_non,flatK_non,isBT_non_true,isBT_non_false,toV_non,ofV_non,keyT_non,isT_non_int,isT_non_bool,isT_non_str,isT_non_list,isT_non_tuple,isT_non_dict,kindT_bl,isNonT_bl,flatT_bl,flatK_bl,toV_bl,ofV_bl,keyT_bl,isT_bl_int,isT_bl_bool,isT_bl_str,isT_bl_list,isT_bl_tuple,isT_bl_dict,kindT_int,isNonT_int,flatT_int,flatK_int,isBT_int_true,isBT_int_false,toV_int,ofV_int,keyT_int,isT_int_int,isT_int_bool,isT_int_str,isT_int_list,isT_int_tuple,isT_int_dict,kindT_str,isNonT_str,flatT_str,flatK_str,isBT_str_true,isBT_str_false,toV_str,ofV_str,keyT_str,isT_str_int,isT_str_bool,isT_str_str,isT_str_list,isT_str_tuple,isT_str_dict,kindT_lst,isNonT_lst,flatT_lst,flatK_lst,isBT_lst_true,isBT_lst_false,lenT_lst,keyT_lst,isT_lst_int,isT_lst_bool,isT_lst_str,isT_lst_list,isT_lst_tuple,isT_lst_dict,kindT_tup,isNonT_tup,flatT_tup,flatK_tup,isBT_tup_true,isBT_tup_false,lenT_tup,keyT_tup,isT_tup_int,isT_tup_bool,isT_tup_str,isT_tup_list,isT_tup_tuple,isT_tup_dict,kindT_dic,isNonT_dic,flatT_dic,flatK_dic,isBT_dic_true,isBT_dic_false,lenT_dic,keyT_dic,isT_dic_int,isT_dic_bool,isT_dic_str,isT_dic_list,isT_dic_tuple,isT_dic_dict,kindT_obj,isNonT_obj,flatT_obj,flatK_obj,isBT_obj_true,isBT_obj_false,keyT_obj,kindT_drw,isNonT_drw,flatT_drw,flatK_drw,isBT_drw_true,isBT_drw_false,keyT_drw,kindT_ty,isNonT_ty,flatT_ty,flatK_ty,isBT_ty_true,isBT_ty_false,toV_ty,ofV_ty,keyT_ty,asD_dic,isBT_bl,dAddG_int,dAddG_str,dAddG_tup,dAddG_lst_lst,dAddG_lst_obj,dAddG_obj_lst,dAddG_obj_obj,dSlG_tup,dSlG_str,dSlG_lst,dSlG_obj])
variable {P : Program} {w : World} {K : PySem.W.Frag} {mg : Str → Option Value} {base : Heap}

/-! ### pure: pairs, rows -/
theorem lay_ints : ∀ {ns : List Int}, PyData.canLayAll0 (toPs (ns.map Tr.int)) = true
  | [] => rfl
  | n :: ns => by
    show (PyData.canLay0 (.int n) && PyData.canLayAll0 (toPs (ns.map Tr.int))) = true
    rw [lay_ints]
    rfl
theorem ok_ints {ns : List Int} : okEq (.tup (ns.map Tr.int)) = true := by
  have h1 : plainT (.tup (ns.map Tr.int)) = true := by
    show plainTs (ns.map Tr.int) = true
    induction ns with
    | nil => rfl
    | cons n ns ih => show (true && plainTs (ns.map Tr.int)) = true; rw [ih]; rfl
  have h2 : PyData.depth (toP (.tup (ns.map Tr.int))) ≤ 64 := by
    have : ∀ ns : List Int, PyData.depthAll (toPs (ns.map Tr.int)) = 0 := by
      intro ns
      induction ns with
      | nil => simp [toPs, PyData.depthAll]
      | cons n ns ih => simp [toPs, toP, PyData.depthAll, PyData.depth, ih]
    show PyData.depth (.tuple (toPs (ns.map Tr.int))) ≤ 64
    simp [PyData.depth, this]
  unfold okEq SeqAt.shaped
  rw [h1, decide_eq_true h2, show PyData.canLay0 (toP (.tup (ns.map Tr.int))) = true from lay_ints]
  rfl
theorem ok_pair {a b : Int} : okEq (.tup [.int a, .int b]) = true := ok_ints (ns := [a, b])
theorem eq_pair {a b c d : Int} : LT.eqT (.tup [.int a, .int b]) (.tup [.int c, .int d]) = (decide (a = c) && decide (b = d)) := by
  unfold LT.eqT
  simp only [toP, toPs, PyData.eqv, PyData.eqvAll, Bool.and_true]
  by_cases h1 : a = c <;> by_cases h2 : b = d <;> simp [h1, h2]
theorem atI_map {ns : List Int} {i : Nat} {n : Int} (h : ns[i]? = some n) : L2.atI (ns.map Tr.int) (i : Int) = some (.int n) := atI_nat (by rw [List.getElem?_map, h]; rfl)
theorem diffL_drop {p : Int} {ws hs ws' hs' : List Int} {i : Nat} {a b a' b' : Int} (h1 : ws[i]? = some a) (h2 : hs[i]? = some b) (h3 : ws'[i]? = some a') (h4 : hs'[i]? = some b') : diffL p (ws.drop i) (hs.drop i) (ws'.drop i) (hs'.drop i) = (if a = a' ∧ b = b' then diffL (p + 1) (ws.drop (i + 1)) (hs.drop (i + 1)) (ws'.drop (i + 1)) (hs'.drop (i + 1)) else ⟨p, a, b, a', b'⟩ :: diffL (p + 1) (ws.drop (i + 1)) (hs.drop (i + 1)) (ws'.drop (i + 1)) (hs'.drop (i + 1))) := by
  have d : ∀ {l : List Int} {x : Int}, l[i]? = some x → l.drop i = x :: l.drop (i + 1) := fun {l x} h => by
    rw [List.drop_eq_getElem_cons (List.getElem?_eq_some_iff.mp h).1, (List.getElem?_eq_some_iff.mp h).2]
  rw [d h1, d h2, d h3, d h4]
  rfl
theorem diffL_le : ∀ {p : Int} {ws hs ws' hs' : List Int}, (diffL p ws hs ws' hs').length ≤ ws.length
  | _, [], _, _, _ => by simp [diffL]
  | _, _ :: _, [], _, _ => by simp [diffL]
  | _, _ :: _, _ :: _, [], _ => by simp [diffL]
  | _, _ :: _, _ :: _, _ :: _, [] => by simp [diffL]
  | p, w :: ws, h :: hs, w' :: ws', h' :: hs' => by
    have ih := diffL_le (p := p + 1) (ws := ws) (hs := hs) (ws' := ws') (hs' := hs')
    unfold diffL
    split
    · simp only [List.length_cons]; omega
    · simp only [List.length_cons]; omega
theorem like_iff {I J : Img} : like I J = true ↔ J.w = I.w ∧ J.f = I.f ∧ J.ws.length = I.ws.length := by
  unfold like
  simp only [Bool.and_eq_true, decide_eq_true_eq]
theorem GI.n {I : Img} (h : GI I) : 16 ≤ I.ws.length ∧ I.ws.length ≤ 16384 ∧ (I.ws.length : Int) % I.w = 0 ∧ 0 < I.w := by
  have hw := h.w
  have hf := h.fit
  simp only [widthB, Bool.or_eq_true, decide_eq_true_eq] at hw
  simp only [fitsB, Bool.and_eq_true, decide_eq_true_eq] at hf
  rcases hw with (hw | hw) | hw <;> rw [hw] at hf ⊢ <;> omega
theorem stay_ne {t : Tr} {ts : List Tr} {Ω : Om} {a : Addr} {c : Cell} (s : stay t ts Ω) (h : t ≠ .obj a) : stay t ts (put Ω a c) := by
  cases t with
  | obj b =>
    show put Ω a c b = _
    rw [put_ne (fun z => h (by rw [z]))]
    exact s
  | _ => trivial
theorem put_self {Ω : Om} {a : Addr} {c : Cell} (h : Ω a = some c) : put Ω a c = Ω := by
  funext b
  by_cases e : b = a
  · rw [e, put_same, h]
  · rw [put_ne e]
theorem put_comm {Ω : Om} {a b : Addr} {c d : Cell} (h : a ≠ b) : put (put Ω a c) b d = put (put Ω b d) a c := by
  funext x
  by_cases e1 : x = a
  · subst e1
    rw [put_ne h, put_same, put_same]
  · by_cases e2 : x = b
    · subst e2
      rw [put_same, put_ne e1, put_same]
    · rw [put_ne e2, put_ne e1, put_ne e1, put_ne e2]
theorem atI_ix {ns : List Int} {p : Int} (h0 : 0 ≤ p) (h1 : p < ns.length) : ∃ n, ns[p.toNat]? = some n ∧ L2.atI (ns.map Tr.int) p = some (.int n) ∧ ixN (ns.map Tr.int).length p = some p.toNat := by
  obtain ⟨k, rfl⟩ := Int.eq_ofNat_of_zero_le h0
  have hk : k < ns.length := by omega
  refine ⟨ns[k], List.getElem?_eq_getElem hk, atI_map (List.getElem?_eq_getElem hk), ?_⟩
  unfold ixN
  rw [List.length_map, if_pos (by omega), if_pos (by omega)]
theorem putRows_cons {ws hs : List Int} {c : Ch} {cs : List Ch} {w h : Int} (h1 : c.p < ws.length) (h2 : ws[c.p.toNat]? = some w) (h3 : hs[c.p.toNat]? = some h) : putRows ws hs (c :: cs) = if w = c.w ∧ h = c.h then putRows (ws.set c.p.toNat c.w') (hs.set c.p.toNat c.h') cs else none := by
  unfold putRows
  rw [h2, h3]
  by_cases e : w = c.w ∧ h = c.h
  · rw [if_pos e, if_pos ⟨h1, by rw [e.1], by rw [e.2]⟩]
    cases cs <;> rfl
  · rw [if_neg e, if_neg (fun z => e ⟨Option.some.inj z.2.1, Option.some.inj z.2.2⟩)]
theorem putRows_out {ws hs : List Int} {c : Ch} {cs : List Ch} (h1 : ¬ c.p < ws.length) : putRows ws hs (c :: cs) = none := by
  unfold putRows
  rw [if_neg (fun z => h1 z.1)]
end K11

namespace K11
open PySem PySem.Spec PyProof.Rows L2 LL LT
local macro_rules | `(tactic| fail "s") => `(tactic| first | (with_reducible first | exact sim_var | exact sim_int | exact sim_bl | exact sim_str | exact sim_non | exact sim_ty | exact sim_ref | exact sim_nil | apply sim_cons | apply sim_op | apply simr_I0 | apply simr_I | exact simr_Eq | exact simr_Ne | exact simr_IxA | exact simr_addG | exact simr_isN | exact simr_notN | exact simr_isB | exact simr_in | exact simr_IxL | exact simr_IxT | exact simr_IxS | exact simr_EqD | exact simr_NeD | exact simr_rep | exact simr_repW | apply sim_un | apply sim_test | apply sim_tB | apply sim_and | apply sim_or | apply sim_not | apply sim_andV | apply sim_orV | apply sim_notV | apply sim_if | apply sim_chain | apply sim_tup | apply sim_lst | apply sim_bor0 | apply sim_bor | apply sim_borS | apply sim_call0 | apply sim_call | apply sim_callS | apply sim_callZ | apply sim_isXT | apply sim_isX | apply sim_xf | apply sim_sortS | apply sim_listRg | apply sim_CB | exact simc_len | exact simc_int | exact simc_isi | exact simc_mx | exact simc_mn | exact simc_sum | exact simc_maxL | exact simc_minL | exact simc_minS | exact simc_all | exact simc_any | exact simc_list | exact simc_tuple | exact simc_isiT | exact simc_strI | exact simc_sortI | exact simc_sortR | apply sim_sl | exact simsl_G | exact simsl_L | exact sim_oNone | apply sim_oSome | apply sim_append | exact sim_newD | apply sim_disp1 | apply sim_dget2 | apply sim_dget1 | apply sim_dget | apply sim_din | apply sim_dnotin | apply sim_lc | apply sim_dc | exact sim_yes | apply sim_iL | apply sim_iT | apply sim_iS | apply sim_iR1 | apply sim_iR2 | apply sim_iE | apply sim_iZ | apply sim_revT | exact gin_name (by decide) | apply gin_tup | exact gin_nil | apply gin_cons | exact mono_name | exact mono_nil | apply mono_cons | apply mono_tup | exact sim_next | apply sim_mk | apply sim_fgl | apply sim_fg | apply sim_seq | apply sim_ret | exact sim_retN | apply sim_drop | exact sim_break | exact sim_cont | apply sim_ifS | apply sim_asg | exact sim_gName | apply sim_gTup | exact sim_gNil | apply sim_gCons | apply sim_gSub | apply sim_for | apply sim_while | apply sim_dput | apply sim_raise | apply sim_tryT0 | apply sim_tryT) | exact fun _ _ => rfl | exact fun _ => rfl | exact fun _ _ _ _ => rfl | intro W | intro a cls d x)
local macro_rules | `(tactic| fail "l") => `(tactic| (simp only [List.length_append,List.length_take,List.length_drop,List.length_map,List.length_cons,List.length_nil,List.length_set,List.length_replicate,List.length_range]; omega))
local macro_rules | `(tactic| fail "r") => `(tactic| first | fail "d" | with_reducible refine fun (_ : _ ≤ 1000000) => ?_ | with_reducible refine Or.inl (fun (_ : _ ≤ 1000000) => ?_) | with_reducible refine lst_in ?_ | with_reducible refine dic_in ?_ | with_reducible refine tk_call (by first | decide | exact tk_big (by omega) (by omega)) fun v h0 h1 => ?_ | with_reducible refine bt_call (by first | decide | exact tk_big (by omega) (by omega)) fun v h0 h1 => ?_ | with_reducible refine ct_call (by first | decide | exact ⟨by omega, by omega, by omega⟩) fun v h0 h1 => ?_ | with_reducible refine LL.itei (fun h => ?_) fun h => ?_ | with_reducible refine pickP (by omega) (by simp only [List.length_cons, List.length_nil]; omega) ?_ | with_reducible refine List.forall_mem_cons.mpr (And.intro ?_ ?_) | with_reducible exact LT.nil_all | with_reducible refine And.intro (by first | (unfold CPow; decide) | omega | rfl) ?_ | with_reducible refine am_call rfl (List.cons_ne_nil _ _) ?_ | refine And.intro (show CMul _ _ from .inl ⟨by omega, by omega⟩) ?_)
local macro_rules | `(tactic| fail "d") => `(tactic| simp only [and_true,dSortI,dSortR,dLstRg,dRepW,dRetF,dForgets,asD_put,dSortS,dDPut,dCallZ,dBor,dBor0,diZ,dRevT,dStrI,dIsXT,dTry0,dTry,dXf,dIsX,dNewD,dDisp1,Prod.mk.injEq,wipeT,Int.toNat_natCast,asL_put,put_same,put_put,Cell.lst.injEq,atI_0,atI_1,atI_2,atI_3,atI_4,atI_5,atI_6,atI_7,atI_8,atI_9,Tr.ty.injEq,tyN_int,tyN_bool,tyN_str,tyN_list,tyN_tuple,tyN_dict,dVar,dC,dName,dOp,dI,dI0,dUn,dU,dEq,dNe,dTest,dAnd,dOr,dNot,dAndV,dOrV,dNotV,dIf,dChain,dNil,dCons,dTup,dLst,dCall,dCall0,dCB,dNext,dSeq,dRet,dRetN,dDrop,dBreak,dCont,dIfS,dgNil,dgCons,dTupG,dAsg,diL,diT,diS,diR1,diR2,diE,dYes,dIx,dLen,dInt,dMx,dSum,dAll,dIsi,dIsiT,doNone,doSome,dSl,dApp,dSub,dSet,dEqD,dGet,dGet1,dGet2,LT.dIn,dIsN,dIsB,dIn',dList,dTuple,dRaise,dMaxL,dMinL,dMinS,dRep,asL_lst,asS_lst,asS_tup,asT_tup,flatV',Tr.int.injEq,Tr.bl.injEq,Tr.str.injEq,Tr.lst.injEq,Tr.tup.injEq,Tr.obj.injEq,Option.isSome_some,List.map_cons,List.map_nil,List.length_cons,List.length_nil,List.replicate_succ,List.replicate_zero,List.cons_append,List.nil_append,List.append_nil,List.getElem?_cons_zero,List.getElem?_cons_succ,List.set_cons_zero,List.set_cons_succ,Nat.add_sub_cancel,Nat.reduceAdd,Nat.reduceSub,Option.some.injEq,List.cons.injEq,and_true,true_and,and_false,false_and,exists_eq_left,exists_eq_left',exists_and_left,exists_and_right,exists_eq,exists_eq',LL.if_dec,reduceCtorEq,exists_false,exists_const,or_false,false_or,if_true,if_false,and_assoc,Int.reduceEq,Int.reduceNe,Int.reduceNeg,Int.reduceLT,Int.reduceLE,Int.reduceMul,Int.reduceAdd,Int.reduceSub,Int.reducePow,Int.reduceToNat,Nat.reducePow,Nat.reduceLT,Nat.reduceLeDiff,true_or,or_true,Bool.not_true,Bool.not_false,Bool.false_eq_true,Bool.or_false,Bool.or_true,Bool.true_or,Bool.false_or,decide_true,decide_false,not_true_eq_false,not_false_eq_true,LL.scal_int,LL.scal_bl,LL.scal_str,V.int.injEq,V.bl.injEq,V.str.injEq,Nat.zero_le,forall_const,true_implies,kindT_non,isNonT_non,flatT_non,flatK_non,isBT_non_true,isBT_non_false,toV_non,ofV_non,keyT_non,isT_non_int,isT_non_bool,isT_non_str,isT_non_list,isT_non_tuple,isT_non_dict,kindT_bl,isNonT_bl,flatT_bl,flatK_bl,toV_bl,ofV_bl,keyT_bl,isT_bl_int,isT_bl_bool,isT_bl_str,isT_bl_list,isT_bl_tuple,isT_bl_dict,kindT_int,isNonT_int,flatT_int,flatK_int,isBT_int_true,isBT_int_false,toV_int,ofV_int,keyT_int,isT_int_int,isT_int_bool,isT_int_str,isT_int_list,isT_int_tuple,isT_int_dict,kindT_str,isNonT_str,flatT_str,flatK_str,isBT_str_true,isBT_str_false,toV_str,ofV_str,keyT_str,isT_str_int,isT_str_bool,isT_str_str,isT_str_list,isT_str_tuple,isT_str_dict,kindT_lst,isNonT_lst,flatT_lst,flatK_lst,isBT_lst_true,isBT_lst_false,lenT_lst,keyT_lst,isT_lst_int,isT_lst_bool,isT_lst_str,isT_lst_list,isT_lst_tuple,isT_lst_dict,kindT_tup,isNonT_tup,flatT_tup,flatK_tup,isBT_tup_true,isBT_tup_false,lenT_tup,keyT_tup,isT_tup_int,isT_tup_bool,isT_tup_str,isT_tup_list,isT_tup_tuple,isT_tup_dict,kindT_dic,isNonT_dic,flatT_dic,flatK_dic,isBT_dic_true,isBT_dic_false,lenT_dic,keyT_dic,isT_dic_int,isT_dic_bool,isT_dic_str,isT_dic_list,isT_dic_tuple,isT_dic_dict,kindT_obj,isNonT_obj,flatT_obj,flatK_obj,isBT_obj_true,isBT_obj_false,keyT_obj,kindT_drw,isNonT_drw,flatT_drw,flatK_drw,isBT_drw_true,isBT_drw_false,keyT_drw,kindT_ty,isNonT_ty,flatT_ty,flatK_ty,isBT_ty_true,isBT_ty_false,toV_ty,ofV_ty,keyT_ty,asD_dic,isBT_bl,dAddG_int,dAddG_str,dAddG_tup,dAddG_lst_lst,dAddG_lst_obj,dAddG_obj_lst,dAddG_obj_obj,dSlG_tup,dSlG_str,dSlG_lst,dSlG_obj])
local macro_rules | `(tactic| simp! only [$xs,*]) => `(tactic| try simp only [$xs,*,dSortI,dSortR,dLstRg,dRepW,dRetF,dForgets,asD_put,dSortS,dDPut,dCallZ,dBor,dBor0,diZ,dRevT,dStrI,dIsXT,dTry0,dTry,dXf,dIsX,dNewD,dDisp1,Prod.mk.injEq,wipeT,Int.toNat_natCast,asL_put,put_same,put_put,Cell.lst.injEq,atI_0,atI_1,atI_2,atI_3,atI_4,atI_5,atI_6,atI_7,atI_8,atI_9,Tr.ty.injEq,tyN_int,tyN_bool,tyN_str,tyN_list,tyN_tuple,tyN_dict,dVar,dC,dName,dOp,dI,dI0,dUn,dU,dEq,dNe,dTest,dAnd,dOr,dNot,dAndV,dOrV,dNotV,dIf,dChain,dNil,dCons,dTup,dLst,dCall,dCall0,dCB,dNext,dSeq,dRet,dRetN,dDrop,dBreak,dCont,dIfS,dgNil,dgCons,dTupG,dAsg,diL,diT,diS,diR1,diR2,diE,dYes,dIx,dLen,dInt,dMx,dSum,dAll,dIsi,dIsiT,doNone,doSome,dSl,dApp,dSub,dSet,dEqD,dGet,dGet1,dGet2,LT.dIn,dIsN,dIsB,dIn',dList,dTuple,dRaise,dMaxL,dMinL,dMinS,dRep,asL_lst,asS_lst,asS_tup,asT_tup,flatV',Tr.int.injEq,Tr.bl.injEq,Tr.str.injEq,Tr.lst.injEq,Tr.tup.injEq,Tr.obj.injEq,Option.isSome_some,List.map_cons,List.map_nil,List.length_cons,List.length_nil,List.replicate_succ,List.replicate_zero,List.cons_append,List.nil_append,List.append_nil,List.getElem?_cons_zero,List.getElem?_cons_succ,List.set_cons_zero,List.set_cons_succ,Nat.add_sub_cancel,Nat.reduceAdd,Nat.reduceSub,Option.some.injEq,List.cons.injEq,and_true,true_and,and_false,false_and,exists_eq_left,exists_eq_left',exists_and_left,exists_and_right,exists_eq,exists_eq',LL.if_dec,reduceCtorEq,exists_false,exists_const,or_false,false_or,if_true,if_false,and_assoc,Int.reduceEq,Int.reduceNe,Int.reduceNeg,Int.reduceLT,Int.reduceLE,Int.reduceMul,Int.reduceAdd,Int.reduceSub,Int.reducePow,Int.reduceToNat,Nat.reducePow,Nat.reduceLT,Nat.reduceLeDiff,true_or,or_true,Bool.not_true,Bool.not_false,Bool.false_eq_true,Bool.or_false,Bool.or_true,Bool.true_or,Bool.false_or,decide_true,decide_false,not_true_eq_false,not_false_eq_true,LL.scal_int,LL.scal_bl,LL.scal_str,V.int.injEq,V.bl.injEq,V.str.injEq,Nat.zero_le,forall_const,true_implies,kindT_non,isNonT_non,flatT_non,flatK_non,isBT_non_true,isBT_non_false,toV_non,ofV_non,keyT_non,isT_non_int,isT_non_bool,isT_non_str,isT_non_list,isT_non_tuple,isT_non_dict,kindT_bl,isNonT_bl,flatT_bl,flatK_bl,toV_bl,ofV_bl,keyT_bl,isT_bl_int,isT_bl_bool,isT_bl_str,isT_bl_list,isT_bl_tuple,isT_bl_dict,kindT_int,isNonT_int,flatT_int,flatK_int,isBT_int_true,isBT_int_false,toV_int,ofV_int,keyT_int,isT_int_int,isT_int_bool,isT_int_str,isT_int_list,isT_int_tuple,isT_int_dict,kindT_str,isNonT_str,flatT_str,flatK_str,isBT_str_true,isBT_str_false,toV_str,ofV_str,keyT_str,isT_str_int,isT_str_bool,isT_str_str,isT_str_list,isT_str_tuple,isT_str_dict,kindT_lst,isNonT_lst,flatT_lst,flatK_lst,isBT_lst_true,isBT_lst_false,lenT_lst,keyT_lst,isT_lst_int,isT_lst_bool,isT_lst_str,isT_lst_list,isT_lst_tuple,isT_lst_dict,kindT_tup,isNonT_tup,flatT_tup,flatK_tup,isBT_tup_true,isBT_tup_false,lenT_tup,keyT_tup,isT_tup_int,isT_tup_bool,isT_tup_str,isT_tup_list,isT_tup_tuple,isT_tup_dict,kindT_dic,isNonT_dic,flatT_dic,flatK_dic,isBT_dic_true,isBT_dic_false,lenT_dic,keyT_dic,isT_dic_int,isT_dic_bool,isT_dic_str,isT_dic_list,isT_dic_tuple,isT_dic_dict,kindT_obj,isNonT_obj,flatT_obj,flatK_obj,isBT_obj_true,isBT_obj_false,keyT_obj,kindT_drw,isNonT_drw,flatT_drw,flatK_drw,isBT_drw_true,isBT_drw_false,keyT_drw,kindT_ty,isNonT_ty,flatT_ty,flatK_ty,isBT_ty_true,isBT_ty_false,toV_ty,ofV_ty,keyT_ty,asD_dic,isBT_bl,dAddG_int,dAddG_str,dAddG_tup,dAddG_lst_lst,dAddG_lst_obj,dAddG_obj_lst,dAddG_obj_obj,dSlG_tup,dSlG_str,dSlG_lst,dSlG_obj])
variable {P : Program} {w : World} {K : PySem.W.Frag} {mg : Str → Option Value} {base : Heap}

theorem ok_changes (T : Tx K mg) : FnOk P w K mg base (L2.CX P w) 5 (He.ga K "changes") T.fd_changes P_changes (spD K wp_changes 2) := by
  refine dok T.F_changes sc_changes fun cdv A outer s H E hr => ?_
  refine' dokMk ((pss_cons (ps_expr (pe_call (ok_need T) (hr.mono (by decide)) rfl T.g_need T.F_need.kp (b_need T) .nil (passR (takes_of rfl rfl rfl rfl) (fun _ _ _ _ h => h)) (pa_cons (pe_call (ok_is_image T) hr rfl T.g_is_image T.F_is_image.kp (b_is_image T) .nil pass0 (pa_cons (pv 0) pa_nil)) (pa_cons (pe_str) pa_nil)))) (pss_cons (ps_expr (pe_call (ok_need T) (hr.mono (by decide)) rfl T.g_need T.F_need.kp (b_need T) .nil (passR (takes_of rfl rfl rfl rfl) (fun _ _ _ _ h => h)) (pa_cons ((pe_and (pe_call (ok_is_image T) hr rfl T.g_is_image T.F_is_image.kp (b_is_image T) .nil pass0 (pa_cons (pv 1) pa_nil)) (pe_and (pe_cmpR (show OpR _ _ (rEqD K) from op_eqD hr.units) (pe_slice (show SlR _ (LT.rSlG K) from LT.sl_G) (pv 1) po_none (po_some (pe_int))) (pe_slice (show SlR _ (LT.rSlG K) from LT.sl_G) (pv 0) po_none (po_some (pe_int))) (nomark _)) (pe_one (pe_cmpR op_eq (pe_callB (show CallR _ _ (LT.rLenS K) from LT.call_lenS) (by rfl) T.z_len (by decide +kernel) (pa_cons (pe_ix (show IxR _ (LL.rIxA K) from LL.ix_A) (pv 1) (pe_int) (fun _ _ => rfl)) pa_nil)) (pe_callB (show CallR _ _ (LT.rLenS K) from LT.call_lenS) (by rfl) T.z_len (by decide +kernel) (pa_cons (pe_ix (show IxR _ (LL.rIxA K) from LL.ix_A) (pv 0) (pe_int) (fun _ _ => rfl)) pa_nil)) (nomark _)))))) (pa_cons (pe_str) pa_nil)))) (pss_cons (ps_set (i := 2) sc_changes.nd rfl (Or.inl rfl) (pe_lst pa_nil)) (pss_cons (ps_for (passes_of rfl) rfl (pi_range1 rfl T.z_range (pa_cons (pe_callB (show CallR _ _ (LT.rLenS K) from LT.call_lenS) (by rfl) T.z_len (by decide +kernel) (pa_cons (pe_ix (show IxR _ (LL.rIxA K) from LL.ix_A) (pv 0) (pe_int) (fun _ _ => rfl)) pa_nil)) pa_nil)) (pg_name (i := 3) sc_changes.nd rfl (Or.inl rfl)) (pss_cons (ps_set (i := 4) sc_changes.nd rfl (Or.inl rfl) (pe_tup (pa_cons (pe_ix (show IxR _ (LL.rIxA K) from LL.ix_A) (pe_ix (show IxR _ (LL.rIxA K) from LL.ix_A) (pv 0) (pe_int) (fun _ _ => rfl)) (pv 3) (fun _ _ => rfl)) (pa_cons (pe_ix (show IxR _ (LL.rIxA K) from LL.ix_A) (pe_ix (show IxR _ (LL.rIxA K) from LL.ix_A) (pv 0) (pe_int) (fun _ _ => rfl)) (pv 3) (fun _ _ => rfl)) pa_nil)))) (pss_cons (ps_set (i := 5) sc_changes.nd rfl (Or.inl rfl) (pe_tup (pa_cons (pe_ix (show IxR _ (LL.rIxA K) from LL.ix_A) (pe_ix (show IxR _ (LL.rIxA K) from LL.ix_A) (pv 1) (pe_int) (fun _ _ => rfl)) (pv 3) (fun _ _ => rfl)) (pa_cons (pe_ix (show IxR _ (LL.rIxA K) from LL.ix_A) (pe_ix (show IxR _ (LL.rIxA K) from LL.ix_A) (pv 1) (pe_int) (fun _ _ => rfl)) (pv 3) (fun _ _ => rfl)) pa_nil)))) (pss_one (ps_if (pt_cmpR (show OpR _ _ (rNeD K) from op_neD hr.units) (pv 4) (pv 5) (nomark _)) (pss_one (ps_expr (pe_bm PySem.F.plainAttrs_list PySem.F.slot_list_append PySem.F.type_list_append mt_append (pv 2) (pa_cons (pe_op (show OpR _ _ (LT.rAddG K) from LT.op_addG) (pe_op (show OpR _ _ (LT.rAddG K) from LT.op_addG) (pe_tup (pa_cons (pv 3) pa_nil)) (pv 4)) (pv 5)) pa_nil)))) pss_nil))))) (pss_one (ps_ret (pv 2)))))))) ?sim ?go
  case sim =>
    try simp only [LL.cxK0, LL.cxK1, List.map_cons, List.map_nil]
    repeat' (first | with_reducible apply sim_retThaw (i := 2) | fail "s")
  case go =>
    intro ts Ω PQ PX hl h
    obtain ⟨b, a, rfl, hdb, hda, fb, fa, q1, q2⟩ := h
    simp! only [N_changes]
    refine ⟨b, rfl, hdb, fb, ?_⟩
    cases hb : imgB b with
    | false =>
      simp! only [and_true]
      exact ⟨_, _, rfl, fun z => (by cases z), fun _ => q1 hb⟩
    | true =>
    obtain ⟨I, rfl, gi⟩ := imgB_form hb
    obtain ⟨q2, q3⟩ := q2 I rfl gi
    simp! only [and_true]
    refine ⟨_, _, rfl, fun _ => ?_, fun z => (by cases z)⟩
    simp! only [and_true]
    refine ⟨a, rfl, hda, fa, ?_⟩
    cases ha : imgB a with
    | false =>
      simp! only [and_true]
      exact ⟨_, _, rfl, fun z => (by cases z), fun _ => q2 ha⟩
    | true =>
    obtain ⟨J, rfl, gj⟩ := imgB_form ha
    obtain ⟨q3, q4⟩ := q3 J rfl gj
    simp! only [imT]
    rw [show cutT [Tr.int J.w, .int J.f, .tup (J.ws.map Tr.int), .tup (J.hs.map Tr.int)] none (some 2) = [.int J.w, .int J.f] from rfl, show cutT [Tr.int I.w, .int I.f, .tup (I.ws.map Tr.int), .tup (I.hs.map Tr.int)] none (some 2) = [.int I.w, .int I.f] from rfl]
    refine ⟨ok_pair, ok_pair, ?_⟩
    rw [eq_pair]
    by_cases e1 : J.w = I.w ∧ J.f = I.f
    · rw [if_pos (by simp [e1.1, e1.2])]
      simp! only [and_true]
      intro hz1 hz2
      refine ⟨_, _, rfl, fun hlen => ?_, fun hlen => q3 ?_⟩
      · have hlen' : J.ws.length = I.ws.length := by have h := of_decide_eq_true hlen; rw [List.length_map, List.length_map] at h; omega
        have hlk := like_iff.mpr ⟨e1.1, e1.2, hlen'⟩
        have q5 := q4 hlk
        have gn := gi.n
        refine .inr fun c hc => ?_
        refine for_R1 (n := (I.ws.length : Nat)) (Ω1 := put Ω c (.lst [])) (fun P p => ?_) (by omega) (fun i ρ' Ω' => ∃ (acc : List Ch) (x3 x4 x5 : Option Tr), Ω' = put Ω c (.lst (acc.map cT)) ∧ ρ' = [some (imT I), some (imT J), some (.obj c), x3, x4, x5] ∧ acc.length ≤ i ∧ acc ++ diffL i (I.ws.drop i) (I.hs.drop i) (J.ws.drop i) (J.hs.drop i) = diff I J) ⟨[], _, _, _, rfl, rfl, Nat.le_refl _, rfl⟩ ?_ ?_
        · simp! only [imT, List.length_map]
          exact fun _ => p
        · rintro i ρ' Ω' hi ⟨acc, x3, x4, x5, rfl, rfl, hal, he⟩
          have hli := gi.len
          have hlj := gj.len
          obtain ⟨a, ha1⟩ : ∃ a, I.ws[i]? = some a := ⟨_, List.getElem?_eq_getElem (show i < I.ws.length by omega)⟩
          obtain ⟨b, hb1⟩ : ∃ a, I.hs[i]? = some a := ⟨_, List.getElem?_eq_getElem (show i < I.hs.length by omega)⟩
          obtain ⟨a', ha2⟩ : ∃ a, J.ws[i]? = some a := ⟨_, List.getElem?_eq_getElem (show i < J.ws.length by omega)⟩
          obtain ⟨b', hb2⟩ : ∃ a, J.hs[i]? = some a := ⟨_, List.getElem?_eq_getElem (show i < J.hs.length by omega)⟩
          rw [diffL_drop ha1 hb1 ha2 hb2] at he
          have e1 := atI_map ha1
          have e2 := atI_map hb1
          have e3 := atI_map ha2
          have e4 := atI_map hb2
          simp! only [imT, e1, e2, e3, e4]
          refine ⟨ok_pair, ok_pair, ?_⟩
          rw [eq_pair]
          by_cases eq : a = a' ∧ b = b'
          · rw [if_neg (by simp [eq.1, eq.2])]
            rw [if_pos eq] at he
            exact ⟨acc, rfl, by omega, by rw [show ((i : Int) + 1) = ((i + 1 : Nat) : Int) by omega] at he; exact he⟩
          · rw [if_pos (by cases h : (decide (a = a') && decide (b = b')) with | false => rfl | true => exact absurd (by simpa using h) eq)]
            rw [if_neg eq] at he
            simp! only [asL_put]
            refine ⟨by rw [List.length_map]; omega, acc ++ [⟨i, a, b, a', b'⟩], by rw [List.map_append]; rfl, by rw [List.length_append]; exact Nat.succ_le_succ hal, ?_⟩
            rw [List.append_assoc]
            rw [show ((i : Int) + 1) = ((i + 1 : Nat) : Int) by omega] at he
            exact he
        · rintro ρ' Ω' ⟨acc, x3, x4, x5, rfl, rfl, hal, he⟩
          rw [show ((I.ws.length : Nat) : Int).toNat = I.ws.length by omega, List.drop_length] at he
          rw [show diffL _ [] _ _ _ = [] from by simp [diffL], List.append_nil] at he
          subst he
          rcases q5 with q5 | q5
          · exact ret_new rfl hc q5
          · refine .inl ?_
            simp! only [and_true]
            exact q5 c hc
      · cases hk : like I J with
        | false => rfl
        | true => exact absurd (like_iff.mp hk).2.2 (by have h := of_decide_eq_false hlen; rw [List.length_map, List.length_map] at h; omega)
    · rw [if_neg (by simpa using e1)]
      simp! only [and_true]
      exact ⟨_, _, rfl, fun z => (by cases z), fun _ => q3 (by
        cases hk : like I J with
        | false => rfl
        | true => exact absurd ⟨(like_iff.mp hk).1, (like_iff.mp hk).2.1⟩ e1)⟩
theorem ok_put_rows (T : Tx K mg) : FnOk P w K mg base CX0 1 (He.ga K "put_rows") T.fd_put_rows P_put_rows (spD K wp_put 3) := by
  refine dok T.F_put_rows sc_put_rows fun cdv A outer s H E hr => ?_
  refine' dokMk (PSs.nox (pss_cons (ps_for PassesOwn.never rfl (LT.pi_seqK (K := K) rfl (pv 2)) (LT.pg_tupK (K := K) (n := 5) rfl rfl (pgs_cons (pg_name (i := 3) sc_put_rows.nd rfl (Or.inl rfl)) (pgs_cons (pg_name (i := 4) sc_put_rows.nd rfl (Or.inl rfl)) (pgs_cons (pg_name (i := 5) sc_put_rows.nd rfl (Or.inl rfl)) (pgs_cons (pg_name (i := 6) sc_put_rows.nd rfl (Or.inl rfl)) (pgs_cons (pg_name (i := 7) sc_put_rows.nd rfl (Or.inl rfl)) pgs_nil)))))) (pss_cons (ps_if (PW.pt (pw_or (pt_cmpR op_ge (pv 3) (pe_callB (show CallR _ _ (LT.rLenS K) from LT.call_lenS) (by rfl) T.z_len (by decide +kernel) (pa_cons (pv 0) pa_nil)) (nomark _)) (pw_or (pt_cmpR op_ne (pe_ix (show IxR _ (LL.rIxA K) from LL.ix_A) (pv 0) (pv 3) (fun _ _ => rfl)) (pv 4) (nomark _)) (pw_or1 (pt_cmpR op_ne (pe_ix (show IxR _ (LL.rIxA K) from LL.ix_A) (pv 1) (pv 3) (fun _ _ => rfl)) (pv 5) (nomark _)))))) (pss_one (ps_ret (pe_bl))) pss_nil) (pss_cons (ps_asg (pv 6) (pg_sub (pv 0) (pv 3) set_list)) (pss_one (ps_asg (pv 7) (pg_sub (pv 1) (pv 3) set_list)))))) (pss_one (ps_ret (pe_bl))))) ?sim ?go
  case sim =>
    try simp only [LL.cxK0, LL.cxK1, List.map_cons, List.map_nil]
    repeat' (first | fail "s")
  case go =>
    intro ts Ω PQ PX hl h
    obtain ⟨a, b, r, cs, ws, hs, rfl, ha, hb, hab, hra, hrb, hl2, hr, hp, q1, q2⟩ := h
    simp! only [N_put_rows]
    refine for_S (t := r) rfl hr (fun i ρ' Ω' => ∃ (ws' hs' : List Int) (x3 x4 x5 x6 x7 : Option Tr), Ω' = put (put Ω a (.lst (ws'.map Tr.int))) b (.lst (hs'.map Tr.int)) ∧ ρ' = [some (.obj a), some (.obj b), some r, x3, x4, x5, x6, x7] ∧ ws'.length = ws.length ∧ hs'.length = ws.length ∧ putRows ws' hs' (cs.drop i) = putRows ws hs cs) ⟨ws, hs, _, _, _, _, _, by rw [put_self ha, put_self hb], rfl, rfl, hl2.symm, rfl⟩ ?_ ?_ ?_
    · rintro i ρ' Ω' ⟨ws', hs', _, _, _, _, _, rfl, _⟩
      exact stay_ne (stay_ne (stay_of hr) hra) hrb
    · rintro hz i x ρ' Ω' hx ⟨ws', hs', x3, x4, x5, x6, x7, rfl, rfl, hl3, hl4, he⟩
      rw [List.getElem?_map] at hx
      obtain ⟨c, hc, rfl⟩ := Option.map_eq_some_iff.mp hx
      have hp0 := hp c (List.mem_of_getElem? hc)
      rw [show cs.drop i = c :: cs.drop (i + 1) by rw [List.drop_eq_getElem_cons (List.getElem?_eq_some_iff.mp hc).1, (List.getElem?_eq_some_iff.mp hc).2]] at he
      have sA : put (put Ω a (.lst (ws'.map Tr.int))) b (.lst (hs'.map Tr.int)) a = some (.lst (ws'.map Tr.int)) := by rw [put_ne hab, put_same]
      have sB : put (put Ω a (.lst (ws'.map Tr.int))) b (.lst (hs'.map Tr.int)) b = some (.lst (hs'.map Tr.int)) := put_same
      have lA := lenT_obj sA
      have aA := asS_obj sA
      have aB := asS_obj sB
      simp! only [cT, lA, List.length_map]
      refine fun _ => itei (fun h => ?_) fun h => ?_
      · exact q1 (by rw [← he, putRows_out (by omega)]) _ _
      · obtain ⟨w0, w1, w2, w3⟩ := atI_ix (ns := ws') hp0 (by omega)
        obtain ⟨h0, h1, h2, h3⟩ := atI_ix (ns := hs') hp0 (by omega)
        rw [putRows_cons (by omega) w1 h1] at he
        simp! only [aA, aB, w2, h2]
        refine itei (fun e1 => ?_) fun e1 => itei (fun e2 => ?_) fun e2 => ?_
        · rw [if_neg (fun z => by simp [z.1] at e1)] at he
          exact q1 he.symm _ _
        · rw [if_neg (fun z => by simp [z.2] at e2)] at he
          exact q1 he.symm _ _
        · have e1' : w0 = c.w := by simpa using e1
          have e2' : h0 = c.h := by simpa using e2
          rw [if_pos ⟨e1', e2'⟩] at he
          have w3' : ixN ws'.length c.p = some c.p.toNat := by rw [List.length_map] at w3; exact w3
          have h3' : ixN hs'.length c.p = some c.p.toNat := by rw [List.length_map] at h3; exact h3
          simp! only [sA, w3']
          refine ⟨_, w3, hs'.map Tr.int, by rw [put_ne (Ne.symm hab), put_same], _, h3, ws'.set c.p.toNat c.w', hs'.set c.p.toNat c.h', ?_, by rw [List.length_set]; exact hl3, by rw [List.length_set]; exact hl4, he⟩
          rw [← put_comm hab, put_put, put_put, List.map_set, List.map_set]
    · rintro ρ' Ω' ⟨ws', hs', x3, x4, x5, x6, x7, rfl, rfl, hl3, hl4, he⟩
      rw [List.length_map, List.drop_length] at he
      simp! only [and_true]
      exact q2 _ _ (by rw [← he]; rfl)
/-- a list that is handed on, as data or as a cell -/
def Lst1 (Ω : Om) (r r' : Tr) : Prop := r = r' ∨ ∃ a us, r = .obj a ∧ Ω a = some (.lst us) ∧ r' = .lst us
theorem Lst1.drf {Ω : Om} {r r' : Tr} (h : Lst1 Ω r r') : Drf Ω r r' := by
  rcases h with rfl | ⟨a, us, rfl, h1, rfl⟩
  · exact .same _
  · exact .cell h1 (.same _)
theorem Lst1.asS {Ω : Om} {r : Tr} {us : List Tr} (h : Lst1 Ω r (.lst us)) : asS r Ω = some us := by
  rcases h with rfl | ⟨a, ws, rfl, h1, e⟩
  · rfl
  · cases e
    exact asS_obj h1
theorem Lst1.put {Ω : Om} {r r' : Tr} {a : Addr} {c : Cell} (h : Lst1 Ω r r') (ha : Ω a = none) : Lst1 (put Ω a c) r r' := by
  rcases h with rfl | ⟨b, us, rfl, h1, rfl⟩
  · exact .inl rfl
  · exact .inr ⟨b, us, rfl, by rw [put_ne (fun z => by rw [z, ha] at h1; cases h1)]; exact h1, rfl⟩
theorem Lst1.ne {Ω : Om} {r r' : Tr} {a : Addr} (h : Lst1 Ω r r') (hd : dataT r' = true) (ha : Ω a = none) : r ≠ .obj a := fun z => by
  rcases h with rfl | ⟨b, us, e, h1, rfl⟩
  · rw [z] at hd; cases (show false = true from hd)
  · rw [z] at e
    cases e
    rw [ha] at h1; cases h1
def wp_after : Pw := fun ts Ω PQ _ => ∃ I r cs, ts = [imT I, .lst [r]] ∧ GI I ∧ Lst1 Ω r (.lst (cs.map cT)) ∧ (∀ c ∈ cs, 0 ≤ c.p) ∧ (putRows I.ws I.hs cs = none → PQ .non Ω) ∧ ∀ ws hs, putRows I.ws I.hs cs = some (ws, hs) → PQ (imT ⟨I.w, I.f, ws, hs⟩) Ω
theorem data_cT {cs : List Ch} : dataT (.lst (cs.map cT)) = true := dataTs_of fun t ht => by
  obtain ⟨c, _, rfl⟩ := List.mem_map.mp ht
  rfl
def wp_apply : Pw := fun ts Ω PQ PX => ∃ t r r', ts = [t, r] ∧ dataT t = true ∧ FewI t ∧ Lst1 Ω r r' ∧ dataT r' = true ∧ (imgB t = false → PX (badX (.str "image")) Ω) ∧ ∀ I, t = imT I → GI I → (chsT r' = false → PX (badX (.str "rows")) Ω) ∧ ∀ cs : List Ch, r' = .lst (cs.map cT) → chsT r' = true → (putRows I.ws I.hs cs = none → PX (badX (.str "rows")) Ω) ∧ ∀ ws hs, putRows I.ws I.hs cs = some (ws, hs) → PQ (imT ⟨I.w, I.f, ws, hs⟩) Ω
def invT : Tr → Tr
  | .tup [p, w, h, w', h'] => .tup [p, w', h', w, h]
  | t => t
def wp_invert : Pw := fun ts Ω PQ PX => ∃ r r', ts = [r] ∧ Lst1 Ω r r' ∧ dataT r' = true ∧ (chsT r' = false → PX (badX (.str "rows")) Ω) ∧ ∀ cs : List Ch, r' = .lst (cs.map cT) → chsT r' = true → lstNew ((cs.map invC).map cT) Ω PQ
theorem chsB_form : ∀ {l : Int} {us : List Tr}, chsB l us = true → ∃ cs : List Ch, us = cs.map cT ∧ ∀ c ∈ cs, 0 ≤ c.p
  | _, [], _ => ⟨[], rfl, fun _ h => nomatch h⟩
  | l, u :: us, h => by
    have h1 := Bool.and_eq_true_iff.mp (show (chB u && (decide (l < placeT u) && chsB (placeT u) us)) = true from h)
    obtain ⟨c, rfl, h0, _⟩ := chB_form h1.1
    obtain ⟨cs, rfl, h2⟩ := chsB_form (Bool.and_eq_true_iff.mp h1.2).2
    exact ⟨c :: cs, rfl, fun d hd => (List.mem_cons.mp hd).elim (fun e => e ▸ h0) (h2 d)⟩
theorem chsT_form {t : Tr} (h : chsT t = true) : ∃ cs : List Ch, t = .lst (cs.map cT) ∧ ∀ c ∈ cs, 0 ≤ c.p := by
  cases t with
  | lst us =>
    obtain ⟨cs, rfl, h2⟩ := chsB_form (show chsB (-1) us = true from h)
    exact ⟨cs, rfl, h2⟩
  | _ => cases (show false = true from h)
theorem nd_t {n : Tr} {Ω : Om} {P : PT'} {X : PXt} (h : P .non Ω) : wp_need [.bl true, n] Ω P X := ⟨_, _, rfl, fun _ => h, fun z => nomatch z⟩
theorem nd_f {n : Tr} {Ω : Om} {P : PT'} {X : PXt} (h : X (badX n) Ω) : wp_need [.bl false, n] Ω P X := ⟨_, _, rfl, fun z => (nomatch z), fun _ => h⟩
theorem ok_image_after (T : Tx K mg) : FnOk P w K mg base CX0 2 (He.ga K "image_after") T.fd_image_after P_image_after (spD K wp_after 2) := by
  refine dok T.F_image_after sc_image_after fun cdv A outer s H E hr => ?_
  refine' dokMk (PSs.nox (pss_cons (ps_asg (pv 0) (LT.pg_tupK (K := K) (n := 4) rfl rfl (pgs_cons (pg_name (i := 4) sc_image_after.nd rfl (Or.inl rfl)) (pgs_cons (pg_name (i := 5) sc_image_after.nd rfl (Or.inl rfl)) (pgs_cons (pg_name (i := 6) sc_image_after.nd rfl (Or.inl rfl)) (pgs_cons (pg_name (i := 7) sc_image_after.nd rfl (Or.inl rfl)) pgs_nil)))))) (pss_cons (ps_set (i := 2) sc_image_after.nd rfl (Or.inr rfl) (pe_callTy (show CallR _ _ (LT.rList K) from LT.call_list rfl) (by rfl) T.z_list (by decide +kernel) (pa_cons (pv 6) pa_nil))) (pss_cons (ps_set (i := 3) sc_image_after.nd rfl (Or.inr rfl) (pe_callTy (show CallR _ _ (LT.rList K) from LT.call_list rfl) (by rfl) T.z_list (by decide +kernel) (pa_cons (pv 7) pa_nil))) (pss_cons (ps_if (pt_not (pt_val (pe_callB (show CallR _ _ (rAll K) from cr_all rfl) (by rfl) T.z_all (by decide +kernel) (pa_cons (pe_lc (own := [("rows", 8)]) (by rfl) sc_image_after.nd (LT.pi_seqK (K := K) rfl (pv 1)) (blkOk_by (N := N_image_after) (sc := defScope s_image_after) (by decide +kernel)) (fun _ _ _ _ _ => (pg_name (i := 8) sc_image_after.nd rfl (Or.inl rfl))) (fun _ _ _ _ _ => pts_nil) (fun _ _ _ _ _ => (pe_call (ok_put_rows T) hr rfl T.g_put_rows T.F_put_rows.kp (b_put_rows T) .nil pass0 (pa_cons (pv 2) (pa_cons (pv 3) (pa_cons (pv 8) pa_nil)))))) pa_nil)))) (pss_one (ps_ret (pe_non))) pss_nil) (pss_one (ps_ret (pe_tup (pa_cons (pv 4) (pa_cons (pv 5) (pa_cons (pe_callTy (show CallR _ _ (LT.rTuple K) from LT.call_tuple) (by rfl) T.z_tuple (by decide +kernel) (pa_cons (pv 2) pa_nil)) (pa_cons (pe_callTy (show CallR _ _ (LT.rTuple K) from LT.call_tuple) (by rfl) T.z_tuple (by decide +kernel) (pa_cons (pv 3) pa_nil)) pa_nil)))))))))))) ?sim ?go
  case sim =>
    try simp only [LL.cxK0, LL.cxK1, List.map_cons, List.map_nil]
    repeat' (first | with_reducible apply sim_retF | fail "s")
  case go =>
    intro ts Ω PQ PX hl h
    obtain ⟨I, r, cs, rfl, gi, hr, hp, q1, q2⟩ := h
    simp! only [N_image_after, imT]
    refine .inl fun _ => .inr fun a ha => .inl fun _ => .inr fun b hb => ?_
    have hab : a ≠ b := fun z => by rw [z, put_same] at hb; cases hb
    have hb' : Ω b = none := by rw [put_ne (Ne.symm hab)] at hb; exact hb
    have hr2 := (hr.put (a := a) (c := .lst (I.ws.map Tr.int)) ha).put (a := b) (c := .lst (I.hs.map Tr.int)) hb
    refine ⟨.lst [r], rfl, [r], rfl, fun _ => ⟨by simp, fun i acc Ω' => (i = 0 ∧ acc = [] ∧ Ω' = put (put Ω a (.lst (I.ws.map Tr.int))) b (.lst (I.hs.map Tr.int))) ∨ (i = 1 ∧ ((putRows I.ws I.hs cs = none ∧ acc = [.bl false] ∧ ∃ ws' hs' : List Int, Ω' = put (put Ω a (.lst (ws'.map Tr.int))) b (.lst (hs'.map Tr.int))) ∨ ∃ ws' hs', putRows I.ws I.hs cs = some (ws', hs') ∧ acc = [.bl true] ∧ Ω' = put (put Ω a (.lst (ws'.map Tr.int))) b (.lst (hs'.map Tr.int)))), .inl ⟨rfl, rfl, rfl⟩, fun _ _ _ _ => trivial, ?_, ?_⟩⟩
    · rintro i x acc Ω' hx (⟨rfl, rfl, rfl⟩ | ⟨rfl, _⟩)
      · cases hx
        simp! only [and_true]
        refine ⟨a, b, r, cs, I.ws, I.hs, rfl, by rw [put_ne hab, put_same], put_same, hab, hr.ne data_cT ha, hr.ne data_cT hb', gi.len, hr2.asS, hp, fun hn ws' hs' => ?_, fun ws' hs' hn => ?_⟩
        · refine .inl ⟨hn, rfl, ws', hs', ?_⟩
          rw [← put_comm hab, put_put, put_put]
        · refine .inr ⟨ws', hs', hn, rfl, ?_⟩
          rw [← put_comm hab, put_put, put_put]
      · cases hx
    · rintro acc Ω' (⟨h, _⟩ | ⟨_, ⟨hn, rfl, ws', hs', rfl⟩ | ⟨ws', hs', hn, rfl, rfl⟩⟩)
      · cases h
      · refine .inl ⟨[false], rfl, ?_⟩
        exact retF_2 ha (by rw [put_ne (Ne.symm hab)]; exact hb') (q1 hn)
      · refine .inl ⟨[true], rfl, ?_⟩
        have sA : put (put Ω a (.lst (ws'.map Tr.int))) b (.lst (hs'.map Tr.int)) a = some (.lst (ws'.map Tr.int)) := by rw [put_ne hab, put_same]
        have sB : put (put Ω a (.lst (ws'.map Tr.int))) b (.lst (hs'.map Tr.int)) b = some (.lst (hs'.map Tr.int)) := put_same
        refine ⟨_, asS_obj sA, fun _ => ⟨_, asS_obj sB, fun _ => ?_⟩⟩
        exact retF_2 ha (by rw [put_ne (Ne.symm hab)]; exact hb') (q2 ws' hs' hn)
theorem ok_apply_changes (T : Tx K mg) : FnOk P w K mg base (L2.CX P w) 5 (He.ga K "apply_changes") T.fd_apply_changes P_apply_changes (spD K wp_apply 2) := by
  refine dok T.F_apply_changes sc_apply_changes fun cdv A outer s H E hr => ?_
  refine' dokMk ((pss_cons (ps_expr (pe_call (ok_need T) (hr.mono (by decide)) rfl T.g_need T.F_need.kp (b_need T) .nil (passR (takes_of rfl rfl rfl rfl) (fun _ _ _ _ h => h)) (pa_cons (pe_call (ok_is_image T) hr rfl T.g_is_image T.F_is_image.kp (b_is_image T) .nil pass0 (pa_cons (pv 0) pa_nil)) (pa_cons (pe_str) pa_nil)))) (pss_cons (ps_expr (pe_call (ok_need T) (hr.mono (by decide)) rfl T.g_need T.F_need.kp (b_need T) .nil (passR (takes_of rfl rfl rfl rfl) (fun _ _ _ _ h => h)) (pa_cons ((LT.pe_bor (pe_call (ok_is_changes T) hr rfl T.g_is_changes T.F_is_changes.kp (b_is_changes T) .nil pass0 (pa_cons (pv 1) pa_nil)))) (pa_cons (pe_str) pa_nil)))) (pss_cons (ps_set (i := 2) sc_apply_changes.nd rfl (Or.inl rfl) (pe_call (ok_image_after T) (hr.mono (by decide)) rfl T.g_image_after T.F_image_after.kp (b_image_after T) .nil pass0 (pa_cons (pv 0) (pa_cons (pe_lst (pa_cons (pv 1) pa_nil)) pa_nil)))) (pss_cons (ps_expr (pe_call (ok_need T) (hr.mono (by decide)) rfl T.g_need T.F_need.kp (b_need T) .nil (passR (takes_of rfl rfl rfl rfl) (fun _ _ _ _ h => h)) (pa_cons (pe_cmpR op_notN1 (pv 2) (pe_non) (nomark _)) (pa_cons (pe_str) pa_nil)))) (pss_one (ps_ret (pv 2)))))))) ?sim ?go
  case sim =>
    try simp only [LL.cxK0, LL.cxK1, List.map_cons, List.map_nil]
    repeat' (first | fail "s")
  case go =>
    intro ts Ω PQ PX hl h
    obtain ⟨t, r, r', rfl, hd, few, hr, hd', q1, q2⟩ := h
    simp! only [N_apply_changes]
    refine ⟨t, rfl, hd, few, ?_⟩
    cases ht : imgB t with
    | false => exact nd_f (q1 ht)
    | true =>
    obtain ⟨I, rfl, gi⟩ := imgB_form ht
    obtain ⟨q2, q3⟩ := q2 I rfl gi
    refine nd_t ⟨[r'], .cons hr.drf .nil, rfl, r', rfl, hd', rfl, ?_⟩
    cases hc : chsT r' with
    | false => exact nd_f (q2 hc)
    | true =>
    obtain ⟨cs, rfl, hp⟩ := chsT_form hc
    obtain ⟨q4, q5⟩ := q3 cs rfl hc
    refine nd_t (.inl ⟨I, r, cs, rfl, gi, hr, hp, fun hn => ?_, fun ws hs hn => ?_⟩)
    · simp! only [and_true]
      exact nd_f (q4 hn)
    · simp! only [imT]
      exact nd_t (q5 ws hs hn)
theorem ok_invert (T : Tx K mg) : FnOk P w K mg base (L2.CX P w) 5 (He.ga K "invert") T.fd_invert P_invert (spD K wp_invert 1) := by
  refine dok T.F_invert sc_invert fun cdv A outer s H E hr => ?_
  refine' dokMk ((pss_cons (ps_expr (pe_call (ok_need T) (hr.mono (by decide)) rfl T.g_need T.F_need.kp (b_need T) .nil (passR (takes_of rfl rfl rfl rfl) (fun _ _ _ _ h => h)) (pa_cons ((LT.pe_bor (pe_call (ok_is_changes T) hr rfl T.g_is_changes T.F_is_changes.kp (b_is_changes T) .nil pass0 (pa_cons (pv 0) pa_nil)))) (pa_cons (pe_str) pa_nil)))) (pss_one (ps_ret (pe_lc (own := [("place", 1), ("word", 2), ("holder", 3), ("new_word", 4), ("new_holder", 5)]) (by rfl) sc_invert.nd (LT.pi_seqK (K := K) rfl (pv 0)) (blkOk_by (N := N_invert) (sc := defScope s_invert) (by decide +kernel)) (fun _ _ _ _ _ => (LT.pg_tupK (K := K) (n := 5) rfl rfl (pgs_cons (pg_name (i := 1) sc_invert.nd rfl (Or.inl rfl)) (pgs_cons (pg_name (i := 2) sc_invert.nd rfl (Or.inl rfl)) (pgs_cons (pg_name (i := 3) sc_invert.nd rfl (Or.inl rfl)) (pgs_cons (pg_name (i := 4) sc_invert.nd rfl (Or.inl rfl)) (pgs_cons (pg_name (i := 5) sc_invert.nd rfl (Or.inl rfl)) pgs_nil))))))) (fun _ _ _ _ _ => pts_nil) (fun _ _ _ _ _ => (pe_tup (pa_cons (pv 1) (pa_cons (pv 4) (pa_cons (pv 5) (pa_cons (pv 2) (pa_cons (pv 3) pa_nil)))))))))))) ?sim ?go
  case sim =>
    try simp only [LL.cxK0, LL.cxK1, List.map_cons, List.map_nil]
    repeat' (first | fail "s")
  case go =>
    intro ts Ω PQ PX hl h
    obtain ⟨r, r', rfl, hr, hd', q1, q2⟩ := h
    simp! only [N_invert]
    refine ⟨[r'], .cons hr.drf .nil, rfl, r', rfl, hd', rfl, ?_⟩
    cases hc : chsT r' with
    | false => exact nd_f (q1 hc)
    | true =>
    obtain ⟨cs, rfl, hp⟩ := chsT_form hc
    refine nd_t (map_S (t := r) (ts := cs.map cT) (fun P p => ⟨_, rfl, p⟩) hr.asS invT (fun t ρ P P' h p => mg_tup (mg_cons mg_name (mg_cons mg_name (mg_cons mg_name (mg_cons mg_name (mg_cons mg_name mg_nil))))) t ρ Ω P P' h p) (fun x hx Q q => ?_) ?_)
    · obtain ⟨c, hc, rfl⟩ := List.mem_map.mp hx
      simp! only [cT]
      exact q
    · rw [List.map_map, show (invT ∘ cT) = fun c => cT (invC c) from rfl]
      have q3 := q2 cs rfl hc
      rw [List.map_map] at q3
      exact q3
end K11

namespace K11
open PySem PySem.Spec PyProof.Rows L2 LL LT
local macro_rules | `(tactic| fail "s") => `(tactic| first | (with_reducible first | exact sim_var | exact sim_int | exact sim_bl | exact sim_str | exact sim_non | exact sim_ty | exact sim_ref | exact sim_nil | apply sim_cons | apply sim_op | apply simr_I0 | apply simr_I | exact simr_Eq | exact simr_Ne | exact simr_IxA | exact simr_addG | exact simr_isN | exact simr_notN | exact simr_isB | exact simr_in | exact simr_IxL | exact simr_IxT | exact simr_IxS | exact simr_EqD | exact simr_NeD | exact simr_rep | exact simr_repW | apply sim_un | apply sim_test | apply sim_tB | apply sim_and | apply sim_or | apply sim_not | apply sim_andV | apply sim_orV | apply sim_notV | apply sim_if | apply sim_chain | apply sim_tup | apply sim_lst | apply sim_bor0 | apply sim_bor | apply sim_borS | apply sim_call0 | apply sim_call | apply sim_callS | apply sim_callZ | apply sim_isXT | apply sim_isX | apply sim_xf | apply sim_sortS | apply sim_listRg | apply sim_CB | exact simc_len | exact simc_int | exact simc_isi | exact simc_mx | exact simc_mn | exact simc_sum | exact simc_maxL | exact simc_minL | exact simc_minS | exact simc_all | exact simc_any | exact simc_list | exact simc_tuple | exact simc_isiT | exact simc_strI | exact simc_sortI | exact simc_sortR | apply sim_sl | exact simsl_G | exact simsl_L | exact sim_oNone | apply sim_oSome | apply sim_append | exact sim_newD | apply sim_disp1 | apply sim_dget2 | apply sim_dget1 | apply sim_dget | apply sim_din | apply sim_dnotin | apply sim_lc | apply sim_dc | exact sim_yes | apply sim_iL | apply sim_iT | apply sim_iS | apply sim_iR1 | apply sim_iR2 | apply sim_iE | apply sim_iZ | apply sim_revT | exact gin_name (by decide) | apply gin_tup | exact gin_nil | apply gin_cons | exact mono_name | exact mono_nil | apply mono_cons | apply mono_tup | exact sim_next | apply sim_mk | apply sim_fgl | apply sim_fg | apply sim_seq | apply sim_ret | exact sim_retN | apply sim_drop | exact sim_break | exact sim_cont | apply sim_ifS | apply sim_asg | exact sim_gName | apply sim_gTup | exact sim_gNil | apply sim_gCons | apply sim_gSub | apply sim_for | apply sim_while | apply sim_dput | apply sim_raise | apply sim_tryT0 | apply sim_tryT) | exact fun _ _ => rfl | exact fun _ => rfl | exact fun _ _ _ _ => rfl | intro W | intro a cls d x)
local macro_rules | `(tactic| fail "l") => `(tactic| (simp only [List.length_append,List.length_take,List.length_drop,List.length_map,List.length_cons,List.length_nil,List.length_set,List.length_replicate,List.length_range]; omega))
local macro_rules | `(tactic| fail "r") => `(tactic| first | fail "d" | with_reducible refine fun (_ : _ ≤ 1000000) => ?_ | with_reducible refine Or.inl (fun (_ : _ ≤ 1000000) => ?_) | with_reducible refine lst_in ?_ | with_reducible refine dic_in ?_ | with_reducible refine tk_call (by first | decide | exact tk_big (by omega) (by omega)) fun v h0 h1 => ?_ | with_reducible refine bt_call (by first | decide | exact tk_big (by omega) (by omega)) fun v h0 h1 => ?_ | with_reducible refine ct_call (by first | decide | exact ⟨by omega, by omega, by omega⟩) fun v h0 h1 => ?_ | with_reducible refine LL.itei (fun h => ?_) fun h => ?_ | with_reducible refine pickP (by omega) (by simp only [List.length_cons, List.length_nil]; omega) ?_ | with_reducible refine List.forall_mem_cons.mpr (And.intro ?_ ?_) | with_reducible exact LT.nil_all | with_reducible refine And.intro (by first | (unfold CPow; decide) | omega | rfl) ?_ | with_reducible refine am_call rfl (List.cons_ne_nil _ _) ?_ | refine And.intro (show CMul _ _ from .inl ⟨by omega, by omega⟩) ?_)
local macro_rules | `(tactic| fail "d") => `(tactic| simp only [and_true,dSortI,dSortR,dLstRg,dRepW,dRetF,dForgets,asD_put,dSortS,dDPut,dCallZ,dBor,dBor0,diZ,dRevT,dStrI,dIsXT,dTry0,dTry,dXf,dIsX,dNewD,dDisp1,Prod.mk.injEq,wipeT,Int.toNat_natCast,asL_put,put_same,put_put,Cell.lst.injEq,atI_0,atI_1,atI_2,atI_3,atI_4,atI_5,atI_6,atI_7,atI_8,atI_9,Tr.ty.injEq,tyN_int,tyN_bool,tyN_str,tyN_list,tyN_tuple,tyN_dict,dVar,dC,dName,dOp,dI,dI0,dUn,dU,dEq,dNe,dTest,dAnd,dOr,dNot,dAndV,dOrV,dNotV,dIf,dChain,dNil,dCons,dTup,dLst,dCall,dCall0,dCB,dNext,dSeq,dRet,dRetN,dDrop,dBreak,dCont,dIfS,dgNil,dgCons,dTupG,dAsg,diL,diT,diS,diR1,diR2,diE,dYes,dIx,dLen,dInt,dMx,dSum,dAll,dIsi,dIsiT,doNone,doSome,dSl,dApp,dSub,dSet,dEqD,dGet,dGet1,dGet2,LT.dIn,dIsN,dIsB,dIn',dList,dTuple,dRaise,dMaxL,dMinL,dMinS,dRep,asL_lst,asS_lst,asS_tup,asT_tup,flatV',Tr.int.injEq,Tr.bl.injEq,Tr.str.injEq,Tr.lst.injEq,Tr.tup.injEq,Tr.obj.injEq,Option.isSome_some,List.map_cons,List.map_nil,List.length_cons,List.length_nil,List.replicate_succ,List.replicate_zero,List.cons_append,List.nil_append,List.append_nil,List.getElem?_cons_zero,List.getElem?_cons_succ,List.set_cons_zero,List.set_cons_succ,Nat.add_sub_cancel,Nat.reduceAdd,Nat.reduceSub,Option.some.injEq,List.cons.injEq,and_true,true_and,and_false,false_and,exists_eq_left,exists_eq_left',exists_and_left,exists_and_right,exists_eq,exists_eq',LL.if_dec,reduceCtorEq,exists_false,exists_const,or_false,false_or,if_true,if_false,and_assoc,Int.reduceEq,Int.reduceNe,Int.reduceNeg,Int.reduceLT,Int.reduceLE,Int.reduceMul,Int.reduceAdd,Int.reduceSub,Int.reducePow,Int.reduceToNat,Nat.reducePow,Nat.reduceLT,Nat.reduceLeDiff,true_or,or_true,Bool.not_true,Bool.not_false,Bool.false_eq_true,Bool.or_false,Bool.or_true,Bool.true_or,Bool.false_or,decide_true,decide_false,not_true_eq_false,not_false_eq_true,LL.scal_int,LL.scal_bl,LL.scal_str,V.int.injEq,V.bl.injEq,V.str.injEq,Nat.zero_le,forall_const,true_implies,kindT_non,isNonT_non,flatT_non,flatK_non,isBT_non_true,isBT_non_false,toV_non,ofV_non,keyT_non,isT_non_int,isT_non_bool,isT_non_str,isT_non_list,isT_non_tuple,isT_non_dict,kindT_bl,isNonT_bl,flatT_bl,flatK_bl,toV_bl,ofV_bl,keyT_bl,isT_bl_int,isT_bl_bool,isT_bl_str,isT_bl_list,isT_bl_tuple,isT_bl_dict,kindT_int,isNonT_int,flatT_int,flatK_int,isBT_int_true,isBT_int_false,toV_int,ofV_int,keyT_int,isT_int_int,isT_int_bool,isT_int_str,isT_int_list,isT_int_tuple,isT_int_dict,kindT_str,isNonT_str,flatT_str,flatK_str,isBT_str_true,isBT_str_false,toV_str,ofV_str,keyT_str,isT_str_int,isT_str_bool,isT_str_str,isT_str_list,isT_str_tuple,isT_str_dict,kindT_lst,isNonT_lst,flatT_lst,flatK_lst,isBT_lst_true,isBT_lst_false,lenT_lst,keyT_lst,isT_lst_int,isT_lst_bool,isT_lst_str,isT_lst_list,isT_lst_tuple,isT_lst_dict,kindT_tup,isNonT_tup,flatT_tup,flatK_tup,isBT_tup_true,isBT_tup_false,lenT_tup,keyT_tup,isT_tup_int,isT_tup_bool,isT_tup_str,isT_tup_list,isT_tup_tuple,isT_tup_dict,kindT_dic,isNonT_dic,flatT_dic,flatK_dic,isBT_dic_true,isBT_dic_false,lenT_dic,keyT_dic,isT_dic_int,isT_dic_bool,isT_dic_str,isT_dic_list,isT_dic_tuple,isT_dic_dict,kindT_obj,isNonT_obj,flatT_obj,flatK_obj,isBT_obj_true,isBT_obj_false,keyT_obj,kindT_drw,isNonT_drw,flatT_drw,flatK_drw,isBT_drw_true,isBT_drw_false,keyT_drw,kindT_ty,isNonT_ty,flatT_ty,flatK_ty,isBT_ty_true,isBT_ty_false,toV_ty,ofV_ty,keyT_ty,asD_dic,isBT_bl,dAddG_int,dAddG_str,dAddG_tup,dAddG_lst_lst,dAddG_lst_obj,dAddG_obj_lst,dAddG_obj_obj,dSlG_tup,dSlG_str,dSlG_lst,dSlG_obj])
local macro_rules | `(tactic| simp! only [$xs,*]) => `(tactic| try simp only [$xs,*,dSortI,dSortR,dLstRg,dRepW,dRetF,dForgets,asD_put,dSortS,dDPut,dCallZ,dBor,dBor0,diZ,dRevT,dStrI,dIsXT,dTry0,dTry,dXf,dIsX,dNewD,dDisp1,Prod.mk.injEq,wipeT,Int.toNat_natCast,asL_put,put_same,put_put,Cell.lst.injEq,atI_0,atI_1,atI_2,atI_3,atI_4,atI_5,atI_6,atI_7,atI_8,atI_9,Tr.ty.injEq,tyN_int,tyN_bool,tyN_str,tyN_list,tyN_tuple,tyN_dict,dVar,dC,dName,dOp,dI,dI0,dUn,dU,dEq,dNe,dTest,dAnd,dOr,dNot,dAndV,dOrV,dNotV,dIf,dChain,dNil,dCons,dTup,dLst,dCall,dCall0,dCB,dNext,dSeq,dRet,dRetN,dDrop,dBreak,dCont,dIfS,dgNil,dgCons,dTupG,dAsg,diL,diT,diS,diR1,diR2,diE,dYes,dIx,dLen,dInt,dMx,dSum,dAll,dIsi,dIsiT,doNone,doSome,dSl,dApp,dSub,dSet,dEqD,dGet,dGet1,dGet2,LT.dIn,dIsN,dIsB,dIn',dList,dTuple,dRaise,dMaxL,dMinL,dMinS,dRep,asL_lst,asS_lst,asS_tup,asT_tup,flatV',Tr.int.injEq,Tr.bl.injEq,Tr.str.injEq,Tr.lst.injEq,Tr.tup.injEq,Tr.obj.injEq,Option.isSome_some,List.map_cons,List.map_nil,List.length_cons,List.length_nil,List.replicate_succ,List.replicate_zero,List.cons_append,List.nil_append,List.append_nil,List.getElem?_cons_zero,List.getElem?_cons_succ,List.set_cons_zero,List.set_cons_succ,Nat.add_sub_cancel,Nat.reduceAdd,Nat.reduceSub,Option.some.injEq,List.cons.injEq,and_true,true_and,and_false,false_and,exists_eq_left,exists_eq_left',exists_and_left,exists_and_right,exists_eq,exists_eq',LL.if_dec,reduceCtorEq,exists_false,exists_const,or_false,false_or,if_true,if_false,and_assoc,Int.reduceEq,Int.reduceNe,Int.reduceNeg,Int.reduceLT,Int.reduceLE,Int.reduceMul,Int.reduceAdd,Int.reduceSub,Int.reducePow,Int.reduceToNat,Nat.reducePow,Nat.reduceLT,Nat.reduceLeDiff,true_or,or_true,Bool.not_true,Bool.not_false,Bool.false_eq_true,Bool.or_false,Bool.or_true,Bool.true_or,Bool.false_or,decide_true,decide_false,not_true_eq_false,not_false_eq_true,LL.scal_int,LL.scal_bl,LL.scal_str,V.int.injEq,V.bl.injEq,V.str.injEq,Nat.zero_le,forall_const,true_implies,kindT_non,isNonT_non,flatT_non,flatK_non,isBT_non_true,isBT_non_false,toV_non,ofV_non,keyT_non,isT_non_int,isT_non_bool,isT_non_str,isT_non_list,isT_non_tuple,isT_non_dict,kindT_bl,isNonT_bl,flatT_bl,flatK_bl,toV_bl,ofV_bl,keyT_bl,isT_bl_int,isT_bl_bool,isT_bl_str,isT_bl_list,isT_bl_tuple,isT_bl_dict,kindT_int,isNonT_int,flatT_int,flatK_int,isBT_int_true,isBT_int_false,toV_int,ofV_int,keyT_int,isT_int_int,isT_int_bool,isT_int_str,isT_int_list,isT_int_tuple,isT_int_dict,kindT_str,isNonT_str,flatT_str,flatK_str,isBT_str_true,isBT_str_false,toV_str,ofV_str,keyT_str,isT_str_int,isT_str_bool,isT_str_str,isT_str_list,isT_str_tuple,isT_str_dict,kindT_lst,isNonT_lst,flatT_lst,flatK_lst,isBT_lst_true,isBT_lst_false,lenT_lst,keyT_lst,isT_lst_int,isT_lst_bool,isT_lst_str,isT_lst_list,isT_lst_tuple,isT_lst_dict,kindT_tup,isNonT_tup,flatT_tup,flatK_tup,isBT_tup_true,isBT_tup_false,lenT_tup,keyT_tup,isT_tup_int,isT_tup_bool,isT_tup_str,isT_tup_list,isT_tup_tuple,isT_tup_dict,kindT_dic,isNonT_dic,flatT_dic,flatK_dic,isBT_dic_true,isBT_dic_false,lenT_dic,keyT_dic,isT_dic_int,isT_dic_bool,isT_dic_str,isT_dic_list,isT_dic_tuple,isT_dic_dict,kindT_obj,isNonT_obj,flatT_obj,flatK_obj,isBT_obj_true,isBT_obj_false,keyT_obj,kindT_drw,isNonT_drw,flatT_drw,flatK_drw,isBT_drw_true,isBT_drw_false,keyT_drw,kindT_ty,isNonT_ty,flatT_ty,flatK_ty,isBT_ty_true,isBT_ty_false,toV_ty,ofV_ty,keyT_ty,asD_dic,isBT_bl,dAddG_int,dAddG_str,dAddG_tup,dAddG_lst_lst,dAddG_lst_obj,dAddG_obj_lst,dAddG_obj_obj,dSlG_tup,dSlG_str,dSlG_lst,dSlG_obj])
variable {P : Program} {w : World} {K : PySem.W.Frag} {mg : Str → Option Value} {base : Heap}

/-! ### draws of images -/
def holdersL : List Int := [1, 2, 3, 4, 5, 6, 7, 8, 11, 12, 13, 14, 15, 16, 17, 18, 21, 22, 23, 24, 25, 26, 27, 28]
theorem holders_ok : ∀ v ∈ holdersL, holdB v = true := by decide
theorem word_of {v : Int} (h : 0 ≤ v ∧ v ≤ 65535) : wordB v = true := by unfold wordB; rw [decide_eq_true h.1, decide_eq_true h.2]; rfl
theorem word_le {v : Int} (h : wordB v = true) : 0 ≤ v ∧ v ≤ 65535 := by unfold wordB at h; simpa using h
theorem few_len {us : List Tr} (h : us.length ≤ 4000) : Few us := fun ns e => ⟨ns, by subst e; rw [List.length_map] at h; exact h, fun k hk => hk⟩
theorem few_im {I : Img} (g : GI I) (h : I.ws.length ≤ 4000) : FewI (imT I) := fun w f ws hs e => by
  simp only [imT, Tr.tup.injEq, List.cons.injEq, and_true] at e
  obtain ⟨_, _, rfl, rfl⟩ := e
  exact ⟨few_len (by rw [List.length_map]; exact h), few_len (by rw [List.length_map, ← g.len]; exact h)⟩
def wp_holders : Pw := fun ts Ω PQ _ => ts = [] ∧ PQ (.lst (holdersL.map Tr.int)) Ω
def wp_hold1 : Pw := fun ts Ω PQ _ => ts = [.drw] ∧ ∀ h, holdB h = true → PQ (.int h) Ω
def wp_word1 : Pw := fun ts Ω PQ _ => ∃ b, ts = [.drw, .int b] ∧ wordB b = true ∧ ∀ v, wordB v = true → PQ (.int v) Ω
def wp_oword : Pw := fun ts Ω PQ _ => ∃ b, ts = [.drw, .int b] ∧ wordB b = true ∧ ∀ v, wordB v = true → v ≠ b → PQ (.int v) Ω
def wp_blank : Pw := fun ts Ω PQ _ => ts = [.drw] ∧ ∀ v, wordB v = true → PQ (.int v) Ω
def wp_other : Pw := fun ts Ω PQ _ => ∃ (ns : List Int) (old : Int), ts = [.drw, .lst (ns.map Tr.int), .int old] ∧ (∃ v ∈ ns, v ≠ old) ∧ ∀ v ∈ ns, v ≠ old → PQ (.int v) Ω
theorem hd_call {Ω : Om} {P : PT'} {X : PXt} (k : ∀ h, holdB h = true → P (.int h) Ω) : wp_hold1 [.drw] Ω P X := ⟨rfl, k⟩
theorem wd_call {b : Int} {Ω : Om} {P : PT'} {X : PXt} (h : wordB b = true) (k : ∀ v, wordB v = true → P (.int v) Ω) : wp_word1 [.drw, .int b] Ω P X := ⟨b, rfl, h, k⟩
theorem ow_call {b : Int} {Ω : Om} {P : PT'} {X : PXt} (h : wordB b = true) (k : ∀ v, wordB v = true → v ≠ b → P (.int v) Ω) : wp_oword [.drw, .int b] Ω P X := ⟨b, rfl, h, k⟩
theorem bk_call {Ω : Om} {P : PT'} {X : PXt} (k : ∀ v, wordB v = true → P (.int v) Ω) : wp_blank [.drw] Ω P X := ⟨rfl, k⟩
/-- two lists of ints, as cells -/
def Two (Ω : Om) (a b : Addr) (ws hs : List Int) : Om := put (put Ω a (.lst (ws.map Tr.int))) b (.lst (hs.map Tr.int))
section
variable {a b : Addr}
theorem two_a (h : a ≠ b) (Ω : Om) (ws hs : List Int) : Two Ω a b ws hs a = some (.lst (ws.map Tr.int)) := by unfold Two; rw [put_ne h, put_same]
theorem two_b (Ω : Om) (ws hs : List Int) : Two Ω a b ws hs b = some (.lst (hs.map Tr.int)) := put_same
theorem two_sa (h : a ≠ b) (Ω : Om) (ws hs : List Int) (i : Nat) (v : Int) : put (Two Ω a b ws hs) a (.lst ((ws.map Tr.int).set i (.int v))) = Two Ω a b (ws.set i v) hs := by
  unfold Two
  rw [← put_comm h, put_put, List.map_set]
theorem two_sb (Ω : Om) (ws hs : List Int) (i : Nat) (v : Int) : put (Two Ω a b ws hs) b (.lst ((hs.map Tr.int).set i (.int v))) = Two Ω a b ws (hs.set i v) := by
  unfold Two
  rw [put_put, List.map_set]
theorem two_new {Ω : Om} {ws hs : List Int} : put (put Ω a (.lst (ws.map Tr.int))) b (.lst (hs.map Tr.int)) = Two Ω a b ws hs := rfl
theorem two_ret {Ω : Om} {ws hs : List Int} {t : Tr} {P : PT'} (ha : Ω a = none) (hb : Ω b = none) (h : a ≠ b) (q : P t Ω) : ∃ as, P t (cuts (Two Ω a b ws hs) as) := retF_2 ha (by rw [put_ne (Ne.symm h)]; exact hb) q
end
theorem mem_set {l : List Int} {i : Nat} {v k : Int} (h : k ∈ l.set i v) : k ∈ l ∨ k = v := List.mem_or_eq_of_mem_set h
theorem ok_law_holders (T : Tx K mg) : FnOk P w K mg base CX0 1 (He.ga K "_law_holders") T.fd_law_holders P_law_holders (spD K wp_holders 0) := by
  refine dok T.F_law_holders sc_law_holders fun cdv A outer s H E hr => ?_
  refine' dokMk (PSs.nox (pss_one (ps_ret (pe_op (show OpR _ _ (LT.rAddG K) from LT.op_addG) (pe_op (show OpR _ _ (LT.rAddG K) from LT.op_addG) (pe_listRg rfl (by rfl) T.z_list (prg_2 (by rfl) T.z_range (pe_int) (pe_int))) (pe_listRg rfl (by rfl) T.z_list (prg_2 (by rfl) T.z_range (pe_int) (pe_int)))) (pe_listRg rfl (by rfl) T.z_list (prg_2 (by rfl) T.z_range (pe_int) (pe_int))))))) ?sim ?go
  case sim =>
    try simp only [LL.cxK0, LL.cxK1, List.map_cons, List.map_nil]
    repeat' (first | fail "s")
  case go =>
    intro ts Ω PQ PX hl h
    obtain ⟨rfl, q⟩ := h
    simp! only [N_law_holders]
    rw [show rngT 1 8 = [1, 2, 3, 4, 5, 6, 7, 8].map Tr.int from rfl, show rngT 11 8 = [11, 12, 13, 14, 15, 16, 17, 18].map Tr.int from rfl, show rngT 21 8 = [21, 22, 23, 24, 25, 26, 27, 28].map Tr.int from rfl]
    refine .inl (.inl ?_)
    simp! only [and_true]
    refine .inl (.inl ?_)
    simp! only [and_true]
    exact .inl q
theorem ok_law_holder (T : Tx K mg) : FnOk P w K mg base CX0 4 (He.ga K "_law_holder") T.fd_law_holder P_law_holder (spD K wp_hold1 1) := by
  refine dok T.F_law_holder sc_law_holder fun cdv A outer s H E hr => ?_
  refine' dokMk (PSs.nox (pss_cons (ps_if (pt_cmpR op_eq (pe_call (okt_law_take T) (hr.mono (by decide)) rfl T.g_law_take T.F_law_take.kp (b_law_take T) .nil pass0 (pa_cons (pv 0) (pa_cons (pe_int) pa_nil))) (pe_int) (nomark _)) (pss_one (ps_ret (pe_int))) pss_nil) (pss_one (ps_ret (pe_call (ok_law_among T) hr rfl T.g_law_among T.F_law_among.kp (b_law_among T) .nil pass0 (pa_cons (pv 0) (pa_cons (pe_call0 (ok_law_holders T) (hr.mono (by decide)) rfl T.g_law_holders T.F_law_holders.kp (b_law_holders T) .nil pass0) pa_nil))))))) ?sim ?go
  case sim =>
    try simp only [LL.cxK0, LL.cxK1, List.map_cons, List.map_nil]
    repeat' (first | fail "s")
  case go =>
    intro ts Ω PQ PX hl h
    obtain ⟨rfl, q⟩ := h
    simp! only [N_law_holder]
    refine tk_call (by decide) fun v h0 h1 => ?_
    simp! only [and_true]
    refine itei (fun _ => q 0 rfl) fun _ => ⟨rfl, am_call rfl (by decide) fun x hx => ?_⟩
    obtain ⟨i, hi, rfl⟩ := List.mem_map.mp hx
    exact q i (holders_ok i hi)
theorem ok_law_word (T : Tx K mg) : FnOk P w K mg base CX0 3 (He.ga K "_law_word") T.fd_law_word P_law_word (spD K wp_word1 2) := by
  refine dok T.F_law_word sc_law_word fun cdv A outer s H E hr => ?_
  refine' dokMk (PSs.nox (pss_cons (ps_set (i := 2) sc_law_word.nd rfl (Or.inl rfl) (pe_call (okt_law_take T) hr rfl T.g_law_take T.F_law_take.kp (b_law_take T) .nil pass0 (pa_cons (pv 0) (pa_cons (pe_int) pa_nil)))) (pss_cons (ps_if (pt_cmpR op_lt (pv 2) (pe_int) (nomark _)) (pss_one (ps_ret (pe_ix (show IxR _ (LL.rIxA K) from LL.ix_A) (pe_lst (pa_cons (pv 1) (pa_cons (pe_int) (pa_cons (pe_int) (pa_cons (pe_int) (pa_cons (pe_int) (pa_cons (pe_int) (pa_cons (pe_op op_mod (pe_callTy LT.call_int (by rfl) T.z_int (by decide +kernel) (pa_cons (pe_op (show OpR _ _ (LT.rAddG K) from LT.op_addG) (pv 1) (pe_int)) pa_nil)) (pe_int)) pa_nil)))))))) (pv 2) (fun _ _ => rfl)))) pss_nil) (pss_cons (ps_if (pt_cmpR op_eq (pv 2) (pe_int) (nomark _)) (pss_one (ps_ret (pe_call (okt_law_take T) hr rfl T.g_law_take T.F_law_take.kp (b_law_take T) .nil pass0 (pa_cons (pv 0) (pa_cons (pe_int) pa_nil))))) pss_nil) (pss_one (ps_ret (pe_call (okt_law_take T) hr rfl T.g_law_take T.F_law_take.kp (b_law_take T) .nil pass0 (pa_cons (pv 0) (pa_cons (pe_int) pa_nil))))))))) ?sim ?go
  case sim =>
    try simp only [LL.cxK0, LL.cxK1, List.map_cons, List.map_nil]
    repeat' (first | fail "s")
  case go =>
    intro ts Ω PQ PX hl h
    obtain ⟨b, rfl, hb, q⟩ := h
    have hb' := word_le hb
    simp! only [N_law_word]
    repeat' (first | fail "r" | exact q _ hb | exact q _ (word_of ⟨by omega, by omega⟩))
theorem ok_law_other_word (T : Tx K mg) : FnOk P w K mg base CX0 3 (He.ga K "_law_other_word") T.fd_law_other_word P_law_other_word (spD K wp_oword 2) := by
  refine dok T.F_law_other_word sc_law_other_word fun cdv A outer s H E hr => ?_
  refine' dokMk (PSs.nox (pss_one (ps_ret (pe_op op_mod (pe_callTy LT.call_int (by rfl) T.z_int (by decide +kernel) (pa_cons (pe_op (show OpR _ _ (LT.rAddG K) from LT.op_addG) (pe_op (show OpR _ _ (LT.rAddG K) from LT.op_addG) (pv 1) (pe_int)) (pe_call (okt_law_take T) hr rfl T.g_law_take T.F_law_take.kp (b_law_take T) .nil pass0 (pa_cons (pv 0) (pa_cons (pe_int) pa_nil)))) pa_nil)) (pe_int))))) ?sim ?go
  case sim =>
    try simp only [LL.cxK0, LL.cxK1, List.map_cons, List.map_nil]
    repeat' (first | fail "s")
  case go =>
    intro ts Ω PQ PX hl h
    obtain ⟨b, rfl, hb, q⟩ := h
    have hb' := word_le hb
    simp! only [N_law_other_word]
    refine tk_call (by decide) fun v h0 h1 => ?_
    simp! only [and_true]
    exact q _ (word_of ⟨by omega, by omega⟩) (by omega)
theorem ok_law_blank (T : Tx K mg) : FnOk P w K mg base CX0 3 (He.ga K "_law_blank") T.fd_law_blank P_law_blank (spD K wp_blank 1) := by
  refine dok T.F_law_blank sc_law_blank fun cdv A outer s H E hr => ?_
  refine' dokMk (PSs.nox (pss_cons (ps_set (i := 1) sc_law_blank.nd rfl (Or.inl rfl) (pe_call (okt_law_take T) hr rfl T.g_law_take T.F_law_take.kp (b_law_take T) .nil pass0 (pa_cons (pv 0) (pa_cons (pe_int) pa_nil)))) (pss_cons (ps_if (pt_cmpR op_lt (pv 1) (pe_int) (nomark _)) (pss_one (ps_ret (pe_ix (show IxR _ (LL.rIxA K) from LL.ix_A) (pe_lst (pa_cons (pe_int) (pa_cons (pe_int) (pa_cons (pe_int) (pa_cons (pe_int) (pa_cons (pe_int) (pa_cons (pe_int) (pa_cons (pe_int) pa_nil)))))))) (pv 1) (fun _ _ => rfl)))) pss_nil) (pss_cons (ps_if (pt_cmpR op_eq (pv 1) (pe_int) (nomark _)) (pss_one (ps_ret (pe_call (okt_law_take T) hr rfl T.g_law_take T.F_law_take.kp (b_law_take T) .nil pass0 (pa_cons (pv 0) (pa_cons (pe_int) pa_nil))))) pss_nil) (pss_one (ps_ret (pe_call (okt_law_take T) hr rfl T.g_law_take T.F_law_take.kp (b_law_take T) .nil pass0 (pa_cons (pv 0) (pa_cons (pe_int) pa_nil))))))))) ?sim ?go
  case sim =>
    try simp only [LL.cxK0, LL.cxK1, List.map_cons, List.map_nil]
    repeat' (first | fail "s")
  case go =>
    intro ts Ω PQ PX hl h
    obtain ⟨rfl, q⟩ := h
    simp! only [N_law_blank]
    repeat' (first | fail "r" | exact q _ (word_of ⟨by omega, by omega⟩))
theorem ok_law_other (T : Tx K mg) : FnOk P w K mg base CX0 4 (He.ga K "_law_other") T.fd_law_other P_law_other (spD K wp_other 3) := by
  refine dok T.F_law_other sc_law_other fun cdv A outer s H E hr => ?_
  refine' dokMk (PSs.nox (pss_cons (ps_setLc (i := 3) (own := [("_law_member", 4)]) rfl sc_law_other.nd rfl rfl (sw_true rfl rfl rfl (by decide +kernel)) (LT.pi_seqK (K := K) rfl (pv 1)) (blkOk_by (N := N_law_other) (sc := defScope s_law_other) (by decide +kernel)) (fun _ _ _ _ _ => (pg_name (i := 4) sc_law_other.nd rfl (Or.inl rfl))) (fun _ _ _ _ _ => pts_one (pt_cmpR op_ne (pv 4) (pv 2) (nomark _))) (fun _ _ _ _ _ => (pv 4))) (pss_cons (ps_if (pt_cmpR op_eq (pe_callB (show CallR _ _ (LT.rLenS K) from LT.call_lenS) (by rfl) T.z_len (by decide +kernel) (pa_cons (pv 3) pa_nil)) (pe_int) (nomark _)) (pss_one (ps_ret (pv 2))) pss_nil) (pss_one (ps_ret (pe_call (ok_law_among T) hr rfl T.g_law_among T.F_law_among.kp (b_law_among T) .nil pass0 (pa_cons (pv 0) (pa_cons (pv 3) pa_nil)))))))) ?sim ?go
  case sim =>
    try simp only [LL.cxK0, LL.cxK1, List.map_cons, List.map_nil]
    repeat' (first | fail "s")
  case go =>
    intro ts Ω PQ PX hl h
    obtain ⟨ns, old, rfl, ⟨v0, hv, hn⟩, q⟩ := h
    simp! only [N_law_other]
    refine flt_S (t := .lst (ns.map Tr.int)) (ts := ns.map Tr.int) (fun P p => ⟨_, rfl, p⟩) rfl id (fun t => !decide (intOf t = old)) (fun x hx Q N q1 q2 => ?_) (.inl ?_)
    · obtain ⟨i, hi, rfl⟩ := List.mem_map.mp hx
      simp! only [and_true]
      exact itei (fun h => q1 h) fun h => q2 ((Bool.not_eq_true _).mp h)
    · simp! only [and_true]
      rw [List.map_id]
      have hm : Tr.int v0 ∈ List.filter (fun t => !decide (intOf t = old)) (ns.map Tr.int) := List.mem_filter.mpr ⟨List.mem_map.mpr ⟨v0, hv, rfl⟩, by simp [intOf, hn]⟩
      refine fun hz => itei (fun h => ?_) fun h => am_call rfl (List.ne_nil_of_mem hm) fun x hx => ?_
      · have := List.length_pos_of_mem hm
        omega
      · obtain ⟨h1, h2⟩ := List.mem_filter.mp hx
        obtain ⟨i, hi, rfl⟩ := List.mem_map.mp h1
        exact q i hi (fun e => by rw [show intOf (.int i) = i from rfl, e] at h2; simp at h2)
def wp_near : Pw := fun ts Ω PQ _ => ∃ I, ts = [.drw, imT I] ∧ GI I ∧ ∀ J, GI J → J.w = I.w → J.f = I.f → J.ws.length = I.ws.length → PQ (imT J) Ω
def wp_small : Pw := fun ts Ω PQ _ => ts = [.drw] ∧ ∀ I, GI I → I.ws.length ≤ 1024 → PQ (imT I) Ω
def wp_due : Pw := fun ts Ω PQ _ => ∃ I J, ts = [imT I, imT J] ∧ GI I ∧ GI J ∧ like I J = true ∧ PQ (.lst ((diff I J).map cT)) Ω
theorem ok_law_near_image (T : Tx K mg) : FnOk P w K mg base CX0 5 (He.ga K "_law_near_image") T.fd_law_near_image P_law_near_image (spD K wp_near 2) := by
  refine dok T.F_law_near_image sc_law_near_image fun cdv A outer s H E hr => ?_
  refine' dokMk (PSs.nox (pss_cons (ps_set (i := 2) sc_law_near_image.nd rfl (Or.inl rfl) (pe_callTy (show CallR _ _ (LT.rList K) from LT.call_list rfl) (by rfl) T.z_list (by decide +kernel) (pa_cons (pe_ix (show IxR _ (LL.rIxA K) from LL.ix_A) (pv 1) (pe_int) (fun _ _ => rfl)) pa_nil))) (pss_cons (ps_set (i := 3) sc_law_near_image.nd rfl (Or.inl rfl) (pe_callTy (show CallR _ _ (LT.rList K) from LT.call_list rfl) (by rfl) T.z_list (by decide +kernel) (pa_cons (pe_ix (show IxR _ (LL.rIxA K) from LL.ix_A) (pv 1) (pe_int) (fun _ _ => rfl)) pa_nil))) (pss_cons (ps_for PassesOwn.never rfl (pi_range1 rfl T.z_range (pa_cons (pe_call (ok_law_between T) (hr.mono (by decide)) rfl T.g_law_between T.F_law_between.kp (b_law_between T) .nil pass0 (pa_cons (pv 0) (pa_cons (pe_int) (pa_cons (pe_int) pa_nil)))) pa_nil)) (pg_name (i := 4) sc_law_near_image.nd rfl (Or.inl rfl)) (pss_cons (ps_set (i := 5) sc_law_near_image.nd rfl (Or.inl rfl) (pe_call (ok_law_between T) (hr.mono (by decide)) rfl T.g_law_between T.F_law_between.kp (b_law_between T) .nil pass0 (pa_cons (pv 0) (pa_cons (pe_int) (pa_cons (pe_op op_sub (pe_callB (show CallR _ _ (LT.rLenS K) from LT.call_lenS) (by rfl) T.z_len (by decide +kernel) (pa_cons (pv 2) pa_nil)) (pe_int)) pa_nil))))) (pss_cons (ps_set (i := 6) sc_law_near_image.nd rfl (Or.inl rfl) (pe_call (okt_law_take T) (hr.mono (by decide)) rfl T.g_law_take T.F_law_take.kp (b_law_take T) .nil pass0 (pa_cons (pv 0) (pa_cons (pe_int) pa_nil)))) (pss_cons (ps_if (pt_cmpR op_ne (pv 6) (pe_int) (nomark _)) (pss_one (ps_asg (pe_call (ok_law_word T) (hr.mono (by decide)) rfl T.g_law_word T.F_law_word.kp (b_law_word T) .nil pass0 (pa_cons (pv 0) (pa_cons (pe_ix (show IxR _ (LL.rIxA K) from LL.ix_A) (pv 1) (pe_int) (fun _ _ => rfl)) pa_nil))) (pg_sub (pv 2) (pv 5) set_list))) pss_nil) (pss_one (ps_if (pt_cmpR op_gt (pv 6) (pe_int) (nomark _)) (pss_one (ps_asg (pe_call (ok_law_holder T) hr rfl T.g_law_holder T.F_law_holder.kp (b_law_holder T) .nil pass0 (pa_cons (pv 0) pa_nil)) (pg_sub (pv 3) (pv 5) set_list))) pss_nil)))))) (pss_one (ps_ret (pe_tup (pa_cons (pe_ix (show IxR _ (LL.rIxA K) from LL.ix_A) (pv 1) (pe_int) (fun _ _ => rfl)) (pa_cons (pe_ix (show IxR _ (LL.rIxA K) from LL.ix_A) (pv 1) (pe_int) (fun _ _ => rfl)) (pa_cons (pe_callTy (show CallR _ _ (LT.rTuple K) from LT.call_tuple) (by rfl) T.z_tuple (by decide +kernel) (pa_cons (pv 2) pa_nil)) (pa_cons (pe_callTy (show CallR _ _ (LT.rTuple K) from LT.call_tuple) (by rfl) T.z_tuple (by decide +kernel) (pa_cons (pv 3) pa_nil)) pa_nil))))))))))) ?sim ?go
  case sim =>
    try simp only [LL.cxK0, LL.cxK1, List.map_cons, List.map_nil]
    repeat' (first | with_reducible apply sim_retF | fail "s")
  case go =>
    intro ts Ω PQ PX hl h
    obtain ⟨I, rfl, gi, q⟩ := h
    have hw := gi.w
    have gn := gi.n
    simp! only [N_law_near_image, imT]
    refine .inl fun _ => .inr fun a ha => .inl fun _ => .inr fun b hb => ?_
    have hab : a ≠ b := fun z => by rw [z, put_same] at hb; cases hb
    have hb' : Ω b = none := by rw [put_ne (Ne.symm hab)] at hb; exact hb
    rw [show put (put Ω a (.lst (I.ws.map Tr.int))) b (.lst (I.hs.map Tr.int)) = Two Ω a b I.ws I.hs from rfl]
    refine for_R1W (R := fun n => 0 ≤ n ∧ n ≤ 8) (Ω1 := Two Ω a b I.ws I.hs) (fun P p => ?_) (fun n hn => by omega) (fun ρ' Ω' => ∃ (ws hs : List Int) (x4 x5 x6 : Option Tr), Ω' = Two Ω a b ws hs ∧ ρ' = [some .drw, some (imT I), some (.obj a), some (.obj b), x4, x5, x6] ∧ ws.length = I.ws.length ∧ hs.length = I.ws.length ∧ (∀ k ∈ ws, wordB k = true) ∧ ∀ k ∈ hs, holdB k = true) ⟨I.ws, I.hs, _, _, _, rfl, rfl, rfl, gi.len.symm, gi.ws, gi.hs⟩ ?_ ?_
    · simp! only [and_true]
      exact bt_call (tk_big (by omega) (by omega)) fun v a b => p v ⟨by omega, by omega⟩
    · rintro n hn v ρ' Ω' h0 h1 ⟨ws, hs, x4, x5, x6, rfl, rfl, l1, l2, w1, w2⟩
      have tA := two_a hab Ω
      have tB := two_b (a := a) (b := b) Ω
      have lA := lenT_obj (tA ws hs)
      simp! only [lA, List.length_map]
      refine fun _ => bt_call (tk_big (by omega) (by omega)) fun at_ a0 a1 => ?_
      obtain ⟨u1, _, _, u2⟩ := atI_ix (ns := ws) (p := at_) (by omega) (by omega)
      obtain ⟨u3, _, _, u4⟩ := atI_ix (ns := hs) (p := at_) (by omega) (by omega)
      simp! only [and_true]
      refine tk_call (by decide) fun kd k0 k1 => ?_
      simp! only [imT]
      refine itei (fun hk => wd_call gi.f fun w hw => ?_) fun hk => ?_
      · simp! only [tA]
        refine ⟨_, u2, ?_⟩
        rw [two_sa hab]
        refine itei (fun h2 => hd_call fun h hh => ?_) fun h2 => ⟨ws.set at_.toNat w, hs, rfl, by rw [List.length_set]; exact l1, l2, fun k hk => (mem_set hk).elim (w1 k) (fun e => e ▸ hw), w2⟩
        simp! only [tB]
        refine ⟨_, u4, ?_⟩
        rw [two_sb]
        exact ⟨ws.set at_.toNat w, hs.set at_.toNat h, rfl, by rw [List.length_set]; exact l1, by rw [List.length_set]; exact l2, fun k hk => (mem_set hk).elim (w1 k) (fun e => e ▸ hw), fun k hk => (mem_set hk).elim (w2 k) (fun e => e ▸ hh)⟩
      · refine itei (fun h2 => hd_call fun h hh => ?_) fun h2 => ⟨ws, hs, rfl, l1, l2, w1, w2⟩
        simp! only [tB]
        refine ⟨_, u4, ?_⟩
        rw [two_sb]
        exact ⟨ws, hs.set at_.toNat h, rfl, l1, by rw [List.length_set]; exact l2, w1, fun k hk => (mem_set hk).elim (w2 k) (fun e => e ▸ hh)⟩
    · rintro ρ' Ω' ⟨ws, hs, x4, x5, x6, rfl, rfl, l1, l2, w1, w2⟩
      have sA := asS_obj (two_a hab Ω ws hs)
      have sB := asS_obj (two_b (a := a) (b := b) Ω ws hs)
      simp! only [imT, sA, sB]
      refine fun _ _ => two_ret ha hb' hab ?_
      exact q ⟨I.w, I.f, ws, hs⟩ ⟨gi.w, gi.f, by rw [l1, l2], by rw [l1]; exact gi.fit, w1, w2⟩ rfl rfl l1
theorem ok_law_small_image (T : Tx K mg) : FnOk P w K mg base CX0 5 (He.ga K "_law_small_image") T.fd_law_small_image P_law_small_image (spD K wp_small 1) := by
  refine dok T.F_law_small_image sc_law_small_image fun cdv A outer s H E hr => ?_
  refine' dokMk (PSs.nox (pss_cons (ps_set (i := 1) sc_law_small_image.nd rfl (Or.inl rfl) (pe_call (ok_law_among T) (hr.mono (by decide)) rfl T.g_law_among T.F_law_among.kp (b_law_among T) .nil pass0 (pa_cons (pv 0) (pa_cons (pe_lst (pa_cons (pe_int) (pa_cons (pe_int) (pa_cons (pe_int) (pa_cons (pe_int) (pa_cons (pe_int) pa_nil)))))) pa_nil)))) (pss_cons (ps_set (i := 2) sc_law_small_image.nd rfl (Or.inl rfl) (pe_call (ok_law_blank T) (hr.mono (by decide)) rfl T.g_law_blank T.F_law_blank.kp (b_law_blank T) .nil pass0 (pa_cons (pv 0) pa_nil))) (pss_cons (ps_set (i := 3) sc_law_small_image.nd rfl (Or.inl rfl) (pe_op op_mul (pv 1) (pe_call (ok_law_between T) (hr.mono (by decide)) rfl T.g_law_between T.F_law_between.kp (b_law_between T) .nil pass0 (pa_cons (pv 0) (pa_cons (pe_int) (pa_cons (pe_op (show OpR _ _ (LT.rAddG K) from LT.op_addG) (pe_int) (pe_op op_mul (pe_int) (pe_op op_fdiv (pe_call (okt_law_take T) (hr.mono (by decide)) rfl T.g_law_take T.F_law_take.kp (b_law_take T) .nil pass0 (pa_cons (pv 0) (pa_cons (pe_int) pa_nil))) (pe_int)))) pa_nil)))))) (pss_cons (ps_set (i := 4) sc_law_small_image.nd rfl (Or.inl rfl) (pe_op op_rep (pe_lst (pa_cons (pv 2) pa_nil)) (pv 3))) (pss_cons (ps_set (i := 5) sc_law_small_image.nd rfl (Or.inl rfl) (pe_op op_rep (pe_lst (pa_cons (pe_int) pa_nil)) (pv 3))) (pss_cons (ps_for PassesOwn.never rfl (pi_range1 rfl T.z_range (pa_cons (pe_call (ok_law_between T) (hr.mono (by decide)) rfl T.g_law_between T.F_law_between.kp (b_law_between T) .nil pass0 (pa_cons (pv 0) (pa_cons (pe_int) (pa_cons (pe_int) pa_nil)))) pa_nil)) (pg_name (i := 6) sc_law_small_image.nd rfl (Or.inl rfl)) (pss_cons (ps_set (i := 7) sc_law_small_image.nd rfl (Or.inl rfl) (pe_call (okt_law_take T) (hr.mono (by decide)) rfl T.g_law_take T.F_law_take.kp (b_law_take T) .nil pass0 (pa_cons (pv 0) (pa_cons (pv 3) pa_nil)))) (pss_cons (ps_set (i := 8) sc_law_small_image.nd rfl (Or.inl rfl) (pe_call (ok_law_holder T) hr rfl T.g_law_holder T.F_law_holder.kp (b_law_holder T) .nil pass0 (pa_cons (pv 0) pa_nil))) (pss_one (ps_for PassesOwn.never rfl (pi_range2 rfl T.z_range (pa_cons (pv 7) (pa_cons (pe_op (show OpR _ _ (LT.rAddG K) from LT.op_addG) (pv 7) (pe_call (ok_law_between T) (hr.mono (by decide)) rfl T.g_law_between T.F_law_between.kp (b_law_between T) .nil pass0 (pa_cons (pv 0) (pa_cons (pe_int) (pa_cons (pe_callB (LL.call_mn rfl) (by rfl) T.z_min (by decide +kernel) (pa_cons (pe_int) (pa_cons (pe_op op_sub (pv 3) (pv 7)) pa_nil))) pa_nil))))) pa_nil))) (pg_name (i := 9) sc_law_small_image.nd rfl (Or.inl rfl)) (pss_cons (ps_asg (pv 8) (pg_sub (pv 5) (pv 9) set_list)) (pss_one (ps_asg (pe_call (ok_law_word T) (hr.mono (by decide)) rfl T.g_law_word T.F_law_word.kp (b_law_word T) .nil pass0 (pa_cons (pv 0) (pa_cons (pv 2) pa_nil))) (pg_sub (pv 4) (pv 9) set_list))))))))) (pss_one (ps_ret (pe_tup (pa_cons (pv 1) (pa_cons (pv 2) (pa_cons (pe_callTy (show CallR _ _ (LT.rTuple K) from LT.call_tuple) (by rfl) T.z_tuple (by decide +kernel) (pa_cons (pv 4) pa_nil)) (pa_cons (pe_callTy (show CallR _ _ (LT.rTuple K) from LT.call_tuple) (by rfl) T.z_tuple (by decide +kernel) (pa_cons (pv 5) pa_nil)) pa_nil)))))))))))))) ?sim ?go
  case sim =>
    try simp only [LL.cxK0, LL.cxK1, List.map_cons, List.map_nil]
    repeat' (first | with_reducible apply sim_retF | fail "s")
  case go =>
    intro ts Ω PQ PX hl h
    obtain ⟨rfl, q⟩ := h
    simp! only [N_law_small_image]
    refine lst_in (am_call rfl (by decide) fun x hx => ?_)
    obtain ⟨w, rfl, hw, w0, w1⟩ : ∃ w, x = .int w ∧ widthB w = true ∧ 16 ≤ w ∧ w ≤ 64 := by
      simp only [List.mem_cons, List.not_mem_nil, or_false] at hx
      rcases hx with rfl | rfl | rfl | rfl | rfl <;> exact ⟨_, rfl, by decide, by decide, by decide⟩
    refine bk_call fun f hf => tk_call (by decide) fun t t0 t1 => ?_
    simp! only [and_true]
    refine ⟨⟨by decide, by decide⟩, .inl ⟨by decide, by decide⟩, bt_call (tk_big (by omega) (by omega)) fun n n0 n1 => ?_⟩
    have n2 : n ≤ 16 := by omega
    simp! only [and_true]
    have c0 : 16 ≤ w * n := by
      have := Int.mul_le_mul w0 n0 (by decide) (by omega)
      omega
    have c1 : w * n ≤ 1024 := by
      have := Int.mul_le_mul w1 n2 (by omega) (by decide)
      omega
    have c2 : w * n % w = 0 := Int.mul_emod_right w n
    have c3 : w * n / w = n := Int.mul_ediv_cancel_left n (by omega)
    generalize hc : w * n = c at c0 c1 c2 c3
    refine ⟨.inl ⟨by omega, by omega⟩, lst_in ?_⟩
    simp! only [and_true]
    refine ⟨by omega, by omega, by omega, .inr fun a ha => ?_⟩
    refine lst_in ?_
    simp! only [and_true]
    refine ⟨by omega, by omega, by omega, .inr fun b hb => ?_⟩
    have hab : a ≠ b := fun z => by rw [z, put_same] at hb; cases hb
    have hb' : Ω b = none := by rw [put_ne (Ne.symm hab)] at hb; exact hb
    have e1 : ∀ i : Int, (List.replicate c.toNat [Tr.int i]).flatten = (List.replicate c.toNat i).map Tr.int := fun i => by rw [flat_one, List.map_replicate]
    rw [e1, e1, show put (put Ω a (.lst ((List.replicate c.toNat f).map Tr.int))) b (.lst ((List.replicate c.toNat (0 : Int)).map Tr.int)) = Two Ω a b (List.replicate c.toNat f) (List.replicate c.toNat 0) from rfl]
    have hwB := hw
    refine for_R1W (R := fun n => 0 ≤ n ∧ n ≤ 7) (Ω1 := Two Ω a b (List.replicate c.toNat f) (List.replicate c.toNat 0)) (fun P p => ?_) (fun n hn => by omega) (fun ρ' Ω' => ∃ (ws hs : List Int) (x6 x7 x8 x9 : Option Tr), Ω' = Two Ω a b ws hs ∧ ρ' = [some .drw, some (.int w), some (.int f), some (.int c), some (.obj a), some (.obj b), x6, x7, x8, x9] ∧ ws.length = c.toNat ∧ hs.length = c.toNat ∧ (∀ k ∈ ws, wordB k = true) ∧ ∀ k ∈ hs, holdB k = true) ⟨_, _, _, _, _, _, rfl, rfl, List.length_replicate, List.length_replicate, fun k hk => (List.mem_replicate.mp hk).2 ▸ hf, fun k hk => (List.mem_replicate.mp hk).2 ▸ rfl⟩ ?_ ?_
    · simp! only [and_true]
      exact bt_call (tk_big (by omega) (by omega)) fun v a b => p v ⟨by omega, by omega⟩
    · rintro m hm v ρ' Ω' h0 h1 ⟨ws, hs, x6, x7, x8, x9, rfl, rfl, l1, l2, k1, k2⟩
      simp! only [and_true]
      refine tk_call (tk_big (by omega) (by omega)) fun st s0 s1 => hd_call fun h hh => ?_
      refine for_R2W (R := fun a n => a = st ∧ st ≤ n ∧ n ≤ c) (Ω1 := Two Ω a b ws hs) (fun P p => ?_) (fun a n hn => by omega) (fun ρ' Ω' => ∃ (ws hs : List Int) (x9 : Option Tr), Ω' = Two Ω a b ws hs ∧ ρ' = [some .drw, some (.int w), some (.int f), some (.int c), some (.obj a), some (.obj b), some (.int v), some (.int st), some (.int h), x9] ∧ ws.length = c.toNat ∧ hs.length = c.toNat ∧ (∀ k ∈ ws, wordB k = true) ∧ ∀ k ∈ hs, holdB k = true) ⟨ws, hs, _, rfl, rfl, l1, l2, k1, k2⟩ ?_ ?_
      · simp! only [and_true]
        refine bt_call (tk_big (by omega) (by omega)) fun y y0 y1 => ?_
        simp! only [and_true]
        exact p _ _ ⟨rfl, by omega, by omega⟩
      · rintro a' n' ⟨rfl, hn0, hn'⟩ u ρ' Ω' u0 u1 ⟨ws, hs, x9, rfl, rfl, l1, l2, k1, k2⟩
        have tA := two_a hab Ω
        have tB := two_b (a := a) (b := b) Ω
        obtain ⟨_, _, _, u2⟩ := atI_ix (ns := ws) (p := u) (by omega) (by omega)
        obtain ⟨_, _, _, u4⟩ := atI_ix (ns := hs) (p := u) (by omega) (by omega)
        simp! only [tB]
        refine ⟨_, u4, ?_⟩
        rw [two_sb]
        refine wd_call hf fun wv hwv => ?_
        simp! only [tA]
        refine ⟨_, u2, ?_⟩
        rw [two_sa hab]
        exact ⟨ws.set u.toNat wv, hs.set u.toNat h, rfl, by rw [List.length_set]; exact l1, by rw [List.length_set]; exact l2, fun k hk => (mem_set hk).elim (k1 k) (fun e => e ▸ hwv), fun k hk => (mem_set hk).elim (k2 k) (fun e => e ▸ hh)⟩
      · rintro ρ' Ω' ⟨ws, hs, x9, rfl, rfl, l1, l2, k1, k2⟩
        exact ⟨ws, hs, rfl, ⟨_, _, _, _, rfl⟩, l1, l2, k1, k2⟩
    · rintro ρ' Ω' ⟨ws, hs, x6, x7, x8, x9, rfl, rfl, l1, l2, k1, k2⟩
      have sA := asS_obj (two_a hab Ω ws hs)
      have sB := asS_obj (two_b (a := a) (b := b) Ω ws hs)
      simp! only [sA, sB]
      refine fun _ _ => two_ret ha hb' hab ?_
      refine q ⟨w, f, ws, hs⟩ ⟨hw, hf, by rw [l1, l2], ?_, k1, k2⟩ (by show ws.length ≤ 1024; omega)
      show fitsB (ws.length : Int) w = true
      rw [l1, show ((c.toNat : Nat) : Int) = c by omega]
      unfold fitsB
      rw [c2, c3]
      simp
      omega
theorem ok_law_changes_due (T : Tx K mg) : FnOk P w K mg base CX0 1 (He.ga K "_law_changes_due") T.fd_law_changes_due P_law_changes_due (spD K wp_due 2) := by
  refine dok T.F_law_changes_due sc_law_changes_due fun cdv A outer s H E hr => ?_
  refine' dokMk (PSs.nox (pss_cons (ps_set (i := 2) sc_law_changes_due.nd rfl (Or.inl rfl) (pe_lst pa_nil)) (pss_cons (ps_for PassesOwn.never rfl (pi_range1 rfl T.z_range (pa_cons (pe_callB (show CallR _ _ (LT.rLenS K) from LT.call_lenS) (by rfl) T.z_len (by decide +kernel) (pa_cons (pe_ix (show IxR _ (LL.rIxA K) from LL.ix_A) (pv 0) (pe_int) (fun _ _ => rfl)) pa_nil)) pa_nil)) (pg_name (i := 3) sc_law_changes_due.nd rfl (Or.inl rfl)) (pss_one (ps_if (PW.pt (pw_or (pt_cmpR op_ne (pe_ix (show IxR _ (LL.rIxA K) from LL.ix_A) (pe_ix (show IxR _ (LL.rIxA K) from LL.ix_A) (pv 0) (pe_int) (fun _ _ => rfl)) (pv 3) (fun _ _ => rfl)) (pe_ix (show IxR _ (LL.rIxA K) from LL.ix_A) (pe_ix (show IxR _ (LL.rIxA K) from LL.ix_A) (pv 1) (pe_int) (fun _ _ => rfl)) (pv 3) (fun _ _ => rfl)) (nomark _)) (pw_or1 (pt_cmpR op_ne (pe_ix (show IxR _ (LL.rIxA K) from LL.ix_A) (pe_ix (show IxR _ (LL.rIxA K) from LL.ix_A) (pv 0) (pe_int) (fun _ _ => rfl)) (pv 3) (fun _ _ => rfl)) (pe_ix (show IxR _ (LL.rIxA K) from LL.ix_A) (pe_ix (show IxR _ (LL.rIxA K) from LL.ix_A) (pv 1) (pe_int) (fun _ _ => rfl)) (pv 3) (fun _ _ => rfl)) (nomark _))))) (pss_one (ps_expr (pe_bm PySem.F.plainAttrs_list PySem.F.slot_list_append PySem.F.type_list_append mt_append (pv 2) (pa_cons (pe_tup (pa_cons (pv 3) (pa_cons (pe_ix (show IxR _ (LL.rIxA K) from LL.ix_A) (pe_ix (show IxR _ (LL.rIxA K) from LL.ix_A) (pv 0) (pe_int) (fun _ _ => rfl)) (pv 3) (fun _ _ => rfl)) (pa_cons (pe_ix (show IxR _ (LL.rIxA K) from LL.ix_A) (pe_ix (show IxR _ (LL.rIxA K) from LL.ix_A) (pv 0) (pe_int) (fun _ _ => rfl)) (pv 3) (fun _ _ => rfl)) (pa_cons (pe_ix (show IxR _ (LL.rIxA K) from LL.ix_A) (pe_ix (show IxR _ (LL.rIxA K) from LL.ix_A) (pv 1) (pe_int) (fun _ _ => rfl)) (pv 3) (fun _ _ => rfl)) (pa_cons (pe_ix (show IxR _ (LL.rIxA K) from LL.ix_A) (pe_ix (show IxR _ (LL.rIxA K) from LL.ix_A) (pv 1) (pe_int) (fun _ _ => rfl)) (pv 3) (fun _ _ => rfl)) pa_nil)))))) pa_nil)))) pss_nil))) (pss_one (ps_ret (pv 2)))))) ?sim ?go
  case sim =>
    try simp only [LL.cxK0, LL.cxK1, List.map_cons, List.map_nil]
    repeat' (first | with_reducible apply sim_retThaw (i := 2) | fail "s")
  case go =>
    intro ts Ω PQ PX hl h
    obtain ⟨I, J, rfl, gi, gj, lk, q⟩ := h
    have gn := gi.n
    obtain ⟨k1, k2, k3⟩ := like_iff.mp lk
    simp! only [N_law_changes_due]
    refine .inr fun c hc => ?_
    refine for_R1 (n := (I.ws.length : Nat)) (Ω1 := put Ω c (.lst [])) (fun P p => ?_) (by omega) (fun i ρ' Ω' => ∃ (acc : List Ch) (x3 : Option Tr), Ω' = put Ω c (.lst (acc.map cT)) ∧ ρ' = [some (imT I), some (imT J), some (.obj c), x3] ∧ acc.length ≤ i ∧ acc ++ diffL i (I.ws.drop i) (I.hs.drop i) (J.ws.drop i) (J.hs.drop i) = diff I J) ⟨[], _, rfl, rfl, Nat.le_refl _, rfl⟩ ?_ ?_
    · simp! only [imT, List.length_map]
      exact fun _ => p
    · rintro i ρ' Ω' hi ⟨acc, x3, rfl, rfl, hal, he⟩
      have hli := gi.len
      have hlj := gj.len
      obtain ⟨a, ha1⟩ : ∃ a, I.ws[i]? = some a := ⟨_, List.getElem?_eq_getElem (show i < I.ws.length by omega)⟩
      obtain ⟨b, hb1⟩ : ∃ a, I.hs[i]? = some a := ⟨_, List.getElem?_eq_getElem (show i < I.hs.length by omega)⟩
      obtain ⟨a', ha2⟩ : ∃ a, J.ws[i]? = some a := ⟨_, List.getElem?_eq_getElem (show i < J.ws.length by omega)⟩
      obtain ⟨b', hb2⟩ : ∃ a, J.hs[i]? = some a := ⟨_, List.getElem?_eq_getElem (show i < J.hs.length by omega)⟩
      rw [diffL_drop ha1 hb1 ha2 hb2, show ((i : Int) + 1) = ((i + 1 : Nat) : Int) by omega] at he
      have e1 := atI_map ha1
      have e2 := atI_map hb1
      have e3 := atI_map ha2
      have e4 := atI_map hb2
      simp! only [imT, e1, e2, e3, e4, asL_put]
      have done : ¬ (a = a' ∧ b = b') → (acc.map cT).length ≤ 999999 ∧ ∃ acc_1, put Ω c (.lst (acc.map cT ++ [.tup [.int i, .int a, .int b, .int a', .int b']])) = put Ω c (.lst (acc_1.map cT)) ∧ acc_1.length ≤ i + 1 ∧ acc_1 ++ diffL (↑(i + 1)) (I.ws.drop (i + 1)) (I.hs.drop (i + 1)) (J.ws.drop (i + 1)) (J.hs.drop (i + 1)) = diff I J := fun eq => by
        rw [if_neg eq] at he
        refine ⟨by rw [List.length_map]; omega, acc ++ [⟨i, a, b, a', b'⟩], by rw [List.map_append]; rfl, by rw [List.length_append]; exact Nat.succ_le_succ hal, ?_⟩
        rw [List.append_assoc]
        exact he
      refine itei (fun h => done (fun z => by simp [z.1] at h)) fun h => itei (fun h2 => done (fun z => by simp [z.2] at h2)) fun h2 => ?_
      rw [if_pos ⟨by simpa using h, by simpa using h2⟩] at he
      exact ⟨acc, rfl, by omega, he⟩
    · rintro ρ' Ω' ⟨acc, x3, rfl, rfl, hal, he⟩
      rw [show ((I.ws.length : Nat) : Int).toNat = I.ws.length by omega, List.drop_length] at he
      rw [show diffL _ [] _ _ _ = [] from by simp [diffL], List.append_nil] at he
      subst he
      exact ret_new rfl hc q
/-! ### what is asked -/
def wp_asked : Pw := fun ts Ω PQ _ => ∃ a b, (ts = [.str "changes", a, b] ∧ wp_changes [a, b] Ω (fun t Ω' => PQ (.lst [.str "done", t]) Ω') (fun x Ω' => ∃ n, x = badX (.str n) ∧ PQ (refLT (.tup [.str n])) Ω')) ∨ (ts = [.str "apply", a, b] ∧ wp_apply [a, b] Ω (fun t Ω' => PQ (.lst [.str "done", t]) Ω') (fun x Ω' => ∃ n, x = badX (.str n) ∧ PQ (refLT (.tup [.str n])) Ω')) ∨ (ts = [.str "invert", a, b] ∧ wp_invert [a] Ω (fun t Ω' => PQ (.lst [.str "done", t]) Ω') (fun x Ω' => ∃ n, x = badX (.str n) ∧ PQ (refLT (.tup [.str n])) Ω'))
def wp_isref : Pw := fun ts Ω PQ _ => ∃ t a b n, ts = [t, a, b, .str n] ∧ wp_asked [t, a, b] Ω (fun r Ω' => r = refLT (.tup [.str n]) ∧ PQ (.bl true) Ω') nox
theorem lstNew_mono {us : List Tr} {Ω : Om} {P P' : PT'} (h : lstNew us Ω P) (m : ∀ t Ω', P t Ω' → P' t Ω') : lstNew us Ω P' := h.imp (m _ _) fun h a ha => m _ _ (h a ha)
theorem ch_mono {ts : List Tr} {Ω : Om} {P P' : PT'} {X X' : PXt} (h : wp_changes ts Ω P X) (m : ∀ t Ω', P t Ω' → P' t Ω') (mx : ∀ x Ω', X x Ω' → X' x Ω') : wp_changes ts Ω P' X' := by
  obtain ⟨b, a, e, h1, h2, h3, h4, q1, q2⟩ := h
  exact ⟨b, a, e, h1, h2, h3, h4, fun z => mx _ _ (q1 z), fun I e gi => ⟨fun z => mx _ _ ((q2 I e gi).1 z), fun J e2 gj => ⟨fun z => mx _ _ (((q2 I e gi).2 J e2 gj).1 z), fun z => lstNew_mono (((q2 I e gi).2 J e2 gj).2 z) m⟩⟩⟩
theorem ap_mono {ts : List Tr} {Ω : Om} {P P' : PT'} {X X' : PXt} (h : wp_apply ts Ω P X) (m : ∀ t Ω', P t Ω' → P' t Ω') (mx : ∀ x Ω', X x Ω' → X' x Ω') : wp_apply ts Ω P' X' := by
  obtain ⟨t, r, r', e, h1, h2, h3, h4, q1, q2⟩ := h
  exact ⟨t, r, r', e, h1, h2, h3, h4, fun z => mx _ _ (q1 z), fun I e gi => ⟨fun z => mx _ _ ((q2 I e gi).1 z), fun cs e2 hc => ⟨fun z => mx _ _ (((q2 I e gi).2 cs e2 hc).1 z), fun ws hs z => m _ _ (((q2 I e gi).2 cs e2 hc).2 ws hs z)⟩⟩⟩
theorem iv_mono {ts : List Tr} {Ω : Om} {P P' : PT'} {X X' : PXt} (h : wp_invert ts Ω P X) (m : ∀ t Ω', P t Ω' → P' t Ω') (mx : ∀ x Ω', X x Ω' → X' x Ω') : wp_invert ts Ω P' X' := by
  obtain ⟨r, r', e, h1, h2, q1, q2⟩ := h
  exact ⟨r, r', e, h1, h2, fun z => mx _ _ (q1 z), fun cs e2 hc => lstNew_mono (q2 cs e2 hc) m⟩
theorem as_mono {ts : List Tr} {Ω : Om} {P P' : PT'} {X X' : PXt} (h : wp_asked ts Ω P X) (m : ∀ t Ω', P t Ω' → P' t Ω') : wp_asked ts Ω P' X' := by
  obtain ⟨a, b, h⟩ := h
  refine ⟨a, b, ?_⟩
  rcases h with ⟨e, h⟩ | ⟨e, h⟩ | ⟨e, h⟩
  · exact .inl ⟨e, ch_mono h (fun t Ω' q => m _ _ q) fun x Ω' ⟨n, e, q⟩ => ⟨n, e, m _ _ q⟩⟩
  · exact .inr (.inl ⟨e, ap_mono h (fun t Ω' q => m _ _ q) fun x Ω' ⟨n, e, q⟩ => ⟨n, e, m _ _ q⟩⟩)
  · exact .inr (.inr ⟨e, iv_mono h (fun t Ω' q => m _ _ q) fun x Ω' ⟨n, e, q⟩ => ⟨n, e, m _ _ q⟩⟩)
end K11

namespace K11
open PySem PySem.Spec PyProof.Rows L2 LL LT
local macro_rules | `(tactic| fail "s") => `(tactic| first | (with_reducible first | exact sim_var | exact sim_int | exact sim_bl | exact sim_str | exact sim_non | exact sim_ty | exact sim_ref | exact sim_nil | apply sim_cons | apply sim_op | apply simr_I0 | apply simr_I | exact simr_Eq | exact simr_Ne | exact simr_IxA | exact simr_addG | exact simr_isN | exact simr_notN | exact simr_isB | exact simr_in | exact simr_IxL | exact simr_IxT | exact simr_IxS | exact simr_EqD | exact simr_NeD | exact simr_rep | exact simr_repW | apply sim_un | apply sim_test | apply sim_tB | apply sim_and | apply sim_or | apply sim_not | apply sim_andV | apply sim_orV | apply sim_notV | apply sim_if | apply sim_chain | apply sim_tup | apply sim_lst | apply sim_bor0 | apply sim_bor | apply sim_borS | apply sim_call0 | apply sim_call | apply sim_callS | apply sim_callZ | apply sim_isXT | apply sim_isX | apply sim_xf | apply sim_sortS | apply sim_listRg | apply sim_CB | exact simc_len | exact simc_int | exact simc_isi | exact simc_mx | exact simc_mn | exact simc_sum | exact simc_maxL | exact simc_minL | exact simc_minS | exact simc_all | exact simc_any | exact simc_list | exact simc_tuple | exact simc_isiT | exact simc_strI | exact simc_sortI | exact simc_sortR | apply sim_sl | exact simsl_G | exact simsl_L | exact sim_oNone | apply sim_oSome | apply sim_append | exact sim_newD | apply sim_disp1 | apply sim_dget2 | apply sim_dget1 | apply sim_dget | apply sim_din | apply sim_dnotin | apply sim_lc | apply sim_dc | exact sim_yes | apply sim_iL | apply sim_iT | apply sim_iS | apply sim_iR1 | apply sim_iR2 | apply sim_iE | apply sim_iZ | apply sim_revT | exact gin_name (by decide) | apply gin_tup | exact gin_nil | apply gin_cons | exact mono_name | exact mono_nil | apply mono_cons | apply mono_tup | exact sim_next | apply sim_mk | apply sim_fgl | apply sim_fg | apply sim_seq | apply sim_ret | exact sim_retN | apply sim_drop | exact sim_break | exact sim_cont | apply sim_ifS | apply sim_asg | exact sim_gName | apply sim_gTup | exact sim_gNil | apply sim_gCons | apply sim_gSub | apply sim_for | apply sim_while | apply sim_dput | apply sim_raise | apply sim_tryT0 | apply sim_tryT) | exact fun _ _ => rfl | exact fun _ => rfl | exact fun _ _ _ _ => rfl | intro W | intro a cls d x)
local macro_rules | `(tactic| fail "l") => `(tactic| (simp only [List.length_append,List.length_take,List.length_drop,List.length_map,List.length_cons,List.length_nil,List.length_set,List.length_replicate,List.length_range]; omega))
local macro_rules | `(tactic| fail "r") => `(tactic| first | fail "d" | with_reducible refine fun (_ : _ ≤ 1000000) => ?_ | with_reducible refine Or.inl (fun (_ : _ ≤ 1000000) => ?_) | with_reducible refine lst_in ?_ | with_reducible refine dic_in ?_ | with_reducible refine tk_call (by first | decide | exact tk_big (by omega) (by omega)) fun v h0 h1 => ?_ | with_reducible refine bt_call (by first | decide | exact tk_big (by omega) (by omega)) fun v h0 h1 => ?_ | with_reducible refine ct_call (by first | decide | exact ⟨by omega, by omega, by omega⟩) fun v h0 h1 => ?_ | with_reducible refine LL.itei (fun h => ?_) fun h => ?_ | with_reducible refine pickP (by omega) (by simp only [List.length_cons, List.length_nil]; omega) ?_ | with_reducible refine List.forall_mem_cons.mpr (And.intro ?_ ?_) | with_reducible exact LT.nil_all | with_reducible refine And.intro (by first | (unfold CPow; decide) | omega | rfl) ?_ | with_reducible refine am_call rfl (List.cons_ne_nil _ _) ?_ | refine And.intro (show CMul _ _ from .inl ⟨by omega, by omega⟩) ?_)
local macro_rules | `(tactic| fail "d") => `(tactic| simp only [and_true,dSortI,dSortR,dLstRg,dRepW,dRetF,dForgets,asD_put,dSortS,dDPut,dCallZ,dBor,dBor0,diZ,dRevT,dStrI,dIsXT,dTry0,dTry,dXf,dIsX,dNewD,dDisp1,Prod.mk.injEq,wipeT,Int.toNat_natCast,asL_put,put_same,put_put,Cell.lst.injEq,atI_0,atI_1,atI_2,atI_3,atI_4,atI_5,atI_6,atI_7,atI_8,atI_9,Tr.ty.injEq,tyN_int,tyN_bool,tyN_str,tyN_list,tyN_tuple,tyN_dict,dVar,dC,dName,dOp,dI,dI0,dUn,dU,dEq,dNe,dTest,dAnd,dOr,dNot,dAndV,dOrV,dNotV,dIf,dChain,dNil,dCons,dTup,dLst,dCall,dCall0,dCB,dNext,dSeq,dRet,dRetN,dDrop,dBreak,dCont,dIfS,dgNil,dgCons,dTupG,dAsg,diL,diT,diS,diR1,diR2,diE,dYes,dIx,dLen,dInt,dMx,dSum,dAll,dIsi,dIsiT,doNone,doSome,dSl,dApp,dSub,dSet,dEqD,dGet,dGet1,dGet2,LT.dIn,dIsN,dIsB,dIn',dList,dTuple,dRaise,dMaxL,dMinL,dMinS,dRep,asL_lst,asS_lst,asS_tup,asT_tup,flatV',Tr.int.injEq,Tr.bl.injEq,Tr.str.injEq,Tr.lst.injEq,Tr.tup.injEq,Tr.obj.injEq,Option.isSome_some,List.map_cons,List.map_nil,List.length_cons,List.length_nil,List.replicate_succ,List.replicate_zero,List.cons_append,List.nil_append,List.append_nil,List.getElem?_cons_zero,List.getElem?_cons_succ,List.set_cons_zero,List.set_cons_succ,Nat.add_sub_cancel,Nat.reduceAdd,Nat.reduceSub,Option.some.injEq,List.cons.injEq,and_true,true_and,and_false,false_and,exists_eq_left,exists_eq_left',exists_and_left,exists_and_right,exists_eq,exists_eq',LL.if_dec,reduceCtorEq,exists_false,exists_const,or_false,false_or,if_true,if_false,and_assoc,Int.reduceEq,Int.reduceNe,Int.reduceNeg,Int.reduceLT,Int.reduceLE,Int.reduceMul,Int.reduceAdd,Int.reduceSub,Int.reducePow,Int.reduceToNat,Nat.reducePow,Nat.reduceLT,Nat.reduceLeDiff,true_or,or_true,Bool.not_true,Bool.not_false,Bool.false_eq_true,Bool.or_false,Bool.or_true,Bool.true_or,Bool.false_or,decide_true,decide_false,not_true_eq_false,not_false_eq_true,LL.scal_int,LL.scal_bl,LL.scal_str,V.int.injEq,V.bl.injEq,V.str.injEq,Nat.zero_le,forall_const,true_implies,kindT_non,isNonT_non,flatT_non,flatK_non,isBT_non_true,isBT_non_false,toV_non,ofV_non,keyT_non,isT_non_int,isT_non_bool,isT_non_str,isT_non_list,isT_non_tuple,isT_non_dict,kindT_bl,isNonT_bl,flatT_bl,flatK_bl,toV_bl,ofV_bl,keyT_bl,isT_bl_int,isT_bl_bool,isT_bl_str,isT_bl_list,isT_bl_tuple,isT_bl_dict,kindT_int,isNonT_int,flatT_int,flatK_int,isBT_int_true,isBT_int_false,toV_int,ofV_int,keyT_int,isT_int_int,isT_int_bool,isT_int_str,isT_int_list,isT_int_tuple,isT_int_dict,kindT_str,isNonT_str,flatT_str,flatK_str,isBT_str_true,isBT_str_false,toV_str,ofV_str,keyT_str,isT_str_int,isT_str_bool,isT_str_str,isT_str_list,isT_str_tuple,isT_str_dict,kindT_lst,isNonT_lst,flatT_lst,flatK_lst,isBT_lst_true,isBT_lst_false,lenT_lst,keyT_lst,isT_lst_int,isT_lst_bool,isT_lst_str,isT_lst_list,isT_lst_tuple,isT_lst_dict,kindT_tup,isNonT_tup,flatT_tup,flatK_tup,isBT_tup_true,isBT_tup_false,lenT_tup,keyT_tup,isT_tup_int,isT_tup_bool,isT_tup_str,isT_tup_list,isT_tup_tuple,isT_tup_dict,kindT_dic,isNonT_dic,flatT_dic,flatK_dic,isBT_dic_true,isBT_dic_false,lenT_dic,keyT_dic,isT_dic_int,isT_dic_bool,isT_dic_str,isT_dic_list,isT_dic_tuple,isT_dic_dict,kindT_obj,isNonT_obj,flatT_obj,flatK_obj,isBT_obj_true,isBT_obj_false,keyT_obj,kindT_drw,isNonT_drw,flatT_drw,flatK_drw,isBT_drw_true,isBT_drw_false,keyT_drw,kindT_ty,isNonT_ty,flatT_ty,flatK_ty,isBT_ty_true,isBT_ty_false,toV_ty,ofV_ty,keyT_ty,asD_dic,isBT_bl,dAddG_int,dAddG_str,dAddG_tup,dAddG_lst_lst,dAddG_lst_obj,dAddG_obj_lst,dAddG_obj_obj,dSlG_tup,dSlG_str,dSlG_lst,dSlG_obj])
local macro_rules | `(tactic| simp! only [$xs,*]) => `(tactic| try simp only [$xs,*,dSortI,dSortR,dLstRg,dRepW,dRetF,dForgets,asD_put,dSortS,dDPut,dCallZ,dBor,dBor0,diZ,dRevT,dStrI,dIsXT,dTry0,dTry,dXf,dIsX,dNewD,dDisp1,Prod.mk.injEq,wipeT,Int.toNat_natCast,asL_put,put_same,put_put,Cell.lst.injEq,atI_0,atI_1,atI_2,atI_3,atI_4,atI_5,atI_6,atI_7,atI_8,atI_9,Tr.ty.injEq,tyN_int,tyN_bool,tyN_str,tyN_list,tyN_tuple,tyN_dict,dVar,dC,dName,dOp,dI,dI0,dUn,dU,dEq,dNe,dTest,dAnd,dOr,dNot,dAndV,dOrV,dNotV,dIf,dChain,dNil,dCons,dTup,dLst,dCall,dCall0,dCB,dNext,dSeq,dRet,dRetN,dDrop,dBreak,dCont,dIfS,dgNil,dgCons,dTupG,dAsg,diL,diT,diS,diR1,diR2,diE,dYes,dIx,dLen,dInt,dMx,dSum,dAll,dIsi,dIsiT,doNone,doSome,dSl,dApp,dSub,dSet,dEqD,dGet,dGet1,dGet2,LT.dIn,dIsN,dIsB,dIn',dList,dTuple,dRaise,dMaxL,dMinL,dMinS,dRep,asL_lst,asS_lst,asS_tup,asT_tup,flatV',Tr.int.injEq,Tr.bl.injEq,Tr.str.injEq,Tr.lst.injEq,Tr.tup.injEq,Tr.obj.injEq,Option.isSome_some,List.map_cons,List.map_nil,List.length_cons,List.length_nil,List.replicate_succ,List.replicate_zero,List.cons_append,List.nil_append,List.append_nil,List.getElem?_cons_zero,List.getElem?_cons_succ,List.set_cons_zero,List.set_cons_succ,Nat.add_sub_cancel,Nat.reduceAdd,Nat.reduceSub,Option.some.injEq,List.cons.injEq,and_true,true_and,and_false,false_and,exists_eq_left,exists_eq_left',exists_and_left,exists_and_right,exists_eq,exists_eq',LL.if_dec,reduceCtorEq,exists_false,exists_const,or_false,false_or,if_true,if_false,and_assoc,Int.reduceEq,Int.reduceNe,Int.reduceNeg,Int.reduceLT,Int.reduceLE,Int.reduceMul,Int.reduceAdd,Int.reduceSub,Int.reducePow,Int.reduceToNat,Nat.reducePow,Nat.reduceLT,Nat.reduceLeDiff,true_or,or_true,Bool.not_true,Bool.not_false,Bool.false_eq_true,Bool.or_false,Bool.or_true,Bool.true_or,Bool.false_or,decide_true,decide_false,not_true_eq_false,not_false_eq_true,LL.scal_int,LL.scal_bl,LL.scal_str,V.int.injEq,V.bl.injEq,V.str.injEq,Nat.zero_le,forall_const,true_implies,kindT_non,isNonT_non,flatT_non,flatK_non,isBT_non_true,isBT_non_false,toV_non,ofV_non,keyT_non,isT_non_int,isT_non_bool,isT_non_str,isT_non_list,isT_non_tuple,isT_non_dict,kindT_bl,isNonT_bl,flatT_bl,flatK_bl,toV_bl,ofV_bl,keyT_bl,isT_bl_int,isT_bl_bool,isT_bl_str,isT_bl_list,isT_bl_tuple,isT_bl_dict,kindT_int,isNonT_int,flatT_int,flatK_int,isBT_int_true,isBT_int_false,toV_int,ofV_int,keyT_int,isT_int_int,isT_int_bool,isT_int_str,isT_int_list,isT_int_tuple,isT_int_dict,kindT_str,isNonT_str,flatT_str,flatK_str,isBT_str_true,isBT_str_false,toV_str,ofV_str,keyT_str,isT_str_int,isT_str_bool,isT_str_str,isT_str_list,isT_str_tuple,isT_str_dict,kindT_lst,isNonT_lst,flatT_lst,flatK_lst,isBT_lst_true,isBT_lst_false,lenT_lst,keyT_lst,isT_lst_int,isT_lst_bool,isT_lst_str,isT_lst_list,isT_lst_tuple,isT_lst_dict,kindT_tup,isNonT_tup,flatT_tup,flatK_tup,isBT_tup_true,isBT_tup_false,lenT_tup,keyT_tup,isT_tup_int,isT_tup_bool,isT_tup_str,isT_tup_list,isT_tup_tuple,isT_tup_dict,kindT_dic,isNonT_dic,flatT_dic,flatK_dic,isBT_dic_true,isBT_dic_false,lenT_dic,keyT_dic,isT_dic_int,isT_dic_bool,isT_dic_str,isT_dic_list,isT_dic_tuple,isT_dic_dict,kindT_obj,isNonT_obj,flatT_obj,flatK_obj,isBT_obj_true,isBT_obj_false,keyT_obj,kindT_drw,isNonT_drw,flatT_drw,flatK_drw,isBT_drw_true,isBT_drw_false,keyT_drw,kindT_ty,isNonT_ty,flatT_ty,flatK_ty,isBT_ty_true,isBT_ty_false,toV_ty,ofV_ty,keyT_ty,asD_dic,isBT_bl,dAddG_int,dAddG_str,dAddG_tup,dAddG_lst_lst,dAddG_lst_obj,dAddG_obj_lst,dAddG_obj_obj,dSlG_tup,dSlG_str,dSlG_lst,dSlG_obj])
variable {P : Program} {w : World} {K : PySem.W.Frag} {mg : Str → Option Value} {base : Heap}

/-! ### rows put in, turned about -/
theorem diffL_inv : ∀ {p : Int} {ws hs ws' hs' : List Int}, (diffL p ws hs ws' hs').map invC = diffL p ws' hs' ws hs
  | _, [], _, ws', hs' => by cases ws' <;> cases hs' <;> simp [diffL]
  | _, _ :: _, [], ws', hs' => by cases ws' <;> cases hs' <;> simp [diffL]
  | _, _ :: _, _ :: _, [], _ => by simp [diffL]
  | _, _ :: _, _ :: _, _ :: _, [] => by simp [diffL]
  | p, w :: ws, h :: hs, w' :: ws', h' :: hs' => by
    have ih := diffL_inv (p := p + 1) (ws := ws) (hs := hs) (ws' := ws') (hs' := hs')
    unfold diffL
    by_cases e : w = w' ∧ h = h'
    · rw [if_pos e, if_pos ⟨e.1.symm, e.2.symm⟩, ih]
    · rw [if_neg e, if_neg (fun z => e ⟨z.1.symm, z.2.symm⟩), List.map_cons, ih]
      rfl
theorem put_diff : ∀ {ws hs ws' hs' : List Int} (A B : List Int), A.length = B.length → ws.length = hs.length → ws'.length = ws.length → hs'.length = ws.length → putRows (A ++ ws) (B ++ hs) (diffL A.length ws hs ws' hs') = some (A ++ ws', B ++ hs')
  | [], [], [], [], A, B, _, _, _, _ => by simp [diffL, putRows]
  | w :: ws, h :: hs, w' :: ws', h' :: hs', A, B, e1, e2, e3, e4 => by
    simp only [List.length_cons] at e2 e3 e4
    have ih := put_diff (ws := ws) (hs := hs) (ws' := ws') (hs' := hs') (A ++ [w']) (B ++ [h']) (by simp [e1]) (by omega) (by omega) (by omega)
    rw [List.length_append, List.append_assoc, List.append_assoc, List.append_assoc, List.append_assoc] at ih
    simp only [List.length_cons, List.length_nil, List.cons_append, List.nil_append] at ih
    rw [show ((A.length + (0 + 1) : Nat) : Int) = (A.length : Int) + 1 by omega] at ih
    unfold diffL
    by_cases e : w = w' ∧ h = h'
    · rw [if_pos e, e.1, e.2]
      exact ih
    · rw [if_neg e, putRows_cons (w := w) (h := h) (by simp; omega) (by simp) (by rw [show ((A.length : Int).toNat) = B.length by omega]; simp), if_pos ⟨rfl, rfl⟩]
      rw [show ((A.length : Int).toNat) = A.length by omega]
      have s1 : (A ++ w :: ws).set A.length w' = A ++ w' :: ws := by simp
      have s2 : (B ++ h :: hs).set A.length h' = B ++ h' :: hs := by rw [e1]; simp
      rw [s1, s2]
      exact ih
theorem chs_diff : ∀ {l p : Int} {ws hs ws' hs' : List Int}, l < p → 0 ≤ p → p + ws.length ≤ 16384 → (∀ k ∈ ws, wordB k = true) → (∀ k ∈ hs, holdB k = true) → (∀ k ∈ ws', wordB k = true) → (∀ k ∈ hs', holdB k = true) → chsB l ((diffL p ws hs ws' hs').map cT) = true
  | _, _, [], _, _, _, _, _, _, _, _, _, _ => by simp [diffL, chsB]
  | _, _, _ :: _, [], _, _, _, _, _, _, _, _, _ => by simp [diffL, chsB]
  | _, _, _ :: _, _ :: _, [], _, _, _, _, _, _, _, _ => by simp [diffL, chsB]
  | _, _, _ :: _, _ :: _, _ :: _, [], _, _, _, _, _, _, _ => by simp [diffL, chsB]
  | l, p, w :: ws, h :: hs, w' :: ws', h' :: hs', h1, h2, h3, k1, k2, k3, k4 => by
    simp only [List.length_cons] at h3
    have m := fun {l' : Int} (hl : l' < p + 1) => chs_diff (l := l') (p := p + 1) (ws := ws) (hs := hs) (ws' := ws') (hs' := hs') hl (by omega) (by omega) (fun k hk => k1 k (List.mem_cons_of_mem _ hk)) (fun k hk => k2 k (List.mem_cons_of_mem _ hk)) (fun k hk => k3 k (List.mem_cons_of_mem _ hk)) (fun k hk => k4 k (List.mem_cons_of_mem _ hk))
    unfold diffL
    by_cases e : w = w' ∧ h = h'
    · rw [if_pos e]
      exact m (by omega)
    · rw [if_neg e, List.map_cons]
      show (chB (cT ⟨p, w, h, w', h'⟩) && (decide (l < p) && chsB p ((diffL (p + 1) ws hs ws' hs').map cT))) = true
      rw [chB_cT h2 (show p < 16384 by omega) (k1 _ List.mem_cons_self) (k2 _ List.mem_cons_self) (k3 _ List.mem_cons_self) (k4 _ List.mem_cons_self) e, decide_eq_true h1, m (by omega)]
      rfl
theorem diff_chs {I J : Img} (gi : GI I) (gj : GI J) : chsT (.lst ((diff I J).map cT)) = true := chs_diff (by decide) (by decide) (by have := gi.n; omega) gi.ws gi.hs gj.ws gj.hs
theorem diff_put {I J : Img} (gi : GI I) (gj : GI J) (h : like I J = true) : putRows I.ws I.hs (diff I J) = some (J.ws, J.hs) := put_diff [] [] rfl gi.len (like_iff.mp h).2.2 (by rw [← gj.len]; exact (like_iff.mp h).2.2)
theorem like_im {I J : Img} (h : like I J = true) : imT ⟨I.w, I.f, J.ws, J.hs⟩ = imT J := by
  obtain ⟨h1, h2, _⟩ := like_iff.mp h
  rw [← h1, ← h2]
theorem like_sym {I J : Img} (h : like I J = true) : like J I = true := by
  obtain ⟨h1, h2, h3⟩ := like_iff.mp h
  exact like_iff.mpr ⟨h1.symm, h2.symm, h3.symm⟩
theorem as_changes {I J : Img} {Ω : Om} {P : PT'} {X : PXt} (gi : GI I) (gj : GI J) (fi : FewI (imT I)) (fj : FewI (imT J)) (h : like I J = true) (q : lstNew ((diff I J).map cT) Ω fun t Ω' => P (.lst [.str "done", t]) Ω') : wp_asked [.str "changes", imT I, imT J] Ω P X := by
  refine ⟨_, _, .inl ⟨rfl, _, _, rfl, data_im, data_im, fi, fj, fun z => ?_, fun I' e gi' => ?_⟩⟩
  · rw [gi.img] at z; cases z
  · obtain rfl := imT_inj e
    refine ⟨fun z => ?_, fun J' e gj' => ?_⟩
    · rw [gj.img] at z; cases z
    · obtain rfl := imT_inj e
      exact ⟨fun z => (by rw [h] at z; cases z), fun _ => q⟩
theorem cT_inj {cs ds : List Ch} (h : Tr.lst (cs.map cT) = .lst (ds.map cT)) : cs = ds := by
  have un : ∀ {c d : Ch}, cT c = cT d → c = d := fun {c d} e => by
    obtain ⟨a1, a2, a3, a4, a5⟩ := c
    obtain ⟨b1, b2, b3, b4, b5⟩ := d
    simp only [cT, Tr.tup.injEq, List.cons.injEq, Tr.int.injEq, and_true] at e
    obtain ⟨rfl, rfl, rfl, rfl, rfl⟩ := e
    rfl
  have h' : cs.map cT = ds.map cT := Tr.lst.inj h
  exact List.map_inj_right (fun c d e => un e) |>.mp h'
theorem as_apply {I J : Img} {r : Tr} {Ω : Om} {P : PT'} {X : PXt} (gi : GI I) (gj : GI J) (fi : FewI (imT I)) (h : like I J = true) (hr : Lst1 Ω r (.lst ((diff I J).map cT))) (q : P (.lst [.str "done", imT J]) Ω) : wp_asked [.str "apply", imT I, r] Ω P X := by
  refine ⟨_, _, .inr (.inl ⟨rfl, _, _, _, rfl, data_im, fi, hr, data_cT, fun z => ?_, fun I' e gi' => ?_⟩)⟩
  · rw [gi.img] at z; cases z
  · obtain rfl := imT_inj e
    refine ⟨fun z => ?_, fun cs e hc => ?_⟩
    · rw [diff_chs gi gj] at z; cases z
    · obtain rfl := cT_inj e
      refine ⟨fun z => ?_, fun ws hs z => ?_⟩
      · rw [diff_put gi gj h] at z; cases z
      · rw [diff_put gi gj h] at z
        cases z
        rw [like_im h]
        exact q
theorem as_invert {I J : Img} {r b : Tr} {Ω : Om} {P : PT'} {X : PXt} (gi : GI I) (gj : GI J) (hr : Lst1 Ω r (.lst ((diff I J).map cT))) (q : lstNew ((diff J I).map cT) Ω fun t Ω' => P (.lst [.str "done", t]) Ω') : wp_asked [.str "invert", r, b] Ω P X := by
  refine ⟨_, _, .inr (.inr ⟨rfl, _, _, rfl, hr, data_cT, fun z => ?_, fun cs e hc => ?_⟩)⟩
  · rw [diff_chs gi gj] at z; cases z
  · obtain rfl := cT_inj e
    rw [show (diff I J).map invC = diff J I from diffL_inv]
    exact q
theorem sb_call {x y t : Tr} {Ω : Om} {Q : Tr → Prop} {n : Nat} (h1 : Drf Ω x t) (h2 : Drf Ω y t) (hd : dataT t = true) (hz : depTr2 t < n) (q : Q (.bl true)) : ∃ us, DrfL Ω [x, y] us ∧ us.length = 2 ∧ wp_same n us noΩ (fun t _ => tupT t = true ∧ Q t) nox := ⟨[t, t], .cons h1 (.cons h2 .nil), rfl, t, rfl, hd, hz, rfl, q⟩
theorem dep_ints {ns : List Int} : depTrs2 (ns.map Tr.int) ≤ 0 := depTrs2_of fun t ht => by
  obtain ⟨n, _, rfl⟩ := List.mem_map.mp ht
  exact Nat.le_refl _
theorem dep_im {I : Img} : depTr2 (imT I) ≤ 2 := by
  have h1 := dep_ints (ns := I.ws)
  have h2 := dep_ints (ns := I.hs)
  simp only [imT, depTr2, depTrs2]
  omega
theorem dep_cT {cs : List Ch} : depTr2 (.lst (cs.map cT)) ≤ 2 := by
  have : depTrs2 (cs.map cT) ≤ 1 := depTrs2_of fun t ht => by
    obtain ⟨n, _, rfl⟩ := List.mem_map.mp ht
    exact Nat.le_refl _
  simp only [depTr2]
  omega
theorem dep_done {t : Tr} {n : Nat} (h : depTr2 t ≤ n) (hn : n < 7) : depTr2 (.lst [.str "done", t]) < 8 := by
  simp only [depTr2, depTrs2]
  omega
theorem data_done {t : Tr} (h : dataT t = true) : dataT (.lst [.str "done", t]) = true := by
  simp only [dataT, dataTs, h, Bool.and_self]
def wp_led : Pw := fun ts Ω PQ _ => ∃ I J r, ts = [imT I, imT J, r] ∧ GI I ∧ GI J ∧ FewI (imT I) ∧ FewI (imT J) ∧ like I J = true ∧ Lst1 Ω r (.lst ((diff I J).map cT)) ∧ PQ (.bl true) Ω
def wp_pairR : Pw := fun ts Ω PQ _ => ∃ I J, ts = [imT I, imT J] ∧ GI I ∧ GI J ∧ FewI (imT I) ∧ FewI (imT J) ∧ like I J = true ∧ PQ (.bl true) Ω
theorem diffL_self : ∀ {p : Int} {ws hs : List Int}, diffL p ws hs ws hs = []
  | _, [], _ => by simp [diffL]
  | _, _ :: _, [] => by simp [diffL]
  | p, w :: ws, h :: hs => by
    unfold diffL
    rw [if_pos ⟨rfl, rfl⟩]
    exact diffL_self
theorem like_self {I : Img} : like I I = true := like_iff.mpr ⟨rfl, rfl, rfl⟩
theorem diff_one {a b v : Int} (hv : v ≠ a) : ∀ {n i : Nat} {p : Int}, i < n → diffL p (List.replicate n a) (List.replicate n b) ((List.replicate n a).set i v) (List.replicate n b) = [⟨p + i, a, b, v, b⟩]
  | n + 1, 0, p, _ => by
    rw [List.replicate_succ, List.replicate_succ, List.set_cons_zero]
    unfold diffL
    rw [if_neg (fun z => hv z.1.symm), diffL_self]
    simp
  | n + 1, i + 1, p, h => by
    rw [List.replicate_succ, List.replicate_succ, List.set_cons_succ]
    unfold diffL
    rw [if_pos ⟨rfl, rfl⟩, diff_one hv (by omega), show p + 1 + (i : Int) = p + ((i + 1 : Nat) : Int) by omega]
theorem ok_im {I : Img} : okEq (imT I) = true := by
  have h1 := ok_ints (ns := I.ws)
  have h2 := ok_ints (ns := I.hs)
  unfold okEq SeqAt.shaped at h1 h2 ⊢
  simp only [Bool.and_eq_true, decide_eq_true_eq] at h1 h2 ⊢
  obtain ⟨p1, l1, d1⟩ := h1
  obtain ⟨p2, l2, d2⟩ := h2
  have dz : ∀ ns : List Int, PyData.depthAll (toPs (ns.map Tr.int)) = 0 := by
    intro ns
    induction ns with
    | nil => simp [toPs, PyData.depthAll]
    | cons n ns ih => simp [toPs, toP, PyData.depthAll, PyData.depth, ih]
  refine ⟨?_, ?_, ?_⟩
  · show (true && (true && (plainT (.tup (I.ws.map Tr.int)) && (plainT (.tup (I.hs.map Tr.int)) && true)))) = true
    rw [p1, p2]; rfl
  · show (true && (true && (PyData.canLay0 (toP (.tup (I.ws.map Tr.int))) && (PyData.canLay0 (toP (.tup (I.hs.map Tr.int))) && true)))) = true
    rw [l1, l2]; rfl
  · simp [imT, toP, toPs, PyData.depth, PyData.depthAll, dz]
theorem eq_refl {t : Tr} (h : okEq t = true) : LT.eqT t t = true := by
  unfold okEq SeqAt.shaped at h
  simp only [Bool.and_eq_true] at h
  exact SeqAt.eqv_refl _ h.2.1
def wp_great : Pw := fun ts Ω PQ _ => ts = [.drw] ∧ PQ (.bl true) Ω
end K11

namespace K11
open PySem PySem.Spec PyProof.Rows L2 LL LT
local macro_rules | `(tactic| fail "s") => `(tactic| first | (with_reducible first | exact sim_var | exact sim_int | exact sim_bl | exact sim_str | exact sim_non | exact sim_ty | exact sim_ref | exact sim_nil | apply sim_cons | apply sim_op | apply simr_I0 | apply simr_I | exact simr_Eq | exact simr_Ne | exact simr_IxA | exact simr_addG | exact simr_isN | exact simr_notN | exact simr_isB | exact simr_in | exact simr_IxL | exact simr_IxT | exact simr_IxS | exact simr_EqD | exact simr_NeD | exact simr_rep | exact simr_repW | apply sim_un | apply sim_test | apply sim_tB | apply sim_and | apply sim_or | apply sim_not | apply sim_andV | apply sim_orV | apply sim_notV | apply sim_if | apply sim_chain | apply sim_tup | apply sim_lst | apply sim_bor0 | apply sim_bor | apply sim_borS | apply sim_call0 | apply sim_call | apply sim_callS | apply sim_callZ | apply sim_isXT | apply sim_isX | apply sim_xf | apply sim_sortS | apply sim_listRg | apply sim_CB | exact simc_len | exact simc_int | exact simc_isi | exact simc_mx | exact simc_mn | exact simc_sum | exact simc_maxL | exact simc_minL | exact simc_minS | exact simc_all | exact simc_any | exact simc_list | exact simc_tuple | exact simc_isiT | exact simc_strI | exact simc_sortI | exact simc_sortR | apply sim_sl | exact simsl_G | exact simsl_L | exact sim_oNone | apply sim_oSome | apply sim_append | exact sim_newD | apply sim_disp1 | apply sim_dget2 | apply sim_dget1 | apply sim_dget | apply sim_din | apply sim_dnotin | apply sim_lc | apply sim_dc | exact sim_yes | apply sim_iL | apply sim_iT | apply sim_iS | apply sim_iR1 | apply sim_iR2 | apply sim_iE | apply sim_iZ | apply sim_revT | exact gin_name (by decide) | apply gin_tup | exact gin_nil | apply gin_cons | exact mono_name | exact mono_nil | apply mono_cons | apply mono_tup | exact sim_next | apply sim_mk | apply sim_fgl | apply sim_fg | apply sim_seq | apply sim_ret | exact sim_retN | apply sim_drop | exact sim_break | exact sim_cont | apply sim_ifS | apply sim_asg | exact sim_gName | apply sim_gTup | exact sim_gNil | apply sim_gCons | apply sim_gSub | apply sim_for | apply sim_while | apply sim_dput | apply sim_raise | apply sim_tryT0 | apply sim_tryT) | exact fun _ _ => rfl | exact fun _ => rfl | exact fun _ _ _ _ => rfl | intro W | intro a cls d x)
local macro_rules | `(tactic| fail "l") => `(tactic| (simp only [List.length_append,List.length_take,List.length_drop,List.length_map,List.length_cons,List.length_nil,List.length_set,List.length_replicate,List.length_range]; omega))
local macro_rules | `(tactic| fail "r") => `(tactic| first | fail "d" | with_reducible refine fun (_ : _ ≤ 1000000) => ?_ | with_reducible refine Or.inl (fun (_ : _ ≤ 1000000) => ?_) | with_reducible refine lst_in ?_ | with_reducible refine dic_in ?_ | with_reducible refine tk_call (by first | decide | exact tk_big (by omega) (by omega)) fun v h0 h1 => ?_ | with_reducible refine bt_call (by first | decide | exact tk_big (by omega) (by omega)) fun v h0 h1 => ?_ | with_reducible refine ct_call (by first | decide | exact ⟨by omega, by omega, by omega⟩) fun v h0 h1 => ?_ | with_reducible refine LL.itei (fun h => ?_) fun h => ?_ | with_reducible refine pickP (by omega) (by simp only [List.length_cons, List.length_nil]; omega) ?_ | with_reducible refine List.forall_mem_cons.mpr (And.intro ?_ ?_) | with_reducible exact LT.nil_all | with_reducible refine And.intro (by first | (unfold CPow; decide) | omega | rfl) ?_ | with_reducible refine am_call rfl (List.cons_ne_nil _ _) ?_ | refine And.intro (show CMul _ _ from .inl ⟨by omega, by omega⟩) ?_)
local macro_rules | `(tactic| fail "d") => `(tactic| simp only [and_true,dSortI,dSortR,dLstRg,dRepW,dRetF,dForgets,asD_put,dSortS,dDPut,dCallZ,dBor,dBor0,diZ,dRevT,dStrI,dIsXT,dTry0,dTry,dXf,dIsX,dNewD,dDisp1,Prod.mk.injEq,wipeT,Int.toNat_natCast,asL_put,put_same,put_put,Cell.lst.injEq,atI_0,atI_1,atI_2,atI_3,atI_4,atI_5,atI_6,atI_7,atI_8,atI_9,Tr.ty.injEq,tyN_int,tyN_bool,tyN_str,tyN_list,tyN_tuple,tyN_dict,dVar,dC,dName,dOp,dI,dI0,dUn,dU,dEq,dNe,dTest,dAnd,dOr,dNot,dAndV,dOrV,dNotV,dIf,dChain,dNil,dCons,dTup,dLst,dCall,dCall0,dCB,dNext,dSeq,dRet,dRetN,dDrop,dBreak,dCont,dIfS,dgNil,dgCons,dTupG,dAsg,diL,diT,diS,diR1,diR2,diE,dYes,dIx,dLen,dInt,dMx,dSum,dAll,dIsi,dIsiT,doNone,doSome,dSl,dApp,dSub,dSet,dEqD,dGet,dGet1,dGet2,LT.dIn,dIsN,dIsB,dIn',dList,dTuple,dRaise,dMaxL,dMinL,dMinS,dRep,asL_lst,asS_lst,asS_tup,asT_tup,flatV',Tr.int.injEq,Tr.bl.injEq,Tr.str.injEq,Tr.lst.injEq,Tr.tup.injEq,Tr.obj.injEq,Option.isSome_some,List.map_cons,List.map_nil,List.length_cons,List.length_nil,List.replicate_succ,List.replicate_zero,List.cons_append,List.nil_append,List.append_nil,List.getElem?_cons_zero,List.getElem?_cons_succ,List.set_cons_zero,List.set_cons_succ,Nat.add_sub_cancel,Nat.reduceAdd,Nat.reduceSub,Option.some.injEq,List.cons.injEq,and_true,true_and,and_false,false_and,exists_eq_left,exists_eq_left',exists_and_left,exists_and_right,exists_eq,exists_eq',LL.if_dec,reduceCtorEq,exists_false,exists_const,or_false,false_or,if_true,if_false,and_assoc,Int.reduceEq,Int.reduceNe,Int.reduceNeg,Int.reduceLT,Int.reduceLE,Int.reduceMul,Int.reduceAdd,Int.reduceSub,Int.reducePow,Int.reduceToNat,Nat.reducePow,Nat.reduceLT,Nat.reduceLeDiff,true_or,or_true,Bool.not_true,Bool.not_false,Bool.false_eq_true,Bool.or_false,Bool.or_true,Bool.true_or,Bool.false_or,decide_true,decide_false,not_true_eq_false,not_false_eq_true,LL.scal_int,LL.scal_bl,LL.scal_str,V.int.injEq,V.bl.injEq,V.str.injEq,Nat.zero_le,forall_const,true_implies,kindT_non,isNonT_non,flatT_non,flatK_non,isBT_non_true,isBT_non_false,toV_non,ofV_non,keyT_non,isT_non_int,isT_non_bool,isT_non_str,isT_non_list,isT_non_tuple,isT_non_dict,kindT_bl,isNonT_bl,flatT_bl,flatK_bl,toV_bl,ofV_bl,keyT_bl,isT_bl_int,isT_bl_bool,isT_bl_str,isT_bl_list,isT_bl_tuple,isT_bl_dict,kindT_int,isNonT_int,flatT_int,flatK_int,isBT_int_true,isBT_int_false,toV_int,ofV_int,keyT_int,isT_int_int,isT_int_bool,isT_int_str,isT_int_list,isT_int_tuple,isT_int_dict,kindT_str,isNonT_str,flatT_str,flatK_str,isBT_str_true,isBT_str_false,toV_str,ofV_str,keyT_str,isT_str_int,isT_str_bool,isT_str_str,isT_str_list,isT_str_tuple,isT_str_dict,kindT_lst,isNonT_lst,flatT_lst,flatK_lst,isBT_lst_true,isBT_lst_false,lenT_lst,keyT_lst,isT_lst_int,isT_lst_bool,isT_lst_str,isT_lst_list,isT_lst_tuple,isT_lst_dict,kindT_tup,isNonT_tup,flatT_tup,flatK_tup,isBT_tup_true,isBT_tup_false,lenT_tup,keyT_tup,isT_tup_int,isT_tup_bool,isT_tup_str,isT_tup_list,isT_tup_tuple,isT_tup_dict,kindT_dic,isNonT_dic,flatT_dic,flatK_dic,isBT_dic_true,isBT_dic_false,lenT_dic,keyT_dic,isT_dic_int,isT_dic_bool,isT_dic_str,isT_dic_list,isT_dic_tuple,isT_dic_dict,kindT_obj,isNonT_obj,flatT_obj,flatK_obj,isBT_obj_true,isBT_obj_false,keyT_obj,kindT_drw,isNonT_drw,flatT_drw,flatK_drw,isBT_drw_true,isBT_drw_false,keyT_drw,kindT_ty,isNonT_ty,flatT_ty,flatK_ty,isBT_ty_true,isBT_ty_false,toV_ty,ofV_ty,keyT_ty,asD_dic,isBT_bl,dAddG_int,dAddG_str,dAddG_tup,dAddG_lst_lst,dAddG_lst_obj,dAddG_obj_lst,dAddG_obj_obj,dSlG_tup,dSlG_str,dSlG_lst,dSlG_obj])
local macro_rules | `(tactic| simp! only [$xs,*]) => `(tactic| try simp only [$xs,*,dSortI,dSortR,dLstRg,dRepW,dRetF,dForgets,asD_put,dSortS,dDPut,dCallZ,dBor,dBor0,diZ,dRevT,dStrI,dIsXT,dTry0,dTry,dXf,dIsX,dNewD,dDisp1,Prod.mk.injEq,wipeT,Int.toNat_natCast,asL_put,put_same,put_put,Cell.lst.injEq,atI_0,atI_1,atI_2,atI_3,atI_4,atI_5,atI_6,atI_7,atI_8,atI_9,Tr.ty.injEq,tyN_int,tyN_bool,tyN_str,tyN_list,tyN_tuple,tyN_dict,dVar,dC,dName,dOp,dI,dI0,dUn,dU,dEq,dNe,dTest,dAnd,dOr,dNot,dAndV,dOrV,dNotV,dIf,dChain,dNil,dCons,dTup,dLst,dCall,dCall0,dCB,dNext,dSeq,dRet,dRetN,dDrop,dBreak,dCont,dIfS,dgNil,dgCons,dTupG,dAsg,diL,diT,diS,diR1,diR2,diE,dYes,dIx,dLen,dInt,dMx,dSum,dAll,dIsi,dIsiT,doNone,doSome,dSl,dApp,dSub,dSet,dEqD,dGet,dGet1,dGet2,LT.dIn,dIsN,dIsB,dIn',dList,dTuple,dRaise,dMaxL,dMinL,dMinS,dRep,asL_lst,asS_lst,asS_tup,asT_tup,flatV',Tr.int.injEq,Tr.bl.injEq,Tr.str.injEq,Tr.lst.injEq,Tr.tup.injEq,Tr.obj.injEq,Option.isSome_some,List.map_cons,List.map_nil,List.length_cons,List.length_nil,List.replicate_succ,List.replicate_zero,List.cons_append,List.nil_append,List.append_nil,List.getElem?_cons_zero,List.getElem?_cons_succ,List.set_cons_zero,List.set_cons_succ,Nat.add_sub_cancel,Nat.reduceAdd,Nat.reduceSub,Option.some.injEq,List.cons.injEq,and_true,true_and,and_false,false_and,exists_eq_left,exists_eq_left',exists_and_left,exists_and_right,exists_eq,exists_eq',LL.if_dec,reduceCtorEq,exists_false,exists_const,or_false,false_or,if_true,if_false,and_assoc,Int.reduceEq,Int.reduceNe,Int.reduceNeg,Int.reduceLT,Int.reduceLE,Int.reduceMul,Int.reduceAdd,Int.reduceSub,Int.reducePow,Int.reduceToNat,Nat.reducePow,Nat.reduceLT,Nat.reduceLeDiff,true_or,or_true,Bool.not_true,Bool.not_false,Bool.false_eq_true,Bool.or_false,Bool.or_true,Bool.true_or,Bool.false_or,decide_true,decide_false,not_true_eq_false,not_false_eq_true,LL.scal_int,LL.scal_bl,LL.scal_str,V.int.injEq,V.bl.injEq,V.str.injEq,Nat.zero_le,forall_const,true_implies,kindT_non,isNonT_non,flatT_non,flatK_non,isBT_non_true,isBT_non_false,toV_non,ofV_non,keyT_non,isT_non_int,isT_non_bool,isT_non_str,isT_non_list,isT_non_tuple,isT_non_dict,kindT_bl,isNonT_bl,flatT_bl,flatK_bl,toV_bl,ofV_bl,keyT_bl,isT_bl_int,isT_bl_bool,isT_bl_str,isT_bl_list,isT_bl_tuple,isT_bl_dict,kindT_int,isNonT_int,flatT_int,flatK_int,isBT_int_true,isBT_int_false,toV_int,ofV_int,keyT_int,isT_int_int,isT_int_bool,isT_int_str,isT_int_list,isT_int_tuple,isT_int_dict,kindT_str,isNonT_str,flatT_str,flatK_str,isBT_str_true,isBT_str_false,toV_str,ofV_str,keyT_str,isT_str_int,isT_str_bool,isT_str_str,isT_str_list,isT_str_tuple,isT_str_dict,kindT_lst,isNonT_lst,flatT_lst,flatK_lst,isBT_lst_true,isBT_lst_false,lenT_lst,keyT_lst,isT_lst_int,isT_lst_bool,isT_lst_str,isT_lst_list,isT_lst_tuple,isT_lst_dict,kindT_tup,isNonT_tup,flatT_tup,flatK_tup,isBT_tup_true,isBT_tup_false,lenT_tup,keyT_tup,isT_tup_int,isT_tup_bool,isT_tup_str,isT_tup_list,isT_tup_tuple,isT_tup_dict,kindT_dic,isNonT_dic,flatT_dic,flatK_dic,isBT_dic_true,isBT_dic_false,lenT_dic,keyT_dic,isT_dic_int,isT_dic_bool,isT_dic_str,isT_dic_list,isT_dic_tuple,isT_dic_dict,kindT_obj,isNonT_obj,flatT_obj,flatK_obj,isBT_obj_true,isBT_obj_false,keyT_obj,kindT_drw,isNonT_drw,flatT_drw,flatK_drw,isBT_drw_true,isBT_drw_false,keyT_drw,kindT_ty,isNonT_ty,flatT_ty,flatK_ty,isBT_ty_true,isBT_ty_false,toV_ty,ofV_ty,keyT_ty,asD_dic,isBT_bl,dAddG_int,dAddG_str,dAddG_tup,dAddG_lst_lst,dAddG_lst_obj,dAddG_obj_lst,dAddG_obj_obj,dSlG_tup,dSlG_str,dSlG_lst,dSlG_obj])
variable {P : Program} {w : World} {K : PySem.W.Frag} {mg : Str → Option Value} {base : Heap}

/-! ### what is no image, no row of changes -/
def BadI (t : Tr) : Prop := dataT t = true ∧ FewI t ∧ imgB t = false ∧ depTr2 t ≤ 2
def BadR (t : Tr) : Prop := dataT t = true ∧ chsT t = false ∧ depTr2 t ≤ 3
def BadC (t : Tr) : Prop := dataT t = true ∧ chB t = false ∧ depTr2 t ≤ 1
theorem flatK_data {t : Tr} (h : flatK t = true) : dataT t = true ∧ depTr2 t = 0 := by
  cases t <;> first | exact ⟨rfl, rfl⟩ | cases (show false = true from h)
theorem flats_data {us : List Tr} (h : us.all flatK = true) : dataTs us = true ∧ depTrs2 us ≤ 0 :=
  ⟨dataTs_of fun t ht => (flatK_data (List.all_eq_true.mp h t ht)).1, depTrs2_of fun t ht => Nat.le_of_eq (flatK_data (List.all_eq_true.mp h t ht)).2⟩
/-- a list or a tuple of flat values, few of them different -/
def Row1 (c : Tr) : Prop := ∃ us, (c = .tup us ∨ c = .lst us) ∧ us.all flatK = true ∧ Few us
theorem Row1.tup {us : List Tr} (h : us.all flatK = true) (f : Few us) : Row1 (.tup us) := ⟨us, .inl rfl, h, f⟩
theorem Row1.lst {us : List Tr} (h : us.all flatK = true) (f : Few us) : Row1 (.lst us) := ⟨us, .inr rfl, h, f⟩
theorem flat_ints {ns : List Int} : (ns.map Tr.int).all flatK = true := List.all_eq_true.mpr fun t ht => by
  obtain ⟨n, _, rfl⟩ := List.mem_map.mp ht
  rfl
theorem bad4 {a b c d : Tr} (ha : flatK a = true) (hb : flatK b = true) (hc : Row1 c) (hd : Row1 d) (h : imgB (.tup [a, b, c, d]) = false) : BadI (.tup [a, b, c, d]) := by
  obtain ⟨us, ec, fc, wc⟩ := hc
  obtain ⟨ws, ed, fd, wd⟩ := hd
  have a1 := flatK_data ha
  have b1 := flatK_data hb
  have c1 := flats_data fc
  have d1 := flats_data fd
  have c2 : dataT c = true ∧ depTr2 c ≤ 1 := by
    rcases ec with rfl | rfl
    · exact ⟨c1.1, by simp only [depTr2]; omega⟩
    · exact ⟨c1.1, by simp only [depTr2]; omega⟩
  have d2 : dataT d = true ∧ depTr2 d ≤ 1 := by
    rcases ed with rfl | rfl
    · exact ⟨d1.1, by simp only [depTr2]; omega⟩
    · exact ⟨d1.1, by simp only [depTr2]; omega⟩
  refine ⟨by simp only [dataT, dataTs, a1.1, b1.1, c2.1, d2.1, Bool.and_self], fun w f us' ws' e => ?_, h, ?_⟩
  · simp only [Tr.tup.injEq, List.cons.injEq, and_true] at e
    obtain ⟨rfl, rfl, rfl, rfl⟩ := e
    refine ⟨?_, ?_⟩
    · rcases ec with e | e
      · rw [Tr.tup.inj e]; exact wc
      · cases e
    · rcases ed with e | e
      · rw [Tr.tup.inj e]; exact wd
      · cases e
  · have e1 := a1.2
    have e2 := b1.2
    have e3 := c2.2
    have e4 := d2.2
    simp only [depTr2, depTrs2]
    omega
theorem few_sub {us ws : List Tr} (h : us.length ≤ ws.length) (hw : ws.length ≤ 4000) : Few us := few_len (by omega)
theorem bad_word {us : List Tr} {x : Tr} {f : Tr → Bool} (h : x ∈ us) (hx : f x = false) : us.all f = false := by
  cases e : us.all f with
  | false => rfl
  | true => rw [List.all_eq_true.mp e x h] at hx; cases hx
theorem img_of {a b c d : Tr} : imgB (.tup [a, b, c, d]) = (widthT a && (wordT b && (isTupT c && (isTupT d && (decide ((itemsOf c).length = (itemsOf d).length) && (fitsB (itemsOf c).length (intOf a) && ((itemsOf c).all wordT && (itemsOf d).all holdT))))))) := rfl
def wp_bentI : Pw := fun ts Ω PQ _ => ∃ I, ts = [.drw, imT I] ∧ GI I ∧ I.ws.length ≤ 1024 ∧ ∀ t, BadI t → PQ t Ω
theorem log_small {n : Nat} (h : n ≤ 1000000000) : n.log2 < 1920 := by
  by_cases e : n = 0
  · subst e; decide
  · rw [Nat.log2_lt e]
    exact Nat.lt_of_lt_of_le (show n < 2 ^ 30 by omega) (Nat.pow_le_pow_right (by decide) (by decide))
theorem cut_one {us : List Tr} (h : 1 ≤ us.length) : cutT us (some 1) none = us.drop 1 := cutT_from (f := 1) h
/-- an item in its place -/
def chg (us : List Tr) (k : Nat) (x : Tr) : List Tr := us.take k ++ [x] ++ us.drop (k + 1)
theorem chg_mem {us : List Tr} {k : Nat} {x : Tr} : x ∈ chg us k x := List.mem_append_left _ (List.mem_append_right _ List.mem_cons_self)
theorem cut_next {us : List Tr} {k : Nat} (h : k < us.length) : cutT us (some ((k : Int) + 1)) none = us.drop (k + 1) := cutT_from (f := k + 1) h
theorem img_a {a b c d : Tr} (h : widthT a = false) : imgB (.tup [a, b, c, d]) = false := by rw [img_of, h]; rfl
theorem img_b {a b c d : Tr} (h : wordT b = false) : imgB (.tup [a, b, c, d]) = false := by rw [img_of, h]; simp
theorem img_c {a b c d : Tr} (h : isTupT c = false) : imgB (.tup [a, b, c, d]) = false := by rw [img_of, h]; simp
theorem img_d {a b c d : Tr} (h : isTupT d = false) : imgB (.tup [a, b, c, d]) = false := by rw [img_of, h]; simp
theorem img_len {a b c d : Tr} (h : (itemsOf c).length ≠ (itemsOf d).length) : imgB (.tup [a, b, c, d]) = false := by rw [img_of, decide_eq_false h]; simp
theorem img_fit {a b c d : Tr} (h : fitsB (itemsOf c).length (intOf a) = false) : imgB (.tup [a, b, c, d]) = false := by rw [img_of, h]; simp
theorem img_w {a b c d : Tr} (h : (itemsOf c).all wordT = false) : imgB (.tup [a, b, c, d]) = false := by rw [img_of, h]; simp
theorem img_h {a b c d : Tr} (h : (itemsOf d).all holdT = false) : imgB (.tup [a, b, c, d]) = false := by rw [img_of, h]; simp
theorem chg_flat {us : List Tr} {k : Nat} {x : Tr} (h : us.all flatK = true) (hx : flatK x = true) : (chg us k x).all flatK = true := List.all_eq_true.mpr fun t ht => by
  rcases List.mem_append.mp ht with ht | ht
  · rcases List.mem_append.mp ht with ht | ht
    · exact List.all_eq_true.mp h t (List.mem_of_mem_take ht)
    · rw [List.mem_singleton.mp ht]; exact hx
  · exact List.all_eq_true.mp h t (List.mem_of_mem_drop ht)
theorem chg_len {us : List Tr} {k : Nat} {x : Tr} (h : k < us.length) : (chg us k x).length = us.length := by
  unfold chg
  rw [List.length_append, List.length_append, List.length_take, List.length_singleton, List.length_drop]
  omega
theorem chsB_bad : ∀ {l : Int} {us : List Tr} {x : Tr}, x ∈ us → chB x = false → chsB l us = false
  | l, u :: us, x, h, hx => by
    show (chB u && (decide (l < placeT u) && chsB (placeT u) us)) = false
    rcases List.mem_cons.mp h with rfl | h
    · rw [hx]; rfl
    · rw [chsB_bad h hx]; simp
theorem chsB_all : ∀ {l : Int} {us : List Tr}, chsB l us = true → ∀ x ∈ us, l < placeT x
  | l, u :: us, h, x, hx => by
    have h1 := Bool.and_eq_true_iff.mp (show (chB u && (decide (l < placeT u) && chsB (placeT u) us)) = true from h)
    have h2 := Bool.and_eq_true_iff.mp h1.2
    have h3 := of_decide_eq_true h2.1
    rcases List.mem_cons.mp hx with rfl | hx
    · exact h3
    · exact Int.lt_trans h3 (chsB_all h2.2 x hx)
theorem chsB_split : ∀ {l : Int} {as bs : List Tr}, chsB l (as ++ bs) = true → ∀ a ∈ as, ∀ b ∈ bs, placeT a < placeT b
  | l, u :: as, bs, h, a, ha, b, hb => by
    have h1 := Bool.and_eq_true_iff.mp (show (chB u && (decide (l < placeT u) && chsB (placeT u) (as ++ bs))) = true from h)
    have h2 := Bool.and_eq_true_iff.mp h1.2
    rcases List.mem_cons.mp ha with rfl | ha
    · exact chsB_all h2.2 b (List.mem_append_right _ hb)
    · exact chsB_split h2.2 a ha b hb
theorem chsB_twice {l : Int} {as bs : List Tr} {x : Tr} (h1 : x ∈ as) (h2 : x ∈ bs) : chsB l (as ++ bs) = false := by
  cases h : chsB l (as ++ bs) with
  | false => rfl
  | true => exact absurd (chsB_split h x h1 x h2) (Int.lt_irrefl _)
theorem addB {A : Tr → Prop} {xs ys : List Tr} {Ω : Om} {P : PT'} (hx : ∀ x ∈ xs, A x) (hy : ∀ y ∈ ys, A y) (hl : xs.length + ys.length ≤ 1000000) (q : ∀ zs : List Tr, (∀ z ∈ zs, A z) → zs.length = xs.length + ys.length → lstNew zs Ω P) : dAddG (.lst xs) (.lst ys) Ω P :=
  ⟨xs, ys, rfl, rfl, hl, q _ (fun z hz => (List.mem_append.mp hz).elim (hx z) (hy z)) List.length_append⟩
def wp_bentR : Pw := fun ts Ω PQ _ => ∃ cs : List Ch, ts = [.drw, .lst (cs.map cT)] ∧ chsT (.lst (cs.map cT)) = true ∧ cs.length ≤ 1024 ∧ ∀ t, BadR t → PQ t Ω
theorem chB5 {a b c d f : Tr} : chB (.tup [a, b, c, d, f]) = (isInt a && ((decide (0 ≤ intOf a) && decide (intOf a < 16384)) && (wordT b && (holdT c && (wordT d && (holdT f && (!decide (toV b = toV d) || !decide (toV c = toV f)))))))) := rfl
theorem bad5 {a b c d f : Tr} (ha : flatK a = true) (hb : flatK b = true) (hc : flatK c = true) (hd : flatK d = true) (hf : flatK f = true) (h : chB (.tup [a, b, c, d, f]) = false) : BadC (.tup [a, b, c, d, f]) := by
  have a1 := flatK_data ha
  have b1 := flatK_data hb
  have c1 := flatK_data hc
  have d1 := flatK_data hd
  have f1 := flatK_data hf
  refine ⟨by simp only [dataT, dataTs, a1.1, b1.1, c1.1, d1.1, f1.1, Bool.and_self], h, ?_⟩
  have := a1.2; have := b1.2; have := c1.2; have := d1.2; have := f1.2
  simp only [depTr2, depTrs2]
  omega
theorem ch_a {a b c d f : Tr} (h : isInt a = false) : chB (.tup [a, b, c, d, f]) = false := by rw [chB5, h]; rfl
theorem ch_p {a b c d f : Tr} (h : intOf a < 0 ∨ 16384 ≤ intOf a) : chB (.tup [a, b, c, d, f]) = false := by
  rw [chB5]
  rcases h with h | h
  · rw [decide_eq_false (p := 0 ≤ intOf a) (by omega)]; simp
  · rw [decide_eq_false (p := intOf a < 16384) (by omega)]; simp
theorem ch_b {a b c d f : Tr} (h : wordT b = false) : chB (.tup [a, b, c, d, f]) = false := by rw [chB5, h]; simp
theorem ch_c {a b c d f : Tr} (h : holdT c = false) : chB (.tup [a, b, c, d, f]) = false := by rw [chB5, h]; simp
theorem ch_d {a b c d f : Tr} (h : wordT d = false) : chB (.tup [a, b, c, d, f]) = false := by rw [chB5, h]; simp
theorem ch_f {a b c d f : Tr} (h : holdT f = false) : chB (.tup [a, b, c, d, f]) = false := by rw [chB5, h]; simp
theorem ch_e {a b c d f : Tr} (h1 : toV b = toV d) (h2 : toV c = toV f) : chB (.tup [a, b, c, d, f]) = false := by rw [chB5, decide_eq_true h1, decide_eq_true h2]; simp
theorem badR_of {us : List Tr} (h1 : chsB (-1) us = false) (h2 : dataTs us = true) (h3 : depTrs2 us ≤ 2) : BadR (.lst us) := ⟨h2, h1, by simp only [depTr2]; omega⟩
theorem ok_law_bent_rows (T : Tx K mg) : FnOk P w K mg base CX0 4 (He.ga K "_law_bent_rows") T.fd_law_bent_rows P_law_bent_rows (spD K wp_bentR 2) := by
  refine dok T.F_law_bent_rows sc_law_bent_rows fun cdv A outer s H E hr => ?_
  refine' dokMk (PSs.nox (pss_cons (ps_if (pt_cmpR op_eq (pe_callB (show CallR _ _ (LT.rLenS K) from LT.call_lenS) (by rfl) T.z_len (by decide +kernel) (pa_cons (pv 1) pa_nil)) (pe_int) (nomark _)) (pss_cons (ps_set (i := 6) sc_law_bent_rows.nd rfl (Or.inl rfl) (pe_lst (pa_cons (pe_tup pa_nil) (pa_cons (pe_non) (pa_cons (pe_int) (pa_cons (pe_str) (pa_cons (pe_dnewK) (pa_cons (pe_lst (pa_cons (pe_tup (pa_cons (pe_int) (pa_cons (pe_int) (pa_cons (pe_int) (pa_cons (pe_int) (pa_cons (pe_int) pa_nil)))))) pa_nil)) (pa_cons (pe_lst (pa_cons (pe_tup (pa_cons (pe_int) (pa_cons (pe_int) (pa_cons (pe_int) (pa_cons (pe_bl) (pa_cons (pe_int) pa_nil)))))) pa_nil)) (pa_cons (pe_lst (pa_cons (pe_lst (pa_cons (pe_int) (pa_cons (pe_int) (pa_cons (pe_int) (pa_cons (pe_int) (pa_cons (pe_int) pa_nil)))))) pa_nil)) pa_nil)))))))))) (pss_one (ps_ret (pe_call (ok_law_among T) hr rfl T.g_law_among T.F_law_among.kp (b_law_among T) .nil pass0 (pa_cons (pv 0) (pa_cons (pe_op (show OpR _ _ (LT.rAddG K) from LT.op_addG) (pv 6) (pe_lc (own := [("_law_place", 8)]) (by rfl) sc_law_bent_rows.nd (LT.pi_seqK (K := K) rfl (pe_lst (pa_cons (pe_bl) (pa_cons (pe_bl) (pa_cons (pe_str) (pa_cons (pe_un un_neg (pe_int)) (pa_cons (pe_int) pa_nil))))))) (blkOk_by (N := N_law_bent_rows) (sc := defScope s_law_bent_rows) (by decide +kernel)) (fun _ _ _ _ _ => (pg_name (i := 8) sc_law_bent_rows.nd rfl (Or.inl rfl))) (fun _ _ _ _ _ => pts_nil) (fun _ _ _ _ _ => (pe_lst (pa_cons (pe_tup (pa_cons (pv 8) (pa_cons (pe_int) (pa_cons (pe_int) (pa_cons (pe_int) (pa_cons (pe_int) pa_nil)))))) pa_nil))))) pa_nil)))))) pss_nil) (pss_cons (ps_set (i := 2) sc_law_bent_rows.nd rfl (Or.inr rfl) (pe_call (okt_law_take T) (hr.mono (by decide)) rfl T.g_law_take T.F_law_take.kp (b_law_take T) .nil pass0 (pa_cons (pv 0) (pa_cons (pe_callB (show CallR _ _ (LT.rLenS K) from LT.call_lenS) (by rfl) T.z_len (by decide +kernel) (pa_cons (pv 1) pa_nil)) pa_nil)))) (pss_cons (ps_set (i := 3) sc_law_bent_rows.nd rfl (Or.inr rfl) (pe_ix (show IxR _ (LL.rIxA K) from LL.ix_A) (pv 1) (pv 2) (fun _ _ => rfl))) (pss_cons (ps_set (i := 4) sc_law_bent_rows.nd rfl (Or.inl rfl) (pe_lst (pa_cons (pe_callTy (show CallR _ _ (LT.rList K) from LT.call_list rfl) (by rfl) T.z_list (by decide +kernel) (pa_cons (pv 3) pa_nil)) (pa_cons (pe_op (show OpR _ _ (LT.rAddG K) from LT.op_addG) (pv 3) (pe_tup (pa_cons (pe_int) pa_nil))) (pa_cons (pe_slice (show SlR _ (LT.rSlG K) from LT.sl_G) (pv 3) po_none (po_some (pe_int))) (pa_cons (pe_tup (pa_cons (pe_ix (show IxR _ (LL.rIxA K) from LL.ix_A) (pv 3) (pe_int) (fun _ _ => rfl)) (pa_cons (pe_ix (show IxR _ (LL.rIxA K) from LL.ix_A) (pv 3) (pe_int) (fun _ _ => rfl)) (pa_cons (pe_ix (show IxR _ (LL.rIxA K) from LL.ix_A) (pv 3) (pe_int) (fun _ _ => rfl)) (pa_cons (pe_ix (show IxR _ (LL.rIxA K) from LL.ix_A) (pv 3) (pe_int) (fun _ _ => rfl)) (pa_cons (pe_ix (show IxR _ (LL.rIxA K) from LL.ix_A) (pv 3) (pe_int) (fun _ _ => rfl)) pa_nil)))))) (pa_cons (pe_non) pa_nil))))))) (pss_cons (ps_set (i := 4) sc_law_bent_rows.nd rfl (Or.inl rfl) (pe_op (show OpR _ _ (LT.rAddG K) from LT.op_addG) (pv 4) (pe_lc (own := [("_law_place", 8)]) (by rfl) sc_law_bent_rows.nd (LT.pi_seqK (K := K) rfl (pe_lst (pa_cons (pe_op op_sub (pe_un un_neg (pe_int)) (pe_ix (show IxR _ (LL.rIxA K) from LL.ix_A) (pv 3) (pe_int) (fun _ _ => rfl))) (pa_cons (pe_int) (pa_cons (pe_non) (pa_cons (pe_callTy (show CallR _ _ LT.rStrI from LT.call_strI) (by rfl) T.z_str (by decide +kernel) (pa_cons (pe_ix (show IxR _ (LL.rIxA K) from LL.ix_A) (pv 3) (pe_int) (fun _ _ => rfl)) pa_nil)) (pa_cons (pe_bl) (pa_cons (pe_bl) (pa_cons (pe_op op_pow (pe_int) (pe_int)) pa_nil))))))))) (blkOk_by (N := N_law_bent_rows) (sc := defScope s_law_bent_rows) (by decide +kernel)) (fun _ _ _ _ _ => (pg_name (i := 8) sc_law_bent_rows.nd rfl (Or.inl rfl))) (fun _ _ _ _ _ => pts_nil) (fun _ _ _ _ _ => (pe_op (show OpR _ _ (LT.rAddG K) from LT.op_addG) (pe_tup (pa_cons (pv 8) pa_nil)) (pe_slice (show SlR _ (LT.rSlG K) from LT.sl_G) (pv 3) (po_some (pe_int)) po_none)))))) (pss_cons (ps_set (i := 4) sc_law_bent_rows.nd rfl (Or.inl rfl) (pe_op (show OpR _ _ (LT.rAddG K) from LT.op_addG) (pv 4) (pe_lc (own := [("_law_word_here", 9)]) (by rfl) sc_law_bent_rows.nd (LT.pi_seqK (K := K) rfl (pe_lst (pa_cons (pe_un un_neg (pe_int)) (pa_cons (pe_int) (pa_cons (pe_op op_pow (pe_int) (pe_int)) (pa_cons (pe_bl) (pa_cons (pe_non) pa_nil))))))) (blkOk_by (N := N_law_bent_rows) (sc := defScope s_law_bent_rows) (by decide +kernel)) (fun _ _ _ _ _ => (pg_name (i := 9) sc_law_bent_rows.nd rfl (Or.inl rfl))) (fun _ _ _ _ _ => pts_nil) (fun _ _ _ _ _ => (pe_op (show OpR _ _ (LT.rAddG K) from LT.op_addG) (pe_tup (pa_cons (pe_ix (show IxR _ (LL.rIxA K) from LL.ix_A) (pv 3) (pe_int) (fun _ _ => rfl)) (pa_cons (pv 9) pa_nil))) (pe_slice (show SlR _ (LT.rSlG K) from LT.sl_G) (pv 3) (po_some (pe_int)) po_none)))))) (pss_cons (ps_set (i := 4) sc_law_bent_rows.nd rfl (Or.inl rfl) (pe_op (show OpR _ _ (LT.rAddG K) from LT.op_addG) (pv 4) (pe_lc (own := [("_law_word_here", 9)]) (by rfl) sc_law_bent_rows.nd (LT.pi_seqK (K := K) rfl (pe_lst (pa_cons (pe_un un_neg (pe_int)) (pa_cons (pe_int) (pa_cons (pe_op op_pow (pe_int) (pe_int)) (pa_cons (pe_bl) (pa_cons (pe_non) pa_nil))))))) (blkOk_by (N := N_law_bent_rows) (sc := defScope s_law_bent_rows) (by decide +kernel)) (fun _ _ _ _ _ => (pg_name (i := 9) sc_law_bent_rows.nd rfl (Or.inl rfl))) (fun _ _ _ _ _ => pts_nil) (fun _ _ _ _ _ => (pe_op (show OpR _ _ (LT.rAddG K) from LT.op_addG) (pe_slice (show SlR _ (LT.rSlG K) from LT.sl_G) (pv 3) po_none (po_some (pe_int))) (pe_tup (pa_cons (pv 9) (pa_cons (pe_ix (show IxR _ (LL.rIxA K) from LL.ix_A) (pv 3) (pe_int) (fun _ _ => rfl)) pa_nil)))))))) (pss_cons (ps_set (i := 4) sc_law_bent_rows.nd rfl (Or.inl rfl) (pe_op (show OpR _ _ (LT.rAddG K) from LT.op_addG) (pv 4) (pe_lc (own := [("_law_holder_here", 10)]) (by rfl) sc_law_bent_rows.nd (LT.pi_seqK (K := K) rfl (pe_lst (pa_cons (pe_un un_neg (pe_int)) (pa_cons (pe_int) (pa_cons (pe_int) (pa_cons (pe_int) (pa_cons (pe_int) (pa_cons (pe_int) (pa_cons (pe_bl) pa_nil))))))))) (blkOk_by (N := N_law_bent_rows) (sc := defScope s_law_bent_rows) (by decide +kernel)) (fun _ _ _ _ _ => (pg_name (i := 10) sc_law_bent_rows.nd rfl (Or.inl rfl))) (fun _ _ _ _ _ => pts_nil) (fun _ _ _ _ _ => (pe_op (show OpR _ _ (LT.rAddG K) from LT.op_addG) (pe_op (show OpR _ _ (LT.rAddG K) from LT.op_addG) (pe_slice (show SlR _ (LT.rSlG K) from LT.sl_G) (pv 3) po_none (po_some (pe_int))) (pe_tup (pa_cons (pv 10) pa_nil))) (pe_slice (show SlR _ (LT.rSlG K) from LT.sl_G) (pv 3) (po_some (pe_int)) po_none)))))) (pss_cons (ps_set (i := 4) sc_law_bent_rows.nd rfl (Or.inl rfl) (pe_op (show OpR _ _ (LT.rAddG K) from LT.op_addG) (pv 4) (pe_lc (own := [("_law_holder_here", 10)]) (by rfl) sc_law_bent_rows.nd (LT.pi_seqK (K := K) rfl (pe_lst (pa_cons (pe_un un_neg (pe_int)) (pa_cons (pe_int) (pa_cons (pe_int) (pa_cons (pe_int) (pa_cons (pe_int) (pa_cons (pe_int) (pa_cons (pe_bl) pa_nil))))))))) (blkOk_by (N := N_law_bent_rows) (sc := defScope s_law_bent_rows) (by decide +kernel)) (fun _ _ _ _ _ => (pg_name (i := 10) sc_law_bent_rows.nd rfl (Or.inl rfl))) (fun _ _ _ _ _ => pts_nil) (fun _ _ _ _ _ => (pe_op (show OpR _ _ (LT.rAddG K) from LT.op_addG) (pe_slice (show SlR _ (LT.rSlG K) from LT.sl_G) (pv 3) po_none (po_some (pe_int))) (pe_tup (pa_cons (pv 10) pa_nil))))))) (pss_cons (ps_setLc (i := 5) (own := [("_law_other_here", 7)]) rfl sc_law_bent_rows.nd rfl rfl (sw_true rfl rfl rfl (by decide +kernel)) (LT.pi_seqK (K := K) rfl (pv 4)) (blkOk_by (N := N_law_bent_rows) (sc := defScope s_law_bent_rows) (by decide +kernel)) (fun _ _ _ _ _ => (pg_name (i := 7) sc_law_bent_rows.nd rfl (Or.inl rfl))) (fun _ _ _ _ _ => pts_nil) (fun _ _ _ _ _ => (pe_op (show OpR _ _ (LT.rAddG K) from LT.op_addG) (pe_op (show OpR _ _ (LT.rAddG K) from LT.op_addG) (pe_slice (show SlR _ (LT.rSlG K) from LT.sl_G) (pv 1) po_none (po_some (pv 2))) (pe_lst (pa_cons (pv 7) pa_nil))) (pe_slice (show SlR _ (LT.rSlG K) from LT.sl_G) (pv 1) (po_some (pe_op (show OpR _ _ (LT.rAddG K) from LT.op_addG) (pv 2) (pe_int))) po_none)))) (pss_cons (ps_set (i := 5) sc_law_bent_rows.nd rfl (Or.inl rfl) (pe_op (show OpR _ _ (LT.rAddG K) from LT.op_addG) (pv 5) (pe_lst (pa_cons (pe_callTy (show CallR _ _ (LT.rTuple K) from LT.call_tuple) (by rfl) T.z_tuple (by decide +kernel) (pa_cons (pv 1) pa_nil)) (pa_cons (pe_op (show OpR _ _ (LT.rAddG K) from LT.op_addG) (pv 1) (pe_lst (pa_cons (pv 3) pa_nil))) (pa_cons (pe_op (show OpR _ _ (LT.rAddG K) from LT.op_addG) (pe_lst (pa_cons (pv 3) pa_nil)) (pv 1)) (pa_cons (pe_op (show OpR _ _ (LT.rAddG K) from LT.op_addG) (pe_slice (show SlR _ (LT.rSlG K) from LT.sl_G) (pv 1) po_none (po_some (pe_op (show OpR _ _ (LT.rAddG K) from LT.op_addG) (pv 2) (pe_int)))) (pe_slice (show SlR _ (LT.rSlG K) from LT.sl_G) (pv 1) (po_some (pv 2)) po_none)) (pa_cons (pe_op (show OpR _ _ (LT.rAddG K) from LT.op_addG) (pv 1) (pe_lst (pa_cons (pe_ix (show IxR _ (LL.rIxA K) from LL.ix_A) (pv 1) (pe_int) (fun _ _ => rfl)) pa_nil))) pa_nil)))))))) (pss_one (ps_ret (pe_call (ok_law_among T) hr rfl T.g_law_among T.F_law_among.kp (b_law_among T) .nil pass0 (pa_cons (pv 0) (pa_cons (pv 5) pa_nil))))))))))))))))) ?sim ?go
  case sim =>
    try simp only [LL.cxK0, LL.cxK1, List.map_cons, List.map_nil]
    repeat' (first | fail "s")
  case go =>
    intro ts Ω PQ PX hl h
    obtain ⟨cs, rfl, hcs, hlen, q⟩ := h
    simp! only [N_law_bent_rows]
    refine fun _ => itei (fun h0 => ?_) fun h0 => ?_
    · refine dic_in ?_
      repeat' (first | fail "r")
      refine map_S (t := .lst [.bl true, .bl false, .str "5", .int (-5), .int 16384]) (ts := [.bl true, .bl false, .str "5", .int (-5), .int 16384]) (fun P p => ?_) rfl (fun x => .lst [.tup [x, .int 1, .int 0, .int 2, .int 0]]) mono_dName (fun x hx Q q => ?_) (.inl ?_)
      · simp! only [and_true]
        exact lst_in p
      · simp! only [and_true]
        exact lst_in q
      repeat' (first | fail "r" | exact q _ ⟨rfl, by decide, by decide⟩)
    · refine fun _ => tk_call (tk_big (by rw [List.length_map]; omega) (by rw [List.length_map]; omega)) fun v v0 v1 => ?_
      rw [List.length_map] at v1 h0
      obtain ⟨k, rfl⟩ : ∃ k : Nat, v = k := ⟨v.toNat, by omega⟩
      have hk : k < cs.length := by omega
      obtain ⟨c, hc⟩ : ∃ c, cs[k]? = some c := ⟨_, List.getElem?_eq_getElem hk⟩
      have ek : L2.atI (cs.map cT) (k : Int) = some (cT c) := atI_nat (by rw [List.getElem?_map, hc]; rfl)
      have hcB : chB (cT c) = true := by
        cases h : chB (cT c) with
        | true => rfl
        | false =>
          have hm : cT c ∈ cs.map cT := List.mem_map.mpr ⟨c, List.mem_of_getElem? hc, rfl⟩
          rw [show chsT (.lst (cs.map cT)) = chsB (-1) (cs.map cT) from rfl, chsB_bad hm h] at hcs
          cases hcs
      have hlogp : c.p.natAbs.log2 < 1920 := by
        obtain ⟨d, e, p0, p1, _⟩ := chB_form hcB
        have hp : c.p = d.p := by
          have := congrArg placeT e
          exact this
        exact log_small (by omega)
      simp! only [ek, cT]
      repeat' (first | fail "r" | with_reducible refine And.intro hlogp ?_ | with_reducible refine Or.inl ?_)
      have t1 : ∀ a b c d e : Tr, cutT [a, b, c, d, e] (some 1) none = [b, c, d, e] := fun _ _ _ _ _ => rfl
      have t2 : ∀ a b c d e : Tr, cutT [a, b, c, d, e] (some 2) none = [c, d, e] := fun _ _ _ _ _ => rfl
      have t3 : ∀ a b c d e : Tr, cutT [a, b, c, d, e] none (some 3) = [a, b, c] := fun _ _ _ _ _ => rfl
      have t4 : ∀ a b c d e : Tr, cutT [a, b, c, d, e] none (some 2) = [a, b] := fun _ _ _ _ _ => rfl
      have t5 : ∀ a b c d e : Tr, cutT [a, b, c, d, e] (some 3) none = [d, e] := fun _ _ _ _ _ => rfl
      have t6 : ∀ a b c d e : Tr, cutT [a, b, c, d, e] none (some 4) = [a, b, c, d] := fun _ _ _ _ _ => rfl
      have p0 : 0 ≤ c.p := by
        obtain ⟨d, e, p0, _⟩ := chB_form hcB
        have hp : c.p = d.p := congrArg placeT e
        omega
      rw [t6]
      have hR0 : ∀ x ∈ ([.lst [.int c.p, .int c.w, .int c.h, .int c.w', .int c.h'], .tup [.int c.p, .int c.w, .int c.h, .int c.w', .int c.h', .int 0], .tup [.int c.p, .int c.w, .int c.h, .int c.w'], .tup [.int c.p, .int c.w, .int c.h, .int c.w, .int c.h], .non] : List Tr), BadC x := by
        intro x hx
        simp only [List.mem_cons, List.not_mem_nil, or_false] at hx
        rcases hx with rfl | rfl | rfl | rfl | rfl
        · exact ⟨rfl, rfl, Nat.le_refl 1⟩
        · exact ⟨rfl, rfl, Nat.le_refl 1⟩
        · exact ⟨rfl, rfl, Nat.le_refl 1⟩
        · exact bad5 rfl rfl rfl rfl rfl (ch_e rfl rfl)
        · exact ⟨rfl, rfl, by decide⟩
      refine map_S (t := .lst [.int (-1 - c.p), .int 16384, .non, .str (toString c.p), .bl true, .bl false, .int 1000000000000000000000000000000]) (ts := [.int (-1 - c.p), .int 16384, .non, .str (toString c.p), .bl true, .bl false, .int 1000000000000000000000000000000]) (fun P p => ?_) rfl (fun x => .tup [x, .int c.w, .int c.h, .int c.w', .int c.h']) mono_dName (fun x hx Q q => ?_) (.inl (addB hR0 ?_ (by simp only [List.length_map, List.length_cons, List.length_nil]; omega) fun R hR hl => .inl ?_))
      · repeat' (first | fail "r" | with_reducible refine And.intro hlogp ?_ | exact p)
      · simp! only [t1, t2, t3, t4, t5]
        exact q
      · intro y hy
        simp only [List.map_cons, List.map_nil, List.mem_cons, List.not_mem_nil, or_false] at hy
        rcases hy with rfl | rfl | rfl | rfl | rfl | rfl | rfl
        · exact bad5 rfl rfl rfl rfl rfl (ch_p (.inl (show -1 - c.p < 0 by omega)))
        · exact bad5 rfl rfl rfl rfl rfl (ch_p (.inr (by decide)))
        · exact bad5 rfl rfl rfl rfl rfl (ch_a rfl)
        · exact bad5 rfl rfl rfl rfl rfl (ch_a rfl)
        · exact bad5 rfl rfl rfl rfl rfl (ch_a rfl)
        · exact bad5 rfl rfl rfl rfl rfl (ch_a rfl)
        · exact bad5 rfl rfl rfl rfl rfl (ch_p (.inr (by decide)))
      simp only [List.length_map, List.length_cons, List.length_nil] at hl
      refine map_S (t := .lst [.int (-1), .int 65536, .int 1000000000000000000000000000000, .bl false, .non]) (ts := [.int (-1), .int 65536, .int 1000000000000000000000000000000, .bl false, .non]) (fun P p => ?_) rfl (fun x => .tup [.int c.p, x, .int c.h, .int c.w', .int c.h']) mono_dName (fun x hx Q q => ?_) (.inl (addB hR ?_ (by simp only [List.length_map, List.length_cons, List.length_nil]; omega) fun R hR hl => .inl ?_))
      · repeat' (first | fail "r" | with_reducible refine And.intro hlogp ?_ | exact p)
      · simp! only [t1, t2, t3, t4, t5]
        exact q
      · intro y hy
        simp only [List.map_cons, List.map_nil, List.mem_cons, List.not_mem_nil, or_false] at hy
        rcases hy with rfl | rfl | rfl | rfl | rfl
        · exact bad5 rfl rfl rfl rfl rfl (ch_b rfl)
        · exact bad5 rfl rfl rfl rfl rfl (ch_b rfl)
        · exact bad5 rfl rfl rfl rfl rfl (ch_b rfl)
        · exact bad5 rfl rfl rfl rfl rfl (ch_b rfl)
        · exact bad5 rfl rfl rfl rfl rfl (ch_b rfl)
      simp only [List.length_map, List.length_cons, List.length_nil] at hl
      refine map_S (t := .lst [.int (-1), .int 65536, .int 1000000000000000000000000000000, .bl false, .non]) (ts := [.int (-1), .int 65536, .int 1000000000000000000000000000000, .bl false, .non]) (fun P p => ?_) rfl (fun x => .tup [.int c.p, .int c.w, .int c.h, x, .int c.h']) mono_dName (fun x hx Q q => ?_) (.inl (addB hR ?_ (by simp only [List.length_map, List.length_cons, List.length_nil]; omega) fun R hR hl => .inl ?_))
      · repeat' (first | fail "r" | with_reducible refine And.intro hlogp ?_ | exact p)
      · simp! only [t1, t2, t3, t4, t5]
        exact q
      · intro y hy
        simp only [List.map_cons, List.map_nil, List.mem_cons, List.not_mem_nil, or_false] at hy
        rcases hy with rfl | rfl | rfl | rfl | rfl
        · exact bad5 rfl rfl rfl rfl rfl (ch_d rfl)
        · exact bad5 rfl rfl rfl rfl rfl (ch_d rfl)
        · exact bad5 rfl rfl rfl rfl rfl (ch_d rfl)
        · exact bad5 rfl rfl rfl rfl rfl (ch_d rfl)
        · exact bad5 rfl rfl rfl rfl rfl (ch_d rfl)
      simp only [List.length_map, List.length_cons, List.length_nil] at hl
      refine map_S (t := .lst [.int (-1), .int 9, .int 10, .int 19, .int 20, .int 29, .bl true]) (ts := [.int (-1), .int 9, .int 10, .int 19, .int 20, .int 29, .bl true]) (fun P p => ?_) rfl (fun x => .tup [.int c.p, .int c.w, x, .int c.w', .int c.h']) mono_dName (fun x hx Q q => ?_) (.inl (addB hR ?_ (by simp only [List.length_map, List.length_cons, List.length_nil]; omega) fun R hR hl => .inl ?_))
      · repeat' (first | fail "r" | with_reducible refine And.intro hlogp ?_ | exact p)
      · simp! only [t1, t2, t3, t4, t5]
        exact q
      · intro y hy
        simp only [List.map_cons, List.map_nil, List.mem_cons, List.not_mem_nil, or_false] at hy
        rcases hy with rfl | rfl | rfl | rfl | rfl | rfl | rfl
        · exact bad5 rfl rfl rfl rfl rfl (ch_c (by decide))
        · exact bad5 rfl rfl rfl rfl rfl (ch_c (by decide))
        · exact bad5 rfl rfl rfl rfl rfl (ch_c (by decide))
        · exact bad5 rfl rfl rfl rfl rfl (ch_c (by decide))
        · exact bad5 rfl rfl rfl rfl rfl (ch_c (by decide))
        · exact bad5 rfl rfl rfl rfl rfl (ch_c (by decide))
        · exact bad5 rfl rfl rfl rfl rfl (ch_c (by decide))
      simp only [List.length_map, List.length_cons, List.length_nil] at hl
      refine map_S (t := .lst [.int (-1), .int 9, .int 10, .int 19, .int 20, .int 29, .bl true]) (ts := [.int (-1), .int 9, .int 10, .int 19, .int 20, .int 29, .bl true]) (fun P p => ?_) rfl (fun x => .tup [.int c.p, .int c.w, .int c.h, .int c.w', x]) mono_dName (fun x hx Q q => ?_) (.inl (addB hR ?_ (by simp only [List.length_map, List.length_cons, List.length_nil]; omega) fun R hR hl => .inl ?_))
      · repeat' (first | fail "r" | with_reducible refine And.intro hlogp ?_ | exact p)
      · simp! only [t6]
        exact q
      · intro y hy
        simp only [List.map_cons, List.map_nil, List.mem_cons, List.not_mem_nil, or_false] at hy
        rcases hy with rfl | rfl | rfl | rfl | rfl | rfl | rfl
        · exact bad5 rfl rfl rfl rfl rfl (ch_f (by decide))
        · exact bad5 rfl rfl rfl rfl rfl (ch_f (by decide))
        · exact bad5 rfl rfl rfl rfl rfl (ch_f (by decide))
        · exact bad5 rfl rfl rfl rfl rfl (ch_f (by decide))
        · exact bad5 rfl rfl rfl rfl rfl (ch_f (by decide))
        · exact bad5 rfl rfl rfl rfl rfl (ch_f (by decide))
        · exact bad5 rfl rfl rfl rfl rfl (ch_f (by decide))
      simp only [List.length_map, List.length_cons, List.length_nil] at hl
      have k1 := cutT_to (us := cs.map cT) (k := k)
      have k2 := cut_next (us := cs.map cT) (k := k) (by rw [List.length_map]; exact hk)
      have hRl : R.length ≤ 40 := by omega
      have hdc : dataTs (cs.map cT) = true := data_cT
      have hpc : depTrs2 (cs.map cT) ≤ 1 := by
        have := dep_cT (cs := cs)
        simp only [depTr2] at this
        omega
      have mem1 : cT c ∈ cs.map cT := List.mem_map.mpr ⟨c, List.mem_of_getElem? hc, rfl⟩
      have kL : k + 1 ≤ (cs.map cT).length := by rw [List.length_map]; exact hk
      have mem2 : cT c ∈ (cs.map cT).take (k + 1) := by
        refine List.mem_iff_getElem?.mpr ⟨k, ?_⟩
        rw [List.getElem?_take_of_lt (by omega), List.getElem?_map, hc]
        rfl
      have mem3 : cT c ∈ (cs.map cT).drop k := by
        refine List.mem_iff_getElem?.mpr ⟨0, ?_⟩
        rw [List.getElem?_drop, Nat.add_zero, List.getElem?_map, hc]
        rfl
      have dsub : ∀ {us : List Tr}, (∀ t ∈ us, t ∈ cs.map cT) → dataTs us = true ∧ depTrs2 us ≤ 2 := fun h => ⟨data_sub hdc h, depTrs2_of fun t ht => Nat.le_trans (depTrs2_mem (h t ht)) (by omega)⟩
      refine map_S (t := .lst R) (ts := R) (fun P p => ⟨_, rfl, p⟩) rfl (fun x => .lst (chg (cs.map cT) k x)) mono_dName (fun x hx Q q => ?_) (.inl ?_)
      · simp! only [k1, k2]
        repeat' (first | fail "r" | with_reducible refine And.intro (by fail "l") ?_ | exact q)
      · have k3 : cutT (cs.map cT) none (some ((k : Int) + 1)) = (cs.map cT).take (k + 1) := cutT_to (k := k + 1)
        have k4 := cutT_from (us := cs.map cT) (f := k) (by omega)
        obtain ⟨c0, r0, hc0⟩ : ∃ c0 r0, cs = c0 :: r0 := by
          cases cs with
          | nil => exact absurd hk (Nat.not_lt_zero _)
          | cons a b => exact ⟨a, b, rfl⟩
        have k5 : L2.atI (cs.map cT) 0 = some (cT c0) := by rw [hc0]; exact atI_0
        have mem4 : cT c0 ∈ cs.map cT := by rw [hc0]; exact List.mem_cons_self
        have hB : ∀ x ∈ R.map (fun x => Tr.lst (chg (cs.map cT) k x)), BadR x := fun x hx => by
          obtain ⟨y, hy, rfl⟩ := List.mem_map.mp hx
          obtain ⟨y1, y2, y3⟩ := hR y hy
          refine badR_of (chsB_bad chg_mem y2) (dataTs_of fun t ht => ?_) (depTrs2_of fun t ht => ?_)
          · rcases List.mem_append.mp ht with ht | ht
            · rcases List.mem_append.mp ht with ht | ht
              · exact dataTs_mem hdc (List.mem_of_mem_take ht)
              · rw [List.mem_singleton.mp ht]; exact y1
            · exact dataTs_mem hdc (List.mem_of_mem_drop ht)
          · rcases List.mem_append.mp ht with ht | ht
            · rcases List.mem_append.mp ht with ht | ht
              · exact Nat.le_trans (depTrs2_mem (List.mem_of_mem_take ht)) (by omega)
              · rw [List.mem_singleton.mp ht]; omega
            · exact Nat.le_trans (depTrs2_mem (List.mem_of_mem_drop ht)) (by omega)
        simp! only [k3, k4, k5]
        repeat' (first | fail "r" | with_reducible refine And.intro (by fail "l") ?_)
        have one : ∀ {us : List Tr}, (∀ t ∈ us, t ∈ cs.map cT) → chsB (-1) us = false → BadR (.lst us) := fun h b => badR_of b (dsub h).1 (dsub h).2
        refine am_call rfl (by simp) fun x hx => q x ?_
        rcases List.mem_append.mp hx with hx | hx
        · exact hB x hx
        · simp only [List.mem_cons, List.not_mem_nil, or_false] at hx
          rcases hx with rfl | rfl | rfl | rfl | rfl
          · exact ⟨hdc, rfl, by simp only [depTr2]; omega⟩
          · exact one (us := cs.map cT ++ [cT c]) (fun t ht => (List.mem_append.mp ht).elim id fun h => List.mem_singleton.mp h ▸ mem1) (chsB_twice mem1 (List.mem_singleton_self _))
          · exact one (us := [cT c] ++ cs.map cT) (fun t ht => (List.mem_append.mp ht).elim (fun h => List.mem_singleton.mp h ▸ mem1) id) (chsB_twice (List.mem_singleton_self _) mem1)
          · exact one (fun t ht => (List.mem_append.mp ht).elim List.mem_of_mem_take List.mem_of_mem_drop) (chsB_twice mem2 mem3)
          · exact one (us := cs.map cT ++ [cT c0]) (fun t ht => (List.mem_append.mp ht).elim id fun h => List.mem_singleton.mp h ▸ mem4) (chsB_twice mem4 (List.mem_singleton_self _))
end K11

namespace K11
open PySem PySem.Spec PyProof.Rows L2 LL LT
local macro_rules | `(tactic| fail "s") => `(tactic| first | (with_reducible first | exact sim_var | exact sim_int | exact sim_bl | exact sim_str | exact sim_non | exact sim_ty | exact sim_ref | exact sim_nil | apply sim_cons | apply sim_op | apply simr_I0 | apply simr_I | exact simr_Eq | exact simr_Ne | exact simr_IxA | exact simr_addG | exact simr_isN | exact simr_notN | exact simr_isB | exact simr_in | exact simr_IxL | exact simr_IxT | exact simr_IxS | exact simr_EqD | exact simr_NeD | exact simr_rep | exact simr_repW | apply sim_un | apply sim_test | apply sim_tB | apply sim_and | apply sim_or | apply sim_not | apply sim_andV | apply sim_orV | apply sim_notV | apply sim_if | apply sim_chain | apply sim_tup | apply sim_lst | apply sim_bor0 | apply sim_bor | apply sim_borS | apply sim_call0 | apply sim_call | apply sim_callS | apply sim_callZ | apply sim_isXT | apply sim_isX | apply sim_xf | apply sim_sortS | apply sim_listRg | apply sim_CB | exact simc_len | exact simc_int | exact simc_isi | exact simc_mx | exact simc_mn | exact simc_sum | exact simc_maxL | exact simc_minL | exact simc_minS | exact simc_all | exact simc_any | exact simc_list | exact simc_tuple | exact simc_isiT | exact simc_strI | exact simc_sortI | exact simc_sortR | apply sim_sl | exact simsl_G | exact simsl_L | exact sim_oNone | apply sim_oSome | apply sim_append | exact sim_newD | apply sim_disp1 | apply sim_dget2 | apply sim_dget1 | apply sim_dget | apply sim_din | apply sim_dnotin | apply sim_lc | apply sim_dc | exact sim_yes | apply sim_iL | apply sim_iT | apply sim_iS | apply sim_iR1 | apply sim_iR2 | apply sim_iE | apply sim_iZ | apply sim_revT | exact gin_name (by decide) | apply gin_tup | exact gin_nil | apply gin_cons | exact mono_name | exact mono_nil | apply mono_cons | apply mono_tup | exact sim_next | apply sim_mk | apply sim_fgl | apply sim_fg | apply sim_seq | apply sim_ret | exact sim_retN | apply sim_drop | exact sim_break | exact sim_cont | apply sim_ifS | apply sim_asg | exact sim_gName | apply sim_gTup | exact sim_gNil | apply sim_gCons | apply sim_gSub | apply sim_for | apply sim_while | apply sim_dput | apply sim_raise | apply sim_tryT0 | apply sim_tryT) | exact fun _ _ => rfl | exact fun _ => rfl | exact fun _ _ _ _ => rfl | intro W | intro a cls d x)
local macro_rules | `(tactic| fail "l") => `(tactic| (simp only [List.length_append,List.length_take,List.length_drop,List.length_map,List.length_cons,List.length_nil,List.length_set,List.length_replicate,List.length_range]; omega))
local macro_rules | `(tactic| fail "r") => `(tactic| first | fail "d" | with_reducible refine fun (_ : _ ≤ 1000000) => ?_ | with_reducible refine Or.inl (fun (_ : _ ≤ 1000000) => ?_) | with_reducible refine lst_in ?_ | with_reducible refine dic_in ?_ | with_reducible refine tk_call (by first | decide | exact tk_big (by omega) (by omega)) fun v h0 h1 => ?_ | with_reducible refine bt_call (by first | decide | exact tk_big (by omega) (by omega)) fun v h0 h1 => ?_ | with_reducible refine ct_call (by first | decide | exact ⟨by omega, by omega, by omega⟩) fun v h0 h1 => ?_ | with_reducible refine LL.itei (fun h => ?_) fun h => ?_ | with_reducible refine pickP (by omega) (by simp only [List.length_cons, List.length_nil]; omega) ?_ | with_reducible refine List.forall_mem_cons.mpr (And.intro ?_ ?_) | with_reducible exact LT.nil_all | with_reducible refine And.intro (by first | (unfold CPow; decide) | omega | rfl) ?_ | with_reducible refine am_call rfl (List.cons_ne_nil _ _) ?_ | refine And.intro (show CMul _ _ from .inl ⟨by omega, by omega⟩) ?_)
local macro_rules | `(tactic| fail "d") => `(tactic| simp only [and_true,dSortI,dSortR,dLstRg,dRepW,dRetF,dForgets,asD_put,dSortS,dDPut,dCallZ,dBor,dBor0,diZ,dRevT,dStrI,dIsXT,dTry0,dTry,dXf,dIsX,dNewD,dDisp1,Prod.mk.injEq,wipeT,Int.toNat_natCast,asL_put,put_same,put_put,Cell.lst.injEq,atI_0,atI_1,atI_2,atI_3,atI_4,atI_5,atI_6,atI_7,atI_8,atI_9,Tr.ty.injEq,tyN_int,tyN_bool,tyN_str,tyN_list,tyN_tuple,tyN_dict,dVar,dC,dName,dOp,dI,dI0,dUn,dU,dEq,dNe,dTest,dAnd,dOr,dNot,dAndV,dOrV,dNotV,dIf,dChain,dNil,dCons,dTup,dLst,dCall,dCall0,dCB,dNext,dSeq,dRet,dRetN,dDrop,dBreak,dCont,dIfS,dgNil,dgCons,dTupG,dAsg,diL,diT,diS,diR1,diR2,diE,dYes,dIx,dLen,dInt,dMx,dSum,dAll,dIsi,dIsiT,doNone,doSome,dSl,dApp,dSub,dSet,dEqD,dGet,dGet1,dGet2,LT.dIn,dIsN,dIsB,dIn',dList,dTuple,dRaise,dMaxL,dMinL,dMinS,dRep,asL_lst,asS_lst,asS_tup,asT_tup,flatV',Tr.int.injEq,Tr.bl.injEq,Tr.str.injEq,Tr.lst.injEq,Tr.tup.injEq,Tr.obj.injEq,Option.isSome_some,List.map_cons,List.map_nil,List.length_cons,List.length_nil,List.replicate_succ,List.replicate_zero,List.cons_append,List.nil_append,List.append_nil,List.getElem?_cons_zero,List.getElem?_cons_succ,List.set_cons_zero,List.set_cons_succ,Nat.add_sub_cancel,Nat.reduceAdd,Nat.reduceSub,Option.some.injEq,List.cons.injEq,and_true,true_and,and_false,false_and,exists_eq_left,exists_eq_left',exists_and_left,exists_and_right,exists_eq,exists_eq',LL.if_dec,reduceCtorEq,exists_false,exists_const,or_false,false_or,if_true,if_false,and_assoc,Int.reduceEq,Int.reduceNe,Int.reduceNeg,Int.reduceLT,Int.reduceLE,Int.reduceMul,Int.reduceAdd,Int.reduceSub,Int.reducePow,Int.reduceToNat,Nat.reducePow,Nat.reduceLT,Nat.reduceLeDiff,true_or,or_true,Bool.not_true,Bool.not_false,Bool.false_eq_true,Bool.or_false,Bool.or_true,Bool.true_or,Bool.false_or,decide_true,decide_false,not_true_eq_false,not_false_eq_true,LL.scal_int,LL.scal_bl,LL.scal_str,V.int.injEq,V.bl.injEq,V.str.injEq,Nat.zero_le,forall_const,true_implies,kindT_non,isNonT_non,flatT_non,flatK_non,isBT_non_true,isBT_non_false,toV_non,ofV_non,keyT_non,isT_non_int,isT_non_bool,isT_non_str,isT_non_list,isT_non_tuple,isT_non_dict,kindT_bl,isNonT_bl,flatT_bl,flatK_bl,toV_bl,ofV_bl,keyT_bl,isT_bl_int,isT_bl_bool,isT_bl_str,isT_bl_list,isT_bl_tuple,isT_bl_dict,kindT_int,isNonT_int,flatT_int,flatK_int,isBT_int_true,isBT_int_false,toV_int,ofV_int,keyT_int,isT_int_int,isT_int_bool,isT_int_str,isT_int_list,isT_int_tuple,isT_int_dict,kindT_str,isNonT_str,flatT_str,flatK_str,isBT_str_true,isBT_str_false,toV_str,ofV_str,keyT_str,isT_str_int,isT_str_bool,isT_str_str,isT_str_list,isT_str_tuple,isT_str_dict,kindT_lst,isNonT_lst,flatT_lst,flatK_lst,isBT_lst_true,isBT_lst_false,lenT_lst,keyT_lst,isT_lst_int,isT_lst_bool,isT_lst_str,isT_lst_list,isT_lst_tuple,isT_lst_dict,kindT_tup,isNonT_tup,flatT_tup,flatK_tup,isBT_tup_true,isBT_tup_false,lenT_tup,keyT_tup,isT_tup_int,isT_tup_bool,isT_tup_str,isT_tup_list,isT_tup_tuple,isT_tup_dict,kindT_dic,isNonT_dic,flatT_dic,flatK_dic,isBT_dic_true,isBT_dic_false,lenT_dic,keyT_dic,isT_dic_int,isT_dic_bool,isT_dic_str,isT_dic_list,isT_dic_tuple,isT_dic_dict,kindT_obj,isNonT_obj,flatT_obj,flatK_obj,isBT_obj_true,isBT_obj_false,keyT_obj,kindT_drw,isNonT_drw,flatT_drw,flatK_drw,isBT_drw_true,isBT_drw_false,keyT_drw,kindT_ty,isNonT_ty,flatT_ty,flatK_ty,isBT_ty_true,isBT_ty_false,toV_ty,ofV_ty,keyT_ty,asD_dic,isBT_bl,dAddG_int,dAddG_str,dAddG_tup,dAddG_lst_lst,dAddG_lst_obj,dAddG_obj_lst,dAddG_obj_obj,dSlG_tup,dSlG_str,dSlG_lst,dSlG_obj])
local macro_rules | `(tactic| simp! only [$xs,*]) => `(tactic| try simp only [$xs,*,dSortI,dSortR,dLstRg,dRepW,dRetF,dForgets,asD_put,dSortS,dDPut,dCallZ,dBor,dBor0,diZ,dRevT,dStrI,dIsXT,dTry0,dTry,dXf,dIsX,dNewD,dDisp1,Prod.mk.injEq,wipeT,Int.toNat_natCast,asL_put,put_same,put_put,Cell.lst.injEq,atI_0,atI_1,atI_2,atI_3,atI_4,atI_5,atI_6,atI_7,atI_8,atI_9,Tr.ty.injEq,tyN_int,tyN_bool,tyN_str,tyN_list,tyN_tuple,tyN_dict,dVar,dC,dName,dOp,dI,dI0,dUn,dU,dEq,dNe,dTest,dAnd,dOr,dNot,dAndV,dOrV,dNotV,dIf,dChain,dNil,dCons,dTup,dLst,dCall,dCall0,dCB,dNext,dSeq,dRet,dRetN,dDrop,dBreak,dCont,dIfS,dgNil,dgCons,dTupG,dAsg,diL,diT,diS,diR1,diR2,diE,dYes,dIx,dLen,dInt,dMx,dSum,dAll,dIsi,dIsiT,doNone,doSome,dSl,dApp,dSub,dSet,dEqD,dGet,dGet1,dGet2,LT.dIn,dIsN,dIsB,dIn',dList,dTuple,dRaise,dMaxL,dMinL,dMinS,dRep,asL_lst,asS_lst,asS_tup,asT_tup,flatV',Tr.int.injEq,Tr.bl.injEq,Tr.str.injEq,Tr.lst.injEq,Tr.tup.injEq,Tr.obj.injEq,Option.isSome_some,List.map_cons,List.map_nil,List.length_cons,List.length_nil,List.replicate_succ,List.replicate_zero,List.cons_append,List.nil_append,List.append_nil,List.getElem?_cons_zero,List.getElem?_cons_succ,List.set_cons_zero,List.set_cons_succ,Nat.add_sub_cancel,Nat.reduceAdd,Nat.reduceSub,Option.some.injEq,List.cons.injEq,and_true,true_and,and_false,false_and,exists_eq_left,exists_eq_left',exists_and_left,exists_and_right,exists_eq,exists_eq',LL.if_dec,reduceCtorEq,exists_false,exists_const,or_false,false_or,if_true,if_false,and_assoc,Int.reduceEq,Int.reduceNe,Int.reduceNeg,Int.reduceLT,Int.reduceLE,Int.reduceMul,Int.reduceAdd,Int.reduceSub,Int.reducePow,Int.reduceToNat,Nat.reducePow,Nat.reduceLT,Nat.reduceLeDiff,true_or,or_true,Bool.not_true,Bool.not_false,Bool.false_eq_true,Bool.or_false,Bool.or_true,Bool.true_or,Bool.false_or,decide_true,decide_false,not_true_eq_false,not_false_eq_true,LL.scal_int,LL.scal_bl,LL.scal_str,V.int.injEq,V.bl.injEq,V.str.injEq,Nat.zero_le,forall_const,true_implies,kindT_non,isNonT_non,flatT_non,flatK_non,isBT_non_true,isBT_non_false,toV_non,ofV_non,keyT_non,isT_non_int,isT_non_bool,isT_non_str,isT_non_list,isT_non_tuple,isT_non_dict,kindT_bl,isNonT_bl,flatT_bl,flatK_bl,toV_bl,ofV_bl,keyT_bl,isT_bl_int,isT_bl_bool,isT_bl_str,isT_bl_list,isT_bl_tuple,isT_bl_dict,kindT_int,isNonT_int,flatT_int,flatK_int,isBT_int_true,isBT_int_false,toV_int,ofV_int,keyT_int,isT_int_int,isT_int_bool,isT_int_str,isT_int_list,isT_int_tuple,isT_int_dict,kindT_str,isNonT_str,flatT_str,flatK_str,isBT_str_true,isBT_str_false,toV_str,ofV_str,keyT_str,isT_str_int,isT_str_bool,isT_str_str,isT_str_list,isT_str_tuple,isT_str_dict,kindT_lst,isNonT_lst,flatT_lst,flatK_lst,isBT_lst_true,isBT_lst_false,lenT_lst,keyT_lst,isT_lst_int,isT_lst_bool,isT_lst_str,isT_lst_list,isT_lst_tuple,isT_lst_dict,kindT_tup,isNonT_tup,flatT_tup,flatK_tup,isBT_tup_true,isBT_tup_false,lenT_tup,keyT_tup,isT_tup_int,isT_tup_bool,isT_tup_str,isT_tup_list,isT_tup_tuple,isT_tup_dict,kindT_dic,isNonT_dic,flatT_dic,flatK_dic,isBT_dic_true,isBT_dic_false,lenT_dic,keyT_dic,isT_dic_int,isT_dic_bool,isT_dic_str,isT_dic_list,isT_dic_tuple,isT_dic_dict,kindT_obj,isNonT_obj,flatT_obj,flatK_obj,isBT_obj_true,isBT_obj_false,keyT_obj,kindT_drw,isNonT_drw,flatT_drw,flatK_drw,isBT_drw_true,isBT_drw_false,keyT_drw,kindT_ty,isNonT_ty,flatT_ty,flatK_ty,isBT_ty_true,isBT_ty_false,toV_ty,ofV_ty,keyT_ty,asD_dic,isBT_bl,dAddG_int,dAddG_str,dAddG_tup,dAddG_lst_lst,dAddG_lst_obj,dAddG_obj_lst,dAddG_obj_obj,dSlG_tup,dSlG_str,dSlG_lst,dSlG_obj])
variable {P : Program} {w : World} {K : PySem.W.Frag} {mg : Str → Option Value} {base : Heap}

/-! ### rows by their places -/
def Asc (cs : List Ch) : Prop := cs.Pairwise fun a b => a.p < b.p
def getP (cs : List Ch) (p : Int) : Option Ch := cs.find? fun c => decide (c.p = p)
theorem getP_cons {c : Ch} {cs : List Ch} {p : Int} : getP (c :: cs) p = if c.p = p then some c else getP cs p := by
  unfold getP
  rw [List.find?_cons]
  by_cases h : c.p = p <;> simp [h]
theorem getP_mem {cs : List Ch} {p : Int} {c : Ch} (h : getP cs p = some c) : c ∈ cs ∧ c.p = p := ⟨List.mem_of_find?_eq_some h, of_decide_eq_true (List.find?_some (p := fun c : Ch => decide (c.p = p)) h)⟩
theorem getP_none {cs : List Ch} {p : Int} (h : getP cs p = none) : ∀ c ∈ cs, c.p ≠ p := fun c hc e => by
  have := List.find?_eq_none.mp h c hc
  simp [e] at this
theorem getP_no {cs : List Ch} {p : Int} (h : ∀ c ∈ cs, c.p ≠ p) : getP cs p = none := List.find?_eq_none.mpr fun c hc => by simp [h c hc]
/-- no place twice -/
def Nod (cs : List Ch) : Prop := (cs.map (·.p)).Nodup
theorem Asc.nod : ∀ {cs : List Ch}, Asc cs → Nod cs
  | [], _ => List.nodup_nil
  | c :: cs, h => by
    obtain ⟨h1, h2⟩ := List.pairwise_cons.mp h
    refine List.nodup_cons.mpr ⟨fun hm => ?_, Asc.nod h2⟩
    obtain ⟨d, hd, e⟩ := List.mem_map.mp hm
    have := h1 d hd
    have e' : d.p = c.p := e
    omega
theorem Nod.get : ∀ {cs : List Ch}, Nod cs → ∀ {c : Ch}, c ∈ cs → getP cs c.p = some c
  | d :: cs, h, c, hc => by
    obtain ⟨h1, h2⟩ := List.nodup_cons.mp (show (d.p :: cs.map (·.p)).Nodup from h)
    rw [getP_cons]
    rcases List.mem_cons.mp hc with rfl | hc
    · rw [if_pos rfl]
    · rw [if_neg (fun e => h1 (by rw [e]; exact List.mem_map.mpr ⟨c, hc, rfl⟩))]
      exact Nod.get h2 hc
theorem asc_ext : ∀ {cs ds : List Ch}, Asc cs → Asc ds → (∀ p, getP cs p = getP ds p) → cs = ds
  | [], [], _, _, _ => rfl
  | [], d :: ds, _, _, h => by
    have := h d.p
    rw [getP_cons, if_pos rfl] at this
    cases this
  | c :: cs, [], _, _, h => by
    have := h c.p
    rw [getP_cons, if_pos rfl] at this
    cases this
  | c :: cs, d :: ds, h1, h2, h => by
    obtain ⟨c1, c2⟩ := List.pairwise_cons.mp h1
    obtain ⟨d1, d2⟩ := List.pairwise_cons.mp h2
    have hc := h c.p
    have hd := h d.p
    rw [getP_cons, if_pos rfl] at hc
    rw [getP_cons (c := d), if_pos rfl] at hd
    have e : c = d := by
      have m1 := (getP_mem hc.symm).1
      have m2 := (getP_mem hd).1
      rcases List.mem_cons.mp m1 with e | m1
      · exact e
      · rcases List.mem_cons.mp m2 with e | m2
        · exact e.symm
        · have := d1 c m1
          have := c1 d m2
          omega
    subst e
    rw [asc_ext c2 d2 fun p => ?_]
    have := h p
    rw [getP_cons, getP_cons] at this
    by_cases hp : c.p = p
    · rw [getP_no (fun x hx => by have := c1 x hx; omega), getP_no (fun x hx => by have := d1 x hx; omega)]
    · rw [if_neg hp, if_neg hp] at this
      exact this
def joinC : Option Ch → Option Ch → Option Ch
  | some a, some b => if a.w = b.w' ∧ a.h = b.h' then none else some ⟨a.p, a.w, a.h, b.w', b.h'⟩
  | some a, none => some a
  | none, b => b
theorem joinC_ss {a b : Ch} : joinC (some a) (some b) = if a.w = b.w' ∧ a.h = b.h' then none else some ⟨a.p, a.w, a.h, b.w', b.h'⟩ := rfl
theorem joinC_sn {a : Ch} : joinC (some a) none = some a := rfl
theorem joinC_n {b : Option Ch} : joinC none b = b := by cases b <;> rfl
/-- what is joined, ahead of what is left out -/
def joinV : Option Ch → Option Ch → Option Ch
  | some a, some b => some ⟨a.p, a.w, a.h, b.w', b.h'⟩
  | some a, none => some a
  | none, b => b
def realC (c : Ch) : Bool := !(decide (c.w = c.w') && decide (c.h = c.h'))
theorem real_iff {c : Ch} : realC c = true ↔ ¬ (c.w = c.w' ∧ c.h = c.h') := by
  unfold realC
  by_cases h1 : c.w = c.w' <;> by_cases h2 : c.h = c.h' <;> simp [h1, h2]
def IsJ (cs ds rs : List Ch) : Prop := Asc rs ∧ ∀ p, getP rs p = joinC (getP cs p) (getP ds p)
theorem IsJ.eq {cs ds rs rs' : List Ch} (h : IsJ cs ds rs) (h' : IsJ cs ds rs') : rs = rs' := asc_ext h.1 h'.1 fun p => by rw [h.2, h'.2]
structure OKC (cs : List Ch) : Prop where
  ok : ∀ c ∈ cs, chB (cT c) = true
  asc : Asc cs
theorem chB_un {c : Ch} (h : chB (cT c) = true) : 0 ≤ c.p ∧ c.p < 16384 ∧ wordB c.w = true ∧ holdB c.h = true ∧ wordB c.w' = true ∧ holdB c.h' = true ∧ ¬ (c.w = c.w' ∧ c.h = c.h') := by
  obtain ⟨d, e, r⟩ := chB_form h
  have : c = d := (List.cons.inj (cT_inj (cs := [c]) (ds := [d]) (by rw [List.map_cons, List.map_cons, e]))).1
  rw [this]
  exact r
theorem chsB_asc : ∀ {l : Int} {cs : List Ch}, chsB l (cs.map cT) = true ↔ (∀ c ∈ cs, chB (cT c) = true ∧ l < c.p) ∧ Asc cs
  | l, [] => ⟨fun _ => ⟨fun _ h => (by cases h), List.Pairwise.nil⟩, fun _ => rfl⟩
  | l, c :: cs => by
    rw [show chsB l ((c :: cs).map cT) = (chB (cT c) && (decide (l < c.p) && chsB c.p (cs.map cT))) from rfl, Bool.and_eq_true, Bool.and_eq_true, decide_eq_true_eq, chsB_asc]
    constructor
    · rintro ⟨h1, h2, h3, h4⟩
      refine ⟨fun d hd => ?_, .cons (fun d hd => (h3 d hd).2) h4⟩
      rcases List.mem_cons.mp hd with rfl | hd
      · exact ⟨h1, h2⟩
      · exact ⟨(h3 d hd).1, Int.lt_trans h2 (h3 d hd).2⟩
    · rintro ⟨h1, h2⟩
      obtain ⟨a1, a2⟩ := List.pairwise_cons.mp h2
      exact ⟨(h1 c List.mem_cons_self).1, (h1 c List.mem_cons_self).2, fun d hd => ⟨(h1 d (List.mem_cons_of_mem _ hd)).1, a1 d hd⟩, a2⟩
theorem okc_iff {cs : List Ch} : chsT (.lst (cs.map cT)) = true ↔ OKC cs := by
  rw [show chsT (.lst (cs.map cT)) = chsB (-1) (cs.map cT) from rfl, chsB_asc]
  exact ⟨fun h => ⟨fun c hc => (h.1 c hc).1, h.2⟩, fun h => ⟨fun c hc => ⟨h.ok c hc, by have := (chB_un (h.ok c hc)).1; omega⟩, h.asc⟩⟩
/-- the second rows go on where the first have ended -/
def Fits (cs ds : List Ch) : Prop := ∀ p a b, getP cs p = some a → getP ds p = some b → a.w' = b.w ∧ a.h' = b.h
theorem IsJ.ok {cs ds rs : List Ch} (h : IsJ cs ds rs) (h1 : OKC cs) (h2 : OKC ds) : OKC rs := by
  refine ⟨fun c hc => ?_, h.1⟩
  have e := h.2 c.p
  rw [h.1.nod.get hc] at e
  cases e1 : getP cs c.p with
  | none =>
    rw [e1] at e
    have e3 : some c = getP ds c.p := e
    exact h2.ok c (getP_mem e3.symm).1
  | some a =>
    obtain ⟨m1, p1⟩ := getP_mem e1
    have u1 := chB_un (h1.ok a m1)
    cases e2 : getP ds c.p with
    | none =>
      rw [e1, e2] at e
      have e3 : some c = some a := e
      cases e3
      exact h1.ok c m1
    | some b =>
      obtain ⟨m2, p2⟩ := getP_mem e2
      have u2 := chB_un (h2.ok b m2)
      rw [e1, e2] at e
      have e3 : some c = if a.w = b.w' ∧ a.h = b.h' then none else some (Ch.mk a.p a.w a.h b.w' b.h') := e
      by_cases hn : a.w = b.w' ∧ a.h = b.h'
      · rw [if_pos hn] at e3; cases e3
      · rw [if_neg hn] at e3
        rw [Option.some.inj e3]
        exact chB_cT (c := ⟨a.p, a.w, a.h, b.w', b.h'⟩) u1.1 u1.2.1 u1.2.2.1 u1.2.2.2.1 u2.2.2.2.2.1 u2.2.2.2.2.2.1 hn
theorem isj_nil {cs : List Ch} (h : Asc cs) : IsJ cs [] cs := ⟨h, fun p => by
  show _ = joinC (getP cs p) none
  cases getP cs p <;> rfl⟩
theorem isj_nil' {cs : List Ch} (h : Asc cs) : IsJ [] cs cs := ⟨h, fun p => rfl⟩
theorem get_inv {cs : List Ch} {p : Int} : getP (cs.map invC) p = (getP cs p).map invC := by
  unfold getP
  rw [List.find?_map]
  rfl
theorem asc_inv {cs : List Ch} (h : Asc cs) : Asc (cs.map invC) := List.pairwise_map.mpr (h.imp fun h => h)
theorem okc_inv {cs : List Ch} (h : OKC cs) : OKC (cs.map invC) := ⟨fun c hc => by
  obtain ⟨d, hd, rfl⟩ := List.mem_map.mp hc
  have u := chB_un (h.ok d hd)
  exact chB_cT u.1 u.2.1 u.2.2.2.2.1 u.2.2.2.2.2.1 u.2.2.1 u.2.2.2.1 (fun z => u.2.2.2.2.2.2 ⟨z.1.symm, z.2.symm⟩), asc_inv h.asc⟩
theorem isj_inv {cs : List Ch} : IsJ cs (cs.map invC) [] := ⟨.nil, fun p => by
  rw [get_inv]
  cases getP cs p with
  | none => rfl
  | some a => show none = joinC (some a) (some (invC a)); rw [joinC_ss, if_pos ⟨rfl, rfl⟩]⟩
theorem isj_inv' {cs : List Ch} : IsJ (cs.map invC) cs [] := ⟨.nil, fun p => by
  rw [get_inv]
  cases getP cs p with
  | none => rfl
  | some a => show none = joinC (some (invC a)) (some a); rw [joinC_ss, if_pos ⟨rfl, rfl⟩]⟩
theorem fits_inv {cs : List Ch} : Fits cs (cs.map invC) := fun p a b h1 h2 => by
  rw [get_inv, h1] at h2
  cases h2
  exact ⟨rfl, rfl⟩
theorem fits_inv' {cs : List Ch} : Fits (cs.map invC) cs := fun p a b h1 h2 => by
  rw [get_inv, h2] at h1
  cases h1
  exact ⟨rfl, rfl⟩
theorem fits_nil {cs : List Ch} : Fits cs [] := fun p a b _ h => nomatch h
theorem fits_nil' {cs : List Ch} : Fits [] cs := fun p a b h => nomatch h
/-- three rows in either order -/
theorem join_assoc {x y z : Option Ch} (hx : ∀ a b, x = some a → y = some b → a.p = b.p ∧ a.w' = b.w ∧ a.h' = b.h) (hy : ∀ a b, y = some a → z = some b → a.p = b.p ∧ a.w' = b.w ∧ a.h' = b.h) (hz : ∀ b, z = some b → ¬ (b.w = b.w' ∧ b.h = b.h')) (hs : ¬ (x.isSome = true ∧ y = none ∧ z.isSome = true)) (hr : ∀ a, x = some a → ¬ (a.w = a.w' ∧ a.h = a.h')) : joinC (joinC x y) z = joinC x (joinC y z) := by
  cases x with
  | none => rfl
  | some a =>
    cases y with
    | none =>
      cases z with
      | none => rfl
      | some c => exact absurd ⟨rfl, rfl, rfl⟩ hs
    | some b =>
      obtain ⟨e1, e2, e3⟩ := hx a b rfl rfl
      cases z with
      | none =>
        show joinC (joinC (some a) (some b)) none = joinC (some a) (some b)
        cases joinC (some a) (some b) <;> rfl
      | some c =>
        obtain ⟨f1, f2, f3⟩ := hy b c rfl rfl
        have hn := hz c rfl
        have hr' := hr a rfl
        obtain ⟨ap, aw, ah, aw', ah'⟩ := a
        obtain ⟨bp, bw, bh, bw', bh'⟩ := b
        obtain ⟨cp, cw, ch, cw', ch'⟩ := c
        simp only at e1 e2 e3 f1 f2 f3 hn hr'
        subst e1 e2 e3 f1 f2 f3
        rw [joinC_ss, joinC_ss]
        simp only
        by_cases h1 : aw = bw' ∧ ah = bh'
        · obtain ⟨rfl, rfl⟩ := h1
          rw [if_pos ⟨rfl, rfl⟩, joinC_n]
          by_cases h2 : aw' = cw' ∧ ah' = ch'
          · obtain ⟨rfl, rfl⟩ := h2
            rw [if_pos ⟨rfl, rfl⟩, joinC_sn]
          · rw [if_neg h2, joinC_ss]
            simp only
            rw [if_neg hn]
        · rw [if_neg h1, joinC_ss]
          simp only
          by_cases h2 : aw' = cw' ∧ ah' = ch'
          · obtain ⟨rfl, rfl⟩ := h2
            rw [if_neg hr', if_pos ⟨rfl, rfl⟩, joinC_sn]
          · rw [if_neg h2, joinC_ss]
theorem get_diffL : ∀ {ws hs ws' hs' : List Int} {q p : Int}, ws.length = hs.length → hs'.length = ws.length → ws'.length = ws.length → getP (diffL q ws hs ws' hs') p = if q ≤ p ∧ p < q + ws.length then (if ws[(p - q).toNat]? = ws'[(p - q).toNat]? ∧ hs[(p - q).toNat]? = hs'[(p - q).toNat]? then none else some ⟨p, (ws[(p - q).toNat]?).getD 0, (hs[(p - q).toNat]?).getD 0, (ws'[(p - q).toNat]?).getD 0, (hs'[(p - q).toNat]?).getD 0⟩) else none
  | [], hs, ws', hs', q, p, _, _, _ => by
    rw [show diffL q [] hs ws' hs' = [] from by cases hs <;> cases ws' <;> cases hs' <;> simp [diffL], if_neg (by simp only [List.length_nil]; omega)]
    rfl
  | w :: ws, h :: hs, w' :: ws', h' :: hs', q, p, e1, e2, e3 => by
    simp only [List.length_cons] at e1 e2 e3
    have ih := get_diffL (ws := ws) (hs := hs) (ws' := ws') (hs' := hs') (q := q + 1) (p := p) (by omega) (by omega) (by omega)
    have rest : q ≠ p → getP (diffL q (w :: ws) (h :: hs) (w' :: ws') (h' :: hs')) p = getP (diffL (q + 1) ws hs ws' hs') p := fun hq => by
      conv => lhs; unfold diffL
      by_cases e : w = w' ∧ h = h'
      · rw [if_pos e]
      · rw [if_neg e, getP_cons, if_neg hq]
    by_cases hq : q = p
    · subst hq
      rw [if_pos (by simp only [List.length_cons]; omega), show (q - q).toNat = 0 by omega]
      simp only [List.getElem?_cons_zero, Option.some.injEq, Option.getD_some]
      conv => lhs; unfold diffL
      by_cases e : w = w' ∧ h = h'
      · rw [if_pos e, if_pos e, ih, if_neg (by omega)]
      · rw [if_neg e, if_neg e, getP_cons, if_pos rfl]
    · rw [rest hq, ih]
      by_cases hp : q + 1 ≤ p ∧ p < q + 1 + ws.length
      · obtain ⟨k, hk⟩ : ∃ k, (p - q).toNat = k + 1 := ⟨(p - q).toNat - 1, by omega⟩
        rw [if_pos hp, if_pos (show q ≤ p ∧ p < q + ((w :: ws).length : Int) by simp only [List.length_cons]; omega), hk, show (p - (q + 1)).toNat = k by omega]
        simp only [List.getElem?_cons_succ]
      · rw [if_neg hp, if_neg (by simp only [List.length_cons]; omega)]
theorem get_diff {ws hs ws' hs' : List Int} (e1 : ws.length = hs.length) (e2 : hs'.length = ws.length) (e3 : ws'.length = ws.length) (p : Int) : getP (diffL 0 ws hs ws' hs') p = if 0 ≤ p ∧ p < ws.length then (if ws[p.toNat]? = ws'[p.toNat]? ∧ hs[p.toNat]? = hs'[p.toNat]? then none else some ⟨p, (ws[p.toNat]?).getD 0, (hs[p.toNat]?).getD 0, (ws'[p.toNat]?).getD 0, (hs'[p.toNat]?).getD 0⟩) else none := by
  have := get_diffL (q := 0) (p := p) e1 e2 e3
  rw [Int.zero_add, show p - 0 = p by omega] at this
  exact this
theorem join_diff {I J L : Img} (gi : GI I) (gj : GI J) (gl : GI L) (h1 : like I J = true) (h2 : like J L = true) : IsJ (diff I J) (diff J L) (diff I L) ∧ Fits (diff I J) (diff J L) := by
  obtain ⟨_, _, n1⟩ := like_iff.mp h1
  obtain ⟨_, _, n2⟩ := like_iff.mp h2
  have g : ∀ {I J : Img}, GI I → GI J → J.ws.length = I.ws.length → ∀ p : Int, getP (diff I J) p = if 0 ≤ p ∧ p < I.ws.length then (if I.ws[p.toNat]? = J.ws[p.toNat]? ∧ I.hs[p.toNat]? = J.hs[p.toNat]? then none else some ⟨p, (I.ws[p.toNat]?).getD 0, (I.hs[p.toNat]?).getD 0, (J.ws[p.toNat]?).getD 0, (J.hs[p.toNat]?).getD 0⟩) else none := fun gi gj n p => get_diff gi.len (by rw [← gj.len, n]) n p
  have li := gi.len
  have lj := gj.len
  have ll := gl.len
  refine ⟨⟨(okc_iff.mp (diff_chs gi gl)).asc, fun p => ?_⟩, fun p a b ha hb => ?_⟩
  · rw [g gi gj n1, g gj gl n2, g gi gl (by omega), n1]
    by_cases hp : 0 ≤ p ∧ p < I.ws.length
    · rw [if_pos hp, if_pos hp, if_pos hp]
      have hk : p.toNat < I.ws.length := by omega
      rw [List.getElem?_eq_getElem hk, List.getElem?_eq_getElem (show p.toNat < I.hs.length by omega), List.getElem?_eq_getElem (show p.toNat < J.ws.length by omega), List.getElem?_eq_getElem (show p.toNat < J.hs.length by omega), List.getElem?_eq_getElem (show p.toNat < L.ws.length by omega), List.getElem?_eq_getElem (show p.toNat < L.hs.length by omega)]
      generalize I.ws[p.toNat] = a
      generalize I.hs[p.toNat] = b
      generalize J.ws[p.toNat] = c
      generalize J.hs[p.toNat] = d
      generalize L.ws[p.toNat] = e
      generalize L.hs[p.toNat] = f
      simp only [Option.some.injEq, Option.getD_some]
      by_cases h1 : a = c ∧ b = d
      · obtain ⟨rfl, rfl⟩ := h1
        simp only [and_self, if_true]
        rfl
      · rw [if_neg h1]
        by_cases h2 : c = e ∧ d = f
        · obtain ⟨rfl, rfl⟩ := h2
          simp only [and_self, if_true]
          rw [if_neg h1]
          rfl
        · rw [if_neg h2]
          rfl
    · rw [if_neg hp, if_neg hp, if_neg hp]
      rfl
  · rw [g gi gj n1] at ha
    rw [g gj gl n2] at hb
    split at ha
    · split at ha
      · cases ha
      · cases ha
        split at hb
        · split at hb
          · cases hb
          · cases hb
            exact ⟨rfl, rfl⟩
        · cases hb
    · cases ha
end K11

namespace K11
open PySem PySem.Spec PyProof.Rows L2 LL LT
local macro_rules | `(tactic| fail "s") => `(tactic| first | (with_reducible first | exact sim_var | exact sim_int | exact sim_bl | exact sim_str | exact sim_non | exact sim_ty | exact sim_ref | exact sim_nil | apply sim_cons | apply sim_op | apply simr_I0 | apply simr_I | exact simr_Eq | exact simr_Ne | exact simr_IxA | exact simr_addG | exact simr_isN | exact simr_notN | exact simr_isB | exact simr_in | exact simr_IxL | exact simr_IxT | exact simr_IxS | exact simr_EqD | exact simr_NeD | exact simr_rep | exact simr_repW | apply sim_un | apply sim_test | apply sim_tB | apply sim_and | apply sim_or | apply sim_not | apply sim_andV | apply sim_orV | apply sim_notV | apply sim_if | apply sim_chain | apply sim_tup | apply sim_lst | apply sim_bor0 | apply sim_bor | apply sim_borS | apply sim_call0 | apply sim_call | apply sim_callS | apply sim_callZ | apply sim_isXT | apply sim_isX | apply sim_xf | apply sim_sortS | apply sim_listRg | apply sim_CB | exact simc_len | exact simc_int | exact simc_isi | exact simc_mx | exact simc_mn | exact simc_sum | exact simc_maxL | exact simc_minL | exact simc_minS | exact simc_all | exact simc_any | exact simc_list | exact simc_tuple | exact simc_isiT | exact simc_strI | exact simc_sortI | exact simc_sortR | apply sim_sl | exact simsl_G | exact simsl_L | exact sim_oNone | apply sim_oSome | apply sim_append | exact sim_newD | apply sim_disp1 | apply sim_dget2 | apply sim_dget1 | apply sim_dget | apply sim_din | apply sim_dnotin | apply sim_lc | apply sim_dc | exact sim_yes | apply sim_iL | apply sim_iT | apply sim_iS | apply sim_iR1 | apply sim_iR2 | apply sim_iE | apply sim_iZ | apply sim_revT | exact gin_name (by decide) | apply gin_tup | exact gin_nil | apply gin_cons | exact mono_name | exact mono_nil | apply mono_cons | apply mono_tup | exact sim_next | apply sim_mk | apply sim_fgl | apply sim_fg | apply sim_seq | apply sim_ret | exact sim_retN | apply sim_drop | exact sim_break | exact sim_cont | apply sim_ifS | apply sim_asg | exact sim_gName | apply sim_gTup | exact sim_gNil | apply sim_gCons | apply sim_gSub | apply sim_for | apply sim_while | apply sim_dput | apply sim_raise | apply sim_tryT0 | apply sim_tryT) | exact fun _ _ => rfl | exact fun _ => rfl | exact fun _ _ _ _ => rfl | intro W | intro a cls d x)
local macro_rules | `(tactic| fail "l") => `(tactic| (simp only [List.length_append,List.length_take,List.length_drop,List.length_map,List.length_cons,List.length_nil,List.length_set,List.length_replicate,List.length_range]; omega))
local macro_rules | `(tactic| fail "r") => `(tactic| first | fail "d" | with_reducible refine fun (_ : _ ≤ 1000000) => ?_ | with_reducible refine Or.inl (fun (_ : _ ≤ 1000000) => ?_) | with_reducible refine lst_in ?_ | with_reducible refine dic_in ?_ | with_reducible refine tk_call (by first | decide | exact tk_big (by omega) (by omega)) fun v h0 h1 => ?_ | with_reducible refine bt_call (by first | decide | exact tk_big (by omega) (by omega)) fun v h0 h1 => ?_ | with_reducible refine ct_call (by first | decide | exact ⟨by omega, by omega, by omega⟩) fun v h0 h1 => ?_ | with_reducible refine LL.itei (fun h => ?_) fun h => ?_ | with_reducible refine pickP (by omega) (by simp only [List.length_cons, List.length_nil]; omega) ?_ | with_reducible refine List.forall_mem_cons.mpr (And.intro ?_ ?_) | with_reducible exact LT.nil_all | with_reducible refine And.intro (by first | (unfold CPow; decide) | omega | rfl) ?_ | with_reducible refine am_call rfl (List.cons_ne_nil _ _) ?_ | refine And.intro (show CMul _ _ from .inl ⟨by omega, by omega⟩) ?_)
local macro_rules | `(tactic| fail "d") => `(tactic| simp only [and_true,dSortI,dSortR,dLstRg,dRepW,dRetF,dForgets,asD_put,dSortS,dDPut,dCallZ,dBor,dBor0,diZ,dRevT,dStrI,dIsXT,dTry0,dTry,dXf,dIsX,dNewD,dDisp1,Prod.mk.injEq,wipeT,Int.toNat_natCast,asL_put,put_same,put_put,Cell.lst.injEq,atI_0,atI_1,atI_2,atI_3,atI_4,atI_5,atI_6,atI_7,atI_8,atI_9,Tr.ty.injEq,tyN_int,tyN_bool,tyN_str,tyN_list,tyN_tuple,tyN_dict,dVar,dC,dName,dOp,dI,dI0,dUn,dU,dEq,dNe,dTest,dAnd,dOr,dNot,dAndV,dOrV,dNotV,dIf,dChain,dNil,dCons,dTup,dLst,dCall,dCall0,dCB,dNext,dSeq,dRet,dRetN,dDrop,dBreak,dCont,dIfS,dgNil,dgCons,dTupG,dAsg,diL,diT,diS,diR1,diR2,diE,dYes,dIx,dLen,dInt,dMx,dSum,dAll,dIsi,dIsiT,doNone,doSome,dSl,dApp,dSub,dSet,dEqD,dGet,dGet1,dGet2,LT.dIn,dIsN,dIsB,dIn',dList,dTuple,dRaise,dMaxL,dMinL,dMinS,dRep,asL_lst,asS_lst,asS_tup,asT_tup,flatV',Tr.int.injEq,Tr.bl.injEq,Tr.str.injEq,Tr.lst.injEq,Tr.tup.injEq,Tr.obj.injEq,Option.isSome_some,List.map_cons,List.map_nil,List.length_cons,List.length_nil,List.replicate_succ,List.replicate_zero,List.cons_append,List.nil_append,List.append_nil,List.getElem?_cons_zero,List.getElem?_cons_succ,List.set_cons_zero,List.set_cons_succ,Nat.add_sub_cancel,Nat.reduceAdd,Nat.reduceSub,Option.some.injEq,List.cons.injEq,and_true,true_and,and_false,false_and,exists_eq_left,exists_eq_left',exists_and_left,exists_and_right,exists_eq,exists_eq',LL.if_dec,reduceCtorEq,exists_false,exists_const,or_false,false_or,if_true,if_false,and_assoc,Int.reduceEq,Int.reduceNe,Int.reduceNeg,Int.reduceLT,Int.reduceLE,Int.reduceMul,Int.reduceAdd,Int.reduceSub,Int.reducePow,Int.reduceToNat,Nat.reducePow,Nat.reduceLT,Nat.reduceLeDiff,true_or,or_true,Bool.not_true,Bool.not_false,Bool.false_eq_true,Bool.or_false,Bool.or_true,Bool.true_or,Bool.false_or,decide_true,decide_false,not_true_eq_false,not_false_eq_true,LL.scal_int,LL.scal_bl,LL.scal_str,V.int.injEq,V.bl.injEq,V.str.injEq,Nat.zero_le,forall_const,true_implies,kindT_non,isNonT_non,flatT_non,flatK_non,isBT_non_true,isBT_non_false,toV_non,ofV_non,keyT_non,isT_non_int,isT_non_bool,isT_non_str,isT_non_list,isT_non_tuple,isT_non_dict,kindT_bl,isNonT_bl,flatT_bl,flatK_bl,toV_bl,ofV_bl,keyT_bl,isT_bl_int,isT_bl_bool,isT_bl_str,isT_bl_list,isT_bl_tuple,isT_bl_dict,kindT_int,isNonT_int,flatT_int,flatK_int,isBT_int_true,isBT_int_false,toV_int,ofV_int,keyT_int,isT_int_int,isT_int_bool,isT_int_str,isT_int_list,isT_int_tuple,isT_int_dict,kindT_str,isNonT_str,flatT_str,flatK_str,isBT_str_true,isBT_str_false,toV_str,ofV_str,keyT_str,isT_str_int,isT_str_bool,isT_str_str,isT_str_list,isT_str_tuple,isT_str_dict,kindT_lst,isNonT_lst,flatT_lst,flatK_lst,isBT_lst_true,isBT_lst_false,lenT_lst,keyT_lst,isT_lst_int,isT_lst_bool,isT_lst_str,isT_lst_list,isT_lst_tuple,isT_lst_dict,kindT_tup,isNonT_tup,flatT_tup,flatK_tup,isBT_tup_true,isBT_tup_false,lenT_tup,keyT_tup,isT_tup_int,isT_tup_bool,isT_tup_str,isT_tup_list,isT_tup_tuple,isT_tup_dict,kindT_dic,isNonT_dic,flatT_dic,flatK_dic,isBT_dic_true,isBT_dic_false,lenT_dic,keyT_dic,isT_dic_int,isT_dic_bool,isT_dic_str,isT_dic_list,isT_dic_tuple,isT_dic_dict,kindT_obj,isNonT_obj,flatT_obj,flatK_obj,isBT_obj_true,isBT_obj_false,keyT_obj,kindT_drw,isNonT_drw,flatT_drw,flatK_drw,isBT_drw_true,isBT_drw_false,keyT_drw,kindT_ty,isNonT_ty,flatT_ty,flatK_ty,isBT_ty_true,isBT_ty_false,toV_ty,ofV_ty,keyT_ty,asD_dic,isBT_bl,dAddG_int,dAddG_str,dAddG_tup,dAddG_lst_lst,dAddG_lst_obj,dAddG_obj_lst,dAddG_obj_obj,dSlG_tup,dSlG_str,dSlG_lst,dSlG_obj])
local macro_rules | `(tactic| simp! only [$xs,*]) => `(tactic| try simp only [$xs,*,dSortI,dSortR,dLstRg,dRepW,dRetF,dForgets,asD_put,dSortS,dDPut,dCallZ,dBor,dBor0,diZ,dRevT,dStrI,dIsXT,dTry0,dTry,dXf,dIsX,dNewD,dDisp1,Prod.mk.injEq,wipeT,Int.toNat_natCast,asL_put,put_same,put_put,Cell.lst.injEq,atI_0,atI_1,atI_2,atI_3,atI_4,atI_5,atI_6,atI_7,atI_8,atI_9,Tr.ty.injEq,tyN_int,tyN_bool,tyN_str,tyN_list,tyN_tuple,tyN_dict,dVar,dC,dName,dOp,dI,dI0,dUn,dU,dEq,dNe,dTest,dAnd,dOr,dNot,dAndV,dOrV,dNotV,dIf,dChain,dNil,dCons,dTup,dLst,dCall,dCall0,dCB,dNext,dSeq,dRet,dRetN,dDrop,dBreak,dCont,dIfS,dgNil,dgCons,dTupG,dAsg,diL,diT,diS,diR1,diR2,diE,dYes,dIx,dLen,dInt,dMx,dSum,dAll,dIsi,dIsiT,doNone,doSome,dSl,dApp,dSub,dSet,dEqD,dGet,dGet1,dGet2,LT.dIn,dIsN,dIsB,dIn',dList,dTuple,dRaise,dMaxL,dMinL,dMinS,dRep,asL_lst,asS_lst,asS_tup,asT_tup,flatV',Tr.int.injEq,Tr.bl.injEq,Tr.str.injEq,Tr.lst.injEq,Tr.tup.injEq,Tr.obj.injEq,Option.isSome_some,List.map_cons,List.map_nil,List.length_cons,List.length_nil,List.replicate_succ,List.replicate_zero,List.cons_append,List.nil_append,List.append_nil,List.getElem?_cons_zero,List.getElem?_cons_succ,List.set_cons_zero,List.set_cons_succ,Nat.add_sub_cancel,Nat.reduceAdd,Nat.reduceSub,Option.some.injEq,List.cons.injEq,and_true,true_and,and_false,false_and,exists_eq_left,exists_eq_left',exists_and_left,exists_and_right,exists_eq,exists_eq',LL.if_dec,reduceCtorEq,exists_false,exists_const,or_false,false_or,if_true,if_false,and_assoc,Int.reduceEq,Int.reduceNe,Int.reduceNeg,Int.reduceLT,Int.reduceLE,Int.reduceMul,Int.reduceAdd,Int.reduceSub,Int.reducePow,Int.reduceToNat,Nat.reducePow,Nat.reduceLT,Nat.reduceLeDiff,true_or,or_true,Bool.not_true,Bool.not_false,Bool.false_eq_true,Bool.or_false,Bool.or_true,Bool.true_or,Bool.false_or,decide_true,decide_false,not_true_eq_false,not_false_eq_true,LL.scal_int,LL.scal_bl,LL.scal_str,V.int.injEq,V.bl.injEq,V.str.injEq,Nat.zero_le,forall_const,true_implies,kindT_non,isNonT_non,flatT_non,flatK_non,isBT_non_true,isBT_non_false,toV_non,ofV_non,keyT_non,isT_non_int,isT_non_bool,isT_non_str,isT_non_list,isT_non_tuple,isT_non_dict,kindT_bl,isNonT_bl,flatT_bl,flatK_bl,toV_bl,ofV_bl,keyT_bl,isT_bl_int,isT_bl_bool,isT_bl_str,isT_bl_list,isT_bl_tuple,isT_bl_dict,kindT_int,isNonT_int,flatT_int,flatK_int,isBT_int_true,isBT_int_false,toV_int,ofV_int,keyT_int,isT_int_int,isT_int_bool,isT_int_str,isT_int_list,isT_int_tuple,isT_int_dict,kindT_str,isNonT_str,flatT_str,flatK_str,isBT_str_true,isBT_str_false,toV_str,ofV_str,keyT_str,isT_str_int,isT_str_bool,isT_str_str,isT_str_list,isT_str_tuple,isT_str_dict,kindT_lst,isNonT_lst,flatT_lst,flatK_lst,isBT_lst_true,isBT_lst_false,lenT_lst,keyT_lst,isT_lst_int,isT_lst_bool,isT_lst_str,isT_lst_list,isT_lst_tuple,isT_lst_dict,kindT_tup,isNonT_tup,flatT_tup,flatK_tup,isBT_tup_true,isBT_tup_false,lenT_tup,keyT_tup,isT_tup_int,isT_tup_bool,isT_tup_str,isT_tup_list,isT_tup_tuple,isT_tup_dict,kindT_dic,isNonT_dic,flatT_dic,flatK_dic,isBT_dic_true,isBT_dic_false,lenT_dic,keyT_dic,isT_dic_int,isT_dic_bool,isT_dic_str,isT_dic_list,isT_dic_tuple,isT_dic_dict,kindT_obj,isNonT_obj,flatT_obj,flatK_obj,isBT_obj_true,isBT_obj_false,keyT_obj,kindT_drw,isNonT_drw,flatT_drw,flatK_drw,isBT_drw_true,isBT_drw_false,keyT_drw,kindT_ty,isNonT_ty,flatT_ty,flatK_ty,isBT_ty_true,isBT_ty_false,toV_ty,ofV_ty,keyT_ty,asD_dic,isBT_bl,dAddG_int,dAddG_str,dAddG_tup,dAddG_lst_lst,dAddG_lst_obj,dAddG_obj_lst,dAddG_obj_obj,dSlG_tup,dSlG_str,dSlG_lst,dSlG_obj])
variable {P : Program} {w : World} {K : PySem.W.Frag} {mg : Str → Option Value} {base : Heap}

/-! ### the dict of rows -/
def dk (L : List Ch) : List Key := L.map fun c => .inl c.p
def dt (L : List Ch) : List Tr := L.map cT
def kvC (c : Ch) : Key × Tr := (.inl c.p, cT c)
theorem zip_dk : ∀ {L : List Ch}, (dk L).zip (dt L) = L.map kvC
  | [] => rfl
  | c :: L => by
    show (Sum.inl c.p, cT c) :: (dk L).zip (dt L) = _
    rw [zip_dk]
    rfl
theorem dk_map {L : List Ch} : (L.map kvC).map (·.1) = dk L := by rw [List.map_map]; rfl
theorem dt_map {L : List Ch} : (L.map kvC).map (·.2) = dt L := by rw [List.map_map]; rfl
theorem dk_ints {L : List Ch} : (dk L).map kT = (L.map (·.p)).map Tr.int := by unfold dk; rw [List.map_map, List.map_map]; rfl
theorem dk_len {L : List Ch} : (dk L).length = L.length := List.length_map _
theorem dt_len {L : List Ch} : (dt L).length = L.length := List.length_map _
theorem val_get : ∀ {L : List Ch} {p : Int}, valT (dk L) (dt L) (.inl p) = (getP L p).map cT
  | [], _ => rfl
  | c :: L, p => by
    rw [show dk (c :: L) = .inl c.p :: dk L from rfl, show dt (c :: L) = cT c :: dt L from rfl, valT_cons, getP_cons]
    by_cases h : c.p = p
    · rw [if_pos h, if_pos (by rw [h])]
      rfl
    · rw [if_neg h, if_neg (fun e => h (Sum.inl.inj e))]
      exact val_get
def putC (L : List Ch) (c : Ch) : List Ch := if (L.any fun d => decide (d.p = c.p)) = true then L.map (fun d => if d.p = c.p then c else d) else L ++ [c]
theorem put_L {L : List Ch} {c : Ch} : putL (dk L) (dt L) (.inl c.p) (cT c) = (putC L c).map kvC := by
  unfold putL putT putC
  rw [zip_dk]
  have e : ((L.map kvC).any fun kv => decide (kv.1 = (.inl c.p : Key))) = L.any fun d => decide (d.p = c.p) := by
    rw [List.any_map]
    congr 1
    funext d
    show decide ((.inl d.p : Key) = .inl c.p) = decide (d.p = c.p)
    by_cases h : d.p = c.p
    · rw [decide_eq_true h, decide_eq_true (by rw [h])]
    · rw [decide_eq_false h, decide_eq_false (fun z => h (Sum.inl.inj z))]
  rw [e]
  by_cases h : (L.any fun d => decide (d.p = c.p)) = true
  · rw [if_pos h, if_pos h, List.map_map, List.map_map]
    congr 1
    funext d
    show (if (.inl d.p : Key) = .inl c.p then ((.inl d.p : Key), cT c) else kvC d) = kvC (if d.p = c.p then c else d)
    by_cases hd : d.p = c.p
    · rw [if_pos hd, if_pos (by rw [hd]), hd]
      rfl
    · rw [if_neg hd, if_neg (fun z => hd (Sum.inl.inj z))]
  · rw [if_neg h, if_neg h, List.map_append]
    rfl
theorem get_putC {L : List Ch} {c : Ch} {q : Int} : getP (putC L c) q = if q = c.p then some c else getP L q := by
  unfold putC
  by_cases h : (L.any fun d => decide (d.p = c.p)) = true
  · rw [if_pos h]
    have e : getP (L.map fun d => if d.p = c.p then c else d) q = (getP L q).map fun d => if d.p = c.p then c else d := by
      unfold getP
      rw [List.find?_map]
      congr 2
      funext d
      show decide ((if d.p = c.p then c else d).p = q) = decide (d.p = q)
      by_cases hd : d.p = c.p
      · rw [if_pos hd, hd]
      · rw [if_neg hd]
    rw [e]
    by_cases hq : q = c.p
    · rw [if_pos hq]
      cases hg : getP L q with
      | none =>
        obtain ⟨d, hd, e2⟩ := List.any_eq_true.mp h
        exact absurd (by rw [hq]; exact of_decide_eq_true e2) (getP_none hg d hd)
      | some d =>
        have := (getP_mem hg).2
        show some (if d.p = c.p then c else d) = some c
        rw [if_pos (by omega)]
    · rw [if_neg hq]
      cases hg : getP L q with
      | none => rfl
      | some d =>
        have := (getP_mem hg).2
        show some (if d.p = c.p then c else d) = some d
        rw [if_neg (by omega)]
  · rw [if_neg h]
    have e : getP (L ++ [c]) q = (getP L q).or (if c.p = q then some c else none) := by
      unfold getP
      rw [List.find?_append, List.find?_cons]
      by_cases hq : c.p = q <;> simp [hq]
    rw [e]
    by_cases hq : q = c.p
    · rw [if_pos hq, if_pos hq.symm, getP_no fun d hd e => h (List.any_eq_true.mpr ⟨d, hd, decide_eq_true (by omega)⟩)]
      rfl
    · rw [if_neg hq, if_neg (fun z => hq z.symm)]
      cases getP L q <;> rfl
theorem nod_putC {L : List Ch} {c : Ch} (h : Nod L) : Nod (putC L c) := by
  unfold putC
  by_cases hc : (L.any fun d => decide (d.p = c.p)) = true
  · rw [if_pos hc]
    unfold Nod
    rw [List.map_map, show (fun x : Ch => x.p) ∘ (fun d => if d.p = c.p then c else d) = fun d : Ch => d.p from by
      funext d
      show (if d.p = c.p then c else d).p = d.p
      by_cases hd : d.p = c.p
      · rw [if_pos hd, hd]
      · rw [if_neg hd]]
    exact h
  · rw [if_neg hc]
    unfold Nod
    rw [List.map_append]
    refine List.nodup_append.mpr ⟨h, List.nodup_cons.mpr ⟨List.not_mem_nil, List.nodup_nil⟩, fun a ha b hb e => ?_⟩
    obtain ⟨d, hd, rfl⟩ := List.mem_map.mp ha
    have hb' : b = c.p := List.mem_singleton.mp hb
    exact hc (List.any_eq_true.mpr ⟨d, hd, decide_eq_true (by rw [← hb']; exact e)⟩)
theorem len_putC {L : List Ch} {c : Ch} : (putC L c).length ≤ L.length + 1 := by
  unfold putC
  split
  · rw [List.length_map]; omega
  · rw [List.length_append]; simp
theorem get_take {ds : List Ch} {i : Nat} {c : Ch} (h : Asc ds) (hc : ds[i]? = some c) (q : Int) : getP (ds.take (i + 1)) q = if q = c.p then some c else getP (ds.take i) q := by
  have e1 : ds.take (i + 1) = ds.take i ++ [c] := take_one hc
  have hn : ∀ d ∈ ds.take i, d.p < c.p := fun d hd => by
    have h2 : Asc (ds.take i ++ [c]) := by rw [← e1]; exact h.sublist (List.take_sublist _ _)
    exact (List.pairwise_append.mp h2).2.2 d hd c (List.mem_singleton_self _)
  have e : getP (ds.take i ++ [c]) q = (getP (ds.take i) q).or (if c.p = q then some c else none) := by
    unfold getP
    rw [List.find?_append, List.find?_cons]
    by_cases hq : c.p = q <;> simp [hq]
  rw [e1, e]
  by_cases hq : q = c.p
  · rw [if_pos hq, if_pos hq.symm, getP_no fun d hd e => by have := hn d hd; omega]
    rfl
  · rw [if_neg hq, if_neg (fun z => hq z.symm)]
    cases getP (ds.take i) q <;> rfl
theorem take_no {ds : List Ch} {i : Nat} {c : Ch} (h : Asc ds) (hc : ds[i]? = some c) : getP (ds.take i) c.p = none := getP_no fun d hd e => by
  have e1 : ds.take (i + 1) = ds.take i ++ [c] := take_one hc
  have h2 : Asc (ds.take i ++ [c]) := by rw [← e1]; exact h.sublist (List.take_sublist _ _)
  have := (List.pairwise_append.mp h2).2.2 d hd c (List.mem_singleton_self _)
  omega
theorem real_join {x y : Option Ch} (hx : ∀ a, x = some a → realC a = true) (hy : ∀ b, y = some b → realC b = true) : (joinV x y).filter realC = joinC x y := by
  cases x with
  | none =>
    cases y with
    | none => rfl
    | some b => show (some b).filter realC = some b; simp [Option.filter, hy b rfl]
  | some a =>
    cases y with
    | none => show (some a).filter realC = some a; simp [Option.filter, hx a rfl]
    | some b =>
      show (some (Ch.mk a.p a.w a.h b.w' b.h')).filter realC = if a.w = b.w' ∧ a.h = b.h' then none else some ⟨a.p, a.w, a.h, b.w', b.h'⟩
      by_cases h : a.w = b.w' ∧ a.h = b.h'
      · rw [if_pos h]
        have : realC ⟨a.p, a.w, a.h, b.w', b.h'⟩ = false := by unfold realC; simp [h.1, h.2]
        simp [Option.filter, this]
      · rw [if_neg h]
        have : realC ⟨a.p, a.w, a.h, b.w', b.h'⟩ = true := real_iff.mpr h
        simp [Option.filter, this]
theorem asc_of : ∀ {R : List Ch}, (R.map (·.p)).Pairwise (· ≤ ·) → Nod R → Asc R
  | [], _, _ => .nil
  | c :: R, h, hn => by
    obtain ⟨h1, h2⟩ := List.pairwise_cons.mp (show (c.p :: R.map (·.p)).Pairwise (· ≤ ·) from h)
    obtain ⟨n1, n2⟩ := List.nodup_cons.mp (show (c.p :: R.map (·.p)).Nodup from hn)
    refine List.pairwise_cons.mpr ⟨fun d hd => ?_, asc_of h2 n2⟩
    have hm : d.p ∈ R.map (·.p) := List.mem_map.mpr ⟨d, hd, rfl⟩
    have := h1 d.p hm
    have : c.p ≠ d.p := fun e => n1 (by rw [e]; exact hm)
    omega
theorem get_filter : ∀ {R : List Ch} {q : Int}, Nod R → getP (R.filter realC) q = (getP R q).filter realC
  | [], _, _ => rfl
  | c :: R, q, h => by
    obtain ⟨n1, n2⟩ := List.nodup_cons.mp (show (c.p :: R.map (·.p)).Nodup from h)
    have ih := get_filter (R := R) (q := q) n2
    have no : c.p = q → getP R q = none := fun e => getP_no fun d hd e2 => n1 (by rw [e, ← e2]; exact List.mem_map.mpr ⟨d, hd, rfl⟩)
    rw [getP_cons, List.filter_cons]
    by_cases hr : realC c = true
    · rw [if_pos hr, getP_cons]
      by_cases hq : c.p = q
      · rw [if_pos hq, if_pos hq]
        simp [Option.filter, hr]
      · rw [if_neg hq, if_neg hq, ih]
    · rw [if_neg hr, ih]
      by_cases hq : c.p = q
      · rw [if_pos hq, no hq]
        have : realC c = false := by simpa using hr
        simp [Option.filter, this]
      · rw [if_neg hq]
/-- the rows of the dict, by their places -/
theorem rows_of {cs ds L : List Ch} {ms : List Int} (h1 : OKC cs) (h2 : OKC ds) (hL : Nod L) (hg : ∀ q, getP L q = joinV (getP cs q) (getP ds q)) (hp : ms.Perm (L.map (·.p))) (hs : ms.Pairwise (· ≤ ·)) : ∃ R : List Ch, (∀ p ∈ ms, ∃ c, getP L p = some c ∧ c.p = p) ∧ (ms.map Tr.int).map (fun t => ((getP L (intOf t)).map cT).getD .non) = R.map cT ∧ IsJ cs ds (R.filter realC) := by
  have hm : ∀ p ∈ ms, ∃ c, getP L p = some c ∧ c.p = p := fun p hpm => by
    obtain ⟨c, hc, rfl⟩ := List.mem_map.mp (hp.mem_iff.mp hpm)
    exact ⟨c, hL.get hc, rfl⟩
  have hR : ∀ ms : List Int, (∀ p ∈ ms, ∃ c, getP L p = some c ∧ c.p = p) → ∃ R : List Ch, (ms.map Tr.int).map (fun t => ((getP L (intOf t)).map cT).getD .non) = R.map cT ∧ R.map (·.p) = ms ∧ ∀ c ∈ R, getP L c.p = some c := by
    intro ms
    induction ms with
    | nil => intro _; exact ⟨[], rfl, rfl, fun _ h => nomatch h⟩
    | cons p ms ih =>
      intro h
      obtain ⟨c, hc, hcp⟩ := h p List.mem_cons_self
      obtain ⟨R, r1, r2, r3⟩ := ih fun q hq => h q (List.mem_cons_of_mem _ hq)
      refine ⟨c :: R, ?_, ?_, fun d hd => ?_⟩
      · rw [List.map_cons, List.map_cons, r1, show intOf (.int p) = p from rfl, hc]
        rfl
      · rw [List.map_cons, r2, hcp]
      · rcases List.mem_cons.mp hd with rfl | hd
        · rw [hcp]; exact hc
        · exact r3 d hd
  obtain ⟨R, r1, r2, r3⟩ := hR ms hm
  have nR : Nod R := by unfold Nod; rw [r2]; exact hp.nodup_iff.mpr hL
  have aR : Asc R := asc_of (by rw [r2]; exact hs) nR
  refine ⟨R, hm, r1, aR.filter _, fun q => ?_⟩
  rw [get_filter nR]
  have e : getP R q = getP L q := by
    cases hq : getP L q with
    | none => exact getP_no fun c hc e => by rw [← e, r3 c hc] at hq; cases hq
    | some c =>
      obtain ⟨c1, c2⟩ := getP_mem hq
      have : c.p ∈ R.map (·.p) := by rw [r2]; exact hp.mem_iff.mpr (List.mem_map.mpr ⟨c, c1, rfl⟩)
      obtain ⟨d, hd, e2⟩ := List.mem_map.mp this
      have e3 : d.p = c.p := e2
      have := r3 d hd
      rw [e3, hL.get c1] at this
      rw [← c2, Option.some.inj this]
      exact nR.get hd
  rw [e, hg]
  exact real_join (fun a ha => real_iff.mpr (chB_un (h1.ok a (getP_mem ha).1)).2.2.2.2.2.2) (fun b hb => real_iff.mpr (chB_un (h2.ok b (getP_mem hb).1)).2.2.2.2.2.2)
theorem take_kv {cs : List Ch} {i : Nat} {c : Ch} (h : Asc cs) (hc : cs[i]? = some c) : putT ((cs.take i).map kvC) (.inl c.p) (cT c) = (cs.take (i + 1)).map kvC := by
  have e1 : cs.take (i + 1) = cs.take i ++ [c] := take_one hc
  rw [putT_new, e1, List.map_append]
  · rfl
  · rw [dk_map]
    intro hm
    obtain ⟨d, hd, e⟩ := List.mem_map.mp hm
    exact getP_none (take_no h hc) d hd (Sum.inl.inj e)
section
variable {K : PySem.W.Frag} {G : List (Value × Option Addr × XV) → Prop} {E : EK}
/-- an exception that leaves: what is asked no more is dropped -/
def dExF (d : DS) : DS := fun D ρ Ω => d { D with ex := fun ρ' x Ω' => ∃ as, D.ex ρ' x (cuts Ω' as) } ρ Ω
theorem sim_exF {t : TS} {d : DS} (h : SimS K G E t d) : SimS K G E t (dExF d) := fun g σ H ρ Ω D DD hG R p e => h g σ H ρ Ω D _ hG R p ⟨e.nx, e.rt, e.bk, e.ct, fun x ρ' Ω' σ' cls d H' ⟨as, q⟩ k R' r => e.ex x ρ' _ σ' cls d H' q (k.trans (.freezes as)) (R'.keep (.freezes as) (R'.om.freezes as)) (r.keep (.freezes as))⟩
end
theorem exF_0 {x : XV} {Ω : Om} {P : PXt} (q : P x Ω) : ∃ as, P x (cuts Ω as) := ⟨[], q⟩
theorem exF_1 {x : XV} {Ω : Om} {P : PXt} {a : Addr} {c : Cell} (ha : Ω a = none) (q : P x Ω) : ∃ as, P x (cuts (put Ω a c) as) := ⟨[a], by show P x (cut (put Ω a c) a); rw [cut_put ha]; exact q⟩
theorem take_no' {ds : List Ch} {i : Nat} {c : Ch} (h : Asc ds) (hc : ds[i]? = some c) {p : Int} {b : Ch} (hb : getP (ds.take (i + 1)) p = some b) : getP (ds.take i) p = some b ∨ p = c.p ∧ b = c := by
  rw [get_take h hc] at hb
  by_cases hp : p = c.p
  · rw [if_pos hp] at hb
    exact .inr ⟨hp, (Option.some.inj hb).symm⟩
  · rw [if_neg hp] at hb
    exact .inl hb
theorem fits_step {cs ds : List Ch} {i : Nat} {c : Ch} (h : Asc ds) (hc : ds[i]? = some c) (f : Fits cs (ds.take i)) (n : ∀ a, getP cs c.p = some a → a.w' = c.w ∧ a.h' = c.h) : Fits cs (ds.take (i + 1)) := fun p a b ha hb => by
  rcases take_no' h hc hb with hb | ⟨rfl, rfl⟩
  · exact f p a b ha hb
  · exact n a ha
theorem put_ok {cs ds L : List Ch} {i : Nat} {c c' : Ch} (h : Asc ds) (hc : ds[i]? = some c) (nL : Nod L) (lL : L.length ≤ cs.length + i) (gL : ∀ q, getP L q = joinV (getP cs q) (getP (ds.take i) q)) (hp : c'.p = c.p) (hj : some c' = joinV (getP cs c.p) (some c)) : Nod (putC L c') ∧ (putC L c').length ≤ cs.length + (i + 1) ∧ ∀ q, getP (putC L c') q = joinV (getP cs q) (getP (ds.take (i + 1)) q) := by
  refine ⟨nod_putC nL, by have := len_putC (L := L) (c := c'); omega, fun q => ?_⟩
  rw [get_putC, get_take h hc, hp]
  by_cases hq : q = c.p
  · rw [if_pos hq, if_pos hq, hq, hj]
  · rw [if_neg hq, if_neg hq, gL]
theorem put_d {L : List Ch} {c : Ch} {Ω : Om} {d : Addr} : put Ω d (.dic ((putL (dk L) (dt L) (.inl c.p) (cT c)).map (·.1)) ((putL (dk L) (dt L) (.inl c.p) (cT c)).map (·.2))) = put Ω d (.dic (dk (putC L c)) (dt (putC L c))) := by
  rw [put_L, dk_map, dt_map]
theorem lc_e {de : DE} {ρ : En} {Ω : Om} {dg : DG} {dt : DT} {del : DE} {vs : List Nat} {P : PT'} {PX : PXt} (h : de ρ Ω (fun t Ω1 => dLc (diS (dC t)) dg dt del vs ρ Ω1 P PX) PX) : dLc (diS de) dg dt del vs ρ Ω P PX := h
theorem cut_put2 {Ω : Om} {a d : Addr} {c e : Cell} (hd : Ω d = none) (ha : put Ω d e a = none) : cut (put (put Ω d e) a c) d = put Ω a c := by
  have hn : d ≠ a := fun z => by rw [z, put_same] at ha; cases ha
  funext b
  by_cases hb : b = d
  · subst hb
    rw [cut_same, put_ne hn, hd]
  · rw [cut_ne hb]
    by_cases hba : b = a
    · subst hba
      rw [put_same, put_same]
    · rw [put_ne hba, put_ne hba, put_ne hb]
theorem retF_new {ts : List Tr} {Ω : Om} {P : PT'} {d : Addr} {e : Cell} (hd : Ω d = none) (h : lstNew ts Ω P) : lstNew ts (put Ω d e) (fun t Ω' => ∃ as, P t (cuts Ω' as)) := by
  rcases h with h | h
  · exact .inl (retF_1 hd h)
  · refine .inr fun a ha => ⟨[d], ?_⟩
    show P (.obj a) (cut (put (put Ω d e) a (.lst ts)) d)
    rw [cut_put2 hd ha]
    refine h a ?_
    have hn : a ≠ d := fun z => by rw [z, put_same] at ha; cases ha
    rwa [put_ne hn] at ha
def rowB : Tr → Bool
  | .tup [_, .int w, .int h, .int w', .int h'] => !(decide (w = w') && decide (h = h'))
  | _ => true
theorem row_filter {R : List Ch} : ((R.map cT).filter rowB).map id = (R.filter realC).map cT := by
  rw [List.map_id, List.filter_map]
  rfl
def atL (L : List Ch) (t : Tr) : Tr := ((getP L (intOf t)).map cT).getD .non
def wp_join : Pw := fun ts Ω PQ PX => ∃ a b, ts = [a, b] ∧ dataT a = true ∧ dataT b = true ∧ (chsT a = false → PX (badX (.str "first")) Ω) ∧ ∀ cs : List Ch, a = .lst (cs.map cT) → OKC cs → cs.length ≤ 100000 ∧ (chsT b = false → PX (badX (.str "second")) Ω) ∧ ∀ ds : List Ch, b = .lst (ds.map cT) → OKC ds → ds.length ≤ 100000 ∧ (¬ Fits cs ds → PX (badX (.str "second")) Ω) ∧ (Fits cs ds → ∀ rs, IsJ cs ds rs → lstNew (rs.map cT) Ω PQ)
def wp_ljoin : Pw := fun ts Ω PQ _ => ∃ cs ds : List Ch, ts = [.lst (cs.map cT), .lst (ds.map cT)] ∧ OKC cs ∧ OKC ds ∧ cs.length ≤ 100000 ∧ ds.length ≤ 100000 ∧ ∀ rs, IsJ cs ds rs → PQ (.lst (rs.map cT)) Ω
theorem ok_join_changes (T : Tx K mg) : FnOk P w K mg base (L2.CX P w) 5 (He.ga K "join_changes") T.fd_join_changes P_join_changes (spD K wp_join 2) := by
  refine dok T.F_join_changes sc_join_changes fun cdv A outer s H E hr => ?_
  refine' dokMk ((pss_cons (ps_expr (pe_call (ok_need T) (hr.mono (by decide)) rfl T.g_need T.F_need.kp (b_need T) .nil (passR (takes_of rfl rfl rfl rfl) (fun _ _ _ _ h => h)) (pa_cons (pe_call (ok_is_changes T) hr rfl T.g_is_changes T.F_is_changes.kp (b_is_changes T) .nil pass0 (pa_cons (pv 0) pa_nil)) (pa_cons (pe_str) pa_nil)))) (pss_cons (ps_expr (pe_call (ok_need T) (hr.mono (by decide)) rfl T.g_need T.F_need.kp (b_need T) .nil (passR (takes_of rfl rfl rfl rfl) (fun _ _ _ _ h => h)) (pa_cons (pe_call (ok_is_changes T) hr rfl T.g_is_changes T.F_is_changes.kp (b_is_changes T) .nil pass0 (pa_cons (pv 1) pa_nil)) (pa_cons (pe_str) pa_nil)))) (pss_cons (ps_set (i := 2) sc_join_changes.nd rfl (Or.inr rfl) (pe_dc (own := [("row", 3)]) (by rfl) sc_join_changes.nd (LT.pi_seqK (K := K) rfl (pv 0)) (blkOk_by (N := N_join_changes) (sc := defScope s_join_changes) (by decide +kernel)) (fun _ _ _ _ _ => (pg_name (i := 3) sc_join_changes.nd rfl (Or.inl rfl))) (fun _ _ _ _ _ => pts_nil) (fun _ _ _ _ _ => (pe_ix (show IxR _ (LL.rIxA K) from LL.ix_A) (pv 3) (pe_int) (fun _ _ => rfl))) (fun _ _ _ _ _ => (pv 3)))) (pss_cons (ps_for (passes_of rfl) rfl (LT.pi_seqK (K := K) rfl (pv 1)) (pg_name (i := 3) sc_join_changes.nd rfl (Or.inl rfl)) (pss_cons (ps_set (i := 5) sc_join_changes.nd rfl (Or.inl rfl) (pe_ix (show IxR _ (LL.rIxA K) from LL.ix_A) (pv 3) (pe_int) (fun _ _ => rfl))) (pss_one (ps_if (pt_cmp (pc_din (hu_of hr) (pv 5) (pv 2))) (pss_cons (ps_set (i := 6) sc_join_changes.nd rfl (Or.inl rfl) (pe_dget (hu_of hr) (pv 2) (pv 5) (fun _ _ => rfl))) (pss_cons (ps_expr (pe_call (ok_need T) (hr.mono (by decide)) rfl T.g_need T.F_need.kp (b_need T) .nil (passR (takes_of rfl rfl rfl rfl) (fun _ _ _ _ h => h)) (pa_cons (pe_cmpR (show OpR _ _ (rEqD K) from op_eqD hr.units) (pe_slice (show SlR _ (LT.rSlG K) from LT.sl_G) (pv 6) (po_some (pe_int)) po_none) (pe_slice (show SlR _ (LT.rSlG K) from LT.sl_G) (pv 3) (po_some (pe_int)) (po_some (pe_int))) (nomark _)) (pa_cons (pe_str) pa_nil)))) (pss_one (ps_dput (hu_of hr) (pv 2) (pv 5) (pe_op (show OpR _ _ (LT.rAddG K) from LT.op_addG) (pe_slice (show SlR _ (LT.rSlG K) from LT.sl_G) (pv 6) po_none (po_some (pe_int))) (pe_slice (show SlR _ (LT.rSlG K) from LT.sl_G) (pv 3) (po_some (pe_int)) po_none)) rfl)))) (pss_one (ps_dput (hu_of hr) (pv 2) (pv 5) (pv 3) rfl)))))) (pss_cons (ps_setLc (i := 4) (own := [("place", 5)]) rfl sc_join_changes.nd rfl rfl (sw_true rfl rfl rfl (by decide +kernel)) (LT.pi_seqK (K := K) rfl (pe_callB (show CallR _ _ (rSortedI K) from cr_sortedI) (by rfl) T.z_sorted (by decide +kernel) (pa_cons (pe_callTy (show CallR _ _ (LT.rList K) from LT.call_list rfl) (by rfl) T.z_list (by decide +kernel) (pa_cons (pv 2) pa_nil)) pa_nil))) (blkOk_by (N := N_join_changes) (sc := defScope s_join_changes) (by decide +kernel)) (fun _ _ _ _ _ => (pg_name (i := 5) sc_join_changes.nd rfl (Or.inl rfl))) (fun _ _ _ _ _ => pts_nil) (fun _ _ _ _ _ => (pe_dget (hu_of hr) (pv 2) (pv 5) (fun _ _ => rfl)))) (pss_one (ps_ret (pe_lc (own := [("row", 3)]) (by rfl) sc_join_changes.nd (LT.pi_seqK (K := K) rfl (pv 4)) (blkOk_by (N := N_join_changes) (sc := defScope s_join_changes) (by decide +kernel)) (fun _ _ _ _ _ => (pg_name (i := 3) sc_join_changes.nd rfl (Or.inl rfl))) (fun _ _ _ _ _ => pts_one (pt_cmpR (show OpR _ _ (rNeD K) from op_neD hr.units) (pe_slice (show SlR _ (LT.rSlG K) from LT.sl_G) (pv 3) (po_some (pe_int)) (po_some (pe_int))) (pe_slice (show SlR _ (LT.rSlG K) from LT.sl_G) (pv 3) (po_some (pe_int)) po_none) (nomark _))) (fun _ _ _ _ _ => (pv 3))))))))))) ?sim ?go
  case sim =>
    apply sim_exF
    try simp only [LL.cxK0, LL.cxK1, List.map_cons, List.map_nil]
    repeat' (first | with_reducible apply sim_retF | fail "s")
  case go =>
    intro ts Ω PQ PX hl h
    obtain ⟨a, b, rfl, hda, hdb, q1, q2⟩ := h
    simp! only [N_join_changes, dExF]
    refine ⟨a, rfl, hda, ?_⟩
    cases hca : chsT a with
    | false => exact ⟨_, _, rfl, fun z => (nomatch z), fun _ => exF_0 (q1 hca)⟩
    | true =>
    obtain ⟨cs, rfl, _⟩ := chsT_form hca
    have kc := okc_iff.mp hca
    obtain ⟨lc, q2, q3⟩ := q2 cs rfl kc
    refine ⟨_, _, rfl, fun _ => ⟨b, rfl, hdb, ?_⟩, fun z => (nomatch z)⟩
    cases hcb : chsT b with
    | false => exact ⟨_, _, rfl, fun z => (nomatch z), fun _ => exF_0 (q2 hcb)⟩
    | true =>
    obtain ⟨ds, rfl, _⟩ := chsT_form hcb
    have kd := okc_iff.mp hcb
    obtain ⟨ld, q4, q5⟩ := q3 ds rfl kd
    refine ⟨_, _, rfl, fun _ => ?_, fun z => (nomatch z)⟩
    refine ⟨.lst (cs.map cT), rfl, _, rfl, fun hz => ⟨hz, fun i acc Ω' => Ω' = Ω ∧ acc = (cs.take i).map kvC, ⟨rfl, rfl⟩, fun i acc Ω' e => e.1 ▸ stay_of rfl, ?_, ?_⟩⟩
    · rintro i x acc Ω' hx ⟨rfl, rfl⟩
      rw [List.getElem?_map] at hx
      obtain ⟨c, hc, rfl⟩ := Option.map_eq_some_iff.mp hx
      simp! only [cT]
      exact take_kv kc.asc hc
    rintro acc Ω' ⟨rfl, rfl⟩
    rw [List.length_map, List.take_length]
    refine .inr fun d hd => ?_
    rw [dk_map, dt_map]
    refine for_S (t := .lst (ds.map cT)) rfl rfl (fun i ρ' Ω2 => ∃ (L : List Ch) (x3 x4 x5 x6 : Option Tr), Ω2 = put Ω' d (.dic (dk L) (dt L)) ∧ ρ' = [some (.lst (cs.map cT)), some (.lst (ds.map cT)), some (.obj d), x3, x4, x5, x6] ∧ Nod L ∧ L.length ≤ cs.length + i ∧ (∀ q, getP L q = joinV (getP cs q) (getP (ds.take i) q)) ∧ Fits cs (ds.take i)) ⟨cs, _, _, _, _, rfl, rfl, kc.asc.nod, Nat.le_refl _, fun q => by rw [List.take_zero]; cases getP cs q <;> rfl, fun _ _ _ _ h => nomatch h⟩ (fun _ _ _ _ => trivial) ?_ ?_
    · rintro hz2 i x ρ' Ω2 hx ⟨L, x3, x4, x5, x6, rfl, rfl, nL, lL, gL, fL⟩
      rw [List.getElem?_map] at hx
      obtain ⟨c, hc, rfl⟩ := Option.map_eq_some_iff.mp hx
      have hi := (List.getElem?_eq_some_iff.mp hc).1
      have gc := gL c.p
      rw [take_no kd.asc hc] at gc
      have gk := fun q => get_take kd.asc hc q
      cases hx : getP cs c.p with
      | none =>
        have ev : valT (dk L) (dt L) (.inl c.p) = none := by rw [val_get, gc, hx]; rfl
        simp! only [asD_put, ev, cT]
        rw [if_neg (by simp)]
        obtain ⟨n1, n2, n3⟩ := put_ok (c' := c) kd.asc hc nL lL gL rfl (by rw [hx]; rfl)
        exact ⟨_, _, rfl, by rw [dt_len]; omega, putC L c, put_d, n1, n2, n3, fits_step kd.asc hc fL fun a ha => by rw [hx] at ha; cases ha⟩
      | some a =>
        have ev : valT (dk L) (dt L) (.inl c.p) = some (cT a) := by rw [val_get, gc, hx]; rfl
        simp! only [asD_put, ev, cT]
        rw [show cutT [Tr.int a.p, Tr.int a.w, Tr.int a.h, Tr.int a.w', Tr.int a.h'] (some 3) none = [.int a.w', .int a.h'] from rfl, show cutT [Tr.int c.p, Tr.int c.w, Tr.int c.h, Tr.int c.w', Tr.int c.h'] (some 1) (some 3) = [.int c.w, .int c.h] from rfl, show cutT [Tr.int a.p, Tr.int a.w, Tr.int a.h, Tr.int a.w', Tr.int a.h'] none (some 3) = [.int a.p, .int a.w, .int a.h] from rfl, show cutT [Tr.int c.p, Tr.int c.w, Tr.int c.h, Tr.int c.w', Tr.int c.h'] (some 3) none = [.int c.w', .int c.h'] from rfl]
        refine ⟨ok_pair, ok_pair, ?_⟩
        rw [eq_pair]
        have ap := (getP_mem hx).2
        by_cases hf : a.w' = c.w ∧ a.h' = c.h
        · rw [show (decide (a.w' = c.w) && decide (a.h' = c.h)) = true by simp [hf.1, hf.2]]
          obtain ⟨n1, n2, n3⟩ := put_ok (c' := ⟨a.p, a.w, a.h, c.w', c.h'⟩) kd.asc hc nL lL gL ap (by rw [hx]; rfl)
          refine nd_t ⟨by simp, _, _, put_same, by rw [dt_len]; omega, _, ?_, n1, n2, n3, fits_step kd.asc hc fL fun a2 ha => by rw [hx] at ha; cases ha; exact hf⟩
          rw [put_put, ← put_d, ← ap]
          rfl
        · rw [show (decide (a.w' = c.w) && decide (a.h' = c.h)) = false by simpa using hf]
          refine nd_f (exF_1 hd (q4 fun F => hf (F c.p a c hx (kd.asc.nod.get (List.mem_of_getElem? hc)))))
    · rintro ρ' Ω2 ⟨L, x3, x4, x5, x6, rfl, rfl, nL, lL, gL, fL⟩
      rw [List.length_map, List.take_length] at gL fL
      simp! only [and_true]
      refine lc_e ?_
      simp! only [asD_put]
      refine .inr fun _ => .inl ⟨L.map (·.p), by rw [← dk_ints]; rfl, fun ms hp hs => .inl ?_⟩
      obtain ⟨R, hm, r1, r2⟩ := rows_of kc kd nL gL hp hs
      refine map_S (t := .lst (ms.map Tr.int)) (ts := ms.map Tr.int) (fun P p => p) rfl (atL L) mono_dName (fun x hx Q q => ?_) (.inl ?_)
      · obtain ⟨p, hpm, rfl⟩ := List.mem_map.mp hx
        obtain ⟨c, e1, e2⟩ := hm p hpm
        have ev : valT (dk L) (dt L) (.inl p) = some (atL L (.int p)) := by
          rw [val_get]
          show (getP L p).map cT = some (((getP L p).map cT).getD .non)
          rw [e1]
          rfl
        simp! only [asD_put, ev]
        exact q
      · rw [show (ms.map Tr.int).map (atL L) = R.map cT from r1]
        simp! only [and_true]
        refine flt_S (t := .lst (R.map cT)) (ts := R.map cT) (fun P p => ⟨_, rfl, p⟩) rfl id rowB (fun x hx Q N h1 h2 => ?_) ?_
        · obtain ⟨c, hc, rfl⟩ := List.mem_map.mp hx
          simp! only [cT]
          rw [show cutT [Tr.int c.p, Tr.int c.w, Tr.int c.h, Tr.int c.w', Tr.int c.h'] (some 3) none = [.int c.w', .int c.h'] from rfl, show cutT [Tr.int c.p, Tr.int c.w, Tr.int c.h, Tr.int c.w', Tr.int c.h'] (some 1) (some 3) = [.int c.w, .int c.h] from rfl]
          refine ⟨ok_pair, ok_pair, ?_⟩
          rw [eq_pair]
          cases hb : rowB (cT c) with
          | true =>
            rw [if_pos (show (!(decide (c.w = c.w') && decide (c.h = c.h'))) = true from hb)]
            exact h1 hb
          | false =>
            rw [if_neg (by rw [show (!(decide (c.w = c.w') && decide (c.h = c.h'))) = false from hb]; decide)]
            exact h2 hb
        · rw [row_filter]
          exact retF_new hd (q5 fL _ r2)
theorem ok_law_joined (T : Tx K mg) : FnOk P w K mg base CX0 1 (He.ga K "_law_joined") T.fd_law_joined P_law_joined (spD K wp_ljoin 2) := by
  refine dok T.F_law_joined sc_law_joined fun cdv A outer s H E hr => ?_
  refine' dokMk (PSs.nox (pss_cons (ps_set (i := 2) sc_law_joined.nd rfl (Or.inr rfl) (pe_dnewK)) (pss_cons (ps_for PassesOwn.never rfl (LT.pi_seqK (K := K) rfl (pv 0)) (pg_name (i := 3) sc_law_joined.nd rfl (Or.inl rfl)) (pss_one (ps_dput (hu_of hr) (pv 2) (pe_ix (show IxR _ (LL.rIxA K) from LL.ix_A) (pv 3) (pe_int) (fun _ _ => rfl)) (pv 3) rfl))) (pss_cons (ps_for PassesOwn.never rfl (LT.pi_seqK (K := K) rfl (pv 1)) (pg_name (i := 3) sc_law_joined.nd rfl (Or.inl rfl)) (pss_one (ps_if (pt_cmp (pc_din (hu_of hr) (pe_ix (show IxR _ (LL.rIxA K) from LL.ix_A) (pv 3) (pe_int) (fun _ _ => rfl)) (pv 2))) (pss_cons (ps_set (i := 4) sc_law_joined.nd rfl (Or.inl rfl) (pe_dget (hu_of hr) (pv 2) (pe_ix (show IxR _ (LL.rIxA K) from LL.ix_A) (pv 3) (pe_int) (fun _ _ => rfl)) (fun _ _ => rfl))) (pss_one (ps_dput (hu_of hr) (pv 2) (pe_ix (show IxR _ (LL.rIxA K) from LL.ix_A) (pv 3) (pe_int) (fun _ _ => rfl)) (pe_tup (pa_cons (pe_ix (show IxR _ (LL.rIxA K) from LL.ix_A) (pv 3) (pe_int) (fun _ _ => rfl)) (pa_cons (pe_ix (show IxR _ (LL.rIxA K) from LL.ix_A) (pv 4) (pe_int) (fun _ _ => rfl)) (pa_cons (pe_ix (show IxR _ (LL.rIxA K) from LL.ix_A) (pv 4) (pe_int) (fun _ _ => rfl)) (pa_cons (pe_ix (show IxR _ (LL.rIxA K) from LL.ix_A) (pv 3) (pe_int) (fun _ _ => rfl)) (pa_cons (pe_ix (show IxR _ (LL.rIxA K) from LL.ix_A) (pv 3) (pe_int) (fun _ _ => rfl)) pa_nil)))))) rfl))) (pss_one (ps_dput (hu_of hr) (pv 2) (pe_ix (show IxR _ (LL.rIxA K) from LL.ix_A) (pv 3) (pe_int) (fun _ _ => rfl)) (pv 3) rfl))))) (pss_one (ps_ret (pe_lc (own := [("_law_place", 5)]) (by rfl) sc_law_joined.nd (LT.pi_seqK (K := K) rfl (pe_callB (show CallR _ _ (rSortedI K) from cr_sortedI) (by rfl) T.z_sorted (by decide +kernel) (pa_cons (pe_callTy (show CallR _ _ (LT.rList K) from LT.call_list rfl) (by rfl) T.z_list (by decide +kernel) (pa_cons (pv 2) pa_nil)) pa_nil))) (blkOk_by (N := N_law_joined) (sc := defScope s_law_joined) (by decide +kernel)) (fun _ _ _ _ _ => (pg_name (i := 5) sc_law_joined.nd rfl (Or.inl rfl))) (fun _ _ _ _ _ => pts_one (pt_cmpR (show OpR _ _ (rNeD K) from op_neD hr.units) (pe_slice (show SlR _ (LT.rSlG K) from LT.sl_G) (pe_dget (hu_of hr) (pv 2) (pv 5) (fun _ _ => rfl)) (po_some (pe_int)) (po_some (pe_int))) (pe_slice (show SlR _ (LT.rSlG K) from LT.sl_G) (pe_dget (hu_of hr) (pv 2) (pv 5) (fun _ _ => rfl)) (po_some (pe_int)) (po_some (pe_int))) (nomark _))) (fun _ _ _ _ _ => (pe_dget (hu_of hr) (pv 2) (pv 5) (fun _ _ => rfl)))))))))) ?sim ?go
  case sim =>
    try simp only [LL.cxK0, LL.cxK1, List.map_cons, List.map_nil]
    repeat' (first | with_reducible apply sim_retF | fail "s")
  case go =>
    intro ts Ω PQ PX hl h
    obtain ⟨cs, ds, rfl, kc, kd, lc, ld, q⟩ := h
    simp! only [N_law_joined]
    refine .inr fun d hd => ?_
    refine for_S (t := .lst (cs.map cT)) rfl rfl (fun i ρ' Ω2 => ∃ (x3 x4 x5 : Option Tr), Ω2 = put Ω d (.dic (dk (cs.take i)) (dt (cs.take i))) ∧ ρ' = [some (.lst (cs.map cT)), some (.lst (ds.map cT)), some (.obj d), x3, x4, x5]) ⟨_, _, _, rfl, rfl⟩ (fun _ _ _ _ => trivial) ?_ ?_
    · rintro hz2 i x ρ' Ω2 hx ⟨x3, x4, x5, rfl, rfl⟩
      rw [List.getElem?_map] at hx
      obtain ⟨c, hc, rfl⟩ := Option.map_eq_some_iff.mp hx
      simp! only [asD_put, cT]
      refine ⟨_, _, rfl, by rw [dt_len, List.length_take]; omega, ?_⟩
      rw [show putL (dk (cs.take i)) (dt (cs.take i)) (.inl c.p) (Tr.tup [.int c.p, .int c.w, .int c.h, .int c.w', .int c.h']) = (cs.take (i + 1)).map kvC by unfold putL; rw [zip_dk]; exact take_kv kc.asc hc, dk_map, dt_map]
    rintro ρ' Ω2 ⟨x3, x4, x5, rfl, rfl⟩
    rw [List.length_map, List.take_length]
    simp! only [and_true]
    refine for_S (t := .lst (ds.map cT)) rfl rfl (fun i ρ' Ω2 => ∃ (L : List Ch) (x3 x4 x5 : Option Tr), Ω2 = put Ω d (.dic (dk L) (dt L)) ∧ ρ' = [some (.lst (cs.map cT)), some (.lst (ds.map cT)), some (.obj d), x3, x4, x5] ∧ Nod L ∧ L.length ≤ cs.length + i ∧ (∀ q, getP L q = joinV (getP cs q) (getP (ds.take i) q))) ⟨cs, _, _, _, rfl, rfl, kc.asc.nod, Nat.le_refl _, fun q => by rw [List.take_zero]; cases getP cs q <;> rfl⟩ (fun _ _ _ _ => trivial) ?_ ?_
    · rintro hz2 i x ρ' Ω2 hx ⟨L, x3, x4, x5, rfl, rfl, nL, lL, gL⟩
      rw [List.getElem?_map] at hx
      obtain ⟨c, hc, rfl⟩ := Option.map_eq_some_iff.mp hx
      have hi := (List.getElem?_eq_some_iff.mp hc).1
      have gc := gL c.p
      rw [take_no kd.asc hc] at gc
      cases hx : getP cs c.p with
      | none =>
        have ev : valT (dk L) (dt L) (.inl c.p) = none := by rw [val_get, gc, hx]; rfl
        simp! only [asD_put, ev, cT]
        rw [if_neg (by simp)]
        obtain ⟨n1, n2, n3⟩ := put_ok (c' := c) kd.asc hc nL lL gL rfl (by rw [hx]; rfl)
        exact ⟨_, _, rfl, by rw [dt_len]; omega, putC L c, put_d, n1, n2, n3⟩
      | some a =>
        have ev : valT (dk L) (dt L) (.inl c.p) = some (cT a) := by rw [val_get, gc, hx]; rfl
        simp! only [asD_put, ev, cT]
        have ap := (getP_mem hx).2
        obtain ⟨n1, n2, n3⟩ := put_ok (c' := ⟨a.p, a.w, a.h, c.w', c.h'⟩) kd.asc hc nL lL gL ap (by rw [hx]; rfl)
        refine ⟨_, _, rfl, by rw [dt_len]; omega, _, ?_, n1, n2, n3⟩
        rw [← put_d, ← ap]
        rfl
    · rintro ρ' Ω2 ⟨L, x3, x4, x5, rfl, rfl, nL, lL, gL⟩
      rw [List.length_map, List.take_length] at gL
      simp! only [and_true]
      refine lc_e ?_
      simp! only [asD_put]
      refine .inr fun _ => .inl ⟨L.map (·.p), by rw [← dk_ints]; rfl, fun ms hp hs => .inl ?_⟩
      obtain ⟨R, hm, r1, r2⟩ := rows_of kc kd nL gL hp hs
      refine flt_S (t := .lst (ms.map Tr.int)) (ts := ms.map Tr.int) (fun P p => p) rfl (atL L) (fun t => rowB (atL L t)) (fun x hx Q N h1 h2 => ?_) (.inl (retF_1 hd ?_))
      · obtain ⟨p, hpm, rfl⟩ := List.mem_map.mp hx
        obtain ⟨c, e1, e2⟩ := hm p hpm
        have ea : atL L (.int p) = cT c := by
          show ((getP L p).map cT).getD .non = cT c
          rw [e1]
          rfl
        rw [ea] at h1 h2
        have ev : valT (dk L) (dt L) (.inl p) = some (cT c) := by
          rw [val_get, e1]
          rfl
        simp! only [asD_put, ev, cT]
        rw [show cutT [Tr.int c.p, Tr.int c.w, Tr.int c.h, Tr.int c.w', Tr.int c.h'] (some 3) (some 5) = [.int c.w', .int c.h'] from rfl, show cutT [Tr.int c.p, Tr.int c.w, Tr.int c.h, Tr.int c.w', Tr.int c.h'] (some 1) (some 3) = [.int c.w, .int c.h] from rfl]
        refine ⟨ok_pair, ok_pair, ?_⟩
        rw [eq_pair]
        cases hb : rowB (cT c) with
        | true =>
          rw [if_pos (show (!(decide (c.w = c.w') && decide (c.h = c.h'))) = true from hb)]
          exact h1 hb
        | false =>
          rw [if_neg (by rw [show (!(decide (c.w = c.w') && decide (c.h = c.h'))) = false from hb]; decide)]
          exact h2 hb
      · rw [show ((ms.map Tr.int).filter fun t => rowB (atL L t)).map (atL L) = (R.map cT).filter rowB by rw [← show (ms.map Tr.int).map (atL L) = R.map cT from r1, List.filter_map (f := atL L)]; rfl]
        have := row_filter (R := R)
        rw [List.map_id] at this
        rw [this]
        exact q _ r2
end K11

namespace K11
open PySem PySem.Spec PyProof.Rows L2 LL LT
local macro_rules | `(tactic| fail "s") => `(tactic| first | (with_reducible first | exact sim_var | exact sim_int | exact sim_bl | exact sim_str | exact sim_non | exact sim_ty | exact sim_ref | exact sim_nil | apply sim_cons | apply sim_op | apply simr_I0 | apply simr_I | exact simr_Eq | exact simr_Ne | exact simr_IxA | exact simr_addG | exact simr_isN | exact simr_notN | exact simr_isB | exact simr_in | exact simr_IxL | exact simr_IxT | exact simr_IxS | exact simr_EqD | exact simr_NeD | exact simr_rep | exact simr_repW | apply sim_un | apply sim_test | apply sim_tB | apply sim_and | apply sim_or | apply sim_not | apply sim_andV | apply sim_orV | apply sim_notV | apply sim_if | apply sim_chain | apply sim_tup | apply sim_lst | apply sim_bor0 | apply sim_bor | apply sim_borS | apply sim_call0 | apply sim_call | apply sim_callS | apply sim_callZ | apply sim_isXT | apply sim_isX | apply sim_xf | apply sim_sortS | apply sim_listRg | apply sim_CB | exact simc_len | exact simc_int | exact simc_isi | exact simc_mx | exact simc_mn | exact simc_sum | exact simc_maxL | exact simc_minL | exact simc_minS | exact simc_all | exact simc_any | exact simc_list | exact simc_tuple | exact simc_isiT | exact simc_strI | exact simc_sortI | exact simc_sortR | apply sim_sl | exact simsl_G | exact simsl_L | exact sim_oNone | apply sim_oSome | apply sim_append | exact sim_newD | apply sim_disp1 | apply sim_dget2 | apply sim_dget1 | apply sim_dget | apply sim_din | apply sim_dnotin | apply sim_lc | apply sim_dc | exact sim_yes | apply sim_iL | apply sim_iT | apply sim_iS | apply sim_iR1 | apply sim_iR2 | apply sim_iE | apply sim_iZ | apply sim_revT | exact gin_name (by decide) | apply gin_tup | exact gin_nil | apply gin_cons | exact mono_name | exact mono_nil | apply mono_cons | apply mono_tup | exact sim_next | apply sim_mk | apply sim_fgl | apply sim_fg | apply sim_seq | apply sim_ret | exact sim_retN | apply sim_drop | exact sim_break | exact sim_cont | apply sim_ifS | apply sim_asg | exact sim_gName | apply sim_gTup | exact sim_gNil | apply sim_gCons | apply sim_gSub | apply sim_for | apply sim_while | apply sim_dput | apply sim_raise | apply sim_tryT0 | apply sim_tryT) | exact fun _ _ => rfl | exact fun _ => rfl | exact fun _ _ _ _ => rfl | intro W | intro a cls d x)
local macro_rules | `(tactic| fail "l") => `(tactic| (simp only [List.length_append,List.length_take,List.length_drop,List.length_map,List.length_cons,List.length_nil,List.length_set,List.length_replicate,List.length_range]; omega))
local macro_rules | `(tactic| fail "r") => `(tactic| first | fail "d" | with_reducible refine fun (_ : _ ≤ 1000000) => ?_ | with_reducible refine Or.inl (fun (_ : _ ≤ 1000000) => ?_) | with_reducible refine lst_in ?_ | with_reducible refine dic_in ?_ | with_reducible refine tk_call (by first | decide | exact tk_big (by omega) (by omega)) fun v h0 h1 => ?_ | with_reducible refine bt_call (by first | decide | exact tk_big (by omega) (by omega)) fun v h0 h1 => ?_ | with_reducible refine ct_call (by first | decide | exact ⟨by omega, by omega, by omega⟩) fun v h0 h1 => ?_ | with_reducible refine LL.itei (fun h => ?_) fun h => ?_ | with_reducible refine pickP (by omega) (by simp only [List.length_cons, List.length_nil]; omega) ?_ | with_reducible refine List.forall_mem_cons.mpr (And.intro ?_ ?_) | with_reducible exact LT.nil_all | with_reducible refine And.intro (by first | (unfold CPow; decide) | omega | rfl) ?_ | with_reducible refine am_call rfl (List.cons_ne_nil _ _) ?_ | refine And.intro (show CMul _ _ from .inl ⟨by omega, by omega⟩) ?_)
local macro_rules | `(tactic| fail "d") => `(tactic| simp only [and_true,dSortI,dSortR,dLstRg,dRepW,dRetF,dForgets,asD_put,dSortS,dDPut,dCallZ,dBor,dBor0,diZ,dRevT,dStrI,dIsXT,dTry0,dTry,dXf,dIsX,dNewD,dDisp1,Prod.mk.injEq,wipeT,Int.toNat_natCast,asL_put,put_same,put_put,Cell.lst.injEq,atI_0,atI_1,atI_2,atI_3,atI_4,atI_5,atI_6,atI_7,atI_8,atI_9,Tr.ty.injEq,tyN_int,tyN_bool,tyN_str,tyN_list,tyN_tuple,tyN_dict,dVar,dC,dName,dOp,dI,dI0,dUn,dU,dEq,dNe,dTest,dAnd,dOr,dNot,dAndV,dOrV,dNotV,dIf,dChain,dNil,dCons,dTup,dLst,dCall,dCall0,dCB,dNext,dSeq,dRet,dRetN,dDrop,dBreak,dCont,dIfS,dgNil,dgCons,dTupG,dAsg,diL,diT,diS,diR1,diR2,diE,dYes,dIx,dLen,dInt,dMx,dSum,dAll,dIsi,dIsiT,doNone,doSome,dSl,dApp,dSub,dSet,dEqD,dGet,dGet1,dGet2,LT.dIn,dIsN,dIsB,dIn',dList,dTuple,dRaise,dMaxL,dMinL,dMinS,dRep,asL_lst,asS_lst,asS_tup,asT_tup,flatV',Tr.int.injEq,Tr.bl.injEq,Tr.str.injEq,Tr.lst.injEq,Tr.tup.injEq,Tr.obj.injEq,Option.isSome_some,List.map_cons,List.map_nil,List.length_cons,List.length_nil,List.replicate_succ,List.replicate_zero,List.cons_append,List.nil_append,List.append_nil,List.getElem?_cons_zero,List.getElem?_cons_succ,List.set_cons_zero,List.set_cons_succ,Nat.add_sub_cancel,Nat.reduceAdd,Nat.reduceSub,Option.some.injEq,List.cons.injEq,and_true,true_and,and_false,false_and,exists_eq_left,exists_eq_left',exists_and_left,exists_and_right,exists_eq,exists_eq',LL.if_dec,reduceCtorEq,exists_false,exists_const,or_false,false_or,if_true,if_false,and_assoc,Int.reduceEq,Int.reduceNe,Int.reduceNeg,Int.reduceLT,Int.reduceLE,Int.reduceMul,Int.reduceAdd,Int.reduceSub,Int.reducePow,Int.reduceToNat,Nat.reducePow,Nat.reduceLT,Nat.reduceLeDiff,true_or,or_true,Bool.not_true,Bool.not_false,Bool.false_eq_true,Bool.or_false,Bool.or_true,Bool.true_or,Bool.false_or,decide_true,decide_false,not_true_eq_false,not_false_eq_true,LL.scal_int,LL.scal_bl,LL.scal_str,V.int.injEq,V.bl.injEq,V.str.injEq,Nat.zero_le,forall_const,true_implies,kindT_non,isNonT_non,flatT_non,flatK_non,isBT_non_true,isBT_non_false,toV_non,ofV_non,keyT_non,isT_non_int,isT_non_bool,isT_non_str,isT_non_list,isT_non_tuple,isT_non_dict,kindT_bl,isNonT_bl,flatT_bl,flatK_bl,toV_bl,ofV_bl,keyT_bl,isT_bl_int,isT_bl_bool,isT_bl_str,isT_bl_list,isT_bl_tuple,isT_bl_dict,kindT_int,isNonT_int,flatT_int,flatK_int,isBT_int_true,isBT_int_false,toV_int,ofV_int,keyT_int,isT_int_int,isT_int_bool,isT_int_str,isT_int_list,isT_int_tuple,isT_int_dict,kindT_str,isNonT_str,flatT_str,flatK_str,isBT_str_true,isBT_str_false,toV_str,ofV_str,keyT_str,isT_str_int,isT_str_bool,isT_str_str,isT_str_list,isT_str_tuple,isT_str_dict,kindT_lst,isNonT_lst,flatT_lst,flatK_lst,isBT_lst_true,isBT_lst_false,lenT_lst,keyT_lst,isT_lst_int,isT_lst_bool,isT_lst_str,isT_lst_list,isT_lst_tuple,isT_lst_dict,kindT_tup,isNonT_tup,flatT_tup,flatK_tup,isBT_tup_true,isBT_tup_false,lenT_tup,keyT_tup,isT_tup_int,isT_tup_bool,isT_tup_str,isT_tup_list,isT_tup_tuple,isT_tup_dict,kindT_dic,isNonT_dic,flatT_dic,flatK_dic,isBT_dic_true,isBT_dic_false,lenT_dic,keyT_dic,isT_dic_int,isT_dic_bool,isT_dic_str,isT_dic_list,isT_dic_tuple,isT_dic_dict,kindT_obj,isNonT_obj,flatT_obj,flatK_obj,isBT_obj_true,isBT_obj_false,keyT_obj,kindT_drw,isNonT_drw,flatT_drw,flatK_drw,isBT_drw_true,isBT_drw_false,keyT_drw,kindT_ty,isNonT_ty,flatT_ty,flatK_ty,isBT_ty_true,isBT_ty_false,toV_ty,ofV_ty,keyT_ty,asD_dic,isBT_bl,dAddG_int,dAddG_str,dAddG_tup,dAddG_lst_lst,dAddG_lst_obj,dAddG_obj_lst,dAddG_obj_obj,dSlG_tup,dSlG_str,dSlG_lst,dSlG_obj])
local macro_rules | `(tactic| simp! only [$xs,*]) => `(tactic| try simp only [$xs,*,dSortI,dSortR,dLstRg,dRepW,dRetF,dForgets,asD_put,dSortS,dDPut,dCallZ,dBor,dBor0,diZ,dRevT,dStrI,dIsXT,dTry0,dTry,dXf,dIsX,dNewD,dDisp1,Prod.mk.injEq,wipeT,Int.toNat_natCast,asL_put,put_same,put_put,Cell.lst.injEq,atI_0,atI_1,atI_2,atI_3,atI_4,atI_5,atI_6,atI_7,atI_8,atI_9,Tr.ty.injEq,tyN_int,tyN_bool,tyN_str,tyN_list,tyN_tuple,tyN_dict,dVar,dC,dName,dOp,dI,dI0,dUn,dU,dEq,dNe,dTest,dAnd,dOr,dNot,dAndV,dOrV,dNotV,dIf,dChain,dNil,dCons,dTup,dLst,dCall,dCall0,dCB,dNext,dSeq,dRet,dRetN,dDrop,dBreak,dCont,dIfS,dgNil,dgCons,dTupG,dAsg,diL,diT,diS,diR1,diR2,diE,dYes,dIx,dLen,dInt,dMx,dSum,dAll,dIsi,dIsiT,doNone,doSome,dSl,dApp,dSub,dSet,dEqD,dGet,dGet1,dGet2,LT.dIn,dIsN,dIsB,dIn',dList,dTuple,dRaise,dMaxL,dMinL,dMinS,dRep,asL_lst,asS_lst,asS_tup,asT_tup,flatV',Tr.int.injEq,Tr.bl.injEq,Tr.str.injEq,Tr.lst.injEq,Tr.tup.injEq,Tr.obj.injEq,Option.isSome_some,List.map_cons,List.map_nil,List.length_cons,List.length_nil,List.replicate_succ,List.replicate_zero,List.cons_append,List.nil_append,List.append_nil,List.getElem?_cons_zero,List.getElem?_cons_succ,List.set_cons_zero,List.set_cons_succ,Nat.add_sub_cancel,Nat.reduceAdd,Nat.reduceSub,Option.some.injEq,List.cons.injEq,and_true,true_and,and_false,false_and,exists_eq_left,exists_eq_left',exists_and_left,exists_and_right,exists_eq,exists_eq',LL.if_dec,reduceCtorEq,exists_false,exists_const,or_false,false_or,if_true,if_false,and_assoc,Int.reduceEq,Int.reduceNe,Int.reduceNeg,Int.reduceLT,Int.reduceLE,Int.reduceMul,Int.reduceAdd,Int.reduceSub,Int.reducePow,Int.reduceToNat,Nat.reducePow,Nat.reduceLT,Nat.reduceLeDiff,true_or,or_true,Bool.not_true,Bool.not_false,Bool.false_eq_true,Bool.or_false,Bool.or_true,Bool.true_or,Bool.false_or,decide_true,decide_false,not_true_eq_false,not_false_eq_true,LL.scal_int,LL.scal_bl,LL.scal_str,V.int.injEq,V.bl.injEq,V.str.injEq,Nat.zero_le,forall_const,true_implies,kindT_non,isNonT_non,flatT_non,flatK_non,isBT_non_true,isBT_non_false,toV_non,ofV_non,keyT_non,isT_non_int,isT_non_bool,isT_non_str,isT_non_list,isT_non_tuple,isT_non_dict,kindT_bl,isNonT_bl,flatT_bl,flatK_bl,toV_bl,ofV_bl,keyT_bl,isT_bl_int,isT_bl_bool,isT_bl_str,isT_bl_list,isT_bl_tuple,isT_bl_dict,kindT_int,isNonT_int,flatT_int,flatK_int,isBT_int_true,isBT_int_false,toV_int,ofV_int,keyT_int,isT_int_int,isT_int_bool,isT_int_str,isT_int_list,isT_int_tuple,isT_int_dict,kindT_str,isNonT_str,flatT_str,flatK_str,isBT_str_true,isBT_str_false,toV_str,ofV_str,keyT_str,isT_str_int,isT_str_bool,isT_str_str,isT_str_list,isT_str_tuple,isT_str_dict,kindT_lst,isNonT_lst,flatT_lst,flatK_lst,isBT_lst_true,isBT_lst_false,lenT_lst,keyT_lst,isT_lst_int,isT_lst_bool,isT_lst_str,isT_lst_list,isT_lst_tuple,isT_lst_dict,kindT_tup,isNonT_tup,flatT_tup,flatK_tup,isBT_tup_true,isBT_tup_false,lenT_tup,keyT_tup,isT_tup_int,isT_tup_bool,isT_tup_str,isT_tup_list,isT_tup_tuple,isT_tup_dict,kindT_dic,isNonT_dic,flatT_dic,flatK_dic,isBT_dic_true,isBT_dic_false,lenT_dic,keyT_dic,isT_dic_int,isT_dic_bool,isT_dic_str,isT_dic_list,isT_dic_tuple,isT_dic_dict,kindT_obj,isNonT_obj,flatT_obj,flatK_obj,isBT_obj_true,isBT_obj_false,keyT_obj,kindT_drw,isNonT_drw,flatT_drw,flatK_drw,isBT_drw_true,isBT_drw_false,keyT_drw,kindT_ty,isNonT_ty,flatT_ty,flatK_ty,isBT_ty_true,isBT_ty_false,toV_ty,ofV_ty,keyT_ty,asD_dic,isBT_bl,dAddG_int,dAddG_str,dAddG_tup,dAddG_lst_lst,dAddG_lst_obj,dAddG_obj_lst,dAddG_obj_obj,dSlG_tup,dSlG_str,dSlG_lst,dSlG_obj])
variable {P : Program} {w : World} {K : PySem.W.Frag} {mg : Str → Option Value} {base : Heap}

/-! ### draws of rows -/
def wp_cfrom : Pw := fun ts Ω PQ _ => ∃ p w h : Int, ts = [.drw, .int p, .int w, .int h] ∧ 0 ≤ p ∧ p < 16384 ∧ wordB w = true ∧ holdB h = true ∧ ∀ c : Ch, c.p = p → c.w = w → c.h = h → chB (cT c) = true → PQ (cT c) Ω
def wp_crows : Pw := fun ts Ω PQ _ => ∃ n : Int, ts = [.drw, .int n] ∧ 0 ≤ n ∧ n ≤ 60 ∧ ∀ cs, OKC cs → cs.length ≤ 60 → PQ (.lst (cs.map cT)) Ω
def wp_behind : Pw := fun ts Ω PQ _ => ∃ cs : List Ch, ts = [.drw, .lst (cs.map cT)] ∧ OKC cs ∧ cs.length ≤ 1000 ∧ ∀ ds, OKC ds → Fits cs ds → ds.length ≤ cs.length + 3 → PQ (.lst (ds.map cT)) Ω
def wp_torn : Pw := fun ts Ω PQ _ => ∃ cs : List Ch, ts = [.drw, .lst (cs.map cT)] ∧ OKC cs ∧ cs ≠ [] ∧ cs.length ≤ 1000 ∧ ∀ ds, OKC ds → ¬ Fits cs ds → ds.length = cs.length → PQ (.lst (ds.map cT)) Ω
def wp_ncut : Pw := fun ts Ω PQ _ => ∃ I J, ts = [.drw, imT I, imT J] ∧ GI I ∧ GI J ∧ like I J = true ∧ ∀ L, GI L → like I L = true → PQ (imT L) Ω
theorem cf_call {p w h : Int} {Ω : Om} {P : PT'} {X : PXt} (h0 : 0 ≤ p) (h1 : p < 16384) (h2 : wordB w = true) (h3 : holdB h = true) (k : ∀ c : Ch, c.p = p → c.w = w → c.h = h → chB (cT c) = true → P (cT c) Ω) : wp_cfrom [.drw, .int p, .int w, .int h] Ω P X := ⟨p, w, h, rfl, h0, h1, h2, h3, k⟩
theorem hold0 : ∀ v ∈ (0 :: holdersL), holdB v = true := by decide
theorem hold_other {h : Int} : ∃ v ∈ (0 :: holdersL), v ≠ h := by
  by_cases e : h = 0
  · exact ⟨1, by decide, by omega⟩
  · exact ⟨0, by decide, by omega⟩
theorem okc_snoc {cs : List Ch} {c : Ch} (k : OKC cs) (h : chB (cT c) = true) (hp : ∀ a ∈ cs, a.p < c.p) : OKC (cs ++ [c]) := ⟨fun a ha => by
  rcases List.mem_append.mp ha with ha | ha
  · exact k.ok a ha
  · rw [List.mem_singleton.mp ha]; exact h, List.pairwise_append.mpr ⟨k.asc, .cons (fun _ h => by cases h) .nil, fun a ha b hb => by rw [List.mem_singleton.mp hb]; exact hp a ha⟩⟩
theorem okc_nil : OKC [] := ⟨fun _ h => (by cases h), .nil⟩
theorem in_ints {p : Int} {ns : List Int} : inT (.int p) (ns.map Tr.int) = true ↔ p ∈ ns := by
  unfold inT
  rw [List.any_eq_true]
  constructor
  · rintro ⟨t, ht, e⟩
    obtain ⟨n, hn, rfl⟩ := List.mem_map.mp ht
    have : n = p := by simpa [toV, eqV] using e
    exact this ▸ hn
  · intro h
    exact ⟨_, List.mem_map.mpr ⟨p, h, rfl⟩, by simp [toV, eqV]⟩
def headT : Tr → Tr
  | .tup (x :: _) => x
  | _ => .non
theorem heads {cs : List Ch} : (cs.map cT).map headT = (cs.map (·.p)).map Tr.int := by rw [List.map_map, List.map_map]; rfl
def chI (c : Ch) : List Int := [c.p, c.w, c.h, c.w', c.h']
theorem rows_cT {cs : List Ch} : (cs.map chI).map rowT = cs.map cT := by rw [List.map_map]; rfl
/-- rows in the order that sorted gives them -/
theorem sort_rows {acc : List Ch} (h : Nod acc) : ∃ ds : List Ch, ((acc.map chI).mergeSort leR).map rowT = ds.map cT ∧ ds.Perm acc ∧ Asc ds := by
  have e := List.map_mergeSort (r := fun a b : Ch => leR (chI a) (chI b)) (s := leR) (f := chI) (l := acc) (fun _ _ _ _ => rfl)
  have hp := List.mergeSort_perm acc fun a b : Ch => leR (chI a) (chI b)
  have hs := List.pairwise_mergeSort (le := fun a b : Ch => leR (chI a) (chI b)) (fun a b c h1 h2 => decide_eq_true (List.le_trans (of_decide_eq_true h1) (of_decide_eq_true h2))) (fun a b => by
    rcases List.le_total (chI a) (chI b) with h | h
    · rw [show leR (chI a) (chI b) = true from decide_eq_true h]; rfl
    · rw [show leR (chI b) (chI a) = true from decide_eq_true h, Bool.or_true]) acc
  refine ⟨acc.mergeSort fun a b => leR (chI a) (chI b), by rw [← e, rows_cT], hp, asc_of (List.pairwise_map.mpr (hs.imp fun h => ?_)) (by unfold Nod; exact (hp.map _).nodup_iff.mpr h)⟩
  rcases List.cons_le_cons_iff.mp (of_decide_eq_true h) with h | h
  · omega
  · exact Int.le_of_eq h.1
/-- rows of different places that go on where the first have ended -/
structure Beh (cs acc : List Ch) : Prop where
  ok : ∀ c ∈ acc, chB (cT c) = true
  nod : Nod acc
  fit : ∀ d ∈ acc, ∀ a ∈ cs, a.p = d.p → a.w' = d.w ∧ a.h' = d.h
theorem Beh.nil {cs : List Ch} : Beh cs [] := ⟨fun _ h => (nomatch h), List.nodup_nil, fun _ h => (nomatch h)⟩
theorem Beh.add {cs acc : List Ch} {c : Ch} (b : Beh cs acc) (h : chB (cT c) = true) (hn : ∀ d ∈ acc, d.p ≠ c.p) (hf : ∀ a ∈ cs, a.p = c.p → a.w' = c.w ∧ a.h' = c.h) : Beh cs (acc ++ [c]) := by
  refine ⟨fun d hd => ?_, ?_, fun d hd => ?_⟩
  · rcases List.mem_append.mp hd with hd | hd
    · exact b.ok d hd
    · rw [List.mem_singleton.mp hd]; exact h
  · unfold Nod
    rw [List.map_append]
    refine List.nodup_append.mpr ⟨b.nod, List.nodup_cons.mpr ⟨List.not_mem_nil, List.nodup_nil⟩, fun x hx y hy e => ?_⟩
    obtain ⟨d, hd, rfl⟩ := List.mem_map.mp hx
    have hy' : y = c.p := List.mem_singleton.mp hy
    exact hn d hd (by rw [← hy']; exact e)
  · rcases List.mem_append.mp hd with hd | hd
    · exact b.fit d hd
    · rw [List.mem_singleton.mp hd]; exact hf
theorem Beh.fits {cs acc ds : List Ch} (b : Beh cs acc) (hp : ds.Perm acc) (ha : Asc ds) : OKC ds ∧ Fits cs ds := by
  refine ⟨⟨fun c hc => b.ok c (hp.mem_iff.mp hc), ha⟩, fun p a d h1 h2 => ?_⟩
  obtain ⟨m1, e1⟩ := getP_mem h1
  obtain ⟨m2, e2⟩ := getP_mem h2
  exact b.fit d (hp.mem_iff.mp m2) a m1 (by rw [e1, e2])
theorem asc_same {cs : List Ch} {i : Nat} {c a : Ch} (h : Asc cs) (hc : cs[i]? = some c) (ha : a ∈ cs) (e : a.p = c.p) : a = c := by
  have h1 := h.nod.get ha
  rw [e, h.nod.get (List.mem_of_getElem? hc)] at h1
  exact (Option.some.inj h1).symm
theorem asc_new {cs : List Ch} {i : Nat} {c : Ch} (h : Asc cs) (hc : cs[i]? = some c) : ∀ a ∈ cs.take i, a.p ≠ c.p := getP_none (take_no h hc)
def latT : Tr → Tr
  | .tup [.int p, _, _, .int w', .int h'] => .tup [.int p, .int w', .int h', .int ((w' + 2) % 65536), .int h']
  | t => t
theorem set_map {α β : Type} {f : α → β} {L : List α} {k : Nat} {b : α} (h : k < L.length) : (L.set k b).map f = (L.map f).take k ++ [f b] ++ (L.map f).drop (k + 1) := by
  rw [List.map_set, List.set_eq_take_append_cons_drop, if_pos (by rw [List.length_map]; exact h), List.append_assoc]
  rfl
theorem for_R1N {dg : DG} {db : DS} {D : DN} {ρ : En} {Ω : Om} {da : DA} {R : Int → Prop} {Ω1 : Om} (he : ∀ P : List Tr → Om → Prop, (∀ n : Int, R n → P [.int n] Ω1) → da ρ Ω P (fun y Ω' => D.ex ρ y Ω')) (hb : ∀ n, R n → -(2 ^ 62) ≤ n ∧ n < 2 ^ 62) (W : Nat → En → Om → Prop) (w0 : W 0 ρ Ω1)
    (step : ∀ n, R n → ∀ (i : Nat) ρ' Ω', (i : Int) < n → W i ρ' Ω' → dg (.int i) ρ' Ω' (fun ρ2 Ω2 => db { D with nx := W (i + 1), ct := W (i + 1), bk := D.nx } ρ2 Ω2) nox) (fin : ∀ n, R n → ∀ ρ' Ω', W n.toNat ρ' Ω' → D.nx ρ' Ω') : dFor (diR1 da) dg db D ρ Ω :=
  he _ fun n hn => ⟨n, rfl, (hb n hn).1, (hb n hn).2, W, w0, fun _ _ _ _ => trivial, fun i t ρ' Ω' e w => by
    have hi : i < n.toNat := by have := (List.getElem?_eq_some_iff.mp e).1; rwa [rngT_len] at this
    rw [rngT_get hi, Int.zero_add] at e
    cases e
    exact step n hn _ ρ' Ω' (by omega) w, fun ρ' Ω' w => fin n hn ρ' Ω' (by rw [rngT_len] at w; exact w)⟩
def latC (c : Ch) : Ch := ⟨c.p, c.w', c.h', (c.w' + 2) % 65536, c.h'⟩
theorem lats {cs : List Ch} : (cs.map cT).map latT = (cs.map latC).map cT := by rw [List.map_map, List.map_map]; rfl
theorem torn_ok {cs : List Ch} {k : Nat} {a : Ch} {w2 h2 : Int} (kc : OKC cs) (ha : cs[k]? = some a) (hw : wordB w2 = true) (hh : holdB h2 = true) (hn : ¬ (w2 = a.w' ∧ h2 = a.h')) : OKC ((cs.map latC).set k ⟨a.p, w2, h2, (w2 + 1) % 65536, a.h'⟩) ∧ ¬ Fits cs ((cs.map latC).set k ⟨a.p, w2, h2, (w2 + 1) % 65536, a.h'⟩) := by
  obtain ⟨hk, hka⟩ := List.getElem?_eq_some_iff.mp ha
  have am := List.mem_of_getElem? ha
  have ua := chB_un (kc.ok a am)
  have hw' := word_le hw
  have hb : chB (cT ⟨a.p, w2, h2, (w2 + 1) % 65536, a.h'⟩) = true := chB_cT ua.1 ua.2.1 hw hh (word_of (v := (w2 + 1) % 65536) ⟨by omega, by omega⟩) ua.2.2.2.2.2.1 (fun z => by have := z.1; simp only at this; omega)
  have hasc : Asc ((cs.map latC).set k ⟨a.p, w2, h2, (w2 + 1) % 65536, a.h'⟩) := by
    have e : ((cs.map latC).set k ⟨a.p, w2, h2, (w2 + 1) % 65536, a.h'⟩).map (·.p) = cs.map (·.p) := by
      rw [List.map_set, List.map_map, show (fun c : Ch => c.p) ∘ latC = fun c => c.p from rfl]
      apply List.ext_getElem?
      intro j
      by_cases hj : k = j
      · subst hj
        rw [List.getElem?_set_self (by rw [List.length_map]; exact hk), List.getElem?_map, ha]
        rfl
      · rw [List.getElem?_set_ne hj]
    have h1 : (cs.map (·.p)).Pairwise (· < ·) := List.pairwise_map.mpr kc.asc
    rw [← e] at h1
    exact List.pairwise_map.mp h1
  refine ⟨⟨fun c hc => ?_, hasc⟩, fun F => ?_⟩
  · rcases List.mem_or_eq_of_mem_set hc with hc | rfl
    · obtain ⟨d, hd, rfl⟩ := List.mem_map.mp hc
      have ud := chB_un (kc.ok d hd)
      have := word_le ud.2.2.2.2.1
      exact chB_cT ud.1 ud.2.1 ud.2.2.2.2.1 ud.2.2.2.2.2.1 (word_of (v := (d.w' + 2) % 65536) ⟨by omega, by omega⟩) ud.2.2.2.2.2.1 (fun z => by have := z.1; simp only [latC] at this; omega)
    · exact hb
  · have h1 := kc.asc.nod.get am
    have h2 := hasc.nod.get (c := ⟨a.p, w2, h2, (w2 + 1) % 65536, a.h'⟩) (List.mem_iff_getElem?.mpr ⟨k, List.getElem?_set_self (by rw [List.length_map]; exact hk)⟩)
    have := F a.p a _ h1 h2
    exact hn ⟨this.1.symm, this.2.symm⟩
theorem ok_law_change_from (T : Tx K mg) : FnOk P w K mg base CX0 5 (He.ga K "_law_change_from") T.fd_law_change_from P_law_change_from (spD K wp_cfrom 4) := by
  refine dok T.F_law_change_from sc_law_change_from fun cdv A outer s H E hr => ?_
  refine' dokMk (PSs.nox (pss_cons (ps_set (i := 4) sc_law_change_from.nd rfl (Or.inl rfl) (pe_call (okt_law_take T) (hr.mono (by decide)) rfl T.g_law_take T.F_law_take.kp (b_law_take T) .nil pass0 (pa_cons (pv 0) (pa_cons (pe_int) pa_nil)))) (pss_cons (ps_set (i := 5) sc_law_change_from.nd rfl (Or.inl rfl) (pv 2)) (pss_cons (ps_set (i := 6) sc_law_change_from.nd rfl (Or.inl rfl) (pv 3)) (pss_cons (ps_if (pt_cmpR op_ne (pv 4) (pe_int) (nomark _)) (pss_one (ps_set (i := 5) sc_law_change_from.nd rfl (Or.inl rfl) (pe_call (ok_law_other_word T) (hr.mono (by decide)) rfl T.g_law_other_word T.F_law_other_word.kp (b_law_other_word T) .nil pass0 (pa_cons (pv 0) (pa_cons (pv 2) pa_nil))))) pss_nil) (pss_cons (ps_if (pt_cmpR op_gt (pv 4) (pe_int) (nomark _)) (pss_one (ps_set (i := 6) sc_law_change_from.nd rfl (Or.inl rfl) (pe_call (ok_law_other T) hr rfl T.g_law_other T.F_law_other.kp (b_law_other T) .nil pass0 (pa_cons (pv 0) (pa_cons (pe_op (show OpR _ _ (LT.rAddG K) from LT.op_addG) (pe_lst (pa_cons (pe_int) pa_nil)) (pe_call0 (ok_law_holders T) (hr.mono (by decide)) rfl T.g_law_holders T.F_law_holders.kp (b_law_holders T) .nil pass0)) (pa_cons (pv 3) pa_nil)))))) pss_nil) (pss_one (ps_ret (pe_tup (pa_cons (pv 1) (pa_cons (pv 2) (pa_cons (pv 3) (pa_cons (pv 5) (pa_cons (pv 6) pa_nil)))))))))))))) ?sim ?go
  case sim =>
    try simp only [LL.cxK0, LL.cxK1, List.map_cons, List.map_nil]
    repeat' (first | fail "s")
  case go =>
    intro ts Ω PQ PX hl h
    obtain ⟨p, w, h, rfl, h0, h1, hw, hh, q⟩ := h
    have hw' := word_le hw
    have hc : ∀ w' h', wordB w' = true → holdB h' = true → ¬ (w = w' ∧ h = h') → PQ (.tup [.int p, .int w, .int h, .int w', .int h']) Ω := fun w' h' a b n => q ⟨p, w, h, w', h'⟩ rfl rfl rfl (chB_cT h0 h1 hw hh a b n)
    simp! only [N_law_change_from]
    refine tk_call (by decide) fun v v0 v1 => ?_
    simp! only [and_true]
    refine itei (fun e => ow_call hw fun u hu hun => itei (fun e2 => ?_) fun e2 => hc _ _ hu hh (fun z => hun z.1.symm)) fun e => itei (fun e2 => ?_) fun e2 => ?_
    · refine lst_in ⟨rfl, ?_⟩
      simp! only [and_true]
      refine ⟨by decide, lst_in ⟨0 :: holdersL, h, rfl, hold_other, fun x hx hn => hc _ _ hu (hold0 x hx) (fun z => hun z.1.symm)⟩⟩
    · refine lst_in ⟨rfl, ?_⟩
      simp! only [and_true]
      refine ⟨by decide, lst_in ⟨0 :: holdersL, h, rfl, hold_other, fun x hx hn => hc _ _ hw (hold0 x hx) (fun z => hn z.2.symm)⟩⟩
    · simp at e
      omega
theorem ok_law_change_rows (T : Tx K mg) : FnOk P w K mg base CX0 6 (He.ga K "_law_change_rows") T.fd_law_change_rows P_law_change_rows (spD K wp_crows 2) := by
  refine dok T.F_law_change_rows sc_law_change_rows fun cdv A outer s H E hr => ?_
  refine' dokMk (PSs.nox (pss_cons (ps_set (i := 2) sc_law_change_rows.nd rfl (Or.inl rfl) (pe_lst pa_nil)) (pss_cons (ps_set (i := 3) sc_law_change_rows.nd rfl (Or.inl rfl) (pe_call (ok_law_among T) (hr.mono (by decide)) rfl T.g_law_among T.F_law_among.kp (b_law_among T) .nil pass0 (pa_cons (pv 0) (pa_cons (pe_lst (pa_cons (pe_int) (pa_cons (pe_call (okt_law_take T) (hr.mono (by decide)) rfl T.g_law_take T.F_law_take.kp (b_law_take T) .nil pass0 (pa_cons (pv 0) (pa_cons (pe_int) pa_nil))) (pa_cons (pe_op op_sub (pe_int) (pe_call (okt_law_take T) (hr.mono (by decide)) rfl T.g_law_take T.F_law_take.kp (b_law_take T) .nil pass0 (pa_cons (pv 0) (pa_cons (pe_int) pa_nil)))) pa_nil)))) pa_nil)))) (pss_cons (ps_for PassesOwn.never rfl (pi_range1 rfl T.z_range (pa_cons (pv 1) pa_nil)) (pg_name (i := 4) sc_law_change_rows.nd rfl (Or.inl rfl)) (pss_cons (ps_if (pt_cmpR op_gt (pv 3) (pe_int) (nomark _)) (pss_one ps_break) pss_nil) (pss_cons (ps_expr (pe_bm PySem.F.plainAttrs_list PySem.F.slot_list_append PySem.F.type_list_append mt_append (pv 2) (pa_cons (pe_call (ok_law_change_from T) hr rfl T.g_law_change_from T.F_law_change_from.kp (b_law_change_from T) .nil pass0 (pa_cons (pv 0) (pa_cons (pv 3) (pa_cons (pe_call (ok_law_word T) (hr.mono (by decide)) rfl T.g_law_word T.F_law_word.kp (b_law_word T) .nil pass0 (pa_cons (pv 0) (pa_cons (pe_int) pa_nil))) (pa_cons (pe_call (ok_law_holder T) (hr.mono (by decide)) rfl T.g_law_holder T.F_law_holder.kp (b_law_holder T) .nil pass0 (pa_cons (pv 0) pa_nil)) pa_nil))))) pa_nil))) (pss_one (ps_set (i := 3) sc_law_change_rows.nd rfl (Or.inl rfl) (pe_op (show OpR _ _ (LT.rAddG K) from LT.op_addG) (pe_op (show OpR _ _ (LT.rAddG K) from LT.op_addG) (pv 3) (pe_int)) (pe_call (okt_law_take T) (hr.mono (by decide)) rfl T.g_law_take T.F_law_take.kp (b_law_take T) .nil pass0 (pa_cons (pv 0) (pa_cons (pe_int) pa_nil))))))))) (pss_one (ps_ret (pv 2))))))) ?sim ?go
  case sim =>
    try simp only [LL.cxK0, LL.cxK1, List.map_cons, List.map_nil]
    repeat' (first | with_reducible apply sim_retThaw (i := 2) | fail "s")
  case go =>
    intro ts Ω PQ PX hl h
    obtain ⟨n, rfl, n0, n1, q⟩ := h
    simp! only [N_law_change_rows]
    refine .inr fun c hc => tk_call (by decide) fun v v0 v1 => tk_call (by decide) fun u u0 u1 => ?_
    simp! only [and_true]
    refine lst_in (am_call rfl (List.cons_ne_nil _ _) fun x hx => ?_)
    obtain ⟨pl, rfl, p0⟩ : ∃ pl : Int, x = .int pl ∧ 0 ≤ pl := by
      simp only [List.mem_cons, List.not_mem_nil, or_false] at hx
      rcases hx with rfl | rfl | rfl
      · exact ⟨_, rfl, by omega⟩
      · exact ⟨_, rfl, by omega⟩
      · exact ⟨_, rfl, by omega⟩
    refine for_R1 (n := n) (Ω1 := put Ω c (.lst [])) (fun P p => ?_) (by omega) (fun i ρ' Ω' => ∃ (acc : List Ch) (pl : Int) (x4 : Option Tr), Ω' = put Ω c (.lst (acc.map cT)) ∧ ρ' = [some .drw, some (.int n), some (.obj c), some (.int pl), x4] ∧ OKC acc ∧ (∀ a ∈ acc, a.p < pl) ∧ 0 ≤ pl ∧ acc.length ≤ i) ⟨[], pl, _, rfl, rfl, okc_nil, fun _ h => (by cases h), p0, Nat.le_refl _⟩ ?_ ?_
    · simp! only [and_true]
      exact p
    · rintro i ρ' Ω' hi ⟨acc, pl, x4, rfl, rfl, k, ha, p0, hl⟩
      simp! only [and_true]
      refine itei (fun h => ret_new rfl hc (q acc k (by omega))) fun h => wd_call rfl fun w hw => hd_call fun ho hho => cf_call p0 (by omega) hw hho fun d e1 e2 e3 e4 => ?_
      simp! only [asL_put]
      refine ⟨by rw [List.length_map]; omega, tk_call (by decide) fun y y0 y1 => ?_⟩
      simp! only [and_true]
      exact ⟨acc ++ [d], by rw [List.map_append]; rfl, okc_snoc k e4 (fun a h => by rw [e1]; exact ha a h), fun a h => by
        rcases List.mem_append.mp h with h | h
        · have := ha a h
          omega
        · rw [List.mem_singleton.mp h]
          omega, by omega, by rw [List.length_append]; exact Nat.succ_le_succ hl⟩
    · rintro ρ' Ω' ⟨acc, pl, x4, rfl, rfl, k, ha, p0, hl⟩
      exact ret_new rfl hc (q acc k (by omega))
theorem ok_law_near_cut (T : Tx K mg) : FnOk P w K mg base CX0 6 (He.ga K "_law_near_cut") T.fd_law_near_cut P_law_near_cut (spD K wp_ncut 3) := by
  refine dok T.F_law_near_cut sc_law_near_cut fun cdv A outer s H E hr => ?_
  refine' dokMk (PSs.nox (pss_cons (ps_if (pt_cmpR op_eq (pe_call (okt_law_take T) (hr.mono (by decide)) rfl T.g_law_take T.F_law_take.kp (b_law_take T) .nil pass0 (pa_cons (pv 0) (pa_cons (pe_int) pa_nil))) (pe_int) (nomark _)) (pss_one (ps_ret (pv 2))) pss_nil) (pss_one (ps_ret (pe_call (ok_law_near_image T) hr rfl T.g_law_near_image T.F_law_near_image.kp (b_law_near_image T) .nil pass0 (pa_cons (pv 0) (pa_cons (pv 1) pa_nil))))))) ?sim ?go
  case sim =>
    try simp only [LL.cxK0, LL.cxK1, List.map_cons, List.map_nil]
    repeat' (first | fail "s")
  case go =>
    intro ts Ω PQ PX hl h
    obtain ⟨I, J, rfl, gi, gj, lk, q⟩ := h
    simp! only [N_law_near_cut]
    refine tk_call (by decide) fun v v0 v1 => ?_
    simp! only [and_true]
    refine itei (fun _ => q J gj lk) fun _ => ⟨I, rfl, gi, fun L gl e1 e2 e3 => q L gl (like_iff.mpr ⟨e1, e2, e3⟩)⟩
theorem ok_law_behind_rows (T : Tx K mg) : FnOk P w K mg base CX0 6 (He.ga K "_law_behind_rows") T.fd_law_behind_rows P_law_behind_rows (spD K wp_behind 2) := by
  refine dok T.F_law_behind_rows sc_law_behind_rows fun cdv A outer s H E hr => ?_
  refine' dokMk (PSs.nox (pss_cons (ps_set (i := 2) sc_law_behind_rows.nd rfl (Or.inl rfl) (pe_lst pa_nil)) (pss_cons (ps_for PassesOwn.never rfl (LT.pi_seqK (K := K) rfl (pv 1)) (pg_name (i := 3) sc_law_behind_rows.nd rfl (Or.inl rfl)) (pss_cons (ps_set (i := 5) sc_law_behind_rows.nd rfl (Or.inl rfl) (pe_call (okt_law_take T) (hr.mono (by decide)) rfl T.g_law_take T.F_law_take.kp (b_law_take T) .nil pass0 (pa_cons (pv 0) (pa_cons (pe_int) pa_nil)))) (pss_cons (ps_if (pt_cmpR op_eq (pv 5) (pe_int) (nomark _)) (pss_one (ps_expr (pe_bm PySem.F.plainAttrs_list PySem.F.slot_list_append PySem.F.type_list_append mt_append (pv 2) (pa_cons (pe_tup (pa_cons (pe_ix (show IxR _ (LL.rIxA K) from LL.ix_A) (pv 3) (pe_int) (fun _ _ => rfl)) (pa_cons (pe_ix (show IxR _ (LL.rIxA K) from LL.ix_A) (pv 3) (pe_int) (fun _ _ => rfl)) (pa_cons (pe_ix (show IxR _ (LL.rIxA K) from LL.ix_A) (pv 3) (pe_int) (fun _ _ => rfl)) (pa_cons (pe_ix (show IxR _ (LL.rIxA K) from LL.ix_A) (pv 3) (pe_int) (fun _ _ => rfl)) (pa_cons (pe_ix (show IxR _ (LL.rIxA K) from LL.ix_A) (pv 3) (pe_int) (fun _ _ => rfl)) pa_nil)))))) pa_nil)))) pss_nil) (pss_one (ps_if (pt_cmpR op_gt (pv 5) (pe_int) (nomark _)) (pss_one (ps_expr (pe_bm PySem.F.plainAttrs_list PySem.F.slot_list_append PySem.F.type_list_append mt_append (pv 2) (pa_cons (pe_call (ok_law_change_from T) hr rfl T.g_law_change_from T.F_law_change_from.kp (b_law_change_from T) .nil pass0 (pa_cons (pv 0) (pa_cons (pe_ix (show IxR _ (LL.rIxA K) from LL.ix_A) (pv 3) (pe_int) (fun _ _ => rfl)) (pa_cons (pe_ix (show IxR _ (LL.rIxA K) from LL.ix_A) (pv 3) (pe_int) (fun _ _ => rfl)) (pa_cons (pe_ix (show IxR _ (LL.rIxA K) from LL.ix_A) (pv 3) (pe_int) (fun _ _ => rfl)) pa_nil))))) pa_nil)))) pss_nil))))) (pss_cons (ps_for PassesOwn.never rfl (pi_range1 rfl T.z_range (pa_cons (pe_call (okt_law_take T) (hr.mono (by decide)) rfl T.g_law_take T.F_law_take.kp (b_law_take T) .nil pass0 (pa_cons (pv 0) (pa_cons (pe_int) pa_nil))) pa_nil)) (pg_name (i := 4) sc_law_behind_rows.nd rfl (Or.inl rfl)) (pss_cons (ps_set (i := 6) sc_law_behind_rows.nd rfl (Or.inl rfl) (pe_call (ok_law_among T) (hr.mono (by decide)) rfl T.g_law_among T.F_law_among.kp (b_law_among T) .nil pass0 (pa_cons (pv 0) (pa_cons (pe_lst (pa_cons (pe_call (okt_law_take T) (hr.mono (by decide)) rfl T.g_law_take T.F_law_take.kp (b_law_take T) .nil pass0 (pa_cons (pv 0) (pa_cons (pe_int) pa_nil))) (pa_cons (pe_call (okt_law_take T) (hr.mono (by decide)) rfl T.g_law_take T.F_law_take.kp (b_law_take T) .nil pass0 (pa_cons (pv 0) (pa_cons (pe_int) pa_nil))) (pa_cons (pe_int) (pa_cons (pe_int) pa_nil))))) pa_nil)))) (pss_one (ps_if (pt_cmpR (show OpR _ _ (rIn K true) from op_notIn_seq) (pv 6) (pe_op (show OpR _ _ (LT.rAddG K) from LT.op_addG) (pe_lc (own := [("_law_one", 3)]) (by rfl) sc_law_behind_rows.nd (LT.pi_seqK (K := K) rfl (pv 1)) (blkOk_by (N := N_law_behind_rows) (sc := defScope s_law_behind_rows) (by decide +kernel)) (fun _ _ _ _ _ => (pg_name (i := 3) sc_law_behind_rows.nd rfl (Or.inl rfl))) (fun _ _ _ _ _ => pts_nil) (fun _ _ _ _ _ => (pe_ix (show IxR _ (LL.rIxA K) from LL.ix_A) (pv 3) (pe_int) (fun _ _ => rfl)))) (pe_lc (own := [("_law_one", 3)]) (by rfl) sc_law_behind_rows.nd (LT.pi_seqK (K := K) rfl (pv 2)) (blkOk_by (N := N_law_behind_rows) (sc := defScope s_law_behind_rows) (by decide +kernel)) (fun _ _ _ _ _ => (pg_name (i := 3) sc_law_behind_rows.nd rfl (Or.inl rfl))) (fun _ _ _ _ _ => pts_nil) (fun _ _ _ _ _ => (pe_ix (show IxR _ (LL.rIxA K) from LL.ix_A) (pv 3) (pe_int) (fun _ _ => rfl))))) (by rfl)) (pss_one (ps_expr (pe_bm PySem.F.plainAttrs_list PySem.F.slot_list_append PySem.F.type_list_append mt_append (pv 2) (pa_cons (pe_call (ok_law_change_from T) hr rfl T.g_law_change_from T.F_law_change_from.kp (b_law_change_from T) .nil pass0 (pa_cons (pv 0) (pa_cons (pv 6) (pa_cons (pe_call (ok_law_word T) (hr.mono (by decide)) rfl T.g_law_word T.F_law_word.kp (b_law_word T) .nil pass0 (pa_cons (pv 0) (pa_cons (pe_int) pa_nil))) (pa_cons (pe_call (ok_law_holder T) (hr.mono (by decide)) rfl T.g_law_holder T.F_law_holder.kp (b_law_holder T) .nil pass0 (pa_cons (pv 0) pa_nil)) pa_nil))))) pa_nil)))) pss_nil)))) (pss_one (ps_ret (pe_callB (show CallR _ _ (LL.rSortedR K) from LL.cr_sortedR hr.units) (by rfl) T.z_sorted (by decide +kernel) (pa_cons (pv 2) pa_nil)))))))) ?sim ?go
  case sim =>
    try simp only [LL.cxK0, LL.cxK1, List.map_cons, List.map_nil]
    repeat' (first | with_reducible apply sim_retF | fail "s")
  case go =>
    intro ts Ω PQ PX hl h
    obtain ⟨cs, rfl, kc, lc, q⟩ := h
    simp! only [N_law_behind_rows]
    refine .inr fun c hc => ?_
    refine for_S (t := .lst (cs.map cT)) rfl rfl (fun i ρ' Ω' => ∃ (acc : List Ch) (x3 x4 x5 x6 : Option Tr), Ω' = put Ω c (.lst (acc.map cT)) ∧ ρ' = [some .drw, some (.lst (cs.map cT)), some (.obj c), x3, x4, x5, x6] ∧ Beh cs acc ∧ (∀ d ∈ acc, ∃ a ∈ cs.take i, a.p = d.p) ∧ acc.length ≤ i) ⟨[], _, _, _, _, rfl, rfl, .nil, fun _ h => (nomatch h), Nat.le_refl _⟩ (fun _ _ _ _ => trivial) ?_ ?_
    · rintro hz i x ρ' Ω' hx ⟨acc, x3, x4, x5, x6, rfl, rfl, bh, hb, hl⟩
      rw [List.getElem?_map] at hx
      obtain ⟨a, ha, rfl⟩ := Option.map_eq_some_iff.mp hx
      have hi := (List.getElem?_eq_some_iff.mp ha).1
      have e1 : cs.take (i + 1) = cs.take i ++ [a] := take_one ha
      have ua := chB_un (kc.ok a (List.mem_of_getElem? ha))
      have new : ∀ d ∈ acc, d.p ≠ a.p := fun d hd e => by
        obtain ⟨b, hb1, hb2⟩ := hb d hd
        exact asc_new kc.asc ha b hb1 (by rw [hb2, e])
      have keep : ∀ d ∈ acc, ∃ b ∈ cs.take (i + 1), b.p = d.p := fun d hd => by
        obtain ⟨b, hb1, hb2⟩ := hb d hd
        exact ⟨b, by rw [e1]; exact List.mem_append_left _ hb1, hb2⟩
      have go : ∀ d : Ch, d.p = a.p → d.w = a.w' → d.h = a.h' → chB (cT d) = true → Beh cs (acc ++ [d]) ∧ (∀ d' ∈ acc ++ [d], ∃ b ∈ cs.take (i + 1), b.p = d'.p) ∧ (acc ++ [d]).length ≤ i + 1 := fun d k1 k2 k3 k4 => by
        refine ⟨bh.add k4 (by rw [k1]; exact new) (fun b hb2 e => ?_), fun d' hd' => ?_, by rw [List.length_append]; exact Nat.succ_le_succ hl⟩
        · rw [asc_same kc.asc ha hb2 (by rw [e, k1]), k2, k3]
          exact ⟨rfl, rfl⟩
        · rcases List.mem_append.mp hd' with hd' | hd'
          · exact keep d' hd'
          · rw [List.mem_singleton.mp hd', k1]
            exact ⟨a, by rw [e1]; exact List.mem_append_right _ (List.mem_singleton_self _), rfl⟩
      simp! only [and_true]
      refine tk_call (by decide) fun v v0 v1 => ?_
      simp! only [cT]
      refine itei (fun h => ?_) fun h => ?_
      · simp! only [asL_put]
        refine ⟨by rw [List.length_map]; omega, itei (fun h2 => ?_) fun h2 => ?_⟩
        · exfalso
          have : v = 1 := by simpa using h
          omega
        · obtain ⟨g1, g2, g3⟩ := go ⟨a.p, a.w', a.h', a.w, a.h⟩ rfl rfl rfl (chB_cT ua.1 ua.2.1 ua.2.2.2.2.1 ua.2.2.2.2.2.1 ua.2.2.1 ua.2.2.2.1 (fun z => ua.2.2.2.2.2.2 ⟨z.1.symm, z.2.symm⟩))
          exact ⟨acc ++ [⟨a.p, a.w', a.h', a.w, a.h⟩], by rw [List.map_append]; rfl, g1, g2, g3⟩
      · refine itei (fun h2 => cf_call ua.1 ua.2.1 ua.2.2.2.2.1 ua.2.2.2.2.2.1 fun d k1 k2 k3 k4 => ?_) fun h2 => ⟨acc, rfl, bh, keep, by omega⟩
        simp! only [asL_put]
        obtain ⟨g1, g2, g3⟩ := go d k1 k2 k3 k4
        exact ⟨by rw [List.length_map]; omega, acc ++ [d], by rw [List.map_append]; rfl, g1, g2, g3⟩
    rintro ρ' Ω' ⟨acc, x3, x4, x5, x6, rfl, rfl, bh, hb, hl⟩
    rw [List.length_map] at hl
    clear hb
    simp! only [and_true]
    refine for_R1N (R := fun n => 0 ≤ n ∧ n ≤ 3) (Ω1 := put Ω c (.lst (acc.map cT))) (fun P p => ?_) (fun n hn => by omega) (fun i ρ' Ω' => ∃ (acc : List Ch) (x3 x4 x5 x6 : Option Tr), Ω' = put Ω c (.lst (acc.map cT)) ∧ ρ' = [some .drw, some (.lst (cs.map cT)), some (.obj c), x3, x4, x5, x6] ∧ Beh cs acc ∧ acc.length ≤ cs.length + i) ⟨acc, _, _, _, _, rfl, rfl, bh, hl⟩ ?_ ?_
    · simp! only [and_true]
      exact tk_call (by decide) fun v a b => p v ⟨by omega, by omega⟩
    · clear bh hl acc
      rintro n hn i ρ' Ω' hi ⟨acc, x3, x4, x5, x6, rfl, rfl, bh, hl⟩
      simp! only [and_true]
      refine tk_call (by decide) fun y y0 y1 => tk_call (by decide) fun z z0 z1 => lst_in (am_call rfl (List.cons_ne_nil _ _) fun x hx => ?_)
      obtain ⟨pl, rfl, p0, p1⟩ : ∃ pl : Int, x = .int pl ∧ 0 ≤ pl ∧ pl < 16384 := by
        simp only [List.mem_cons, List.not_mem_nil, or_false] at hx
        rcases hx with rfl | rfl | rfl | rfl
        · exact ⟨_, rfl, by omega, by omega⟩
        · exact ⟨_, rfl, by omega, by omega⟩
        · exact ⟨_, rfl, by omega, by omega⟩
        · exact ⟨_, rfl, by omega, by omega⟩
      simp! only [and_true]
      refine map_S (t := .lst (cs.map cT)) (ts := cs.map cT) (fun P p => ⟨_, rfl, p⟩) rfl headT mono_dName (fun x hx Q q => ?_) (.inl ?_)
      · obtain ⟨d, _, rfl⟩ := List.mem_map.mp hx
        simp! only [cT]
        exact q
      refine map_S (t := .obj c) (ts := acc.map cT) (fun P p => ⟨_, rfl, p⟩) (asS_obj put_same) headT mono_dName (fun x hx Q q => ?_) (.inl ?_)
      · obtain ⟨d, _, rfl⟩ := List.mem_map.mp hx
        simp! only [cT]
        exact q
      rw [heads, heads]
      simp! only [and_true]
      refine ⟨by simp only [List.length_map]; omega, lst_in ?_⟩
      rw [← List.map_append]
      refine ⟨_, rfl, flat_ints, itei (fun h => ?_) fun h => ⟨acc, rfl, bh, by omega⟩⟩
      have hn : pl ∉ cs.map (·.p) ++ acc.map (·.p) := fun hm => by rw [in_ints.mpr hm] at h; cases h
      simp! only [asL_put]
      refine wd_call rfl fun w hw => hd_call fun ho hho => cf_call p0 p1 hw hho fun d e1 e2 e3 e4 => ?_
      simp! only [and_true]
      refine ⟨by rw [List.length_map]; omega, acc ++ [d], by rw [List.map_append]; rfl, bh.add e4 (fun b hb e => hn ?_) (fun b hb e => (hn ?_).elim), by rw [List.length_append]; exact Nat.succ_le_succ hl⟩
      · exact List.mem_append_right _ (List.mem_map.mpr ⟨b, hb, by rw [e, e1]⟩)
      · exact List.mem_append_left _ (List.mem_map.mpr ⟨b, hb, by rw [e, e1]⟩)
    · rintro n hn ρ' Ω' ⟨acc, x3, x4, x5, x6, rfl, rfl, bh, hl⟩
      simp! only [asL_put]
      obtain ⟨ds, e, hp, ha⟩ := sort_rows bh.nod
      obtain ⟨b1, b2⟩ := bh.fits hp ha
      refine ⟨acc.map chI, rows_cT.symm, fun r hr => ?_, .inl (retF_1 hc ?_)⟩
      · obtain ⟨d, _, rfl⟩ := List.mem_map.mp hr
        exact List.cons_ne_nil _ _
      · rw [e]
        exact q ds b1 b2 (by rw [hp.length_eq]; omega)
theorem ok_law_torn (T : Tx K mg) : FnOk P w K mg base CX0 5 (He.ga K "_law_torn") T.fd_law_torn P_law_torn (spD K wp_torn 2) := by
  refine dok T.F_law_torn sc_law_torn fun cdv A outer s H E hr => ?_
  refine' dokMk (PSs.nox (pss_cons (ps_set (i := 2) sc_law_torn.nd rfl (Or.inl rfl) (pe_call (okt_law_take T) (hr.mono (by decide)) rfl T.g_law_take T.F_law_take.kp (b_law_take T) .nil pass0 (pa_cons (pv 0) (pa_cons (pe_callB (show CallR _ _ (LT.rLenS K) from LT.call_lenS) (by rfl) T.z_len (by decide +kernel) (pa_cons (pv 1) pa_nil)) pa_nil)))) (pss_cons (ps_set (i := 3) sc_law_torn.nd rfl (Or.inl rfl) (pe_ix (show IxR _ (LL.rIxA K) from LL.ix_A) (pv 1) (pv 2) (fun _ _ => rfl))) (pss_cons (ps_set (i := 4) sc_law_torn.nd rfl (Or.inl rfl) (pe_call (ok_law_other T) hr rfl T.g_law_other T.F_law_other.kp (b_law_other T) .nil pass0 (pa_cons (pv 0) (pa_cons (pe_lst (pa_cons (pe_int) (pa_cons (pe_int) (pa_cons (pe_int) (pa_cons (pe_ix (show IxR _ (LL.rIxA K) from LL.ix_A) (pv 3) (pe_int) (fun _ _ => rfl)) pa_nil))))) (pa_cons (pe_ix (show IxR _ (LL.rIxA K) from LL.ix_A) (pv 3) (pe_int) (fun _ _ => rfl)) pa_nil))))) (pss_cons (ps_set (i := 5) sc_law_torn.nd rfl (Or.inl rfl) (pe_call (ok_law_other T) hr rfl T.g_law_other T.F_law_other.kp (b_law_other T) .nil pass0 (pa_cons (pv 0) (pa_cons (pe_lst (pa_cons (pe_int) (pa_cons (pe_int) (pa_cons (pe_int) (pa_cons (pe_int) (pa_cons (pe_ix (show IxR _ (LL.rIxA K) from LL.ix_A) (pv 3) (pe_int) (fun _ _ => rfl)) pa_nil)))))) (pa_cons (pe_ix (show IxR _ (LL.rIxA K) from LL.ix_A) (pv 3) (pe_int) (fun _ _ => rfl)) pa_nil))))) (pss_cons (ps_set (i := 6) sc_law_torn.nd rfl (Or.inl rfl) (pe_call (okt_law_take T) (hr.mono (by decide)) rfl T.g_law_take T.F_law_take.kp (b_law_take T) .nil pass0 (pa_cons (pv 0) (pa_cons (pe_int) pa_nil)))) (pss_cons (ps_if (pt_cmpR op_eq (pv 6) (pe_int) (nomark _)) (pss_one (ps_set (i := 5) sc_law_torn.nd rfl (Or.inl rfl) (pe_ix (show IxR _ (LL.rIxA K) from LL.ix_A) (pv 3) (pe_int) (fun _ _ => rfl)))) pss_nil) (pss_cons (ps_if (pt_cmpR op_eq (pv 6) (pe_int) (nomark _)) (pss_one (ps_set (i := 4) sc_law_torn.nd rfl (Or.inl rfl) (pe_ix (show IxR _ (LL.rIxA K) from LL.ix_A) (pv 3) (pe_int) (fun _ _ => rfl)))) pss_nil) (pss_cons (ps_set (i := 7) sc_law_torn.nd rfl (Or.inl rfl) (pe_op op_mod (pe_callTy LT.call_int (by rfl) T.z_int (by decide +kernel) (pa_cons (pe_op (show OpR _ _ (LT.rAddG K) from LT.op_addG) (pv 4) (pe_int)) pa_nil)) (pe_int))) (pss_cons (ps_setLc (i := 8) (own := [("_law_row", 9)]) rfl sc_law_torn.nd rfl rfl (sw_true rfl rfl rfl (by decide +kernel)) (LT.pi_seqK (K := K) rfl (pv 1)) (blkOk_by (N := N_law_torn) (sc := defScope s_law_torn) (by decide +kernel)) (fun _ _ _ _ _ => (pg_name (i := 9) sc_law_torn.nd rfl (Or.inl rfl))) (fun _ _ _ _ _ => pts_nil) (fun _ _ _ _ _ => (pe_tup (pa_cons (pe_ix (show IxR _ (LL.rIxA K) from LL.ix_A) (pv 9) (pe_int) (fun _ _ => rfl)) (pa_cons (pe_ix (show IxR _ (LL.rIxA K) from LL.ix_A) (pv 9) (pe_int) (fun _ _ => rfl)) (pa_cons (pe_ix (show IxR _ (LL.rIxA K) from LL.ix_A) (pv 9) (pe_int) (fun _ _ => rfl)) (pa_cons (pe_op op_mod (pe_callTy LT.call_int (by rfl) T.z_int (by decide +kernel) (pa_cons (pe_op (show OpR _ _ (LT.rAddG K) from LT.op_addG) (pe_ix (show IxR _ (LL.rIxA K) from LL.ix_A) (pv 9) (pe_int) (fun _ _ => rfl)) (pe_int)) pa_nil)) (pe_int)) (pa_cons (pe_ix (show IxR _ (LL.rIxA K) from LL.ix_A) (pv 9) (pe_int) (fun _ _ => rfl)) pa_nil)))))))) (pss_one (ps_ret (pe_op (show OpR _ _ (LT.rAddG K) from LT.op_addG) (pe_op (show OpR _ _ (LT.rAddG K) from LT.op_addG) (pe_slice (show SlR _ (LT.rSlG K) from LT.sl_G) (pv 8) po_none (po_some (pv 2))) (pe_lst (pa_cons (pe_tup (pa_cons (pe_ix (show IxR _ (LL.rIxA K) from LL.ix_A) (pv 3) (pe_int) (fun _ _ => rfl)) (pa_cons (pv 4) (pa_cons (pv 5) (pa_cons (pv 7) (pa_cons (pe_ix (show IxR _ (LL.rIxA K) from LL.ix_A) (pv 3) (pe_int) (fun _ _ => rfl)) pa_nil)))))) pa_nil))) (pe_slice (show SlR _ (LT.rSlG K) from LT.sl_G) (pv 8) (po_some (pe_op (show OpR _ _ (LT.rAddG K) from LT.op_addG) (pv 2) (pe_int))) po_none)))))))))))))) ?sim ?go
  case sim =>
    try simp only [LL.cxK0, LL.cxK1, List.map_cons, List.map_nil]
    repeat' (first | fail "s")
  case go =>
    intro ts Ω PQ PX hl h
    obtain ⟨cs, rfl, kc, ne, lc, q⟩ := h
    simp! only [N_law_torn]
    refine fun _ => tk_call (tk_big (by rw [List.length_map]; omega) (by rw [List.length_map]; omega)) fun v v0 v1 => ?_
    rw [List.length_map] at v1
    have hpos := List.length_pos_iff.mpr ne
    obtain ⟨k, rfl⟩ : ∃ k : Nat, v = k := ⟨v.toNat, by omega⟩
    have hk : k < cs.length := by omega
    obtain ⟨a, ha⟩ : ∃ a, cs[k]? = some a := ⟨_, List.getElem?_eq_getElem hk⟩
    have ea : L2.atI (cs.map cT) (k : Int) = some (cT a) := atI_nat (by rw [List.getElem?_map, ha]; rfl)
    have ua := chB_un (kc.ok a (List.mem_of_getElem? ha))
    have fin : ∀ w2 h2 : Int, wordB w2 = true → holdB h2 = true → ¬ (w2 = a.w' ∧ h2 = a.h') → PQ (.lst (((cs.map latC).map cT).take k ++ [.tup [.int a.p, .int w2, .int h2, .int ((w2 + 1) % 65536), .int a.h']] ++ ((cs.map latC).map cT).drop (k + 1))) Ω := fun w2 h2 a' b c => by
      obtain ⟨t1, t2⟩ := torn_ok kc ha a' b c
      have e := set_map (f := cT) (L := cs.map latC) (k := k) (b := ⟨a.p, w2, h2, (w2 + 1) % 65536, a.h'⟩) (by rw [List.length_map]; exact hk)
      rw [show Tr.tup [.int a.p, .int w2, .int h2, .int ((w2 + 1) % 65536), .int a.h'] = cT ⟨a.p, w2, h2, (w2 + 1) % 65536, a.h'⟩ from rfl, ← e]
      exact q _ t1 t2 (by rw [List.length_set, List.length_map])
    simp! only [ea, cT]
    refine lst_in ⟨[0, 1, 65535, a.w], a.w', rfl, ?_, fun w hw hwn => lst_in ?_⟩
    · by_cases e : a.w' = 0
      · exact ⟨1, by simp, by omega⟩
      · exact ⟨0, by simp, by omega⟩
    have hw1 : wordB w = true := by
      simp only [List.mem_cons, List.not_mem_nil, or_false] at hw
      rcases hw with rfl | rfl | rfl | rfl
      · rfl
      · rfl
      · rfl
      · exact ua.2.2.1
    refine ⟨[0, 1, 8, 28, a.h], a.h', rfl, ?_, fun h hh hhn => tk_call (by decide) fun kd kd0 kd1 => ?_⟩
    · by_cases e : a.h' = 0
      · exact ⟨1, by simp, by omega⟩
      · exact ⟨0, by simp, by omega⟩
    have hh1 : holdB h = true := by
      simp only [List.mem_cons, List.not_mem_nil, or_false] at hh
      rcases hh with rfl | rfl | rfl | rfl | rfl
      · rfl
      · rfl
      · rfl
      · rfl
      · exact ua.2.2.2.1
    have k1 := cutT_to (us := (cs.map latC).map cT) (k := k)
    have k2 := cut_next (us := (cs.map latC).map cT) (k := k) (by rw [List.length_map, List.length_map]; exact hk)
    simp! only [and_true]
    refine itei (fun h1 => itei (fun h2 => by omega) fun h2 => ?_) fun h1 => itei (fun h2 => ?_) fun h2 => ?_
    all_goals
      refine map_S (t := .lst (cs.map cT)) (ts := cs.map cT) (fun P p => ⟨_, rfl, p⟩) rfl latT mono_dName (fun x hx Q q => ?_) (.inl ?_)
      · obtain ⟨d, _, rfl⟩ := List.mem_map.mp hx
        simp! only [cT]
        exact q
      rw [lats]
      simp! only [k1, k2]
      repeat' (first | fail "r" | with_reducible refine And.intro (by fail "l") ?_)
      first | exact fin _ _ hw1 ua.2.2.2.2.2.1 (fun z => hwn z.1) | exact fin _ _ ua.2.2.2.2.1 hh1 (fun z => hhn z.2) | exact fin _ _ hw1 hh1 (fun z => hwn z.1)
end K11

namespace K11
open PySem PySem.Spec PyProof.Rows L2 LL LT
local macro_rules | `(tactic| fail "s") => `(tactic| first | (with_reducible first | exact sim_var | exact sim_int | exact sim_bl | exact sim_str | exact sim_non | exact sim_ty | exact sim_ref | exact sim_nil | apply sim_cons | apply sim_op | apply simr_I0 | apply simr_I | exact simr_Eq | exact simr_Ne | exact simr_IxA | exact simr_addG | exact simr_isN | exact simr_notN | exact simr_isB | exact simr_in | exact simr_IxL | exact simr_IxT | exact simr_IxS | exact simr_EqD | exact simr_NeD | exact simr_rep | exact simr_repW | apply sim_un | apply sim_test | apply sim_tB | apply sim_and | apply sim_or | apply sim_not | apply sim_andV | apply sim_orV | apply sim_notV | apply sim_if | apply sim_chain | apply sim_tup | apply sim_lst | apply sim_bor0 | apply sim_bor | apply sim_borS | apply sim_call0 | apply sim_call | apply sim_callS | apply sim_callZ | apply sim_isXT | apply sim_isX | apply sim_xf | apply sim_sortS | apply sim_listRg | apply sim_CB | exact simc_len | exact simc_int | exact simc_isi | exact simc_mx | exact simc_mn | exact simc_sum | exact simc_maxL | exact simc_minL | exact simc_minS | exact simc_all | exact simc_any | exact simc_list | exact simc_tuple | exact simc_isiT | exact simc_strI | exact simc_sortI | exact simc_sortR | apply sim_sl | exact simsl_G | exact simsl_L | exact sim_oNone | apply sim_oSome | apply sim_append | exact sim_newD | apply sim_disp1 | apply sim_dget2 | apply sim_dget1 | apply sim_dget | apply sim_din | apply sim_dnotin | apply sim_lc | apply sim_dc | exact sim_yes | apply sim_iL | apply sim_iT | apply sim_iS | apply sim_iR1 | apply sim_iR2 | apply sim_iE | apply sim_iZ | apply sim_revT | exact gin_name (by decide) | apply gin_tup | exact gin_nil | apply gin_cons | exact mono_name | exact mono_nil | apply mono_cons | apply mono_tup | exact sim_next | apply sim_mk | apply sim_fgl | apply sim_fg | apply sim_seq | apply sim_ret | exact sim_retN | apply sim_drop | exact sim_break | exact sim_cont | apply sim_ifS | apply sim_asg | exact sim_gName | apply sim_gTup | exact sim_gNil | apply sim_gCons | apply sim_gSub | apply sim_for | apply sim_while | apply sim_dput | apply sim_raise | apply sim_tryT0 | apply sim_tryT) | exact fun _ _ => rfl | exact fun _ => rfl | exact fun _ _ _ _ => rfl | intro W | intro a cls d x)
local macro_rules | `(tactic| fail "l") => `(tactic| (simp only [List.length_append,List.length_take,List.length_drop,List.length_map,List.length_cons,List.length_nil,List.length_set,List.length_replicate,List.length_range]; omega))
local macro_rules | `(tactic| fail "r") => `(tactic| first | fail "d" | with_reducible refine fun (_ : _ ≤ 1000000) => ?_ | with_reducible refine Or.inl (fun (_ : _ ≤ 1000000) => ?_) | with_reducible refine lst_in ?_ | with_reducible refine dic_in ?_ | with_reducible refine tk_call (by first | decide | exact tk_big (by omega) (by omega)) fun v h0 h1 => ?_ | with_reducible refine bt_call (by first | decide | exact tk_big (by omega) (by omega)) fun v h0 h1 => ?_ | with_reducible refine ct_call (by first | decide | exact ⟨by omega, by omega, by omega⟩) fun v h0 h1 => ?_ | with_reducible refine LL.itei (fun h => ?_) fun h => ?_ | with_reducible refine pickP (by omega) (by simp only [List.length_cons, List.length_nil]; omega) ?_ | with_reducible refine List.forall_mem_cons.mpr (And.intro ?_ ?_) | with_reducible exact LT.nil_all | with_reducible refine And.intro (by first | (unfold CPow; decide) | omega | rfl) ?_ | with_reducible refine am_call rfl (List.cons_ne_nil _ _) ?_ | refine And.intro (show CMul _ _ from .inl ⟨by omega, by omega⟩) ?_)
local macro_rules | `(tactic| fail "d") => `(tactic| simp only [and_true,dSortI,dSortR,dLstRg,dRepW,dRetF,dForgets,asD_put,dSortS,dDPut,dCallZ,dBor,dBor0,diZ,dRevT,dStrI,dIsXT,dTry0,dTry,dXf,dIsX,dNewD,dDisp1,Prod.mk.injEq,wipeT,Int.toNat_natCast,asL_put,put_same,put_put,Cell.lst.injEq,atI_0,atI_1,atI_2,atI_3,atI_4,atI_5,atI_6,atI_7,atI_8,atI_9,Tr.ty.injEq,tyN_int,tyN_bool,tyN_str,tyN_list,tyN_tuple,tyN_dict,dVar,dC,dName,dOp,dI,dI0,dUn,dU,dEq,dNe,dTest,dAnd,dOr,dNot,dAndV,dOrV,dNotV,dIf,dChain,dNil,dCons,dTup,dLst,dCall,dCall0,dCB,dNext,dSeq,dRet,dRetN,dDrop,dBreak,dCont,dIfS,dgNil,dgCons,dTupG,dAsg,diL,diT,diS,diR1,diR2,diE,dYes,dIx,dLen,dInt,dMx,dSum,dAll,dIsi,dIsiT,doNone,doSome,dSl,dApp,dSub,dSet,dEqD,dGet,dGet1,dGet2,LT.dIn,dIsN,dIsB,dIn',dList,dTuple,dRaise,dMaxL,dMinL,dMinS,dRep,asL_lst,asS_lst,asS_tup,asT_tup,flatV',Tr.int.injEq,Tr.bl.injEq,Tr.str.injEq,Tr.lst.injEq,Tr.tup.injEq,Tr.obj.injEq,Option.isSome_some,List.map_cons,List.map_nil,List.length_cons,List.length_nil,List.replicate_succ,List.replicate_zero,List.cons_append,List.nil_append,List.append_nil,List.getElem?_cons_zero,List.getElem?_cons_succ,List.set_cons_zero,List.set_cons_succ,Nat.add_sub_cancel,Nat.reduceAdd,Nat.reduceSub,Option.some.injEq,List.cons.injEq,and_true,true_and,and_false,false_and,exists_eq_left,exists_eq_left',exists_and_left,exists_and_right,exists_eq,exists_eq',LL.if_dec,reduceCtorEq,exists_false,exists_const,or_false,false_or,if_true,if_false,and_assoc,Int.reduceEq,Int.reduceNe,Int.reduceNeg,Int.reduceLT,Int.reduceLE,Int.reduceMul,Int.reduceAdd,Int.reduceSub,Int.reducePow,Int.reduceToNat,Nat.reducePow,Nat.reduceLT,Nat.reduceLeDiff,true_or,or_true,Bool.not_true,Bool.not_false,Bool.false_eq_true,Bool.or_false,Bool.or_true,Bool.true_or,Bool.false_or,decide_true,decide_false,not_true_eq_false,not_false_eq_true,LL.scal_int,LL.scal_bl,LL.scal_str,V.int.injEq,V.bl.injEq,V.str.injEq,Nat.zero_le,forall_const,true_implies,kindT_non,isNonT_non,flatT_non,flatK_non,isBT_non_true,isBT_non_false,toV_non,ofV_non,keyT_non,isT_non_int,isT_non_bool,isT_non_str,isT_non_list,isT_non_tuple,isT_non_dict,kindT_bl,isNonT_bl,flatT_bl,flatK_bl,toV_bl,ofV_bl,keyT_bl,isT_bl_int,isT_bl_bool,isT_bl_str,isT_bl_list,isT_bl_tuple,isT_bl_dict,kindT_int,isNonT_int,flatT_int,flatK_int,isBT_int_true,isBT_int_false,toV_int,ofV_int,keyT_int,isT_int_int,isT_int_bool,isT_int_str,isT_int_list,isT_int_tuple,isT_int_dict,kindT_str,isNonT_str,flatT_str,flatK_str,isBT_str_true,isBT_str_false,toV_str,ofV_str,keyT_str,isT_str_int,isT_str_bool,isT_str_str,isT_str_list,isT_str_tuple,isT_str_dict,kindT_lst,isNonT_lst,flatT_lst,flatK_lst,isBT_lst_true,isBT_lst_false,lenT_lst,keyT_lst,isT_lst_int,isT_lst_bool,isT_lst_str,isT_lst_list,isT_lst_tuple,isT_lst_dict,kindT_tup,isNonT_tup,flatT_tup,flatK_tup,isBT_tup_true,isBT_tup_false,lenT_tup,keyT_tup,isT_tup_int,isT_tup_bool,isT_tup_str,isT_tup_list,isT_tup_tuple,isT_tup_dict,kindT_dic,isNonT_dic,flatT_dic,flatK_dic,isBT_dic_true,isBT_dic_false,lenT_dic,keyT_dic,isT_dic_int,isT_dic_bool,isT_dic_str,isT_dic_list,isT_dic_tuple,isT_dic_dict,kindT_obj,isNonT_obj,flatT_obj,flatK_obj,isBT_obj_true,isBT_obj_false,keyT_obj,kindT_drw,isNonT_drw,flatT_drw,flatK_drw,isBT_drw_true,isBT_drw_false,keyT_drw,kindT_ty,isNonT_ty,flatT_ty,flatK_ty,isBT_ty_true,isBT_ty_false,toV_ty,ofV_ty,keyT_ty,asD_dic,isBT_bl,dAddG_int,dAddG_str,dAddG_tup,dAddG_lst_lst,dAddG_lst_obj,dAddG_obj_lst,dAddG_obj_obj,dSlG_tup,dSlG_str,dSlG_lst,dSlG_obj])
local macro_rules | `(tactic| simp! only [$xs,*]) => `(tactic| try simp only [$xs,*,dSortI,dSortR,dLstRg,dRepW,dRetF,dForgets,asD_put,dSortS,dDPut,dCallZ,dBor,dBor0,diZ,dRevT,dStrI,dIsXT,dTry0,dTry,dXf,dIsX,dNewD,dDisp1,Prod.mk.injEq,wipeT,Int.toNat_natCast,asL_put,put_same,put_put,Cell.lst.injEq,atI_0,atI_1,atI_2,atI_3,atI_4,atI_5,atI_6,atI_7,atI_8,atI_9,Tr.ty.injEq,tyN_int,tyN_bool,tyN_str,tyN_list,tyN_tuple,tyN_dict,dVar,dC,dName,dOp,dI,dI0,dUn,dU,dEq,dNe,dTest,dAnd,dOr,dNot,dAndV,dOrV,dNotV,dIf,dChain,dNil,dCons,dTup,dLst,dCall,dCall0,dCB,dNext,dSeq,dRet,dRetN,dDrop,dBreak,dCont,dIfS,dgNil,dgCons,dTupG,dAsg,diL,diT,diS,diR1,diR2,diE,dYes,dIx,dLen,dInt,dMx,dSum,dAll,dIsi,dIsiT,doNone,doSome,dSl,dApp,dSub,dSet,dEqD,dGet,dGet1,dGet2,LT.dIn,dIsN,dIsB,dIn',dList,dTuple,dRaise,dMaxL,dMinL,dMinS,dRep,asL_lst,asS_lst,asS_tup,asT_tup,flatV',Tr.int.injEq,Tr.bl.injEq,Tr.str.injEq,Tr.lst.injEq,Tr.tup.injEq,Tr.obj.injEq,Option.isSome_some,List.map_cons,List.map_nil,List.length_cons,List.length_nil,List.replicate_succ,List.replicate_zero,List.cons_append,List.nil_append,List.append_nil,List.getElem?_cons_zero,List.getElem?_cons_succ,List.set_cons_zero,List.set_cons_succ,Nat.add_sub_cancel,Nat.reduceAdd,Nat.reduceSub,Option.some.injEq,List.cons.injEq,and_true,true_and,and_false,false_and,exists_eq_left,exists_eq_left',exists_and_left,exists_and_right,exists_eq,exists_eq',LL.if_dec,reduceCtorEq,exists_false,exists_const,or_false,false_or,if_true,if_false,and_assoc,Int.reduceEq,Int.reduceNe,Int.reduceNeg,Int.reduceLT,Int.reduceLE,Int.reduceMul,Int.reduceAdd,Int.reduceSub,Int.reducePow,Int.reduceToNat,Nat.reducePow,Nat.reduceLT,Nat.reduceLeDiff,true_or,or_true,Bool.not_true,Bool.not_false,Bool.false_eq_true,Bool.or_false,Bool.or_true,Bool.true_or,Bool.false_or,decide_true,decide_false,not_true_eq_false,not_false_eq_true,LL.scal_int,LL.scal_bl,LL.scal_str,V.int.injEq,V.bl.injEq,V.str.injEq,Nat.zero_le,forall_const,true_implies,kindT_non,isNonT_non,flatT_non,flatK_non,isBT_non_true,isBT_non_false,toV_non,ofV_non,keyT_non,isT_non_int,isT_non_bool,isT_non_str,isT_non_list,isT_non_tuple,isT_non_dict,kindT_bl,isNonT_bl,flatT_bl,flatK_bl,toV_bl,ofV_bl,keyT_bl,isT_bl_int,isT_bl_bool,isT_bl_str,isT_bl_list,isT_bl_tuple,isT_bl_dict,kindT_int,isNonT_int,flatT_int,flatK_int,isBT_int_true,isBT_int_false,toV_int,ofV_int,keyT_int,isT_int_int,isT_int_bool,isT_int_str,isT_int_list,isT_int_tuple,isT_int_dict,kindT_str,isNonT_str,flatT_str,flatK_str,isBT_str_true,isBT_str_false,toV_str,ofV_str,keyT_str,isT_str_int,isT_str_bool,isT_str_str,isT_str_list,isT_str_tuple,isT_str_dict,kindT_lst,isNonT_lst,flatT_lst,flatK_lst,isBT_lst_true,isBT_lst_false,lenT_lst,keyT_lst,isT_lst_int,isT_lst_bool,isT_lst_str,isT_lst_list,isT_lst_tuple,isT_lst_dict,kindT_tup,isNonT_tup,flatT_tup,flatK_tup,isBT_tup_true,isBT_tup_false,lenT_tup,keyT_tup,isT_tup_int,isT_tup_bool,isT_tup_str,isT_tup_list,isT_tup_tuple,isT_tup_dict,kindT_dic,isNonT_dic,flatT_dic,flatK_dic,isBT_dic_true,isBT_dic_false,lenT_dic,keyT_dic,isT_dic_int,isT_dic_bool,isT_dic_str,isT_dic_list,isT_dic_tuple,isT_dic_dict,kindT_obj,isNonT_obj,flatT_obj,flatK_obj,isBT_obj_true,isBT_obj_false,keyT_obj,kindT_drw,isNonT_drw,flatT_drw,flatK_drw,isBT_drw_true,isBT_drw_false,keyT_drw,kindT_ty,isNonT_ty,flatT_ty,flatK_ty,isBT_ty_true,isBT_ty_false,toV_ty,ofV_ty,keyT_ty,asD_dic,isBT_bl,dAddG_int,dAddG_str,dAddG_tup,dAddG_lst_lst,dAddG_lst_obj,dAddG_obj_lst,dAddG_obj_obj,dSlG_tup,dSlG_str,dSlG_lst,dSlG_obj])
variable {P : Program} {w : World} {K : PySem.W.Frag} {mg : Str → Option Value} {base : Heap}

/-! ### what is asked -/
def wp_ask : Pw := fun ts Ω PQ _ => ∃ a b, ts = [a, b] ∧ wp_join [a, b] Ω (fun t Ω' => PQ (.lst [.str "done", t]) Ω') (fun x Ω' => ∃ n, x = badX (.str n) ∧ PQ (refLT (.tup [.str n])) Ω')
def wp_jright : Pw := fun ts Ω PQ _ => ∃ cs ds rs : List Ch, ts = [.lst (cs.map cT), .lst (ds.map cT), .lst (rs.map cT)] ∧ OKC cs ∧ OKC ds ∧ cs.length ≤ 5000 ∧ ds.length ≤ 5000 ∧ Fits cs ds ∧ IsJ cs ds rs ∧ rs.length ≤ 10000 ∧ PQ (.bl true) Ω
theorem chs_no {cs : List Ch} (k : OKC cs) (z : chsT (.lst (cs.map cT)) = false) : False := by rw [okc_iff.mpr k] at z; cases z
theorem jn_call {cs ds : List Ch} {Ω : Om} {P : PT'} {X : PXt} (kc : OKC cs) (kd : OKC ds) (lc : cs.length ≤ 100000) (ld : ds.length ≤ 100000) (f : Fits cs ds) (q : ∀ rs, IsJ cs ds rs → lstNew (rs.map cT) Ω P) : wp_join [.lst (cs.map cT), .lst (ds.map cT)] Ω P X :=
  ⟨_, _, rfl, data_cT, data_cT, fun z => (chs_no kc z).elim, fun cs' e k' => by
    obtain rfl := cT_inj e
    exact ⟨lc, fun z => (chs_no kd z).elim, fun ds' e k' => by
      obtain rfl := cT_inj e
      exact ⟨ld, fun z => (z f).elim, fun _ rs hr => q rs hr⟩⟩⟩
theorem jn_mono {ts : List Tr} {Ω : Om} {P P' : PT'} {X X' : PXt} (h : wp_join ts Ω P X) (m : ∀ t Ω', P t Ω' → P' t Ω') (mx : ∀ x Ω', X x Ω' → X' x Ω') : wp_join ts Ω P' X' := by
  obtain ⟨a, b, e, h1, h2, q1, q2⟩ := h
  exact ⟨a, b, e, h1, h2, fun z => mx _ _ (q1 z), fun cs e k => ⟨(q2 cs e k).1, fun z => mx _ _ ((q2 cs e k).2.1 z), fun ds e2 k2 => ⟨((q2 cs e k).2.2 ds e2 k2).1, fun z => mx _ _ (((q2 cs e k).2.2 ds e2 k2).2.1 z), fun f rs hr => lstNew_mono (((q2 cs e k).2.2 ds e2 k2).2.2 f rs hr) m⟩⟩⟩
theorem ok_law_asked (T : Tx K mg) : FnOk P w K mg base CX0 6 (He.ga K "_law_asked") T.fd_law_asked P_law_asked (spD K wp_ask 2) := by
  refine dok T.F_law_asked sc_law_asked fun cdv A outer s H E hr => ?_
  refine' dokMk (PSs.nox (pss_one (LT.ps_tryT (i := 2) rfl rfl sc_law_asked.nd rfl rfl ⟨rfl, by decide, Or.inl T.g_BadValue⟩ takes0 (fun W pn xe tk _ => (pss_one (ps_ret (pe_lst (pa_cons (pe_str) (pa_cons (by exact pe_callS (ok_join_changes T) hr rfl T.g_join_changes T.F_join_changes.kp (b_join_changes T) (fun σ => passAt tk σ) (by exact (pa_cons (pv 0) (pa_cons (pv 1) pa_nil)))) pa_nil)))))) (fun a oe cls d pn hz hf => (pss_one (ps_ret (pe_lst (pa_cons (pe_str) (pa_cons (pe_xf T.f_BadValue T.n_BadValue_told hz hf (pv 2)) (pa_cons (pe_tup (pa_cons (pe_xf T.f_BadValue T.n_BadValue_parameter hz hf (pv 2)) pa_nil)) (pa_cons (pe_callZ (ok_law_kinds T) (hr.mono (by decide)) hz hf rfl T.g_law_kinds T.F_law_kinds.kp (b_law_kinds T) (pa_cons (pv 2) pa_nil)) pa_nil))))))))))) ?sim ?go
  case sim =>
    try simp only [LL.cxK0, LL.cxK1, List.map_cons, List.map_nil]
    repeat' (first | fail "s")
  case go =>
    intro ts Ω PQ PX hl h
    obtain ⟨a, b, rfl, h⟩ := h
    simp! only [N_law_asked]
    refine jn_mono h (fun t Ω' q => .inl q) (fun x Ω' ⟨n, e, q⟩ => ?_)
    subst e
    exact ⟨T.m_BadValue, fun a => ⟨rfl, _, rfl, rfl, _, rfl, rfl, rfl, .inl q⟩⟩
theorem ok_law_joined_right (T : Tx K mg) : FnOk P w K mg base CX0 10 (He.ga K "_law_joined_right") T.fd_law_joined_right P_law_joined_right (spD K wp_jright 3) := by
  refine dok T.F_law_joined_right sc_law_joined_right fun cdv A outer s H E hr => ?_
  refine' dokMk (PSs.nox (pss_cons (ps_set (i := 3) sc_law_joined_right.nd rfl (Or.inl rfl) (pe_call (ok_law_copy T 8) hr rfl T.g_law_copy T.F_law_copy.kp (b_law_copy T) .nil pass0 (pa_cons (pe_lst (pa_cons (pv 0) (pa_cons (pv 1) pa_nil))) pa_nil))) (pss_cons (ps_set (i := 4) sc_law_joined_right.nd rfl (Or.inl rfl) (pe_call (ok_law_asked T) (hr.mono (by decide)) rfl T.g_law_asked T.F_law_asked.kp (b_law_asked T) .nil pass0 (pa_cons (pv 0) (pa_cons (pv 1) pa_nil)))) (pss_cons (ps_if (PW.pt (pw_or (pt_not (pt_val ((LT.pe_bor (pe_call (ok_law_same T 8) hr rfl T.g_law_same T.F_law_same.kp (b_law_same T) .nil pass0 (pa_cons (pv 4) (pa_cons (pe_lst (pa_cons (pe_str) (pa_cons (pv 2) pa_nil))) pa_nil))))))) (pw_or1 (pt_not (pt_val ((LT.pe_bor (pe_call (ok_law_same T 8) hr rfl T.g_law_same T.F_law_same.kp (b_law_same T) .nil pass0 (pa_cons (pe_lst (pa_cons (pv 0) (pa_cons (pv 1) pa_nil))) (pa_cons (pv 3) pa_nil)))))))))) (pss_one (ps_ret (pe_bl))) pss_nil) (pss_cons (ps_expr (pe_bm PySem.F.plainAttrs_list PySem.F.slot_list_append PySem.F.type_list_append mt_append (pe_ix (show IxR _ (LL.rIxA K) from LL.ix_A) (pv 4) (pe_int) (fun _ _ => rfl)) (pa_cons (pe_non) pa_nil))) (pss_cons (ps_asg (pe_non) (pg_sub (pe_ix (show IxR _ (LL.rIxA K) from LL.ix_A) (pv 4) (pe_int) (fun _ _ => rfl)) (pe_int) set_list)) (pss_one (ps_ret ((pe_and ((LT.pe_bor (pe_call (ok_law_same T 8) hr rfl T.g_law_same T.F_law_same.kp (b_law_same T) .nil pass0 (pa_cons (pe_call (ok_law_asked T) (hr.mono (by decide)) rfl T.g_law_asked T.F_law_asked.kp (b_law_asked T) .nil pass0 (pa_cons (pv 0) (pa_cons (pv 1) pa_nil))) (pa_cons (pe_lst (pa_cons (pe_str) (pa_cons (pv 2) pa_nil))) pa_nil))))) (pe_one ((LT.pe_bor (pe_call (ok_law_same T 8) hr rfl T.g_law_same T.F_law_same.kp (b_law_same T) .nil pass0 (pa_cons (pe_lst (pa_cons (pv 0) (pa_cons (pv 1) pa_nil))) (pa_cons (pv 3) pa_nil)))))))))))))))) ?sim ?go
  case sim =>
    try simp only [LL.cxK0, LL.cxK1, List.map_cons, List.map_nil]
    repeat' (first | with_reducible apply sim_retF | fail "s")
  case go =>
    intro ts Ω PQ PX hl h
    obtain ⟨cs, ds, rs, rfl, kc, kd, lc, ld, f, hj, lr, q⟩ := h
    have d2 : dataT (.lst [.lst (cs.map cT), .lst (ds.map cT)]) = true := by
      show (dataT (.lst (cs.map cT)) && (dataT (.lst (ds.map cT)) && true)) = true
      rw [data_cT, data_cT]; rfl
    have p2 : depTr2 (.lst [.lst (cs.map cT), .lst (ds.map cT)]) < 8 := by
      have h1 := dep_cT (cs := cs)
      have h2 := dep_cT (cs := ds)
      show max (depTr2 (.lst (cs.map cT))) (max (depTr2 (.lst (ds.map cT))) 0) + 1 < 8
      omega
    have dd : dataT (.lst [.str "done", .lst (rs.map cT)]) = true := data_done data_cT
    have dp : depTr2 (.lst [.str "done", .lst (rs.map cT)]) < 8 := dep_done (dep_cT (cs := rs)) (by decide)
    simp! only [N_law_joined_right]
    refine lst_in ⟨_, rfl, d2, p2, ⟨_, _, rfl, jn_call kc kd (by omega) (by omega) f fun rs' hr => ?_⟩⟩
    obtain rfl := hr.eq hj
    refine .inr fun a ha => ?_
    have hcd : Lst1 (put Ω a (.lst (rs'.map cT))) (.obj a) (.lst (rs'.map cT)) := .inr ⟨a, _, rfl, put_same, rfl⟩
    refine lst_in (sb_call (t := .lst [.str "done", .lst (rs'.map cT)]) (.lst (.cons (.same _) (.cons hcd.drf .nil))) (.same _) dd dp ?_)
    simp! only [and_true]
    refine lst_in (sb_call (.same _) (.same _) d2 p2 ?_)
    simp! only [asL_put]
    refine ⟨by rw [List.length_map]; omega, 0, ?_, ⟨_, _, rfl, jn_call kc kd (by omega) (by omega) f fun rs2 hr2 => .inl ?_⟩⟩
    · rw [List.length_append]
      unfold ixN
      simp
    obtain rfl := hr2.eq hj
    refine lst_in (sb_call (.same _) (.same _) dd dp ?_)
    simp! only [and_true]
    refine lst_in (sb_call (.same _) (.same _) d2 p2 ?_)
    exact retF_1 ha q
theorem IsJ.len {cs ds rs : List Ch} (h : IsJ cs ds rs) : rs.length ≤ cs.length + ds.length := by
  have := nodup_le (l := rs.map (·.p)) (ds := cs.map (·.p) ++ ds.map (·.p)) h.1.nod fun k hk => by
    obtain ⟨c, hc, rfl⟩ := List.mem_map.mp hk
    have e := h.2 c.p
    rw [h.1.nod.get hc] at e
    cases e1 : getP cs c.p with
    | some a =>
      obtain ⟨m, p⟩ := getP_mem e1
      exact List.mem_append_left _ (List.mem_map.mpr ⟨a, m, p⟩)
    | none =>
      rw [e1] at e
      have e3 : some c = getP ds c.p := e
      exact List.mem_append_right _ (List.mem_map.mpr ⟨c, (getP_mem e3.symm).1, rfl⟩)
  rw [List.length_map, List.length_append, List.length_map, List.length_map] at this
  exact this
theorem between_no {cs ds es : List Ch} (hi : ∀ e ∈ es, ∀ a ∈ cs, a.p = e.p → ∃ d ∈ ds, d.p = e.p) {p : Int} {a e : Ch} (h1 : getP cs p = some a) (h2 : getP ds p = none) (h3 : getP es p = some e) : False := by
  obtain ⟨m1, p1⟩ := getP_mem h1
  obtain ⟨m3, p3⟩ := getP_mem h3
  obtain ⟨d, hd, e2⟩ := hi e m3 a m1 (by rw [p1, p3])
  exact getP_none h2 d hd (by rw [e2, p3])
theorem assoc_f1 {cs ds es j1 : List Ch} (kc : OKC cs) (kd : OKC ds) (ke : OKC es) (fe : Fits ds es) (hi : ∀ e ∈ es, ∀ a ∈ cs, a.p = e.p → ∃ d ∈ ds, d.p = e.p) (h1 : IsJ cs ds j1) : Fits j1 es := fun p a b ha hb => by
  have e := h1.2 p
  rw [ha] at e
  cases e2 : getP ds p with
  | none =>
    rw [e2] at e
    cases e1 : getP cs p with
    | none => rw [e1] at e; cases e
    | some c => exact (between_no hi e1 e2 hb).elim
  | some d =>
    have f := fe p d b e2 hb
    rw [e2] at e
    cases e1 : getP cs p with
    | none =>
      rw [e1] at e
      have e3 : some a = some d := e
      cases e3
      exact f
    | some c =>
      rw [e1, joinC_ss] at e
      split at e
      · cases e
      · cases e
        exact f
theorem assoc_f2 {cs ds es j2 : List Ch} (kc : OKC cs) (kd : OKC ds) (ke : OKC es) (fd : Fits cs ds) (hi : ∀ e ∈ es, ∀ a ∈ cs, a.p = e.p → ∃ d ∈ ds, d.p = e.p) (h2 : IsJ ds es j2) : Fits cs j2 := fun p a b ha hb => by
  have e := h2.2 p
  rw [hb] at e
  cases e2 : getP ds p with
  | none =>
    rw [e2, joinC_n] at e
    exact (between_no hi ha e2 e.symm).elim
  | some d =>
    have f := fd p a d ha e2
    rw [e2] at e
    cases e1 : getP es p with
    | none =>
      rw [e1, joinC_sn] at e
      cases e
      exact f
    | some c =>
      rw [e1, joinC_ss] at e
      split at e
      · cases e
      · cases e
        exact f
theorem assoc_j {cs ds es j1 j2 l : List Ch} (kc : OKC cs) (kd : OKC ds) (ke : OKC es) (fd : Fits cs ds) (fe : Fits ds es) (hi : ∀ e ∈ es, ∀ a ∈ cs, a.p = e.p → ∃ d ∈ ds, d.p = e.p) (h1 : IsJ cs ds j1) (h2 : IsJ ds es j2) (hl : IsJ j1 es l) : IsJ cs j2 l := ⟨hl.1, fun p => by
  rw [hl.2, h1.2, h2.2]
  refine join_assoc (fun a b ha hb => ⟨by rw [(getP_mem ha).2, (getP_mem hb).2], fd p a b ha hb⟩) (fun a b ha hb => ⟨by rw [(getP_mem ha).2, (getP_mem hb).2], fe p a b ha hb⟩) (fun b hb => (chB_un (ke.ok b (getP_mem hb).1)).2.2.2.2.2.2) (fun h => ?_) (fun a ha => (chB_un (kc.ok a (getP_mem ha).1)).2.2.2.2.2.2)
  obtain ⟨a, ha⟩ := Option.isSome_iff_exists.mp h.1
  obtain ⟨e, he⟩ := Option.isSome_iff_exists.mp h.2.2
  exact between_no hi ha h.2.1 he⟩
theorem like_trans {I J L : Img} (h1 : like I J = true) (h2 : like J L = true) : like I L = true := by
  obtain ⟨a, b, c⟩ := like_iff.mp h1
  obtain ⟨d, e, f⟩ := like_iff.mp h2
  exact like_iff.mpr ⟨by rw [d, a], by rw [e, b], by rw [f, c]⟩
theorem ch_call {I J : Img} {Ω : Om} {P : PT'} {X : PXt} (gi : GI I) (gj : GI J) (fi : FewI (imT I)) (fj : FewI (imT J)) (lk : like I J = true) (q : lstNew ((diff I J).map cT) Ω P) : wp_changes [imT I, imT J] Ω P X :=
  ⟨_, _, rfl, data_im, data_im, fi, fj, fun z => (by rw [gi.img] at z; cases z), fun I' e gi' => ⟨fun z => (by rw [gj.img] at z; cases z), fun J' e2 gj' => by
    obtain rfl := imT_inj e
    obtain rfl := imT_inj e2
    exact ⟨fun z => (by rw [lk] at z; cases z), fun _ => q⟩⟩⟩
theorem ap_call {I : Img} {cs : List Ch} {ws hs : List Int} {Ω : Om} {P : PT'} {X : PXt} (gi : GI I) (fi : FewI (imT I)) (hc : chsT (.lst (cs.map cT)) = true) (hp : putRows I.ws I.hs cs = some (ws, hs)) (q : P (imT ⟨I.w, I.f, ws, hs⟩) Ω) : wp_apply [imT I, .lst (cs.map cT)] Ω P X :=
  ⟨_, _, _, rfl, data_im, fi, .inl rfl, data_cT, fun z => (by rw [gi.img] at z; cases z), fun I' e gi' => ⟨fun z => (by rw [hc] at z; cases z), fun cs' e2 k' => by
    obtain rfl := imT_inj e
    obtain rfl := cT_inj e2
    exact ⟨fun z => (by rw [hp] at z; cases z), fun ws' hs' z => by
      rw [hp] at z
      cases z
      exact q⟩⟩⟩
theorem ak_1 {bd b : Tr} {Ω : Om} {P : PT'} {X : PXt} (h : BadR bd) (hb : dataT b = true) (q : P (refLT (.tup [.str "first"])) Ω) : wp_ask [bd, b] Ω P X :=
  ⟨_, _, rfl, _, _, rfl, h.1, hb, fun _ => ⟨_, rfl, q⟩, fun cs e k => by
    have := okc_iff.mpr k
    rw [← e, h.2.1] at this
    cases this⟩
theorem ak_2 {bd : Tr} {cs : List Ch} {Ω : Om} {P : PT'} {X : PXt} (kc : OKC cs) (lc : cs.length ≤ 100000) (h : BadR bd) (q : P (refLT (.tup [.str "second"])) Ω) : wp_ask [.lst (cs.map cT), bd] Ω P X :=
  ⟨_, _, rfl, _, _, rfl, data_cT, h.1, fun z => (chs_no kc z).elim, fun cs' e k' => by
    obtain rfl := cT_inj e
    exact ⟨lc, fun _ => ⟨_, rfl, q⟩, fun ds e2 k => by
      have := okc_iff.mpr k
      rw [← e2, h.2.1] at this
      cases this⟩⟩
theorem ak_3 {cs ds : List Ch} {Ω : Om} {P : PT'} {X : PXt} (kc : OKC cs) (kd : OKC ds) (lc : cs.length ≤ 100000) (ld : ds.length ≤ 100000) (nf : ¬ Fits cs ds) (q : P (refLT (.tup [.str "second"])) Ω) : wp_ask [.lst (cs.map cT), .lst (ds.map cT)] Ω P X :=
  ⟨_, _, rfl, _, _, rfl, data_cT, data_cT, fun z => (chs_no kc z).elim, fun cs' e k' => by
    obtain rfl := cT_inj e
    exact ⟨lc, fun z => (chs_no kd z).elim, fun ds' e2 k => by
      obtain rfl := cT_inj e2
      exact ⟨ld, fun _ => ⟨_, rfl, q⟩, fun z => (nf z).elim⟩⟩⟩
def wp_rowsR : Pw := fun ts Ω PQ _ => ∃ cs : List Ch, ts = [.drw, .lst (cs.map cT)] ∧ OKC cs ∧ cs.length ≤ 60 ∧ PQ (.bl true) Ω
def wp_imagesR : Pw := fun ts Ω PQ _ => ts = [.drw] ∧ PQ (.bl true) Ω
def wp_refR : Pw := fun ts Ω PQ _ => ∃ cs : List Ch, ts = [.drw, .lst (cs.map cT)] ∧ OKC cs ∧ cs.length ≤ 60 ∧ PQ (.bl true) Ω
theorem jr_call {cs ds rs : List Ch} {Ω : Om} {P : PT'} {X : PXt} (kc : OKC cs) (kd : OKC ds) (lc : cs.length ≤ 5000) (ld : ds.length ≤ 5000) (f : Fits cs ds) (hj : IsJ cs ds rs) (lr : rs.length ≤ 10000) (q : P (.bl true) Ω) : wp_jright [.lst (cs.map cT), .lst (ds.map cT), .lst (rs.map cT)] Ω P X := ⟨cs, ds, rs, rfl, kc, kd, lc, ld, f, hj, lr, q⟩
theorem inv_call {cs : List Ch} {Ω : Om} {P : PT'} {X : PXt} (kc : OKC cs) (q : P (.lst ((cs.map invC).map cT)) Ω) : wp_invert [.lst (cs.map cT)] Ω P X :=
  ⟨_, _, rfl, .inl rfl, data_cT, fun z => (chs_no kc z).elim, fun cs' e k' => by
    obtain rfl := cT_inj e
    exact .inl q⟩
theorem ok_law_rows_right (T : Tx K mg) : FnOk P w K mg base CX0 11 (He.ga K "_law_rows_right") T.fd_law_rows_right P_law_rows_right (spD K wp_rowsR 2) := by
  refine dok T.F_law_rows_right sc_law_rows_right fun cdv A outer s H E hr => ?_
  refine' dokMk (PSs.nox (pss_cons (ps_set (i := 2) sc_law_rows_right.nd rfl (Or.inl rfl) (pe_call (ok_law_behind_rows T) (hr.mono (by decide)) rfl T.g_law_behind_rows T.F_law_behind_rows.kp (b_law_behind_rows T) .nil pass0 (pa_cons (pv 0) (pa_cons (pv 1) pa_nil)))) (pss_cons (ps_set (i := 3) sc_law_rows_right.nd rfl (Or.inl rfl) (pe_call (ok_law_behind_rows T) (hr.mono (by decide)) rfl T.g_law_behind_rows T.F_law_behind_rows.kp (b_law_behind_rows T) .nil pass0 (pa_cons (pv 0) (pa_cons (pv 2) pa_nil)))) (pss_cons (ps_if (pt_not (pt_val (pe_call (ok_law_joined_right T) hr rfl T.g_law_joined_right T.F_law_joined_right.kp (b_law_joined_right T) .nil pass0 (pa_cons (pv 1) (pa_cons (pv 2) (pa_cons (pe_call (ok_law_joined T) (hr.mono (by decide)) rfl T.g_law_joined T.F_law_joined.kp (b_law_joined T) .nil pass0 (pa_cons (pv 1) (pa_cons (pv 2) pa_nil))) pa_nil)))))) (pss_one (ps_ret (pe_bl))) pss_nil) (pss_cons (ps_if (PW.pt (pw_or (pt_not (pt_val (pe_call (ok_law_joined_right T) hr rfl T.g_law_joined_right T.F_law_joined_right.kp (b_law_joined_right T) .nil pass0 (pa_cons (pv 1) (pa_cons (pe_lst pa_nil) (pa_cons (pv 1) pa_nil)))))) (pw_or1 (pt_not (pt_val (pe_call (ok_law_joined_right T) hr rfl T.g_law_joined_right T.F_law_joined_right.kp (b_law_joined_right T) .nil pass0 (pa_cons (pe_lst pa_nil) (pa_cons (pv 1) (pa_cons (pv 1) pa_nil))))))))) (pss_one (ps_ret (pe_bl))) pss_nil) (pss_cons (ps_if (PW.pt (pw_or (pt_not (pt_val (pe_call (ok_law_joined_right T) hr rfl T.g_law_joined_right T.F_law_joined_right.kp (b_law_joined_right T) .nil pass0 (pa_cons (pv 1) (pa_cons (pe_call (ok_invert T) (hr.mono (by decide)) rfl T.g_invert T.F_invert.kp (b_invert T) .nil passE0 (pa_cons (pv 1) pa_nil)) (pa_cons (pe_lst pa_nil) pa_nil)))))) (pw_or1 (pt_not (pt_val (pe_call (ok_law_joined_right T) hr rfl T.g_law_joined_right T.F_law_joined_right.kp (b_law_joined_right T) .nil pass0 (pa_cons (pe_call (ok_invert T) (hr.mono (by decide)) rfl T.g_invert T.F_invert.kp (b_invert T) .nil passE0 (pa_cons (pv 2) pa_nil)) (pa_cons (pv 2) (pa_cons (pe_lst pa_nil) pa_nil))))))))) (pss_one (ps_ret (pe_bl))) pss_nil) (pss_cons (ps_for PassesOwn.never rfl (LT.pi_seqK (K := K) rfl (pv 3)) (pg_name (i := 4) sc_law_rows_right.nd rfl (Or.inl rfl)) (pss_one (ps_for PassesOwn.never rfl (LT.pi_seqK (K := K) rfl (pv 1)) (pg_name (i := 6) sc_law_rows_right.nd rfl (Or.inl rfl)) (pss_one (ps_if (PW.pt (pw_and (pt_cmpR op_eq (pe_ix (show IxR _ (LL.rIxA K) from LL.ix_A) (pv 4) (pe_int) (fun _ _ => rfl)) (pe_ix (show IxR _ (LL.rIxA K) from LL.ix_A) (pv 6) (pe_int) (fun _ _ => rfl)) (nomark _)) (pw_and1 (pt_cmpR (show OpR _ _ (rIn K true) from op_notIn_seq) (pe_ix (show IxR _ (LL.rIxA K) from LL.ix_A) (pv 4) (pe_int) (fun _ _ => rfl)) (pe_lc (own := [("_law_other_here", 7)]) (by rfl) sc_law_rows_right.nd (LT.pi_seqK (K := K) rfl (pv 2)) (blkOk_by (N := N_law_rows_right) (sc := defScope s_law_rows_right) (by decide +kernel)) (fun _ _ _ _ _ => (pg_name (i := 7) sc_law_rows_right.nd rfl (Or.inl rfl))) (fun _ _ _ _ _ => pts_nil) (fun _ _ _ _ _ => (pe_ix (show IxR _ (LL.rIxA K) from LL.ix_A) (pv 7) (pe_int) (fun _ _ => rfl)))) (by rfl))))) (pss_one (ps_ret (pe_bl))) pss_nil))))) (pss_cons (ps_set (i := 5) sc_law_rows_right.nd rfl (Or.inl rfl) (pe_call (ok_join_changes T) (hr.mono (by decide)) rfl T.g_join_changes T.F_join_changes.kp (b_join_changes T) .nil passE0 (pa_cons (pe_call (ok_join_changes T) (hr.mono (by decide)) rfl T.g_join_changes T.F_join_changes.kp (b_join_changes T) .nil passE0 (pa_cons (pv 1) (pa_cons (pv 2) pa_nil))) (pa_cons (pv 3) pa_nil)))) (pss_one (ps_ret (pe_call (ok_law_joined_right T) hr rfl T.g_law_joined_right T.F_law_joined_right.kp (b_law_joined_right T) .nil pass0 (pa_cons (pv 1) (pa_cons (pe_call (ok_join_changes T) (hr.mono (by decide)) rfl T.g_join_changes T.F_join_changes.kp (b_join_changes T) .nil passE0 (pa_cons (pv 2) (pa_cons (pv 3) pa_nil))) (pa_cons (pe_call (ok_law_copy T 8) (hr.mono (by decide)) rfl T.g_law_copy T.F_law_copy.kp (b_law_copy T) .nil pass0 (pa_cons (pv 5) pa_nil)) pa_nil)))))))))))))) ?sim ?go
  case sim =>
    try simp only [LL.cxK0, LL.cxK1, List.map_cons, List.map_nil]
    repeat' (first | fail "s")
  case go =>
    intro ts Ω PQ PX hl h
    obtain ⟨cs, rfl, kc, lc, q⟩ := h
    simp! only [N_law_rows_right]
    refine ⟨cs, rfl, kc, by omega, fun ds kd fd ld => ⟨ds, rfl, kd, by omega, fun es ke fe le => ⟨cs, ds, rfl, kc, kd, by omega, by omega, fun rs hr => jr_call kc kd (by omega) (by omega) fd hr (by have := hr.len; omega) ?_⟩⟩⟩
    simp! only [and_true]
    refine lst_in (jr_call (ds := []) kc okc_nil (by omega) (Nat.zero_le _) fits_nil (isj_nil kc.asc) (by omega) ?_)
    simp! only [and_true]
    refine lst_in (jr_call (cs := []) okc_nil kc (Nat.zero_le _) (by omega) fits_nil' (isj_nil' kc.asc) (by omega) ?_)
    simp! only [and_true]
    refine inv_call kc (lst_in (jr_call (rs := []) kc (okc_inv kc) (by omega) (by rw [List.length_map]; omega) fits_inv isj_inv (Nat.zero_le _) ?_))
    simp! only [and_true]
    refine inv_call kd (lst_in (jr_call (rs := []) (okc_inv kd) kd (by rw [List.length_map]; omega) (by omega) fits_inv' isj_inv' (Nat.zero_le _) ?_))
    simp! only [and_true]
    refine for_S (t := .lst (es.map cT)) rfl rfl (fun i ρ' Ω' => Ω' = Ω ∧ ∃ (x4 x5 x6 x7 : Option Tr), ρ' = [some .drw, some (.lst (cs.map cT)), some (.lst (ds.map cT)), some (.lst (es.map cT)), x4, x5, x6, x7] ∧ ∀ e ∈ es.take i, ∀ a ∈ cs, a.p = e.p → ∃ d ∈ ds, d.p = e.p) ⟨rfl, _, _, _, _, rfl, fun _ h => nomatch h⟩ (fun _ _ _ _ => trivial) ?_ ?_
    · rintro hz i x ρ' Ω' hx ⟨rfl, x4, x5, x6, x7, rfl, hi⟩
      rw [List.getElem?_map] at hx
      obtain ⟨e, he, rfl⟩ := Option.map_eq_some_iff.mp hx
      have e1 : es.take (i + 1) = es.take i ++ [e] := take_one he
      simp! only [and_true]
      refine for_S (t := .lst (cs.map cT)) rfl rfl (fun j ρ' Ω2 => Ω2 = Ω' ∧ ∃ (x5 x6 x7 : Option Tr), ρ' = [some .drw, some (.lst (cs.map cT)), some (.lst (ds.map cT)), some (.lst (es.map cT)), some (cT e), x5, x6, x7] ∧ ∀ a ∈ cs.take j, a.p = e.p → ∃ d ∈ ds, d.p = e.p) ⟨rfl, _, _, _, rfl, fun _ h => nomatch h⟩ (fun _ _ _ _ => trivial) ?_ ?_
      · rintro hz2 j x ρ' Ω2 hx2 ⟨rfl, x5, x6, x7, rfl, hj⟩
        rw [List.getElem?_map] at hx2
        obtain ⟨a, ha, rfl⟩ := Option.map_eq_some_iff.mp hx2
        have e2 : cs.take (j + 1) = cs.take j ++ [a] := take_one ha
        have go : (a.p = e.p → ∃ d ∈ ds, d.p = e.p) → ∀ b ∈ cs.take (j + 1), b.p = e.p → ∃ d ∈ ds, d.p = e.p := fun h b hb => by
          rw [e2] at hb
          rcases List.mem_append.mp hb with hb | hb
          · exact hj b hb
          · rw [List.mem_singleton.mp hb]; exact h
        simp! only [cT]
        refine itei (fun h => ?_) fun h => go (fun z => (h (by simpa using z.symm)).elim)
        refine map_S (t := .lst (ds.map cT)) (ts := ds.map cT) (fun P p => ⟨_, rfl, p⟩) rfl headT mono_dName (fun x hx Q q => ?_) (.inl ?_)
        · obtain ⟨d, _, rfl⟩ := List.mem_map.mp hx
          simp! only [cT]
          exact q
        rw [heads]
        simp! only [and_true]
        refine ⟨flat_ints, itei (fun h2 => q) fun h2 => go fun _ => ?_⟩
        cases hin : inT (.int e.p) ((ds.map (·.p)).map Tr.int) with
        | false => exact (h2 (by rw [hin]; rfl)).elim
        | true =>
          obtain ⟨d, hd, e3⟩ := List.mem_map.mp (in_ints.mp hin)
          exact ⟨d, hd, e3⟩
      · rintro ρ' Ω2 ⟨rfl, x5, x6, x7, rfl, hj⟩
        rw [List.length_map, List.take_length] at hj
        refine ⟨rfl, ⟨_, _, _, _, rfl⟩, fun e' he' => ?_⟩
        rw [e1] at he'
        rcases List.mem_append.mp he' with h | h
        · exact hi e' h
        · rw [List.mem_singleton.mp h]; exact hj
    · rintro ρ' Ω' ⟨rfl, x4, x5, x6, x7, rfl, hi⟩
      rw [List.length_map, List.take_length] at hi
      simp! only [and_true]
      refine jn_call kc kd (by omega) (by omega) fd fun j1 h1 => .inl ?_
      have f1 := assoc_f1 kc kd ke fe hi h1
      have n1 := h1.len
      refine jn_call (h1.ok kc kd) ke (by omega) (by omega) f1 fun l hl => .inl ?_
      have nl := hl.len
      simp! only [and_true]
      refine jn_call kd ke (by omega) (by omega) fe fun j2 h2 => .inl ?_
      have n2 := h2.len
      have dl := dep_cT (cs := l)
      exact ⟨_, rfl, data_cT, by omega, jr_call kc (h2.ok kd ke) (by omega) (by omega) (assoc_f2 kc kd ke fd hi h2) (assoc_j kc kd ke fd fe hi h1 h2 hl) (by omega) q⟩
theorem ok_law_images_right (T : Tx K mg) : FnOk P w K mg base CX0 11 (He.ga K "_law_images_right") T.fd_law_images_right P_law_images_right (spD K wp_imagesR 1) := by
  refine dok T.F_law_images_right sc_law_images_right fun cdv A outer s H E hr => ?_
  refine' dokMk (PSs.nox (pss_cons (ps_set (i := 1) sc_law_images_right.nd rfl (Or.inl rfl) (pe_call (ok_law_small_image T) (hr.mono (by decide)) rfl T.g_law_small_image T.F_law_small_image.kp (b_law_small_image T) .nil pass0 (pa_cons (pv 0) pa_nil))) (pss_cons (ps_set (i := 2) sc_law_images_right.nd rfl (Or.inl rfl) (pe_call (ok_law_near_cut T) (hr.mono (by decide)) rfl T.g_law_near_cut T.F_law_near_cut.kp (b_law_near_cut T) .nil pass0 (pa_cons (pv 0) (pa_cons (pv 1) (pa_cons (pv 1) pa_nil))))) (pss_cons (ps_set (i := 3) sc_law_images_right.nd rfl (Or.inl rfl) (pe_call (ok_law_near_cut T) (hr.mono (by decide)) rfl T.g_law_near_cut T.F_law_near_cut.kp (b_law_near_cut T) .nil pass0 (pa_cons (pv 0) (pa_cons (pv 2) (pa_cons (pv 1) pa_nil))))) (pss_cons (ps_set (i := 4) sc_law_images_right.nd rfl (Or.inl rfl) (pe_call (ok_law_changes_due T) (hr.mono (by decide)) rfl T.g_law_changes_due T.F_law_changes_due.kp (b_law_changes_due T) .nil pass0 (pa_cons (pv 1) (pa_cons (pv 2) pa_nil)))) (pss_cons (ps_set (i := 5) sc_law_images_right.nd rfl (Or.inl rfl) (pe_call (ok_law_changes_due T) (hr.mono (by decide)) rfl T.g_law_changes_due T.F_law_changes_due.kp (b_law_changes_due T) .nil pass0 (pa_cons (pv 2) (pa_cons (pv 3) pa_nil)))) (pss_cons (ps_if (pt_not (pt_val (pe_call (ok_law_joined_right T) hr rfl T.g_law_joined_right T.F_law_joined_right.kp (b_law_joined_right T) .nil pass0 (pa_cons (pv 4) (pa_cons (pv 5) (pa_cons (pe_call (ok_law_changes_due T) (hr.mono (by decide)) rfl T.g_law_changes_due T.F_law_changes_due.kp (b_law_changes_due T) .nil pass0 (pa_cons (pv 1) (pa_cons (pv 3) pa_nil))) pa_nil)))))) (pss_one (ps_ret (pe_bl))) pss_nil) (pss_cons (ps_set (i := 6) sc_law_images_right.nd rfl (Or.inl rfl) (pe_call (ok_join_changes T) (hr.mono (by decide)) rfl T.g_join_changes T.F_join_changes.kp (b_join_changes T) .nil passE0 (pa_cons (pe_call (ok_changes T) (hr.mono (by decide)) rfl T.g_changes T.F_changes.kp (b_changes T) .nil passE0 (pa_cons (pv 1) (pa_cons (pv 2) pa_nil))) (pa_cons (pe_call (ok_changes T) (hr.mono (by decide)) rfl T.g_changes T.F_changes.kp (b_changes T) .nil passE0 (pa_cons (pv 2) (pa_cons (pv 3) pa_nil))) pa_nil)))) (pss_one (ps_ret ((pe_and (pe_call (ok_law_same T 8) (hr.mono (by decide)) rfl T.g_law_same T.F_law_same.kp (b_law_same T) .nil pass0 (pa_cons (pe_call (ok_apply_changes T) (hr.mono (by decide)) rfl T.g_apply_changes T.F_apply_changes.kp (b_apply_changes T) .nil passE0 (pa_cons (pv 1) (pa_cons (pv 6) pa_nil))) (pa_cons (pv 3) pa_nil))) (pe_one (pe_call (ok_law_same T 8) (hr.mono (by decide)) rfl T.g_law_same T.F_law_same.kp (b_law_same T) .nil pass0 (pa_cons (pv 6) (pa_cons (pe_call (ok_changes T) (hr.mono (by decide)) rfl T.g_changes T.F_changes.kp (b_changes T) .nil passE0 (pa_cons (pv 1) (pa_cons (pv 3) pa_nil))) pa_nil)))))))))))))))) ?sim ?go
  case sim =>
    try simp only [LL.cxK0, LL.cxK1, List.map_cons, List.map_nil]
    repeat' (first | fail "s")
  case go =>
    intro ts Ω PQ PX hl h
    obtain ⟨rfl, q⟩ := h
    simp! only [N_law_images_right]
    refine ⟨rfl, fun I gi n1 => ⟨I, I, rfl, gi, gi, like_self, fun J gj l1 => ⟨J, I, rfl, gj, gi, like_sym l1, fun L gl l2 => ?_⟩⟩⟩
    have l3 := like_trans l1 l2
    have nJ := (like_iff.mp l1).2.2
    have nL := (like_iff.mp l3).2.2
    have fI := few_im gi (by omega)
    have fJ := few_im gj (by omega)
    have fL := few_im gl (by omega)
    obtain ⟨hj, hf⟩ := join_diff gi gj gl l1 l2
    have k1 := okc_iff.mp (diff_chs gi gj)
    have k2 := okc_iff.mp (diff_chs gj gl)
    have m1 : (diff I J).length ≤ 1024 := Nat.le_trans diffL_le n1
    have m2 : (diff J L).length ≤ 1024 := Nat.le_trans diffL_le (by omega)
    have m3 : (diff I L).length ≤ 1024 := Nat.le_trans diffL_le n1
    refine ⟨I, J, rfl, gi, gj, l1, ⟨J, L, rfl, gj, gl, l2, ⟨I, L, rfl, gi, gl, l3, jr_call k1 k2 (by omega) (by omega) hf hj (by omega) ?_⟩⟩⟩
    simp! only [and_true]
    refine ch_call gi gj fI fJ l1 (.inl (ch_call gj gl fJ fL l2 (.inl (jn_call k1 k2 (by omega) (by omega) hf fun rs hr => .inl ?_))))
    obtain rfl := hr.eq hj
    refine ap_call gi fI (diff_chs gi gl) (diff_put gi gl l3) ?_
    rw [like_im l3]
    refine sm_call data_im (by have := dep_im (I := L); omega) ?_
    simp! only [and_true]
    refine ch_call gi gl fI fL l3 (.inl (sm_call data_cT (by have := dep_cT (cs := diff I L); omega) q))
theorem ok_law_refused_right (T : Tx K mg) : FnOk P w K mg base CX0 10 (He.ga K "_law_refused_right") T.fd_law_refused_right P_law_refused_right (spD K wp_refR 2) := by
  refine dok T.F_law_refused_right sc_law_refused_right fun cdv A outer s H E hr => ?_
  refine' dokMk (PSs.nox (pss_cons (ps_set (i := 2) sc_law_refused_right.nd rfl (Or.inl rfl) (pe_call (ok_law_bent_rows T) (hr.mono (by decide)) rfl T.g_law_bent_rows T.F_law_bent_rows.kp (b_law_bent_rows T) .nil pass0 (pa_cons (pv 0) (pa_cons (pv 1) pa_nil)))) (pss_cons (ps_set (i := 3) sc_law_refused_right.nd rfl (Or.inl rfl) (pe_call (ok_law_copy T 8) hr rfl T.g_law_copy T.F_law_copy.kp (b_law_copy T) .nil pass0 (pa_cons (pe_lst (pa_cons (pv 1) (pa_cons (pv 2) pa_nil))) pa_nil))) (pss_cons (ps_if (pt_not (pt_val (pe_call (ok_law_same T 8) hr rfl T.g_law_same T.F_law_same.kp (b_law_same T) .nil pass0 (pa_cons (pe_call (ok_law_asked T) (hr.mono (by decide)) rfl T.g_law_asked T.F_law_asked.kp (b_law_asked T) .nil pass0 (pa_cons (pv 2) (pa_cons (pv 1) pa_nil))) (pa_cons (pe_call (ok_law_refused T) (hr.mono (by decide)) rfl T.g_law_refused T.F_law_refused.kp (b_law_refused T) .nil pass0 (pa_cons (pe_str) (pa_cons (pe_tup (pa_cons (pe_str) pa_nil)) pa_nil))) pa_nil))))) (pss_one (ps_ret (pe_bl))) pss_nil) (pss_cons (ps_if (pt_not (pt_val (pe_call (ok_law_same T 8) hr rfl T.g_law_same T.F_law_same.kp (b_law_same T) .nil pass0 (pa_cons (pe_call (ok_law_asked T) (hr.mono (by decide)) rfl T.g_law_asked T.F_law_asked.kp (b_law_asked T) .nil pass0 (pa_cons (pv 2) (pa_cons (pv 2) pa_nil))) (pa_cons (pe_call (ok_law_refused T) (hr.mono (by decide)) rfl T.g_law_refused T.F_law_refused.kp (b_law_refused T) .nil pass0 (pa_cons (pe_str) (pa_cons (pe_tup (pa_cons (pe_str) pa_nil)) pa_nil))) pa_nil))))) (pss_one (ps_ret (pe_bl))) pss_nil) (pss_cons (ps_if (pt_not (pt_val (pe_call (ok_law_same T 8) hr rfl T.g_law_same T.F_law_same.kp (b_law_same T) .nil pass0 (pa_cons (pe_call (ok_law_asked T) (hr.mono (by decide)) rfl T.g_law_asked T.F_law_asked.kp (b_law_asked T) .nil pass0 (pa_cons (pv 1) (pa_cons (pv 2) pa_nil))) (pa_cons (pe_call (ok_law_refused T) (hr.mono (by decide)) rfl T.g_law_refused T.F_law_refused.kp (b_law_refused T) .nil pass0 (pa_cons (pe_str) (pa_cons (pe_tup (pa_cons (pe_str) pa_nil)) pa_nil))) pa_nil))))) (pss_one (ps_ret (pe_bl))) pss_nil) (pss_cons (ps_if (pt_cmpR op_gt (pe_callB (show CallR _ _ (LT.rLenS K) from LT.call_lenS) (by rfl) T.z_len (by decide +kernel) (pa_cons (pv 1) pa_nil)) (pe_int) (nomark _)) (pss_one (ps_if (pt_not (pt_val (pe_call (ok_law_same T 8) hr rfl T.g_law_same T.F_law_same.kp (b_law_same T) .nil pass0 (pa_cons (pe_call (ok_law_asked T) (hr.mono (by decide)) rfl T.g_law_asked T.F_law_asked.kp (b_law_asked T) .nil pass0 (pa_cons (pv 1) (pa_cons (pe_call (ok_law_torn T) (hr.mono (by decide)) rfl T.g_law_torn T.F_law_torn.kp (b_law_torn T) .nil pass0 (pa_cons (pv 0) (pa_cons (pv 1) pa_nil))) pa_nil))) (pa_cons (pe_call (ok_law_refused T) (hr.mono (by decide)) rfl T.g_law_refused T.F_law_refused.kp (b_law_refused T) .nil pass0 (pa_cons (pe_str) (pa_cons (pe_tup (pa_cons (pe_str) pa_nil)) pa_nil))) pa_nil))))) (pss_one (ps_ret (pe_bl))) pss_nil)) pss_nil) (pss_one (ps_ret (pe_call (ok_law_same T 8) hr rfl T.g_law_same T.F_law_same.kp (b_law_same T) .nil pass0 (pa_cons (pe_lst (pa_cons (pv 1) (pa_cons (pv 2) pa_nil))) (pa_cons (pv 3) pa_nil)))))))))))) ?sim ?go
  case sim =>
    try simp only [LL.cxK0, LL.cxK1, List.map_cons, List.map_nil]
    repeat' (first | fail "s")
  case go =>
    intro ts Ω PQ PX hl h
    obtain ⟨cs, rfl, kc, lc, q⟩ := h
    simp! only [N_law_refused_right]
    refine ⟨cs, rfl, okc_iff.mpr kc, by omega, fun bd hbd => lst_in ?_⟩
    obtain ⟨b1, b2, b3⟩ := id hbd
    have d2 : dataT (.lst [.lst (cs.map cT), bd]) = true := by
      show (dataT (.lst (cs.map cT)) && (dataT bd && true)) = true
      rw [data_cT, b1]; rfl
    have p2 : depTr2 (.lst [.lst (cs.map cT), bd]) < 8 := by
      have h1 := dep_cT (cs := cs)
      show max (depTr2 (.lst (cs.map cT))) (max (depTr2 bd) 0) + 1 < 8
      omega
    have dr : ∀ n : Str, dataT (refLT (.tup [.str n])) = true := fun n => rfl
    have pr : ∀ n : Str, depTr2 (refLT (.tup [.str n])) < 8 := fun n => by show (3 : Nat) < 8; decide
    refine ⟨_, rfl, d2, p2, ak_1 hbd data_cT ⟨_, rfl, sm_call (dr _) (pr _) ?_⟩⟩
    simp! only [and_true]
    refine ak_1 hbd b1 ⟨_, rfl, sm_call (dr _) (pr _) ?_⟩
    simp! only [and_true]
    refine ak_2 kc (by omega) hbd ⟨_, rfl, sm_call (dr _) (pr _) ?_⟩
    simp! only [and_true]
    refine fun _ => itei (fun h => ?_) fun h => lst_in (sm_call d2 p2 q)
    refine ⟨cs, rfl, kc, fun e => by rw [e] at h; simp at h, by omega, fun ds kd nf ld => ak_3 kc kd (by omega) (by omega) nf ⟨_, rfl, sm_call (dr _) (pr _) ?_⟩⟩
    simp! only [and_true]
    exact lst_in (sm_call d2 p2 q)
end K11

namespace K11
open PySem PySem.Spec PyProof.Rows L2 LL LT
local macro_rules | `(tactic| fail "s") => `(tactic| first | (with_reducible first | exact sim_var | exact sim_int | exact sim_bl | exact sim_str | exact sim_non | exact sim_ty | exact sim_ref | exact sim_nil | apply sim_cons | apply sim_op | apply simr_I0 | apply simr_I | exact simr_Eq | exact simr_Ne | exact simr_IxA | exact simr_addG | exact simr_isN | exact simr_notN | exact simr_isB | exact simr_in | exact simr_IxL | exact simr_IxT | exact simr_IxS | exact simr_EqD | exact simr_NeD | exact simr_rep | exact simr_repW | apply sim_un | apply sim_test | apply sim_tB | apply sim_and | apply sim_or | apply sim_not | apply sim_andV | apply sim_orV | apply sim_notV | apply sim_if | apply sim_chain | apply sim_tup | apply sim_lst | apply sim_bor0 | apply sim_bor | apply sim_borS | apply sim_call0 | apply sim_call | apply sim_callS | apply sim_callZ | apply sim_isXT | apply sim_isX | apply sim_xf | apply sim_sortS | apply sim_listRg | apply sim_CB | exact simc_len | exact simc_int | exact simc_isi | exact simc_mx | exact simc_mn | exact simc_sum | exact simc_maxL | exact simc_minL | exact simc_minS | exact simc_all | exact simc_any | exact simc_list | exact simc_tuple | exact simc_isiT | exact simc_strI | exact simc_sortI | exact simc_sortR | apply sim_sl | exact simsl_G | exact simsl_L | exact sim_oNone | apply sim_oSome | apply sim_append | exact sim_newD | apply sim_disp1 | apply sim_dget2 | apply sim_dget1 | apply sim_dget | apply sim_din | apply sim_dnotin | apply sim_lc | apply sim_dc | exact sim_yes | apply sim_iL | apply sim_iT | apply sim_iS | apply sim_iR1 | apply sim_iR2 | apply sim_iE | apply sim_iZ | apply sim_revT | exact gin_name (by decide) | apply gin_tup | exact gin_nil | apply gin_cons | exact mono_name | exact mono_nil | apply mono_cons | apply mono_tup | exact sim_next | apply sim_mk | apply sim_fgl | apply sim_fg | apply sim_seq | apply sim_ret | exact sim_retN | apply sim_drop | exact sim_break | exact sim_cont | apply sim_ifS | apply sim_asg | exact sim_gName | apply sim_gTup | exact sim_gNil | apply sim_gCons | apply sim_gSub | apply sim_for | apply sim_while | apply sim_dput | apply sim_raise | apply sim_tryT0 | apply sim_tryT) | exact fun _ _ => rfl | exact fun _ => rfl | exact fun _ _ _ _ => rfl | intro W | intro a cls d x)
local macro_rules | `(tactic| fail "l") => `(tactic| (simp only [List.length_append,List.length_take,List.length_drop,List.length_map,List.length_cons,List.length_nil,List.length_set,List.length_replicate,List.length_range]; omega))
local macro_rules | `(tactic| fail "r") => `(tactic| first | fail "d" | with_reducible refine fun (_ : _ ≤ 1000000) => ?_ | with_reducible refine Or.inl (fun (_ : _ ≤ 1000000) => ?_) | with_reducible refine lst_in ?_ | with_reducible refine dic_in ?_ | with_reducible refine tk_call (by first | decide | exact tk_big (by omega) (by omega)) fun v h0 h1 => ?_ | with_reducible refine bt_call (by first | decide | exact tk_big (by omega) (by omega)) fun v h0 h1 => ?_ | with_reducible refine ct_call (by first | decide | exact ⟨by omega, by omega, by omega⟩) fun v h0 h1 => ?_ | with_reducible refine LL.itei (fun h => ?_) fun h => ?_ | with_reducible refine pickP (by omega) (by simp only [List.length_cons, List.length_nil]; omega) ?_ | with_reducible refine List.forall_mem_cons.mpr (And.intro ?_ ?_) | with_reducible exact LT.nil_all | with_reducible refine And.intro (by first | (unfold CPow; decide) | omega | rfl) ?_ | with_reducible refine am_call rfl (List.cons_ne_nil _ _) ?_ | refine And.intro (show CMul _ _ from .inl ⟨by omega, by omega⟩) ?_)
local macro_rules | `(tactic| fail "d") => `(tactic| simp only [and_true,dSortI,dSortR,dLstRg,dRepW,dRetF,dForgets,asD_put,dSortS,dDPut,dCallZ,dBor,dBor0,diZ,dRevT,dStrI,dIsXT,dTry0,dTry,dXf,dIsX,dNewD,dDisp1,Prod.mk.injEq,wipeT,Int.toNat_natCast,asL_put,put_same,put_put,Cell.lst.injEq,atI_0,atI_1,atI_2,atI_3,atI_4,atI_5,atI_6,atI_7,atI_8,atI_9,Tr.ty.injEq,tyN_int,tyN_bool,tyN_str,tyN_list,tyN_tuple,tyN_dict,dVar,dC,dName,dOp,dI,dI0,dUn,dU,dEq,dNe,dTest,dAnd,dOr,dNot,dAndV,dOrV,dNotV,dIf,dChain,dNil,dCons,dTup,dLst,dCall,dCall0,dCB,dNext,dSeq,dRet,dRetN,dDrop,dBreak,dCont,dIfS,dgNil,dgCons,dTupG,dAsg,diL,diT,diS,diR1,diR2,diE,dYes,dIx,dLen,dInt,dMx,dSum,dAll,dIsi,dIsiT,doNone,doSome,dSl,dApp,dSub,dSet,dEqD,dGet,dGet1,dGet2,LT.dIn,dIsN,dIsB,dIn',dList,dTuple,dRaise,dMaxL,dMinL,dMinS,dRep,asL_lst,asS_lst,asS_tup,asT_tup,flatV',Tr.int.injEq,Tr.bl.injEq,Tr.str.injEq,Tr.lst.injEq,Tr.tup.injEq,Tr.obj.injEq,Option.isSome_some,List.map_cons,List.map_nil,List.length_cons,List.length_nil,List.replicate_succ,List.replicate_zero,List.cons_append,List.nil_append,List.append_nil,List.getElem?_cons_zero,List.getElem?_cons_succ,List.set_cons_zero,List.set_cons_succ,Nat.add_sub_cancel,Nat.reduceAdd,Nat.reduceSub,Option.some.injEq,List.cons.injEq,and_true,true_and,and_false,false_and,exists_eq_left,exists_eq_left',exists_and_left,exists_and_right,exists_eq,exists_eq',LL.if_dec,reduceCtorEq,exists_false,exists_const,or_false,false_or,if_true,if_false,and_assoc,Int.reduceEq,Int.reduceNe,Int.reduceNeg,Int.reduceLT,Int.reduceLE,Int.reduceMul,Int.reduceAdd,Int.reduceSub,Int.reducePow,Int.reduceToNat,Nat.reducePow,Nat.reduceLT,Nat.reduceLeDiff,true_or,or_true,Bool.not_true,Bool.not_false,Bool.false_eq_true,Bool.or_false,Bool.or_true,Bool.true_or,Bool.false_or,decide_true,decide_false,not_true_eq_false,not_false_eq_true,LL.scal_int,LL.scal_bl,LL.scal_str,V.int.injEq,V.bl.injEq,V.str.injEq,Nat.zero_le,forall_const,true_implies,kindT_non,isNonT_non,flatT_non,flatK_non,isBT_non_true,isBT_non_false,toV_non,ofV_non,keyT_non,isT_non_int,isT_non_bool,isT_non_str,isT_non_list,isT_non_tuple,isT_non_dict,kindT_bl,isNonT_bl,flatT_bl,flatK_bl,toV_bl,ofV_bl,keyT_bl,isT_bl_int,isT_bl_bool,isT_bl_str,isT_bl_list,isT_bl_tuple,isT_bl_dict,kindT_int,isNonT_int,flatT_int,flatK_int,isBT_int_true,isBT_int_false,toV_int,ofV_int,keyT_int,isT_int_int,isT_int_bool,isT_int_str,isT_int_list,isT_int_tuple,isT_int_dict,kindT_str,isNonT_str,flatT_str,flatK_str,isBT_str_true,isBT_str_false,toV_str,ofV_str,keyT_str,isT_str_int,isT_str_bool,isT_str_str,isT_str_list,isT_str_tuple,isT_str_dict,kindT_lst,isNonT_lst,flatT_lst,flatK_lst,isBT_lst_true,isBT_lst_false,lenT_lst,keyT_lst,isT_lst_int,isT_lst_bool,isT_lst_str,isT_lst_list,isT_lst_tuple,isT_lst_dict,kindT_tup,isNonT_tup,flatT_tup,flatK_tup,isBT_tup_true,isBT_tup_false,lenT_tup,keyT_tup,isT_tup_int,isT_tup_bool,isT_tup_str,isT_tup_list,isT_tup_tuple,isT_tup_dict,kindT_dic,isNonT_dic,flatT_dic,flatK_dic,isBT_dic_true,isBT_dic_false,lenT_dic,keyT_dic,isT_dic_int,isT_dic_bool,isT_dic_str,isT_dic_list,isT_dic_tuple,isT_dic_dict,kindT_obj,isNonT_obj,flatT_obj,flatK_obj,isBT_obj_true,isBT_obj_false,keyT_obj,kindT_drw,isNonT_drw,flatT_drw,flatK_drw,isBT_drw_true,isBT_drw_false,keyT_drw,kindT_ty,isNonT_ty,flatT_ty,flatK_ty,isBT_ty_true,isBT_ty_false,toV_ty,ofV_ty,keyT_ty,asD_dic,isBT_bl,dAddG_int,dAddG_str,dAddG_tup,dAddG_lst_lst,dAddG_lst_obj,dAddG_obj_lst,dAddG_obj_obj,dSlG_tup,dSlG_str,dSlG_lst,dSlG_obj])
local macro_rules | `(tactic| simp! only [$xs,*]) => `(tactic| try simp only [$xs,*,dSortI,dSortR,dLstRg,dRepW,dRetF,dForgets,asD_put,dSortS,dDPut,dCallZ,dBor,dBor0,diZ,dRevT,dStrI,dIsXT,dTry0,dTry,dXf,dIsX,dNewD,dDisp1,Prod.mk.injEq,wipeT,Int.toNat_natCast,asL_put,put_same,put_put,Cell.lst.injEq,atI_0,atI_1,atI_2,atI_3,atI_4,atI_5,atI_6,atI_7,atI_8,atI_9,Tr.ty.injEq,tyN_int,tyN_bool,tyN_str,tyN_list,tyN_tuple,tyN_dict,dVar,dC,dName,dOp,dI,dI0,dUn,dU,dEq,dNe,dTest,dAnd,dOr,dNot,dAndV,dOrV,dNotV,dIf,dChain,dNil,dCons,dTup,dLst,dCall,dCall0,dCB,dNext,dSeq,dRet,dRetN,dDrop,dBreak,dCont,dIfS,dgNil,dgCons,dTupG,dAsg,diL,diT,diS,diR1,diR2,diE,dYes,dIx,dLen,dInt,dMx,dSum,dAll,dIsi,dIsiT,doNone,doSome,dSl,dApp,dSub,dSet,dEqD,dGet,dGet1,dGet2,LT.dIn,dIsN,dIsB,dIn',dList,dTuple,dRaise,dMaxL,dMinL,dMinS,dRep,asL_lst,asS_lst,asS_tup,asT_tup,flatV',Tr.int.injEq,Tr.bl.injEq,Tr.str.injEq,Tr.lst.injEq,Tr.tup.injEq,Tr.obj.injEq,Option.isSome_some,List.map_cons,List.map_nil,List.length_cons,List.length_nil,List.replicate_succ,List.replicate_zero,List.cons_append,List.nil_append,List.append_nil,List.getElem?_cons_zero,List.getElem?_cons_succ,List.set_cons_zero,List.set_cons_succ,Nat.add_sub_cancel,Nat.reduceAdd,Nat.reduceSub,Option.some.injEq,List.cons.injEq,and_true,true_and,and_false,false_and,exists_eq_left,exists_eq_left',exists_and_left,exists_and_right,exists_eq,exists_eq',LL.if_dec,reduceCtorEq,exists_false,exists_const,or_false,false_or,if_true,if_false,and_assoc,Int.reduceEq,Int.reduceNe,Int.reduceNeg,Int.reduceLT,Int.reduceLE,Int.reduceMul,Int.reduceAdd,Int.reduceSub,Int.reducePow,Int.reduceToNat,Nat.reducePow,Nat.reduceLT,Nat.reduceLeDiff,true_or,or_true,Bool.not_true,Bool.not_false,Bool.false_eq_true,Bool.or_false,Bool.or_true,Bool.true_or,Bool.false_or,decide_true,decide_false,not_true_eq_false,not_false_eq_true,LL.scal_int,LL.scal_bl,LL.scal_str,V.int.injEq,V.bl.injEq,V.str.injEq,Nat.zero_le,forall_const,true_implies,kindT_non,isNonT_non,flatT_non,flatK_non,isBT_non_true,isBT_non_false,toV_non,ofV_non,keyT_non,isT_non_int,isT_non_bool,isT_non_str,isT_non_list,isT_non_tuple,isT_non_dict,kindT_bl,isNonT_bl,flatT_bl,flatK_bl,toV_bl,ofV_bl,keyT_bl,isT_bl_int,isT_bl_bool,isT_bl_str,isT_bl_list,isT_bl_tuple,isT_bl_dict,kindT_int,isNonT_int,flatT_int,flatK_int,isBT_int_true,isBT_int_false,toV_int,ofV_int,keyT_int,isT_int_int,isT_int_bool,isT_int_str,isT_int_list,isT_int_tuple,isT_int_dict,kindT_str,isNonT_str,flatT_str,flatK_str,isBT_str_true,isBT_str_false,toV_str,ofV_str,keyT_str,isT_str_int,isT_str_bool,isT_str_str,isT_str_list,isT_str_tuple,isT_str_dict,kindT_lst,isNonT_lst,flatT_lst,flatK_lst,isBT_lst_true,isBT_lst_false,lenT_lst,keyT_lst,isT_lst_int,isT_lst_bool,isT_lst_str,isT_lst_list,isT_lst_tuple,isT_lst_dict,kindT_tup,isNonT_tup,flatT_tup,flatK_tup,isBT_tup_true,isBT_tup_false,lenT_tup,keyT_tup,isT_tup_int,isT_tup_bool,isT_tup_str,isT_tup_list,isT_tup_tuple,isT_tup_dict,kindT_dic,isNonT_dic,flatT_dic,flatK_dic,isBT_dic_true,isBT_dic_false,lenT_dic,keyT_dic,isT_dic_int,isT_dic_bool,isT_dic_str,isT_dic_list,isT_dic_tuple,isT_dic_dict,kindT_obj,isNonT_obj,flatT_obj,flatK_obj,isBT_obj_true,isBT_obj_false,keyT_obj,kindT_drw,isNonT_drw,flatT_drw,flatK_drw,isBT_drw_true,isBT_drw_false,keyT_drw,kindT_ty,isNonT_ty,flatT_ty,flatK_ty,isBT_ty_true,isBT_ty_false,toV_ty,ofV_ty,keyT_ty,asD_dic,isBT_bl,dAddG_int,dAddG_str,dAddG_tup,dAddG_lst_lst,dAddG_lst_obj,dAddG_obj_lst,dAddG_obj_obj,dSlG_tup,dSlG_str,dSlG_lst,dSlG_obj])
variable {P : Program} {w : World} {K : PySem.W.Frag} {mg : Str → Option Value} {base : Heap}

def sp_law (K : PySem.W.Frag) : Sp := fun vs H Q _ => ∃ (a : Addr) (ns : List Int), vs = [.ref a] ∧ SqL K H a (ns.map V.int) ∧ ns.length ≤ 100000 ∧ ∀ H', Q (.bl true) H'
theorem ok_law (T : Tx K mg) : FnOk P w K mg base CX0 12 (He.ga K "law") T.fd_law P_law (sp_law K) := by
  refine T.F_law.ok sc_law (fun vs H Q E h => by obtain ⟨_, _, rfl, _⟩ := h; rfl) (fun cdv A outer s H vs Q E hr h => ?_)
  obtain ⟨a, ns, rfl, hs, hn, q⟩ := h
  refine ⟨_, PSs.nox (pss_cons (ps_set (i := 1) sc_law.nd rfl (Or.inl rfl) (pe_call (ok_law_draws T) (hr.mono (by decide)) rfl T.g_law_draws T.F_law_draws.kp (b_law_draws T) .nil pass0 (pa_cons (pv 0) pa_nil))) (pss_cons (ps_set (i := 2) sc_law.nd rfl (Or.inl rfl) (pe_lst (pa_cons (pe_call (ok_law_change_rows T) (hr.mono (by decide)) rfl T.g_law_change_rows T.F_law_change_rows.kp (b_law_change_rows T) .nil pass0 (pa_cons (pv 1) (pa_cons (pe_call (ok_law_count T) (hr.mono (by decide)) rfl T.g_law_count T.F_law_count.kp (b_law_count T) .nil pass0 (pa_cons (pv 1) (pa_cons (pe_int) (pa_cons (pe_int) pa_nil)))) pa_nil))) (pa_cons (pe_call (ok_law_change_rows T) (hr.mono (by decide)) rfl T.g_law_change_rows T.F_law_change_rows.kp (b_law_change_rows T) .nil pass0 (pa_cons (pv 1) (pa_cons (pe_call (ok_law_count T) (hr.mono (by decide)) rfl T.g_law_count T.F_law_count.kp (b_law_count T) .nil pass0 (pa_cons (pv 1) (pa_cons (pe_int) (pa_cons (pe_int) pa_nil)))) pa_nil))) pa_nil)))) (pss_cons (ps_for PassesOwn.never rfl (LT.pi_seqK (K := K) rfl (pv 2)) (pg_name (i := 3) sc_law.nd rfl (Or.inl rfl)) (pss_one (ps_if (PW.pt (pw_or (pt_not (pt_val (pe_call (ok_law_rows_right T) hr rfl T.g_law_rows_right T.F_law_rows_right.kp (b_law_rows_right T) .nil pass0 (pa_cons (pv 1) (pa_cons (pv 3) pa_nil))))) (pw_or1 (pt_not (pt_val (pe_call (ok_law_refused_right T) (hr.mono (by decide)) rfl T.g_law_refused_right T.F_law_refused_right.kp (b_law_refused_right T) .nil pass0 (pa_cons (pv 1) (pa_cons (pv 3) pa_nil)))))))) (pss_one (ps_ret (pe_bl))) pss_nil))) (pss_cons (ps_if (PW.pt (pw_or (pt_not (pt_val (pe_call (ok_law_images_right T) hr rfl T.g_law_images_right T.F_law_images_right.kp (b_law_images_right T) .nil pass0 (pa_cons (pv 1) pa_nil)))) (pw_or1 (pt_not (pt_val (pe_call (ok_law_images_right T) hr rfl T.g_law_images_right T.F_law_images_right.kp (b_law_images_right T) .nil pass0 (pa_cons (pv 1) pa_nil))))))) (pss_one (ps_ret (pe_bl))) pss_nil) (pss_one (ps_ret (pe_call (ok_law_joined_right T) (hr.mono (by decide)) rfl T.g_law_joined_right T.F_law_joined_right.kp (b_law_joined_right T) .nil pass0 (pa_cons (pe_ix (show IxR _ (LL.rIxA K) from LL.ix_A) (pv 2) (pe_int) (fun _ _ => rfl)) (pa_cons (pe_lst pa_nil) (pa_cons (pe_ix (show IxR _ (LL.rIxA K) from LL.ix_A) (pv 2) (pe_int) (fun _ _ => rfl)) pa_nil)))))))))), ?_⟩
  refine law_cut (fun σ' H' => ∃ d s, σ' = some (.ref a) :: some (.ref d) :: List.replicate 2 none ∧ Drw d s H') ?_ ?_
  · intro N hN
    simp only [tSeq, tAsg, tRet, tRetN, tDrop, tNext, tVar, tC, gName, tOp, tUn, rI, rI0, rU, tIfS, tTest, tB, tIf, tAnd, tOr, tNot, tAndV, tOrV, tNotV, tCall, tCons, tNil, tCB, tLst, tTup, tChain, CMul, CDiv, CPow, rEq, rNe, gSub, L2.start, LL.cxK0, LL.cxK1, List.map_cons, List.map_nil, List.length_cons, List.length_nil, List.replicate_succ, List.replicate_zero, List.cons_append, List.nil_append, List.append_nil, List.getElem?_cons_zero, List.getElem?_cons_succ, List.set_cons_zero, List.set_cons_succ, Nat.add_sub_cancel, Nat.reduceAdd, Nat.reduceSub, Option.some.injEq, V.int.injEq, V.bl.injEq, V.ref.injEq, V.str.injEq, List.cons.injEq, and_true, true_and, and_false, false_and, exists_eq_left, exists_eq_left', exists_and_left, exists_and_right, exists_eq, exists_eq', LL.if_dec, reduceCtorEq, exists_false, exists_const, or_false, false_or, if_true, if_false, LL.rInt1, LL.rMx, LL.rMn, and_assoc, Int.reduceNeg, Int.reduceLT, Int.reduceLE, Int.reduceMul, Int.reduceAdd, Int.reduceSub, Int.reducePow, Int.reduceToNat, Nat.reducePow, Nat.reduceLT, true_or, or_true, Bool.not_true, Bool.not_false, Bool.false_eq_true, Bool.or_false, Bool.or_true, Bool.true_or, Bool.false_or, decide_true, decide_false, not_true_eq_false, not_false_eq_true, LL.scal_int, LL.scal_bl, LL.scal_str, LL.isInt, LL.isBl, LL.isStr, LL.isLst, LL.isTup, LL.isDic, N_law]
    exact ⟨a, ns, rfl, hs, hn, fun d s H1 s1 D1 nd ns' => hN _ _ ⟨d, s, rfl, D1⟩⟩
  · rintro σ' H' ⟨d, s', rfl, D1⟩
    refine' law_sim (K := K) (E := fun _ => E) (n := 2) ?sim rfl D1 q _ ?go
    case sim =>
      try simp only [LL.cxK0, LL.cxK1, List.map_cons, List.map_nil]
      repeat' (first | fail "s")
    case go =>
      generalize (fun _ => none : Om) = Ω
      simp! only [N_law]
      refine ct_call (by decide) fun n1 a1 b1 => ?_
      refine ⟨n1, rfl, a1, b1, fun cs kc lc => ct_call (by decide) fun n2 a2 b2 => ⟨n2, rfl, a2, by omega, fun ds kd ld => lst_in ?_⟩⟩
      have hp : ∀ x ∈ [Tr.lst (cs.map cT), .lst (ds.map cT)], ∃ es : List Ch, x = .lst (es.map cT) ∧ OKC es ∧ es.length ≤ 60 := fun x hx => by
        simp only [List.mem_cons, List.not_mem_nil, or_false] at hx
        rcases hx with rfl | rfl
        · exact ⟨_, rfl, kc, lc⟩
        · exact ⟨_, rfl, kd, ld⟩
      refine for_S rfl rfl (fun i ρ' Ω' => Ω' = Ω ∧ ∃ x3, ρ' = [none, some .drw, some (.lst [Tr.lst (cs.map cT), .lst (ds.map cT)]), x3]) ⟨rfl, _, rfl⟩ (fun _ _ _ _ => trivial) ?_ ?_
      · rintro hz i x ρ' Ω' hx ⟨rfl, x3, rfl⟩
        obtain ⟨es, rfl, ke, le⟩ := hp x (List.mem_of_getElem? hx)
        simp! only [and_true]
        refine ⟨es, rfl, ke, le, ?_⟩
        simp! only [and_true]
        refine ⟨es, rfl, ke, le, ?_⟩
        simp! only [and_true]
      · rintro ρ' Ω' ⟨rfl, x3, rfl⟩
        simp! only [and_true]
        refine ⟨rfl, ?_⟩
        simp! only [and_true]
        refine ⟨rfl, ?_⟩
        simp! only [and_true]
        exact lst_in (jr_call (ds := []) kc okc_nil (by omega) (Nat.zero_le _) fits_nil (isj_nil kc.asc) (by omega) rfl)
end K11

namespace K11
open PySem PySem.Spec PyProof.Rows L2 LL LT
local macro_rules | `(tactic| fail "s") => `(tactic| first | (with_reducible first | exact sim_var | exact sim_int | exact sim_bl | exact sim_str | exact sim_non | exact sim_ty | exact sim_ref | exact sim_nil | apply sim_cons | apply sim_op | apply simr_I0 | apply simr_I | exact simr_Eq | exact simr_Ne | exact simr_IxA | exact simr_addG | exact simr_isN | exact simr_notN | exact simr_isB | exact simr_in | exact simr_IxL | exact simr_IxT | exact simr_IxS | exact simr_EqD | exact simr_NeD | exact simr_rep | exact simr_repW | apply sim_un | apply sim_test | apply sim_tB | apply sim_and | apply sim_or | apply sim_not | apply sim_andV | apply sim_orV | apply sim_notV | apply sim_if | apply sim_chain | apply sim_tup | apply sim_lst | apply sim_bor0 | apply sim_bor | apply sim_borS | apply sim_call0 | apply sim_call | apply sim_callS | apply sim_callZ | apply sim_isXT | apply sim_isX | apply sim_xf | apply sim_sortS | apply sim_listRg | apply sim_CB | exact simc_len | exact simc_int | exact simc_isi | exact simc_mx | exact simc_mn | exact simc_sum | exact simc_maxL | exact simc_minL | exact simc_minS | exact simc_all | exact simc_any | exact simc_list | exact simc_tuple | exact simc_isiT | exact simc_strI | exact simc_sortI | exact simc_sortR | apply sim_sl | exact simsl_G | exact simsl_L | exact sim_oNone | apply sim_oSome | apply sim_append | exact sim_newD | apply sim_disp1 | apply sim_dget2 | apply sim_dget1 | apply sim_dget | apply sim_din | apply sim_dnotin | apply sim_lc | apply sim_dc | exact sim_yes | apply sim_iL | apply sim_iT | apply sim_iS | apply sim_iR1 | apply sim_iR2 | apply sim_iE | apply sim_iZ | apply sim_revT | exact gin_name (by decide) | apply gin_tup | exact gin_nil | apply gin_cons | exact mono_name | exact mono_nil | apply mono_cons | apply mono_tup | exact sim_next | apply sim_mk | apply sim_fgl | apply sim_fg | apply sim_seq | apply sim_ret | exact sim_retN | apply sim_drop | exact sim_break | exact sim_cont | apply sim_ifS | apply sim_asg | exact sim_gName | apply sim_gTup | exact sim_gNil | apply sim_gCons | apply sim_gSub | apply sim_for | apply sim_while | apply sim_dput | apply sim_raise | apply sim_tryT0 | apply sim_tryT) | exact fun _ _ => rfl | exact fun _ => rfl | exact fun _ _ _ _ => rfl | intro W | intro a cls d x)
local macro_rules | `(tactic| fail "l") => `(tactic| (simp only [List.length_append,List.length_take,List.length_drop,List.length_map,List.length_cons,List.length_nil,List.length_set,List.length_replicate,List.length_range]; omega))
local macro_rules | `(tactic| fail "r") => `(tactic| first | fail "d" | with_reducible refine fun (_ : _ ≤ 1000000) => ?_ | with_reducible refine Or.inl (fun (_ : _ ≤ 1000000) => ?_) | with_reducible refine lst_in ?_ | with_reducible refine dic_in ?_ | with_reducible refine tk_call (by first | decide | exact tk_big (by omega) (by omega)) fun v h0 h1 => ?_ | with_reducible refine bt_call (by first | decide | exact tk_big (by omega) (by omega)) fun v h0 h1 => ?_ | with_reducible refine ct_call (by first | decide | exact ⟨by omega, by omega, by omega⟩) fun v h0 h1 => ?_ | with_reducible refine LL.itei (fun h => ?_) fun h => ?_ | with_reducible refine pickP (by omega) (by simp only [List.length_cons, List.length_nil]; omega) ?_ | with_reducible refine List.forall_mem_cons.mpr (And.intro ?_ ?_) | with_reducible exact LT.nil_all | with_reducible refine And.intro (by first | (unfold CPow; decide) | omega | rfl) ?_ | with_reducible refine am_call rfl (List.cons_ne_nil _ _) ?_ | refine And.intro (show CMul _ _ from .inl ⟨by omega, by omega⟩) ?_)
local macro_rules | `(tactic| fail "d") => `(tactic| simp only [and_true,dSortI,dSortR,dLstRg,dRepW,dRetF,dForgets,asD_put,dSortS,dDPut,dCallZ,dBor,dBor0,diZ,dRevT,dStrI,dIsXT,dTry0,dTry,dXf,dIsX,dNewD,dDisp1,Prod.mk.injEq,wipeT,Int.toNat_natCast,asL_put,put_same,put_put,Cell.lst.injEq,atI_0,atI_1,atI_2,atI_3,atI_4,atI_5,atI_6,atI_7,atI_8,atI_9,Tr.ty.injEq,tyN_int,tyN_bool,tyN_str,tyN_list,tyN_tuple,tyN_dict,dVar,dC,dName,dOp,dI,dI0,dUn,dU,dEq,dNe,dTest,dAnd,dOr,dNot,dAndV,dOrV,dNotV,dIf,dChain,dNil,dCons,dTup,dLst,dCall,dCall0,dCB,dNext,dSeq,dRet,dRetN,dDrop,dBreak,dCont,dIfS,dgNil,dgCons,dTupG,dAsg,diL,diT,diS,diR1,diR2,diE,dYes,dIx,dLen,dInt,dMx,dSum,dAll,dIsi,dIsiT,doNone,doSome,dSl,dApp,dSub,dSet,dEqD,dGet,dGet1,dGet2,LT.dIn,dIsN,dIsB,dIn',dList,dTuple,dRaise,dMaxL,dMinL,dMinS,dRep,asL_lst,asS_lst,asS_tup,asT_tup,flatV',Tr.int.injEq,Tr.bl.injEq,Tr.str.injEq,Tr.lst.injEq,Tr.tup.injEq,Tr.obj.injEq,Option.isSome_some,List.map_cons,List.map_nil,List.length_cons,List.length_nil,List.replicate_succ,List.replicate_zero,List.cons_append,List.nil_append,List.append_nil,List.getElem?_cons_zero,List.getElem?_cons_succ,List.set_cons_zero,List.set_cons_succ,Nat.add_sub_cancel,Nat.reduceAdd,Nat.reduceSub,Option.some.injEq,List.cons.injEq,and_true,true_and,and_false,false_and,exists_eq_left,exists_eq_left',exists_and_left,exists_and_right,exists_eq,exists_eq',LL.if_dec,reduceCtorEq,exists_false,exists_const,or_false,false_or,if_true,if_false,and_assoc,Int.reduceEq,Int.reduceNe,Int.reduceNeg,Int.reduceLT,Int.reduceLE,Int.reduceMul,Int.reduceAdd,Int.reduceSub,Int.reducePow,Int.reduceToNat,Nat.reducePow,Nat.reduceLT,Nat.reduceLeDiff,true_or,or_true,Bool.not_true,Bool.not_false,Bool.false_eq_true,Bool.or_false,Bool.or_true,Bool.true_or,Bool.false_or,decide_true,decide_false,not_true_eq_false,not_false_eq_true,LL.scal_int,LL.scal_bl,LL.scal_str,V.int.injEq,V.bl.injEq,V.str.injEq,Nat.zero_le,forall_const,true_implies,kindT_non,isNonT_non,flatT_non,flatK_non,isBT_non_true,isBT_non_false,toV_non,ofV_non,keyT_non,isT_non_int,isT_non_bool,isT_non_str,isT_non_list,isT_non_tuple,isT_non_dict,kindT_bl,isNonT_bl,flatT_bl,flatK_bl,toV_bl,ofV_bl,keyT_bl,isT_bl_int,isT_bl_bool,isT_bl_str,isT_bl_list,isT_bl_tuple,isT_bl_dict,kindT_int,isNonT_int,flatT_int,flatK_int,isBT_int_true,isBT_int_false,toV_int,ofV_int,keyT_int,isT_int_int,isT_int_bool,isT_int_str,isT_int_list,isT_int_tuple,isT_int_dict,kindT_str,isNonT_str,flatT_str,flatK_str,isBT_str_true,isBT_str_false,toV_str,ofV_str,keyT_str,isT_str_int,isT_str_bool,isT_str_str,isT_str_list,isT_str_tuple,isT_str_dict,kindT_lst,isNonT_lst,flatT_lst,flatK_lst,isBT_lst_true,isBT_lst_false,lenT_lst,keyT_lst,isT_lst_int,isT_lst_bool,isT_lst_str,isT_lst_list,isT_lst_tuple,isT_lst_dict,kindT_tup,isNonT_tup,flatT_tup,flatK_tup,isBT_tup_true,isBT_tup_false,lenT_tup,keyT_tup,isT_tup_int,isT_tup_bool,isT_tup_str,isT_tup_list,isT_tup_tuple,isT_tup_dict,kindT_dic,isNonT_dic,flatT_dic,flatK_dic,isBT_dic_true,isBT_dic_false,lenT_dic,keyT_dic,isT_dic_int,isT_dic_bool,isT_dic_str,isT_dic_list,isT_dic_tuple,isT_dic_dict,kindT_obj,isNonT_obj,flatT_obj,flatK_obj,isBT_obj_true,isBT_obj_false,keyT_obj,kindT_drw,isNonT_drw,flatT_drw,flatK_drw,isBT_drw_true,isBT_drw_false,keyT_drw,kindT_ty,isNonT_ty,flatT_ty,flatK_ty,isBT_ty_true,isBT_ty_false,toV_ty,ofV_ty,keyT_ty,asD_dic,isBT_bl,dAddG_int,dAddG_str,dAddG_tup,dAddG_lst_lst,dAddG_lst_obj,dAddG_obj_lst,dAddG_obj_obj,dSlG_tup,dSlG_str,dSlG_lst,dSlG_obj])
local macro_rules | `(tactic| simp! only [$xs,*]) => `(tactic| try simp only [$xs,*,dSortI,dSortR,dLstRg,dRepW,dRetF,dForgets,asD_put,dSortS,dDPut,dCallZ,dBor,dBor0,diZ,dRevT,dStrI,dIsXT,dTry0,dTry,dXf,dIsX,dNewD,dDisp1,Prod.mk.injEq,wipeT,Int.toNat_natCast,asL_put,put_same,put_put,Cell.lst.injEq,atI_0,atI_1,atI_2,atI_3,atI_4,atI_5,atI_6,atI_7,atI_8,atI_9,Tr.ty.injEq,tyN_int,tyN_bool,tyN_str,tyN_list,tyN_tuple,tyN_dict,dVar,dC,dName,dOp,dI,dI0,dUn,dU,dEq,dNe,dTest,dAnd,dOr,dNot,dAndV,dOrV,dNotV,dIf,dChain,dNil,dCons,dTup,dLst,dCall,dCall0,dCB,dNext,dSeq,dRet,dRetN,dDrop,dBreak,dCont,dIfS,dgNil,dgCons,dTupG,dAsg,diL,diT,diS,diR1,diR2,diE,dYes,dIx,dLen,dInt,dMx,dSum,dAll,dIsi,dIsiT,doNone,doSome,dSl,dApp,dSub,dSet,dEqD,dGet,dGet1,dGet2,LT.dIn,dIsN,dIsB,dIn',dList,dTuple,dRaise,dMaxL,dMinL,dMinS,dRep,asL_lst,asS_lst,asS_tup,asT_tup,flatV',Tr.int.injEq,Tr.bl.injEq,Tr.str.injEq,Tr.lst.injEq,Tr.tup.injEq,Tr.obj.injEq,Option.isSome_some,List.map_cons,List.map_nil,List.length_cons,List.length_nil,List.replicate_succ,List.replicate_zero,List.cons_append,List.nil_append,List.append_nil,List.getElem?_cons_zero,List.getElem?_cons_succ,List.set_cons_zero,List.set_cons_succ,Nat.add_sub_cancel,Nat.reduceAdd,Nat.reduceSub,Option.some.injEq,List.cons.injEq,and_true,true_and,and_false,false_and,exists_eq_left,exists_eq_left',exists_and_left,exists_and_right,exists_eq,exists_eq',LL.if_dec,reduceCtorEq,exists_false,exists_const,or_false,false_or,if_true,if_false,and_assoc,Int.reduceEq,Int.reduceNe,Int.reduceNeg,Int.reduceLT,Int.reduceLE,Int.reduceMul,Int.reduceAdd,Int.reduceSub,Int.reducePow,Int.reduceToNat,Nat.reducePow,Nat.reduceLT,Nat.reduceLeDiff,true_or,or_true,Bool.not_true,Bool.not_false,Bool.false_eq_true,Bool.or_false,Bool.or_true,Bool.true_or,Bool.false_or,decide_true,decide_false,not_true_eq_false,not_false_eq_true,LL.scal_int,LL.scal_bl,LL.scal_str,V.int.injEq,V.bl.injEq,V.str.injEq,Nat.zero_le,forall_const,true_implies,kindT_non,isNonT_non,flatT_non,flatK_non,isBT_non_true,isBT_non_false,toV_non,ofV_non,keyT_non,isT_non_int,isT_non_bool,isT_non_str,isT_non_list,isT_non_tuple,isT_non_dict,kindT_bl,isNonT_bl,flatT_bl,flatK_bl,toV_bl,ofV_bl,keyT_bl,isT_bl_int,isT_bl_bool,isT_bl_str,isT_bl_list,isT_bl_tuple,isT_bl_dict,kindT_int,isNonT_int,flatT_int,flatK_int,isBT_int_true,isBT_int_false,toV_int,ofV_int,keyT_int,isT_int_int,isT_int_bool,isT_int_str,isT_int_list,isT_int_tuple,isT_int_dict,kindT_str,isNonT_str,flatT_str,flatK_str,isBT_str_true,isBT_str_false,toV_str,ofV_str,keyT_str,isT_str_int,isT_str_bool,isT_str_str,isT_str_list,isT_str_tuple,isT_str_dict,kindT_lst,isNonT_lst,flatT_lst,flatK_lst,isBT_lst_true,isBT_lst_false,lenT_lst,keyT_lst,isT_lst_int,isT_lst_bool,isT_lst_str,isT_lst_list,isT_lst_tuple,isT_lst_dict,kindT_tup,isNonT_tup,flatT_tup,flatK_tup,isBT_tup_true,isBT_tup_false,lenT_tup,keyT_tup,isT_tup_int,isT_tup_bool,isT_tup_str,isT_tup_list,isT_tup_tuple,isT_tup_dict,kindT_dic,isNonT_dic,flatT_dic,flatK_dic,isBT_dic_true,isBT_dic_false,lenT_dic,keyT_dic,isT_dic_int,isT_dic_bool,isT_dic_str,isT_dic_list,isT_dic_tuple,isT_dic_dict,kindT_obj,isNonT_obj,flatT_obj,flatK_obj,isBT_obj_true,isBT_obj_false,keyT_obj,kindT_drw,isNonT_drw,flatT_drw,flatK_drw,isBT_drw_true,isBT_drw_false,keyT_drw,kindT_ty,isNonT_ty,flatT_ty,flatK_ty,isBT_ty_true,isBT_ty_false,toV_ty,ofV_ty,keyT_ty,asD_dic,isBT_bl,dAddG_int,dAddG_str,dAddG_tup,dAddG_lst_lst,dAddG_lst_obj,dAddG_obj_lst,dAddG_obj_obj,dSlG_tup,dSlG_str,dSlG_lst,dSlG_obj])
variable {P : Program} {w : World} {K : PySem.W.Frag} {mg : Str → Option Value} {base : Heap}

theorem tx_of {K : PySem.W.Frag} {h : Heap} {mg : Str → Option Value} (X : K.In h) (G : h.Ns mainGlobals mg) (c : SaysY fa fn (fun K => exs.all fun e => e K) K) : Nonempty (Tx K mg) := by
  obtain ⟨fd_is_whole, F_is_whole⟩ := c.d.def_ 0 (d := dd_is_whole) rfl
  obtain ⟨fd_is_holder, F_is_holder⟩ := c.d.def_ 1 (d := dd_is_holder) rfl
  obtain ⟨fd_need, F_need⟩ := c.d.def_ 2 (d := dd_need) rfl
  obtain ⟨fd_is_word, F_is_word⟩ := c.d.def_ 3 (d := dd_is_word) rfl
  obtain ⟨fd_is_width, F_is_width⟩ := c.d.def_ 4 (d := dd_is_width) rfl
  obtain ⟨fd_fits_pages, F_fits_pages⟩ := c.d.def_ 5 (d := dd_fits_pages) rfl
  obtain ⟨fd_distinct, F_distinct⟩ := c.d.def_ 6 (d := dd_distinct) rfl
  obtain ⟨fd_are_words, F_are_words⟩ := c.d.def_ 7 (d := dd_are_words) rfl
  obtain ⟨fd_are_holders, F_are_holders⟩ := c.d.def_ 8 (d := dd_are_holders) rfl
  obtain ⟨fd_is_image, F_is_image⟩ := c.d.def_ 9 (d := dd_is_image) rfl
  obtain ⟨fd_is_change, F_is_change⟩ := c.d.def_ 10 (d := dd_is_change) rfl
  obtain ⟨fd_is_changes, F_is_changes⟩ := c.d.def_ 11 (d := dd_is_changes) rfl
  obtain ⟨fd_changes, F_changes⟩ := c.d.def_ 12 (d := dd_changes) rfl
  obtain ⟨fd_put_rows, F_put_rows⟩ := c.d.def_ 13 (d := dd_put_rows) rfl
  obtain ⟨fd_image_after, F_image_after⟩ := c.d.def_ 14 (d := dd_image_after) rfl
  obtain ⟨fd_apply_changes, F_apply_changes⟩ := c.d.def_ 15 (d := dd_apply_changes) rfl
  obtain ⟨fd_invert, F_invert⟩ := c.d.def_ 16 (d := dd_invert) rfl
  obtain ⟨fd_join_changes, F_join_changes⟩ := c.d.def_ 17 (d := dd_join_changes) rfl
  obtain ⟨fd_law_draws, F_law_draws⟩ := c.d.def_ 18 (d := dd_law_draws) rfl
  obtain ⟨fd_law_next_cell, F_law_next_cell⟩ := c.d.def_ 19 (d := dd_law_next_cell) rfl
  obtain ⟨fd_law_mixed, F_law_mixed⟩ := c.d.def_ 20 (d := dd_law_mixed) rfl
  obtain ⟨fd_law_take, F_law_take⟩ := c.d.def_ 21 (d := dd_law_take) rfl
  obtain ⟨fd_law_among, F_law_among⟩ := c.d.def_ 22 (d := dd_law_among) rfl
  obtain ⟨fd_law_between, F_law_between⟩ := c.d.def_ 23 (d := dd_law_between) rfl
  obtain ⟨fd_law_count, F_law_count⟩ := c.d.def_ 24 (d := dd_law_count) rfl
  obtain ⟨fd_law_other, F_law_other⟩ := c.d.def_ 25 (d := dd_law_other) rfl
  obtain ⟨fd_law_same, F_law_same⟩ := c.d.def_ 26 (d := dd_law_same) rfl
  obtain ⟨fd_law_copy, F_law_copy⟩ := c.d.def_ 27 (d := dd_law_copy) rfl
  obtain ⟨fd_law_holders, F_law_holders⟩ := c.d.def_ 28 (d := dd_law_holders) rfl
  obtain ⟨fd_law_holder, F_law_holder⟩ := c.d.def_ 29 (d := dd_law_holder) rfl
  obtain ⟨fd_law_word, F_law_word⟩ := c.d.def_ 30 (d := dd_law_word) rfl
  obtain ⟨fd_law_other_word, F_law_other_word⟩ := c.d.def_ 31 (d := dd_law_other_word) rfl
  obtain ⟨fd_law_blank, F_law_blank⟩ := c.d.def_ 32 (d := dd_law_blank) rfl
  obtain ⟨fd_law_near_image, F_law_near_image⟩ := c.d.def_ 33 (d := dd_law_near_image) rfl
  obtain ⟨fd_law_changes_due, F_law_changes_due⟩ := c.d.def_ 34 (d := dd_law_changes_due) rfl
  obtain ⟨fd_law_change_from, F_law_change_from⟩ := c.d.def_ 35 (d := dd_law_change_from) rfl
  obtain ⟨fd_law_change_rows, F_law_change_rows⟩ := c.d.def_ 36 (d := dd_law_change_rows) rfl
  obtain ⟨fd_law_joined, F_law_joined⟩ := c.d.def_ 37 (d := dd_law_joined) rfl
  obtain ⟨fd_law_kinds, F_law_kinds⟩ := c.d.def_ 38 (d := dd_law_kinds) rfl
  obtain ⟨fd_law_refused, F_law_refused⟩ := c.d.def_ 39 (d := dd_law_refused) rfl
  obtain ⟨fd_law_asked, F_law_asked⟩ := c.d.def_ 40 (d := dd_law_asked) rfl
  obtain ⟨fd_law_joined_right, F_law_joined_right⟩ := c.d.def_ 41 (d := dd_law_joined_right) rfl
  obtain ⟨fd_law_small_image, F_law_small_image⟩ := c.d.def_ 42 (d := dd_law_small_image) rfl
  obtain ⟨fd_law_behind_rows, F_law_behind_rows⟩ := c.d.def_ 43 (d := dd_law_behind_rows) rfl
  obtain ⟨fd_law_bent_rows, F_law_bent_rows⟩ := c.d.def_ 44 (d := dd_law_bent_rows) rfl
  obtain ⟨fd_law_rows_right, F_law_rows_right⟩ := c.d.def_ 45 (d := dd_law_rows_right) rfl
  obtain ⟨fd_law_near_cut, F_law_near_cut⟩ := c.d.def_ 46 (d := dd_law_near_cut) rfl
  obtain ⟨fd_law_images_right, F_law_images_right⟩ := c.d.def_ 47 (d := dd_law_images_right) rfl
  obtain ⟨fd_law_torn, F_law_torn⟩ := c.d.def_ 48 (d := dd_law_torn) rfl
  obtain ⟨fd_law_refused_right, F_law_refused_right⟩ := c.d.def_ 49 (d := dd_law_refused_right) rfl
  obtain ⟨fd_law, F_law⟩ := c.d.def_ 50 (d := dd_law) rfl
  obtain ⟨fd_BadValue, F_BadValue⟩ := c.d.def_ 51 (d := dd_BadValue) rfl
  exact ⟨{ fd_is_whole := fd_is_whole, F_is_whole := F_is_whole, g_is_whole := He.glo_ok X G (c.d.fact 0 (f := .glo "is_whole") rfl), fd_is_holder := fd_is_holder, F_is_holder := F_is_holder, g_is_holder := He.glo_ok X G (c.d.fact 1 (f := .glo "is_holder") rfl), fd_need := fd_need, F_need := F_need, g_need := He.glo_ok X G (c.d.fact 2 (f := .glo "need") rfl), fd_is_word := fd_is_word, F_is_word := F_is_word, g_is_word := He.glo_ok X G (c.d.fact 3 (f := .glo "is_word") rfl), fd_is_width := fd_is_width, F_is_width := F_is_width, g_is_width := He.glo_ok X G (c.d.fact 4 (f := .glo "is_width") rfl), fd_fits_pages := fd_fits_pages, F_fits_pages := F_fits_pages, g_fits_pages := He.glo_ok X G (c.d.fact 5 (f := .glo "fits_pages") rfl), fd_distinct := fd_distinct, F_distinct := F_distinct, g_distinct := He.glo_ok X G (c.d.fact 6 (f := .glo "distinct") rfl), fd_are_words := fd_are_words, F_are_words := F_are_words, g_are_words := He.glo_ok X G (c.d.fact 7 (f := .glo "are_words") rfl), fd_are_holders := fd_are_holders, F_are_holders := F_are_holders, g_are_holders := He.glo_ok X G (c.d.fact 8 (f := .glo "are_holders") rfl), fd_is_image := fd_is_image, F_is_image := F_is_image, g_is_image := He.glo_ok X G (c.d.fact 9 (f := .glo "is_image") rfl), fd_is_change := fd_is_change, F_is_change := F_is_change, g_is_change := He.glo_ok X G (c.d.fact 10 (f := .glo "is_change") rfl), fd_is_changes := fd_is_changes, F_is_changes := F_is_changes, g_is_changes := He.glo_ok X G (c.d.fact 11 (f := .glo "is_changes") rfl), fd_changes := fd_changes, F_changes := F_changes, g_changes := He.glo_ok X G (c.d.fact 12 (f := .glo "changes") rfl), fd_put_rows := fd_put_rows, F_put_rows := F_put_rows, g_put_rows := He.glo_ok X G (c.d.fact 13 (f := .glo "put_rows") rfl), fd_image_after := fd_image_after, F_image_after := F_image_after, g_image_after := He.glo_ok X G (c.d.fact 14 (f := .glo "image_after") rfl), fd_apply_changes := fd_apply_changes, F_apply_changes := F_apply_changes, g_apply_changes := He.glo_ok X G (c.d.fact 15 (f := .glo "apply_changes") rfl), fd_invert := fd_invert, F_invert := F_invert, g_invert := He.glo_ok X G (c.d.fact 16 (f := .glo "invert") rfl), fd_join_changes := fd_join_changes, F_join_changes := F_join_changes, g_join_changes := He.glo_ok X G (c.d.fact 17 (f := .glo "join_changes") rfl), fd_law_draws := fd_law_draws, F_law_draws := F_law_draws, g_law_draws := He.glo_ok X G (c.d.fact 18 (f := .glo "_law_draws") rfl), fd_law_next_cell := fd_law_next_cell, F_law_next_cell := F_law_next_cell, g_law_next_cell := He.glo_ok X G (c.d.fact 19 (f := .glo "_law_next_cell") rfl), fd_law_mixed := fd_law_mixed, F_law_mixed := F_law_mixed, g_law_mixed := He.glo_ok X G (c.d.fact 20 (f := .glo "_law_mixed") rfl), fd_law_take := fd_law_take, F_law_take := F_law_take, g_law_take := He.glo_ok X G (c.d.fact 21 (f := .glo "_law_take") rfl), fd_law_among := fd_law_among, F_law_among := F_law_among, g_law_among := He.glo_ok X G (c.d.fact 22 (f := .glo "_law_among") rfl), fd_law_between := fd_law_between, F_law_between := F_law_between, g_law_between := He.glo_ok X G (c.d.fact 23 (f := .glo "_law_between") rfl), fd_law_count := fd_law_count, F_law_count := F_law_count, g_law_count := He.glo_ok X G (c.d.fact 24 (f := .glo "_law_count") rfl), fd_law_other := fd_law_other, F_law_other := F_law_other, g_law_other := He.glo_ok X G (c.d.fact 25 (f := .glo "_law_other") rfl), fd_law_same := fd_law_same, F_law_same := F_law_same, g_law_same := He.glo_ok X G (c.d.fact 26 (f := .glo "_law_same") rfl), fd_law_copy := fd_law_copy, F_law_copy := F_law_copy, g_law_copy := He.glo_ok X G (c.d.fact 27 (f := .glo "_law_copy") rfl), fd_law_holders := fd_law_holders, F_law_holders := F_law_holders, g_law_holders := He.glo_ok X G (c.d.fact 28 (f := .glo "_law_holders") rfl), fd_law_holder := fd_law_holder, F_law_holder := F_law_holder, g_law_holder := He.glo_ok X G (c.d.fact 29 (f := .glo "_law_holder") rfl), fd_law_word := fd_law_word, F_law_word := F_law_word, g_law_word := He.glo_ok X G (c.d.fact 30 (f := .glo "_law_word") rfl), fd_law_other_word := fd_law_other_word, F_law_other_word := F_law_other_word, g_law_other_word := He.glo_ok X G (c.d.fact 31 (f := .glo "_law_other_word") rfl), fd_law_blank := fd_law_blank, F_law_blank := F_law_blank, g_law_blank := He.glo_ok X G (c.d.fact 32 (f := .glo "_law_blank") rfl), fd_law_near_image := fd_law_near_image, F_law_near_image := F_law_near_image, g_law_near_image := He.glo_ok X G (c.d.fact 33 (f := .glo "_law_near_image") rfl), fd_law_changes_due := fd_law_changes_due, F_law_changes_due := F_law_changes_due, g_law_changes_due := He.glo_ok X G (c.d.fact 34 (f := .glo "_law_changes_due") rfl), fd_law_change_from := fd_law_change_from, F_law_change_from := F_law_change_from, g_law_change_from := He.glo_ok X G (c.d.fact 35 (f := .glo "_law_change_from") rfl), fd_law_change_rows := fd_law_change_rows, F_law_change_rows := F_law_change_rows, g_law_change_rows := He.glo_ok X G (c.d.fact 36 (f := .glo "_law_change_rows") rfl), fd_law_joined := fd_law_joined, F_law_joined := F_law_joined, g_law_joined := He.glo_ok X G (c.d.fact 37 (f := .glo "_law_joined") rfl), fd_law_kinds := fd_law_kinds, F_law_kinds := F_law_kinds, g_law_kinds := He.glo_ok X G (c.d.fact 38 (f := .glo "_law_kinds") rfl), fd_law_refused := fd_law_refused, F_law_refused := F_law_refused, g_law_refused := He.glo_ok X G (c.d.fact 39 (f := .glo "_law_refused") rfl), fd_law_asked := fd_law_asked, F_law_asked := F_law_asked, g_law_asked := He.glo_ok X G (c.d.fact 40 (f := .glo "_law_asked") rfl), fd_law_joined_right := fd_law_joined_right, F_law_joined_right := F_law_joined_right, g_law_joined_right := He.glo_ok X G (c.d.fact 41 (f := .glo "_law_joined_right") rfl), fd_law_small_image := fd_law_small_image, F_law_small_image := F_law_small_image, g_law_small_image := He.glo_ok X G (c.d.fact 42 (f := .glo "_law_small_image") rfl), fd_law_behind_rows := fd_law_behind_rows, F_law_behind_rows := F_law_behind_rows, g_law_behind_rows := He.glo_ok X G (c.d.fact 43 (f := .glo "_law_behind_rows") rfl), fd_law_bent_rows := fd_law_bent_rows, F_law_bent_rows := F_law_bent_rows, g_law_bent_rows := He.glo_ok X G (c.d.fact 44 (f := .glo "_law_bent_rows") rfl), fd_law_rows_right := fd_law_rows_right, F_law_rows_right := F_law_rows_right, g_law_rows_right := He.glo_ok X G (c.d.fact 45 (f := .glo "_law_rows_right") rfl), fd_law_near_cut := fd_law_near_cut, F_law_near_cut := F_law_near_cut, g_law_near_cut := He.glo_ok X G (c.d.fact 46 (f := .glo "_law_near_cut") rfl), fd_law_images_right := fd_law_images_right, F_law_images_right := F_law_images_right, g_law_images_right := He.glo_ok X G (c.d.fact 47 (f := .glo "_law_images_right") rfl), fd_law_torn := fd_law_torn, F_law_torn := F_law_torn, g_law_torn := He.glo_ok X G (c.d.fact 48 (f := .glo "_law_torn") rfl), fd_law_refused_right := fd_law_refused_right, F_law_refused_right := F_law_refused_right, g_law_refused_right := He.glo_ok X G (c.d.fact 49 (f := .glo "_law_refused_right") rfl), fd_law := fd_law, F_law := F_law, g_law := He.glo_ok X G (c.d.fact 50 (f := .glo "law") rfl), c_MAP := He.int_ok X G (c.d.fact 51 (f := .int "MAP" 21) rfl), c_MOST_PAGES := He.int_ok X G (c.d.fact 52 (f := .int "MOST_PAGES" 256) rfl), c_MOST_TOP := He.int_ok X G (c.d.fact 53 (f := .int "MOST_TOP" 16384) rfl), c_MOST_WORD := He.int_ok X G (c.d.fact 54 (f := .int "MOST_WORD" 65535) rfl), c_NODE := He.int_ok X G (c.d.fact 55 (f := .int "NODE" 28) rfl), g_WIDTHS := He.glo_ok X G (c.d.fact 56 (f := .glo "WIDTHS") rfl), g_BadLine := He.glo_ok X G (c.d.fact 57 (f := .glo "BadLine") rfl), g_BadValue := He.glo_ok X G (c.d.fact 58 (f := .glo "BadValue") rfl), g_Broken := He.glo_ok X G (c.d.fact 59 (f := .glo "Broken") rfl), g_Cut := He.glo_ok X G (c.d.fact 60 (f := .glo "Cut") rfl), g_Fault := He.glo_ok X G (c.d.fact 61 (f := .glo "Fault") rfl), g_NoRoom := He.glo_ok X G (c.d.fact 62 (f := .glo "NoRoom") rfl), g_NotHeld := He.glo_ok X G (c.d.fact 63 (f := .glo "NotHeld") rfl), g_StoreError := He.glo_ok X G (c.d.fact 64 (f := .glo "StoreError") rfl), g_Unknown := He.glo_ok X G (c.d.fact 65 (f := .glo "Unknown") rfl), z_ValueError := He.free_ok X G (c.d.fact 66 (f := .free "ValueError") rfl), z_all := He.free_ok X G (c.d.fact 67 (f := .free "all") rfl), z_bool := He.free_ok X G (c.d.fact 68 (f := .free "bool") rfl), z_dict := He.free_ok X G (c.d.fact 69 (f := .free "dict") rfl), z_int := He.free_ok X G (c.d.fact 70 (f := .free "int") rfl), z_isinstance := He.free_ok X G (c.d.fact 71 (f := .free "isinstance") rfl), z_len := He.free_ok X G (c.d.fact 72 (f := .free "len") rfl), z_list := He.free_ok X G (c.d.fact 73 (f := .free "list") rfl), z_min := He.free_ok X G (c.d.fact 74 (f := .free "min") rfl), z_range := He.free_ok X G (c.d.fact 75 (f := .free "range") rfl), z_set := He.free_ok X G (c.d.fact 76 (f := .free "set") rfl), z_sorted := He.free_ok X G (c.d.fact 77 (f := .free "sorted") rfl), z_str := He.free_ok X G (c.d.fact 78 (f := .free "str") rfl), z_tuple := He.free_ok X G (c.d.fact 79 (f := .free "tuple") rfl), fd_BadValue := fd_BadValue, F_BadValue := F_BadValue, x_BadValue := oexB_ok (c.ex 0 (e := fun K => oexB K (He.ga K "BadValue")) rfl), i_BadValue := of_decide_eq_true (c.ex 1 (e := fun K => decide (PySem.W.findIn K (.ref (He.ga K "BadValue")) "__init__" = some (some (.ref (He.ma K (He.ga K "BadValue") "__init__"))))) rfl), t_BadValue := of_decide_eq_true (c.ex 2 (e := fun K => decide (PySem.W.typeIn K (.ref (He.ma K (He.ga K "BadValue") "__init__")) = some (.type "function"))) rfl), n_BadValue_parameter := of_decide_eq_true (c.ex 3 (e := fun K => decide (PySem.W.findIn K (.ref (He.ga K "BadValue")) "parameter" = some none)) rfl), n_BadValue_told := of_decide_eq_true (c.ex 4 (e := fun K => decide (PySem.W.findIn K (.ref (He.ga K "BadValue")) "told" = some none)) rfl), f_BadValue := xfB_ok (c.ex 5 (e := fun K => xfB K (He.ga K "BadValue")) rfl), d_BadValue := excdB_ok (c.ex 6 (e := fun K => excdB K (He.ga K "BadValue")) rfl), m_BadValue := of_decide_eq_true (c.ex 7 (e := fun K => decide (PySem.W.exmOne K (.ref (He.ga K "BadValue")) (.ref (He.ga K "BadValue")) = some true)) rfl), k_ValueError := of_decide_eq_true (c.ex 8 (e := fun K => decide (PySem.W.kitOne K (.ref (He.ga K "BadValue")) (.type "ValueError") = some true)) rfl), k_StoreError := of_decide_eq_true (c.ex 9 (e := fun K => decide (PySem.W.kitOne K (.ref (He.ga K "BadValue")) (.ref (He.ga K "StoreError")) = some true)) rfl), k_BadValue := of_decide_eq_true (c.ex 10 (e := fun K => decide (PySem.W.kitOne K (.ref (He.ga K "BadValue")) (.ref (He.ga K "BadValue")) = some true)) rfl), k_Broken := of_decide_eq_true (c.ex 11 (e := fun K => decide (PySem.W.kitOne K (.ref (He.ga K "BadValue")) (.ref (He.ga K "Broken")) = some false)) rfl), k_Unknown := of_decide_eq_true (c.ex 12 (e := fun K => decide (PySem.W.kitOne K (.ref (He.ga K "BadValue")) (.ref (He.ga K "Unknown")) = some false)) rfl), k_NotHeld := of_decide_eq_true (c.ex 13 (e := fun K => decide (PySem.W.kitOne K (.ref (He.ga K "BadValue")) (.ref (He.ga K "NotHeld")) = some false)) rfl), k_Fault := of_decide_eq_true (c.ex 14 (e := fun K => decide (PySem.W.kitOne K (.ref (He.ga K "BadValue")) (.ref (He.ga K "Fault")) = some false)) rfl), k_NoRoom := of_decide_eq_true (c.ex 15 (e := fun K => decide (PySem.W.kitOne K (.ref (He.ga K "BadValue")) (.ref (He.ga K "NoRoom")) = some false)) rfl), k_Cut := of_decide_eq_true (c.ex 16 (e := fun K => decide (PySem.W.kitOne K (.ref (He.ga K "BadValue")) (.ref (He.ga K "Cut")) = some false)) rfl), k_BadLine := of_decide_eq_true (c.ex 17 (e := fun K => decide (PySem.W.kitOne K (.ref (He.ga K "BadValue")) (.ref (He.ga K "BadLine")) = some false)) rfl), w_WIDTHS := fun H => He.tupB_ok (c.ex 18 (e := fun K => He.tupB K "WIDTHS" [.int 16, .int 32, .int 64]) rfl) H }⟩
theorem facts {P : Program} {w : World} {K : PySem.W.Frag} {h : Heap} {mg : Str → Option Value} {f : Addr} (X : K.In h) (G : h.Ns mainGlobals mg) (hfa : mg ("law" : Str) = some (.ref f)) (c : SaysY fa fn (fun K => exs.all fun e => e K) K) :
    ∃ fd : FuncData, (∀ (s : Shared) (v : Value), BindsTo s fd ⟨[v], []⟩ [("_law_script", v)]) ∧ ∀ base : Heap, K.In base → base.Ns mainGlobals mg → FnOk P w K mg base CX0 12 f fd ["_law_script"] (sp_law K) := by
  obtain ⟨T⟩ := tx_of X G c
  have e := hfa.symm.trans T.g_law
  cases e
  have b := FunD.bindsA (ps := ["_law_script"]) T.F_law fun _ _ _ _ _ _ us hl => match us, hl with | [_], _ => rfl
  exact ⟨T.fd_law, fun s v => b s [v] rfl, fun base _ _ => ok_law T⟩
end K11
open PySem PySem.W PySem.Calls PyProof.Rows
set_option maxHeartbeats 0 in
theorem PySem.Challenge.cw_allgivenback_k11_join_changes_holds : PySem.Challenge.rw_allgivenback_k11_join_changes.Holds := by
  w_on; o_law
  refine HandSHeadRun.head_any (r := OpenLaw.row PySem.Challenge.rw_allgivenback_k11_join_changes) (q := view (OpenLaw.row PySem.Challenge.rw_allgivenback_k11_join_changes).prog [69]) (H := K11.hk) (ob := K11.ob) (M := 4000) (loose := K11.names) (d := HandSHeadRun.topDef (OpenLaw.row PySem.Challenge.rw_allgivenback_k11_join_changes).prog 69) (kwd := []) K11.ob_eq
    (by kernel_rfl) (fun s => by kernel_rfl) K11.run (by kernel_rfl) (by kernel_rfl) (by kernel_rfl) (by rfl) (by first | assumption | decide +kernel) (by decide +kernel) ⟨rfl, rfl, rfl, rfl, rfl, by decide +kernel⟩ ?hw ?hc
  case hw => w_witness2
  case hc =>
    refine L2.walk_ofE (l := PySem.Challenge.rw_allgivenback_k11_join_changes) (n := 63) (k := 12) (x := "_law_script") (CX := L2.CX0) rfl (by decide) (by kernel_rfl) ⟨rfl, by decide, by decide⟩ ?F (fun _ _ _ _ z => z)
    intro w mg fa h Y G hmg0
    obtain ⟨K, KX, c⟩ := Y
    have hmg : mg ("law" : PySem.Str) = some (.ref fa) := by
      have e : (HandSHeadRun.topDef (OpenLaw.row PySem.Challenge.rw_allgivenback_k11_join_changes).prog 69).name = ("law" : PySem.Str) := by kernel_rfl
      rw [← e]
      exact hmg0
    obtain ⟨fd, hb, hF⟩ := K11.facts (P := (PySem.Challenge.rw_allgivenback_k11_join_changes).prog) (w := w) KX G hmg c
    exact ⟨K, fd, K11.sp_law K, KX, hb, fun H a ns hl _ hS => ⟨a, ns, rfl, hS, Nat.le_trans hl (by decide), fun _ => rfl⟩, hF⟩

