import PyProof.Rows.All
import Wide.All
import OpenK.AllK
import Wide.FinOn
import HandS.ForExc
import HandS.Defaults
import HandS.Dict
import HandS.Comp
import HandS.Wide
import HandS.WideBits
import HandS.IsInst
import HandS.More
import HandS.WordsDict
import HandS.Text
import HandS.HeadHook1
import HandS.HeadHook2
import KE.KExcIs
import HandS.ExcInit
import HandS.ExcField
import HandS.HotCalls
import KE.KStateDown
import Lean
import HandS.Head0
import HandS.Head1
import HandS.Head2
import HandS.HeadEnd
import HandS.Iter
import HandS.Conv
import HandS.Property
import HandS.MakeKwOnly
import HandS.Style
import HandS.DictComp
import HandS.SetFor
import HandS.SortInts
import HandS.Strs
import HandS.TupMul
import KE.SortData
import HandS.TupAny
import HandS.Steps
import HandS.ExcInitHot
import HandS.ExcCtx
import KE.GoesZip
import KE.GoesMore
import HandS.Zip
import KE.KRevSl
import HandS.TryMany
import HandS.TryOnly
import HandS.CallSlots
import PySem.Challenge.RW_allgivenback_k12_nested_cancel
set_option Elab.async false
set_option linter.all false
set_option maxRecDepth 100000
set_option maxHeartbeats 4000000
namespace LL
open PySem PySem.Spec PyProof.Rows L2
section
variable {CX : CXT} {P : Program} {w : World} {K : PySem.W.Frag} {mg : Str → Option Value} {base : Heap} {N : List Str} {q : Str} {sc : Scope} {f : Addr} {cd : Value} {A : Around} {outer : List Env} {s : Shared} {H : Hp} {E : XK}
theorem cxK0 : (cxOf CX P w K mg base N q sc f cd A outer s H E).nox.K = K := rfl
theorem cxK1 : (cxOf CX P w K mg base N q sc f cd A outer s H E).K = K := rfl
end
theorem dec_eq {p : Prop} [Decidable p] : (decide p = true) = p := by simp
theorem bl_inj {a b : Bool} : (V.bl a = V.bl b) = (a = b) := by simp
theorem if_dec {p A B : Prop} [Decidable p] : (if decide p = true then A else B) = (if p then A else B) := by by_cases h : p <;> simp [h]
/-- what is told of a value that is written next to ∃ -/
theorem ex_eq {α : Sort _} {p : α → Prop} {a : α} : (∃ x, a = x ∧ p x) = p a := by simp
theorem ex_eq' {α : Sort _} {p : α → Prop} {a : α} : (∃ x, x = a ∧ p x) = p a := by simp

/-! ### heaps: all but s is kept -/
def Kp (s : Addr) (H H' : Hp) : Prop := ∀ b o, b ≠ s → H b = some o → H' b = some o
theorem Kp.refl {s : Addr} {H : Hp} : Kp s H H := fun _ _ _ h => h
theorem Kp.trans {s : Addr} {H H1 H2 : Hp} (a : Kp s H H1) (b : Kp s H1 H2) : Kp s H H2 := fun c o n h => b c o n (a c o n h)
theorem Kp.same {s : Addr} {H H' : Hp} (h : Same H H') : Kp s H H' := fun b o _ e => h b o e
theorem Kp.new {s : Addr} {H H1 : Hp} {p : Addr} {o : HO} (a : Kp s H H1) (n : H1 p = none) : Kp s H (upd H1 p o) := fun b u hb e => by
  have e1 := a b u hb e
  rw [upd_ne (ne_of_none e1 n)]
  exact e1
theorem Kp.at_ {s : Addr} {H H1 : Hp} {o : HO} (a : Kp s H H1) : Kp s H (upd H1 s o) := fun b u hb e => by
  rw [upd_ne hb]
  exact a b u hb e
/-- a thing that was not there at the start is changed -/
theorem Kp.own {s : Addr} {H H1 : Hp} {p : Addr} {o : HO} (a : Kp s H H1) (n : H p = none) : Kp s H (upd H1 p o) := fun b u hb e => by
  rw [upd_ne (ne_of_none e n)]
  exact a b u hb e
theorem Same.new {H H1 : Hp} {p : Addr} {o : HO} (a : Same H H1) (n : H1 p = none) : Same H (upd H1 p o) := fun b u e => by
  have e1 := a b u e
  rw [upd_ne (ne_of_none e1 n)]
  exact e1
theorem Same.own {H H1 : Hp} {p : Addr} {o : HO} (a : Same H H1) (n : H p = none) : Same H (upd H1 p o) := fun b u e => by
  rw [upd_ne (ne_of_none e n)]
  exact a b u e
theorem Kp.free {s : Addr} {H H' : Hp} (a : Kp s H H') {p : Addr} (hp : p ≠ s) (n : H' p = none) : H p = none := by
  cases e : H p with
  | none => rfl
  | some o =>
    rw [a p o hp e] at n
    cases n

/-! ### the draws -/
/-- the five numbers of the draws' state -/
def StAt (s : Addr) (H : Hp) : Prop := ∃ i v k t g : Int, 0 ≤ i ∧ H s = some (.lst [.int i, .int v, .int k, .int t, .int g])
structure Drw (d s : Addr) (H : Hp) : Prop where
  cs : ∃ c, H d = some (.lst [.ref c, .ref s]) ∧ c ≠ s ∧ ∃ ns : List Int, H c = some (.lst (ns.map V.int))
  st : StAt s H
  ds : d ≠ s
theorem Drw.kp {d s : Addr} {H H' : Hp} (D : Drw d s H) (k : Kp s H H') (st : StAt s H') : Drw d s H' := by
  obtain ⟨c, h1, h2, ns, h3⟩ := D.cs
  exact ⟨⟨c, k _ _ D.ds h1, h2, ns, k _ _ h2 h3⟩, st, D.ds⟩
/-- what a def that draws leaves: the draws are drawn on, all else is kept -/
structure Aft (d s : Addr) (H H' : Hp) : Prop where
  kp : Kp s H H'
  dr : Drw d s H'
theorem Aft.trans {d s : Addr} {H H1 H2 : Hp} (a : Aft d s H H1) (b : Aft d s H1 H2) : Aft d s H H2 := ⟨a.kp.trans b.kp, b.dr⟩
theorem Aft.refl {d s : Addr} {H : Hp} (D : Drw d s H) : Aft d s H H := ⟨.refl, D⟩
theorem Drw.same {d s : Addr} {H H' : Hp} (D : Drw d s H) (k : Same H H') : Drw d s H' := by
  obtain ⟨i, v, kk, t, g, h0, h1⟩ := D.st
  exact D.kp (.same k) ⟨i, v, kk, t, g, h0, k _ _ h1⟩
theorem Aft.new {d s : Addr} {H H1 : Hp} {p : Addr} {o : HO} (a : Aft d s H H1) (n : H1 p = none) : Aft d s H (upd H1 p o) :=
  ⟨a.kp.new n, a.dr.same (Same.new (Same.refl _) n)⟩

/-! ### small readings -/
theorem use_ixL {K : PySem.W.Frag} {p : Addr} {xs : List V} {i : Int} {v : V} {H : Hp} {Q : VK} (h : H p = some (.lst xs)) (e : atI xs i = some v) (q : Q v H) : rIxL K (.ref p) (.int i) H Q := ⟨p, xs, i, v, rfl, rfl, SqL.of h, e, q⟩
theorem use_ixT {K : PySem.W.Frag} {p : Addr} {xs : List V} {i : Int} {v : V} {H : Hp} {Q : VK} (h : H p = some (.tup xs)) (e : atI xs i = some v) (q : Q v H) : rIxT K (.ref p) (.int i) H Q := ⟨p, xs, i, v, rfl, rfl, SqT.of h, e, q⟩
theorem use_setL {p : Addr} {xs : List V} {k : Int} {j : Nat} {v : V} {H : Hp} {Q : Hp → Prop} (h : H p = some (.lst xs)) (e : ixN xs.length k = some j) (q : Q (upd H p (.lst (xs.set j v)))) : rSetL (.ref p) (.int k) v H Q := ⟨p, xs, k, j, rfl, rfl, h, e, q⟩
theorem Aft.st {d s : Addr} {H : Hp} (D : Drw d s H) {i v k t g : Int} (h0 : 0 ≤ i) : Aft d s H (upd H s (.lst [.int i, .int v, .int k, .int t, .int g])) :=
  have k1 : Kp s H (upd H s (.lst [.int i, .int v, .int k, .int t, .int g])) := Kp.refl.at_
  ⟨k1, D.kp k1 ⟨i, v, k, t, g, h0, upd_same⟩⟩
theorem Aft.st2 {d s : Addr} {H H1 : Hp} (a : Aft d s H H1) {i v k t g : Int} (h0 : 0 ≤ i) : Aft d s H (upd H1 s (.lst [.int i, .int v, .int k, .int t, .int g])) := a.trans (Aft.st a.dr h0)
theorem atI_cons0 {α : Type} {x : α} {xs : List α} : atI (x :: xs) 0 = some x := atI_nat (j := 0) rfl
theorem atI_int {xs : List Int} {i : Int} (h0 : 0 ≤ i) (h : i < (xs.map V.int).length) : ∃ n, atI (xs.map V.int) i = some (V.int n) := by
  obtain ⟨j, rfl⟩ := Int.eq_ofNat_of_zero_le h0
  have hj : j < (xs.map V.int).length := by omega
  have hj2 : j < xs.length := by rw [List.length_map] at hj; exact hj
  refine ⟨xs[j], atI_nat ?_⟩
  rw [List.getElem?_map, List.getElem?_eq_getElem hj2]
  rfl
/-! ### calls of built-ins, by ints and lists alone -/
section
variable {X : Cx}
def rInt1 : List V → Hp → VK → Prop := fun xs H Q => ∃ i, xs = [.int i] ∧ Q (.int i) H
theorem call_intI : CallR X (.type "int") rInt1 := fun pins s σ H xs us Q I r h => call_int1 pins s σ H xs us Q I r (.inl h)
def rLenL : List V → Hp → VK → Prop := fun vs H Q => ∃ p xs, vs = [.ref p] ∧ H p = some (.lst xs) ∧ Q (.int xs.length) H
theorem call_lenL : CallR X (.builtin "len") rLenL := fun pins s σ H vs us Q I r h => by
  obtain ⟨p, xs, rfl, e, q⟩ := h
  exact call_len_seq pins s σ H _ us Q I r ⟨p, xs, rfl, .inl (SqL.of e), q⟩
def rLenT : List V → Hp → VK → Prop := fun vs H Q => ∃ p xs, vs = [.ref p] ∧ H p = some (.tup xs) ∧ Q (.int xs.length) H
theorem call_lenT : CallR X (.builtin "len") rLenT := fun pins s σ H vs us Q I r h => by
  obtain ⟨p, xs, rfl, e, q⟩ := h
  exact call_len_seq pins s σ H _ us Q I r ⟨p, xs, rfl, .inr (SqT.of e), q⟩
end
theorem use_lenL {p : Addr} {xs : List V} {H : Hp} {Q : VK} (h : H p = some (.lst xs)) (q : Q (.int xs.length) H) : rLenL [.ref p] H Q := ⟨p, xs, rfl, h, q⟩
theorem use_lenT {p : Addr} {xs : List V} {H : Hp} {Q : VK} (h : H p = some (.tup xs)) (q : Q (.int xs.length) H) : rLenT [.ref p] H Q := ⟨p, xs, rfl, h, q⟩
/-! ### loops -/
theorem use_forL {K : PySem.W.Frag} {te : TE} {a : Addr} {xs : List V} {g : TG} {tb : TS} {D : Ends} {σ : L2.St} {H : Hp} (ht : ∀ Q : VK, Q (.ref a) H → te σ H Q) (Pv : Nat → L2.St → Hp → Prop) (h0 : Pv 0 σ H) (hl : ∀ i σ H, i ≤ xs.length → Pv i σ H → SqL K H a xs)
    (hs : ∀ i x σ H, xs[i]? = some x → Pv i σ H → g x σ H fun σ2 H2 => tb { D with nx := Pv (i + 1), ct := Pv (i + 1), bk := D.nx } σ2 H2) (hd : ∀ σ H, Pv xs.length σ H → D.nx σ H) : tFor (iList K te) g tb D σ H :=
  ht _ ⟨a, rfl, ⟨xs, hl 0 σ H (Nat.zero_le _) h0⟩, for_list Pv h0 hl hs hd⟩
theorem use_forR {te : TE} {j : Int} {g : TG} {tb : TS} {D : Ends} {σ : L2.St} {H : Hp} (ht : ∀ Q : VK, Q (.int j) H → te σ H Q) (h1 : j < 2 ^ 62) (h2 : -(2 ^ 62) ≤ j) (Pv : Nat → L2.St → Hp → Prop) (h0 : Pv 0 σ H)
    (hs : ∀ i σ H, i < j.toNat → Pv i σ H → g (.int (0 + (i : Int))) σ H fun σ2 H2 => tb { D with nx := Pv (i + 1), ct := Pv (i + 1), bk := D.nx } σ2 H2) (hd : ∀ σ H, Pv j.toNat σ H → D.nx σ H) : tFor (iRng1 (tCons te tNil)) g tb D σ H :=
  ht _ ⟨j, rfl, h2, h1, for_range Pv h0 hs hd⟩
theorem use_while {c : TT} {tb : TS} {D : Ends} {σ : L2.St} {H : Hp} (Pv : Nat → L2.St → Hp → Prop) (m0 : Nat) (h0 : Pv m0 σ H)
    (hs : ∀ m σ H, Pv m σ H → c σ H fun b H1 => if b = true then ∃ N : L2.St → Hp → Prop, (∀ σ' H', N σ' H' → ∃ m', m' < m ∧ Pv m' σ' H') ∧ tb { D with nx := N, ct := N, bk := D.nx } σ H1 else D.nx σ H1) : tWhile c tb D σ H := ⟨Pv, ⟨m0, h0⟩, hs⟩
theorem use_forRX {te : TE} {g : TG} {tb : TS} {D : Ends} {σ : L2.St} {H : Hp} {R : Int → Hp → Prop} (ht : ∀ Q : VK, (∀ j H', R j H' → Q (.int j) H') → te σ H Q) (hb : ∀ j H', R j H' → -(2 ^ 62) ≤ j ∧ j < 2 ^ 62) (Pv : Int → Nat → L2.St → Hp → Prop) (h0 : ∀ j H', R j H' → Pv j 0 σ H')
    (hs : ∀ j i σ H, i < j.toNat → Pv j i σ H → g (.int (0 + (i : Int))) σ H fun σ2 H2 => tb { D with nx := Pv j (i + 1), ct := Pv j (i + 1), bk := D.nx } σ2 H2) (hd : ∀ j σ H, Pv j j.toNat σ H → D.nx σ H) : tFor (iRng1 (tCons te tNil)) g tb D σ H :=
  ht _ fun j H' r => ⟨j, rfl, (hb j H' r).1, (hb j H' r).2, for_range (Pv j) (h0 j H' r) (hs j) (hd j)⟩
theorem use_forLX {K : PySem.W.Frag} {te : TE} {g : TG} {tb : TS} {D : Ends} {σ : L2.St} {H : Hp} {R : Addr → List V → Hp → Prop} (ht : ∀ Q : VK, (∀ a xs H', R a xs H' → Q (.ref a) H') → te σ H Q) (Pv : Addr → List V → Nat → L2.St → Hp → Prop) (h0 : ∀ a xs H', R a xs H' → Pv a xs 0 σ H')
    (hl : ∀ a xs i σ H, i ≤ xs.length → Pv a xs i σ H → SqL K H a xs)
    (hs : ∀ a xs i x σ H, xs[i]? = some x → Pv a xs i σ H → g x σ H fun σ2 H2 => tb { D with nx := Pv a xs (i + 1), ct := Pv a xs (i + 1), bk := D.nx } σ2 H2) (hd : ∀ a xs σ H, Pv a xs xs.length σ H → D.nx σ H) : tFor (iList K te) g tb D σ H :=
  ht _ fun a xs H' r => ⟨a, rfl, ⟨xs, hl a xs 0 σ H' (Nat.zero_le _) (h0 a xs H' r)⟩, for_list (Pv a xs) (h0 a xs H' r) (hl a xs) (hs a xs) (hd a xs)⟩
/-! ### plain data -/
inductive T where
  | non | bl (b : Bool) | int (i : Int) | str (x : Str) | lst (ts : List T) | tup (ts : List T) | dic (t : T)
/-! v is the data t, every object of which is at an address of F -/
mutual
def Dt (F : Addr → Prop) (H : Hp) : V → T → Prop
  | v, .non => v = .non
  | v, .bl b => v = .bl b
  | v, .int i => v = .int i
  | v, .str x => v = .str x
  | v, .lst ts => ∃ a xs, v = .ref a ∧ F a ∧ H a = some (.lst xs) ∧ DtL F H xs ts ∧ ts.length ≤ 100000
  | v, .tup ts => ∃ a xs, v = .ref a ∧ F a ∧ H a = some (.tup xs) ∧ DtL F H xs ts ∧ ts.length ≤ 100000
  | v, .dic t => ∃ a x, v = .ref a ∧ F a ∧ H a = some (.dK [(Sum.inr "a", x)]) ∧ Dt F H x t
def DtL (F : Addr → Prop) (H : Hp) : List V → List T → Prop
  | xs, [] => xs = []
  | xs, t :: ts => ∃ v vs, xs = v :: vs ∧ Dt F H v t ∧ DtL F H vs ts
end
mutual
def dep : T → Nat
  | .lst ts => depL ts + 1
  | .tup ts => depL ts + 1
  | .dic t => dep t + 1
  | _ => 0
def depL : List T → Nat
  | [] => 0
  | t :: ts => max (dep t) (depL ts)
end
section
variable {F G : Addr → Prop} {H H' : Hp}
mutual
theorem Dt.imp (hF : ∀ a o, F a → H a = some o → G a ∧ H' a = some o) : ∀ {v : V} (t : T), Dt F H v t → Dt G H' v t
  | _, .non, h => h
  | _, .bl _, h => h
  | _, .int _, h => h
  | _, .str _, h => h
  | _, .lst ts, h => by
    obtain ⟨a, xs, e, f, ha, hx, hz⟩ := h
    exact ⟨a, xs, e, (hF a _ f ha).1, (hF a _ f ha).2, DtL.imp hF ts hx, hz⟩
  | _, .tup ts, h => by
    obtain ⟨a, xs, e, f, ha, hx, hz⟩ := h
    exact ⟨a, xs, e, (hF a _ f ha).1, (hF a _ f ha).2, DtL.imp hF ts hx, hz⟩
  | _, .dic t, h => by
    obtain ⟨a, x, e, f, ha, hx⟩ := h
    exact ⟨a, x, e, (hF a _ f ha).1, (hF a _ f ha).2, Dt.imp hF t hx⟩
theorem DtL.imp (hF : ∀ a o, F a → H a = some o → G a ∧ H' a = some o) : ∀ {xs : List V} (ts : List T), DtL F H xs ts → DtL G H' xs ts
  | _, [], h => h
  | _, t :: ts, h => by
    obtain ⟨v, vs, e, h1, h2⟩ := h
    exact ⟨v, vs, e, Dt.imp hF t h1, DtL.imp hF ts h2⟩
end
theorem Dt.same {v : V} {t : T} (h : Dt F H v t) (k : Same H H') : Dt F H' v t := Dt.imp (fun a o f e => ⟨f, k a o e⟩) t h
theorem DtL.same {v : List V} {t : List T} (h : DtL F H v t) (k : Same H H') : DtL F H' v t := DtL.imp (fun a o f e => ⟨f, k a o e⟩) t h
theorem Dt.kp {s : Addr} {v : V} {t : T} (h : Dt F H v t) (hs : ∀ a, F a → a ≠ s) (k : Kp s H H') : Dt F H' v t := Dt.imp (fun a o f e => ⟨f, k a o (hs a f) e⟩) t h
theorem DtL.kp {s : Addr} {v : List V} {t : List T} (h : DtL F H v t) (hs : ∀ a, F a → a ≠ s) (k : Kp s H H') : DtL F H' v t := DtL.imp (fun a o f e => ⟨f, k a o (hs a f) e⟩) t h
theorem Dt.to {v : V} {t : T} (h : Dt F H v t) (hs : ∀ a, F a → G a) : Dt G H v t := Dt.imp (fun a o f e => ⟨hs a f, e⟩) t h
theorem DtL.to {v : List V} {t : List T} (h : DtL F H v t) (hs : ∀ a, F a → G a) : DtL G H v t := DtL.imp (fun a o f e => ⟨hs a f, e⟩) t h
theorem DtL.len : ∀ {xs : List V} (ts : List T), DtL F H xs ts → xs.length = ts.length
  | _, [], h => by rw [show _ = [] from h]; rfl
  | _, t :: ts, h => by
    obtain ⟨v, vs, rfl, h1, h2⟩ := h
    rw [List.length_cons, List.length_cons, DtL.len ts h2]
theorem DtL.get : ∀ {xs : List V} (ts : List T) {i : Nat} {x : V}, DtL F H xs ts → xs[i]? = some x → ∃ t, ts[i]? = some t ∧ Dt F H x t
  | _, [], _, _, h, e => by rw [show _ = [] from h] at e; cases e
  | _, t :: ts, 0, x, h, e => by
    obtain ⟨v, vs, rfl, h1, h2⟩ := h
    cases e
    exact ⟨t, rfl, h1⟩
  | _, t :: ts, i + 1, x, h, e => by
    obtain ⟨v, vs, rfl, h1, h2⟩ := h
    exact DtL.get ts (i := i) h2 e
theorem DtL.get' {xs : List V} {ts : List T} {i : Nat} {t : T} (h : DtL F H xs ts) (e : ts[i]? = some t) : ∃ x, xs[i]? = some x ∧ Dt F H x t := by
  have hi := (List.getElem?_eq_some_iff.mp e).1
  have hx : i < xs.length := by rw [DtL.len ts h]; exact hi
  obtain ⟨t', e', d⟩ := DtL.get ts h (List.getElem?_eq_getElem hx)
  rw [e] at e'
  cases e'
  exact ⟨_, List.getElem?_eq_getElem hx, d⟩
theorem DtL.app : ∀ {xs ys : List V} (ts : List T) {us : List T}, DtL F H xs ts → DtL F H ys us → DtL F H (xs ++ ys) (ts ++ us)
  | _, _, [], _, h, k => by rw [show _ = [] from h]; exact k
  | _, _, t :: ts, _, h, k => by
    obtain ⟨v, vs, rfl, h1, h2⟩ := h
    exact ⟨v, vs ++ _, rfl, h1, DtL.app ts h2 k⟩
theorem DtL.one {v : V} {t : T} (h : Dt F H v t) : DtL F H [v] [t] := ⟨v, [], rfl, h, rfl⟩
theorem DtL.cons {v : V} {t : T} {vs : List V} {ts : List T} (h : Dt F H v t) (k : DtL F H vs ts) : DtL F H (v :: vs) (t :: ts) := ⟨v, vs, rfl, h, k⟩
theorem depL_mem : ∀ {ts : List T} {i : Nat} {t : T}, ts[i]? = some t → dep t ≤ depL ts
  | [], _, _, e => by cases e
  | u :: ts, 0, t, e => by
    cases e
    exact Nat.le_max_left _ _
  | u :: ts, i + 1, t, e => Nat.le_trans (depL_mem (ts := ts) (i := i) e) (Nat.le_max_right _ _)
end
/-! ### what kind of data it is -/
def tyN : T → String
  | .non => "NoneType"
  | .bl _ => "bool"
  | .int _ => "int"
  | .str _ => "str"
  | .lst _ => "list"
  | .tup _ => "tuple"
  | .dic _ => "dict"
theorem tyx {K : PySem.W.Frag} {F : Addr → Prop} {H : Hp} {v : V} {t : T} (h : Dt F H v t) : TyX K H v (.type (tyN t)) := by
  cases t with
  | non => rw [show v = _ from h]; exact .base .non
  | bl b => rw [show v = _ from h]; exact .base (.bl b)
  | int i => rw [show v = _ from h]; exact .base (.int i)
  | str x => rw [show v = _ from h]; exact .base (.str x)
  | lst ts =>
    obtain ⟨a, xs, rfl, _, e, _⟩ := h
    exact .base (.lst e)
  | tup ts =>
    obtain ⟨a, xs, rfl, _, e, _⟩ := h
    exact .base (.tup e)
  | dic t =>
    obtain ⟨a, x, rfl, _, e, _⟩ := h
    exact .base (.dK e)
theorem use_isi {K : PySem.W.Frag} {F : Addr → Prop} {H : Hp} {v : V} {t : T} {n : String} {b : Bool} {Q : VK} (h : Dt F H v t) (k : kitB (tyN t) n = some b) (q : Q (.bl b) H) : rIsi K [v, .ty n] H Q :=
  ⟨v, .ty n, _, _, b, rfl, .ty n, tyx h, kit_ty k, q⟩
def isInt : T → Bool
  | .int _ => true
  | _ => false
def isBl : T → Bool
  | .bl _ => true
  | _ => false
def isStr : T → Bool
  | .str _ => true
  | _ => false
def isLst : T → Bool
  | .lst _ => true
  | _ => false
def isTup : T → Bool
  | .tup _ => true
  | _ => false
def isDic : T → Bool
  | .dic _ => true
  | _ => false
theorem kit_int (t : T) : kitB (tyN t) "int" = some (isInt t || isBl t) := by
  cases t <;> simp only [tyN, isInt, isBl, isStr, isLst, isTup, isDic] <;> decide +kernel
theorem kit_bool (t : T) : kitB (tyN t) "bool" = some (isBl t) := by
  cases t <;> simp only [tyN, isInt, isBl, isStr, isLst, isTup, isDic] <;> decide +kernel
theorem kit_str (t : T) : kitB (tyN t) "str" = some (isStr t) := by
  cases t <;> simp only [tyN, isInt, isBl, isStr, isLst, isTup, isDic] <;> decide +kernel
theorem kit_list (t : T) : kitB (tyN t) "list" = some (isLst t) := by
  cases t <;> simp only [tyN, isInt, isBl, isStr, isLst, isTup, isDic] <;> decide +kernel
theorem kit_tuple (t : T) : kitB (tyN t) "tuple" = some (isTup t) := by
  cases t <;> simp only [tyN, isInt, isBl, isStr, isLst, isTup, isDic] <;> decide +kernel
theorem kit_dict (t : T) : kitB (tyN t) "dict" = some (isDic t) := by
  cases t <;> simp only [tyN, isInt, isBl, isStr, isLst, isTup, isDic] <;> decide +kernel
section
variable {X : Cx}
/-- len of a list, a tuple, a dict -/
def rLenD : List V → Hp → VK → Prop := fun vs H Q => ∃ p kvs, vs = [.ref p] ∧ H p = some (.dK kvs) ∧ Q (.int kvs.length) H
def rLenA : List V → Hp → VK → Prop := fun vs H Q => rLenL vs H Q ∨ rLenT vs H Q ∨ rLenD vs H Q
theorem call_lenA : CallR X (.builtin "len") rLenA := fun pins s σ H vs us Q I r h => by
  rcases h with h | h | h
  · exact call_lenL pins s σ H vs us Q I r h
  · exact call_lenT pins s σ H vs us Q I r h
  · obtain ⟨p, kvs, rfl, e, q⟩ := h
    exact call_lenD pins s σ H _ us Q I r ⟨p, kvs, rfl, e, q⟩
/-- list(d), a dict -/
def rLstD : List V → Hp → VK → Prop := fun vs H Q => ∃ p kvs, vs = [.ref p] ∧ H p = some (.dK kvs) ∧ ∀ l, H l = none → Q (.ref l) (upd H l (.lst (kvs.map fun kv => kV kv.1)))
theorem call_lstD (hc : X.calm = true) : CallR X (.type "list") rLstD := fun pins s σ H vs us Q I r h => by
  obtain ⟨p, kvs, rfl, e, q⟩ := h
  exact call_listD hc pins s σ H _ us Q I r ⟨p, kvs, rfl, .inl e, q⟩
/-- tuple(list) -/
def rTupL : List V → Hp → VK → Prop := fun vs H Q => ∃ p ys, vs = [.ref p] ∧ H p = some (.lst ys) ∧ ∀ l, H l = none → Q (.ref l) (upd H l (.tup ys))
theorem call_tupL : CallR X (.type "tuple") rTupL := fun pins s σ H vs us Q I r h => by
  obtain ⟨p, ys, rfl, e, q⟩ := h
  exact call_tuple_of pins s σ H _ us Q I r ⟨p, ys, rfl, .inl ⟨SqL.of e, q⟩⟩
/-- xs[i], a list or a tuple -/
def rIxA (K : PySem.W.Frag) : R2 := fun x y H Q => rIxL K x y H Q ∨ rIxT K x y H Q
theorem ix_A : IxR X (rIxA X.K) := ix_list.or ix_tup
end
theorem use_pick {K : PySem.W.Frag} {p : Addr} {xs : List V} {i : Int} {H : Hp} {Q : VK} (h : H p = some (.lst xs)) (h0 : 0 ≤ i) (h1 : i < xs.length) (q : ∀ x ∈ xs, Q x H) : rIxL K (.ref p) (.int i) H Q := by
  obtain ⟨j, rfl⟩ := Int.eq_ofNat_of_zero_le h0
  have hj : j < xs.length := by omega
  exact use_ixL h (atI_nat (List.getElem?_eq_getElem hj)) (q _ (List.getElem_mem hj))
section
variable {X : Cx}
def rMx : List V → Hp → VK → Prop := fun vs H Q => ∃ i j, vs = [.int i, .int j] ∧ Q (.int (max i j)) H
def rMn : List V → Hp → VK → Prop := fun vs H Q => ∃ i j, vs = [.int i, .int j] ∧ Q (.int (min i j)) H
theorem call_mx (hc : X.calm = true) : CallR X (.builtin "max") rMx := fun pins s σ H vs us Q I r h => by
  obtain ⟨i, j, rfl, q⟩ := h
  refine call_max2 hc pins s σ H _ us Q I r ⟨i, j, rfl, ?_⟩
  have e : (if j > i then j else i) = max i j := by omega
  rw [e]
  exact q
theorem call_mn (hc : X.calm = true) : CallR X (.builtin "min") rMn := fun pins s σ H vs us Q I r h => by
  obtain ⟨i, j, rfl, q⟩ := h
  refine call_min2 hc pins s σ H _ us Q I r ⟨i, j, rfl, ?_⟩
  have e : (if j < i then j else i) = min i j := by omega
  rw [e]
  exact q
end
theorem freshS {s : Addr} {H : Hp} {o : HO} (h : H s = some o) : ∀ a, H a = none → a ≠ s := fun a e z => by
  rw [z, h] at e
  cases e
theorem StAt.ne {s : Addr} {H : Hp} (h : StAt s H) : ∀ a, H a = none → a ≠ s := by
  obtain ⟨_, _, _, _, _, _, e⟩ := h
  exact freshS e
theorem Drw.ne {d s : Addr} {H : Hp} (h : Drw d s H) : ∀ a, H a = none → a ≠ s := h.st.ne
theorem Aft.free {d s : Addr} {H H' : Hp} (a : Aft d s H H') {b : Addr} (n : H' b = none) : H b = none := a.kp.free (a.dr.ne b n) n
theorem use_forT {K : PySem.W.Frag} {te : TE} {a : Addr} {xs : List V} {g : TG} {tb : TS} {D : Ends} {σ : L2.St} {H : Hp} (ht : ∀ Q : VK, Q (.ref a) H → te σ H Q) (Pv : Nat → L2.St → Hp → Prop) (h0 : Pv 0 σ H) (hl : ∀ i σ H, i ≤ xs.length → Pv i σ H → SqT K H a xs)
    (hs : ∀ i x σ H, xs[i]? = some x → Pv i σ H → g x σ H fun σ2 H2 => tb { D with nx := Pv (i + 1), ct := Pv (i + 1), bk := D.nx } σ2 H2) (hd : ∀ σ H, Pv xs.length σ H → D.nx σ H) : tFor (iTup K te) g tb D σ H :=
  ht _ ⟨a, rfl, ⟨xs, hl 0 σ H (Nat.zero_le _) h0⟩, for_tup Pv h0 hl hs hd⟩
theorem scal_int {a b : Int} : (scal (V.int a) (V.int b) = true) = True := by simp [scal]
theorem scal_bl {a b : Bool} : (scal (V.bl a) (V.bl b) = true) = True := by simp [scal]
theorem scal_str {a b : Str} : (scal (V.str a) (V.str b) = true) = True := by simp [scal]
theorem scal_is {a : Int} {b : Str} : (scal (V.str b) (V.int a) = true) = True := by simp [scal]
theorem ty_list {K : PySem.W.Frag} {p : Addr} {xs : List V} {H : Hp} (h : H p = some (.lst xs)) : tyV K "list" (.ref p) H := Or.inl ⟨rfl, _, Or.inl (Or.inl h)⟩
theorem use_append {l : Addr} {xs : List V} {y : V} {H : Hp} {Q : VK} (h : H l = some (.lst xs)) (n : xs.length < sizeLine) (q : Q .non (upd H l (.lst (xs ++ [y])))) : rAppend (.ref l) [y] H Q := ⟨l, xs, y, rfl, rfl, h, n, q⟩
theorem small_sz {n : Nat} (h : n ≤ 200000) : n < sizeLine := Nat.lt_of_le_of_lt h (by decide)
/-- a list at D that is being made gets one more datum -/
theorem grow {G : Addr → Prop} {H H' H4 : Hp} {D : Addr} {acc : List V} {us : List T} {r : V} {t : T} (hD : H D = none) (s1 : Same H H') (s4 : Same H' H4) (hacc : DtL (fun a => H a = none ∧ a ≠ D) H' acc us) (hG : ∀ a, G a → H a = none ∧ a ≠ D) (dr : Dt G H4 r t) :
    Same H (upd H4 D (.lst (acc ++ [r]))) ∧ DtL (fun a => H a = none ∧ a ≠ D) (upd H4 D (.lst (acc ++ [r]))) (acc ++ [r]) (us ++ [t]) := by
  refine ⟨Same.own (s1.trans s4) hD, DtL.app _ (DtL.imp (fun a o fa ea => ⟨fa, ?_⟩) _ hacc) (.one (Dt.imp (fun a o fa ea => ⟨hG a fa, ?_⟩) _ dr))⟩
  · rw [upd_ne fa.2]
    exact s4 _ _ ea
  · rw [upd_ne (hG a fa).2]
    exact ea
theorem new_of {H H' : Hp} {D : Addr} {o : HO} (s1 : Same H H') (eD : H' D = some o) : ∀ a, H' a = none → H a = none ∧ a ≠ D := fun a n => ⟨s1.free n, fun z => by rw [z, eD] at n; cases n⟩
theorem take_one {α : Type} {l : List α} {i : Nat} {x : α} (h : l[i]? = some x) : l.take (i + 1) = l.take i ++ [x] := by
  rw [List.take_add_one, h]
  rfl
theorem use_lcR {te tel : TE} {g : TG} {vs : List Nat} {σ : L2.St} {H : Hp} {Q : VK} {R : Int → Hp → Prop} (ht : ∀ Q : VK, (∀ j H', R j H' → Q (.int j) H') → te σ H Q) (hb : ∀ j H', R j H' → -(2 ^ 62) ≤ j ∧ j < 2 ^ 62) (Pv : Int → Addr → Nat → Hp → Prop)
    (h0 : ∀ j H' D, R j H' → H' D = none → Pv j D 0 (upd H' D (.lst [])))
    (hs : ∀ j D i H', i < j.toNat → Pv j D i H' → g (.int (0 + (i : Int))) (wipe σ vs) H' fun σ2 H2 => wipe σ2 vs = wipe σ vs ∧ tYes σ2 H2 fun b H3 => if b = true then tel σ2 H3 fun y H4 => ∃ acc, H4 D = some (.lst acc) ∧ acc.length < sizeLine ∧ Pv j D (i + 1) (upd H4 D (.lst (acc ++ [y]))) else Pv j D (i + 1) H3)
    (hd : ∀ j D H', Pv j D j.toNat H' → Q (.ref D) H') : tLc (iRng1 (tCons te tNil)) g tYes tel vs σ H Q :=
  ht _ fun j H' r => ⟨j, rfl, (hb j H' r).1, (hb j H' r).2, fun D hD => lc_range (Pv j D) (h0 j H' D r hD) (hs j D) (hd j D)⟩
theorem Aft.own {d s : Addr} {H H4 : Hp} {D : Addr} {o : HO} (D0 : Drw d s H) (a : Aft d s H H4) (hD : H D = none) : Aft d s H (upd H4 D o) := by
  have k : Kp s H (upd H4 D o) := a.kp.own hD
  obtain ⟨i, v, kk, t, g, h0, e⟩ := a.dr.st
  exact ⟨k, D0.kp k ⟨i, v, kk, t, g, h0, by rw [upd_ne (D0.ne D hD).symm]; exact e⟩⟩
/-- a list at D that is being made while something is drawn gets one more datum -/
theorem growA {G : Addr → Prop} {d s : Addr} {H H' H4 : Hp} {D : Addr} {acc : List V} {us : List T} {r : V} {t : T} (D0 : Drw d s H) (hD : H D = none) (a1 : Aft d s H H') (a4 : Aft d s H' H4) (hacc : DtL (fun a => H a = none ∧ a ≠ D) H' acc us) (hG : ∀ a, G a → H a = none ∧ a ≠ D) (dr : Dt G H4 r t) :
    Aft d s H (upd H4 D (.lst (acc ++ [r]))) ∧ DtL (fun a => H a = none ∧ a ≠ D) (upd H4 D (.lst (acc ++ [r]))) (acc ++ [r]) (us ++ [t]) := by
  refine ⟨Aft.own D0 (a1.trans a4) hD, DtL.app _ (DtL.imp (fun a o fa ea => ⟨fa, ?_⟩) _ hacc) (.one (Dt.imp (fun a o fa ea => ⟨hG a fa, ?_⟩) _ dr))⟩
  · rw [upd_ne fa.2]
    exact a4.kp _ _ (D0.ne a fa.1) ea
  · rw [upd_ne (hG a fa).2]
    exact ea
theorem new_ofA {d s : Addr} {H H' : Hp} {D : Addr} {o : HO} (a : Aft d s H H') (eD : H' D = some o) : ∀ b, H' b = none → H b = none ∧ b ≠ D := fun b n => ⟨a.free n, fun z => by rw [z, eD] at n; cases n⟩
theorem depL_app : ∀ (ts us : List T), depL (ts ++ us) = max (depL ts) (depL us)
  | [], us => by simp [depL]
  | t :: ts, us => by
    show max (dep t) (depL (ts ++ us)) = max (max (dep t) (depL ts)) (depL us)
    rw [depL_app ts us]
    omega
end LL

namespace LL
open PySem PySem.Spec PyProof.Rows L2 L2H
/-! ### defs that are called within an except suite, on the exception that it holds -/
/-- a: the exception, D its class, dd its dict -/
structure FnZ (P : Program) (w : World) (K : PySem.W.Frag) (mg : Str → Option Value) (base : Heap) (k : Nat) (f : Addr) (fd : FuncData) (ps : List Str) (sp : Addr → Addr → Addr → Sp) : Prop where
  len : ∀ a D dd vs H Q E, sp a D dd vs H Q E → vs.length = ps.length
  run : ∀ (A : Around) (outer : List Env) (s : Shared) (H : Hp) (args : Args) (us : List Value) (vs : List V) (Q : VK) (E : XK) (p : Addr × Obj) (D dd : Addr),
    RoomH k A → Zc (.ref D) (some dd) p.2 → (∃ fs, p.2.data = .fields fs) → PinOk outer H s p → Env0 P w K mg base A outer s H → BindsTo s fd args (ps.zip us) → Vals vs us → sp p.1 D dd vs H Q E →
    codeAny (model P w) A (.call (.ref f) args) (CR CX0 outer P w H s Q E) s
section
variable {P : Program} {w : World} {K : PySem.W.Frag} {mg : Str → Option Value} {base : Heap} {k : Nat} {f : Addr} {fd : FuncData} {N ps : List Str} {sp : Addr → Addr → Addr → Sp} {x qual : Str} {pa : Arguments} {bd : List Stmt} {sc : Scope} {kws : List (Str × V)}
theorem okZ (F : FunD K x qual pa bd sc [] kws f fd) (S : FnScope N ps sc) (len : ∀ a D dd vs H Q E, sp a D dd vs H Q E → vs.length = ps.length)
    (hb : ∀ (cdv : Value) (A : Around) (outer : List Env) (s : Shared) (H : Hp) (vs : List V) (Q : VK) (E : XK) (p : Addr × Obj) (D dd : Addr), RoomH k (A.deeper (envOfC qual sc s.heap.objs.size f cdv)) →
      Zc (.ref D) (some dd) p.2 → (∃ fs, p.2.data = .fields fs) → sp p.1 D dd vs H Q E →
      ∃ t, PSs (cxH CX0 P w K mg base N qual sc f cdv A outer s H E p) bd t ∧ t { nx := fun _ H' => Q .non H', rt := Q } (L2.start N vs) H) : FnZ P w K mg base (k + 1) f fd ps sp := by
  obtain ⟨oc, od, dV, kV, doc, pm, an, cdv, ct, osl, rfl, lk, hcd, _, _⟩ := F.ex
  constructor
  · exact len
  · intro A outer s H args us vs Q E p D dd hr hz hf hpin e0 hbi r hsp
    have KX : K.In s.heap := e0.mod.kin.keeps (fun b o e => (e0.bs b o e).1)
    have lim : s.heap.NoLimit := e0.mod.nolimit.keeps (fun b o e => (e0.bs b o e).1)
    have hl : vs.length = ps.length := len _ _ _ _ _ _ _ hsp
    refine codeAny_call_function hr.depth (KX _ _ lk) rfl S.co S.gen rfl (PySem.W.codeRec_of KX hcd) (hbi _ _ _ _ (wpAny_newFunctionEnv_cells S.kind ?_ ?_))
    · rintro ⟨n, v⟩ hy
      cases S.par n (List.of_mem_zip hy).1 with
      | inl q => exact Or.inl q
      | inr q => exact Or.inr ⟨q, PySem.W.cellsFrom_some _ _ _ (Or.inl q)⟩
    · rintro env he s1 xx
      subst he
      obtain ⟨t, ht, hq⟩ := hb cdv A outer s H vs Q E p D dd (hr.deeper _) hz hf hsp
      have I := inv_startH (CX := CX0) (E := E) S hpin e0 hl r xx
      refine ⟨lim.keeps xx.toInCall.keep, codeAny_func (wpAny_mono (ht.run [] s1 _ H _ I hq) ?_ (fun e s' hs => hs))⟩
      intro fl s' hs
      cases fl with
      | ret u =>
        obtain ⟨v, σ', H', J, rv, q⟩ := hs
        exact ⟨v, H', J.os, J.bare, J.base, J.hok, rv, q⟩
      | next =>
        obtain ⟨σ', H', J, q⟩ := hs
        exact ⟨.non, H', J.os, J.bare, J.base, J.hok, rfl, q⟩
      | brk =>
        obtain ⟨_, _, _, q⟩ := hs
        exact q.elim
      | cont =>
        obtain ⟨_, _, _, q⟩ := hs
        exact q.elim
end
/-- f(e, ..) within the suite that holds the exception a -/
def tCallZ (cls : Value) (d : Option Addr) (a : Addr) (sp : Addr → Addr → Addr → Sp) (t : TA) : TE := fun σ H Q => t σ H fun vs H1 => ∃ D dd : Addr, cls = .ref D ∧ d = some dd ∧ sp a D dd vs H1 Q E0
theorem pe_callZ {X : Cx} {k : Nat} {f a : Addr} {fd : FuncData} {ps : List Str} {sp : Addr → Addr → Addr → Sp} {x : Str} {q pos : Pos} {e : Expr} {es : List Expr} {t : TA} {oe : Obj} {cls : Value} {d : Option Addr} {pn : List (Addr × Obj)}
    (F : FnZ X.prog X.w X.K X.mg X.base k f fd ps sp) (hr : Room k X.A) (hz : Zc cls d oe) (hf : ∃ fs, oe.data = .fields fs) (hg : Gl X x) (hm : X.mg x = some (.ref f)) (hk : PySem.W.keepIn X.K (.ref f) = true) (hb : Binds X.K fd ps [])
    (ha : PA (X.suite a ((a, oe) :: pn)) (e :: es) t) (hdb : (x == ("__debug__" : Str)) = false := by decide) (he : starEach (e :: es) X.env = (false, eval e X.env) :: starEach es X.env := by rfl) (hpl : (backTo pos (starEach es X.env)).any (·.1) = false := by rfl) :
    PE (X.suite a ((a, oe) :: pn)) (.Call (.Name x q) (e :: es) [] pos) (tCallZ cls d a sp t) := by
  refine ⟨fun pins s σ H Q I h => ?_⟩
  refine wpAny_Call_Name_kw (ld_glob (X := X.suite a ((a, oe) :: pn)) I hg hm ?_ hdb)
  refine PySem.W.callWith_K (h₀ := X.base) I.ok.mod.kin hk (thn (ha.run pos pins s σ H _ I h) ?_) he hpl
  rintro us s1 ⟨vs, H1, I1, r, D, dd, e1, e2, q1⟩
  subst e1 e2
  refine ⟨I1.kIn, ?_⟩
  have hl : us.length = ps.length := r.length.symm.trans (F.len _ _ _ _ _ _ _ q1)
  have b := hb s1 us I1.kIn (by rw [List.append_nil]; exact hl)
  rw [List.append_nil] at b
  obtain ⟨g1, g2, g3, g4, g5⟩ := I1.pin (a, oe) (List.mem_append.mpr (.inl List.mem_cons_self))
  have hpin : PinOk X.stack H1 s1 (a, oe) := ⟨g1, g2, fun hm => (List.mem_cons.mp (I1.stkSub a hm)).elim g3 g4, g5⟩
  refine wpAny_call (codeAny_mono (F.run (X.A.mark (some (.ref a))) X.stack s1 H1 ⟨us, []⟩ us vs Q E0 (a, oe) D dd ⟨hr.dp, hr.un⟩ hz hf hpin I1.env0 b r q1) ?_)
  intro r2 s2 hq
  cases r2 with
  | error e3 => exact hq.elim
  | ok fl =>
    cases fl with
    | ret u => exact I1.after hq
    | next => exact hq.elim
    | brk => exact hq.elim
    | cont => exact hq.elim
/-- what an exception class must say, that isinstance asks its instances rightly -/
structure ExcD (K : PySem.W.Frag) (D : Addr) : Prop where
  hc : (PySem.W.clsIn K D).isSome = true
  hg : PySem.W.findIn K (.ref D) "__getattribute__" = some (some (.builtin "BaseException.__getattribute__"))
  hk : PySem.W.findIn K (.ref D) "__getattr__" = some none
  hs : PySem.W.subIn K (.ref D) (.type "BaseException") = some true
  ha : PySem.W.findIn K (.ref D) "__class__" = some (some (.builtin "object.__class__"))
  hn : PySem.W.specialIn K (.builtin "object.__class__") "__get__" = some (some (.builtin "getset_descriptor.__get__"))
  ht : PySem.W.takesIn K (.builtin "object.__class__") = some true
  hm : PySem.W.mroIn K D (.type "object") = some true
def excdB (K : PySem.W.Frag) (D : Addr) : Bool := (PySem.W.clsIn K D).isSome && (decide (PySem.W.findIn K (.ref D) "__getattribute__" = some (some (.builtin "BaseException.__getattribute__"))) && (decide (PySem.W.findIn K (.ref D) "__getattr__" = some none) &&
  (decide (PySem.W.subIn K (.ref D) (.type "BaseException") = some true) && (decide (PySem.W.findIn K (.ref D) "__class__" = some (some (.builtin "object.__class__"))) && (decide (PySem.W.specialIn K (.builtin "object.__class__") "__get__" = some (some (.builtin "getset_descriptor.__get__"))) &&
  (decide (PySem.W.takesIn K (.builtin "object.__class__") = some true) && decide (PySem.W.mroIn K D (.type "object") = some true)))))))
theorem excdB_ok {K : PySem.W.Frag} {D : Addr} (h : excdB K D = true) : ExcD K D := by
  obtain ⟨h1, h⟩ := Bool.and_eq_true_iff.mp h
  obtain ⟨h2, h⟩ := Bool.and_eq_true_iff.mp h
  obtain ⟨h3, h⟩ := Bool.and_eq_true_iff.mp h
  obtain ⟨h4, h⟩ := Bool.and_eq_true_iff.mp h
  obtain ⟨h5, h⟩ := Bool.and_eq_true_iff.mp h
  obtain ⟨h6, h⟩ := Bool.and_eq_true_iff.mp h
  obtain ⟨h7, h8⟩ := Bool.and_eq_true_iff.mp h
  exact ⟨h1, of_decide_eq_true h2, of_decide_eq_true h3, of_decide_eq_true h4, of_decide_eq_true h5, of_decide_eq_true h6, of_decide_eq_true h7, of_decide_eq_true h8⟩
/-- isinstance(e, c), e the exception -/
def rIsX (K : PySem.W.Frag) (a D dd : Addr) : List V → Hp → VK → Prop := fun xs H Q => ∃ (c : V) (cv : Value) (b : Bool) (fs : List (Str × V)), xs = [.ref a, c] ∧ ClsV c cv ∧ PySem.W.kitOne K (.ref D) cv = some b ∧ H dd = some (.xd fs) ∧ Q (.bl b) H
theorem call_isX {X : Cx} {p : Addr × Obj} {D dd : Addr} (hp : p ∈ X.pn) (C : ExcD X.K D) (hz : Zc (.ref D) (some dd) p.2) (hf : ∃ fs, p.2.data = .fields fs) : CallR X (.builtin "isinstance") (rIsX X.K p.1 D dd) := by
  intro pins s σ H xs us Q I r h
  obtain ⟨c, cv, b, fs, rfl, hcv, e, hd, q⟩ := h
  obtain ⟨u1, u2, rfl, r1, r2⟩ := vals2 r
  cases (show u1 = Value.ref p.1 from r1)
  have e2 := hcv.eq r2
  subst e2
  obtain ⟨hget, _⟩ := I.pin p (List.mem_append_left _ hp)
  have hx : ObjOk X.prog X.w H s.heap dd (.xd fs) := I.hok dd _ hd
  obtain ⟨mA, ⟨od, es, ep, ho, hr⟩, _⟩ := hx
  obtain ⟨vs, hv⟩ := hf
  have J : PySem.W.InstAt s.heap p.1 p.2 D (some od) := ⟨hget, hz.1, by unfold PySem.W.notCls; rw [hv] <;> rfl, by rw [hz.2]; exact ho⟩
  exact PySem.W.kia_one (PySem.W.kitx_exc C.hc C.hg C.hk C.hs C.ha C.hn C.ht C.hm) I.kIn J e (fun z => nomatch z) fun tk => ⟨.bl b, H, I.tok tk, rfl, q⟩
/-- what the written part says of an exception class with its own __init__, as a Bool -/
def oexB (K : PySem.W.Frag) (C : Addr) : Bool := (match K.lookup C with
    | some ⟨.type "type", _, .cls cd, sl⟩ => (match cd.mro, sl.toList with
      | .ref C' :: bm, [_, _, _, _, some (.builtin n), _] => decide (C' = C) && (decide (n = "ValueError.__new__") && (!cd.hasDel && (cd.hasDict && PySem.HandSPX.refsVE bm)))
      | _, _ => false)
    | _ => false) && (decide (PySem.W.findIn K (.ref C) "__setattr__" = some (some (.builtin "object.__setattr__"))) && (decide (PySem.W.subIn K (.ref C) (.type "BaseException") = some true) &&
  (decide (PySem.W.typeIn K (.ref C) = some (.type "type")) && PySem.W.keepIn K (.ref C))))
theorem oexB_ok {K : PySem.W.Frag} {C : Addr} (h : oexB K C = true) : OexC K C := by
  obtain ⟨h1, h⟩ := Bool.and_eq_true_iff.mp h
  obtain ⟨h2, h⟩ := Bool.and_eq_true_iff.mp h
  obtain ⟨h3, h⟩ := Bool.and_eq_true_iff.mp h
  obtain ⟨h4, h5⟩ := Bool.and_eq_true_iff.mp h
  refine ⟨?_, of_decide_eq_true h2, of_decide_eq_true h3, of_decide_eq_true h4, h5⟩
  split at h1
  · rename_i dd cd sl ho
    split at h1
    · rename_i C' bm k0 k1 k2 k3 n k5 hm hs
      simp only [Bool.and_eq_true, decide_eq_true_eq, Bool.not_eq_true'] at h1
      obtain ⟨rfl, rfl, hdel, hdct, hr⟩ := h1
      obtain ⟨nm, bs, mro, ns, qn, hd, sn, sub, ab, col, del⟩ := cd
      dsimp only at hm hdel hdct
      subst hm hdel hdct
      have hsl : sl = #[k0, k1, k2, k3, some (.builtin "ValueError.__new__"), k5] := by
        obtain ⟨l⟩ := sl
        dsimp only at hs
        rw [hs]
      subst hsl
      exact ⟨nm, qn, ns, bs, bm, sn, sub, ab, col, dd, k0, k1, k2, k3, k5, ho, hr⟩
    · cases h1
  · cases h1
theorem passR {X : Cx} {W : WX} {E : XK} (tk : Takes X W) (hW : ∀ cls d σ H, E cls d H → W cls d σ H) : Passes (L2.CX X.prog X.w) X E := passes_call tk hW
end LL

namespace LL
open PySem PySem.Spec PyProof.Rows L2
/-! ### the head's facts, and one more Bool of the written part -/
abbrev AlY : Type := He.AlD × Bool
def obsY (n : Nat) (fa : List He.Fa) (fn : List He.DefD) (ex : PySem.W.Frag → Bool) (g : Addr → Option Obj) : AlY := (He.obsD fa fn (He.frG g (He.asD g n)), ex (He.frG g (He.asD g n)))
structure SaysY (fa : List He.Fa) (fn : List He.DefD) (ex : PySem.W.Frag → Bool) (K : PySem.W.Frag) : Prop where
  d : He.SaysD fa fn K
  x : ex K = true
def hookY (n : Nat) (fa : List He.Fa) (fn : List He.DefD) (ex : PySem.W.Frag → Bool) : PySem.W.Hook where
  α := AlY
  obs := fun s => obsY n fa fn ex s.heap.get?
  val := fun _ => (He.valD fn, true)
  says := fun _ h => ∃ K : PySem.W.Frag, K.In h ∧ SaysY fa fn ex K
  of := fun _ _ e => ⟨_, He.frG_in, ⟨congrArg (fun z : AlY => z.1) e, congrArg (fun z : AlY => z.2) e⟩⟩
  keeps := fun _ _ _ ⟨K, hK, c⟩ k => ⟨K, PySem.W.Frag.In.keeps hK k, c⟩
theorem obsY_eq {n : Nat} {fa : List He.Fa} {fn : List He.DefD} {ex : PySem.W.Frag → Bool} {g : Addr → Option Obj} {s : Shared} (h : ∀ a, g a = s.heap.get? a) : obsY n fa fn ex g = (hookY n fa fn ex).obs s := by
  have e : g = s.heap.get? := funext h
  rw [e]
  rfl
theorem SaysY.ex {fa : List He.Fa} {fn : List He.DefD} {exs : List (PySem.W.Frag → Bool)} {K : PySem.W.Frag} (c : SaysY fa fn (fun K => exs.all fun e => e K) K) (i : Nat) {e : PySem.W.Frag → Bool} (h : exs[i]? = some e := by rfl) : e K = true :=
  List.all_eq_true.mp c.x e (List.mem_of_getElem? h)
end LL

namespace LL
open PySem PySem.Spec PyProof.Rows L2 L2H
/-- a field of the exception that a def called in an except suite is handed -/
theorem pe_xfP {X : Cx} {p : Addr × Obj} {C : Addr} {cls : Value} {d : Option Addr} {e : Expr} {te : TE} {pos : Pos} {n : Str} (hp : p ∈ X.pn) (T : XfC X.K C) (hno : PySem.W.findIn X.K (.ref C) n = some none)
    (hz : Zc cls d p.2) (hf : ∃ vs, p.2.data = .fields vs) (he : PE X e te) (hb : attributeBase e n X.env (eval e X.env) = eval e X.env := by rfl) :
    PE X (.Attribute e n pos) (tXf p.1 cls d C n te) := by
  refine ⟨fun pins s σ H Q I h => ?_⟩
  refine attr_of hb (thn (he.run pins s σ H _ I h) fun u s1 hh => ?_)
  obtain ⟨x, H1, I1, rx, ex, ec, dd, fs, v, ed, ea, l, q⟩ := hh
  subst ex
  obtain rfl : u = Value.ref p.1 := rx
  subst ec
  subst ed
  obtain ⟨ha, _⟩ := I1.pin p (List.mem_append_left _ hp)
  obtain ⟨vs, hd⟩ := hf
  have hx : ObjOk X.prog X.w H1 s1.heap dd (.xd fs) := I1.hok dd _ ea
  obtain ⟨mA, hns, hr⟩ := hx
  obtain ⟨od, ho, hl⟩ := lookIn_ns hns
  obtain ⟨u, hu, ru⟩ := RelO.some_of (v := v) (o := mA n) (by rw [← l]; exact hr n)
  have J : PySem.W.InstAt s1.heap p.1 p.2 C (some od) := ⟨ha, hz.1, by unfold PySem.W.notCls; rw [hd] <;> rfl, by rw [hz.2]; exact ho⟩
  exact HandSPX.exc_get I1.kIn J T.ga T.gg T.exC (PySem.W.findObj_own T.hdC hno rfl (by rw [hl, hu])) (handed_of ru) ⟨v, H1, I1.tok _, ru, q⟩
/-- isinstance(e, c) in the suite that holds e -/
def rIsXC (K : PySem.W.Frag) (a D : Addr) (cls : Value) (d : Option Addr) : List V → Hp → VK → Prop := fun xs H Q => ∃ (dd : Addr) (c : V) (cv : Value) (b : Bool) (fs : List (Str × V)), cls = .ref D ∧ d = some dd ∧ xs = [.ref a, c] ∧ ClsV c cv ∧ PySem.W.kitOne K (.ref D) cv = some b ∧ H dd = some (.xd fs) ∧ Q (.bl b) H
theorem call_isXC {X : Cx} {p : Addr × Obj} {D : Addr} {cls : Value} {d : Option Addr} (hp : p ∈ X.pn) (C : ExcD X.K D) (hz : Zc cls d p.2) (hf : ∃ fs, p.2.data = .fields fs) : CallR X (.builtin "isinstance") (rIsXC X.K p.1 D cls d) := by
  rintro pins s σ H xs us Q I r ⟨dd, c, cv, b, fs, rfl, rfl, rfl, h1, h2, h3, q⟩
  exact call_isX hp C hz hf pins s σ H _ us Q I r ⟨c, cv, b, fs, rfl, h1, h2, h3, q⟩
theorem use_isXC {K : PySem.W.Frag} {a D dd : Addr} {c : V} {cv : Value} {b : Bool} {fs : List (Str × V)} {H : Hp} {Q : VK} (hc : ClsV c cv) (hk : PySem.W.kitOne K (.ref D) cv = some b) (hd : H dd = some (.xd fs)) (q : Q (.bl b) H) : rIsXC K a D (.ref D) (some dd) [.ref a, c] H Q := ⟨dd, c, cv, b, fs, rfl, rfl, rfl, hc, hk, hd, q⟩
/-- a def that may raise, called where it does not -/
theorem passE0 {X : Cx} : Passes (L2.CX X.prog X.w) X E0 := fun _ _ _ _ _ _ _ h => by
  obtain ⟨_, _, _, _, _, _, _, _, _, _, _, _, hE⟩ := h
  exact hE.elim
theorem use_for2 {ta : TA} {g : TG} {tb : TS} {D : Ends} {σ : L2.St} {H : Hp} (lo hi : Int) (ht : ∀ Q : List V → Hp → Prop, Q [.int lo, .int hi] H → ta σ H Q) (b0 : -(2 ^ 62) ≤ lo) (b1 : lo < 2 ^ 62) (b2 : -(2 ^ 62) ≤ hi) (b3 : hi < 2 ^ 62) (Pv : Nat → L2.St → Hp → Prop) (h0 : Pv 0 σ H)
    (hs : ∀ i σ H, i < (hi - lo).toNat → Pv i σ H → g (.int (lo + (i : Int))) σ H fun σ2 H2 => tb { D with nx := Pv (i + 1), ct := Pv (i + 1), bk := D.nx } σ2 H2) (hd : ∀ σ H, Pv (hi - lo).toNat σ H → D.nx σ H) : tFor (iRng2 ta) g tb D σ H :=
  ht _ ⟨lo, hi, rfl, ⟨b0, b1, b2, b3⟩, for_range Pv h0 hs hd⟩
theorem use_lenA_L {p : Addr} {xs : List V} {H : Hp} {Q : VK} (h : H p = some (.lst xs)) (q : Q (.int xs.length) H) : rLenA [.ref p] H Q := .inl (use_lenL h q)
theorem use_lenA_T {p : Addr} {xs : List V} {H : Hp} {Q : VK} (h : H p = some (.tup xs)) (q : Q (.int xs.length) H) : rLenA [.ref p] H Q := .inr (.inl (use_lenT h q))
theorem use_ixA_L {K : PySem.W.Frag} {p : Addr} {xs : List V} {i : Int} {v : V} {H : Hp} {Q : VK} (h : H p = some (.lst xs)) (e : atI xs i = some v) (q : Q v H) : rIxA K (.ref p) (.int i) H Q := .inl (use_ixL h e q)
theorem use_ixA_T {K : PySem.W.Frag} {p : Addr} {xs : List V} {i : Int} {v : V} {H : Hp} {Q : VK} (h : H p = some (.tup xs)) (e : atI xs i = some v) (q : Q v H) : rIxA K (.ref p) (.int i) H Q := .inr (use_ixT h e q)
/-- a list or a tuple -/
def SeqH (H : Hp) (p : Addr) (xs : List V) : Prop := H p = some (.lst xs) ∨ H p = some (.tup xs)
theorem SeqH.same {H H' : Hp} {p : Addr} {xs : List V} (h : SeqH H p xs) (s : Same H H') : SeqH H' p xs := h.imp (s _ _) (s _ _)
theorem SeqH.kp {s : Addr} {H H' : Hp} {p : Addr} {xs : List V} (h : SeqH H p xs) (n : p ≠ s) (k : Kp s H H') : SeqH H' p xs := h.imp (k _ _ n) (k _ _ n)
theorem use_ixA {K : PySem.W.Frag} {p : Addr} {xs : List V} {i : Int} {v : V} {H : Hp} {Q : VK} (h : SeqH H p xs) (e : atI xs i = some v) (q : Q v H) : rIxA K (.ref p) (.int i) H Q := h.elim (fun h => use_ixA_L h e q) fun h => use_ixA_T h e q
mutual
/-- no dict in it -/
def noDic : T → Bool
  | .dic _ => false
  | .lst ts => noDics ts
  | .tup ts => noDics ts
  | _ => true
def noDics : List T → Bool
  | [] => true
  | t :: ts => noDic t && noDics ts
end
theorem noDicL : ∀ {ts : List T} {i : Nat} {t : T}, ts[i]? = some t → noDics ts = true → noDic t = true
  | [], _, _, e, _ => by cases e
  | u :: ts, 0, t, e, h => by
    cases e
    exact (Bool.and_eq_true_iff.mp h).1
  | u :: ts, i + 1, t, e, h => noDicL (ts := ts) (i := i) e (Bool.and_eq_true_iff.mp h).2
theorem Aft.same {d s : Addr} {H H' : Hp} (D : Drw d s H) (k : Same H H') : Aft d s H H' := ⟨.same k, D.same k⟩
theorem Aft.at {d s : Addr} {H H' : Hp} (a : Aft d s H H') {p : Addr} {o : HO} (h : H p = some o) (n : p ≠ s) : H' p = some o := a.kp _ _ n h
/-- a list of bools that is all True, made by a comprehension over range(n) -/
theorem rAll_true {K : PySem.W.Frag} {D : Addr} {n : Nat} {H : Hp} {Q : VK} (h : H D = some (.lst (List.replicate n (V.bl true)))) (q : Q (.bl true) H) : rAll K [.ref D] H Q :=
  ⟨D, List.replicate n true, rfl, .inl (.inl (by rw [List.map_replicate]; exact h)), by rw [show (List.replicate n true).all id = true by simp]; exact q⟩
theorem repl_succ {n : Nat} : List.replicate n (V.bl true) ++ [V.bl true] = List.replicate (n + 1) (V.bl true) := by rw [List.replicate_succ']
theorem itei {p : Prop} [Decidable p] {A B : Prop} (h1 : p → A) (h2 : ¬p → B) : if p then A else B := by
  by_cases h : p
  · rw [if_pos h]; exact h1 h
  · rw [if_neg h]; exact h2 h
/-- over enumerate(list), a list that the body leaves as it is -/
theorem use_forE {K : PySem.W.Frag} {ta : TA} {a : Addr} {xs : List V} {g : TG} {tb : TS} {D : Ends} {σ : L2.St} {H : Hp} (ht : ∀ Q : List V → Hp → Prop, Q [.ref a] H → ta σ H Q) (Pv : Nat → L2.St → Hp → Prop) (h0 : Pv 0 σ H) (hl : ∀ i σ H, i ≤ xs.length → Pv i σ H → SqL K H a xs)
    (hs : ∀ i x T σ H, xs[i]? = some x → Pv i σ H → H T = none → g (.ref T) σ (upd H T (.tup [.int (i : Nat), x])) fun σ2 H2 => tb { D with nx := Pv (i + 1), ct := Pv (i + 1), bk := D.nx } σ2 H2)
    (hd : ∀ σ H, Pv xs.length σ H → D.nx σ H) : tFor (iEnum K ta) g tb D σ H := by
  refine ht _ ⟨a, xs, rfl, hl 0 σ H (Nat.zero_le _) h0, fun i m σ H => i ≤ xs.length ∧ m + i = xs.length ∧ Pv i σ H, ⟨xs.length, Nat.zero_le _, Nat.add_zero _, h0⟩, ?_⟩
  rintro i m σ H ⟨hi, hm, p⟩
  have q := hl i σ H hi p
  rcases Nat.lt_or_ge i xs.length with hlt | hge
  · refine .inr ⟨⟨xs, xs[i], q, List.getElem?_eq_getElem hlt⟩, Pv (i + 1), fun σ' H' p' => ⟨m - 1, by omega, hlt, by omega, p'⟩, ?_⟩
    rintro z H' ⟨T, x, rfl, hT, rfl, hx⟩
    exact hs i x T σ H (hx xs q) p hT
  · obtain rfl : i = xs.length := by omega
    exact .inl ⟨⟨xs, q, Nat.le_refl _⟩, hd σ H p⟩
theorem use_forEX {K : PySem.W.Frag} {ta : TA} {g : TG} {tb : TS} {D : Ends} {σ : L2.St} {H : Hp} {R : Addr → List V → Hp → Prop} (ht : ∀ Q : List V → Hp → Prop, (∀ a xs H', R a xs H' → Q [.ref a] H') → ta σ H Q) (Pv : Addr → List V → Nat → L2.St → Hp → Prop) (h0 : ∀ a xs H', R a xs H' → Pv a xs 0 σ H')
    (hl : ∀ a xs i σ H, i ≤ xs.length → Pv a xs i σ H → SqL K H a xs)
    (hs : ∀ a xs i x T σ H, xs[i]? = some x → Pv a xs i σ H → H T = none → g (.ref T) σ (upd H T (.tup [.int (i : Nat), x])) fun σ2 H2 => tb { D with nx := Pv a xs (i + 1), ct := Pv a xs (i + 1), bk := D.nx } σ2 H2)
    (hd : ∀ a xs σ H, Pv a xs xs.length σ H → D.nx σ H) : tFor (iEnum K ta) g tb D σ H := by
  refine ht _ fun a xs H' r => ?_
  have p0 := h0 a xs H' r
  refine ⟨a, xs, rfl, hl a xs 0 σ H' (Nat.zero_le _) p0, fun i m σ H => i ≤ xs.length ∧ m + i = xs.length ∧ Pv a xs i σ H, ⟨xs.length, Nat.zero_le _, Nat.add_zero _, p0⟩, ?_⟩
  rintro i m σ H ⟨hi, hm, p⟩
  have q := hl a xs i σ H hi p
  rcases Nat.lt_or_ge i xs.length with hlt | hge
  · refine .inr ⟨⟨xs, xs[i], q, List.getElem?_eq_getElem hlt⟩, Pv a xs (i + 1), fun σ' H' p' => ⟨m - 1, by omega, hlt, by omega, p'⟩, ?_⟩
    rintro z H' ⟨T, x, rfl, hT, rfl, hx⟩
    exact hs a xs i x T σ H (hx xs q) p hT
  · obtain rfl : i = xs.length := by omega
    exact .inl ⟨⟨xs, q, Nat.le_refl _⟩, hd a xs σ H p⟩
theorem DtL.set {F : Addr → Prop} {H : Hp} : ∀ {xs : List V} {ts : List T} {i : Nat} {v : V} {t : T}, DtL F H xs ts → Dt F H v t → DtL F H (xs.set i v) (ts.set i t)
  | _, [], i, v, t, h, _ => by rw [show _ = [] from h]; rfl
  | _, u :: us, 0, v, t, h, d => by
    obtain ⟨x, xs, rfl, h1, h2⟩ := h
    exact ⟨v, xs, rfl, d, h2⟩
  | _, u :: us, i + 1, v, t, h, d => by
    obtain ⟨x, xs, rfl, h1, h2⟩ := h
    exact ⟨x, _, rfl, h1, DtL.set h2 d⟩
theorem DtL.off {F : Addr → Prop} {H : Hp} {r : Addr} {o : HO} {xs : List V} {ts : List T} (hF : ∀ a, F a → a ≠ r) (h : DtL F H xs ts) : DtL F (upd H r o) xs ts := DtL.imp (fun a u f e => ⟨f, by rw [upd_ne (hF a f)]; exact e⟩) _ h
theorem Dt.off {F : Addr → Prop} {H : Hp} {r : Addr} {o : HO} {v : V} {t : T} (hF : ∀ a, F a → a ≠ r) (h : Dt F H v t) : Dt F (upd H r o) v t := Dt.imp (fun a u f e => ⟨f, by rw [upd_ne (hF a f)]; exact e⟩) _ h
end LL

namespace LL
open PySem PySem.Spec PyProof.Rows L2 L2H
/-! ### exceptions as values -/
/-- C(e, ..), an own exception class whose __init__ keeps sp, as a value -/
def tMkV (C : Addr) (sp : Sp) (ta : TA) : TE := fun σ H Q => ta σ H fun vs H1 => vs.length ≤ 1000 ∧ ∀ a, H1 a = none → sp (.ref a :: vs) (upd H1 a (exo a C none)) (fun v H2 => v = .non ∧ Q (.ref a) H2) (fun _ _ _ => False)
section
variable {X : Cx} {e : Expr} {es : List Expr} {ta : TA} {p pos : Pos}
theorem pe_mkv {CX : CXT} {x : Str} {C fI : Addr} {k : Nat} {fd : FuncData} {ps : List Str} {sp : Sp} (T : OexC X.K C) (iC : PySem.W.findIn X.K (.ref C) "__init__" = some (some (.ref fI))) (tI : PySem.W.typeIn X.K (.ref fI) = some (.type "function"))
    (F1 : FnOk X.prog X.w X.K X.mg X.base CX k fI fd ps sp) (hr : Room (k + 1) X.A) (hb : Binds X.K fd ps []) (hx : Passes CX X (fun _ _ _ => False)) (hg : Gl X x) (hm : X.mg x = some (.ref C)) (ha : PA X (e :: es) ta)
    (hdb : (x == ("__debug__" : Str)) = false := by decide) (he : starEach (e :: es) X.env = (false, eval e X.env) :: starEach es X.env := by rfl) (hpl : (backTo pos (starEach es X.env)).any (·.1) = false := by rfl) :
    PE X (.Call (.Name x p) (e :: es) [] pos) (tMkV C sp ta) := by
  refine ⟨fun pins s σ H Q I h => ?_⟩
  obtain ⟨nm, q, N, bs, bm, sn, sub, ab, col, dd, k0, k1, k2, k3, k5, hC, hbm⟩ := T.cls
  refine wpAny_Call_Name_kw (ld_glob I hg hm ?_ hdb)
  refine PySem.W.callWith_K (h₀ := X.base) I.ok.mod.kin T.kC (thn (ha.run pos pins s σ H _ I h) fun us s1 ⟨vs, H1, I1, r1, hz, q1⟩ => ⟨I1.kIn, ?_⟩) he hpl
  show wpAny _ _ (call (.ref C) us) _ _ _
  obtain ⟨hp, g, dr, tk, os⟩ := s1
  have hsz : hp.objs.size ≤ hp.objs.size + 1 := Nat.le_succ _
  have hn : H1 (hp.objs.size + 1) = none := I1.hok.fresh hsz
  have hq := q1 (hp.objs.size + 1) hn
  have kk : ∀ b o, hp.get? b = some o → ((hp.push (PySem.W.kdv_tup us)).push (PySem.HandSPX.excO C hp.objs.size)).get? b = some o := fun b o e => Heap.get?_push_of_some _ (Heap.get?_push_of_some _ e)
  have hget : ((hp.push (PySem.W.kdv_tup us)).push (PySem.HandSPX.excO C hp.objs.size)).get? (hp.objs.size + 1) = some (PySem.HandSPX.excO C hp.objs.size) := by heap_get
  have I2 : Inv X pins σ (upd H1 (hp.objs.size + 1) (exo (hp.objs.size + 1) C none)) ⟨(hp.push (PySem.W.kdv_tup us)).push (PySem.HandSPX.excO C hp.objs.size), g, dr, tk, os⟩ :=
    I1.laid (t' := tk) (a := hp.objs.size + 1) (o := exo (hp.objs.size + 1) C none) (h' := (hp.push (PySem.W.kdv_tup us)).push (PySem.HandSPX.excO C hp.objs.size)) kk hsz (exo_ok hget)
  have r2 : Vals (V.ref (hp.objs.size + 1) :: vs) (Value.ref (hp.objs.size + 1) :: us) := .cons rfl r1
  have hl : (Value.ref (hp.objs.size + 1) :: us).length = ps.length := by
    have e := r2.length
    rw [F1.len _ _ _ _ hq] at e
    exact e.symm
  have hus : us.length ≤ sizeLine := by
    rw [← Paired.length r1, sizeLine_eq]
    omega
  have hb2 := hb ⟨(hp.push (PySem.W.kdv_tup us)).push (PySem.HandSPX.excO C hp.objs.size), g, dr, tk, os⟩ (Value.ref (hp.objs.size + 1) :: us) I2.kIn (by rw [List.append_nil]; exact hl)
  rw [List.append_nil] at hb2
  refine wpAny_call (PySem.HandSPX.call_own F.excBase_ValueError (fun Y => PySem.HandSPX.refsVE_contains Y bm hbm) (I1.kIn _ _ hC) (PySem.W.looks_findIn I1.kIn iC) (fun self => PySem.W.bind_fn I1.kIn self tI) hus
    (codeAny_mono (F1.run _ X.stack _ _ ⟨Value.ref (hp.objs.size + 1) :: us, []⟩ (Value.ref (hp.objs.size + 1) :: us) _ _ (fun _ _ _ => False) (hr.make C us []) (I2.env0.make C us []) hb2 r2 hq) fun r s' hq' => ?_))
  cases r with
  | error er => exact hx pins σ _ _ er s' I2 hq'
  | ok fl =>
    cases fl with
    | ret u =>
      obtain ⟨v, H2, os2, bare2, un2, hok2, rv, ev, q2⟩ := hq'
      subst ev
      have J := I2.call' (ch := []) os2 un2 hok2 bare2 (fun b z => absurd z (by simp))
      exact ⟨rv, ⟨V.ref (hp.objs.size + 1), H2, J, rfl, q2⟩⟩
    | next => exact False.elim hq'
    | brk => exact False.elim hq'
    | cont => exact False.elim hq'
end
/-- e.f, e an exception held as a value -/
def tXv (K : PySem.W.Frag) (f : Str) (te : TE) : TE := fun σ H Q => te σ H fun x H1 => ∃ (a C d : Addr) (fs : List (Str × V)) (v : V), x = .ref a ∧ H1 a = some (exo a C (some d)) ∧ H1 d = some (exd d fs) ∧ XfC K C ∧ PySem.W.findIn K (.ref C) f = some none ∧ fs.lookup f = some v ∧ Q v H1
theorem pe_xv {X : Cx} {e : Expr} {te : TE} {pos : Pos} {n : Str} (he : PE X e te) (hb : attributeBase e n X.env (eval e X.env) = eval e X.env := by rfl) : PE X (.Attribute e n pos) (tXv X.K n te) := by
  refine ⟨fun pins s σ H Q I h => ?_⟩
  refine attr_of hb (thn (he.run pins s σ H _ I h) fun u s1 hh => ?_)
  obtain ⟨x, H1, I1, rx, a, C, d, fs, v, ex, ea, ed, T, hno, l, q⟩ := hh
  subst ex
  obtain rfl : u = Value.ref a := rx
  obtain ⟨t1, ho⟩ := exo_at I1.hok ea
  obtain ⟨mA, hns, hr⟩ := exd_at I1.hok ed
  obtain ⟨od, hod, hl⟩ := lookIn_ns hns
  obtain ⟨u, hu, ru⟩ := RelO.some_of (v := v) (o := mA n) (by rw [← l]; exact hr n)
  have J : PySem.W.InstAt s1.heap a _ C (some od) := ⟨ho, rfl, rfl, hod⟩
  exact HandSPX.exc_get I1.kIn J T.ga T.gg T.exC (PySem.W.findObj_own T.hdC hno rfl (by rw [hl, hu])) (handed_of ru) ⟨v, H1, I1.tok _, ru, q⟩
/-- isinstance(e, c), e an exception held as a value -/
def rIsV (K : PySem.W.Frag) : List V → Hp → VK → Prop := fun xs H Q => ∃ (a C d : Addr) (c : V) (cv : Value) (b : Bool) (fs : List (Str × V)), xs = [.ref a, c] ∧ H a = some (exo a C (some d)) ∧ H d = some (exd d fs) ∧ ExcD K C ∧ ClsV c cv ∧ PySem.W.kitOne K (.ref C) cv = some b ∧ Q (.bl b) H
theorem call_isV {X : Cx} : CallR X (.builtin "isinstance") (rIsV X.K) := by
  intro pins s σ H xs us Q I r h
  obtain ⟨a, D, d, c, cv, b, fs, rfl, ea, ed, C, hcv, e, q⟩ := h
  obtain ⟨u1, u2, rfl, r1, r2⟩ := vals2 r
  cases (show u1 = Value.ref a from r1)
  have e2 := hcv.eq r2
  subst e2
  obtain ⟨t1, ho⟩ := exo_at I.hok ea
  obtain ⟨mA, ⟨od, es, ep, hod, hr⟩, _⟩ := exd_at I.hok ed
  have J : PySem.W.InstAt s.heap a _ D (some od) := ⟨ho, rfl, rfl, hod⟩
  exact PySem.W.kia_one (PySem.W.kitx_exc C.hc C.hg C.hk C.hs C.ha C.hn C.ht C.hm) I.kIn J e (fun z => nomatch z) fun tk => ⟨.bl b, H, I.tok tk, rfl, q⟩
/-! ### the eight classes -/
def kindsV (K : PySem.W.Frag) : List Value := [.ref (He.ga K "StoreError"), .type "ValueError", .ref (He.ga K "BadValue"), .ref (He.ga K "Broken"), .ref (He.ga K "Unknown"), .ref (He.ga K "NotHeld"), .ref (He.ga K "Fault"), .ref (He.ga K "NoRoom"), .ref (He.ga K "Cut"), .ref (He.ga K "BadLine")]
def bitsV (k : Nat) : List Bool := [true, true, decide (k = 0), decide (k = 1), decide (k = 2), decide (k = 3), decide (k = 4), decide (k = 5), decide (k = 6), decide (k = 7)]
def kindsOk (K : PySem.W.Frag) (C : Addr) (k : Nat) : Prop := (kindsV K).map (fun cv => PySem.W.kitOne K (.ref C) cv) = (bitsV k).map some
structure ExV (K : PySem.W.Frag) (n : Str) (fs : List Str) (k : Nat) : Prop where
  oex : OexC K (He.ga K n)
  ini : PySem.W.findIn K (.ref (He.ga K n)) "__init__" = some (some (.ref (He.ma K (He.ga K n) "__init__")))
  typ : PySem.W.typeIn K (.ref (He.ma K (He.ga K n) "__init__")) = some (.type "function")
  no : ∀ f ∈ ("told" : Str) :: fs, PySem.W.findIn K (.ref (He.ga K n)) f = some none
  xf : XfC K (He.ga K n)
  dd : ExcD K (He.ga K n)
  ks : kindsOk K (He.ga K n) k
def exvB (K : PySem.W.Frag) (n : Str) (fs : List Str) (k : Nat) : Bool := oexB K (He.ga K n) && (decide (PySem.W.findIn K (.ref (He.ga K n)) "__init__" = some (some (.ref (He.ma K (He.ga K n) "__init__")))) && (decide (PySem.W.typeIn K (.ref (He.ma K (He.ga K n) "__init__")) = some (.type "function")) &&
  (((("told" : Str) :: fs).all fun f => decide (PySem.W.findIn K (.ref (He.ga K n)) f = some none)) && (xfB K (He.ga K n) && (excdB K (He.ga K n) && decide ((kindsV K).map (fun cv => PySem.W.kitOne K (.ref (He.ga K n)) cv) = (bitsV k).map some))))))
theorem exvB_ok {K : PySem.W.Frag} {n : Str} {fs : List Str} {k : Nat} (h : exvB K n fs k = true) : ExV K n fs k := by
  obtain ⟨h1, h⟩ := Bool.and_eq_true_iff.mp h
  obtain ⟨h2, h⟩ := Bool.and_eq_true_iff.mp h
  obtain ⟨h3, h⟩ := Bool.and_eq_true_iff.mp h
  obtain ⟨h4, h⟩ := Bool.and_eq_true_iff.mp h
  obtain ⟨h5, h⟩ := Bool.and_eq_true_iff.mp h
  obtain ⟨h6, h7⟩ := Bool.and_eq_true_iff.mp h
  exact ⟨oexB_ok h1, of_decide_eq_true h2, of_decide_eq_true h3, fun f hf => of_decide_eq_true (List.all_eq_true.mp h4 f hf), xfB_ok h5, excdB_ok h6, by unfold kindsOk; exact of_decide_eq_true h7⟩
theorem ExV.kit {K : PySem.W.Frag} {n : Str} {fs : List Str} {k : Nat} (h : ExV K n fs k) {i : Nat} {cv : Value} {b : Bool} (h1 : (kindsV K)[i]? = some cv) (h2 : (bitsV k)[i]? = some b) : PySem.W.kitOne K (.ref (He.ga K n)) cv = some b := by
  have e := congrArg (fun l => l[i]?) h.ks
  simp only [List.getElem?_map, h1, h2, Option.map_some, Option.some.injEq] at e
  exact e
/-- an exception of the class n held as a value at a: its fields vs, and what it tells -/
def ExAt (K : PySem.W.Frag) (n title : Str) (fs : List Str) (a : Addr) (vs : List V) (H : Hp) : Prop := ∃ d p1 p2 : Addr, H a = some (exo a (He.ga K n) (some d)) ∧ H d = some (exd d (("told", .ref p2) :: (fs.zip vs).reverse)) ∧ H p1 = some (.tup vs) ∧ H p2 = some (.tup [.str title, .ref p1])
theorem ExAt.same {K : PySem.W.Frag} {n title : Str} {fs : List Str} {a : Addr} {vs : List V} {H H' : Hp} (h : ExAt K n title fs a vs H) (s : Same H H') : ExAt K n title fs a vs H' := by
  obtain ⟨d, p1, p2, e1, e2, e3, e4⟩ := h
  exact ⟨d, p1, p2, s _ _ e1, s _ _ e2, s _ _ e3, s _ _ e4⟩
/-- n.__init__ as a value's maker -/
def sp_ExV (K : PySem.W.Frag) (n : Str) (fs : List Str) : Sp := fun vs H Q _ => ∃ (a : Addr) (ns : List V), vs = .ref a :: ns ∧ ns.length = fs.length ∧ H a = some (exo a (He.ga K n) none) ∧ ∀ H', ExAt K n n fs a ns H' → (∀ b o, b ≠ a → H b = some o → H' b = some o) → Q .non H'
theorem same_made {H H2 : Hp} {a : Addr} {o : HO} (hn : H a = none) (k : ∀ b u, b ≠ a → upd H a o b = some u → H2 b = some u) : Same H H2 := fun b u e => k b u (ne_of_none e hn) (by rw [upd_ne (ne_of_none e hn)]; exact e)
end LL

namespace LL
open PySem PySem.Spec PyProof.Rows L2 L2H
/-! ### list(range(i, j, k)) -/
def stepV (i k : Int) (n : Nat) : List V := (List.range n).map fun j => V.int (i + (j : Nat) * k)
theorem stepV_len {i k : Int} {n : Nat} : (stepV i k n).length = n := by unfold stepV; rw [List.length_map, List.length_range]
theorem size_step {i k : Int} {n : Nat} (hk : 0 < k) : Builtin.Range.rangeSize i (i + n * k) k = n := by
  unfold Builtin.Range.rangeSize
  rw [if_pos hk]
  cases n with
  | zero => rw [if_neg (by simp)]; rfl
  | succ m =>
    have e : ((m + 1 : Nat) : Int) * k = k + (m : Int) * k := by rw [show ((m + 1 : Nat) : Int) = 1 + m by omega, Int.add_mul, Int.one_mul]
    have hm : 0 ≤ (m : Int) * k := Int.mul_nonneg (by omega) (by omega)
    rw [if_pos (by omega), show i + ((m + 1 : Nat) : Int) * k - i - 1 = (k - 1) + (m : Int) * k by omega, Int.add_mul_ediv_right _ _ (by omega), Int.ediv_eq_zero_of_lt (by omega) (by omega)]
    omega
theorem small_step {i k : Int} {n : Nat} (hk : 0 < k) (k1 : k ≤ 1000000) (i0 : 0 ≤ i) (i1 : i ≤ 1000000) (hn : n ≤ 100000) : Builtin.Range.small i (i + n * k) k = true := by
  have h1 : (n : Int) * k ≤ 100000 * 1000000 := Int.mul_le_mul (by omega) k1 (by omega) (by omega)
  have h0 : 0 ≤ (n : Int) * k := Int.mul_nonneg (by omega) (by omega)
  unfold Builtin.Range.small
  rw [size_step hk]
  simp only [Builtin.Range.rangeFitsLong, Bool.and_eq_true, Bool.or_eq_true, decide_eq_true_eq, beq_iff_eq]
  have : k > 0 := hk
  simp only [this, if_true]
  generalize (n : Int) * k = z at h0 h1 ⊢
  refine ⟨⟨⟨⟨⟨by omega, by omega⟩, by omega, by omega⟩, by omega, by omega⟩, by omega, by omega⟩, .inr ?_⟩
  rw [decide_eq_true (by omega), decide_eq_true (by omega)]
  rfl
def tLstRg3 (ta : TA) : TE := fun σ H Q => ta σ H fun vs H1 => ∃ (i k : Int) (n : Nat), vs = [.int i, .int (i + n * k), .int k] ∧ 0 < k ∧ k ≤ 1000000 ∧ 0 ≤ i ∧ i ≤ 1000000 ∧ n ≤ 100000 ∧ ∀ q, H1 q = none → Q (.ref q) (upd H1 q (.lst (stepV i k n)))
theorem vals_step {i k : Int} {n : Nat} {acc : Array Value} (h : ItemsOf (fun j v => ∃ t, v = .int (i + j * k) t) acc n) : Vals (stepV i k n) acc.toList := by
  have e : acc.toList.length = n := by rw [Array.length_toList]; exact h.1
  unfold stepV
  rw [← e]
  refine vals_of_get acc.toList (fun j => V.int (i + (j : Nat) * k)) fun j u hj => ?_
  obtain ⟨t, rfl⟩ := h.2 j u (by rw [← hj, Array.getElem?_toList])
  exact ⟨t, rfl⟩
theorem pe_listRg3 {X : Cx} {a b c : Expr} {ta : TA} {p p2 pos pos2 : Pos} (hcalm : X.calm = true) (hl : Gl X "list") (ml : X.mg "list" = none) (hg : Gl X "range") (hm : X.mg "range" = none) (ha : PA X [a, b, c] ta)
    (hs : starEach [a, b, c] X.env = (false, eval a X.env) :: starEach [b, c] X.env := by rfl) (hpl : (backTo pos (starEach [b, c] X.env)).any (·.1) = false := by rfl)
    (na : starEach [Expr.Call (.Name "range" p) [a, b, c] [] pos] X.env = (false, eval (Expr.Call (.Name "range" p) [a, b, c] [] pos) X.env) :: starEach [] X.env := by rfl) :
    PE X (.Call (.Name "list" p2) [.Call (.Name "range" p) [a, b, c] [] pos] [] pos2) (tLstRg3 ta) := by
  refine ⟨fun pins s σ H Q I h => ?_⟩
  have hr : wpAny (model X.prog X.w) X.A (eval (Expr.Call (.Name "range" p) [a, b, c] [] pos) X.env)
      (fun x s' => ∃ r i k n t u v H', x = .ref r ∧ IsRange s'.heap r i (i + (n : Nat) * k) k t u v ∧ Inv X pins σ H' s' ∧ (0 < k ∧ k ≤ 1000000 ∧ 0 ≤ i ∧ i ≤ 1000000 ∧ n ≤ 100000) ∧ ∀ q, H' q = none → Q (.ref q) (upd H' q (.lst (stepV i k n)))) X.xe s := by
    refine Call_ (ld_blt I hg hm boot_range (PyProof.Rows.callWith_type1 (thn (ha.run pos pins s σ H _ I h) fun us s1 ⟨vs, H1, I1, r1, q1⟩ => ?_) hs hpl))
    obtain ⟨i, k, n, e, k0, k1, i0, i1, hn, q⟩ := q1
    subst e
    cases r1 with
    | cons x1 rr =>
      cases rr with
      | cons x2 rr =>
        cases rr with
        | cons x3 rr =>
          cases rr
          obtain ⟨t1, rfl⟩ := x1
          obtain ⟨t2, rfl⟩ := x2
          obtain ⟨t3, rfl⟩ := x3
          refine call_range_3 (show k ≠ 0 by omega) ?_ (.inl (PyProof.noPylong_small (by omega)))
          exact ⟨_, i, k, n, _, _, _, H1, rfl, IsRange.new _ _ _ _ _ _ _, I1.kept (t' := s1.toks) fun b u e => Heap.get?_push_of_some _ e, ⟨k0, k1, i0, i1, hn⟩, q⟩
  refine Call_ (ld_blt I hl ml boot_list (PyProof.Rows.callWith_type1 (args_cons (thn hr fun x s1 ⟨r, i, k, n, t, u, v, H1, ex, hrg, I1, ⟨k0, k1, i0, i1, hn⟩, q⟩ => args_nil ?_) na) na))
  subst ex
  refine call_list_range (n := n) (I1.ok.hd hcalm) hrg (small_step k0 k1 i0 i1 hn) (size_step k0) (by omega) fun h' tk acc c' hk e' hi => ?_
  refine ⟨.ref s1.heap.objs.size, upd H1 s1.heap.objs.size (.lst (stepV i k n)), I1.laid hk (Nat.le_refl _) (show ObjOk X.prog X.w _ _ _ (.lst (stepV i k n)) from ⟨?_, acc.toList, c', vals_step hi, ?_⟩), rfl, q _ (I1.hok.fresh (Nat.le_refl _))⟩
  · rw [stepV_len]; exact Nat.le_of_lt (small_sz (by omega))
  · rw [Array.toArray_toList]; exact e'
end LL

namespace LL
open PySem PySem.Spec PyProof.Rows L2
/-! ### the head, with the getters of properties -/
/-- a property of a class, its getter's text -/
structure PrD where
  cls : Str
  name : Str
  qual : Str
  params : PySem.Arguments
  body : List Stmt
  scope : Scope
def gAd (K : PySem.W.Frag) (c x : Str) : Addr := match PySem.W.recIn K (He.ma K (He.ga K c) x) "property" with
  | some (.ref g :: _) => g
  | _ => 0
def gW (K : PySem.W.Frag) (d : PrD) : He.FnW := match List.lookup (gAd K d.cls d.name) K with
  | some ⟨_, _, .func fd, _⟩ => some (fd.name, fd.qualname, fd.params, fd.body, fd.scope, fd.globals, fd.closure, fd.builtins)
  | _ => none
def PrD.val (d : PrD) : He.FnW := some (d.name, d.qual, d.params, .stmts d.body, d.scope, mainGlobals, [], builtinsNs)
def gFn (K : PySem.W.Frag) (d : PrD) : Bool := PySem.W.keepIn K (.ref (gAd K d.cls d.name)) && match List.lookup (gAd K d.cls d.name) K with
  | some ⟨_, _, .func fd, _⟩ => PySem.W.codeIn K fd.code d.qual && (He.dflB K fd.defaults [] && He.kwdB K fd.kwdefaults [])
  | _ => false
def gPr (K : PySem.W.Frag) (d : PrD) : Bool := He.eqO (PySem.W.findIn K (.ref (He.ga K d.cls)) d.name) (some (some (.ref (He.ma K (He.ga K d.cls) d.name)))) && (He.eqO (PySem.W.specialIn K (.ref (He.ma K (He.ga K d.cls) d.name)) "__get__") (some (some (.builtin "property.__get__"))) && ((match PySem.W.takesIn K (.ref (He.ma K (He.ga K d.cls) d.name)) with | some b => b | none => false) && match PySem.W.recIn K (He.ma K (He.ga K d.cls) d.name) "property" with
  | some (.ref _ :: _) => true
  | _ => false))
def PrD.ok (K : PySem.W.Frag) (d : PrD) : Bool := gFn K d && gPr K d
theorem PrD.funD {K : PySem.W.Frag} {d : PrD} (e : gW K d = d.val) (c : gFn K d = true) : ∃ fd, FunD K d.name d.qual d.params d.body d.scope [] [] (gAd K d.cls d.name) fd := by
  obtain ⟨kp, c2⟩ := He.ba c
  unfold gW PrD.val at e
  cases h : List.lookup (gAd K d.cls d.name) K with
  | none => rw [h] at c2; cases c2
  | some o =>
    rw [h] at e c2
    obtain ⟨oc, od, dt, osl⟩ := o
    cases dt with
    | func fd =>
      obtain ⟨c3, c4⟩ := He.ba c2
      obtain ⟨c5, c6⟩ := He.ba c4
      obtain ⟨n, q, p, b, sc, gl, cl, dV, kV, doc, pm, an, cdv, ct, bi⟩ := fd
      simp only [Option.some.injEq, Prod.mk.injEq] at e
      obtain ⟨rfl, rfl, rfl, rfl, rfl, rfl, rfl, rfl⟩ := e
      exact ⟨_, ⟨⟨oc, od, dV, kV, doc, pm, an, cdv, ct, osl, rfl, h, c3, He.dflB_ok c5, He.kwdB_ok c6⟩, kp⟩⟩
    | _ => cases c2
theorem PrD.prop {K : PySem.W.Frag} {d : PrD} (c : gPr K d = true) : PropOf K (He.ga K d.cls) d.name (He.ma K (He.ga K d.cls) d.name) (gAd K d.cls d.name) := by
  obtain ⟨c1, c2⟩ := He.ba c
  obtain ⟨c2, c3⟩ := He.ba c2
  obtain ⟨c3, c4⟩ := He.ba c3
  refine ⟨He.eqO_ok c1, He.eqO_ok c2, ?_, ?_⟩
  · cases h : PySem.W.takesIn K (.ref (He.ma K (He.ga K d.cls) d.name)) with
    | none => rw [h] at c3; cases c3
    | some b => rw [h] at c3; rw [show b = true from c3]
  · unfold gAd
    cases h : PySem.W.recIn K (He.ma K (He.ga K d.cls) d.name) "property" with
    | none => rw [h] at c4; cases c4
    | some l =>
      rw [h] at c4
      cases l with
      | nil => cases c4
      | cons v r =>
        cases v with
        | ref g => exact ⟨r, rfl⟩
        | _ => cases c4
abbrev AlP : Type := (He.AlD × Bool) × List He.FnW
def obsP (n : Nat) (fa : List He.Fa) (fn : List He.DefD) (pr : List PrD) (ex : PySem.W.Frag → Bool) (g : Addr → Option Obj) : AlP := ((He.obsD fa fn (He.frG g (He.asD g n)), ex (He.frG g (He.asD g n)) && pr.all fun d => d.ok (He.frG g (He.asD g n))), pr.map fun d => gW (He.frG g (He.asD g n)) d)
structure SaysP (fa : List He.Fa) (fn : List He.DefD) (pr : List PrD) (ex : PySem.W.Frag → Bool) (K : PySem.W.Frag) : Prop where
  d : He.SaysD fa fn K
  x : (ex K && pr.all fun d => d.ok K) = true
  w : (pr.map fun d => gW K d) = pr.map PrD.val
def hookP (n : Nat) (fa : List He.Fa) (fn : List He.DefD) (pr : List PrD) (ex : PySem.W.Frag → Bool) : PySem.W.Hook where
  α := AlP
  obs := fun s => obsP n fa fn pr ex s.heap.get?
  val := fun _ => ((He.valD fn, true), pr.map PrD.val)
  says := fun _ h => ∃ K : PySem.W.Frag, K.In h ∧ SaysP fa fn pr ex K
  of := fun _ _ e => ⟨_, He.frG_in, ⟨congrArg (fun z : AlP => z.1.1) e, congrArg (fun z : AlP => z.1.2) e, congrArg (fun z : AlP => z.2) e⟩⟩
  keeps := fun _ _ _ ⟨K, hK, c⟩ k => ⟨K, PySem.W.Frag.In.keeps hK k, c⟩
theorem obsP_eq {n : Nat} {fa : List He.Fa} {fn : List He.DefD} {pr : List PrD} {ex : PySem.W.Frag → Bool} {g : Addr → Option Obj} {s : Shared} (h : ∀ a, g a = s.heap.get? a) : obsP n fa fn pr ex g = (hookP n fa fn pr ex).obs s := by
  have e : g = s.heap.get? := funext h
  rw [e]
  rfl
theorem SaysP.y {fa : List He.Fa} {fn : List He.DefD} {pr : List PrD} {ex : PySem.W.Frag → Bool} {K : PySem.W.Frag} (c : SaysP fa fn pr ex K) : SaysY fa fn ex K := ⟨c.d, (Bool.and_eq_true_iff.mp c.x).1⟩
theorem SaysP.pr {fa : List He.Fa} {fn : List He.DefD} {pr : List PrD} {ex : PySem.W.Frag → Bool} {K : PySem.W.Frag} (c : SaysP fa fn pr ex K) (i : Nat) {d : PrD} (h : pr[i]? = some d := by rfl) : (∃ fd, FunD K d.name d.qual d.params d.body d.scope [] [] (gAd K d.cls d.name) fd) ∧ PropOf K (He.ga K d.cls) d.name (He.ma K (He.ga K d.cls) d.name) (gAd K d.cls d.name) := by
  have h1 := List.all_eq_true.mp (Bool.and_eq_true_iff.mp c.x).2 d (List.mem_of_getElem? h)
  obtain ⟨h2, h3⟩ := He.ba h1
  refine ⟨PrD.funD ?_ h2, PrD.prop h3⟩
  have e := congrArg (fun l => l[i]?) c.w
  simp only [List.getElem?_map, h, Option.map_some, Option.some.injEq] at e
  exact e
end LL

namespace LL
open PySem PySem.W PySem.Calls PyProof.Rows HandSHeadRun
/-- one look of the run's end -/
def RunOne {β : Type} (r : OpenRow) (M : Nat) (f : SharedT → β) (v : β) (w : World) : Prop :=
  ∀ os : OsState, (endF (stepQ (denQ tabQ) r.prog w) M r.prog w os).map f = some v
/-- the look without the hook -/
def RunA (r : OpenRow) (q : Program) (M : Nat) (loose : List PySem.Str) (w : World) : Prop :=
  ∀ os : OsState, (endF (stepQ (denQ tabQ) r.prog w) M r.prog w os).map (fun s => (looksF r.prog (boot_heap w.params) s.abs, HandSHeadRun.seenQ q loose (importedModules r.prog.main.body) (fun s => xlAt q [] s && recOk r.toRowW.records s) s.abs)) = some (true, openGood q loose)
theorem opt_three {α β γ δ : Type} {x : Option α} {f : α → β × γ} {h : α → δ} {b : β} {c : γ} {d : δ} (h1 : x.map f = some (b, c)) (h3 : x.map h = some d) : x.map (fun s => ((f s).1, (f s).2, h s)) = some (b, c, d) := by
  cases x with
  | none => cases h1
  | some s => simp only [Option.map_some, Option.some.injEq] at h1 h3 ⊢; rw [h1, h3]
theorem opt_two {α β γ δ : Type} {x : Option α} {f : α → β} {g : α → γ} {g' : α → δ} {b : β} {c : γ} {d : δ} (h1 : x.map f = some b) (h2 : x.map (fun s => (g s, g' s)) = some (c, d)) : x.map (fun s => ((f s, g s), g' s)) = some ((b, c), d) := by
  cases x with
  | none => cases h1
  | some s => simp only [Option.map_some, Option.some.injEq, Prod.mk.injEq] at h1 h2 ⊢; rw [h1, h2.1, h2.2]; exact ⟨⟨rfl, rfl⟩, rfl⟩
/-- the run's equation from three looks of it -/
theorem run_parts {r : OpenRow} {q : Program} {M n : Nat} {loose : List PySem.Str} {w : World} {fa : List He.Fa} {fn : List He.DefD} {pr : List PrD} {ex : PySem.W.Frag → Bool}
    (h1 : RunA r q M loose w)
    (h2 : RunOne r M (fun s => He.obsD fa fn (He.frG (getT s) (He.asD (getT s) n))) (He.valD fn) w)
    (h3 : RunOne r M (fun s => ((ex (He.frG (getT s) (He.asD (getT s) n)) && pr.all fun d => d.ok (He.frG (getT s) (He.asD (getT s) n))), pr.map fun d => gW (He.frG (getT s) (He.asD (getT s) n)) d)) (true, pr.map PrD.val) w) :
    RunEq r q (hookP n fa fn pr ex) (fun s => obsP n fa fn pr ex (getT s)) M loose w := fun os =>
  opt_three (h1 os) (opt_two (h2 os) (h3 os))
end LL

namespace K12
open PySem PySem.Spec PyProof.Rows L2 LL
noncomputable def top (i : Nat) : Stmt := PySem.Challenge.pw_allgivenback_k12_nested_cancel.main.body.getD i (.Pass ⟨0, 0, 0, 0⟩)
noncomputable abbrev FnP (K : PySem.W.Frag) (x : Str) (st : Stmt) (f : Addr) (fd : FuncData) : Prop := FunD K x x (defArgs st) (defBody st) (defScope st) [] [] f fd
noncomputable def p_BadValue : { s : Stmt // inClass (top 7) 0 = s } := by
  refine ⟨?s, ?h⟩
  case h => conv => lhs; whnf
noncomputable abbrev s_BadValue : Stmt := p_BadValue.1
noncomputable abbrev P_BadValue : List Str := ["self", "parameter"]
theorem sc_BadValue : FnScope P_BadValue P_BadValue (defScope s_BadValue) := ⟨rfl, rfl, rfl, by decide +kernel, rfl, by decide +kernel, by decide +kernel⟩
noncomputable abbrev aBV (K : PySem.W.Frag) : Addr := He.ga K "BadValue"
noncomputable abbrev iBV (K : PySem.W.Frag) : Addr := He.ma K (He.ga K "BadValue") "__init__"
noncomputable def p_Broken : { s : Stmt // inClass (top 8) 0 = s } := by
  refine ⟨?s, ?h⟩
  case h => conv => lhs; whnf
noncomputable abbrev s_Broken : Stmt := p_Broken.1
noncomputable abbrev P_Broken : List Str := ["self", "place", "found", "due"]
theorem sc_Broken : FnScope P_Broken P_Broken (defScope s_Broken) := ⟨rfl, rfl, rfl, by decide +kernel, rfl, by decide +kernel, by decide +kernel⟩
noncomputable def p_Unknown : { s : Stmt // inClass (top 9) 0 = s } := by
  refine ⟨?s, ?h⟩
  case h => conv => lhs; whnf
noncomputable abbrev s_Unknown : Stmt := p_Unknown.1
noncomputable abbrev P_Unknown : List Str := ["self", "parameter"]
theorem sc_Unknown : FnScope P_Unknown P_Unknown (defScope s_Unknown) := ⟨rfl, rfl, rfl, by decide +kernel, rfl, by decide +kernel, by decide +kernel⟩
noncomputable def p_NotHeld : { s : Stmt // inClass (top 10) 0 = s } := by
  refine ⟨?s, ?h⟩
  case h => conv => lhs; whnf
noncomputable abbrev s_NotHeld : Stmt := p_NotHeld.1
noncomputable abbrev P_NotHeld : List Str := ["self", "place", "found"]
theorem sc_NotHeld : FnScope P_NotHeld P_NotHeld (defScope s_NotHeld) := ⟨rfl, rfl, rfl, by decide +kernel, rfl, by decide +kernel, by decide +kernel⟩
noncomputable def p_Cut : { s : Stmt // inClass (top 13) 0 = s } := by
  refine ⟨?s, ?h⟩
  case h => conv => lhs; whnf
noncomputable abbrev s_Cut : Stmt := p_Cut.1
noncomputable abbrev P_Cut : List Str := ["self", "needed", "left"]
theorem sc_Cut : FnScope P_Cut P_Cut (defScope s_Cut) := ⟨rfl, rfl, rfl, by decide +kernel, rfl, by decide +kernel, by decide +kernel⟩
noncomputable def p_Ground_init : { s : Stmt // inClass (top 28) 0 = s } := by
  refine ⟨?s, ?h⟩
  case h => conv => lhs; whnf
noncomputable abbrev s_Ground_init : Stmt := p_Ground_init.1
noncomputable abbrev N_Ground_init : List Str := ["self", "pages", "width", "fill", "budget"]
noncomputable abbrev P_Ground_init : List Str := ["self", "pages", "width", "fill", "budget"]
theorem sc_Ground_init : FnScope N_Ground_init P_Ground_init (defScope s_Ground_init) := ⟨rfl, rfl, rfl, by decide +kernel, rfl, by decide +kernel, by decide +kernel⟩
noncomputable def p_Ground_need_place : { s : Stmt // inClass (top 28) 6 = s } := by
  refine ⟨?s, ?h⟩
  case h => conv => lhs; whnf
noncomputable abbrev s_Ground_need_place : Stmt := p_Ground_need_place.1
noncomputable abbrev N_Ground_need_place : List Str := ["self", "place"]
noncomputable abbrev P_Ground_need_place : List Str := ["self", "place"]
theorem sc_Ground_need_place : FnScope N_Ground_need_place P_Ground_need_place (defScope s_Ground_need_place) := ⟨rfl, rfl, rfl, by decide +kernel, rfl, by decide +kernel, by decide +kernel⟩
noncomputable def p_Ground_read : { s : Stmt // inClass (top 28) 9 = s } := by
  refine ⟨?s, ?h⟩
  case h => conv => lhs; whnf
noncomputable abbrev s_Ground_read : Stmt := p_Ground_read.1
noncomputable abbrev N_Ground_read : List Str := ["self", "place", "holder"]
noncomputable abbrev P_Ground_read : List Str := ["self", "place", "holder"]
theorem sc_Ground_read : FnScope N_Ground_read P_Ground_read (defScope s_Ground_read) := ⟨rfl, rfl, rfl, by decide +kernel, rfl, by decide +kernel, by decide +kernel⟩
noncomputable def p_Ground_write : { s : Stmt // inClass (top 28) 10 = s } := by
  refine ⟨?s, ?h⟩
  case h => conv => lhs; whnf
noncomputable abbrev s_Ground_write : Stmt := p_Ground_write.1
noncomputable abbrev N_Ground_write : List Str := ["self", "place", "word", "holder"]
noncomputable abbrev P_Ground_write : List Str := ["self", "place", "word", "holder"]
theorem sc_Ground_write : FnScope N_Ground_write P_Ground_write (defScope s_Ground_write) := ⟨rfl, rfl, rfl, by decide +kernel, rfl, by decide +kernel, by decide +kernel⟩
noncomputable def p_Ground_poke : { s : Stmt // inClass (top 28) 13 = s } := by
  refine ⟨?s, ?h⟩
  case h => conv => lhs; whnf
noncomputable abbrev s_Ground_poke : Stmt := p_Ground_poke.1
noncomputable abbrev N_Ground_poke : List Str := ["self", "place", "word"]
noncomputable abbrev P_Ground_poke : List Str := ["self", "place", "word"]
theorem sc_Ground_poke : FnScope N_Ground_poke P_Ground_poke (defScope s_Ground_poke) := ⟨rfl, rfl, rfl, by decide +kernel, rfl, by decide +kernel, by decide +kernel⟩
noncomputable def p_Ground_pass_on : { s : Stmt // inClass (top 28) 14 = s } := by
  refine ⟨?s, ?h⟩
  case h => conv => lhs; whnf
noncomputable abbrev s_Ground_pass_on : Stmt := p_Ground_pass_on.1
noncomputable abbrev N_Ground_pass_on : List Str := ["self", "start", "size", "giver", "taker", "end", "place", "word"]
noncomputable abbrev P_Ground_pass_on : List Str := ["self", "start", "size", "giver", "taker"]
theorem sc_Ground_pass_on : FnScope N_Ground_pass_on P_Ground_pass_on (defScope s_Ground_pass_on) := ⟨rfl, rfl, rfl, by decide +kernel, rfl, by decide +kernel, by decide +kernel⟩
noncomputable def p_Ground_need_fill : { s : Stmt // inClass (top 28) 15 = s } := by
  refine ⟨?s, ?h⟩
  case h => conv => lhs; whnf
noncomputable abbrev s_Ground_need_fill : Stmt := p_Ground_need_fill.1
noncomputable abbrev N_Ground_need_fill : List Str := ["self", "start", "end", "place"]
noncomputable abbrev P_Ground_need_fill : List Str := ["self", "start", "end"]
theorem sc_Ground_need_fill : FnScope N_Ground_need_fill P_Ground_need_fill (defScope s_Ground_need_fill) := ⟨rfl, rfl, rfl, by decide +kernel, rfl, by decide +kernel, by decide +kernel⟩
noncomputable def p_Ground_need_held : { s : Stmt // inClass (top 28) 16 = s } := by
  refine ⟨?s, ?h⟩
  case h => conv => lhs; whnf
noncomputable abbrev s_Ground_need_held : Stmt := p_Ground_need_held.1
noncomputable abbrev N_Ground_need_held : List Str := ["self", "start", "end", "holder", "place"]
noncomputable abbrev P_Ground_need_held : List Str := ["self", "start", "end", "holder"]
theorem sc_Ground_need_held : FnScope N_Ground_need_held P_Ground_need_held (defScope s_Ground_need_held) := ⟨rfl, rfl, rfl, by decide +kernel, rfl, by decide +kernel, by decide +kernel⟩
noncomputable def p_Ground_image : { s : Stmt // inClass (top 28) 18 = s } := by
  refine ⟨?s, ?h⟩
  case h => conv => lhs; whnf
noncomputable abbrev s_Ground_image : Stmt := p_Ground_image.1
noncomputable abbrev N_Ground_image : List Str := ["self"]
noncomputable abbrev P_Ground_image : List Str := ["self"]
theorem sc_Ground_image : FnScope N_Ground_image P_Ground_image (defScope s_Ground_image) := ⟨rfl, rfl, rfl, by decide +kernel, rfl, by decide +kernel, by decide +kernel⟩
noncomputable def p_Ground_begin : { s : Stmt // inClass (top 28) 19 = s } := by
  refine ⟨?s, ?h⟩
  case h => conv => lhs; whnf
noncomputable abbrev s_Ground_begin : Stmt := p_Ground_begin.1
noncomputable abbrev N_Ground_begin : List Str := ["self"]
noncomputable abbrev P_Ground_begin : List Str := ["self"]
theorem sc_Ground_begin : FnScope N_Ground_begin P_Ground_begin (defScope s_Ground_begin) := ⟨rfl, rfl, rfl, by decide +kernel, rfl, by decide +kernel, by decide +kernel⟩
noncomputable def p_Ground_commit : { s : Stmt // inClass (top 28) 20 = s } := by
  refine ⟨?s, ?h⟩
  case h => conv => lhs; whnf
noncomputable abbrev s_Ground_commit : Stmt := p_Ground_commit.1
noncomputable abbrev N_Ground_commit : List Str := ["self", "cost", "inner"]
noncomputable abbrev P_Ground_commit : List Str := ["self"]
theorem sc_Ground_commit : FnScope N_Ground_commit P_Ground_commit (defScope s_Ground_commit) := ⟨rfl, rfl, rfl, by decide +kernel, rfl, by decide +kernel, by decide +kernel⟩
noncomputable def p_Ground_cancel : { s : Stmt // inClass (top 28) 21 = s } := by
  refine ⟨?s, ?h⟩
  case h => conv => lhs; whnf
noncomputable abbrev s_Ground_cancel : Stmt := p_Ground_cancel.1
noncomputable abbrev N_Ground_cancel : List Str := ["self", "deed", "place", "word", "holder"]
noncomputable abbrev P_Ground_cancel : List Str := ["self"]
theorem sc_Ground_cancel : FnScope N_Ground_cancel P_Ground_cancel (defScope s_Ground_cancel) := ⟨rfl, rfl, rfl, by decide +kernel, rfl, by decide +kernel, by decide +kernel⟩
noncomputable def p_Ground_change : { s : Stmt // inClass (top 28) 23 = s } := by
  refine ⟨?s, ?h⟩
  case h => conv => lhs; whnf
noncomputable abbrev s_Ground_change : Stmt := p_Ground_change.1
noncomputable abbrev N_Ground_change : List Str := ["self", "place", "word", "holder", "deed"]
noncomputable abbrev P_Ground_change : List Str := ["self", "place", "word", "holder"]
theorem sc_Ground_change : FnScope N_Ground_change P_Ground_change (defScope s_Ground_change) := ⟨rfl, rfl, rfl, by decide +kernel, rfl, by decide +kernel, by decide +kernel⟩
noncomputable def p_Ground_cost : { s : Stmt // inClass (top 28) 24 = s } := by
  refine ⟨?s, ?h⟩
  case h => conv => lhs; whnf
noncomputable abbrev s_Ground_cost : Stmt := p_Ground_cost.1
noncomputable abbrev N_Ground_cost : List Str := ["self", "deed", "cost", "place", "word", "holder"]
noncomputable abbrev P_Ground_cost : List Str := ["self"]
theorem sc_Ground_cost : FnScope N_Ground_cost P_Ground_cost (defScope s_Ground_cost) := ⟨rfl, rfl, rfl, by decide +kernel, rfl, by decide +kernel, by decide +kernel⟩
noncomputable def p_Ground_pass_out : { s : Stmt // inClass (top 28) 25 = s } := by
  refine ⟨?s, ?h⟩
  case h => conv => lhs; whnf
noncomputable abbrev s_Ground_pass_out : Stmt := p_Ground_pass_out.1
noncomputable abbrev N_Ground_pass_out : List Str := ["self", "inner", "outer", "place", "before"]
noncomputable abbrev P_Ground_pass_out : List Str := ["self", "inner"]
theorem sc_Ground_pass_out : FnScope N_Ground_pass_out P_Ground_pass_out (defScope s_Ground_pass_out) := ⟨rfl, rfl, rfl, by decide +kernel, rfl, by decide +kernel, by decide +kernel⟩
noncomputable def p_Ground_charge : { s : Stmt // inClass (top 28) 26 = s } := by
  refine ⟨?s, ?h⟩
  case h => conv => lhs; whnf
noncomputable abbrev s_Ground_charge : Stmt := p_Ground_charge.1
noncomputable abbrev N_Ground_charge : List Str := ["self", "cost", "left"]
noncomputable abbrev P_Ground_charge : List Str := ["self", "cost"]
theorem sc_Ground_charge : FnScope N_Ground_charge P_Ground_charge (defScope s_Ground_charge) := ⟨rfl, rfl, rfl, by decide +kernel, rfl, by decide +kernel, by decide +kernel⟩
noncomputable def p_Ground_top : { s : Stmt // inClass (top 28) 1 = s } := by
  refine ⟨?s, ?h⟩
  case h => conv => lhs; whnf
noncomputable abbrev s_Ground_top : Stmt := p_Ground_top.1
noncomputable abbrev N_Ground_top : List Str := ["self"]
noncomputable abbrev P_Ground_top : List Str := ["self"]
theorem sc_Ground_top : FnScope N_Ground_top P_Ground_top (defScope s_Ground_top) := ⟨rfl, rfl, rfl, by decide +kernel, rfl, by decide +kernel, by decide +kernel⟩
noncomputable def p_Ground_spent : { s : Stmt // inClass (top 28) 2 = s } := by
  refine ⟨?s, ?h⟩
  case h => conv => lhs; whnf
noncomputable abbrev s_Ground_spent : Stmt := p_Ground_spent.1
noncomputable abbrev N_Ground_spent : List Str := ["self"]
noncomputable abbrev P_Ground_spent : List Str := ["self"]
theorem sc_Ground_spent : FnScope N_Ground_spent P_Ground_spent (defScope s_Ground_spent) := ⟨rfl, rfl, rfl, by decide +kernel, rfl, by decide +kernel, by decide +kernel⟩
noncomputable def p_Ground_depth : { s : Stmt // inClass (top 28) 3 = s } := by
  refine ⟨?s, ?h⟩
  case h => conv => lhs; whnf
noncomputable abbrev s_Ground_depth : Stmt := p_Ground_depth.1
noncomputable abbrev N_Ground_depth : List Str := ["self"]
noncomputable abbrev P_Ground_depth : List Str := ["self"]
theorem sc_Ground_depth : FnScope N_Ground_depth P_Ground_depth (defScope s_Ground_depth) := ⟨rfl, rfl, rfl, by decide +kernel, rfl, by decide +kernel, by decide +kernel⟩
noncomputable def p_Ground_budget : { s : Stmt // inClass (top 28) 4 = s } := by
  refine ⟨?s, ?h⟩
  case h => conv => lhs; whnf
noncomputable abbrev s_Ground_budget : Stmt := p_Ground_budget.1
noncomputable abbrev N_Ground_budget : List Str := ["self"]
noncomputable abbrev P_Ground_budget : List Str := ["self"]
theorem sc_Ground_budget : FnScope N_Ground_budget P_Ground_budget (defScope s_Ground_budget) := ⟨rfl, rfl, rfl, by decide +kernel, rfl, by decide +kernel, by decide +kernel⟩
noncomputable def p_wall : { s : Stmt // top 0 = s } := by
  refine ⟨?s, ?h⟩
  case h => conv => lhs; whnf
noncomputable abbrev s_wall : Stmt := p_wall.1
noncomputable abbrev N_wall : List Str := ["k"]
noncomputable abbrev P_wall : List Str := ["k"]
theorem sc_wall : FnScope N_wall P_wall (defScope s_wall) := ⟨rfl, rfl, rfl, by decide +kernel, rfl, by decide +kernel, by decide +kernel⟩
noncomputable def p_is_whole : { s : Stmt // top 15 = s } := by
  refine ⟨?s, ?h⟩
  case h => conv => lhs; whnf
noncomputable abbrev s_is_whole : Stmt := p_is_whole.1
noncomputable abbrev N_is_whole : List Str := ["value"]
noncomputable abbrev P_is_whole : List Str := ["value"]
theorem sc_is_whole : FnScope N_is_whole P_is_whole (defScope s_is_whole) := ⟨rfl, rfl, rfl, by decide +kernel, rfl, by decide +kernel, by decide +kernel⟩
noncomputable def p_is_holder : { s : Stmt // top 16 = s } := by
  refine ⟨?s, ?h⟩
  case h => conv => lhs; whnf
noncomputable abbrev s_is_holder : Stmt := p_is_holder.1
noncomputable abbrev N_is_holder : List Str := ["value"]
noncomputable abbrev P_is_holder : List Str := ["value"]
theorem sc_is_holder : FnScope N_is_holder P_is_holder (defScope s_is_holder) := ⟨rfl, rfl, rfl, by decide +kernel, rfl, by decide +kernel, by decide +kernel⟩
noncomputable def p_need : { s : Stmt // top 18 = s } := by
  refine ⟨?s, ?h⟩
  case h => conv => lhs; whnf
noncomputable abbrev s_need : Stmt := p_need.1
noncomputable abbrev N_need : List Str := ["holds", "parameter"]
noncomputable abbrev P_need : List Str := ["holds", "parameter"]
theorem sc_need : FnScope N_need P_need (defScope s_need) := ⟨rfl, rfl, rfl, by decide +kernel, rfl, by decide +kernel, by decide +kernel⟩
noncomputable def p_need_whole : { s : Stmt // top 19 = s } := by
  refine ⟨?s, ?h⟩
  case h => conv => lhs; whnf
noncomputable abbrev s_need_whole : Stmt := p_need_whole.1
noncomputable abbrev N_need_whole : List Str := ["value", "low", "high", "parameter"]
noncomputable abbrev P_need_whole : List Str := ["value", "low", "high", "parameter"]
theorem sc_need_whole : FnScope N_need_whole P_need_whole (defScope s_need_whole) := ⟨rfl, rfl, rfl, by decide +kernel, rfl, by decide +kernel, by decide +kernel⟩
noncomputable def p_is_word : { s : Stmt // top 20 = s } := by
  refine ⟨?s, ?h⟩
  case h => conv => lhs; whnf
noncomputable abbrev s_is_word : Stmt := p_is_word.1
noncomputable abbrev N_is_word : List Str := ["value"]
noncomputable abbrev P_is_word : List Str := ["value"]
theorem sc_is_word : FnScope N_is_word P_is_word (defScope s_is_word) := ⟨rfl, rfl, rfl, by decide +kernel, rfl, by decide +kernel, by decide +kernel⟩
noncomputable def p_is_width : { s : Stmt // top 24 = s } := by
  refine ⟨?s, ?h⟩
  case h => conv => lhs; whnf
noncomputable abbrev s_is_width : Stmt := p_is_width.1
noncomputable abbrev N_is_width : List Str := ["value"]
noncomputable abbrev P_is_width : List Str := ["value"]
theorem sc_is_width : FnScope N_is_width P_is_width (defScope s_is_width) := ⟨rfl, rfl, rfl, by decide +kernel, rfl, by decide +kernel, by decide +kernel⟩
noncomputable def p_is_budget : { s : Stmt // top 27 = s } := by
  refine ⟨?s, ?h⟩
  case h => conv => lhs; whnf
noncomputable abbrev s_is_budget : Stmt := p_is_budget.1
noncomputable abbrev N_is_budget : List Str := ["value"]
noncomputable abbrev P_is_budget : List Str := ["value"]
theorem sc_is_budget : FnScope N_is_budget P_is_budget (defScope s_is_budget) := ⟨rfl, rfl, rfl, by decide +kernel, rfl, by decide +kernel, by decide +kernel⟩
noncomputable def p_law_draws : { s : Stmt // top 30 = s } := by
  refine ⟨?s, ?h⟩
  case h => conv => lhs; whnf
noncomputable abbrev s_law_draws : Stmt := p_law_draws.1
noncomputable abbrev N_law_draws : List Str := ["_law_script", "_law_cell"]
noncomputable abbrev P_law_draws : List Str := ["_law_script"]
theorem sc_law_draws : FnScope N_law_draws P_law_draws (defScope s_law_draws) := ⟨rfl, rfl, rfl, by decide +kernel, rfl, by decide +kernel, by decide +kernel⟩
noncomputable def p_law_next_cell : { s : Stmt // top 31 = s } := by
  refine ⟨?s, ?h⟩
  case h => conv => lhs; whnf
noncomputable abbrev s_law_next_cell : Stmt := p_law_next_cell.1
noncomputable abbrev N_law_next_cell : List Str := ["_law_draws_here", "_law_cells", "_law_state", "_law_cell"]
noncomputable abbrev P_law_next_cell : List Str := ["_law_draws_here"]
theorem sc_law_next_cell : FnScope N_law_next_cell P_law_next_cell (defScope s_law_next_cell) := ⟨rfl, rfl, rfl, by decide +kernel, rfl, by decide +kernel, by decide +kernel⟩
noncomputable def p_law_mixed : { s : Stmt // top 32 = s } := by
  refine ⟨?s, ?h⟩
  case h => conv => lhs; whnf
noncomputable abbrev s_law_mixed : Stmt := p_law_mixed.1
noncomputable abbrev N_law_mixed : List Str := ["_law_seed", "_law_turn", "_law_many", "_law_value", "_law_k", "_law_first", "_law_second"]
noncomputable abbrev P_law_mixed : List Str := ["_law_seed", "_law_turn", "_law_many"]
theorem sc_law_mixed : FnScope N_law_mixed P_law_mixed (defScope s_law_mixed) := ⟨rfl, rfl, rfl, by decide +kernel, rfl, by decide +kernel, by decide +kernel⟩
noncomputable def p_law_take : { s : Stmt // top 33 = s } := by
  refine ⟨?s, ?h⟩
  case h => conv => lhs; whnf
noncomputable abbrev s_law_take : Stmt := p_law_take.1
noncomputable abbrev N_law_take : List Str := ["_law_draws_here", "_law_many", "_law_state", "_law_value"]
noncomputable abbrev P_law_take : List Str := ["_law_draws_here", "_law_many"]
theorem sc_law_take : FnScope N_law_take P_law_take (defScope s_law_take) := ⟨rfl, rfl, rfl, by decide +kernel, rfl, by decide +kernel, by decide +kernel⟩
noncomputable def p_law_among : { s : Stmt // top 34 = s } := by
  refine ⟨?s, ?h⟩
  case h => conv => lhs; whnf
noncomputable abbrev s_law_among : Stmt := p_law_among.1
noncomputable abbrev N_law_among : List Str := ["_law_draws_here", "_law_row"]
noncomputable abbrev P_law_among : List Str := ["_law_draws_here", "_law_row"]
theorem sc_law_among : FnScope N_law_among P_law_among (defScope s_law_among) := ⟨rfl, rfl, rfl, by decide +kernel, rfl, by decide +kernel, by decide +kernel⟩
noncomputable def p_law_between : { s : Stmt // top 35 = s } := by
  refine ⟨?s, ?h⟩
  case h => conv => lhs; whnf
noncomputable abbrev s_law_between : Stmt := p_law_between.1
noncomputable abbrev N_law_between : List Str := ["_law_draws_here", "_law_low", "_law_high", "_law_kind"]
noncomputable abbrev P_law_between : List Str := ["_law_draws_here", "_law_low", "_law_high"]
theorem sc_law_between : FnScope N_law_between P_law_between (defScope s_law_between) := ⟨rfl, rfl, rfl, by decide +kernel, rfl, by decide +kernel, by decide +kernel⟩
noncomputable def p_law_count : { s : Stmt // top 36 = s } := by
  refine ⟨?s, ?h⟩
  case h => conv => lhs; whnf
noncomputable abbrev s_law_count : Stmt := p_law_count.1
noncomputable abbrev N_law_count : List Str := ["_law_draws_here", "_law_small", "_law_great"]
noncomputable abbrev P_law_count : List Str := ["_law_draws_here", "_law_small", "_law_great"]
theorem sc_law_count : FnScope N_law_count P_law_count (defScope s_law_count) := ⟨rfl, rfl, rfl, by decide +kernel, rfl, by decide +kernel, by decide +kernel⟩
noncomputable def p_law_same : { s : Stmt // top 37 = s } := by
  refine ⟨?s, ?h⟩
  case h => conv => lhs; whnf
noncomputable abbrev s_law_same : Stmt := p_law_same.1
noncomputable abbrev N_law_same : List Str := ["_law_actual", "_law_expected", "_law_k", "_law_key"]
noncomputable abbrev P_law_same : List Str := ["_law_actual", "_law_expected"]
theorem sc_law_same : FnScope N_law_same P_law_same (defScope s_law_same) := ⟨rfl, rfl, rfl, by decide +kernel, rfl, by decide +kernel, by decide +kernel⟩
noncomputable def p_law_holders : { s : Stmt // top 38 = s } := by
  refine ⟨?s, ?h⟩
  case h => conv => lhs; whnf
noncomputable abbrev s_law_holders : Stmt := p_law_holders.1
noncomputable abbrev N_law_holders : List Str := []
noncomputable abbrev P_law_holders : List Str := []
theorem sc_law_holders : FnScope N_law_holders P_law_holders (defScope s_law_holders) := ⟨rfl, rfl, rfl, by decide +kernel, rfl, by decide +kernel, by decide +kernel⟩
noncomputable def p_law_holder : { s : Stmt // top 39 = s } := by
  refine ⟨?s, ?h⟩
  case h => conv => lhs; whnf
noncomputable abbrev s_law_holder : Stmt := p_law_holder.1
noncomputable abbrev N_law_holder : List Str := ["_law_draws_here"]
noncomputable abbrev P_law_holder : List Str := ["_law_draws_here"]
theorem sc_law_holder : FnScope N_law_holder P_law_holder (defScope s_law_holder) := ⟨rfl, rfl, rfl, by decide +kernel, rfl, by decide +kernel, by decide +kernel⟩
noncomputable def p_law_word : { s : Stmt // top 40 = s } := by
  refine ⟨?s, ?h⟩
  case h => conv => lhs; whnf
noncomputable abbrev s_law_word : Stmt := p_law_word.1
noncomputable abbrev N_law_word : List Str := ["_law_draws_here", "_law_blank_here", "_law_kind"]
noncomputable abbrev P_law_word : List Str := ["_law_draws_here", "_law_blank_here"]
theorem sc_law_word : FnScope N_law_word P_law_word (defScope s_law_word) := ⟨rfl, rfl, rfl, by decide +kernel, rfl, by decide +kernel, by decide +kernel⟩
noncomputable def p_law_blank : { s : Stmt // top 41 = s } := by
  refine ⟨?s, ?h⟩
  case h => conv => lhs; whnf
noncomputable abbrev s_law_blank : Stmt := p_law_blank.1
noncomputable abbrev N_law_blank : List Str := ["_law_draws_here", "_law_kind"]
noncomputable abbrev P_law_blank : List Str := ["_law_draws_here"]
theorem sc_law_blank : FnScope N_law_blank P_law_blank (defScope s_law_blank) := ⟨rfl, rfl, rfl, by decide +kernel, rfl, by decide +kernel, by decide +kernel⟩
noncomputable def p_law_ground_deed : { s : Stmt // top 42 = s } := by
  refine ⟨?s, ?h⟩
  case h => conv => lhs; whnf
noncomputable abbrev s_law_ground_deed : Stmt := p_law_ground_deed.1
noncomputable abbrev N_law_ground_deed : List Str := ["_law_draws_here", "_law_words", "_law_holders_here", "_law_blank_here", "_law_at", "_law_holder_here", "_law_kind", "_law_size"]
noncomputable abbrev P_law_ground_deed : List Str := ["_law_draws_here", "_law_words", "_law_holders_here", "_law_blank_here"]
theorem sc_law_ground_deed : FnScope N_law_ground_deed P_law_ground_deed (defScope s_law_ground_deed) := ⟨rfl, rfl, rfl, by decide +kernel, rfl, by decide +kernel, by decide +kernel⟩
noncomputable def p_law_deed_due : { s : Stmt // top 43 = s } := by
  refine ⟨?s, ?h⟩
  case h => conv => lhs; whnf
noncomputable abbrev s_law_deed_due : Stmt := p_law_deed_due.1
noncomputable abbrev N_law_deed_due : List Str := ["_law_words", "_law_holders_here", "_law_blank_here", "_law_deed", "_law_at", "_law_one"]
noncomputable abbrev P_law_deed_due : List Str := ["_law_words", "_law_holders_here", "_law_blank_here", "_law_deed"]
theorem sc_law_deed_due : FnScope N_law_deed_due P_law_deed_due (defScope s_law_deed_due) := ⟨rfl, rfl, rfl, by decide +kernel, rfl, by decide +kernel, by decide +kernel⟩
noncomputable def p_law_deed_made : { s : Stmt // top 44 = s } := by
  refine ⟨?s, ?h⟩
  case h => conv => lhs; whnf
noncomputable abbrev s_law_deed_made : Stmt := p_law_deed_made.1
noncomputable abbrev N_law_deed_made : List Str := ["_law_words", "_law_holders_here", "_law_blank_here", "_law_deed", "_law_at", "_law_one"]
noncomputable abbrev P_law_deed_made : List Str := ["_law_words", "_law_holders_here", "_law_blank_here", "_law_deed"]
theorem sc_law_deed_made : FnScope N_law_deed_made P_law_deed_made (defScope s_law_deed_made) := ⟨rfl, rfl, rfl, by decide +kernel, rfl, by decide +kernel, by decide +kernel⟩
noncomputable def p_law_kinds : { s : Stmt // top 45 = s } := by
  refine ⟨?s, ?h⟩
  case h => conv => lhs; whnf
noncomputable abbrev s_law_kinds : Stmt := p_law_kinds.1
noncomputable abbrev N_law_kinds : List Str := ["_law_error"]
noncomputable abbrev P_law_kinds : List Str := ["_law_error"]
theorem sc_law_kinds : FnScope N_law_kinds P_law_kinds (defScope s_law_kinds) := ⟨rfl, rfl, rfl, by decide +kernel, rfl, by decide +kernel, by decide +kernel⟩
noncomputable def p_law_refused : { s : Stmt // top 46 = s } := by
  refine ⟨?s, ?h⟩
  case h => conv => lhs; whnf
noncomputable abbrev s_law_refused : Stmt := p_law_refused.1
noncomputable abbrev N_law_refused : List Str := ["_law_title", "_law_fields", "_law_titles", "_law_one"]
noncomputable abbrev P_law_refused : List Str := ["_law_title", "_law_fields"]
theorem sc_law_refused : FnScope N_law_refused P_law_refused (defScope s_law_refused) := ⟨rfl, rfl, rfl, by decide +kernel, rfl, by decide +kernel, by decide +kernel⟩
noncomputable def p_law_ended : { s : Stmt // top 47 = s } := by
  refine ⟨?s, ?h⟩
  case h => conv => lhs; whnf
noncomputable abbrev s_law_ended : Stmt := p_law_ended.1
noncomputable abbrev N_law_ended : List Str := ["_law_ground", "_law_title", "e"]
noncomputable abbrev P_law_ended : List Str := ["_law_ground", "_law_title"]
theorem sc_law_ended : FnScope N_law_ended P_law_ended (defScope s_law_ended) := ⟨rfl, rfl, rfl, by decide +kernel, rfl, by decide +kernel, by decide +kernel⟩
noncomputable def p_law_done : { s : Stmt // top 48 = s } := by
  refine ⟨?s, ?h⟩
  case h => conv => lhs; whnf
noncomputable abbrev s_law_done : Stmt := p_law_done.1
noncomputable abbrev N_law_done : List Str := ["_law_ground", "_law_deed", "e"]
noncomputable abbrev P_law_done : List Str := ["_law_ground", "_law_deed"]
theorem sc_law_done : FnScope N_law_done P_law_done (defScope s_law_done) := ⟨rfl, rfl, rfl, by decide +kernel, rfl, by decide +kernel, by decide +kernel⟩
noncomputable def p_law_ground_made : { s : Stmt // top 49 = s } := by
  refine ⟨?s, ?h⟩
  case h => conv => lhs; whnf
noncomputable abbrev s_law_ground_made : Stmt := p_law_ground_made.1
noncomputable abbrev N_law_ground_made : List Str := ["_law_draws_here", "_law_page_width", "_law_page_count", "_law_blank_here", "_law_count_here", "_law_limit_due", "_law_ground"]
noncomputable abbrev P_law_ground_made : List Str := ["_law_draws_here"]
theorem sc_law_ground_made : FnScope N_law_ground_made P_law_ground_made (defScope s_law_ground_made) := ⟨rfl, rfl, rfl, by decide +kernel, rfl, by decide +kernel, by decide +kernel⟩
noncomputable def p_law_cost_since : { s : Stmt // top 50 = s } := by
  refine ⟨?s, ?h⟩
  case h => conv => lhs; whnf
noncomputable abbrev s_law_cost_since : Stmt := p_law_cost_since.1
noncomputable abbrev N_law_cost_since : List Str := ["_law_world", "_law_old", "_law_k"]
noncomputable abbrev P_law_cost_since : List Str := ["_law_world", "_law_old"]
theorem sc_law_cost_since : FnScope N_law_cost_since P_law_cost_since (defScope s_law_cost_since) := ⟨rfl, rfl, rfl, by decide +kernel, rfl, by decide +kernel, by decide +kernel⟩
noncomputable def p_law_charged : { s : Stmt // top 51 = s } := by
  refine ⟨?s, ?h⟩
  case h => conv => lhs; whnf
noncomputable abbrev s_law_charged : Stmt := p_law_charged.1
noncomputable abbrev N_law_charged : List Str := ["_law_world", "_law_cost", "_law_money"]
noncomputable abbrev P_law_charged : List Str := ["_law_world", "_law_cost"]
theorem sc_law_charged : FnScope N_law_charged P_law_charged (defScope s_law_charged) := ⟨rfl, rfl, rfl, by decide +kernel, rfl, by decide +kernel, by decide +kernel⟩
noncomputable def p_law_end_right : { s : Stmt // top 52 = s } := by
  refine ⟨?s, ?h⟩
  case h => conv => lhs; whnf
noncomputable abbrev s_law_end_right : Stmt := p_law_end_right.1
noncomputable abbrev N_law_end_right : List Str := ["_law_world", "_law_title", "_law_stack", "_law_old", "_law_cost"]
noncomputable abbrev P_law_end_right : List Str := ["_law_world", "_law_title"]
theorem sc_law_end_right : FnScope N_law_end_right P_law_end_right (defScope s_law_end_right) := ⟨rfl, rfl, rfl, by decide +kernel, rfl, by decide +kernel, by decide +kernel⟩
noncomputable def p_law_deed_right : { s : Stmt // top 53 = s } := by
  refine ⟨?s, ?h⟩
  case h => conv => lhs; whnf
noncomputable abbrev s_law_deed_right : Stmt := p_law_deed_right.1
noncomputable abbrev N_law_deed_right : List Str := ["_law_draws_here", "_law_world", "_law_deed", "_law_due", "_law_answer", "_law_old"]
noncomputable abbrev P_law_deed_right : List Str := ["_law_draws_here", "_law_world"]
theorem sc_law_deed_right : FnScope N_law_deed_right P_law_deed_right (defScope s_law_deed_right) := ⟨rfl, rfl, rfl, by decide +kernel, rfl, by decide +kernel, by decide +kernel⟩
noncomputable def p_law_is_sound : { s : Stmt // top 54 = s } := by
  refine ⟨?s, ?h⟩
  case h => conv => lhs; whnf
noncomputable abbrev s_law_is_sound : Stmt := p_law_is_sound.1
noncomputable abbrev N_law_is_sound : List Str := ["_law_world", "_law_ground", "_law_words", "_law_holders_here", "_law_blank_here", "_law_page_width", "_law_stack", "_law_money"]
noncomputable abbrev P_law_is_sound : List Str := ["_law_world"]
theorem sc_law_is_sound : FnScope N_law_is_sound P_law_is_sound (defScope s_law_is_sound) := ⟨rfl, rfl, rfl, by decide +kernel, rfl, by decide +kernel, by decide +kernel⟩
noncomputable def p_law_turn_right : { s : Stmt // top 55 = s } := by
  refine ⟨?s, ?h⟩
  case h => conv => lhs; whnf
noncomputable abbrev s_law_turn_right : Stmt := p_law_turn_right.1
noncomputable abbrev N_law_turn_right : List Str := ["_law_draws_here", "_law_world", "_law_title"]
noncomputable abbrev P_law_turn_right : List Str := ["_law_draws_here", "_law_world"]
theorem sc_law_turn_right : FnScope N_law_turn_right P_law_turn_right (defScope s_law_turn_right) := ⟨rfl, rfl, rfl, by decide +kernel, rfl, by decide +kernel, by decide +kernel⟩
noncomputable def p_law_all_ended : { s : Stmt // top 56 = s } := by
  refine ⟨?s, ?h⟩
  case h => conv => lhs; whnf
noncomputable abbrev s_law_all_ended : Stmt := p_law_all_ended.1
noncomputable abbrev N_law_all_ended : List Str := ["_law_draws_here", "_law_world", "_law_k"]
noncomputable abbrev P_law_all_ended : List Str := ["_law_draws_here", "_law_world"]
theorem sc_law_all_ended : FnScope N_law_all_ended P_law_all_ended (defScope s_law_all_ended) := ⟨rfl, rfl, rfl, by decide +kernel, rfl, by decide +kernel, by decide +kernel⟩
noncomputable def p_law : { s : Stmt // top 57 = s } := by
  refine ⟨?s, ?h⟩
  case h => conv => lhs; whnf
noncomputable abbrev s_law : Stmt := p_law.1
noncomputable abbrev N_law : List Str := ["_law_script", "_law_draws_here", "_law_worlds", "_law_k"]
noncomputable abbrev P_law : List Str := ["_law_script"]
theorem sc_law : FnScope N_law P_law (defScope s_law) := ⟨rfl, rfl, rfl, by decide +kernel, rfl, by decide +kernel, by decide +kernel⟩
structure Tx (K : PySem.W.Frag) (mg : Str → Option Value) where
  fd_wall : FuncData
  F_wall : FnP K "_wall" s_wall (He.ga K "_wall") fd_wall
  g_wall : mg "_wall" = some (.ref (He.ga K "_wall"))
  fd_is_whole : FuncData
  F_is_whole : FnP K "is_whole" s_is_whole (He.ga K "is_whole") fd_is_whole
  g_is_whole : mg "is_whole" = some (.ref (He.ga K "is_whole"))
  fd_is_holder : FuncData
  F_is_holder : FnP K "is_holder" s_is_holder (He.ga K "is_holder") fd_is_holder
  g_is_holder : mg "is_holder" = some (.ref (He.ga K "is_holder"))
  fd_need : FuncData
  F_need : FnP K "need" s_need (He.ga K "need") fd_need
  g_need : mg "need" = some (.ref (He.ga K "need"))
  fd_need_whole : FuncData
  F_need_whole : FnP K "need_whole" s_need_whole (He.ga K "need_whole") fd_need_whole
  g_need_whole : mg "need_whole" = some (.ref (He.ga K "need_whole"))
  fd_is_word : FuncData
  F_is_word : FnP K "is_word" s_is_word (He.ga K "is_word") fd_is_word
  g_is_word : mg "is_word" = some (.ref (He.ga K "is_word"))
  fd_is_width : FuncData
  F_is_width : FnP K "is_width" s_is_width (He.ga K "is_width") fd_is_width
  g_is_width : mg "is_width" = some (.ref (He.ga K "is_width"))
  fd_is_budget : FuncData
  F_is_budget : FnP K "is_budget" s_is_budget (He.ga K "is_budget") fd_is_budget
  g_is_budget : mg "is_budget" = some (.ref (He.ga K "is_budget"))
  fd_law_draws : FuncData
  F_law_draws : FnP K "_law_draws" s_law_draws (He.ga K "_law_draws") fd_law_draws
  g_law_draws : mg "_law_draws" = some (.ref (He.ga K "_law_draws"))
  fd_law_next_cell : FuncData
  F_law_next_cell : FnP K "_law_next_cell" s_law_next_cell (He.ga K "_law_next_cell") fd_law_next_cell
  g_law_next_cell : mg "_law_next_cell" = some (.ref (He.ga K "_law_next_cell"))
  fd_law_mixed : FuncData
  F_law_mixed : FnP K "_law_mixed" s_law_mixed (He.ga K "_law_mixed") fd_law_mixed
  g_law_mixed : mg "_law_mixed" = some (.ref (He.ga K "_law_mixed"))
  fd_law_take : FuncData
  F_law_take : FnP K "_law_take" s_law_take (He.ga K "_law_take") fd_law_take
  g_law_take : mg "_law_take" = some (.ref (He.ga K "_law_take"))
  fd_law_among : FuncData
  F_law_among : FnP K "_law_among" s_law_among (He.ga K "_law_among") fd_law_among
  g_law_among : mg "_law_among" = some (.ref (He.ga K "_law_among"))
  fd_law_between : FuncData
  F_law_between : FnP K "_law_between" s_law_between (He.ga K "_law_between") fd_law_between
  g_law_between : mg "_law_between" = some (.ref (He.ga K "_law_between"))
  fd_law_count : FuncData
  F_law_count : FnP K "_law_count" s_law_count (He.ga K "_law_count") fd_law_count
  g_law_count : mg "_law_count" = some (.ref (He.ga K "_law_count"))
  fd_law_same : FuncData
  F_law_same : FnP K "_law_same" s_law_same (He.ga K "_law_same") fd_law_same
  g_law_same : mg "_law_same" = some (.ref (He.ga K "_law_same"))
  fd_law_holders : FuncData
  F_law_holders : FnP K "_law_holders" s_law_holders (He.ga K "_law_holders") fd_law_holders
  g_law_holders : mg "_law_holders" = some (.ref (He.ga K "_law_holders"))
  fd_law_holder : FuncData
  F_law_holder : FnP K "_law_holder" s_law_holder (He.ga K "_law_holder") fd_law_holder
  g_law_holder : mg "_law_holder" = some (.ref (He.ga K "_law_holder"))
  fd_law_word : FuncData
  F_law_word : FnP K "_law_word" s_law_word (He.ga K "_law_word") fd_law_word
  g_law_word : mg "_law_word" = some (.ref (He.ga K "_law_word"))
  fd_law_blank : FuncData
  F_law_blank : FnP K "_law_blank" s_law_blank (He.ga K "_law_blank") fd_law_blank
  g_law_blank : mg "_law_blank" = some (.ref (He.ga K "_law_blank"))
  fd_law_ground_deed : FuncData
  F_law_ground_deed : FnP K "_law_ground_deed" s_law_ground_deed (He.ga K "_law_ground_deed") fd_law_ground_deed
  g_law_ground_deed : mg "_law_ground_deed" = some (.ref (He.ga K "_law_ground_deed"))
  fd_law_deed_due : FuncData
  F_law_deed_due : FnP K "_law_deed_due" s_law_deed_due (He.ga K "_law_deed_due") fd_law_deed_due
  g_law_deed_due : mg "_law_deed_due" = some (.ref (He.ga K "_law_deed_due"))
  fd_law_deed_made : FuncData
  F_law_deed_made : FnP K "_law_deed_made" s_law_deed_made (He.ga K "_law_deed_made") fd_law_deed_made
  g_law_deed_made : mg "_law_deed_made" = some (.ref (He.ga K "_law_deed_made"))
  fd_law_kinds : FuncData
  F_law_kinds : FnP K "_law_kinds" s_law_kinds (He.ga K "_law_kinds") fd_law_kinds
  g_law_kinds : mg "_law_kinds" = some (.ref (He.ga K "_law_kinds"))
  fd_law_refused : FuncData
  F_law_refused : FnP K "_law_refused" s_law_refused (He.ga K "_law_refused") fd_law_refused
  g_law_refused : mg "_law_refused" = some (.ref (He.ga K "_law_refused"))
  fd_law_ended : FuncData
  F_law_ended : FnP K "_law_ended" s_law_ended (He.ga K "_law_ended") fd_law_ended
  g_law_ended : mg "_law_ended" = some (.ref (He.ga K "_law_ended"))
  fd_law_done : FuncData
  F_law_done : FnP K "_law_done" s_law_done (He.ga K "_law_done") fd_law_done
  g_law_done : mg "_law_done" = some (.ref (He.ga K "_law_done"))
  fd_law_ground_made : FuncData
  F_law_ground_made : FnP K "_law_ground_made" s_law_ground_made (He.ga K "_law_ground_made") fd_law_ground_made
  g_law_ground_made : mg "_law_ground_made" = some (.ref (He.ga K "_law_ground_made"))
  fd_law_cost_since : FuncData
  F_law_cost_since : FnP K "_law_cost_since" s_law_cost_since (He.ga K "_law_cost_since") fd_law_cost_since
  g_law_cost_since : mg "_law_cost_since" = some (.ref (He.ga K "_law_cost_since"))
  fd_law_charged : FuncData
  F_law_charged : FnP K "_law_charged" s_law_charged (He.ga K "_law_charged") fd_law_charged
  g_law_charged : mg "_law_charged" = some (.ref (He.ga K "_law_charged"))
  fd_law_end_right : FuncData
  F_law_end_right : FnP K "_law_end_right" s_law_end_right (He.ga K "_law_end_right") fd_law_end_right
  g_law_end_right : mg "_law_end_right" = some (.ref (He.ga K "_law_end_right"))
  fd_law_deed_right : FuncData
  F_law_deed_right : FnP K "_law_deed_right" s_law_deed_right (He.ga K "_law_deed_right") fd_law_deed_right
  g_law_deed_right : mg "_law_deed_right" = some (.ref (He.ga K "_law_deed_right"))
  fd_law_is_sound : FuncData
  F_law_is_sound : FnP K "_law_is_sound" s_law_is_sound (He.ga K "_law_is_sound") fd_law_is_sound
  g_law_is_sound : mg "_law_is_sound" = some (.ref (He.ga K "_law_is_sound"))
  fd_law_turn_right : FuncData
  F_law_turn_right : FnP K "_law_turn_right" s_law_turn_right (He.ga K "_law_turn_right") fd_law_turn_right
  g_law_turn_right : mg "_law_turn_right" = some (.ref (He.ga K "_law_turn_right"))
  fd_law_all_ended : FuncData
  F_law_all_ended : FnP K "_law_all_ended" s_law_all_ended (He.ga K "_law_all_ended") fd_law_all_ended
  g_law_all_ended : mg "_law_all_ended" = some (.ref (He.ga K "_law_all_ended"))
  fd_law : FuncData
  F_law : FnP K "law" s_law (He.ga K "law") fd_law
  g_law : mg "law" = some (.ref (He.ga K "law"))
  c_MAP : ∃ t, mg "MAP" = some (.int 21 t)
  c_MOST_BUDGET : ∃ t, mg "MOST_BUDGET" = some (.int 1000000000 t)
  c_MOST_PAGES : ∃ t, mg "MOST_PAGES" = some (.int 256 t)
  c_MOST_WORD : ∃ t, mg "MOST_WORD" = some (.int 65535 t)
  c_NOBODY : ∃ t, mg "NOBODY" = some (.int 0 t)
  c_NODE : ∃ t, mg "NODE" = some (.int 28 t)
  g_WIDTHS : mg "WIDTHS" = some (.ref (He.ga K "WIDTHS"))
  w_WIDTHS : ∀ H : Hp, SqT K H (He.ga K "WIDTHS") [.int 16, .int 32, .int 64]
  g_BadLine : mg "BadLine" = some (.ref (He.ga K "BadLine"))
  g_BadValue : mg "BadValue" = some (.ref (He.ga K "BadValue"))
  g_Broken : mg "Broken" = some (.ref (He.ga K "Broken"))
  g_Cut : mg "Cut" = some (.ref (He.ga K "Cut"))
  g_Fault : mg "Fault" = some (.ref (He.ga K "Fault"))
  g_Ground : mg "Ground" = some (.ref (He.ga K "Ground"))
  g_NoRoom : mg "NoRoom" = some (.ref (He.ga K "NoRoom"))
  g_NotHeld : mg "NotHeld" = some (.ref (He.ga K "NotHeld"))
  g_StoreError : mg "StoreError" = some (.ref (He.ga K "StoreError"))
  g_Unknown : mg "Unknown" = some (.ref (He.ga K "Unknown"))
  z_ValueError : mg "ValueError" = none
  z_bool : mg "bool" = none
  z_dict : mg "dict" = none
  z_int : mg "int" = none
  z_isinstance : mg "isinstance" = none
  z_len : mg "len" = none
  z_list : mg "list" = none
  z_min : mg "min" = none
  z_range : mg "range" = none
  z_str : mg "str" = none
  z_tuple : mg "tuple" = none
  fd_BadValue : FuncData
  F_BadValue : FunD K "__init__" "BadValue.__init__" (defArgs s_BadValue) (defBody s_BadValue) (defScope s_BadValue) [] [] (iBV K) fd_BadValue
  x_BadValue : OexC K (aBV K)
  i_BadValue : PySem.W.findIn K (.ref (aBV K)) "__init__" = some (some (.ref (iBV K)))
  t_BadValue : PySem.W.typeIn K (.ref (iBV K)) = some (.type "function")
  n_BadValue_parameter : PySem.W.findIn K (.ref (aBV K)) "parameter" = some none
  n_BadValue_told : PySem.W.findIn K (.ref (aBV K)) "told" = some none
  f_BadValue : XfC K (aBV K)
  d_BadValue : ExcD K (aBV K)
  m_BadValue : PySem.W.exmOne K (.ref (aBV K)) (.ref (aBV K)) = some true
  k_ValueError : PySem.W.kitOne K (.ref (aBV K)) (.type "ValueError") = some true
  k_StoreError : PySem.W.kitOne K (.ref (aBV K)) (.ref (He.ga K "StoreError")) = some true
  k_BadValue : PySem.W.kitOne K (.ref (aBV K)) (.ref (He.ga K "BadValue")) = some true
  k_Broken : PySem.W.kitOne K (.ref (aBV K)) (.ref (He.ga K "Broken")) = some false
  k_Unknown : PySem.W.kitOne K (.ref (aBV K)) (.ref (He.ga K "Unknown")) = some false
  k_NotHeld : PySem.W.kitOne K (.ref (aBV K)) (.ref (He.ga K "NotHeld")) = some false
  k_Fault : PySem.W.kitOne K (.ref (aBV K)) (.ref (He.ga K "Fault")) = some false
  k_NoRoom : PySem.W.kitOne K (.ref (aBV K)) (.ref (He.ga K "NoRoom")) = some false
  k_Cut : PySem.W.kitOne K (.ref (aBV K)) (.ref (He.ga K "Cut")) = some false
  k_BadLine : PySem.W.kitOne K (.ref (aBV K)) (.ref (He.ga K "BadLine")) = some false
  m_Broken_Broken : PySem.W.exmOne K (.ref (He.ga K "Broken")) (.ref (He.ga K "Broken")) = some true
  m_Broken_NotHeld : PySem.W.exmOne K (.ref (He.ga K "Broken")) (.ref (He.ga K "NotHeld")) = some false
  m_Broken_Unknown : PySem.W.exmOne K (.ref (He.ga K "Broken")) (.ref (He.ga K "Unknown")) = some false
  m_Unknown_Broken : PySem.W.exmOne K (.ref (He.ga K "Unknown")) (.ref (He.ga K "Broken")) = some false
  m_Unknown_NotHeld : PySem.W.exmOne K (.ref (He.ga K "Unknown")) (.ref (He.ga K "NotHeld")) = some false
  m_Unknown_Unknown : PySem.W.exmOne K (.ref (He.ga K "Unknown")) (.ref (He.ga K "Unknown")) = some true
  m_NotHeld_Broken : PySem.W.exmOne K (.ref (He.ga K "NotHeld")) (.ref (He.ga K "Broken")) = some false
  m_NotHeld_NotHeld : PySem.W.exmOne K (.ref (He.ga K "NotHeld")) (.ref (He.ga K "NotHeld")) = some true
  m_NotHeld_Unknown : PySem.W.exmOne K (.ref (He.ga K "NotHeld")) (.ref (He.ga K "Unknown")) = some false
  m_Cut_Broken : PySem.W.exmOne K (.ref (He.ga K "Cut")) (.ref (He.ga K "Broken")) = some false
  m_Cut_NotHeld : PySem.W.exmOne K (.ref (He.ga K "Cut")) (.ref (He.ga K "NotHeld")) = some false
  m_Cut_Unknown : PySem.W.exmOne K (.ref (He.ga K "Cut")) (.ref (He.ga K "Unknown")) = some false
  fd_Broken : FuncData
  F_Broken : FunD K "__init__" "Broken.__init__" (defArgs s_Broken) (defBody s_Broken) (defScope s_Broken) [] [] (He.ma K (He.ga K "Broken") "__init__") fd_Broken
  v_Broken : ExV K "Broken" ["place", "found", "due"] 1
  fd_Unknown : FuncData
  F_Unknown : FunD K "__init__" "Unknown.__init__" (defArgs s_Unknown) (defBody s_Unknown) (defScope s_Unknown) [] [] (He.ma K (He.ga K "Unknown") "__init__") fd_Unknown
  v_Unknown : ExV K "Unknown" ["parameter"] 2
  fd_NotHeld : FuncData
  F_NotHeld : FunD K "__init__" "NotHeld.__init__" (defArgs s_NotHeld) (defBody s_NotHeld) (defScope s_NotHeld) [] [] (He.ma K (He.ga K "NotHeld") "__init__") fd_NotHeld
  v_NotHeld : ExV K "NotHeld" ["place", "found"] 3
  fd_Cut : FuncData
  F_Cut : FunD K "__init__" "Cut.__init__" (defArgs s_Cut) (defBody s_Cut) (defScope s_Cut) [] [] (He.ma K (He.ga K "Cut") "__init__") fd_Cut
  v_Cut : ExV K "Cut" ["needed", "left"] 6
  fd_Ground_init : FuncData
  F_Ground_init : FunD K "__init__" "Ground.__init__" (defArgs s_Ground_init) (defBody s_Ground_init) (defScope s_Ground_init) [] [("fill", V.int 0), ("budget", V.non)] (He.ma K (He.ga K "Ground") "__init__") fd_Ground_init
  k_Ground : Mk K (He.ga K "Ground") (He.ma K (He.ga K "Ground") "__init__")
  fd_Ground_need_place : FuncData
  F_Ground_need_place : FunD K "_need_place" "Ground._need_place" (defArgs s_Ground_need_place) (defBody s_Ground_need_place) (defScope s_Ground_need_place) [] [] (He.ma K (He.ga K "Ground") "_need_place") fd_Ground_need_place
  h_Ground_need_place : Meth K (He.ga K "Ground") "_need_place" (He.ma K (He.ga K "Ground") "_need_place")
  fd_Ground_read : FuncData
  F_Ground_read : FunD K "read" "Ground.read" (defArgs s_Ground_read) (defBody s_Ground_read) (defScope s_Ground_read) [] [] (He.ma K (He.ga K "Ground") "read") fd_Ground_read
  h_Ground_read : Meth K (He.ga K "Ground") "read" (He.ma K (He.ga K "Ground") "read")
  fd_Ground_write : FuncData
  F_Ground_write : FunD K "write" "Ground.write" (defArgs s_Ground_write) (defBody s_Ground_write) (defScope s_Ground_write) [] [] (He.ma K (He.ga K "Ground") "write") fd_Ground_write
  h_Ground_write : Meth K (He.ga K "Ground") "write" (He.ma K (He.ga K "Ground") "write")
  fd_Ground_poke : FuncData
  F_Ground_poke : FunD K "poke" "Ground.poke" (defArgs s_Ground_poke) (defBody s_Ground_poke) (defScope s_Ground_poke) [] [] (He.ma K (He.ga K "Ground") "poke") fd_Ground_poke
  h_Ground_poke : Meth K (He.ga K "Ground") "poke" (He.ma K (He.ga K "Ground") "poke")
  fd_Ground_pass_on : FuncData
  F_Ground_pass_on : FunD K "pass_on" "Ground.pass_on" (defArgs s_Ground_pass_on) (defBody s_Ground_pass_on) (defScope s_Ground_pass_on) [] [] (He.ma K (He.ga K "Ground") "pass_on") fd_Ground_pass_on
  h_Ground_pass_on : Meth K (He.ga K "Ground") "pass_on" (He.ma K (He.ga K "Ground") "pass_on")
  fd_Ground_need_fill : FuncData
  F_Ground_need_fill : FunD K "_need_fill" "Ground._need_fill" (defArgs s_Ground_need_fill) (defBody s_Ground_need_fill) (defScope s_Ground_need_fill) [] [] (He.ma K (He.ga K "Ground") "_need_fill") fd_Ground_need_fill
  h_Ground_need_fill : Meth K (He.ga K "Ground") "_need_fill" (He.ma K (He.ga K "Ground") "_need_fill")
  fd_Ground_need_held : FuncData
  F_Ground_need_held : FunD K "_need_held" "Ground._need_held" (defArgs s_Ground_need_held) (defBody s_Ground_need_held) (defScope s_Ground_need_held) [] [] (He.ma K (He.ga K "Ground") "_need_held") fd_Ground_need_held
  h_Ground_need_held : Meth K (He.ga K "Ground") "_need_held" (He.ma K (He.ga K "Ground") "_need_held")
  fd_Ground_image : FuncData
  F_Ground_image : FunD K "image" "Ground.image" (defArgs s_Ground_image) (defBody s_Ground_image) (defScope s_Ground_image) [] [] (He.ma K (He.ga K "Ground") "image") fd_Ground_image
  h_Ground_image : Meth K (He.ga K "Ground") "image" (He.ma K (He.ga K "Ground") "image")
  fd_Ground_begin : FuncData
  F_Ground_begin : FunD K "begin" "Ground.begin" (defArgs s_Ground_begin) (defBody s_Ground_begin) (defScope s_Ground_begin) [] [] (He.ma K (He.ga K "Ground") "begin") fd_Ground_begin
  h_Ground_begin : Meth K (He.ga K "Ground") "begin" (He.ma K (He.ga K "Ground") "begin")
  fd_Ground_commit : FuncData
  F_Ground_commit : FunD K "commit" "Ground.commit" (defArgs s_Ground_commit) (defBody s_Ground_commit) (defScope s_Ground_commit) [] [] (He.ma K (He.ga K "Ground") "commit") fd_Ground_commit
  h_Ground_commit : Meth K (He.ga K "Ground") "commit" (He.ma K (He.ga K "Ground") "commit")
  fd_Ground_cancel : FuncData
  F_Ground_cancel : FunD K "cancel" "Ground.cancel" (defArgs s_Ground_cancel) (defBody s_Ground_cancel) (defScope s_Ground_cancel) [] [] (He.ma K (He.ga K "Ground") "cancel") fd_Ground_cancel
  h_Ground_cancel : Meth K (He.ga K "Ground") "cancel" (He.ma K (He.ga K "Ground") "cancel")
  fd_Ground_change : FuncData
  F_Ground_change : FunD K "_change" "Ground._change" (defArgs s_Ground_change) (defBody s_Ground_change) (defScope s_Ground_change) [] [] (He.ma K (He.ga K "Ground") "_change") fd_Ground_change
  h_Ground_change : Meth K (He.ga K "Ground") "_change" (He.ma K (He.ga K "Ground") "_change")
  fd_Ground_cost : FuncData
  F_Ground_cost : FunD K "_cost" "Ground._cost" (defArgs s_Ground_cost) (defBody s_Ground_cost) (defScope s_Ground_cost) [] [] (He.ma K (He.ga K "Ground") "_cost") fd_Ground_cost
  h_Ground_cost : Meth K (He.ga K "Ground") "_cost" (He.ma K (He.ga K "Ground") "_cost")
  fd_Ground_pass_out : FuncData
  F_Ground_pass_out : FunD K "_pass_out" "Ground._pass_out" (defArgs s_Ground_pass_out) (defBody s_Ground_pass_out) (defScope s_Ground_pass_out) [] [] (He.ma K (He.ga K "Ground") "_pass_out") fd_Ground_pass_out
  h_Ground_pass_out : Meth K (He.ga K "Ground") "_pass_out" (He.ma K (He.ga K "Ground") "_pass_out")
  fd_Ground_charge : FuncData
  F_Ground_charge : FunD K "_charge" "Ground._charge" (defArgs s_Ground_charge) (defBody s_Ground_charge) (defScope s_Ground_charge) [] [] (He.ma K (He.ga K "Ground") "_charge") fd_Ground_charge
  h_Ground_charge : Meth K (He.ga K "Ground") "_charge" (He.ma K (He.ga K "Ground") "_charge")
  fd_Ground_top : FuncData
  F_Ground_top : FunD K "top" "Ground.top" (defArgs s_Ground_top) (defBody s_Ground_top) (defScope s_Ground_top) [] [] (gAd K "Ground" "top") fd_Ground_top
  p_Ground_top : PropOf K (He.ga K "Ground") "top" (He.ma K (He.ga K "Ground") "top") (gAd K "Ground" "top")
  fd_Ground_spent : FuncData
  F_Ground_spent : FunD K "spent" "Ground.spent" (defArgs s_Ground_spent) (defBody s_Ground_spent) (defScope s_Ground_spent) [] [] (gAd K "Ground" "spent") fd_Ground_spent
  p_Ground_spent : PropOf K (He.ga K "Ground") "spent" (He.ma K (He.ga K "Ground") "spent") (gAd K "Ground" "spent")
  fd_Ground_depth : FuncData
  F_Ground_depth : FunD K "depth" "Ground.depth" (defArgs s_Ground_depth) (defBody s_Ground_depth) (defScope s_Ground_depth) [] [] (gAd K "Ground" "depth") fd_Ground_depth
  p_Ground_depth : PropOf K (He.ga K "Ground") "depth" (He.ma K (He.ga K "Ground") "depth") (gAd K "Ground" "depth")
  fd_Ground_budget : FuncData
  F_Ground_budget : FunD K "budget" "Ground.budget" (defArgs s_Ground_budget) (defBody s_Ground_budget) (defScope s_Ground_budget) [] [] (gAd K "Ground" "budget") fd_Ground_budget
  p_Ground_budget : PropOf K (He.ga K "Ground") "budget" (He.ma K (He.ga K "Ground") "budget") (gAd K "Ground" "budget")
  c_Ground : Cls K (He.ga K "Ground")
  n_Ground_pages : NoAttr K (He.ga K "Ground") "pages"
  n_Ground_width : NoAttr K (He.ga K "Ground") "width"
  n_Ground_fill : NoAttr K (He.ga K "Ground") "fill"
  n_Ground__budget : NoAttr K (He.ga K "Ground") "_budget"
  n_Ground__spent : NoAttr K (He.ga K "Ground") "_spent"
  n_Ground__words : NoAttr K (He.ga K "Ground") "_words"
  n_Ground__holders : NoAttr K (He.ga K "Ground") "_holders"
  n_Ground__deeds : NoAttr K (He.ga K "Ground") "_deeds"
variable {P : Program} {w : World} {K : PySem.W.Frag} {mg : Str → Option Value} {base : Heap}
theorem b_wall (T : Tx K mg) : Binds K T.fd_wall P_wall [] := T.F_wall.bindsN fun _ _ _ _ _ _ us hl => match us, hl with | [_], _ => rfl
theorem b_is_whole (T : Tx K mg) : Binds K T.fd_is_whole P_is_whole [] := T.F_is_whole.bindsN fun _ _ _ _ _ _ us hl => match us, hl with | [_], _ => rfl
theorem b_is_holder (T : Tx K mg) : Binds K T.fd_is_holder P_is_holder [] := T.F_is_holder.bindsN fun _ _ _ _ _ _ us hl => match us, hl with | [_], _ => rfl
theorem b_need (T : Tx K mg) : Binds K T.fd_need P_need [] := T.F_need.bindsN fun _ _ _ _ _ _ us hl => match us, hl with | [_, _], _ => rfl
theorem b_need_whole (T : Tx K mg) : Binds K T.fd_need_whole P_need_whole [] := T.F_need_whole.bindsN fun _ _ _ _ _ _ us hl => match us, hl with | [_, _, _, _], _ => rfl
theorem b_is_word (T : Tx K mg) : Binds K T.fd_is_word P_is_word [] := T.F_is_word.bindsN fun _ _ _ _ _ _ us hl => match us, hl with | [_], _ => rfl
theorem b_is_width (T : Tx K mg) : Binds K T.fd_is_width P_is_width [] := T.F_is_width.bindsN fun _ _ _ _ _ _ us hl => match us, hl with | [_], _ => rfl
theorem b_is_budget (T : Tx K mg) : Binds K T.fd_is_budget P_is_budget [] := T.F_is_budget.bindsN fun _ _ _ _ _ _ us hl => match us, hl with | [_], _ => rfl
theorem b_law_draws (T : Tx K mg) : Binds K T.fd_law_draws P_law_draws [] := T.F_law_draws.bindsN fun _ _ _ _ _ _ us hl => match us, hl with | [_], _ => rfl
theorem b_law_next_cell (T : Tx K mg) : Binds K T.fd_law_next_cell P_law_next_cell [] := T.F_law_next_cell.bindsN fun _ _ _ _ _ _ us hl => match us, hl with | [_], _ => rfl
theorem b_law_mixed (T : Tx K mg) : Binds K T.fd_law_mixed P_law_mixed [] := T.F_law_mixed.bindsN fun _ _ _ _ _ _ us hl => match us, hl with | [_, _, _], _ => rfl
theorem b_law_take (T : Tx K mg) : Binds K T.fd_law_take P_law_take [] := T.F_law_take.bindsN fun _ _ _ _ _ _ us hl => match us, hl with | [_, _], _ => rfl
theorem b_law_among (T : Tx K mg) : Binds K T.fd_law_among P_law_among [] := T.F_law_among.bindsN fun _ _ _ _ _ _ us hl => match us, hl with | [_, _], _ => rfl
theorem b_law_between (T : Tx K mg) : Binds K T.fd_law_between P_law_between [] := T.F_law_between.bindsN fun _ _ _ _ _ _ us hl => match us, hl with | [_, _, _], _ => rfl
theorem b_law_count (T : Tx K mg) : Binds K T.fd_law_count P_law_count [] := T.F_law_count.bindsN fun _ _ _ _ _ _ us hl => match us, hl with | [_, _, _], _ => rfl
theorem b_law_same (T : Tx K mg) : Binds K T.fd_law_same P_law_same [] := T.F_law_same.bindsN fun _ _ _ _ _ _ us hl => match us, hl with | [_, _], _ => rfl
theorem b_law_holders (T : Tx K mg) : Binds K T.fd_law_holders P_law_holders [] := T.F_law_holders.bindsN fun _ _ _ _ _ _ us hl => match us, hl with | [], _ => rfl
theorem b_law_holder (T : Tx K mg) : Binds K T.fd_law_holder P_law_holder [] := T.F_law_holder.bindsN fun _ _ _ _ _ _ us hl => match us, hl with | [_], _ => rfl
theorem b_law_word (T : Tx K mg) : Binds K T.fd_law_word P_law_word [] := T.F_law_word.bindsN fun _ _ _ _ _ _ us hl => match us, hl with | [_, _], _ => rfl
theorem b_law_blank (T : Tx K mg) : Binds K T.fd_law_blank P_law_blank [] := T.F_law_blank.bindsN fun _ _ _ _ _ _ us hl => match us, hl with | [_], _ => rfl
theorem b_law_ground_deed (T : Tx K mg) : Binds K T.fd_law_ground_deed P_law_ground_deed [] := T.F_law_ground_deed.bindsN fun _ _ _ _ _ _ us hl => match us, hl with | [_, _, _, _], _ => rfl
theorem b_law_deed_due (T : Tx K mg) : Binds K T.fd_law_deed_due P_law_deed_due [] := T.F_law_deed_due.bindsN fun _ _ _ _ _ _ us hl => match us, hl with | [_, _, _, _], _ => rfl
theorem b_law_deed_made (T : Tx K mg) : Binds K T.fd_law_deed_made P_law_deed_made [] := T.F_law_deed_made.bindsN fun _ _ _ _ _ _ us hl => match us, hl with | [_, _, _, _], _ => rfl
theorem b_law_kinds (T : Tx K mg) : Binds K T.fd_law_kinds P_law_kinds [] := T.F_law_kinds.bindsN fun _ _ _ _ _ _ us hl => match us, hl with | [_], _ => rfl
theorem b_law_refused (T : Tx K mg) : Binds K T.fd_law_refused P_law_refused [] := T.F_law_refused.bindsN fun _ _ _ _ _ _ us hl => match us, hl with | [_, _], _ => rfl
theorem b_law_ended (T : Tx K mg) : Binds K T.fd_law_ended P_law_ended [] := T.F_law_ended.bindsN fun _ _ _ _ _ _ us hl => match us, hl with | [_, _], _ => rfl
theorem b_law_done (T : Tx K mg) : Binds K T.fd_law_done P_law_done [] := T.F_law_done.bindsN fun _ _ _ _ _ _ us hl => match us, hl with | [_, _], _ => rfl
theorem b_law_ground_made (T : Tx K mg) : Binds K T.fd_law_ground_made P_law_ground_made [] := T.F_law_ground_made.bindsN fun _ _ _ _ _ _ us hl => match us, hl with | [_], _ => rfl
theorem b_law_cost_since (T : Tx K mg) : Binds K T.fd_law_cost_since P_law_cost_since [] := T.F_law_cost_since.bindsN fun _ _ _ _ _ _ us hl => match us, hl with | [_, _], _ => rfl
theorem b_law_charged (T : Tx K mg) : Binds K T.fd_law_charged P_law_charged [] := T.F_law_charged.bindsN fun _ _ _ _ _ _ us hl => match us, hl with | [_, _], _ => rfl
theorem b_law_end_right (T : Tx K mg) : Binds K T.fd_law_end_right P_law_end_right [] := T.F_law_end_right.bindsN fun _ _ _ _ _ _ us hl => match us, hl with | [_, _], _ => rfl
theorem b_law_deed_right (T : Tx K mg) : Binds K T.fd_law_deed_right P_law_deed_right [] := T.F_law_deed_right.bindsN fun _ _ _ _ _ _ us hl => match us, hl with | [_, _], _ => rfl
theorem b_law_is_sound (T : Tx K mg) : Binds K T.fd_law_is_sound P_law_is_sound [] := T.F_law_is_sound.bindsN fun _ _ _ _ _ _ us hl => match us, hl with | [_], _ => rfl
theorem b_law_turn_right (T : Tx K mg) : Binds K T.fd_law_turn_right P_law_turn_right [] := T.F_law_turn_right.bindsN fun _ _ _ _ _ _ us hl => match us, hl with | [_, _], _ => rfl
theorem b_law_all_ended (T : Tx K mg) : Binds K T.fd_law_all_ended P_law_all_ended [] := T.F_law_all_ended.bindsN fun _ _ _ _ _ _ us hl => match us, hl with | [_, _], _ => rfl
theorem b_law (T : Tx K mg) : Binds K T.fd_law P_law [] := T.F_law.bindsN fun _ _ _ _ _ _ us hl => match us, hl with | [_], _ => rfl
theorem bk_Ground_init_fill_budget (T : Tx K mg) : KBn K T.fd_Ground_init P_Ground_init 3 ["fill", "budget"] (fun us ws => us ++ ws) (fun vs zs => vs ++ zs) := by
  obtain ⟨mv, h⟩ := T.F_Ground_init.kbinds0 (ps := P_Ground_init) 3 ["fill", "budget"] [] (fun us _ ws => us ++ ws) (by simp) (fun _ h => by cases h) (fun r1 _ r3 => r1.append r3) (fun D doc pm an cdv ct us mv ws h1 h2 h3 => match us, mv, ws, h1, h2, h3 with | [_, _, _], [], [_, _], _, _, _ => rfl)
  exact h
theorem b_Ground_need_place (T : Tx K mg) : Binds K T.fd_Ground_need_place P_Ground_need_place [] := T.F_Ground_need_place.bindsN fun _ _ _ _ _ _ us hl => match us, hl with | [_, _], _ => rfl
theorem b_Ground_read (T : Tx K mg) : Binds K T.fd_Ground_read P_Ground_read [] := T.F_Ground_read.bindsN fun _ _ _ _ _ _ us hl => match us, hl with | [_, _, _], _ => rfl
theorem b_Ground_write (T : Tx K mg) : Binds K T.fd_Ground_write P_Ground_write [] := T.F_Ground_write.bindsN fun _ _ _ _ _ _ us hl => match us, hl with | [_, _, _, _], _ => rfl
theorem b_Ground_poke (T : Tx K mg) : Binds K T.fd_Ground_poke P_Ground_poke [] := T.F_Ground_poke.bindsN fun _ _ _ _ _ _ us hl => match us, hl with | [_, _, _], _ => rfl
theorem b_Ground_pass_on (T : Tx K mg) : Binds K T.fd_Ground_pass_on P_Ground_pass_on [] := T.F_Ground_pass_on.bindsN fun _ _ _ _ _ _ us hl => match us, hl with | [_, _, _, _, _], _ => rfl
theorem b_Ground_need_fill (T : Tx K mg) : Binds K T.fd_Ground_need_fill P_Ground_need_fill [] := T.F_Ground_need_fill.bindsN fun _ _ _ _ _ _ us hl => match us, hl with | [_, _, _], _ => rfl
theorem b_Ground_need_held (T : Tx K mg) : Binds K T.fd_Ground_need_held P_Ground_need_held [] := T.F_Ground_need_held.bindsN fun _ _ _ _ _ _ us hl => match us, hl with | [_, _, _, _], _ => rfl
theorem b_Ground_image (T : Tx K mg) : Binds K T.fd_Ground_image P_Ground_image [] := T.F_Ground_image.bindsN fun _ _ _ _ _ _ us hl => match us, hl with | [_], _ => rfl
theorem b_Ground_begin (T : Tx K mg) : Binds K T.fd_Ground_begin P_Ground_begin [] := T.F_Ground_begin.bindsN fun _ _ _ _ _ _ us hl => match us, hl with | [_], _ => rfl
theorem b_Ground_commit (T : Tx K mg) : Binds K T.fd_Ground_commit P_Ground_commit [] := T.F_Ground_commit.bindsN fun _ _ _ _ _ _ us hl => match us, hl with | [_], _ => rfl
theorem b_Ground_cancel (T : Tx K mg) : Binds K T.fd_Ground_cancel P_Ground_cancel [] := T.F_Ground_cancel.bindsN fun _ _ _ _ _ _ us hl => match us, hl with | [_], _ => rfl
theorem b_Ground_change (T : Tx K mg) : Binds K T.fd_Ground_change P_Ground_change [] := T.F_Ground_change.bindsN fun _ _ _ _ _ _ us hl => match us, hl with | [_, _, _, _], _ => rfl
theorem b_Ground_cost (T : Tx K mg) : Binds K T.fd_Ground_cost P_Ground_cost [] := T.F_Ground_cost.bindsN fun _ _ _ _ _ _ us hl => match us, hl with | [_], _ => rfl
theorem b_Ground_pass_out (T : Tx K mg) : Binds K T.fd_Ground_pass_out P_Ground_pass_out [] := T.F_Ground_pass_out.bindsN fun _ _ _ _ _ _ us hl => match us, hl with | [_, _], _ => rfl
theorem b_Ground_charge (T : Tx K mg) : Binds K T.fd_Ground_charge P_Ground_charge [] := T.F_Ground_charge.bindsN fun _ _ _ _ _ _ us hl => match us, hl with | [_, _], _ => rfl
theorem b_Ground_top (T : Tx K mg) : Binds K T.fd_Ground_top P_Ground_top [] := T.F_Ground_top.bindsN fun _ _ _ _ _ _ us hl => match us, hl with | [_], _ => rfl
theorem b_Ground_spent (T : Tx K mg) : Binds K T.fd_Ground_spent P_Ground_spent [] := T.F_Ground_spent.bindsN fun _ _ _ _ _ _ us hl => match us, hl with | [_], _ => rfl
theorem b_Ground_depth (T : Tx K mg) : Binds K T.fd_Ground_depth P_Ground_depth [] := T.F_Ground_depth.bindsN fun _ _ _ _ _ _ us hl => match us, hl with | [_], _ => rfl
theorem b_Ground_budget (T : Tx K mg) : Binds K T.fd_Ground_budget P_Ground_budget [] := T.F_Ground_budget.bindsN fun _ _ _ _ _ _ us hl => match us, hl with | [_], _ => rfl
theorem b_Broken (T : Tx K mg) : Binds K T.fd_Broken P_Broken [] := T.F_Broken.bindsN fun _ _ _ _ _ _ us hl => match us, hl with | [_, _, _, _], _ => rfl
theorem b_Unknown (T : Tx K mg) : Binds K T.fd_Unknown P_Unknown [] := T.F_Unknown.bindsN fun _ _ _ _ _ _ us hl => match us, hl with | [_, _], _ => rfl
theorem b_NotHeld (T : Tx K mg) : Binds K T.fd_NotHeld P_NotHeld [] := T.F_NotHeld.bindsN fun _ _ _ _ _ _ us hl => match us, hl with | [_, _, _], _ => rfl
theorem b_Cut (T : Tx K mg) : Binds K T.fd_Cut P_Cut [] := T.F_Cut.bindsN fun _ _ _ _ _ _ us hl => match us, hl with | [_, _, _], _ => rfl
theorem b_BadValue (T : Tx K mg) : Binds K T.fd_BadValue P_BadValue [] := T.F_BadValue.bindsN fun _ _ _ _ _ _ us hl => match us, hl with | [_, _], _ => rfl
end K12

namespace K12
open PySem PySem.Spec PyProof.Rows L2 LL
variable {P : Program} {w : World} {K : PySem.W.Frag} {mg : Str → Option Value} {base : Heap}

noncomputable def dd_wall : He.DefD := ⟨("_wall", none), "_wall", "_wall", defArgs s_wall, defBody s_wall, defScope s_wall, [], []⟩
noncomputable def dd_is_whole : He.DefD := ⟨("is_whole", none), "is_whole", "is_whole", defArgs s_is_whole, defBody s_is_whole, defScope s_is_whole, [], []⟩
noncomputable def dd_is_holder : He.DefD := ⟨("is_holder", none), "is_holder", "is_holder", defArgs s_is_holder, defBody s_is_holder, defScope s_is_holder, [], []⟩
noncomputable def dd_need : He.DefD := ⟨("need", none), "need", "need", defArgs s_need, defBody s_need, defScope s_need, [], []⟩
noncomputable def dd_need_whole : He.DefD := ⟨("need_whole", none), "need_whole", "need_whole", defArgs s_need_whole, defBody s_need_whole, defScope s_need_whole, [], []⟩
noncomputable def dd_is_word : He.DefD := ⟨("is_word", none), "is_word", "is_word", defArgs s_is_word, defBody s_is_word, defScope s_is_word, [], []⟩
noncomputable def dd_is_width : He.DefD := ⟨("is_width", none), "is_width", "is_width", defArgs s_is_width, defBody s_is_width, defScope s_is_width, [], []⟩
noncomputable def dd_is_budget : He.DefD := ⟨("is_budget", none), "is_budget", "is_budget", defArgs s_is_budget, defBody s_is_budget, defScope s_is_budget, [], []⟩
noncomputable def dd_law_draws : He.DefD := ⟨("_law_draws", none), "_law_draws", "_law_draws", defArgs s_law_draws, defBody s_law_draws, defScope s_law_draws, [], []⟩
noncomputable def dd_law_next_cell : He.DefD := ⟨("_law_next_cell", none), "_law_next_cell", "_law_next_cell", defArgs s_law_next_cell, defBody s_law_next_cell, defScope s_law_next_cell, [], []⟩
noncomputable def dd_law_mixed : He.DefD := ⟨("_law_mixed", none), "_law_mixed", "_law_mixed", defArgs s_law_mixed, defBody s_law_mixed, defScope s_law_mixed, [], []⟩
noncomputable def dd_law_take : He.DefD := ⟨("_law_take", none), "_law_take", "_law_take", defArgs s_law_take, defBody s_law_take, defScope s_law_take, [], []⟩
noncomputable def dd_law_among : He.DefD := ⟨("_law_among", none), "_law_among", "_law_among", defArgs s_law_among, defBody s_law_among, defScope s_law_among, [], []⟩
noncomputable def dd_law_between : He.DefD := ⟨("_law_between", none), "_law_between", "_law_between", defArgs s_law_between, defBody s_law_between, defScope s_law_between, [], []⟩
noncomputable def dd_law_count : He.DefD := ⟨("_law_count", none), "_law_count", "_law_count", defArgs s_law_count, defBody s_law_count, defScope s_law_count, [], []⟩
noncomputable def dd_law_same : He.DefD := ⟨("_law_same", none), "_law_same", "_law_same", defArgs s_law_same, defBody s_law_same, defScope s_law_same, [], []⟩
noncomputable def dd_law_holders : He.DefD := ⟨("_law_holders", none), "_law_holders", "_law_holders", defArgs s_law_holders, defBody s_law_holders, defScope s_law_holders, [], []⟩
noncomputable def dd_law_holder : He.DefD := ⟨("_law_holder", none), "_law_holder", "_law_holder", defArgs s_law_holder, defBody s_law_holder, defScope s_law_holder, [], []⟩
noncomputable def dd_law_word : He.DefD := ⟨("_law_word", none), "_law_word", "_law_word", defArgs s_law_word, defBody s_law_word, defScope s_law_word, [], []⟩
noncomputable def dd_law_blank : He.DefD := ⟨("_law_blank", none), "_law_blank", "_law_blank", defArgs s_law_blank, defBody s_law_blank, defScope s_law_blank, [], []⟩
noncomputable def dd_law_ground_deed : He.DefD := ⟨("_law_ground_deed", none), "_law_ground_deed", "_law_ground_deed", defArgs s_law_ground_deed, defBody s_law_ground_deed, defScope s_law_ground_deed, [], []⟩
noncomputable def dd_law_deed_due : He.DefD := ⟨("_law_deed_due", none), "_law_deed_due", "_law_deed_due", defArgs s_law_deed_due, defBody s_law_deed_due, defScope s_law_deed_due, [], []⟩
noncomputable def dd_law_deed_made : He.DefD := ⟨("_law_deed_made", none), "_law_deed_made", "_law_deed_made", defArgs s_law_deed_made, defBody s_law_deed_made, defScope s_law_deed_made, [], []⟩
noncomputable def dd_law_kinds : He.DefD := ⟨("_law_kinds", none), "_law_kinds", "_law_kinds", defArgs s_law_kinds, defBody s_law_kinds, defScope s_law_kinds, [], []⟩
noncomputable def dd_law_refused : He.DefD := ⟨("_law_refused", none), "_law_refused", "_law_refused", defArgs s_law_refused, defBody s_law_refused, defScope s_law_refused, [], []⟩
noncomputable def dd_law_ended : He.DefD := ⟨("_law_ended", none), "_law_ended", "_law_ended", defArgs s_law_ended, defBody s_law_ended, defScope s_law_ended, [], []⟩
noncomputable def dd_law_done : He.DefD := ⟨("_law_done", none), "_law_done", "_law_done", defArgs s_law_done, defBody s_law_done, defScope s_law_done, [], []⟩
noncomputable def dd_law_ground_made : He.DefD := ⟨("_law_ground_made", none), "_law_ground_made", "_law_ground_made", defArgs s_law_ground_made, defBody s_law_ground_made, defScope s_law_ground_made, [], []⟩
noncomputable def dd_law_cost_since : He.DefD := ⟨("_law_cost_since", none), "_law_cost_since", "_law_cost_since", defArgs s_law_cost_since, defBody s_law_cost_since, defScope s_law_cost_since, [], []⟩
noncomputable def dd_law_charged : He.DefD := ⟨("_law_charged", none), "_law_charged", "_law_charged", defArgs s_law_charged, defBody s_law_charged, defScope s_law_charged, [], []⟩
noncomputable def dd_law_end_right : He.DefD := ⟨("_law_end_right", none), "_law_end_right", "_law_end_right", defArgs s_law_end_right, defBody s_law_end_right, defScope s_law_end_right, [], []⟩
noncomputable def dd_law_deed_right : He.DefD := ⟨("_law_deed_right", none), "_law_deed_right", "_law_deed_right", defArgs s_law_deed_right, defBody s_law_deed_right, defScope s_law_deed_right, [], []⟩
noncomputable def dd_law_is_sound : He.DefD := ⟨("_law_is_sound", none), "_law_is_sound", "_law_is_sound", defArgs s_law_is_sound, defBody s_law_is_sound, defScope s_law_is_sound, [], []⟩
noncomputable def dd_law_turn_right : He.DefD := ⟨("_law_turn_right", none), "_law_turn_right", "_law_turn_right", defArgs s_law_turn_right, defBody s_law_turn_right, defScope s_law_turn_right, [], []⟩
noncomputable def dd_law_all_ended : He.DefD := ⟨("_law_all_ended", none), "_law_all_ended", "_law_all_ended", defArgs s_law_all_ended, defBody s_law_all_ended, defScope s_law_all_ended, [], []⟩
noncomputable def dd_law : He.DefD := ⟨("law", none), "law", "law", defArgs s_law, defBody s_law, defScope s_law, [], []⟩
noncomputable def dd_BadValue : He.DefD := ⟨("BadValue", some "__init__"), "__init__", "BadValue.__init__", defArgs s_BadValue, defBody s_BadValue, defScope s_BadValue, [], []⟩
noncomputable def dd_Broken : He.DefD := ⟨("Broken", some "__init__"), "__init__", "Broken.__init__", defArgs s_Broken, defBody s_Broken, defScope s_Broken, [], []⟩
noncomputable def dd_Unknown : He.DefD := ⟨("Unknown", some "__init__"), "__init__", "Unknown.__init__", defArgs s_Unknown, defBody s_Unknown, defScope s_Unknown, [], []⟩
noncomputable def dd_NotHeld : He.DefD := ⟨("NotHeld", some "__init__"), "__init__", "NotHeld.__init__", defArgs s_NotHeld, defBody s_NotHeld, defScope s_NotHeld, [], []⟩
noncomputable def dd_Cut : He.DefD := ⟨("Cut", some "__init__"), "__init__", "Cut.__init__", defArgs s_Cut, defBody s_Cut, defScope s_Cut, [], []⟩
noncomputable def dd_Ground_init : He.DefD := ⟨("Ground", some "__init__"), "__init__", "Ground.__init__", defArgs s_Ground_init, defBody s_Ground_init, defScope s_Ground_init, [], [("fill", .int 0), ("budget", .non)]⟩
noncomputable def dd_Ground_need_place : He.DefD := ⟨("Ground", some "_need_place"), "_need_place", "Ground._need_place", defArgs s_Ground_need_place, defBody s_Ground_need_place, defScope s_Ground_need_place, [], []⟩
noncomputable def dd_Ground_read : He.DefD := ⟨("Ground", some "read"), "read", "Ground.read", defArgs s_Ground_read, defBody s_Ground_read, defScope s_Ground_read, [], []⟩
noncomputable def dd_Ground_write : He.DefD := ⟨("Ground", some "write"), "write", "Ground.write", defArgs s_Ground_write, defBody s_Ground_write, defScope s_Ground_write, [], []⟩
noncomputable def dd_Ground_poke : He.DefD := ⟨("Ground", some "poke"), "poke", "Ground.poke", defArgs s_Ground_poke, defBody s_Ground_poke, defScope s_Ground_poke, [], []⟩
noncomputable def dd_Ground_pass_on : He.DefD := ⟨("Ground", some "pass_on"), "pass_on", "Ground.pass_on", defArgs s_Ground_pass_on, defBody s_Ground_pass_on, defScope s_Ground_pass_on, [], []⟩
noncomputable def dd_Ground_need_fill : He.DefD := ⟨("Ground", some "_need_fill"), "_need_fill", "Ground._need_fill", defArgs s_Ground_need_fill, defBody s_Ground_need_fill, defScope s_Ground_need_fill, [], []⟩
noncomputable def dd_Ground_need_held : He.DefD := ⟨("Ground", some "_need_held"), "_need_held", "Ground._need_held", defArgs s_Ground_need_held, defBody s_Ground_need_held, defScope s_Ground_need_held, [], []⟩
noncomputable def dd_Ground_image : He.DefD := ⟨("Ground", some "image"), "image", "Ground.image", defArgs s_Ground_image, defBody s_Ground_image, defScope s_Ground_image, [], []⟩
noncomputable def dd_Ground_begin : He.DefD := ⟨("Ground", some "begin"), "begin", "Ground.begin", defArgs s_Ground_begin, defBody s_Ground_begin, defScope s_Ground_begin, [], []⟩
noncomputable def dd_Ground_commit : He.DefD := ⟨("Ground", some "commit"), "commit", "Ground.commit", defArgs s_Ground_commit, defBody s_Ground_commit, defScope s_Ground_commit, [], []⟩
noncomputable def dd_Ground_cancel : He.DefD := ⟨("Ground", some "cancel"), "cancel", "Ground.cancel", defArgs s_Ground_cancel, defBody s_Ground_cancel, defScope s_Ground_cancel, [], []⟩
noncomputable def dd_Ground_change : He.DefD := ⟨("Ground", some "_change"), "_change", "Ground._change", defArgs s_Ground_change, defBody s_Ground_change, defScope s_Ground_change, [], []⟩
noncomputable def dd_Ground_cost : He.DefD := ⟨("Ground", some "_cost"), "_cost", "Ground._cost", defArgs s_Ground_cost, defBody s_Ground_cost, defScope s_Ground_cost, [], []⟩
noncomputable def dd_Ground_pass_out : He.DefD := ⟨("Ground", some "_pass_out"), "_pass_out", "Ground._pass_out", defArgs s_Ground_pass_out, defBody s_Ground_pass_out, defScope s_Ground_pass_out, [], []⟩
noncomputable def dd_Ground_charge : He.DefD := ⟨("Ground", some "_charge"), "_charge", "Ground._charge", defArgs s_Ground_charge, defBody s_Ground_charge, defScope s_Ground_charge, [], []⟩
noncomputable def pp_Ground_top : PrD := ⟨"Ground", "top", "Ground.top", defArgs s_Ground_top, defBody s_Ground_top, defScope s_Ground_top⟩
noncomputable def pp_Ground_spent : PrD := ⟨"Ground", "spent", "Ground.spent", defArgs s_Ground_spent, defBody s_Ground_spent, defScope s_Ground_spent⟩
noncomputable def pp_Ground_depth : PrD := ⟨"Ground", "depth", "Ground.depth", defArgs s_Ground_depth, defBody s_Ground_depth, defScope s_Ground_depth⟩
noncomputable def pp_Ground_budget : PrD := ⟨"Ground", "budget", "Ground.budget", defArgs s_Ground_budget, defBody s_Ground_budget, defScope s_Ground_budget⟩
noncomputable def prs : List PrD := [pp_Ground_top, pp_Ground_spent, pp_Ground_depth, pp_Ground_budget]
noncomputable def fn : List He.DefD := [dd_wall, dd_is_whole, dd_is_holder, dd_need, dd_need_whole, dd_is_word, dd_is_width, dd_is_budget, dd_law_draws, dd_law_next_cell, dd_law_mixed, dd_law_take, dd_law_among, dd_law_between, dd_law_count, dd_law_same, dd_law_holders, dd_law_holder, dd_law_word, dd_law_blank, dd_law_ground_deed, dd_law_deed_due, dd_law_deed_made, dd_law_kinds, dd_law_refused, dd_law_ended, dd_law_done, dd_law_ground_made, dd_law_cost_since, dd_law_charged, dd_law_end_right, dd_law_deed_right, dd_law_is_sound, dd_law_turn_right, dd_law_all_ended, dd_law, dd_BadValue, dd_Broken, dd_Unknown, dd_NotHeld, dd_Cut, dd_Ground_init, dd_Ground_need_place, dd_Ground_read, dd_Ground_write, dd_Ground_poke, dd_Ground_pass_on, dd_Ground_need_fill, dd_Ground_need_held, dd_Ground_image, dd_Ground_begin, dd_Ground_commit, dd_Ground_cancel, dd_Ground_change, dd_Ground_cost, dd_Ground_pass_out, dd_Ground_charge]
noncomputable def fa : List He.Fa := [.glo "_wall", .glo "is_whole", .glo "is_holder", .glo "need", .glo "need_whole", .glo "is_word", .glo "is_width", .glo "is_budget", .glo "_law_draws", .glo "_law_next_cell", .glo "_law_mixed", .glo "_law_take", .glo "_law_among", .glo "_law_between", .glo "_law_count", .glo "_law_same", .glo "_law_holders", .glo "_law_holder", .glo "_law_word", .glo "_law_blank", .glo "_law_ground_deed", .glo "_law_deed_due", .glo "_law_deed_made", .glo "_law_kinds", .glo "_law_refused", .glo "_law_ended", .glo "_law_done", .glo "_law_ground_made", .glo "_law_cost_since", .glo "_law_charged", .glo "_law_end_right", .glo "_law_deed_right", .glo "_law_is_sound", .glo "_law_turn_right", .glo "_law_all_ended", .glo "law", .int "MAP" 21, .int "MOST_BUDGET" 1000000000, .int "MOST_PAGES" 256, .int "MOST_WORD" 65535, .int "NOBODY" 0, .int "NODE" 28, .glo "WIDTHS", .glo "BadLine", .glo "BadValue", .glo "Broken", .glo "Cut", .glo "Fault", .glo "Ground", .glo "NoRoom", .glo "NotHeld", .glo "StoreError", .glo "Unknown", .free "ValueError", .free "bool", .free "dict", .free "int", .free "isinstance", .free "len", .free "list", .free "min", .free "range", .free "str", .free "tuple", .mkr "Ground", .meth "Ground" "_need_place", .meth "Ground" "read", .meth "Ground" "write", .meth "Ground" "poke", .meth "Ground" "pass_on", .meth "Ground" "_need_fill", .meth "Ground" "_need_held", .meth "Ground" "image", .meth "Ground" "begin", .meth "Ground" "commit", .meth "Ground" "cancel", .meth "Ground" "_change", .meth "Ground" "_cost", .meth "Ground" "_pass_out", .meth "Ground" "_charge", .cls "Ground", .noat "Ground" "pages", .noat "Ground" "width", .noat "Ground" "fill", .noat "Ground" "_budget", .noat "Ground" "_spent", .noat "Ground" "_words", .noat "Ground" "_holders", .noat "Ground" "_deeds"]
noncomputable def exs : List (PySem.W.Frag → Bool) := [fun K => oexB K (He.ga K "BadValue"),
  fun K => decide (PySem.W.findIn K (.ref (He.ga K "BadValue")) "__init__" = some (some (.ref (He.ma K (He.ga K "BadValue") "__init__")))),
  fun K => decide (PySem.W.typeIn K (.ref (He.ma K (He.ga K "BadValue") "__init__")) = some (.type "function")),
  fun K => decide (PySem.W.findIn K (.ref (He.ga K "BadValue")) "parameter" = some none),
  fun K => decide (PySem.W.findIn K (.ref (He.ga K "BadValue")) "told" = some none),
  fun K => xfB K (He.ga K "BadValue"),
  fun K => excdB K (He.ga K "BadValue"),
  fun K => decide (PySem.W.exmOne K (.ref (He.ga K "BadValue")) (.ref (He.ga K "BadValue")) = some true),
  fun K => decide (PySem.W.kitOne K (.ref (He.ga K "BadValue")) (.type "ValueError") = some true),
  fun K => decide (PySem.W.kitOne K (.ref (He.ga K "BadValue")) (.ref (He.ga K "StoreError")) = some true),
  fun K => decide (PySem.W.kitOne K (.ref (He.ga K "BadValue")) (.ref (He.ga K "BadValue")) = some true),
  fun K => decide (PySem.W.kitOne K (.ref (He.ga K "BadValue")) (.ref (He.ga K "Broken")) = some false),
  fun K => decide (PySem.W.kitOne K (.ref (He.ga K "BadValue")) (.ref (He.ga K "Unknown")) = some false),
  fun K => decide (PySem.W.kitOne K (.ref (He.ga K "BadValue")) (.ref (He.ga K "NotHeld")) = some false),
  fun K => decide (PySem.W.kitOne K (.ref (He.ga K "BadValue")) (.ref (He.ga K "Fault")) = some false),
  fun K => decide (PySem.W.kitOne K (.ref (He.ga K "BadValue")) (.ref (He.ga K "NoRoom")) = some false),
  fun K => decide (PySem.W.kitOne K (.ref (He.ga K "BadValue")) (.ref (He.ga K "Cut")) = some false),
  fun K => decide (PySem.W.kitOne K (.ref (He.ga K "BadValue")) (.ref (He.ga K "BadLine")) = some false),
  fun K => decide (PySem.W.exmOne K (.ref (He.ga K "Broken")) (.ref (He.ga K "Broken")) = some true),
  fun K => decide (PySem.W.exmOne K (.ref (He.ga K "Broken")) (.ref (He.ga K "NotHeld")) = some false),
  fun K => decide (PySem.W.exmOne K (.ref (He.ga K "Broken")) (.ref (He.ga K "Unknown")) = some false),
  fun K => decide (PySem.W.exmOne K (.ref (He.ga K "Unknown")) (.ref (He.ga K "Broken")) = some false),
  fun K => decide (PySem.W.exmOne K (.ref (He.ga K "Unknown")) (.ref (He.ga K "NotHeld")) = some false),
  fun K => decide (PySem.W.exmOne K (.ref (He.ga K "Unknown")) (.ref (He.ga K "Unknown")) = some true),
  fun K => decide (PySem.W.exmOne K (.ref (He.ga K "NotHeld")) (.ref (He.ga K "Broken")) = some false),
  fun K => decide (PySem.W.exmOne K (.ref (He.ga K "NotHeld")) (.ref (He.ga K "NotHeld")) = some true),
  fun K => decide (PySem.W.exmOne K (.ref (He.ga K "NotHeld")) (.ref (He.ga K "Unknown")) = some false),
  fun K => decide (PySem.W.exmOne K (.ref (He.ga K "Cut")) (.ref (He.ga K "Broken")) = some false),
  fun K => decide (PySem.W.exmOne K (.ref (He.ga K "Cut")) (.ref (He.ga K "NotHeld")) = some false),
  fun K => decide (PySem.W.exmOne K (.ref (He.ga K "Cut")) (.ref (He.ga K "Unknown")) = some false),
  fun K => exvB K "Broken" ["place", "found", "due"] 1,
  fun K => exvB K "Unknown" ["parameter"] 2,
  fun K => exvB K "NotHeld" ["place", "found"] 3,
  fun K => exvB K "Cut" ["needed", "left"] 6,
  fun K => He.tupB K "WIDTHS" [.int 16, .int 32, .int 64]]
noncomputable def names : List Str := (["_wall", "is_whole", "is_holder", "need", "need_whole", "is_word", "is_width", "is_budget", "_law_draws", "_law_next_cell", "_law_mixed", "_law_take", "_law_among", "_law_between", "_law_count", "_law_same", "_law_holders", "_law_holder", "_law_word", "_law_blank"] : List Str) ++ (["_law_ground_deed", "_law_deed_due", "_law_deed_made", "_law_kinds", "_law_refused", "_law_ended", "_law_done", "_law_ground_made", "_law_cost_since", "_law_charged", "_law_end_right", "_law_deed_right", "_law_is_sound", "_law_turn_right", "_law_all_ended", "StoreError", "BadValue", "Broken", "Unknown", "NotHeld"] : List Str) ++ (["Fault", "NoRoom", "Cut", "BadLine", "Ground", "MOST_WORD", "NOBODY", "MAP", "NODE", "WIDTHS", "MOST_PAGES", "MOST_BUDGET"] : List Str)
noncomputable abbrev R : PySem.W.OpenRow := PySem.W.OpenLaw.row PySem.Challenge.rw_allgivenback_k12_nested_cancel
noncomputable abbrev hk : PySem.W.Hook := hookP 6 fa fn prs (fun K => exs.all fun e => e K)
noncomputable def ob (s : PySem.W.SharedT) : AlP := obsP 6 fa fn prs (fun K => exs.all fun e => e K) (HandSHeadRun.getT s)
theorem ob_eq (s : PySem.W.SharedT) : ob s = hk.obs s.abs := obsP_eq (HandSHeadRun.getT_eq s)
noncomputable abbrev Q57 : Program := PySem.W.view R.prog [57]
theorem run_a (w : World) : LL.RunA R (PySem.W.view R.prog [57]) 40000 names w := by
  intro os
  kernel_rfl
theorem run_d (w : World) : LL.RunOne R 40000 (fun s => He.obsD fa fn (He.frG (HandSHeadRun.getT s) (He.asD (HandSHeadRun.getT s) 6))) (He.valD fn) w := by
  intro os
  kernel_rfl
theorem run_x (w : World) : LL.RunOne R 40000 (fun s => ((exs.all (fun e => e (He.frG (HandSHeadRun.getT s) (He.asD (HandSHeadRun.getT s) 6))) && prs.all fun d => d.ok (He.frG (HandSHeadRun.getT s) (He.asD (HandSHeadRun.getT s) 6))), prs.map fun d => gW (He.frG (HandSHeadRun.getT s) (He.asD (HandSHeadRun.getT s) 6)) d)) (true, prs.map PrD.val) w := by
  intro os
  kernel_rfl
theorem run (w : World) : HandSHeadRun.RunEq R (PySem.W.view R.prog [57]) hk ob 40000 names w := LL.run_parts (run_a w) (run_d w) (run_x w)
end K12

namespace LL
open PySem PySem.Spec PyProof.Rows L2 L2H
/-! ### for x in e, e a list or a tuple -/
def iSeq (K : PySem.W.Frag) (te : TE) : TI := fun σ H R => te σ H fun x H1 => ∃ a, x = .ref a ∧ (((∃ xs, SqL K H1 a xs) ∧ R (Itl K a) H1) ∨ ((∃ xs, SqT K H1 a xs) ∧ R (Itt K a) H1))
theorem pi_seq {X : Cx} {tg l : Expr} {te : TE} (hl : PE X l te) : PI X tg l (iSeq X.K te) := by
  refine ⟨fun pins s σ H R I h => thn (hl.run pins s σ H _ I h) fun v s1 hh => ?_⟩
  obtain ⟨x, H1, I1, r1, a, ex, q⟩ := hh
  subst ex
  obtain rfl : v = Value.ref a := r1
  rcases q with ⟨⟨xs, hq⟩, q⟩ | ⟨⟨xs, hq⟩, q⟩
  · obtain ⟨its, rv, pl, hz⟩ := I1.list hq
    refine wpAny_pyIter_list pl.isList ⟨s1.heap.objs.size, [s1.heap.objs.size], _, _, H1, rfl, I1.kept (t' := s1.toks) fun b o e => Heap.get?_push_of_some _ e, turn_list a _, ⟨_, Heap.get?_push_size _ rfl, rfl, rfl⟩, fun b hb => ?_, q⟩
    rw [show b = s1.heap.objs.size by simpa using hb]
    exact I1.fpOk (Nat.le_refl _) (I1.hok.fresh (Nat.le_refl _))
  · obtain ⟨its, rv, pl, hz⟩ := I1.tuple hq
    refine wpAny_pyIter_tuple (show s1.heap.IsTuple a its.toArray from pl) ⟨s1.heap.objs.size, [s1.heap.objs.size], _, _, H1, rfl, I1.kept (t' := s1.toks) fun b o e => Heap.get?_push_of_some _ e, turn_tuple a _, ⟨_, Heap.get?_push_size _ rfl, rfl, rfl⟩, fun b hb => ?_, q⟩
    rw [show b = s1.heap.objs.size by simpa using hb]
    exact I1.fpOk (Nat.le_refl _) (I1.hok.fresh (Nat.le_refl _))
theorem use_forS {K : PySem.W.Frag} {te : TE} {a : Addr} {xs : List V} {g : TG} {tb : TS} {D : Ends} {σ : L2.St} {H : Hp} (ht : ∀ Q : VK, Q (.ref a) H → te σ H Q) (Pv : Nat → L2.St → Hp → Prop) (h0 : Pv 0 σ H)
    (hl : (∀ i σ H, i ≤ xs.length → Pv i σ H → SqL K H a xs) ∨ (∀ i σ H, i ≤ xs.length → Pv i σ H → SqT K H a xs))
    (hs : ∀ i x σ H, xs[i]? = some x → Pv i σ H → g x σ H fun σ2 H2 => tb { D with nx := Pv (i + 1), ct := Pv (i + 1), bk := D.nx } σ2 H2) (hd : ∀ σ H, Pv xs.length σ H → D.nx σ H) : tFor (iSeq K te) g tb D σ H := by
  rcases hl with hl | hl
  · exact ht _ ⟨a, rfl, .inl ⟨⟨xs, hl 0 σ H (Nat.zero_le _) h0⟩, for_list Pv h0 hl hs hd⟩⟩
  · exact ht _ ⟨a, rfl, .inr ⟨⟨xs, hl 0 σ H (Nat.zero_le _) h0⟩, for_tup Pv h0 hl hs hd⟩⟩
/-- x is True, x is False, x plain data -/
def okIs : V → Bool
  | .non => true
  | .bl _ => true
  | .int _ => true
  | .str _ => true
  | .ref _ => true
  | _ => false
def rIsBx : R2 := fun x y H Q => ∃ b : Bool, y = .bl b ∧ okIs x = true ∧ Q (.bl (decide (x = .bl b))) H
theorem op_isB {X : Cx} : OpR X (compareOp .Is) rIsBx := by
  rintro pins s σ H x y v u Q I rx ry ⟨b, rfl, hx, q⟩
  obtain rfl : u = Value.bool b := ry
  by_cases e : x = .bl b
  · subst e
    obtain rfl : v = Value.bool b := rx
    exact wpAny_is_self rfl ⟨.bl true, H, I, rfl, by simpa using q⟩
  · have q := q
    cases x with
    | non =>
      obtain rfl : v = Value.none := rx
      exact wpAny_is_other rfl (by intro z; cases z) ⟨.bl false, H, I, rfl, by simpa [e] using q⟩
    | bl a =>
      obtain rfl : v = Value.bool a := rx
      exact wpAny_is_other rfl (fun z => e (congrArg V.bl (Value.bool.inj z))) ⟨.bl false, H, I, rfl, by simpa [e] using q⟩
    | int i =>
      obtain ⟨t, rfl⟩ := rx
      exact wpAny_is_other rfl (by intro z; cases z) ⟨.bl false, H, I, rfl, by simpa [e] using q⟩
    | str i =>
      obtain ⟨t, rfl⟩ := rx
      exact wpAny_is_other rfl (by intro z; cases z) ⟨.bl false, H, I, rfl, by simpa [e] using q⟩
    | ref a =>
      obtain rfl : v = Value.ref a := rx
      exact wpAny_is_other rfl (by intro z; cases z) ⟨.bl false, H, I, rfl, by simpa [e] using q⟩
    | _ => cases hx
theorem dt_okIs {F : Addr → Prop} {H : Hp} {v : V} {t : T} (h : Dt F H v t) : okIs v = true := by
  cases t with
  | non => rw [show v = _ from h]; rfl
  | bl b => rw [show v = _ from h]; rfl
  | int i => rw [show v = _ from h]; rfl
  | str x => rw [show v = _ from h]; rfl
  | lst ts =>
    obtain ⟨a, xs, rfl, _⟩ := h
    rfl
  | tup ts =>
    obtain ⟨a, xs, rfl, _⟩ := h
    rfl
  | dic t =>
    obtain ⟨a, x, rfl, _⟩ := h
    rfl
end LL

namespace LL
open PySem PySem.Spec PyProof.Rows L2 L2H
/-! ### name = {k: v for ..}, the name a local -/
theorem sw_trueD {kx vx : Expr} {gs : List Comprehension} {scope : Scope} {pos py : Pos} {y : Str} {l : Nat} {env : Env} (hk : env.scope.kind = .function) (hy : env.scope.names.lookup y = some .local) (hl : (py.line == pos.line) = true)
    (ha : (scope.names.any fun (n, k) => n == y && (k == .local || k == .cell)) = false) : swapsWith (.DictComp kx vx gs scope pos) (some (.Name y py)) l env = pure true := by
  have k1 : env.kindOf y = some .local := hy
  have k2 : env.blockKind = .function := by
    unfold Env.blockKind
    rw [hk]
    rfl
  unfold swapsWith
  simp only [k2, k1, ha, Expr.pos, hl]
  rfl
theorem ps_setDc {X : Cx} {i : Nat} {y : Str} {py : Pos} {kx vx tg iter : Expr} {ifs : List Expr} {scope : Scope} {own : List (Str × Nat)} {pos spos : Pos} {wi : TI} {g : TG} {tt : TT} {tk tv : TE} (hc : X.calm = true) (hN : X.N.Nodup) (hy : X.N[i]? = some y) (hyl : X.env.scope.names.lookup y = some .local)
    (hsw : swapsWith (.DictComp kx vx [⟨tg, iter, ifs, 0⟩] scope pos) (some (.Name y py)) spos.line X.env = pure true) (hi : PI X tg iter wi) (ok : BlkOk X.N X.env.scope scope own)
    (hg : ∀ (s : Shared) (H : Hp) (C : Addr) (cl : List (Str × Addr)) (fp : List Addr), PG (X.blk s H scope (compEnvC scope cl C X.env) fp) tg g) (ht : ∀ (s : Shared) (H : Hp) (C : Addr) (cl : List (Str × Addr)) (fp : List Addr), PTs (X.blk s H scope (compEnvC scope cl C X.env) fp) ifs tt)
    (hk : ∀ (s : Shared) (H : Hp) (C : Addr) (cl : List (Str × Addr)) (fp : List Addr), PE (X.blk s H scope (compEnvC scope cl C X.env) fp) kx tk) (he : ∀ (s : Shared) (H : Hp) (C : Addr) (cl : List (Str × Addr)) (fp : List Addr), PE (X.blk s H scope (compEnvC scope cl C X.env) fp) vx tv)
    (hs : ∀ x, foldedSetIterable iter X.env x = pure x := by intro _; rfl) :
    PS X (.Assign [.Name y py] (.DictComp kx vx [⟨tg, iter, ifs, 0⟩] scope pos) spos) (tAsg (tDc wi g tt tk tv (own.map (·.2))) (gName i)) := by
  refine ⟨fun pins s σ H D I h0 => ?_⟩
  rw [exec_Assign_Name_used _ _ _ _ hsw]
  refine wpAny_bind (wpAny_standAt (wpAny_bind ?_))
  show wpAny _ X.A (do let _ ← comprehension (.DictComp kx vx [⟨tg, iter, ifs, 0⟩] scope pos) scope X.env (firstIterPos [⟨tg, iter, ifs, 0⟩] pos) newDict false (eval iter X.env) (some (assign (.Name y py) X.env))) _ _ s
  have h1 : tDc wi g tt tk tv (own.map (·.2)) σ H (fun x H1 => gName i x σ H1 D.nx) := h0
  refine wpAny_bind (thn (dc_core (Qf := fun _ s' => SP X pins D .next s') hc hN I hi ok hg ht hk he hs h1 fun L C s' m H' I' q hn f => ?_) fun _ s' hq => wpAny_pure (wpAny_pure hq))
  show wpAny _ _ (assign (.Name y py) X.env (.ref L)) _ _ _
  refine wpAny_assign_Name (store_ok2 (v := V.ref L) I' hN hy (.inl hyl) rfl (fun s2 I2 ⟨a, sb, ha⟩ => ?_) (.inr hyl))
  obtain ⟨f0, f1, f2, f3, f4, f5⟩ := f
  have hCa : C ≠ a := ha.elim (fun z => by rw [z]; exact f1) fun z e => f4 y a z e.symm
  exact ⟨m, hn.sameBut sb hCa, fun h3 sb3 => ⟨_, H', I2.turned (t' := s2.toks) (fun b o hb e => (sb3.2 b hb).trans e) f0 f1 f3 f4 f5, q⟩⟩
end LL

/-! set(t) of a tuple of ints of which few differ; sorted of a set of any size -/
namespace LL
open PySem PySem.Spec PyProof.Rows L2
theorem nodup_le : ∀ {l ds : List Int}, l.Nodup → (∀ k ∈ l, k ∈ ds) → l.length ≤ ds.length
  | [], _, _, _ => Nat.zero_le _
  | x :: l, ds, h, s => by
    obtain ⟨h1, h2⟩ := List.nodup_cons.mp h
    have hx := s x List.mem_cons_self
    have ih := nodup_le (ds := ds.erase x) h2 fun k hk => (List.mem_erase_of_ne (fun e : k = x => h1 (by rw [← e]; exact hk))).mpr (s k (List.mem_cons_of_mem _ hk))
    rw [List.length_erase_of_mem hx] at ih
    have := List.length_pos_of_mem hx
    simp only [List.length_cons]
    omega
theorem setR_le {w : World} {h : Heap} {a : Addr} {S : Int → Bool} {n : Nat} {ds : List Int} (R : SetR w h a S n) (s : ∀ k, S k = true → k ∈ ds) : n ≤ ds.length := by
  obtain ⟨o, es, ep, t, ho, hex, hd, g, nd, hm, hb, hf, hn, hr, hl⟩ := R
  have := nodup_le nd fun k hk => s k ((hm k).mpr hk)
  rw [List.length_map, Array.length_toList, hn] at this
  exact this
section
variable {P : Program} {w : World} {A : Around} {E : Value → Shared → Prop} {s : Shared}
/-- the turns of the update, counted by the different ones -/
theorem upd_few {I : Addr} {fp wr : List Addr} {G : Array GenState → Array GenState → Prop} {n : Nat} {Pv : Nat → Value → Prop} {St : Nat → Shared → Prop} {R : Result → Shared → Prop} {S : Addr} {ns ds : List Int}
    (W : WalksS P w A.in1 I fp wr G n Pv St) (out : S ∉ fp) (hn : n = ns.length) (few : ds.length + 1 < scanBound) (sub : ∀ k ∈ ns, k ∈ ds) (item : ∀ i v, Pv i v → ∃ k t, ns[i]? = some k ∧ v = .int k t) (m : Nat) :
    ∀ (i : Nat) (s : Shared), n - i = m → i ≤ n → St i s → (∃ c, SetR w s.heap S (fun j => decide (j ∈ ns.take i)) c) → (∀ s' c, Moved (S :: wr) G s s' → SetR w s'.heap S (fun j => decide (j ∈ ns)) c → R (.ok (.ret .none)) s') → codeAny (model P w) A (.builtin "set.update.loop" ⟨[.ref S, .ref I], []⟩) R s := by
  have wS : S ∉ wr := fun h => out (W.sub _ h)
  have wr' : ∀ b ∈ wr, b ∈ S :: wr := fun b hb => List.mem_cons_of_mem _ hb
  induction m with
  | zero =>
    rintro i s hk hi hst ⟨c, hS⟩ hR
    obtain rfl : i = n := by omega
    refine codeAny_builtin F.entry_set_update_loop ?_
    rw [Around.under_plainId F.plain_set_update_loop _] ; show wpAny _ A.in1 (pyNext (.ref I) >>= _) _ _ s
    refine wpAny_bind (W.done s _ _ hst fun s1 mv => ?_)
    show wpAny _ A.in1 (ret Value.none) _ _ s1
    rw [List.take_of_length_le (Nat.le_of_eq hn.symm)] at hS
    exact wpAny_pure (hR s1 c (mv.mono wr') (hS.at fun o e => mv.heap S o wS e))
  | succ m ih =>
    rintro i s hk hi hst ⟨c, hS⟩ hR
    refine codeAny_builtin F.entry_set_update_loop ?_
    rw [Around.under_plainId F.plain_set_update_loop _] ; show wpAny _ A.in1 (pyNext (.ref I) >>= _) _ _ s
    refine wpAny_bind (W.item i s _ _ (by omega) hst fun v s1 pv st1 mv => ?_)
    obtain ⟨z, t, hz, rfl⟩ := item i v pv
    have S1 : SetR w s1.heap S (fun j => decide (j ∈ ns.take i)) c := hS.at fun o e => mv.heap S o wS e
    have c1 : c ≤ ds.length := setR_le S1 fun k hk => sub k (List.mem_of_mem_take (of_decide_eq_true hk))
    show wpAny _ A.in1 (holding [Value.int z t] (setAdd S (.int z t)) >>= _) _ _ s1
    refine wpAny_bind (wpAny_holding ?_) ; unfold setAdd ; refine wpAny_holding (wpAny_bind ((intKind P w).pyHash (k := z) (intKind_is _ _ _ _) ?_))
    refine setR_add_hashed (s := { s1 with toks := s1.toks + 1 }) S1 (by omega) fun h2 same S2 => ?_
    have S3 : SetR w h2 S (fun j => decide (j ∈ ns.take (i + 1))) _ := S2.congr fun j => by rw [List.take_add_one, hz] ; simp [List.mem_append]
    have other : ∀ b o, b ≠ S → s1.heap.get? b = some o → h2.get? b = some o := fun b o hb e => by rw [same.2 b hb] ; exact e
    refine wpAny_pure ⟨plainId_quiet F.plain_set_update_loop _, ih (i + 1) _ (by omega) (by omega) (W.frame _ s1 _ _ st1 (Nat.le_succ _) fun b hb o e => other b o (fun z => out (z ▸ hb)) e) ⟨_, S3⟩ fun s2 c2 m2 S4 => hR s2 c2 (Moved.trans W.gtrans ((mv.mono wr').then_heap (Nat.le_succ _) fun b o hb e => other b o (fun z => hb (z ▸ List.mem_cons_self)) e) m2) S4⟩
/-- the object of an empty set -/
abbrev emp (w : World) : Obj := { cls := .type "set", dict := none, data := .set #[] 0 (.fresh 0 0 (!w.params.followText "set-order")) }
set_option maxHeartbeats 8000000 in
theorem call_set_few {l : Addr} {items : Array Value} {ns ds : List Int} {Q : Value → Shared → Prop} (hh : A.handled = none) (hl : s.heap.IsTuple l items) (hit : IntsAre items.toList ns) (few : ds.length + 1 < scanBound) (sub : ∀ k ∈ ns, k ∈ ds)
    (h : ∀ (h' : Heap) (tk c : Nat), SetR w h' s.heap.objs.size (fun j => decide (j ∈ ns)) c → (∀ b o, s.heap.get? b = some o → h'.get? b = some o) → Q (.ref s.heap.objs.size) { s with heap := h', toks := tk }) : wpAny (model P w) A (call (.type "set") [.ref l]) Q E s := by
  have size : items.size = ns.length := by have q := IntsAre.length hit ; rw [Array.length_toList] at q ; exact q
  obtain ⟨c, tl, f0⟩ := F.called_set.mro
  have f1 := F.called_set.made ; have f2 := F.called_set.sub ; have f3 := F.called_set.notType ; have f4 := F.called_set.canCreate ; have f5 := F.typeCall_set_1 (.ref l)
  refine wpAny_call (codeAny_of_tree ?_) ; show wpAny _ _ (callAny (.type "set") _) _ _ _
  refine wpAny_pure ⟨Code.quiet_builtin _ (by decide +kernel), codeAny_builtin F.entry_type_call ?_⟩ ; rw [Around.under_plain (weight_type_call_type "set" [.ref l] []) rfl]
  repeat (any_goals (first | assumption | wp_step)) ; skip
  refine codeAny_mono (code_set_led1 (.ref l) (E := E) (Q₁ := fun obj z => obj = .ref s.heap.objs.size ∧ z = { s with heap := s.heap.push (emp w) }) ⟨rfl, rfl⟩) fun r z hr => ?_
  match r, hr with
  | .error e, hr => exact hr
  | .ok .next, hr => exact hr.elim
  | .ok .brk, hr => exact hr.elim
  | .ok .cont, hr => exact hr.elim
  | .ok (.ret obj), hr =>
    obtain ⟨rfl, rfl⟩ := hr
    have set0 : (s.heap.push (emp w)).get? s.heap.objs.size = some (emp w) := Heap.get?_push_size _ rfl
    have type0 : Shared.TypeIs { s with heap := s.heap.push (emp w) } (.ref s.heap.objs.size) "set" := ⟨_, set0, rfl⟩
    have g1 := F.called_set.init.lookup ; have g2 := F.called_set.init.bind (.ref s.heap.objs.size)
    repeat (any_goals (first | assumption | wp_step)) ; skip
    refine codeAny_mono (codeAny_call_builtin (R := wants (fun r z => r = .none ∧ ∃ h' tk c, z = { s with heap := h', toks := tk } ∧ SetR w h' s.heap.objs.size (fun j => decide (j ∈ ns)) c ∧ (∀ b o, s.heap.get? b = some o → h'.get? b = some o)) E) F.called_set.init.plain F.entry_set_init (check_set_init_1 type0 ?_)) fun r z hr => ?_
    · obtain ⟨⟨c0, d0, t0, k0⟩, got, e1, len, e2⟩ := hl
      simp only at e1 e2 ; subst e1 ; subst e2
      have got' : (s.heap.push (emp w)).get? l = some { cls := .type "tuple", dict := d0, data := .seq items len, slots := k0 } := Heap.get?_push_of_some _ got
      have k1 := F.sub_tuple_set ; have k2 := F.sub_tuple_frozenset ; have k3 : (Value.type "tuple" == Value.type "dict") = false := by decide
      have tup : (s.heap.push (emp w)).IsTuple l items := ⟨_, got', rfl, len, rfl⟩
      unfold Builtin.«set.__init__» noKeywords Builtin.Frozenset.updateFrom ; generalize it : pyIter = PI ; wp_walk ; subst it
      refine wpAny_pyIter_tuple tup (wpAny_bind (wpAny_runValue ?_))
      have lt : l < s.heap.objs.size := Heap.lt_size got
      have hd : A.in1.in1.in1.handled = none := by simp [hh]
      have n1 : l ≠ (s.heap.push (emp w)).objs.size := by rw [Heap.size_push] ; exact Nat.ne_of_lt (Nat.lt_succ_of_lt lt)
      have n2 : s.heap.objs.size ∉ [(s.heap.push (emp w)).objs.size, l] := by rw [Heap.size_push] ; simp ; exact fun z => absurd (z ▸ lt) (Nat.lt_irrefl _)
      refine upd_few (ds := ds) ((Walks.tuple hd _ l n1 items).toS) (S := s.heap.objs.size) n2 size few sub (fun i v hv => ?_) (items.size - 0) 0 _ (by omega) (Nat.zero_le _) ⟨⟨_, Heap.get?_push_size _ rfl, rfl, rfl⟩, (tup.push _)⟩ ⟨0, setR_new_at (Heap.get?_push_of_some _ set0)⟩ ?_
      · have hi : i < ns.length := by rw [← size] ; exact (Array.getElem?_eq_some_iff.mp hv).1
        obtain ⟨t, e⟩ := PyProof.Rows.IntsAre.int_at hit i v (by rw [Array.getElem?_toList] ; exact hv)
        exact ⟨ns[i], t, List.getElem?_eq_getElem hi, by rw [e, List.getD_eq_getElem?_getD, List.getElem?_eq_getElem hi] <;> rfl⟩
      · rintro ⟨h2, g2, d2, tk2, o2⟩ c2 mv S2
        obtain rfl : g2 = s.gens := mv.gens ; obtain rfl : d2 = s.drawn := mv.drawn ; obtain rfl : o2 = s.os := mv.os
        show wpAny _ _ _ _ _ _ ; refine wpAny_pure ?_ ; show wpAny _ _ (ret Value.none) _ _ _
        refine wpAny_pure ⟨rfl, h2, tk2, c2, rfl, S2, fun b o e => mv.heap b o ?_ (Heap.get?_push_of_some _ (Heap.get?_push_of_some _ e))⟩
        have lb := Heap.lt_size e ; rw [Heap.size_push] ; simp ; exact ⟨Nat.ne_of_lt lb, Nat.ne_of_lt (Nat.lt_succ_of_lt lb)⟩
    · match r, hr with
      | .error e, hr => exact hr
      | .ok .next, hr => exact hr.elim
      | .ok .brk, hr => exact hr.elim
      | .ok .cont, hr => exact hr.elim
      | .ok (.ret u), hr =>
        obtain ⟨rfl, h2, tk2, c2, rfl, S2, k⟩ := hr
        repeat (any_goals (first | assumption | wp_step)) ; skip
        exact h _ _ _ S2 k
/-- sorted of a set, of any size -/
theorem sorted_setN {a : Addr} {S : Int → Bool} {n : Nat} {Q : Value → Shared → Prop} (R : SetR w s.heap a S n) (hh : A.handled = none)
    (hQ : ∀ s' p (out : Array Value) (c : Nat) (ns : List Int), (∀ b o, s.heap.get? b = some o → s'.heap.get? b = some o) → s'.gens = s.gens → s'.os = s.os → s.heap.objs.size ≤ p → s'.heap.get? p = some (seqObj "list" out c) → IntsAre out.toList ns → ns.Pairwise (· < ·) → (∀ k, k ∈ ns ↔ S k = true) → ns.length ≤ sizeLine → Q (.ref p) s') :
    wpAny (model P w) A (call (.builtin "sorted") [.ref a]) Q E s := by
  obtain ⟨o, es, ep, t, ho, hex, hd, g, nd, hm, hb, hf, hn, hr, hl⟩ := R
  refine Calls.call_function_entry kind_sorted plain_sorted entry_sorted (args_sorted1 _) ?_ ; unfold Builtin.«sorted»
  refine wpAny_bind (m := checkCount "sorted" 1 1 _) (wpAny_pure (wpAny_bind (collect_set (A := A.in1) hh ⟨o, ho, hex.1, hd⟩ hf hb hr hl fun s1 vs k1 hz g1 o1 pm => ?_)))
  have len : vs.length = es.size := by rw [pm.length_eq, List.length_map, Array.length_toList]
  have line : vs.length ≤ sizeLine := by rw [len] ; exact fits_of_scanBound hb
  have ivs : IntsAre vs (vs.map Builtin.Re.reRawOf) := ints_of vs fun v hv => by
    obtain ⟨e, he, q⟩ := List.mem_map.mp (pm.mem_iff.mp hv) ; obtain ⟨k, tk, h1, _⟩ := g e he ; exact ⟨k, tk, by rw [← q] ; exact h1⟩
  have perm : (vs.map Builtin.Re.reRawOf).Perm (es.toList.map keyOf) := by have q := pm.map Builtin.Re.reRawOf ; rw [List.map_map] at q ; exact q
  refine wpAny_bind (wpAny_newList ?_ line)
  have lst0 : (s1.heap.push (seqObj "list" vs.toArray 0)).get? s1.heap.objs.size = some (seqObj "list" vs.toArray 0) := Heap.get?_push_size _ rfl
  refine wpAny_bind (wpAny_holding (wpAny_call_entry slot_list_sort ⟨_, lst0, rfl⟩ entry_list_sort (SrtO.list_sort_ord SrtO.swo_int lst0 line (fun h2 => SrtO.ints_sortable ivs h2) fun out a1 a2 => ⟨_, rfl, ?_⟩) (args_list_sort _)))
  obtain ⟨k1', k2, k3⟩ := SrtO.ints_out ivs a1 a2
  obtain ⟨c, hc⟩ := sortedHeap_at (vs := vs) (out := out.toArray) lst0
  have pn := k2.trans perm
  refine wpAny_pure ⟨_, rfl, hQ _ s1.heap.objs.size out.toArray c _ (fun b u e => ?_) g1 o1 hz hc k1' (lt_of_le_nodup _ k3 (pn.nodup_iff.mpr nd)) (fun k => by rw [pn.mem_iff, ← hm k]) (by rw [k2.length_eq, List.length_map] ; exact line)⟩
  have lt := Heap.lt_size (k1 b u e)
  show (sortedHeap (s1.heap.push (seqObj "list" vs.toArray 0)) s1.heap.objs.size vs out.toArray).get? b = some u
  rw [sortedHeap_old (Nat.ne_of_lt lt) (by rw [size_push'] ; exact Nat.lt_succ_of_lt lt)] ; exact Heap.get?_push_of_some _ (k1 b u e)
end
section
variable {X : Cx}
/-- set(t), t a tuple of ints, each of them in ds -/
def rSetT (K : PySem.W.Frag) (w : World) : List V → Hp → VK → Prop := fun xs H Q => ∃ (p : Addr) (ns ds : List Int), xs = [.ref p] ∧ SqT K H p (ns.map V.int) ∧ ds.length + 1 < scanBound ∧ (∀ k ∈ ns, k ∈ ds) ∧ ∀ a c, H a = none → Q (.ref a) (upd H a (SetO w a (fun j => decide (j ∈ ns)) c))
theorem cr_setT (hc : X.calm = true) : CallR X (.type "set") (rSetT X.K X.w) := by
  rintro pins s σ H xs us Q I r ⟨p, ns, ds, rfl, hs, few, sub, q⟩
  obtain ⟨its, rv, pt, hz⟩ := I.tuple hs
  rw [Vals.ref1 r]
  refine call_set_few (ds := ds) (I.ok.hd hc) (show s.heap.IsTuple p its.toArray from pt) rv.ints few sub fun h' tk c R k => ?_
  have hn : H s.heap.objs.size = none := I.hok.fresh (Nat.le_refl _)
  exact ⟨.ref _, upd H s.heap.objs.size (SetO X.w s.heap.objs.size _ c), I.laid (t' := tk) k (Nat.le_refl _) (setO_new R), rfl, q _ c hn⟩
/-- sorted(a set) -/
def rSortS (w : World) : List V → Hp → VK → Prop := fun vs H Q => ∃ (a : Addr) (S : Int → Bool) (n : Nat), vs = [V.ref a] ∧ H a = some (SetO w a S n) ∧ ∀ (ns : List Int) (p : Addr), ns.Pairwise (· < ·) → (∀ k : Int, k ∈ ns ↔ S k = true) → H p = none → Q (.ref p) (upd H p (.lst (ns.map V.int)))
theorem cr_sortS (hc : X.calm = true) : CallR X (.builtin "sorted") (rSortS X.w) := by
  rintro pins s σ H vs us Q I r ⟨a, S, n, rfl, ha, q⟩
  rw [Vals.ref1 r]
  refine sorted_setN (setO_get I ha) (I.ok.hd hc) fun s' p out c ns k g o hp hg hi hs hm hl => ?_
  have hn : H p = none := I.hok.fresh hp
  have hlen : (ns.map V.int).length ≤ sizeLine := by rw [List.length_map] ; exact hl
  have J : Inv X pins σ (upd H p (.lst (ns.map V.int))) { s with heap := s'.heap, gens := s'.gens, drawn := s'.drawn, toks := s'.toks } := I.call (ch := []) (Un.laid k hp hn) (I.hok.laid k hp ⟨hlen, out.toList, c, vals_of_ints hi, hg⟩) (by rw [g] ; exact I.bare) (fun _ z => nomatch z)
  have e : s' = { s with heap := s'.heap, gens := s'.gens, drawn := s'.drawn, toks := s'.toks } := by cases s' ; cases s ; cases o ; rfl
  rw [e]
  exact ⟨.ref p, _, J, rfl, q ns p hs hm hn⟩
/-- t * n, a great number of items -/
def rRepW (K : PySem.W.Frag) : R2 := fun x y H Q => ∃ l k xs, x = .ref l ∧ y = .int k ∧ SqT K H l xs ∧ xs ≠ [] ∧ 2 ≤ k ∧ xs.length * k.toNat ≤ 1000000 ∧ ∀ p, H p = none → Q (.ref p) (upd H p (.tup (List.replicate k.toNat xs).flatten))
theorem op_repW : OpR X (binaryOp .Mult) (rRepW X.K) := by
  rintro pins s σ H x y v u Q I rx ry ⟨l, k, xs, rfl, rfl, hT, ne, two, size, q⟩
  cases rx ; obtain ⟨t, rfl⟩ := ry
  obtain ⟨its, r, ⟨⟨cls, dd, data, sl⟩, ho, hc, n, hd⟩, hs⟩ := I.tuple hT
  simp only at hc hd ; subst hc hd
  have len : its.length = xs.length := r.length.symm
  have pos : 0 < xs.length := List.length_pos_iff.mpr ne
  obtain ⟨m, rfl⟩ : ∃ m : Nat, k = m := ⟨k.toNat, by omega⟩
  rw [Int.toNat_natCast] at size q
  have less : m ≤ 1000000 := Nat.le_trans (Nat.le_mul_of_pos_left m pos) size
  have e0 : its.toArray.isEmpty = false := by cases its with | nil => rw [← len] at pos ; exact absurd pos (Nat.lt_irrefl 0) | cons a b => rfl
  have mul : ((its.toArray.size : Nat) : Int) * (m : Int) ≤ 1000000 := by rw [List.size_toArray, len] ; exact (Int.natCast_mul xs.length m) ▸ Int.ofNat_le.mpr size
  have flat : (List.replicate m its).flatten.length ≤ sizeLine := by rw [PyProof.Rows.lm_len_rep_flat, len, sizeLine_eq, Nat.mul_comm] ; omega
  have w1 : (decide ((m : Int) < -(2 ^ 63)) || decide ((m : Int) ≥ 2 ^ 63)) = false := by rw [decide_eq_false (by omega), decide_eq_false (by omega)] ; rfl
  have w2 : (its.toArray.isEmpty || (m : Int) == 1) = false := by rw [e0, Bool.false_or] ; exact beq_eq_false_iff_ne.mpr (by omega)
  have w3 : (decide ((m : Int) ≤ 0) || its.toArray.isEmpty) = false := by rw [e0, Bool.or_false] ; exact decide_eq_false (by omega)
  have w4 : Builtin.Tuple.tupleTooMany (((its.toArray.size : Nat) : Int) * (m : Int)) = false := by unfold Builtin.Tuple.tupleTooMany ; rw [sizeLine_eq] ; exact decide_eq_false (by omega)
  have made := tuple_mulW l its.toArray n dd sl m t w1 w2 w3 (by omega) w4 (by rw [Int.toNat_natCast, size_rep, List.size_toArray] ; exact flat)
  refine wpAny_binaryOp_repeat_ref (T := "tuple") (U := "int") (by decide) ⟨_, ho, rfl⟩ (fun s' => typeIs_int s' m t) noFill_tuple_mul F.fills_int_mul F.slot_int_rmul repeat_tuple F.slot_int_index.lookup (call_meets F.slot_int_rmul (typeIs_int s m t) F.entry_int_rmul (F.args_int_rmul_2 _ _) (int_rmul_tuple m t l its.toArray n dd sl) ⟨ho, rfl, ⟨_, ho, rfl⟩, call_meets F.slot_tuple_mul ⟨_, ho, rfl⟩ F.entry_tuple_mul (F.args_tuple_mul_2 _ _) made ⟨ho, ?_⟩⟩)
  rw [Int.toNat_natCast, size_rep]
  have val : Vals (List.replicate m xs).flatten (List.replicate m its).flatten := by
    clear made w1 w2 w3 w4 flat mul less two size q
    induction m with
    | zero => exact .nil
    | succ m ih => rw [List.replicate_succ, List.replicate_succ, List.flatten_cons, List.flatten_cons] ; exact r.append ih
  exact ⟨.ref s.heap.objs.size, _, I.laid (t' := s.toks) (o := .tup (List.replicate m xs).flatten) (fun b ob z => Heap.get?_push_of_some _ z) (Nat.le_refl _) ⟨by rw [val.length] ; exact flat, _, val, IsTup.new _ _⟩, rfl, q _ (I.hok.fresh (Nat.le_refl _))⟩
end
end LL

/-! sorted of rows of ints, of any number -/
namespace LL
open PySem PySem.Spec PyProof.Rows L2 PySem.W
def encR (b : V × List Int) : PyData := .tuple (b.2.map .int)
def leR (a b : List Int) : Bool := decide (a ≤ b)
theorem vals_each : ∀ {bs : List (V × List Int)} {us : List Value}, Vals (bs.map (·.1)) us → EachIs (fun v (b : V × List Int) => RelV b.1 v) us bs
  | [], us, h => by cases h ; exact .nil
  | b :: bs, us, h => by cases h with | cons r rr => exact .cons r (vals_each rr)
theorem each_vals : ∀ {bs : List (V × List Int)} {us : List Value}, EachIs (fun v (b : V × List Int) => RelV b.1 v) us bs → Vals (bs.map (·.1)) us
  | [], us, h => by cases h ; exact .nil
  | b :: bs, us, h => by cases h with | cons r rr => exact .cons r (each_vals rr)
theorem each_reads {X : Cx} {pins : List (Addr × Obj)} {σ : L2.St} {H : Hp} {s : Shared} (I : Inv X pins σ H s) : ∀ {bs : List (V × List Int)} {us : List Value}, (∀ b ∈ bs, Dp X.K H b.1 (encR b)) → Vals (bs.map (·.1)) us → EachIs (fun v b => ∃ as, Reads s.heap v (encR b) as) us bs
  | [], us, _, h => by cases h ; exact .nil
  | b :: bs, us, d, h => by cases h with | cons r rr => exact .cons (Dp.reads I _ _ _ (d b List.mem_cons_self) r) (each_reads I (fun c hc => d c (List.mem_cons_of_mem _ hc)) rr)
theorem dataLe_tup : dataLe false encR = fun a b => leR a.2 b.2 := by
  funext a b
  rw [dataLe_eq]
  show (!dataLt (.tuple (b.2.map .int)) (.tuple (a.2.map .int))) = _
  rw [show dataLt (.tuple (b.2.map .int)) (.tuple (a.2.map .int)) = rowLt (b.2.map .int) (a.2.map .int) from rfl, dataLt_ints]
  unfold leR
  by_cases h : a.2 ≤ b.2
  · rw [decide_eq_true h, decide_eq_false (fun z => h z)] ; rfl
  · rw [decide_eq_false h, decide_eq_true (Classical.not_not.mp h)] ; rfl
def rSortedR (K : PySem.W.Frag) : List V → Hp → VK → Prop := fun vs H Q => ∃ (a : Addr) (bs : List (V × List Int)), vs = [V.ref a] ∧ SqL K H a (bs.map (·.1)) ∧ (∀ b ∈ bs, Dp K H b.1 (encR b) ∧ b.2 ≠ []) ∧ ∀ p, H p = none → Q (.ref p) (upd H p (.lst ((bs.mergeSort fun a b => leR a.2 b.2).map (·.1))))
theorem cr_sortedR {X : Cx} (hu : X.A.units + 64 < cLine) : CallR X (.builtin "sorted") (rSortedR X.K) := by
  rintro pins s σ H vs us Q I r ⟨a, bs, rfl, hs, hb, q⟩
  obtain ⟨its, rv, hl, hz⟩ := I.list hs
  rw [Vals.ref1 r]
  have len : bs.length ≤ sizeLine := by rw [List.length_map] at hz ; exact hz
  refine sorted_data (bs := bs) (enc := encR) (R := fun v (b : V × List Int) => RelV b.1 v) (vs := its) hl.isList (vals_each rv) (each_reads I (fun b h => (hb b h).1) rv) (AllAlike.of fun b b' => alike_ints b.2 b'.2) (.inl fun d hd => ?_) len (fun b h => ?_) fun out hol he => ?_
  · obtain ⟨b, h, rfl⟩ := List.mem_map.mp hd
    obtain ⟨x, xs, e⟩ := List.exists_cons_of_ne_nil (hb b h).2
    exact ⟨.int x, xs.map .int, by unfold encR ; rw [e] ; rfl⟩
  · have d0 := depth_ints b.2
    have : (encR b).depth ≤ 1 := by unfold encR ; simp [PyData.depth, d0]
    show X.A.units + 2 + (encR b).depth < cLine
    omega
  · rw [dataLe_tup] at he
    obtain ⟨ep, he'⟩ := PyProof.Rows.sortedAll_at s.heap its out.toArray
    have hlen : ((bs.mergeSort fun a b => leR a.2 b.2).map (·.1)).length ≤ sizeLine := by rw [List.length_map, List.length_mergeSort] ; exact len
    exact ⟨.ref _, upd H (s.heap.objs.size + 1) (.lst ((bs.mergeSort fun a b => leR a.2 b.2).map (·.1))), I.laid (t' := s.toks) (fun _ _ => PyProof.Rows.sortedAll_old) (Nat.le_succ _) ⟨hlen, out, ep, each_vals he, he'⟩, rfl, q _ (I.hok.fresh (Nat.le_succ _))⟩
end LL

/-! data as trees; what code does, said of trees alone -/
namespace LT
open PySem PySem.Spec PyProof.Rows L2 LL

inductive Tr where
  | non | bl (b : Bool) | int (i : Int) | str (x : Str) | lst (ts : List Tr) | tup (ts : List Tr) | dic (ks : List Key) (ts : List Tr) | obj (a : Addr) | drw | ty (n : String)
/-- what may change, at its address -/
inductive Cell where
  | lst (ts : List Tr) | dic (ks : List Key) (ts : List Tr) | ins (C dx : Addr) (ns : List Str) (ts : List Tr)
abbrev Om := Addr → Option Cell
def put (Ω : Om) (a : Addr) (c : Cell) : Om := fun b => if b = a then some c else Ω b
def cut (Ω : Om) (a : Addr) : Om := fun b => if b = a then none else Ω b
theorem put_same {Ω : Om} {a : Addr} {c : Cell} : put Ω a c a = some c := by unfold put; rw [if_pos rfl]
theorem put_ne {Ω : Om} {a b : Addr} {c : Cell} (h : b ≠ a) : put Ω a c b = Ω b := by unfold put; rw [if_neg h]
theorem put_put {Ω : Om} {a : Addr} {c e : Cell} : put (put Ω a c) a e = put Ω a e := by
  funext b; unfold put; split <;> rfl
theorem cut_put {Ω : Om} {a : Addr} {c : Cell} (h : Ω a = none) : cut (put Ω a c) a = Ω := by
  funext b; unfold cut put
  split
  · rename_i e; rw [e, h]
  · rfl
theorem cut_same {Ω : Om} {a : Addr} : cut Ω a a = none := by unfold cut; rw [if_pos rfl]
theorem cut_ne {Ω : Om} {a b : Addr} (h : b ≠ a) : cut Ω a b = Ω b := by unfold cut; rw [if_neg h]
/-- an exception's value: its class, its fields -/
structure XV where
  cls : Str
  ns : List Str
  ts : List Tr
structure Gh where
  dr : Option (Addr × Addr)
  pr : Addr → Prop
  ex : List (Value × Option Addr × XV)
/-- a constant of the program's top -/
def ConstT (K : PySem.W.Frag) (a : Addr) (xs : List V) : Prop := (∀ H, SqT K H a xs) ∧ xs.all flatV = true
section
variable (K : PySem.W.Frag) (dr : Option (Addr × Addr)) (F : Addr → Prop) (H : Hp)
mutual
def VD : V → Tr → Prop
  | v, .non => v = .non
  | v, .bl b => v = .bl b
  | v, .int i => v = .int i
  | v, .str x => v = .str x
  | v, .lst ts => ∃ a xs, v = .ref a ∧ F a ∧ H a = some (.lst xs) ∧ VDL xs ts ∧ ts.length ≤ 1000000
  | v, .tup ts => ∃ a xs, v = .ref a ∧ ((F a ∧ H a = some (.tup xs)) ∨ ConstT K a xs) ∧ VDL xs ts ∧ ts.length ≤ 1000000
  | v, .dic ks ts => ∃ a xs, v = .ref a ∧ F a ∧ H a = some (.dK (ks.zip xs)) ∧ VDL xs ts ∧ ts.length = ks.length ∧ ts.length ≤ 1000000
  | v, .obj a => v = .ref a
  | v, .drw => ∃ d s, dr = some (d, s) ∧ v = .ref d
  | v, .ty n => v = .ty n
def VDL : List V → List Tr → Prop
  | xs, [] => xs = []
  | xs, t :: ts => ∃ v vs, xs = v :: vs ∧ VD v t ∧ VDL vs ts
end
end
section
variable {K : PySem.W.Frag} {dr : Option (Addr × Addr)} {F G : Addr → Prop} {H H' : Hp}
mutual
theorem VD.imp (hF : ∀ a o, F a → H a = some o → G a ∧ H' a = some o) : ∀ {v : V} (t : Tr), VD K dr F H v t → VD K dr G H' v t
  | _, .non, h => h
  | _, .bl _, h => h
  | _, .int _, h => h
  | _, .str _, h => h
  | _, .lst ts, h => by
    obtain ⟨a, xs, e, f, ha, hx, hz⟩ := h
    exact ⟨a, xs, e, (hF a _ f ha).1, (hF a _ f ha).2, VDL.imp hF ts hx, hz⟩
  | _, .tup ts, h => by
    obtain ⟨a, xs, e, ha, hx, hz⟩ := h
    exact ⟨a, xs, e, ha.imp (fun z => ⟨(hF a _ z.1 z.2).1, (hF a _ z.1 z.2).2⟩) id, VDL.imp hF ts hx, hz⟩
  | _, .dic ks ts, h => by
    obtain ⟨a, xs, e, f, ha, hx, hz⟩ := h
    exact ⟨a, xs, e, (hF a _ f ha).1, (hF a _ f ha).2, VDL.imp hF ts hx, hz⟩
  | _, .obj a, h => h
  | _, .drw, h => h
  | _, .ty n, h => h
theorem VDL.imp (hF : ∀ a o, F a → H a = some o → G a ∧ H' a = some o) : ∀ {xs : List V} (ts : List Tr), VDL K dr F H xs ts → VDL K dr G H' xs ts
  | _, [], h => h
  | _, t :: ts, h => by
    obtain ⟨v, vs, e, h1, h2⟩ := h
    exact ⟨v, vs, e, VD.imp hF t h1, VDL.imp hF ts h2⟩
end
theorem VDL.len : ∀ {xs : List V} (ts : List Tr), VDL K dr F H xs ts → xs.length = ts.length
  | _, [], h => by rw [show _ = [] from h]; rfl
  | _, t :: ts, h => by
    obtain ⟨v, vs, rfl, h1, h2⟩ := h
    rw [List.length_cons, List.length_cons, VDL.len ts h2]
theorem VDL.get : ∀ {xs : List V} (ts : List Tr) {i : Nat} {x : V}, VDL K dr F H xs ts → xs[i]? = some x → ∃ t, ts[i]? = some t ∧ VD K dr F H x t
  | _, [], _, _, h, e => by rw [show _ = [] from h] at e; cases e
  | _, t :: ts, 0, x, h, e => by
    obtain ⟨v, vs, rfl, h1, h2⟩ := h
    cases e
    exact ⟨t, rfl, h1⟩
  | _, t :: ts, i + 1, x, h, e => by
    obtain ⟨v, vs, rfl, h1, h2⟩ := h
    exact VDL.get ts (i := i) h2 e
theorem VDL.get' {xs : List V} {ts : List Tr} {i : Nat} {t : Tr} (h : VDL K dr F H xs ts) (e : ts[i]? = some t) : ∃ x, xs[i]? = some x ∧ VD K dr F H x t := by
  have hi := (List.getElem?_eq_some_iff.mp e).1
  have hx : i < xs.length := by rw [VDL.len ts h]; exact hi
  obtain ⟨t', e', d⟩ := VDL.get ts h (List.getElem?_eq_getElem hx)
  rw [e] at e'
  cases e'
  exact ⟨_, List.getElem?_eq_getElem hx, d⟩
theorem VDL.app : ∀ {xs ys : List V} (ts : List Tr) {us : List Tr}, VDL K dr F H xs ts → VDL K dr F H ys us → VDL K dr F H (xs ++ ys) (ts ++ us)
  | _, _, [], _, h, k => by rw [show _ = [] from h]; exact k
  | _, _, t :: ts, _, h, k => by
    obtain ⟨v, vs, rfl, h1, h2⟩ := h
    exact ⟨v, vs ++ _, rfl, h1, VDL.app ts h2 k⟩
theorem VDL.one {v : V} {t : Tr} (h : VD K dr F H v t) : VDL K dr F H [v] [t] := ⟨v, [], rfl, h, rfl⟩
theorem VDL.cons {v : V} {t : Tr} {vs : List V} {ts : List Tr} (h : VD K dr F H v t) (k : VDL K dr F H vs ts) : VDL K dr F H (v :: vs) (t :: ts) := ⟨v, vs, rfl, h, k⟩
theorem VDL.cons_inv {x : V} {xs : List V} {us : List Tr} (h : VDL K dr F H (x :: xs) us) : ∃ t ts, us = t :: ts ∧ VD K dr F H x t ∧ VDL K dr F H xs ts := by
  cases us with
  | nil => cases h
  | cons t ts =>
    obtain ⟨v, vs, e, h1, h2⟩ := h
    cases e
    exact ⟨t, ts, rfl, h1, h2⟩
theorem VDL.nil_inv {us : List Tr} (h : VDL K dr F H [] us) : us = [] := by
  cases us with
  | nil => rfl
  | cons t ts => obtain ⟨v, vs, e, _⟩ := h; cases e
theorem VDL.of_all : ∀ {xs : List V} {ts : List Tr}, xs.length = ts.length → (∀ (i : Nat) x t, xs[i]? = some x → ts[i]? = some t → VD K dr F H x t) → VDL K dr F H xs ts
  | [], [], _, _ => rfl
  | x :: xs, t :: ts, hl, h => ⟨x, xs, rfl, h 0 x t rfl rfl, VDL.of_all (by simpa using hl) fun i y u a b => h (i + 1) y u a b⟩
theorem VDL.all {xs : List V} {ts : List Tr} (h : VDL K dr F H xs ts) : ∀ (i : Nat) x t, xs[i]? = some x → ts[i]? = some t → VD K dr F H x t := fun i x t e1 e2 => by
  obtain ⟨t', e', d⟩ := h.get _ e1
  rw [e2] at e'
  cases e'
  exact d
theorem VDL.set {v : V} {t : Tr} {xs : List V} {ts : List Tr} {j : Nat} (h : VDL K dr F H xs ts) (d : VD K dr F H v t) : VDL K dr F H (xs.set j v) (ts.set j t) := by
  refine VDL.of_all (by rw [List.length_set, List.length_set, h.len]) fun i x u e1 e2 => ?_
  by_cases hij : j = i
  · subst hij
    have hl := h.len
    have hj := (List.getElem?_eq_some_iff.mp e2).1
    rw [List.length_set] at hj
    rw [List.getElem?_set_self (by omega)] at e1
    rw [List.getElem?_set_self hj] at e2
    cases e1
    cases e2
    exact d
  · rw [List.getElem?_set_ne hij] at e1 e2
    exact h.all i x u e1 e2
theorem VDL.sub {xs : List V} {ts : List Tr} (h : VDL K dr F H xs ts) (a n : Nat) : VDL K dr F H ((xs.drop a).take n) ((ts.drop a).take n) := by
  refine VDL.of_all (by rw [List.length_take, List.length_take, List.length_drop, List.length_drop, h.len]) fun i x u e1 e2 => ?_
  have hi : i < n := by
    have := (List.getElem?_eq_some_iff.mp e1).1
    rw [List.length_take] at this
    omega
  rw [List.getElem?_take_of_lt hi, List.getElem?_drop] at e1 e2
  exact h.all _ x u e1 e2
end
/-- may stand in data that is handed on -/
def NM (g : Gh) (Ω : Om) (b : Addr) : Prop := Ω b = none ∧ (∀ d, g.dr ≠ some (d, b)) ∧ ¬ g.pr b
def Keep (g : Gh) (H : Hp) (Ω : Om) (H' : Hp) (Ω' : Om) : Prop := ∀ b o, Ω b = none → (∀ d, g.dr ≠ some (d, b)) → H b = some o → H' b = some o ∧ Ω' b = none
section
variable {K : PySem.W.Frag} {g : Gh} {H H' H2 : Hp} {Ω Ω' Ω2 : Om}
theorem Keep.refl : Keep g H Ω H Ω := fun _ _ h _ e => ⟨e, h⟩
theorem Keep.trans (a : Keep g H Ω H' Ω') (b : Keep g H' Ω' H2 Ω2) : Keep g H Ω H2 Ω2 := fun c o h d e => b c o (a c o h d e).2 d (a c o h d e).1
theorem VD.keep {v : V} {t : Tr} (h : VD K g.dr (NM g Ω) H v t) (k : Keep g H Ω H' Ω') : VD K g.dr (NM g Ω') H' v t := VD.imp (fun a o f e => ⟨⟨(k a o f.1 f.2.1 e).2, f.2⟩, (k a o f.1 f.2.1 e).1⟩) t h
theorem VDL.keep {v : List V} {t : List Tr} (h : VDL K g.dr (NM g Ω) H v t) (k : Keep g H Ω H' Ω') : VDL K g.dr (NM g Ω') H' v t := VDL.imp (fun a o f e => ⟨⟨(k a o f.1 f.2.1 e).2, f.2⟩, (k a o f.1 f.2.1 e).1⟩) t h
end
/-- the exception's own dict tells its fields -/
def XR (K : PySem.W.Frag) (g : Gh) (Ω : Om) (H : Hp) (cls : Value) (d : Option Addr) (x : XV) : Prop :=
  cls = .ref (He.ga K x.cls) ∧ ∃ dd fs, d = some dd ∧ NM g Ω dd ∧ H dd = some (.xd fs) ∧ fs.map (·.1) = x.ns ∧ VDL K g.dr (NM g Ω) H (fs.map (·.2)) x.ts
def CellOk (K : PySem.W.Frag) (g : Gh) (Ω : Om) (H : Hp) (a : Addr) : Cell → Prop
  | .lst ts => ∃ xs, H a = some (.lst xs) ∧ VDL K g.dr (NM g Ω) H xs ts ∧ ts.length ≤ 1000000
  | .dic ks ts => ∃ xs, H a = some (.dK (ks.zip xs)) ∧ VDL K g.dr (NM g Ω) H xs ts ∧ ts.length = ks.length ∧ ts.length ≤ 1000000
  | .ins C dx ns ts => ∃ xs, H a = some (.ins C dx (ns.zip xs)) ∧ VDL K g.dr (NM g Ω) H xs ts ∧ ts.length = ns.length
/-- the draws stand, and none of their objects is a cell -/
def DrOk (pr : Addr → Prop) (H : Hp) (Ω : Om) (d s : Addr) : Prop := ∃ (c : Addr) (ns : List Int), H d = some (.lst [.ref c, .ref s]) ∧ c ≠ s ∧ H c = some (.lst (ns.map V.int)) ∧ StAt s H ∧ d ≠ s ∧ Ω d = none ∧ Ω s = none ∧ Ω c = none ∧ ¬ pr d ∧ ¬ pr s ∧ ¬ pr c
theorem DrOk.drw {pr : Addr → Prop} {H : Hp} {Ω : Om} {d s : Addr} (h : DrOk pr H Ω d s) : Drw d s H := by
  obtain ⟨c, ns, h1, h2, h3, h4, h5, _⟩ := h
  exact ⟨⟨c, h1, h2, ns, h3⟩, h4, h5⟩
theorem DrOk.imp {pr : Addr → Prop} {H H' : Hp} {Ω Ω' : Om} {d s : Addr} (h : DrOk pr H Ω d s) (st : StAt s H') (k : ∀ b o, b ≠ s → Ω b = none → H b = some o → H' b = some o) (kΩ : ∀ b, Ω b = none → H b ≠ none → Ω' b = none) : DrOk pr H' Ω' d s := by
  obtain ⟨c, ns, h1, h2, h3, h4, h5, h6, h7, h8, h9⟩ := h
  obtain ⟨_, _, _, _, _, _, q⟩ := h4
  exact ⟨c, ns, k _ _ h5 h6 h1, h2, k _ _ h2 h8 h3, st, h5, kΩ _ h6 (by rw [h1]; simp), kΩ _ h7 (by rw [q]; simp), kΩ _ h8 (by rw [h3]; simp), h9⟩
structure OmOk (K : PySem.W.Frag) (g : Gh) (H : Hp) (Ω : Om) : Prop where
  dr : ∀ d s, g.dr = some (d, s) → DrOk g.pr H Ω d s
  ce : ∀ a c, Ω a = some c → ¬ g.pr a ∧ CellOk K g Ω H a c
  ex : ∀ p ∈ g.ex, XR K g Ω H p.1 p.2.1 p.2.2
  pt : ∀ b, g.pr b → ∃ o, H b = some o
section
variable {K : PySem.W.Frag} {g : Gh} {H H' H2 : Hp} {Ω Ω' Ω2 : Om}
theorem CellOk.tracked {a : Addr} {c : Cell} (h : CellOk K g Ω H a c) : ∃ o, H a = some o := by
  cases c with
  | lst ts => obtain ⟨xs, e, _⟩ := h; exact ⟨_, e⟩
  | dic ks ts => obtain ⟨xs, e, _⟩ := h; exact ⟨_, e⟩
  | ins C dx ns ts => obtain ⟨xs, e, _⟩ := h; exact ⟨_, e⟩
theorem OmOk.fresh (h : OmOk K g H Ω) {a : Addr} (n : H a = none) : Ω a = none := by
  cases e : Ω a with
  | none => rfl
  | some c =>
    obtain ⟨o, q⟩ := (h.ce a c e).2.tracked
    rw [n] at q; cases q
theorem OmOk.nodr (h : OmOk K g H Ω) {a : Addr} (n : H a = none) : ∀ d, g.dr ≠ some (d, a) := fun d e => by
  obtain ⟨_, _, _, _, _, _, q⟩ := (h.dr d a e).drw.st
  rw [n] at q; cases q
theorem XR.keep {cls : Value} {d : Option Addr} {x : XV} (h : XR K g Ω H cls d x) (k : Keep g H Ω H' Ω') : XR K g Ω' H' cls d x := by
  obtain ⟨e, dd, fs, e1, n, e2, e3, e4⟩ := h
  exact ⟨e, dd, fs, e1, ⟨(k _ _ n.1 n.2.1 e2).2, n.2⟩, (k _ _ n.1 n.2.1 e2).1, e3, e4.keep k⟩
theorem CellOk.imp {a : Addr} {c : Cell} (h : CellOk K g Ω H a c) (e : H' a = H a) (k : ∀ b o, NM g Ω b → H b = some o → NM g Ω' b ∧ H' b = some o) : CellOk K g Ω' H' a c := by
  cases c with
  | lst ts => obtain ⟨xs, q, r, z⟩ := h; exact ⟨xs, by rw [e]; exact q, r.imp k, z⟩
  | dic ks ts => obtain ⟨xs, q, r, z⟩ := h; exact ⟨xs, by rw [e]; exact q, r.imp k, z⟩
  | ins C dx ns ts => obtain ⟨xs, q, r, z⟩ := h; exact ⟨xs, by rw [e]; exact q, r.imp k, z⟩
/-- a new object that is data -/
theorem Keep.new {p : Addr} {o : HO} (n : H p = none) : Keep g H Ω (upd H p o) Ω := fun b u hb _ e => ⟨by rw [upd_ne (ne_of_none e n)]; exact e, hb⟩
theorem OmOk.new {p : Addr} {o : HO} (h : OmOk K g H Ω) (n : H p = none) : OmOk K g (upd H p o) Ω where
  dr := fun d s e => by
    have D := h.dr d s e
    exact D.imp (D.drw.same (Same.new (Same.refl _) n)).st (fun b o _ _ q => by rw [upd_ne (ne_of_none q n)]; exact q) fun _ q _ => q
  ce := fun a c e => ⟨(h.ce a c e).1, (h.ce a c e).2.imp (by obtain ⟨o, q⟩ := (h.ce a c e).2.tracked; rw [upd_ne (ne_of_none q n)]) fun b u f q => ⟨f, by rw [upd_ne (ne_of_none q n)]; exact q⟩⟩
  ex := fun p hp => (h.ex p hp).keep (Keep.new n)
  pt := fun b hb => by
    obtain ⟨o, e⟩ := h.pt b hb
    exact ⟨o, by rw [upd_ne (ne_of_none e n)]; exact e⟩
theorem NM.new (h : OmOk K g H Ω) {p : Addr} (n : H p = none) (hp : ¬ g.pr p) : NM g Ω p := ⟨h.fresh n, h.nodr n, hp⟩
/-- a new cell -/
theorem Keep.cell {p : Addr} {o : HO} {c : Cell} (n : H p = none) : Keep g H Ω (upd H p o) (put Ω p c) := fun b u hb _ e => ⟨by rw [upd_ne (ne_of_none e n)]; exact e, by rw [put_ne (ne_of_none e n)]; exact hb⟩
/-- a cell is changed -/
theorem Keep.write {a : Addr} {o : HO} {c e : Cell} (h : Ω a = some c) : Keep g H Ω (upd H a o) (put Ω a e) := fun b u hb _ q => by
  have hba : b ≠ a := fun z => by rw [z, h] at hb; cases hb
  exact ⟨by rw [upd_ne hba]; exact q, by rw [put_ne hba]; exact hb⟩
theorem NM.put_new {p b : Addr} {c : Cell} {o : HO} (f : NM g Ω b) (e : H b = some o) (n : H p = none) : NM g (put Ω p c) b := ⟨by rw [put_ne (ne_of_none e n)]; exact f.1, f.2⟩
theorem NM.put_old {a b : Addr} {c e : Cell} (f : NM g Ω b) (h : Ω a = some c) : NM g (put Ω a e) b := ⟨by rw [put_ne (fun z => by rw [z] at f; rw [f.1] at h; cases h)]; exact f.1, f.2⟩
theorem OmOk.cell {p : Addr} {o : HO} {c : Cell} (h : OmOk K g H Ω) (n : H p = none) (hp : ¬ g.pr p) (hc : CellOk K g (put Ω p c) (upd H p o) p c) : OmOk K g (upd H p o) (put Ω p c) where
  dr := fun d s e => by
    have D := h.dr d s e
    exact D.imp (D.drw.same (Same.new (Same.refl _) n)).st (fun b o _ _ q => by rw [upd_ne (ne_of_none q n)]; exact q) fun b q nn => by rw [put_ne (fun z => nn (by rw [z]; exact n))]; exact q
  ce := fun a c' e => by
    by_cases ha : a = p
    · subst ha
      rw [put_same] at e
      cases e
      exact ⟨hp, hc⟩
    · rw [put_ne ha] at e
      exact ⟨(h.ce a c' e).1, (h.ce a c' e).2.imp (upd_ne ha) fun b u f q => ⟨f.put_new q n, by rw [upd_ne (ne_of_none q n)]; exact q⟩⟩
  ex := fun p hp => (h.ex p hp).keep (Keep.cell n)
  pt := fun b hb => by
    obtain ⟨o, e⟩ := h.pt b hb
    exact ⟨o, by rw [upd_ne (ne_of_none e n)]; exact e⟩
theorem OmOk.write {a : Addr} {o : HO} {c e : Cell} (h : OmOk K g H Ω) (ha : Ω a = some c) (hc : CellOk K g (put Ω a e) (upd H a o) a e) : OmOk K g (upd H a o) (put Ω a e) where
  dr := fun d s q => by
    have D := h.dr d s q
    have hs : s ≠ a := fun z => by
      obtain ⟨_, _, _, _, _, _, _, _, h7, _⟩ := D
      rw [z, ha] at h7; cases h7
    have st : StAt s (upd H a o) := by
      obtain ⟨i, v, kk, t, gg, h0, q4⟩ := D.drw.st
      exact ⟨i, v, kk, t, gg, h0, by rw [upd_ne hs]; exact q4⟩
    have ns : ∀ b, Ω b = none → b ≠ a := fun b hb z => by rw [z, ha] at hb; cases hb
    exact D.imp st (fun b u _ hb r => by rw [upd_ne (ns b hb)]; exact r) fun b hb _ => by rw [put_ne (ns b hb)]; exact hb
  ce := fun b c' q => by
    by_cases hb : b = a
    · subst hb
      rw [put_same] at q
      cases q
      exact ⟨(h.ce b c ha).1, hc⟩
    · rw [put_ne hb] at q
      exact ⟨(h.ce b c' q).1, (h.ce b c' q).2.imp (upd_ne hb) fun x u f r => ⟨f.put_old ha, by rw [upd_ne (fun z => by rw [z] at f; rw [f.1] at ha; cases ha)]; exact r⟩⟩
  ex := fun p hp => (h.ex p hp).keep (Keep.write ha)
  pt := fun b hb => by
    obtain ⟨o, e⟩ := h.pt b hb
    exact ⟨o, by rw [upd_ne (fun z => (h.ce a c ha).1 (by rw [← z]; exact hb))]; exact e⟩
/-- an object that is being made, and that nothing tells -/
def Gh.with (g : Gh) (D : Addr) : Gh := ⟨g.dr, fun b => g.pr b ∨ b = D, g.ex⟩
theorem NM.less {D : Addr} {b : Addr} (f : NM (g.with D) Ω b) : NM g Ω b := ⟨f.1, f.2.1, fun z => f.2.2 (.inl z)⟩
theorem NM.more {D : Addr} {b : Addr} (f : NM g Ω b) (h : b ≠ D) : NM (g.with D) Ω b := ⟨f.1, f.2.1, fun z => z.elim f.2.2 h⟩
theorem OmOk.less {D : Addr} (h : OmOk K (g.with D) H Ω) : OmOk K g H Ω where
  dr := fun d s e => by
    obtain ⟨c, ns, h1, h2, h3, h4, h5, h6, h7, h8, p1, p2, p3⟩ := h.dr d s e
    exact ⟨c, ns, h1, h2, h3, h4, h5, h6, h7, h8, fun z => p1 (.inl z), fun z => p2 (.inl z), fun z => p3 (.inl z)⟩
  ce := fun a c e => ⟨fun z => (h.ce a c e).1 (.inl z), (h.ce a c e).2.imp (g := g.with D) rfl (fun b o f q => ⟨f, q⟩) |> fun r => by
    cases c with
    | lst ts => obtain ⟨xs, q, r, z⟩ := r; exact ⟨xs, q, r.imp fun b o f q => ⟨f.less, q⟩, z⟩
    | dic ks ts => obtain ⟨xs, q, r, z⟩ := r; exact ⟨xs, q, r.imp fun b o f q => ⟨f.less, q⟩, z⟩
    | ins C dx ns ts => obtain ⟨xs, q, r, z⟩ := r; exact ⟨xs, q, r.imp fun b o f q => ⟨f.less, q⟩, z⟩⟩
  ex := fun p hp => by
    obtain ⟨e, dd, fs, e1, n, e2, e3, e4⟩ := h.ex p hp
    exact ⟨e, dd, fs, e1, n.less, e2, e3, e4.imp fun b o f q => ⟨f.less, q⟩⟩
  pt := fun b hb => h.pt b (.inl hb)
theorem VD.more {D : Addr} {v : V} {t : Tr} (h : VD K g.dr (NM g Ω) H v t) (n : H D = none) : VD K g.dr (NM (g.with D) Ω) H v t := VD.imp (fun b o f q => ⟨f.more (ne_of_none q n), q⟩) t h
theorem VDL.more {D : Addr} {v : List V} {t : List Tr} (h : VDL K g.dr (NM g Ω) H v t) (n : H D = none) : VDL K g.dr (NM (g.with D) Ω) H v t := VDL.imp (fun b o f q => ⟨f.more (ne_of_none q n), q⟩) t h
theorem VD.less {D : Addr} {v : V} {t : Tr} (h : VD K g.dr (NM (g.with D) Ω) H v t) : VD K g.dr (NM g Ω) H v t := VD.imp (fun b o f q => ⟨f.less, q⟩) t h
theorem VDL.less {D : Addr} {v : List V} {t : List Tr} (h : VDL K g.dr (NM (g.with D) Ω) H v t) : VDL K g.dr (NM g Ω) H v t := VDL.imp (fun b o f q => ⟨f.less, q⟩) t h
/-- D is laid -/
theorem OmOk.more {D : Addr} {o : HO} (h : OmOk K g H Ω) (n : H D = none) : OmOk K (g.with D) (upd H D o) Ω where
  dr := fun d s e => by
    have D0 := h.dr d s e
    obtain ⟨c, ns, h1, h2, h3, h4, h5, h6, h7, h8, p1, p2, p3⟩ := (h.new (o := o) n).dr d s e
    obtain ⟨c', ns', g1, _, g3, g4, _⟩ := D0
    obtain ⟨_, _, _, _, _, _, g5⟩ := g4
    have e1 : d ≠ D := ne_of_none g1 n
    have e2 : s ≠ D := ne_of_none g5 n
    have e3 : c = c' := by
      rw [upd_ne e1, g1] at h1
      cases h1; rfl
    have e4 : c ≠ D := by rw [e3]; exact ne_of_none g3 n
    exact ⟨c, ns, h1, h2, h3, h4, h5, h6, h7, h8, fun z => z.elim p1 e1, fun z => z.elim p2 e2, fun z => z.elim p3 e4⟩
  ce := fun a c e => by
    obtain ⟨u, q⟩ := (h.ce a c e).2.tracked
    have ha : a ≠ D := ne_of_none q n
    refine ⟨fun z => z.elim (h.ce a c e).1 ha, ?_⟩
    have r := (h.ce a c e).2
    have up : ∀ b o', NM g Ω b → H b = some o' → NM (g.with D) Ω b ∧ upd H D o b = some o' := fun b o' f r => ⟨f.more (ne_of_none r n), by rw [upd_ne (ne_of_none r n)]; exact r⟩
    cases c with
    | lst ts => obtain ⟨xs, q, r, z⟩ := r; exact ⟨xs, by rw [upd_ne ha]; exact q, r.imp up, z⟩
    | dic ks ts => obtain ⟨xs, q, r, z⟩ := r; exact ⟨xs, by rw [upd_ne ha]; exact q, r.imp up, z⟩
    | ins C dx ns ts => obtain ⟨xs, q, r, z⟩ := r; exact ⟨xs, by rw [upd_ne ha]; exact q, r.imp up, z⟩
  ex := fun p hp => by
    obtain ⟨e, dd, fs, e1, nn, e2, e3, e4⟩ := h.ex p hp
    have up : ∀ b o', NM g Ω b → H b = some o' → NM (g.with D) Ω b ∧ upd H D o b = some o' := fun b o' f r => ⟨f.more (ne_of_none r n), by rw [upd_ne (ne_of_none r n)]; exact r⟩
    exact ⟨e, dd, fs, e1, (up _ _ nn e2).1, (up _ _ nn e2).2, e3, e4.imp up⟩
  pt := fun b hb => by
    by_cases e : b = D
    · exact ⟨o, by rw [e, upd_same]⟩
    · obtain ⟨u, q⟩ := h.pt b (hb.resolve_right e)
      exact ⟨u, by rw [upd_ne e]; exact q⟩
/-- D is changed -/
theorem OmOk.prot {D : Addr} {o : HO} (h : OmOk K (g.with D) H Ω) : OmOk K (g.with D) (upd H D o) Ω where
  dr := fun d s e => by
    have D0 := h.dr d s e
    obtain ⟨c, ns, h1, h2, h3, h4, h5, h6, h7, h8, p1, p2, p3⟩ := D0
    obtain ⟨i, v, kk, t, gg, h0, q4⟩ := h4
    have e1 : d ≠ D := fun z => p1 (.inr z)
    have e2 : s ≠ D := fun z => p2 (.inr z)
    have e3 : c ≠ D := fun z => p3 (.inr z)
    exact ⟨c, ns, by rw [upd_ne e1]; exact h1, h2, by rw [upd_ne e3]; exact h3, ⟨i, v, kk, t, gg, h0, by rw [upd_ne e2]; exact q4⟩, h5, h6, h7, h8, p1, p2, p3⟩
  ce := fun a c e => by
    have ha : a ≠ D := fun z => (h.ce a c e).1 (.inr z)
    exact ⟨(h.ce a c e).1, (h.ce a c e).2.imp (upd_ne ha) fun b u f q => ⟨f, by rw [upd_ne (fun z => f.2.2 (.inr z))]; exact q⟩⟩
  ex := fun p hp => by
    obtain ⟨e, dd, fs, e1, nn, e2, e3, e4⟩ := h.ex p hp
    have up : ∀ b o', NM (g.with D) Ω b → H b = some o' → NM (g.with D) Ω b ∧ upd H D o b = some o' := fun b u f q => ⟨f, by rw [upd_ne (fun z => f.2.2 (.inr z))]; exact q⟩
    exact ⟨e, dd, fs, e1, nn, (up _ _ nn e2).2, e3, e4.imp up⟩
  pt := fun b hb => by
    by_cases e : b = D
    · exact ⟨o, by rw [e, upd_same]⟩
    · obtain ⟨u, q⟩ := h.pt b hb
      exact ⟨u, by rw [upd_ne e]; exact q⟩
theorem VDL.prot {D : Addr} {o : HO} {v : List V} {t : List Tr} (h : VDL K g.dr (NM (g.with D) Ω) H v t) : VDL K g.dr (NM (g.with D) Ω) (upd H D o) v t := VDL.imp (fun b u f q => ⟨f, by rw [upd_ne (fun z => f.2.2 (.inr z))]; exact q⟩) t h
theorem VD.prot {D : Addr} {o : HO} {v : V} {t : Tr} (h : VD K g.dr (NM (g.with D) Ω) H v t) : VD K g.dr (NM (g.with D) Ω) (upd H D o) v t := VD.imp (fun b u f q => ⟨f, by rw [upd_ne (fun z => f.2.2 (.inr z))]; exact q⟩) t h
/-- D becomes a cell -/
theorem OmOk.toCell {D : Addr} {c : Cell} (h : OmOk K (g.with D) H Ω) (hp : ¬ g.pr D) (hc : CellOk K (g.with D) Ω H D c) : OmOk K g H (put Ω D c) := by
  have hD : Ω D = none := by
    cases e : Ω D with
    | none => rfl
    | some c' => exact absurd (.inr rfl) (h.ce D c' e).1
  have up : ∀ b o', NM (g.with D) Ω b → H b = some o' → NM g (put Ω D c) b ∧ H b = some o' := fun b o' f r => ⟨⟨by rw [put_ne (fun z => f.2.2 (.inr z))]; exact f.1, f.less.2⟩, r⟩
  have cell : ∀ a c', CellOk K (g.with D) Ω H a c' → CellOk K g (put Ω D c) H a c' := fun a c' r => by
    cases c' with
    | lst ts => obtain ⟨xs, q, r, z⟩ := r; exact ⟨xs, q, r.imp up, z⟩
    | dic ks ts => obtain ⟨xs, q, r, z⟩ := r; exact ⟨xs, q, r.imp up, z⟩
    | ins C dx ns ts => obtain ⟨xs, q, r, z⟩ := r; exact ⟨xs, q, r.imp up, z⟩
  refine ⟨fun d s e => ?_, fun a c' e => ?_, fun p hp => ?_, fun b hb => h.pt b (.inl hb)⟩
  · obtain ⟨cc, ns, h1, h2, h3, h4, h5, h6, h7, h8, p1, p2, p3⟩ := h.dr d s e
    have e1 : d ≠ D := fun z => p1 (.inr z)
    have e2 : s ≠ D := fun z => p2 (.inr z)
    have e3 : cc ≠ D := fun z => p3 (.inr z)
    exact ⟨cc, ns, h1, h2, h3, h4, h5, by rw [put_ne e1]; exact h6, by rw [put_ne e2]; exact h7, by rw [put_ne e3]; exact h8, fun z => p1 (.inl z), fun z => p2 (.inl z), fun z => p3 (.inl z)⟩
  · by_cases ha : a = D
    · subst ha
      rw [put_same] at e
      cases e
      exact ⟨hp, cell _ _ hc⟩
    · rw [put_ne ha] at e
      exact ⟨fun z => (h.ce a c' e).1 (.inl z), cell _ _ (h.ce a c' e).2⟩
  · obtain ⟨e, dd, fs, e1, nn, e2, e3, e4⟩ := h.ex p hp
    exact ⟨e, dd, fs, e1, (up _ _ nn e2).1, e2, e3, e4.imp up⟩
/-- a cell becomes data -/
theorem Keep.freeze {a : Addr} : Keep g H Ω H (cut Ω a) := fun b o hb _ e => ⟨e, by unfold cut; split; rfl; exact hb⟩
theorem NM.cut {a b : Addr} (f : NM g Ω b) : NM g (cut Ω a) b := ⟨by unfold LT.cut; split; rfl; exact f.1, f.2⟩
theorem OmOk.freeze {a : Addr} (h : OmOk K g H Ω) : OmOk K g H (cut Ω a) := by
  have up : ∀ b o', NM g Ω b → H b = some o' → NM g (cut Ω a) b ∧ H b = some o' := fun b o' f r => ⟨f.cut, r⟩
  have hn : ∀ b, Ω b = none → cut Ω a b = none := fun b hb => by unfold cut; split; rfl; exact hb
  refine ⟨fun d s e => ?_, fun b c e => ?_, fun p hp => ?_, h.pt⟩
  · obtain ⟨cc, ns, h1, h2, h3, h4, h5, h6, h7, h8, p1⟩ := h.dr d s e
    exact ⟨cc, ns, h1, h2, h3, h4, h5, hn _ h6, hn _ h7, hn _ h8, p1⟩
  · by_cases hb : b = a
    · subst hb; rw [cut_same] at e; cases e
    · rw [cut_ne hb] at e
      exact ⟨(h.ce b c e).1, (h.ce b c e).2.imp rfl up⟩
  · exact (h.ex p hp).keep Keep.freeze
end
end LT

namespace LT
open PySem PySem.Spec PyProof.Rows L2 LL
/-! ### readings of trees -/
abbrev En := List (Option Tr)
abbrev PT' := Tr → Om → Prop
abbrev PXt := XV → Om → Prop
abbrev DE := En → Om → PT' → PXt → Prop
abbrev DA := En → Om → (List Tr → Om → Prop) → PXt → Prop
abbrev DT := En → Om → (Bool → Om → Prop) → PXt → Prop
structure DN where
  nx : En → Om → Prop
  rt : PT'
  bk : En → Om → Prop := fun _ _ => False
  ct : En → Om → Prop := fun _ _ => False
  ex : En → XV → Om → Prop := fun _ _ _ => False
abbrev DS := DN → En → Om → Prop
abbrev DG := Tr → En → Om → (En → Om → Prop) → PXt → Prop
abbrev DGs := List Tr → En → Om → (En → Om → Prop) → PXt → Prop
abbrev DI := En → Om → (List Tr → (Om → Prop) → Om → Prop) → PXt → Prop
abbrev DO := En → Om → (Option Int → Om → Prop) → PXt → Prop
def nox : PXt := fun _ _ => False
abbrev EK := L2.St → XK
structure Rel (K : PySem.W.Frag) (g : Gh) (σ : L2.St) (H : Hp) (ρ : En) (Ω : Om) : Prop where
  om : OmOk K g H Ω
  len : σ.length = ρ.length
  env : ∀ (i : Nat) t, ρ[i]? = some (some t) → ∃ v, σ[i]? = some (some v) ∧ VD K g.dr (NM g Ω) H v t
section
variable {K : PySem.W.Frag} {g : Gh} {H H' H2 : Hp} {Ω Ω' Ω2 : Om} {σ σ' : L2.St} {ρ ρ' : En}
theorem Rel.keep (R : Rel K g σ H ρ Ω) (k : Keep g H Ω H' Ω') (o : OmOk K g H' Ω') : Rel K g σ H' ρ Ω' := ⟨o, R.len, fun i t e => by
  obtain ⟨v, h1, h2⟩ := R.env i t e
  exact ⟨v, h1, h2.keep k⟩⟩
theorem Rel.set {v : V} {t : Tr} {i : Nat} (R : Rel K g σ H ρ Ω) (d : VD K g.dr (NM g Ω) H v t) : Rel K g (σ.set i (some v)) H (ρ.set i (some t)) Ω := ⟨R.om, by rw [List.length_set, List.length_set, R.len], fun j u e => by
  by_cases hij : i = j
  · subst hij
    have hj := (List.getElem?_eq_some_iff.mp e).1
    rw [List.length_set] at hj
    rw [List.getElem?_set_self hj] at e
    cases e
    exact ⟨v, List.getElem?_set_self (by rw [R.len]; exact hj), d⟩
  · rw [List.getElem?_set_ne hij] at e ⊢
    exact R.env j u e⟩
theorem Rel.none {i : Nat} (R : Rel K g σ H ρ Ω) : Rel K g (σ.set i none) H (ρ.set i none) Ω := ⟨R.om, by rw [List.length_set, List.length_set, R.len], fun j u e => by
  by_cases hij : i = j
  · subst hij
    have hj := (List.getElem?_eq_some_iff.mp e).1
    rw [List.length_set] at hj
    rw [List.getElem?_set_self hj] at e
    cases e
  · rw [List.getElem?_set_ne hij] at e ⊢
    exact R.env j u e⟩
end
/-! ### what a part's reading owes to the trees' reading -/
section
variable (K : PySem.W.Frag) (G : List (Value × Option Addr × XV) → Prop) (E : EK)
/-- what follows behind a value -/
def After (g : Gh) (H : Hp) (Ω : Om) (P : PT') (Q : VK) : Prop := ∀ t Ω' v H', P t Ω' → Keep g H Ω H' Ω' → OmOk K g H' Ω' → VD K g.dr (NM g Ω') H' v t → Q v H'
def AfterX (g : Gh) (H : Hp) (Ω : Om) (P : PXt) (Q : XK) : Prop := ∀ x Ω' cls d H', P x Ω' → Keep g H Ω H' Ω' → OmOk K g H' Ω' → XR K g Ω' H' cls d x → Q cls d H'
def SimE (te : TE) (de : DE) : Prop := ∀ g σ H ρ Ω P PX Q, G g.ex → Rel K g σ H ρ Ω → de ρ Ω P PX → After K g H Ω P Q → AfterX K g H Ω PX (E σ) → te σ H Q
def SimA (te : TA) (de : DA) : Prop := ∀ g σ H ρ Ω P PX Q, G g.ex → Rel K g σ H ρ Ω → de ρ Ω P PX → (∀ ts Ω' vs H', P ts Ω' → Keep g H Ω H' Ω' → OmOk K g H' Ω' → VDL K g.dr (NM g Ω') H' vs ts → Q vs H') → AfterX K g H Ω PX (E σ) → te σ H Q
def SimT (te : TT) (de : DT) : Prop := ∀ g σ H ρ Ω P PX Q, G g.ex → Rel K g σ H ρ Ω → de ρ Ω P PX → (∀ b Ω' H', P b Ω' → Keep g H Ω H' Ω' → OmOk K g H' Ω' → Q b H') → AfterX K g H Ω PX (E σ) → te σ H Q
def SimO (te : TO) (de : DO) : Prop := ∀ g σ H ρ Ω P PX Q, G g.ex → Rel K g σ H ρ Ω → de ρ Ω P PX → (∀ b Ω' H', P b Ω' → Keep g H Ω H' Ω' → OmOk K g H' Ω' → Q b H') → AfterX K g H Ω PX (E σ) → te σ H Q
def SimG (te : TG) (de : DG) : Prop := ∀ g σ H ρ Ω v t P PX Q, G g.ex → Rel K g σ H ρ Ω → VD K g.dr (NM g Ω) H v t → de t ρ Ω P PX → (∀ ρ' Ω' σ' H', P ρ' Ω' → Keep g H Ω H' Ω' → Rel K g σ' H' ρ' Ω' → Q σ' H') → (∀ cls d H', (∃ x Ω', PX x Ω' ∧ Keep g H Ω H' Ω' ∧ OmOk K g H' Ω' ∧ XR K g Ω' H' cls d x) → E σ cls d H') → te v σ H Q
def SimGs (te : TGs) (de : DGs) : Prop := ∀ g σ H ρ Ω v t P Q, G g.ex → Rel K g σ H ρ Ω → VDL K g.dr (NM g Ω) H v t → de t ρ Ω P nox → (∀ ρ' Ω' σ' H', P ρ' Ω' → Keep g H Ω H' Ω' → Rel K g σ' H' ρ' Ω' → Q σ' H') → te v σ H Q
structure EndsR (g : Gh) (H : Hp) (Ω : Om) (D : Ends) (DD : DN) : Prop where
  nx : ∀ ρ' Ω' σ' H', DD.nx ρ' Ω' → Keep g H Ω H' Ω' → Rel K g σ' H' ρ' Ω' → D.nx σ' H'
  rt : After K g H Ω DD.rt D.rt
  bk : ∀ ρ' Ω' σ' H', DD.bk ρ' Ω' → Keep g H Ω H' Ω' → Rel K g σ' H' ρ' Ω' → D.bk σ' H'
  ct : ∀ ρ' Ω' σ' H', DD.ct ρ' Ω' → Keep g H Ω H' Ω' → Rel K g σ' H' ρ' Ω' → D.ct σ' H'
  ex : ∀ x ρ' Ω' σ' cls d H', DD.ex ρ' x Ω' → Keep g H Ω H' Ω' → Rel K g σ' H' ρ' Ω' → XR K g Ω' H' cls d x → E σ' cls d H'
def SimS (ts : TS) (ds : DS) : Prop := ∀ g σ H ρ Ω D DD, G g.ex → Rel K g σ H ρ Ω → ds DD ρ Ω → EndsR K E g H Ω D DD → ts D σ H
end
section
variable {K : PySem.W.Frag} {G : List (Value × Option Addr × XV) → Prop} {E : EK}
theorem After.at {g : Gh} {H H1 : Hp} {Ω Ω1 : Om} {P : PT'} {Q : VK} (h : After K g H Ω P Q) (k : Keep g H Ω H1 Ω1) : After K g H1 Ω1 P Q := fun t Ω' v H' p k' o d => h t Ω' v H' p (k.trans k') o d
theorem AfterX.at {g : Gh} {H H1 : Hp} {Ω Ω1 : Om} {P : PXt} {Q : XK} (h : AfterX K g H Ω P Q) (k : Keep g H Ω H1 Ω1) : AfterX K g H1 Ω1 P Q := fun x Ω' c d H' p k' o r => h x Ω' c d H' p (k.trans k') o r
theorem EndsR.at {g : Gh} {H H1 : Hp} {Ω Ω1 : Om} {D : Ends} {DD : DN} (h : EndsR K E g H Ω D DD) (k : Keep g H Ω H1 Ω1) : EndsR K E g H1 Ω1 D DD :=
  ⟨fun ρ' Ω' σ' H' p k' r => h.nx ρ' Ω' σ' H' p (k.trans k') r, h.rt.at k, fun ρ' Ω' σ' H' p k' r => h.bk ρ' Ω' σ' H' p (k.trans k') r, fun ρ' Ω' σ' H' p k' r => h.ct ρ' Ω' σ' H' p (k.trans k') r, fun x ρ' Ω' σ' c d H' p k' r z => h.ex x ρ' Ω' σ' c d H' p (k.trans k') r z⟩
theorem AfterX.nox {g : Gh} {H : Hp} {Ω : Om} {Q : XK} : AfterX K g H Ω nox Q := fun _ _ _ _ _ p => p.elim
/-- an exception leaves a statement -/
theorem EndsR.exx {g : Gh} {σ : L2.St} {H : Hp} {ρ : En} {Ω : Om} {D : Ends} {DD : DN} (h : EndsR K E g H Ω D DD) (R : Rel K g σ H ρ Ω) : AfterX K g H Ω (fun x Ω' => DD.ex ρ x Ω') (E σ) := fun x Ω' c d H' p k o r => h.ex x ρ Ω' σ c d H' p k (R.keep k o) r
/-! ### names, constants, operators -/
def dVar (i : Nat) : DE := fun ρ Ω P _ => ∃ t, ρ[i]? = some (some t) ∧ P t Ω
theorem sim_var {i : Nat} : SimE K G E (tVar i) (dVar i) := fun g σ H ρ Ω P PX Q _ R ⟨t, e, p⟩ q _ => by
  obtain ⟨v, h1, h2⟩ := R.env i t e
  exact ⟨v, h1, q t Ω v H p .refl R.om h2⟩
def dC (t : Tr) : DE := fun _ Ω P _ => P t Ω
theorem sim_int {i : Int} : SimE K G E (tC (.int i)) (dC (.int i)) := fun g σ H ρ Ω P PX Q _ R p q _ => q _ Ω _ H p .refl R.om rfl
theorem sim_bl {b : Bool} : SimE K G E (tC (.bl b)) (dC (.bl b)) := fun g σ H ρ Ω P PX Q _ R p q _ => q _ Ω _ H p .refl R.om rfl
theorem sim_str {x : Str} : SimE K G E (tC (.str x)) (dC (.str x)) := fun g σ H ρ Ω P PX Q _ R p q _ => q _ Ω _ H p .refl R.om rfl
theorem sim_non : SimE K G E (tC .non) (dC .non) := fun g σ H ρ Ω P PX Q _ R p q _ => q _ Ω _ H p .refl R.om rfl
theorem sim_ty {n : String} : SimE K G E (tC (.ty n)) (dC (.ty n)) := fun g σ H ρ Ω P PX Q _ R p q _ => q _ Ω _ H p .refl R.om rfl
/-- a value without objects -/
def flatT : Tr → Bool
  | .non => true
  | .bl _ => true
  | .int _ => true
  | .str _ => true
  | .ty _ => true
  | _ => false
def toV : Tr → V
  | .non => .non
  | .bl b => .bl b
  | .int i => .int i
  | .str x => .str x
  | .ty n => .ty n
  | .obj a => .ref a
  | _ => .non
def ofV : V → Tr
  | .non => .non
  | .bl b => .bl b
  | .int i => .int i
  | .str x => .str x
  | .ty n => .ty n
  | _ => .non
def flatV' : V → Bool
  | .non => true
  | .bl _ => true
  | .int _ => true
  | .str _ => true
  | .ty _ => true
  | _ => false
theorem vd_flat {dr : Option (Addr × Addr)} {F : Addr → Prop} {H : Hp} {v : V} {t : Tr} (h : VD K dr F H v t) (f : flatT t = true) : v = toV t := by
  cases t with
  | non => exact h
  | bl b => exact h
  | int i => exact h
  | str x => exact h
  | ty n => exact h
  | _ => cases f
theorem vd_ofV {dr : Option (Addr × Addr)} {F : Addr → Prop} {H : Hp} {v : V} (h : flatV' v = true) : VD K dr F H v (ofV v) := by
  cases v with
  | non => rfl
  | bl b => rfl
  | int i => rfl
  | str x => rfl
  | ty n => rfl
  | _ => cases h
/-- a rule over two values -/
def SimR (K : PySem.W.Frag) (r : R2) (d : Tr → Tr → Om → PT' → Prop) : Prop := ∀ g H Ω x y tx ty P Q, OmOk K g H Ω → VD K g.dr (NM g Ω) H x tx → VD K g.dr (NM g Ω) H y ty → d tx ty Ω P → After K g H Ω P Q → r x y H Q
def dOp (d : Tr → Tr → Om → PT' → Prop) (da db : DE) : DE := fun ρ Ω P PX => da ρ Ω (fun x Ω1 => db ρ Ω1 (fun y Ω2 => d x y Ω2 P) PX) PX
theorem sim_op {r : R2} {d : Tr → Tr → Om → PT' → Prop} {ta tb : TE} {da db : DE} (hr : SimR K r d) (ha : SimE K G E ta da) (hb : SimE K G E tb db) : SimE K G E (tOp r ta tb) (dOp d da db) := fun g σ H ρ Ω P PX Q hG R h q qx =>
  ha g σ H ρ Ω _ PX _ hG R h (fun x Ω1 v H1 h1 k1 o1 d1 => hb g σ H1 ρ Ω1 _ PX _ hG (R.keep k1 o1) h1 (fun y Ω2 u H2 h2 k2 o2 d2 => hr g H2 Ω2 v u x y P Q o2 (d1.keep k2) d2 h2 (q.at (k1.trans k2))) (qx.at k1)) qx
def dI (C : Int → Int → Prop) (f : Int → Int → V) : Tr → Tr → Om → PT' → Prop := fun x y Ω P => ∃ i j, x = .int i ∧ y = .int j ∧ C i j ∧ P (ofV (f i j)) Ω
def dI0 (f : Int → Int → V) : Tr → Tr → Om → PT' → Prop := fun x y Ω P => ∃ i j, x = .int i ∧ y = .int j ∧ P (ofV (f i j)) Ω
theorem simr_I {C : Int → Int → Prop} {f : Int → Int → V} (hf : ∀ i j, flatV' (f i j) = true) : SimR K (rI C f) (dI C f) := fun g H Ω x y tx ty P Q o d1 d2 ⟨i, j, e1, e2, c, p⟩ q => by
  subst e1 e2
  exact ⟨i, j, d1, d2, c, q _ Ω _ H p .refl o (vd_ofV (hf i j))⟩
theorem simr_I0 {f : Int → Int → V} (hf : ∀ i j, flatV' (f i j) = true) : SimR K (rI0 f) (dI0 f) := fun g H Ω x y tx ty P Q o d1 d2 ⟨i, j, e1, e2, p⟩ q => by
  subst e1 e2
  exact ⟨i, j, d1, d2, q _ Ω _ H p .refl o (vd_ofV (hf i j))⟩
def dEq : Tr → Tr → Om → PT' → Prop := fun x y Ω P => flatT x = true ∧ flatT y = true ∧ scal (toV x) (toV y) = true ∧ P (.bl (decide (toV x = toV y))) Ω
def dNe : Tr → Tr → Om → PT' → Prop := fun x y Ω P => flatT x = true ∧ flatT y = true ∧ scal (toV x) (toV y) = true ∧ P (.bl (!decide (toV x = toV y))) Ω
theorem simr_Eq : SimR K rEq dEq := fun g H Ω x y tx ty P Q o d1 d2 ⟨f1, f2, s, p⟩ q => by
  obtain rfl := vd_flat d1 f1
  obtain rfl := vd_flat d2 f2
  exact ⟨s, q _ Ω _ H p .refl o rfl⟩
theorem simr_Ne : SimR K rNe dNe := fun g H Ω x y tx ty P Q o d1 d2 ⟨f1, f2, s, p⟩ q => by
  obtain rfl := vd_flat d1 f1
  obtain rfl := vd_flat d2 f2
  exact ⟨s, q _ Ω _ H p .refl o rfl⟩
def dUn (d : Tr → Om → PT' → Prop) (da : DE) : DE := fun ρ Ω P PX => da ρ Ω (fun x Ω1 => d x Ω1 P) PX
def dU (f : Int → V) : Tr → Om → PT' → Prop := fun x Ω P => ∃ i, x = .int i ∧ P (ofV (f i)) Ω
theorem sim_un {f : Int → V} {ta : TE} {da : DE} (hf : ∀ i, flatV' (f i) = true) (ha : SimE K G E ta da) : SimE K G E (tUn (rU f) ta) (dUn (dU f) da) := fun g σ H ρ Ω P PX Q hG R h q qx =>
  ha g σ H ρ Ω _ PX _ hG R h (fun x Ω1 v H1 ⟨i, e, p⟩ k1 o1 d1 => by
    subst e
    exact ⟨i, d1, q _ Ω1 _ H1 p k1 o1 (vd_ofV (hf i))⟩) qx
def isNonT : Tr → Bool
  | .non => true
  | _ => false
theorem vd_non {dr : Option (Addr × Addr)} {F : Addr → Prop} {H : Hp} {v : V} {t : Tr} (h : VD K dr F H v t) : decide (v = .non) = isNonT t := by
  cases t with
  | non => rw [show v = _ from h]; rfl
  | bl b => rw [show v = _ from h]; rfl
  | int b => rw [show v = _ from h]; rfl
  | str b => rw [show v = _ from h]; rfl
  | ty b => rw [show v = _ from h]; rfl
  | lst ts => obtain ⟨a, xs, rfl, _⟩ := h; rfl
  | tup ts => obtain ⟨a, xs, rfl, _⟩ := h; rfl
  | dic ks ts => obtain ⟨a, xs, rfl, _⟩ := h; rfl
  | obj a => rw [show v = _ from h]; rfl
  | drw => obtain ⟨d, s, _, rfl⟩ := h; rfl
/-! ### tests -/
def dTest (de : DE) : DT := fun ρ Ω P PX => de ρ Ω (fun x Ω1 => ∃ k, x = .bl k ∧ P k Ω1) PX
theorem sim_test {te : TE} {de : DE} (h : SimE K G E te de) : SimT K G E (tTest te) (dTest de) := fun g σ H ρ Ω P PX Q hG R h1 q qx =>
  h g σ H ρ Ω _ PX _ hG R h1 (fun x Ω1 v H1 ⟨k, e, p⟩ k1 o1 d1 => by
    subst e
    exact ⟨k, d1, q _ Ω1 H1 p k1 o1⟩) qx
theorem sim_tB {te : TE} {de : DE} (h : SimE K G E te de) : SimT K G E (tB te) (dTest de) := sim_test h
def dAnd (da db : DT) : DT := fun ρ Ω P PX => da ρ Ω (fun c Ω1 => if c = true then db ρ Ω1 P PX else P false Ω1) PX
def dOr (da db : DT) : DT := fun ρ Ω P PX => da ρ Ω (fun c Ω1 => if c = true then P true Ω1 else db ρ Ω1 P PX) PX
def dNot (da : DT) : DT := fun ρ Ω P PX => da ρ Ω (fun c Ω1 => P (!c) Ω1) PX
theorem sim_and {ta tb : TT} {da db : DT} (ha : SimT K G E ta da) (hb : SimT K G E tb db) : SimT K G E (tAnd ta tb) (dAnd da db) := fun g σ H ρ Ω P PX Q hG R h q qx =>
  ha g σ H ρ Ω _ PX _ hG R h (fun c Ω1 H1 h1 k1 o1 => by
    by_cases hc : c = true
    · rw [if_pos hc] at h1 ⊢
      exact hb g σ H1 ρ Ω1 P PX Q hG (R.keep k1 o1) h1 (fun b Ω2 H2 p k2 o2 => q b Ω2 H2 p (k1.trans k2) o2) (qx.at k1)
    · rw [if_neg hc] at h1 ⊢
      exact q _ Ω1 H1 h1 k1 o1) qx
theorem sim_or {ta tb : TT} {da db : DT} (ha : SimT K G E ta da) (hb : SimT K G E tb db) : SimT K G E (tOr ta tb) (dOr da db) := fun g σ H ρ Ω P PX Q hG R h q qx =>
  ha g σ H ρ Ω _ PX _ hG R h (fun c Ω1 H1 h1 k1 o1 => by
    by_cases hc : c = true
    · rw [if_pos hc] at h1 ⊢
      exact q _ Ω1 H1 h1 k1 o1
    · rw [if_neg hc] at h1 ⊢
      exact hb g σ H1 ρ Ω1 P PX Q hG (R.keep k1 o1) h1 (fun b Ω2 H2 p k2 o2 => q b Ω2 H2 p (k1.trans k2) o2) (qx.at k1)) qx
theorem sim_not {ta : TT} {da : DT} (ha : SimT K G E ta da) : SimT K G E (tNot ta) (dNot da) := fun g σ H ρ Ω P PX Q hG R h q qx =>
  ha g σ H ρ Ω _ PX _ hG R h (fun c Ω1 H1 h1 k1 o1 => q _ Ω1 H1 h1 k1 o1) qx
def dAndV (da db : DE) : DE := fun ρ Ω P PX => da ρ Ω (fun x Ω1 => ∃ c, x = .bl c ∧ if c = true then db ρ Ω1 P PX else P (.bl false) Ω1) PX
def dOrV (da db : DE) : DE := fun ρ Ω P PX => da ρ Ω (fun x Ω1 => ∃ c, x = .bl c ∧ if c = true then P (.bl true) Ω1 else db ρ Ω1 P PX) PX
def dNotV (da : DE) : DE := fun ρ Ω P PX => da ρ Ω (fun x Ω1 => ∃ c, x = .bl c ∧ P (.bl (!c)) Ω1) PX
theorem sim_andV {ta tb : TE} {da db : DE} (ha : SimE K G E ta da) (hb : SimE K G E tb db) : SimE K G E (tAndV ta tb) (dAndV da db) := fun g σ H ρ Ω P PX Q hG R h q qx =>
  ha g σ H ρ Ω _ PX _ hG R h (fun x Ω1 v H1 ⟨c, e, h1⟩ k1 o1 d1 => by
    subst e
    refine ⟨c, d1, ?_⟩
    by_cases hc : c = true
    · rw [if_pos hc] at h1 ⊢
      exact hb g σ H1 ρ Ω1 P PX Q hG (R.keep k1 o1) h1 (q.at k1) (qx.at k1)
    · rw [if_neg hc] at h1 ⊢
      exact q _ Ω1 _ H1 h1 k1 o1 rfl) qx
theorem sim_orV {ta tb : TE} {da db : DE} (ha : SimE K G E ta da) (hb : SimE K G E tb db) : SimE K G E (tOrV ta tb) (dOrV da db) := fun g σ H ρ Ω P PX Q hG R h q qx =>
  ha g σ H ρ Ω _ PX _ hG R h (fun x Ω1 v H1 ⟨c, e, h1⟩ k1 o1 d1 => by
    subst e
    refine ⟨c, d1, ?_⟩
    by_cases hc : c = true
    · rw [if_pos hc] at h1 ⊢
      exact q _ Ω1 _ H1 h1 k1 o1 rfl
    · rw [if_neg hc] at h1 ⊢
      exact hb g σ H1 ρ Ω1 P PX Q hG (R.keep k1 o1) h1 (q.at k1) (qx.at k1)) qx
theorem sim_notV {ta : TE} {da : DE} (ha : SimE K G E ta da) : SimE K G E (tNotV ta) (dNotV da) := fun g σ H ρ Ω P PX Q hG R h q qx =>
  ha g σ H ρ Ω _ PX _ hG R h (fun x Ω1 v H1 ⟨c, e, h1⟩ k1 o1 d1 => by
    subst e
    exact ⟨c, d1, q _ Ω1 _ H1 h1 k1 o1 rfl⟩) qx
def dIf (dt : DT) (da db : DE) : DE := fun ρ Ω P PX => dt ρ Ω (fun c Ω1 => if c = true then da ρ Ω1 P PX else db ρ Ω1 P PX) PX
theorem sim_if {tt : TT} {ta tb : TE} {dt : DT} {da db : DE} (ht : SimT K G E tt dt) (ha : SimE K G E ta da) (hb : SimE K G E tb db) : SimE K G E (tIf tt ta tb) (dIf dt da db) := fun g σ H ρ Ω P PX Q hG R h q qx =>
  ht g σ H ρ Ω _ PX _ hG R h (fun c Ω1 H1 h1 k1 o1 => by
    by_cases hc : c = true
    · rw [if_pos hc] at h1 ⊢
      exact ha g σ H1 ρ Ω1 P PX Q hG (R.keep k1 o1) h1 (q.at k1) (qx.at k1)
    · rw [if_neg hc] at h1 ⊢
      exact hb g σ H1 ρ Ω1 P PX Q hG (R.keep k1 o1) h1 (q.at k1) (qx.at k1)) qx
def dChain (d d' : Tr → Tr → Om → PT' → Prop) (da db dc : DE) : DE := fun ρ Ω P PX => da ρ Ω (fun x Ω1 => db ρ Ω1 (fun y Ω2 => d x y Ω2 fun z Ω3 => ∃ k, z = .bl k ∧ if k = true then dc ρ Ω3 (fun w Ω4 => d' y w Ω4 P) PX else P (.bl false) Ω3) PX) PX
/-! ### argument lists, displays -/
def dNil : DA := fun _ Ω P _ => P [] Ω
def dCons (de : DE) (da : DA) : DA := fun ρ Ω P PX => de ρ Ω (fun x Ω1 => da ρ Ω1 (fun xs Ω2 => P (x :: xs) Ω2) PX) PX
theorem sim_nil : SimA K G E tNil dNil := fun g σ H ρ Ω P PX Q _ R p q _ => q [] Ω [] H p .refl R.om rfl
theorem sim_cons {te : TE} {ta : TA} {de : DE} {da : DA} (he : SimE K G E te de) (ha : SimA K G E ta da) : SimA K G E (tCons te ta) (dCons de da) := fun g σ H ρ Ω P PX Q hG R h q qx =>
  he g σ H ρ Ω _ PX _ hG R h (fun x Ω1 v H1 h1 k1 o1 d1 => ha g σ H1 ρ Ω1 _ PX _ hG (R.keep k1 o1) h1 (fun ts Ω2 vs H2 p k2 o2 d2 => q _ Ω2 _ H2 p (k1.trans k2) o2 (.cons (d1.keep k2) d2)) (qx.at k1)) qx
theorem size_ok {n : Nat} (h : n ≤ 1000000) : n ≤ sizeLine := Nat.le_trans h (by decide)
theorem size_lt {n : Nat} (h : n ≤ 1000000) : n < sizeLine := Nat.lt_of_le_of_lt h (by decide)
def dTup (da : DA) : DE := fun ρ Ω P PX => da ρ Ω (fun ts Ω1 => ts.length ≤ 1000000 ∧ P (.tup ts) Ω1) PX
/-- a new tuple -/
theorem new_tup {g : Gh} {H : Hp} {Ω : Om} {vs : List V} {ts : List Tr} {P : PT'} {Q : VK} {p : Addr} (o : OmOk K g H Ω) (d : VDL K g.dr (NM g Ω) H vs ts) (hz : ts.length ≤ 1000000) (h : P (.tup ts) Ω) (q : After K g H Ω P Q) (n : H p = none) : Q (.ref p) (upd H p (.tup vs)) :=
  have np : ¬ g.pr p := fun z => by obtain ⟨u, e⟩ := o.pt p z; rw [n] at e; cases e
  q _ Ω _ _ h (.new n) (o.new n) ⟨p, vs, rfl, .inl ⟨NM.new o n np, upd_same⟩, d.keep (.new n), hz⟩
theorem sim_tup {ta : TA} {da : DA} (ha : SimA K G E ta da) : SimE K G E (tTup ta) (dTup da) := fun g σ H ρ Ω P PX Q hG R h q qx =>
  ha g σ H ρ Ω _ PX _ hG R h (fun ts Ω1 vs H1 ⟨hz, p⟩ k1 o1 d1 => ⟨by rw [d1.len]; exact size_ok hz, fun a n => new_tup o1 d1 hz p (q.at k1) n⟩) qx
/-- a new list: data, or a cell -/
def lstNew (ts : List Tr) (Ω : Om) (P : PT') : Prop := P (.lst ts) Ω ∨ ∀ a, Ω a = none → P (.obj a) (put Ω a (.lst ts))
theorem new_lst {g : Gh} {H : Hp} {Ω : Om} {vs : List V} {ts : List Tr} {P : PT'} {Q : VK} {p : Addr} (o : OmOk K g H Ω) (d : VDL K g.dr (NM g Ω) H vs ts) (hz : ts.length ≤ 1000000) (h : lstNew ts Ω P) (q : After K g H Ω P Q) (n : H p = none) : Q (.ref p) (upd H p (.lst vs)) := by
  have np : ¬ g.pr p := fun z => by obtain ⟨u, e⟩ := o.pt p z; rw [n] at e; cases e
  rcases h with h | h
  · exact q _ Ω _ _ h (.new n) (o.new n) ⟨p, vs, rfl, NM.new o n np, upd_same, d.keep (.new n), hz⟩
  · exact q _ _ _ _ (h p (o.fresh n)) (.cell n) (o.cell n np ⟨vs, upd_same, d.keep (.cell n), hz⟩) rfl
def dLst (da : DA) : DE := fun ρ Ω P PX => da ρ Ω (fun ts Ω1 => ts.length ≤ 1000000 ∧ lstNew ts Ω1 P) PX
theorem sim_lst {ta : TA} {da : DA} (ha : SimA K G E ta da) : SimE K G E (tLst ta) (dLst da) := fun g σ H ρ Ω P PX Q hG R h q qx =>
  ha g σ H ρ Ω _ PX _ hG R h (fun ts Ω1 vs H1 ⟨hz, p⟩ k1 o1 d1 => ⟨by rw [d1.len]; exact size_ok hz, fun a n => new_lst o1 d1 hz p (q.at k1) n⟩) qx
/-! ### calls -/
abbrev Pw := List Tr → Om → PT' → PXt → Prop
def spD (K : PySem.W.Frag) (P : Pw) (n : Nat) : Sp := fun vs H Q E => ∃ (g : Gh) (Ω : Om) (ts : List Tr) (PQ : PT') (PX : PXt), ts.length = n ∧ VDL K g.dr (NM g Ω) H vs ts ∧ OmOk K g H Ω ∧ P ts Ω PQ PX ∧ After K g H Ω PQ Q ∧ AfterX K g H Ω PX E
def dCall (P : Pw) (n : Nat) (da : DA) : DE := fun ρ Ω Q PX => da ρ Ω (fun ts Ω1 => ts.length = n ∧ P ts Ω1 Q PX) PX
def dCall0 (P : Pw) (n : Nat) (da : DA) : DE := fun ρ Ω Q PX => da ρ Ω (fun ts Ω1 => ts.length = n ∧ P ts Ω1 Q nox) PX
theorem sim_call {P : Pw} {n : Nat} {E1 : XK} {ta : TA} {da : DA} (ha : SimA K G (fun _ => E1) ta da) : SimE K G (fun _ => E1) (tCall (spD K P n) [] E1 ta) (dCall P n da) := fun g σ H ρ Ω Q PX QQ hG R h q qx =>
  ha g σ H ρ Ω _ PX _ hG R h (fun ts Ω1 vs H1 ⟨hl, p⟩ k1 o1 d1 => by rw [List.append_nil]; exact ⟨g, Ω1, ts, Q, PX, hl, d1, o1, p, q.at k1, qx.at k1⟩) qx
theorem sim_call0 {P : Pw} {n : Nat} {ta : TA} {da : DA} (ha : SimA K G E ta da) : SimE K G E (tCall (spD K P n) [] E0 ta) (dCall0 P n da) := fun g σ H ρ Ω Q PX QQ hG R h q qx =>
  ha g σ H ρ Ω _ PX _ hG R h (fun ts Ω1 vs H1 ⟨hl, p⟩ k1 o1 d1 => by rw [List.append_nil]; exact ⟨g, Ω1, ts, Q, nox, hl, d1, o1, p, q.at k1, AfterX.nox⟩) qx
theorem sim_callS {P : Pw} {n : Nat} {ta : TA} {da : DA} (ha : SimA K G E ta da) : SimE K G E (tCallS (spD K P n) E ta) (dCall P n da) := fun g σ H ρ Ω Q PX QQ hG R h q qx =>
  ha g σ H ρ Ω _ PX _ hG R h (fun ts Ω1 vs H1 ⟨hl, p⟩ k1 o1 d1 => ⟨g, Ω1, ts, Q, PX, hl, d1, o1, p, q.at k1, qx.at k1⟩) qx
/-- a built-in's rule -/
def SimC (K : PySem.W.Frag) (r : List V → Hp → VK → Prop) (d : List Tr → Om → PT' → Prop) : Prop := ∀ g H Ω vs ts P Q, OmOk K g H Ω → VDL K g.dr (NM g Ω) H vs ts → d ts Ω P → After K g H Ω P Q → r vs H Q
def dCB (d : List Tr → Om → PT' → Prop) (da : DA) : DE := fun ρ Ω P PX => da ρ Ω (fun ts Ω1 => d ts Ω1 P) PX
theorem sim_CB {r : List V → Hp → VK → Prop} {d : List Tr → Om → PT' → Prop} {ta : TA} {da : DA} (hr : SimC K r d) (ha : SimA K G E ta da) : SimE K G E (tCB r ta) (dCB d da) := fun g σ H ρ Ω P PX Q hG R h q qx =>
  ha g σ H ρ Ω _ PX _ hG R h (fun ts Ω1 vs H1 p k1 o1 d1 => hr g H1 Ω1 vs ts P Q o1 d1 p (q.at k1)) qx
/-! ### statements -/
def dNext : DS := fun D ρ Ω => D.nx ρ Ω
theorem sim_next : SimS K G E tNext dNext := fun g σ H ρ Ω D DD _ R h e => e.nx ρ Ω σ H h .refl R
def dSeq (a b : DS) : DS := fun D ρ Ω => a { D with nx := b D } ρ Ω
theorem sim_seq {a b : TS} {da db : DS} (ha : SimS K G E a da) (hb : SimS K G E b db) : SimS K G E (tSeq a b) (dSeq da db) := fun g σ H ρ Ω D DD hG R h e =>
  ha g σ H ρ Ω _ _ hG R h ⟨fun ρ' Ω' σ' H' p k r => hb g σ' H' ρ' Ω' D DD hG r p (e.at k), e.rt, e.bk, e.ct, e.ex⟩
def dRet (de : DE) : DS := fun D ρ Ω => de ρ Ω D.rt (fun x Ω' => D.ex ρ x Ω')
theorem sim_ret {te : TE} {de : DE} (h : SimE K G E te de) : SimS K G E (tRet te) (dRet de) := fun g σ H ρ Ω D DD hG R p e => h g σ H ρ Ω _ _ _ hG R p e.rt (e.exx R)
def dRetN : DS := fun D _ Ω => D.rt .non Ω
theorem sim_retN : SimS K G E tRetN dRetN := fun g σ H ρ Ω D DD _ R h e => e.rt _ Ω _ H h .refl R.om rfl
def dDrop (de : DE) : DS := fun D ρ Ω => de ρ Ω (fun _ Ω' => D.nx ρ Ω') (fun x Ω' => D.ex ρ x Ω')
theorem sim_drop {te : TE} {de : DE} (h : SimE K G E te de) : SimS K G E (tDrop te) (dDrop de) := fun g σ H ρ Ω D DD hG R p e => h g σ H ρ Ω _ _ _ hG R p (fun t Ω' v H' p k o d => e.nx ρ Ω' σ H' p k (R.keep k o)) (e.exx R)
def dBreak : DS := fun D ρ Ω => D.bk ρ Ω
def dCont : DS := fun D ρ Ω => D.ct ρ Ω
theorem sim_break : SimS K G E tBreak dBreak := fun g σ H ρ Ω D DD _ R h e => e.bk ρ Ω σ H h .refl R
theorem sim_cont : SimS K G E tCont dCont := fun g σ H ρ Ω D DD _ R h e => e.ct ρ Ω σ H h .refl R
def dIfS (dt : DT) (a b : DS) : DS := fun D ρ Ω => dt ρ Ω (fun c Ω1 => if c = true then a D ρ Ω1 else b D ρ Ω1) (fun x Ω' => D.ex ρ x Ω')
theorem sim_ifS {tt : TT} {a b : TS} {dt : DT} {da db : DS} (ht : SimT K G E tt dt) (ha : SimS K G E a da) (hb : SimS K G E b db) : SimS K G E (tIfS tt a b) (dIfS dt da db) := fun g σ H ρ Ω D DD hG R h e =>
  ht g σ H ρ Ω _ _ _ hG R h (fun c Ω1 H1 h1 k1 o1 => by
    by_cases hc : c = true
    · rw [if_pos hc] at h1 ⊢
      exact ha g σ H1 ρ Ω1 D DD hG (R.keep k1 o1) h1 (e.at k1)
    · rw [if_neg hc] at h1 ⊢
      exact hb g σ H1 ρ Ω1 D DD hG (R.keep k1 o1) h1 (e.at k1)) (e.exx R)
/-! ### targets -/
def dName (i : Nat) : DG := fun t ρ Ω P _ => P (ρ.set i (some t)) Ω
theorem sim_gName {i : Nat} : SimG K G E (gName i) (dName i) := fun g σ H ρ Ω v t P PX Q _ R d p q _ => q _ Ω _ H p .refl (R.set d)
def dgNil : DGs := fun ts ρ Ω P _ => ts = [] ∧ P ρ Ω
def dgCons (d : DG) (u : DGs) : DGs := fun ts ρ Ω P PX => ∃ t r, ts = t :: r ∧ d t ρ Ω (fun ρ' Ω' => u r ρ' Ω' P PX) PX
theorem sim_gNil : SimGs K G gNil dgNil := fun g σ H ρ Ω v t P Q _ R d ⟨e, p⟩ q => by
  subst e
  exact ⟨d, q ρ Ω σ H p .refl R⟩
theorem sim_gCons {t : TG} {u : TGs} {d : DG} {e : DGs} (ht : SimG K G (fun _ _ _ _ => False) t d) (hu : SimGs K G u e) : SimGs K G (gCons t u) (dgCons d e) := fun g σ H ρ Ω v ts P Q hG R dd ⟨x, r, e1, p⟩ q => by
  subst e1
  obtain ⟨v, vs, rfl, d1, d2⟩ := dd
  refine ⟨v, vs, rfl, ht g σ H ρ Ω v x _ _ _ hG R d1 p (fun ρ' Ω' σ' H' p' k r => hu g σ' H' ρ' Ω' vs _ P Q hG r (d2.keep k) p' fun ρ2 Ω2 σ2 H2 p2 k2 r2 => q ρ2 Ω2 σ2 H2 p2 (k.trans k2) r2) fun _ _ _ ⟨_, _, z, _⟩ => z.elim⟩
def dTupG (n : Nat) (d : DGs) : DG := fun t ρ Ω P _ => ∃ ts, t = .tup ts ∧ ts.length = n ∧ d ts ρ Ω P nox
theorem sqt {dr : Option (Addr × Addr)} {F : Addr → Prop} {H : Hp} {v : V} {ts : List Tr} (h : VD K dr F H v (.tup ts)) : ∃ a xs, v = .ref a ∧ SqT K H a xs ∧ VDL K dr F H xs ts ∧ ts.length ≤ 1000000 := by
  obtain ⟨a, xs, e, h, d, z⟩ := h
  exact ⟨a, xs, e, h.elim (fun h => SqT.of h.2) fun h => h.1 H, d, z⟩
theorem sql {dr : Option (Addr × Addr)} {F : Addr → Prop} {H : Hp} {v : V} {ts : List Tr} (h : VD K dr F H v (.lst ts)) : ∃ a xs, v = .ref a ∧ SqL K H a xs ∧ VDL K dr F H xs ts ∧ ts.length ≤ 1000000 := by
  obtain ⟨a, xs, e, f, h, d, z⟩ := h
  exact ⟨a, xs, e, SqL.of h, d, z⟩
theorem sim_gTup {n : Nat} {t : TGs} {d : DGs} (h : SimGs K G t d) : SimG K G E (gTup K n t) (dTupG n d) := fun g σ H ρ Ω v t' P PX Q hG R dd ⟨ts, e1, hl, p⟩ q _ => by
  subst e1
  obtain ⟨a, xs, rfl, hs, dl, hz⟩ := sqt dd
  exact ⟨a, xs, rfl, hs, by rw [dl.len]; exact hl, h g σ H ρ Ω xs ts P Q hG R dl p q⟩
def dAsg (de : DE) (dg : DG) : DS := fun D ρ Ω => de ρ Ω (fun x Ω1 => dg x ρ Ω1 D.nx (fun y Ω' => D.ex ρ y Ω')) (fun y Ω' => D.ex ρ y Ω')
theorem sim_asg {te : TE} {tg : TG} {de : DE} {dg : DG} (he : SimE K G E te de) (hg : SimG K G E tg dg) : SimS K G E (tAsg te tg) (dAsg de dg) := fun g σ H ρ Ω D DD hG R h e =>
  he g σ H ρ Ω _ _ _ hG R h (fun x Ω1 v H1 h1 k1 o1 d1 => hg g σ H1 ρ Ω1 v x _ _ _ hG (R.keep k1 o1) d1 h1 (fun ρ' Ω' σ' H' p k r => e.nx ρ' Ω' σ' H' p (k1.trans k) r) fun c d H' ⟨y, Ω', p, k, o, r⟩ => e.ex y ρ Ω' σ c d H' p (k1.trans k) (R.keep (k1.trans k) o) r) (e.exx R)
/-! ### loops -/
def ItOk (K : PySem.W.Frag) (g : Gh) (J : It) (items : List Tr) (H1 : Hp) (Ω1 : Om) (stay : Om → Prop) : Prop :=
  ∀ (g' : Gh), (g' = g ∨ ∃ D, H1 D = none ∧ g' = g.with D) → ∀ (i : Nat) H' Ω', Keep g H1 Ω1 H' Ω' → OmOk K g' H' Ω' → stay Ω' →
    (i = items.length → J.stop i H') ∧ (i < items.length → J.go i H' ∧ ∀ x H'', J.yld i H' x H'' → Keep g H' Ω' H'' Ω' ∧ OmOk K g' H'' Ω' ∧ ∃ t, items[i]? = some t ∧ VD K g'.dr (NM g' Ω') H'' x t)
def SimI (K : PySem.W.Frag) (G : List (Value × Option Addr × XV) → Prop) (E : EK) (wi : TI) (di : DI) : Prop := ∀ g σ H ρ Ω P PX R, G g.ex → Rel K g σ H ρ Ω → di ρ Ω P PX → (∀ items stay Ω' J H', P items stay Ω' → Keep g H Ω H' Ω' → OmOk K g H' Ω' → ItOk K g J items H' Ω' stay → R J H') → AfterX K g H Ω PX (E σ) → wi σ H R
def dFor (di : DI) (dg : DG) (db : DS) : DS := fun D ρ Ω => di ρ Ω (fun items stay Ω1 => ∃ W : Nat → En → Om → Prop, W 0 ρ Ω1 ∧ (∀ i ρ' Ω', W i ρ' Ω' → stay Ω') ∧
  (∀ i t ρ' Ω', items[i]? = some t → W i ρ' Ω' → dg t ρ' Ω' (fun ρ2 Ω2 => db { D with nx := W (i + 1), ct := W (i + 1), bk := D.nx } ρ2 Ω2) nox) ∧ ∀ ρ' Ω', W items.length ρ' Ω' → D.nx ρ' Ω') (fun y Ω' => D.ex ρ y Ω')
theorem sim_for {wi : TI} {tg : TG} {tb : TS} {di : DI} {dg : DG} {db : DS} (hi : SimI K G E wi di) (hg : SimG K G E tg dg) (hb : SimS K G E tb db) : SimS K G E (tFor wi tg tb) (dFor di dg db) := fun g σ H ρ Ω D DD hG R h e => by
  refine hi g σ H ρ Ω _ _ _ hG R h (fun items stay Ω1 J H1 h1 k1 o1 it => ?_) (e.exx R)
  obtain ⟨W, w0, wst, step, fin⟩ := h1
  refine ⟨fun i m σ' H' => m + i = items.length ∧ ∃ ρ' Ω', Keep g H1 Ω1 H' Ω' ∧ Rel K g σ' H' ρ' Ω' ∧ W i ρ' Ω', ⟨items.length, by omega, ρ, Ω1, .refl, R.keep k1 o1, w0⟩, ?_⟩
  rintro i m σ' H' ⟨hm, ρ', Ω', k2, R2, w⟩
  obtain ⟨s1, s2⟩ := it g (.inl rfl) i H' Ω' k2 R2.om (wst _ _ _ w)
  rcases Nat.lt_or_ge i items.length with hlt | hge
  · obtain ⟨go, yl⟩ := s2 hlt
    refine .inr ⟨go, fun σ2 H2 => m - 1 + (i + 1) = items.length ∧ ∃ ρ2 Ω2, Keep g H1 Ω1 H2 Ω2 ∧ Rel K g σ2 H2 ρ2 Ω2 ∧ W (i + 1) ρ2 Ω2, fun σ2 H2 z => ⟨m - 1, by omega, z⟩, fun x H'' y => ?_⟩
    obtain ⟨k3, o3, t, et, dt⟩ := yl x H'' y
    have R3 := R2.keep k3 o3
    refine hg g σ' H'' ρ' Ω' x t _ _ _ hG R3 dt (step i t ρ' Ω' et w) (fun ρ2 Ω2 σ2 H2 p k4 R4 => ?_) fun _ _ _ ⟨_, _, z, _⟩ => z.elim
    have k5 := (k2.trans k3).trans k4
    refine hb g σ2 H2 ρ2 Ω2 _ _ hG R4 p ⟨fun ρ3 Ω3 σ3 H3 p3 k r => ⟨by omega, ρ3, Ω3, k5.trans k, r, p3⟩, (e.rt.at k1).at k5, fun ρ3 Ω3 σ3 H3 p3 k r => e.nx ρ3 Ω3 σ3 H3 p3 ((k1.trans k5).trans k) r, fun ρ3 Ω3 σ3 H3 p3 k r => ⟨by omega, ρ3, Ω3, k5.trans k, r, p3⟩, fun x ρ3 Ω3 σ3 c d H3 p3 k r z => e.ex x ρ3 Ω3 σ3 c d H3 p3 ((k1.trans k5).trans k) r z⟩
  · have hi : i = items.length := by omega
    exact .inl ⟨s1 hi, e.nx ρ' Ω' σ' H' (fin ρ' Ω' (hi ▸ w)) (k1.trans k2) R2⟩
def dWhile (dt : DT) (db : DS) : DS := fun D ρ Ω => ∃ W : Nat → En → Om → Prop, (∃ m, W m ρ Ω) ∧ ∀ m ρ' Ω', W m ρ' Ω' → dt ρ' Ω' (fun b Ω1 => if b = true then db { D with nx := fun ρ2 Ω2 => ∃ m', m' < m ∧ W m' ρ2 Ω2, ct := fun ρ2 Ω2 => ∃ m', m' < m ∧ W m' ρ2 Ω2, bk := D.nx } ρ' Ω1 else D.nx ρ' Ω1) (fun x Ω1 => D.ex ρ' x Ω1)
theorem sim_while {tt : TT} {tb : TS} {dt : DT} {db : DS} (ht : SimT K G E tt dt) (hb : SimS K G E tb db) : SimS K G E (tWhile tt tb) (dWhile dt db) := fun g σ H ρ Ω D DD hG R ⟨W, ⟨m0, w0⟩, step⟩ e => by
  refine ⟨fun m σ' H' => ∃ ρ' Ω', Keep g H Ω H' Ω' ∧ Rel K g σ' H' ρ' Ω' ∧ W m ρ' Ω', ⟨m0, ρ, Ω, .refl, R, w0⟩, ?_⟩
  rintro m σ' H' ⟨ρ', Ω', k, R', w⟩
  refine ht g σ' H' ρ' Ω' _ _ _ hG R' (step m ρ' Ω' w) (fun b Ω1 H1 h1 k1 o1 => ?_) (fun x Ω1 c d H1 p k1 o1 r => e.ex x ρ' Ω1 σ' c d H1 p (k.trans k1) (R'.keep k1 o1) r)
  by_cases hbb : b = true
  · rw [if_pos hbb] at h1 ⊢
    have kk := k.trans k1
    refine ⟨fun σ2 H2 => ∃ m', m' < m ∧ ∃ ρ2 Ω2, Keep g H Ω H2 Ω2 ∧ Rel K g σ2 H2 ρ2 Ω2 ∧ W m' ρ2 Ω2, fun σ2 H2 z => z, ?_⟩
    exact hb g σ' H1 ρ' Ω1 _ _ hG (R'.keep k1 o1) h1 ⟨fun ρ3 Ω3 σ3 H3 ⟨m', hm, p3⟩ k3 r => ⟨m', hm, ρ3, Ω3, kk.trans k3, r, p3⟩, e.rt.at kk, fun ρ3 Ω3 σ3 H3 p3 k3 r => e.nx ρ3 Ω3 σ3 H3 p3 (kk.trans k3) r, fun ρ3 Ω3 σ3 H3 ⟨m', hm, p3⟩ k3 r => ⟨m', hm, ρ3, Ω3, kk.trans k3, r, p3⟩, fun x ρ3 Ω3 σ3 c d H3 p3 k3 r z => e.ex x ρ3 Ω3 σ3 c d H3 p3 (kk.trans k3) r z⟩
  · rw [if_neg hbb] at h1 ⊢
    exact e.nx ρ' Ω1 σ' H1 h1 (k.trans k1) (R'.keep k1 o1)
end
end LT

namespace LT
open PySem PySem.Spec PyProof.Rows L2 LL
section
variable {K : PySem.W.Frag} {G : List (Value × Option Addr × XV) → Prop} {E : EK}
/-! ### what is walked -/
def cellL : Option Cell → Option (List Tr)
  | some (.lst ts) => some ts
  | _ => none
/-- the items of a list, data or cell -/
def asL : Tr → Om → Option (List Tr)
  | .lst ts, _ => some ts
  | .obj a, Ω => cellL (Ω a)
  | _, _ => none
def asT : Tr → Option (List Tr)
  | .tup ts => some ts
  | _ => none
def asS : Tr → Om → Option (List Tr)
  | .tup ts, _ => some ts
  | .lst ts, _ => some ts
  | .obj a, Ω => cellL (Ω a)
  | _, _ => none
theorem asL_lst {ts : List Tr} {Ω : Om} : asL (.lst ts) Ω = some ts := rfl
theorem asL_obj {a : Addr} {ts : List Tr} {Ω : Om} (h : Ω a = some (.lst ts)) : asL (.obj a) Ω = some ts := by show cellL (Ω a) = _; rw [h]; rfl
theorem asS_lst {ts : List Tr} {Ω : Om} : asS (.lst ts) Ω = some ts := rfl
theorem asS_tup {ts : List Tr} {Ω : Om} : asS (.tup ts) Ω = some ts := rfl
theorem asT_tup {ts : List Tr} : asT (.tup ts) = some ts := rfl
theorem asS_obj {a : Addr} {ts : List Tr} {Ω : Om} (h : Ω a = some (.lst ts)) : asS (.obj a) Ω = some ts := by show cellL (Ω a) = _; rw [h]; rfl
theorem at_L {g : Gh} {H : Hp} {Ω : Om} {v : V} {t : Tr} {ts : List Tr} (o : OmOk K g H Ω) (d : VD K g.dr (NM g Ω) H v t) (h : asL t Ω = some ts) : ∃ a xs, v = .ref a ∧ SqL K H a xs ∧ H a = some (.lst xs) ∧ VDL K g.dr (NM g Ω) H xs ts ∧ ts.length ≤ 1000000 := by
  cases t with
  | lst us =>
    cases h
    obtain ⟨a, xs, e, f, h, d, z⟩ := d
    exact ⟨a, xs, e, SqL.of h, h, d, z⟩
  | obj a =>
    cases e : Ω a with
    | none =>
      replace h : cellL (Ω a) = some ts := h
      rw [e] at h
      cases h
    | some c =>
      cases c with
      | lst us =>
        rw [asL_obj e] at h
        cases h
        obtain ⟨xs, h1, h2, z⟩ := (o.ce a _ e).2
        exact ⟨a, xs, d, SqL.of h1, h1, h2, z⟩
      | _ =>
        replace h : cellL (Ω a) = some ts := h
        rw [e] at h
        cases h
  | _ => cases h
theorem at_T {g : Gh} {H : Hp} {Ω : Om} {v : V} {t : Tr} {ts : List Tr} (d : VD K g.dr (NM g Ω) H v t) (h : asT t = some ts) : ∃ a xs, v = .ref a ∧ SqT K H a xs ∧ VDL K g.dr (NM g Ω) H xs ts ∧ ts.length ≤ 1000000 := by
  cases t with
  | tup us =>
    cases h
    obtain ⟨a, xs, e, s, d, z⟩ := sqt d
    exact ⟨a, xs, e, s, d, z⟩
  | _ => cases h
theorem at_S {g : Gh} {H : Hp} {Ω : Om} {v : V} {t : Tr} {ts : List Tr} (o : OmOk K g H Ω) (d : VD K g.dr (NM g Ω) H v t) (h : asS t Ω = some ts) : ∃ a xs, v = .ref a ∧ (SqL K H a xs ∨ SqT K H a xs) ∧ VDL K g.dr (NM g Ω) H xs ts ∧ ts.length ≤ 1000000 := by
  cases t with
  | tup us =>
    obtain ⟨a, xs, e, s, d, z⟩ := at_T (ts := ts) d h
    exact ⟨a, xs, e, .inr s, d, z⟩
  | lst us =>
    obtain ⟨a, xs, e, s, _, d, z⟩ := at_L (ts := ts) o d h
    exact ⟨a, xs, e, .inl s, d, z⟩
  | obj us =>
    obtain ⟨a, xs, e, s, _, d, z⟩ := at_L (ts := ts) o d h
    exact ⟨a, xs, e, .inl s, d, z⟩
  | _ => cases h
/-- what must stay so while it is walked -/
def stay : Tr → List Tr → Om → Prop
  | .obj a, ts => fun Ω => Ω a = some (.lst ts)
  | _, _ => fun _ => True
theorem vd_at {g g' : Gh} {H1 H' : Hp} {Ω1 Ω' : Om} {v : V} {t : Tr} (hg : g' = g ∨ ∃ D, H1 D = none ∧ g' = g.with D) (k : Keep g H1 Ω1 H' Ω') (d : VD K g.dr (NM g Ω1) H1 v t) : VD K g'.dr (NM g' Ω') H' v t := by
  rcases hg with rfl | ⟨D, n, rfl⟩
  · exact d.keep k
  · exact (d.more n).keep (g := g.with D) k
theorem vdl_at {g g' : Gh} {H1 H' : Hp} {Ω1 Ω' : Om} {v : List V} {t : List Tr} (hg : g' = g ∨ ∃ D, H1 D = none ∧ g' = g.with D) (k : Keep g H1 Ω1 H' Ω') (d : VDL K g.dr (NM g Ω1) H1 v t) : VDL K g'.dr (NM g' Ω') H' v t := by
  rcases hg with rfl | ⟨D, n, rfl⟩
  · exact d.keep k
  · exact (d.more n).keep (g := g.with D) k
/-- a list that stays, at every turn -/
theorem stays_L {g g' : Gh} {H1 H' : Hp} {Ω1 Ω' : Om} {t : Tr} {ts : List Tr} {a : Addr} (hg : g' = g ∨ ∃ D, H1 D = none ∧ g' = g.with D) (k : Keep g H1 Ω1 H' Ω') (o' : OmOk K g' H' Ω') (st : stay t ts Ω') (h : asL t Ω1 = some ts) (d : VD K g.dr (NM g Ω1) H1 (.ref a) t) : ∃ ys, SqL K H' a ys ∧ VDL K g'.dr (NM g' Ω') H' ys ts := by
  cases t with
  | lst us =>
    cases h
    obtain ⟨b, ys, e, f, h, d, z⟩ := vd_at hg k d
    cases e
    exact ⟨ys, SqL.of h, d⟩
  | obj b =>
    cases d
    obtain ⟨ys, h1, h2, _⟩ := (o'.ce a _ st).2
    exact ⟨ys, SqL.of h1, h2⟩
  | _ => cases h
theorem itl_ok {g : Gh} {H1 : Hp} {Ω1 : Om} {t : Tr} {ts : List Tr} {a : Addr} (h : asL t Ω1 = some ts) (d : VD K g.dr (NM g Ω1) H1 (.ref a) t) : ItOk K g (Itl K a) ts H1 Ω1 (stay t ts) := fun g' hg i H' Ω' k o' st => by
  obtain ⟨ys, s, dl⟩ := stays_L hg k o' st h d
  refine ⟨fun e => ⟨ys, s, by rw [dl.len]; omega⟩, fun hi => ⟨⟨ys, ys[i]'(by rw [dl.len]; exact hi), s, List.getElem?_eq_getElem _⟩, ?_⟩⟩
  rintro x H'' ⟨rfl, hx⟩
  obtain ⟨t, et, dt⟩ := dl.get _ (hx ys s)
  exact ⟨.refl, o', t, et, dt⟩
theorem itt_ok {g : Gh} {H1 : Hp} {Ω1 : Om} {t : Tr} {ts : List Tr} {a : Addr} (h : asT t = some ts) (d : VD K g.dr (NM g Ω1) H1 (.ref a) t) : ItOk K g (Itt K a) ts H1 Ω1 (fun _ => True) := fun g' hg i H' Ω' k o' _ => by
  obtain ⟨b, ys, e, s, dl, _⟩ := at_T (vd_at hg k d) h
  cases e
  refine ⟨fun e => ⟨ys, s, by rw [dl.len]; omega⟩, fun hi => ⟨⟨ys, ys[i]'(by rw [dl.len]; exact hi), s, List.getElem?_eq_getElem _⟩, ?_⟩⟩
  rintro x H'' ⟨rfl, hx⟩
  obtain ⟨t, et, dt⟩ := dl.get _ (hx ys s)
  exact ⟨.refl, o', t, et, dt⟩
def diL (de : DE) : DI := fun ρ Ω P PX => de ρ Ω (fun t Ω1 => ∃ ts, asL t Ω1 = some ts ∧ (ts.length ≤ 1000000 → P ts (stay t ts) Ω1)) PX
theorem sim_iL {te : TE} {de : DE} (h : SimE K G E te de) : SimI K G E (iList K te) (diL de) := fun g σ H ρ Ω P PX R hG r p q qx =>
  h g σ H ρ Ω _ PX _ hG r p (fun t Ω1 v H1 ⟨ts, e, p1⟩ k1 o1 d1 => by
    obtain ⟨a, xs, rfl, s, _, dl, z⟩ := at_L o1 d1 e
    exact ⟨a, rfl, ⟨xs, s⟩, q ts _ Ω1 _ H1 (p1 z) k1 o1 (itl_ok e d1)⟩) qx
def diT (de : DE) : DI := fun ρ Ω P PX => de ρ Ω (fun t Ω1 => ∃ ts, asT t = some ts ∧ (ts.length ≤ 1000000 → P ts (fun _ => True) Ω1)) PX
theorem sim_iT {te : TE} {de : DE} (h : SimE K G E te de) : SimI K G E (iTup K te) (diT de) := fun g σ H ρ Ω P PX R hG r p q qx =>
  h g σ H ρ Ω _ PX _ hG r p (fun t Ω1 v H1 ⟨ts, e, p1⟩ k1 o1 d1 => by
    obtain ⟨a, xs, rfl, s, dl, z⟩ := at_T d1 e
    exact ⟨a, rfl, ⟨xs, s⟩, q ts _ Ω1 _ H1 (p1 z) k1 o1 (itt_ok e d1)⟩) qx
def diS (de : DE) : DI := fun ρ Ω P PX => de ρ Ω (fun t Ω1 => ∃ ts, asS t Ω1 = some ts ∧ (ts.length ≤ 1000000 → P ts (stay t ts) Ω1)) PX
theorem sim_iS {te : TE} {de : DE} (h : SimE K G E te de) : SimI K G E (iSeq K te) (diS de) := fun g σ H ρ Ω P PX R hG r p q qx =>
  h g σ H ρ Ω _ PX _ hG r p (fun t Ω1 v H1 ⟨ts, e, p1⟩ k1 o1 d1 => by
    cases t with
    | tup us =>
      obtain ⟨a, xs, rfl, s, dl, z⟩ := at_T (ts := ts) d1 e
      exact ⟨a, rfl, .inr ⟨⟨xs, s⟩, q ts _ Ω1 _ H1 (p1 z) k1 o1 (itt_ok (t := .tup us) e d1)⟩⟩
    | lst us =>
      obtain ⟨a, xs, rfl, s, _, dl, z⟩ := at_L (ts := ts) o1 d1 e
      exact ⟨a, rfl, .inl ⟨⟨xs, s⟩, q ts _ Ω1 _ H1 (p1 z) k1 o1 (itl_ok (t := .lst us) e d1)⟩⟩
    | obj b =>
      obtain ⟨a, xs, rfl, s, _, dl, z⟩ := at_L (ts := ts) o1 d1 e
      exact ⟨a, rfl, .inl ⟨⟨xs, s⟩, q ts _ Ω1 _ H1 (p1 z) k1 o1 (itl_ok (t := .obj b) e d1)⟩⟩
    | _ => cases e) qx
/-- the numbers of a range -/
def rngT (lo : Int) (n : Nat) : List Tr := (List.range n).map fun (i : Nat) => Tr.int (lo + i)
theorem rngT_len {lo : Int} {n : Nat} : (rngT lo n).length = n := by unfold rngT; rw [List.length_map, List.length_range]
theorem rngT_get {lo : Int} {n i : Nat} (h : i < n) : (rngT lo n)[i]? = some (.int (lo + i)) := by
  unfold rngT
  rw [List.getElem?_map, List.getElem?_range h]
  rfl
theorem itr_ok {g : Gh} {H1 : Hp} {Ω1 : Om} {lo : Int} {n : Nat} : ItOk K g (Itr lo n) (rngT lo n) H1 Ω1 (fun _ => True) := fun g' _ i H' Ω' k o' _ => by
  rw [rngT_len]
  refine ⟨fun e => (show n ≤ i by omega), fun hi => ⟨hi, ?_⟩⟩
  rintro x H'' ⟨rfl, rfl⟩
  exact ⟨.refl, o', _, rngT_get hi, rfl⟩
def diR1 (da : DA) : DI := fun ρ Ω P PX => da ρ Ω (fun ts Ω1 => ∃ j : Int, ts = [.int j] ∧ -(2 ^ 62) ≤ j ∧ j < 2 ^ 62 ∧ P (rngT 0 j.toNat) (fun _ => True) Ω1) PX
theorem sim_iR1 {ta : TA} {da : DA} (h : SimA K G E ta da) : SimI K G E (iRng1 ta) (diR1 da) := fun g σ H ρ Ω P PX R hG r p q qx =>
  h g σ H ρ Ω _ PX _ hG r p (fun ts Ω1 vs H1 ⟨j, e, b1, b2, p1⟩ k1 o1 d1 => by
    subst e
    obtain ⟨v, _, rfl, d, rfl⟩ := d1
    exact ⟨j, by rw [show v = _ from d], b1, b2, q _ _ Ω1 _ H1 p1 k1 o1 itr_ok⟩) qx
def diR2 (da : DA) : DI := fun ρ Ω P PX => da ρ Ω (fun ts Ω1 => ∃ i j : Int, ts = [.int i, .int j] ∧ (-(2 ^ 62) ≤ i ∧ i < 2 ^ 62 ∧ -(2 ^ 62) ≤ j ∧ j < 2 ^ 62) ∧ P (rngT i (j - i).toNat) (fun _ => True) Ω1) PX
theorem sim_iR2 {ta : TA} {da : DA} (h : SimA K G E ta da) : SimI K G E (iRng2 ta) (diR2 da) := fun g σ H ρ Ω P PX R hG r p q qx =>
  h g σ H ρ Ω _ PX _ hG r p (fun ts Ω1 vs H1 ⟨i, j, e, b1, p1⟩ k1 o1 d1 => by
    subst e
    obtain ⟨v, _, rfl, d, u, _, rfl, d2, rfl⟩ := d1
    exact ⟨i, j, by rw [show v = _ from d, show u = _ from d2], b1, q _ _ Ω1 _ H1 p1 k1 o1 itr_ok⟩) qx
/-- (0, x), (1, y), .. -/
def enumT (ts : List Tr) : List Tr := ts.mapIdx fun i t => .tup [.int (i : Nat), t]
theorem enumT_len {ts : List Tr} : (enumT ts).length = ts.length := by unfold enumT; rw [List.length_mapIdx]
theorem enumT_get {ts : List Tr} {i : Nat} {t : Tr} (h : ts[i]? = some t) : (enumT ts)[i]? = some (.tup [.int (i : Nat), t]) := by
  unfold enumT
  rw [List.getElem?_mapIdx, h]
  rfl
theorem not_pr {g : Gh} {H : Hp} {Ω : Om} (o : OmOk K g H Ω) {p : Addr} (n : H p = none) : ¬ g.pr p := fun z => by
  obtain ⟨u, e⟩ := o.pt p z
  rw [n] at e; cases e
theorem ite_ok {g : Gh} {H1 : Hp} {Ω1 : Om} {t : Tr} {ts : List Tr} {a : Addr} (h : asL t Ω1 = some ts) (d : VD K g.dr (NM g Ω1) H1 (.ref a) t) : ItOk K g (Ite K a) (enumT ts) H1 Ω1 (stay t ts) := fun g' hg i H' Ω' k o' st => by
  obtain ⟨ys, s, dl⟩ := stays_L hg k o' st h d
  rw [enumT_len]
  refine ⟨fun e => ⟨ys, s, by rw [dl.len]; omega⟩, fun hi => ⟨⟨ys, ys[i]'(by rw [dl.len]; exact hi), s, List.getElem?_eq_getElem _⟩, ?_⟩⟩
  rintro v H'' ⟨T, x, rfl, n, rfl, hx⟩
  obtain ⟨t, et, dt⟩ := dl.get _ (hx ys s)
  have kn : Keep g' H' Ω' (upd H' T (.tup [.int (i : Nat), x])) Ω' := .new n
  have hk : Keep g H' Ω' (upd H' T (.tup [.int (i : Nat), x])) Ω' := .new n
  exact ⟨hk, o'.new n, _, enumT_get et, T, _, rfl, .inl ⟨NM.new o' n (not_pr o' n), upd_same⟩, .cons rfl (.one (dt.keep kn)), by simp⟩
def diE (da : DA) : DI := fun ρ Ω P PX => da ρ Ω (fun us Ω1 => ∃ t ts, us = [t] ∧ asL t Ω1 = some ts ∧ (ts.length ≤ 1000000 → P (enumT ts) (stay t ts) Ω1)) PX
theorem sim_iE {ta : TA} {da : DA} (h : SimA K G E ta da) : SimI K G E (iEnum K ta) (diE da) := fun g σ H ρ Ω P PX R hG r p q qx =>
  h g σ H ρ Ω _ PX _ hG r p (fun us Ω1 vs H1 ⟨t, ts, e0, e, p1⟩ k1 o1 d1 => by
    subst e0
    obtain ⟨v, _, rfl, d, rfl⟩ := d1
    obtain ⟨a, xs, rfl, s, _, dl, z⟩ := at_L o1 d e
    exact ⟨a, xs, rfl, s, q _ _ Ω1 _ H1 (p1 z) k1 o1 (ite_ok e d)⟩) qx
/-! ### comprehensions -/
def wipeT (ρ : En) : List Nat → En
  | [] => ρ
  | v :: vs => (wipeT ρ vs).set v none
theorem Rel.wipe {g : Gh} {σ : L2.St} {H : Hp} {ρ : En} {Ω : Om} (R : Rel K g σ H ρ Ω) : ∀ vs : List Nat, Rel K g (L2.wipe σ vs) H (wipeT ρ vs) Ω
  | [] => R
  | v :: vs => (Rel.wipe R vs).none
theorem wipe_set {σ : L2.St} {x : Option V} : ∀ {vs : List Nat} {i : Nat}, i ∈ vs → L2.wipe (σ.set i x) vs = L2.wipe σ vs
  | v :: vs, i, h => by
    show (L2.wipe (σ.set i x) vs).set v none = (L2.wipe σ vs).set v none
    by_cases hv : i ∈ vs
    · rw [wipe_set hv]
    · have e : i = v := (List.mem_cons.mp h).resolve_right hv
      subst e
      have : ∀ (ws : List Nat), i ∉ ws → (L2.wipe (σ.set i x) ws).set i none = (L2.wipe σ ws).set i none := by
        intro ws
        induction ws with
        | nil => intro _; show (σ.set i x).set i none = σ.set i none; rw [List.set_set]
        | cons w ws ih =>
          intro hw
          have hne : w ≠ i := fun z => hw (z ▸ List.mem_cons_self)
          show ((L2.wipe (σ.set i x) ws).set w none).set i none = ((L2.wipe σ ws).set w none).set i none
          rw [List.set_comm _ _ hne, ih (fun z => hw (List.mem_cons_of_mem _ z)), List.set_comm _ _ hne]
      exact this vs hv
theorem wipe_idem {σ : L2.St} : ∀ {vs : List Nat}, L2.wipe (L2.wipe σ vs) vs = L2.wipe σ vs := by
  have h : ∀ (us vs : List Nat), (∀ u ∈ us, u ∈ vs) → L2.wipe (L2.wipe σ us) vs = L2.wipe σ vs := by
    intro us
    induction us with
    | nil => intro vs _; rfl
    | cons u us ih =>
      intro vs hs
      show L2.wipe ((L2.wipe σ us).set u none) vs = _
      rw [wipe_set (hs u List.mem_cons_self), ih vs fun z hz => hs z (List.mem_cons_of_mem _ hz)]
  intro vs
  exact h vs vs fun _ z => z
/-- a target that stores into slots of vs alone -/
def GIn (vs : List Nat) (tg : TG) : Prop := ∀ v σ H Q, tg v σ H Q → tg v σ H fun σ2 H2 => Q σ2 H2 ∧ L2.wipe σ2 vs = L2.wipe σ vs
def GsIn (vs : List Nat) (tg : TGs) : Prop := ∀ v σ H Q, tg v σ H Q → tg v σ H fun σ2 H2 => Q σ2 H2 ∧ L2.wipe σ2 vs = L2.wipe σ vs
theorem gin_name {vs : List Nat} {i : Nat} (h : i ∈ vs) : GIn vs (gName i) := fun v σ H Q q => ⟨q, wipe_set h⟩
theorem gin_nil {vs : List Nat} : GsIn vs gNil := fun v σ H Q ⟨e, q⟩ => ⟨e, q, rfl⟩
theorem gin_cons {vs : List Nat} {t : TG} {u : TGs} (ht : GIn vs t) (mt : ∀ v σ H (Q Q' : L2.St → Hp → Prop), (∀ a b, Q a b → Q' a b) → t v σ H Q → t v σ H Q') (hu : GsIn vs u) (mu : ∀ v σ H (Q Q' : L2.St → Hp → Prop), (∀ a b, Q a b → Q' a b) → u v σ H Q → u v σ H Q') : GsIn vs (gCons t u) := fun v σ H Q ⟨x, r, e, q⟩ =>
  ⟨x, r, e, mt _ _ _ _ _ (fun σ2 H2 ⟨q2, w2⟩ => mu _ _ _ _ _ (fun σ3 H3 ⟨q3, w3⟩ => ⟨q3, w3.trans w2⟩) (hu _ _ _ _ q2)) (ht _ _ _ _ q)⟩
theorem mono_name {i : Nat} : ∀ v σ H (Q Q' : L2.St → Hp → Prop), (∀ a b, Q a b → Q' a b) → gName i v σ H Q → gName i v σ H Q' := fun _ _ _ _ _ h q => h _ _ q
theorem mono_nil : ∀ v σ H (Q Q' : L2.St → Hp → Prop), (∀ a b, Q a b → Q' a b) → gNil v σ H Q → gNil v σ H Q' := fun _ _ _ _ _ h q => ⟨q.1, h _ _ q.2⟩
theorem mono_cons {t : TG} {u : TGs} (mt : ∀ v σ H (Q Q' : L2.St → Hp → Prop), (∀ a b, Q a b → Q' a b) → t v σ H Q → t v σ H Q') (mu : ∀ v σ H (Q Q' : L2.St → Hp → Prop), (∀ a b, Q a b → Q' a b) → u v σ H Q → u v σ H Q') :
    ∀ v σ H (Q Q' : L2.St → Hp → Prop), (∀ a b, Q a b → Q' a b) → gCons t u v σ H Q → gCons t u v σ H Q' := fun _ _ _ _ _ h ⟨x, r, e, q⟩ => ⟨x, r, e, mt _ _ _ _ _ (fun _ _ z => mu _ _ _ _ _ h z) q⟩
theorem gin_tup {vs : List Nat} {n : Nat} {t : TGs} (h : GsIn vs t) : GIn vs (gTup K n t) := fun v σ H Q ⟨a, xs, e, s, l, q⟩ => ⟨a, xs, e, s, l, h _ _ _ _ q⟩
theorem mono_tup {n : Nat} {t : TGs} (mt : ∀ v σ H (Q Q' : L2.St → Hp → Prop), (∀ a b, Q a b → Q' a b) → t v σ H Q → t v σ H Q') : ∀ v σ H (Q Q' : L2.St → Hp → Prop), (∀ a b, Q a b → Q' a b) → gTup K n t v σ H Q → gTup K n t v σ H Q' := fun _ _ _ _ _ h ⟨a, xs, e, s, l, q⟩ => ⟨a, xs, e, s, l, mt _ _ _ _ _ h q⟩
def dYes : DT := fun _ Ω P _ => P true Ω
theorem sim_yes : SimT K G E tYes dYes := fun g σ H ρ Ω P PX Q _ R p q _ => q _ Ω H p .refl R.om
def dLc (di : DI) (dg : DG) (dt : DT) (de : DE) (vs : List Nat) : DE := fun ρ Ω P PX => di ρ Ω (fun items st Ω1 => items.length ≤ 1000000 ∧ ∃ W : Nat → List Tr → Om → Prop, W 0 [] Ω1 ∧ (∀ i acc Ω', W i acc Ω' → st Ω') ∧
  (∀ i t acc Ω', items[i]? = some t → W i acc Ω' → dg t (wipeT ρ vs) Ω' (fun ρ2 Ω2 => dt ρ2 Ω2 (fun b Ω3 => if b = true then de ρ2 Ω3 (fun y Ω4 => W (i + 1) (acc ++ [y]) Ω4) nox else W (i + 1) acc Ω3) nox) nox) ∧
  ∀ acc Ω', W items.length acc Ω' → lstNew acc Ω' P) PX
theorem Keep.with {g : Gh} {D : Addr} {H H' : Hp} {Ω Ω' : Om} (k : Keep (g.with D) H Ω H' Ω') : Keep g H Ω H' Ω' := k
theorem Keep.prot {g : Gh} {D : Addr} {H H' : Hp} {Ω Ω' : Om} {o : HO} (k : Keep g H Ω H' Ω') (n : H D = none) : Keep g H Ω (upd H' D o) Ω' := fun b u h d e => ⟨by rw [upd_ne (ne_of_none e n)]; exact (k b u h d e).1, (k b u h d e).2⟩
theorem sim_lc {wi : TI} {tg : TG} {tt : TT} {te : TE} {vs : List Nat} {di : DI} {dg : DG} {dt : DT} {de : DE} (hi : SimI K G E wi di) (hg : SimG K G E tg dg) (gi : GIn vs tg) (ht : SimT K G E tt dt) (he : SimE K G E te de) : SimE K G E (tLc wi tg tt te vs) (dLc di dg dt de vs) := fun g σ H ρ Ω P PX Q hG R h q qx => by
  refine hi g σ H ρ Ω _ _ _ hG R h (fun items st Ω1 J H1 h1 k1 o1 it => ?_) qx
  obtain ⟨hz, W, w0, wst, step, fin⟩ := h1
  intro D nD
  have npr : ¬ g.pr D := not_pr o1 nD
  refine ⟨fun i m H' => m + i = items.length ∧ ∃ xs acc Ω', H' D = some (.lst xs) ∧ VDL K g.dr (NM (g.with D) Ω') H' xs acc ∧ acc.length ≤ i ∧ Keep g H1 Ω1 H' Ω' ∧ OmOk K (g.with D) H' Ω' ∧ W i acc Ω', ⟨items.length, by omega, [], [], Ω1, upd_same, rfl, Nat.le_refl _, .new nD, o1.more nD, w0⟩, ?_⟩
  rintro i m H' ⟨hm, xs, acc, Ω', eD, da, hl, k2, o2, w⟩
  obtain ⟨s1, s2⟩ := it (g.with D) (.inr ⟨D, nD, rfl⟩) i H' Ω' k2 o2 (wst _ _ _ w)
  have nΩ : ∀ {H2 : Hp} {Ω2 : Om}, OmOk K (g.with D) H2 Ω2 → Ω2 D = none := fun {H2 Ω2} o => by
    cases e : Ω2 D with
    | none => rfl
    | some c => exact absurd (.inr rfl) (o.ce D c e).1
  have nd : ∀ d, g.dr ≠ some (d, D) := o1.nodr nD
  rcases Nat.lt_or_ge i items.length with hlt | hge
  · obtain ⟨go, yl⟩ := s2 hlt
    refine .inr ⟨go, fun H2 => m - 1 + (i + 1) = items.length ∧ ∃ xs acc Ω', H2 D = some (.lst xs) ∧ VDL K g.dr (NM (g.with D) Ω') H2 xs acc ∧ acc.length ≤ i + 1 ∧ Keep g H1 Ω1 H2 Ω' ∧ OmOk K (g.with D) H2 Ω' ∧ W (i + 1) acc Ω', fun H2 z => ⟨m - 1, by omega, z⟩, fun x H'' y => ?_⟩
    obtain ⟨k3, o3, t, et, dd⟩ := yl x H'' y
    have Rw : Rel K (g.with D) (L2.wipe σ vs) H'' (wipeT ρ vs) Ω' := by
      have k13 := k2.trans k3
      refine ⟨o3, (Rel.wipe R vs).len, fun j u e => ?_⟩
      obtain ⟨v, h1, h2⟩ := ((Rel.wipe R vs).keep k1 o1).env j u e
      exact ⟨v, h1, (h2.more nD).keep (g := g.with D) k13⟩
    have h0 := hg (g.with D) (L2.wipe σ vs) H'' (wipeT ρ vs) Ω' x t _ _ (fun σ2 H2 => tt σ2 H2 fun b H3 => if b = true then te σ2 H3 fun y H4 => ∃ acc, H4 D = some (.lst acc) ∧ acc.length < sizeLine ∧ (m - 1 + (i + 1) = items.length ∧ ∃ xs acc_1 Ω', upd H4 D (.lst (acc ++ [y])) D = some (.lst xs) ∧ VDL K g.dr (NM (g.with D) Ω') (upd H4 D (.lst (acc ++ [y]))) xs acc_1 ∧ acc_1.length ≤ i + 1 ∧ Keep g H1 Ω1 (upd H4 D (.lst (acc ++ [y]))) Ω' ∧ OmOk K (g.with D) (upd H4 D (.lst (acc ++ [y]))) Ω' ∧ W (i + 1) acc_1 Ω') else (m - 1 + (i + 1) = items.length ∧ ∃ xs acc Ω', H3 D = some (.lst xs) ∧ VDL K g.dr (NM (g.with D) Ω') H3 xs acc ∧ acc.length ≤ i + 1 ∧ Keep g H1 Ω1 H3 Ω' ∧ OmOk K (g.with D) H3 Ω' ∧ W (i + 1) acc Ω')) hG Rw dd (step i t acc Ω' et w) (fun ρ2 Ω2 σ2 H2 p k4 R4 => ?_) fun _ _ _ ⟨_, _, z, _⟩ => z.elim
    · have h1 := gi _ _ _ _ h0
      refine Eq.mpr (congrArg (tg x (L2.wipe σ vs) H'') ?_) h1
      funext σ2 H2
      rw [wipe_idem]
      exact propext And.comm
    · have k5 := (k2.trans k3).trans k4
      refine ht (g.with D) σ2 H2 ρ2 Ω2 _ _ _ hG R4 p (fun b Ω3 H3 p3 k6 o6 => ?_) AfterX.nox
      have eD2 : H2 D = some (.lst xs) := (k4 D _ (nΩ o3) nd (k3 D _ (nΩ o2) nd eD).1).1
      have eD3 : H3 D = some (.lst xs) := (k6 D _ (nΩ R4.om) nd eD2).1
      have k7 := k5.trans k6
      have ka : Keep (g.with D) H' Ω' H3 Ω3 := (k3.trans k4).trans k6
      by_cases hb : b = true
      · rw [if_pos hb] at p3 ⊢
        refine he (g.with D) σ2 H3 ρ2 Ω3 _ _ _ hG (R4.keep k6 o6) p3 (fun y Ω4 v H4 p4 k8 o8 d8 => ?_) AfterX.nox
        have eD4 : H4 D = some (.lst xs) := (k8 D _ (nΩ o6) nd eD3).1
        have dac : VDL K g.dr (NM (g.with D) Ω4) H4 xs acc := (da.keep ka).keep (g := g.with D) k8
        refine ⟨xs, eD4, size_lt (by rw [da.len]; omega), by omega, xs ++ [v], acc ++ [y], Ω4, upd_same, (dac.app _ (.one d8)).prot, by rw [List.length_append]; simp; omega, (k7.trans k8).prot nD, o8.prot, p4⟩
      · rw [if_neg hb] at p3 ⊢
        exact ⟨by omega, xs, acc, Ω3, eD3, da.keep ka, by omega, k7, o6, p3⟩
  · have hi : i = items.length := by omega
    refine .inl ⟨s1 hi, ?_⟩
    have f := fin acc Ω' (hi ▸ w)
    rcases f with f | f
    · exact q _ Ω' _ H' f (k1.trans k2) o2.less ⟨D, xs, rfl, ⟨nΩ o2, nd, npr⟩, eD, da.less, by omega⟩
    · have kc : Keep g H1 Ω1 H' (put Ω' D (.lst acc)) := fun b u hb hd e => ⟨(k2 b u hb hd e).1, by rw [put_ne (ne_of_none e nD)]; exact (k2 b u hb hd e).2⟩
      exact q _ _ _ H' (f D (nΩ o2)) (k1.trans kc) (o2.toCell npr ⟨xs, eD, da, by omega⟩) rfl
/-- where each item has its value, whatever went before -/
theorem lc_map {items : List Tr} {st : Om → Prop} {Ω : Om} {ρ : En} {dg : DG} {de : DE} {vs : List Nat} {P : PT'} (f : Nat → Tr → Tr) (hz : items.length ≤ 1000000) (hst : st Ω) (hs : ∀ i t Q, items[i]? = some t → Q (f i t) Ω → dg t (wipeT ρ vs) Ω (fun ρ2 Ω2 => dYes ρ2 Ω2 (fun b Ω3 => if b = true then de ρ2 Ω3 Q nox else True) nox) nox)
    (hm : ∀ t ρ (P P' : En → Om → Prop), (∀ a b, P a b → P' a b) → dg t ρ Ω P nox → dg t ρ Ω P' nox) (h : lstNew (items.mapIdx f) Ω P) : items.length ≤ 1000000 ∧ ∃ W : Nat → List Tr → Om → Prop, W 0 [] Ω ∧ (∀ i acc Ω', W i acc Ω' → st Ω') ∧
  (∀ i t acc Ω', items[i]? = some t → W i acc Ω' → dg t (wipeT ρ vs) Ω' (fun ρ2 Ω2 => dYes ρ2 Ω2 (fun b Ω3 => if b = true then de ρ2 Ω3 (fun y Ω4 => W (i + 1) (acc ++ [y]) Ω4) nox else W (i + 1) acc Ω3) nox) nox) ∧
  ∀ acc Ω', W items.length acc Ω' → lstNew acc Ω' P := by
  refine ⟨hz, fun i acc Ω' => Ω' = Ω ∧ acc = (items.mapIdx f).take i, ⟨rfl, rfl⟩, fun i acc Ω' e => e.1 ▸ hst, ?_, ?_⟩
  · rintro i t acc Ω' ht ⟨rfl, rfl⟩
    refine hm _ _ _ _ (fun a b z => ?_) (hs i t (fun y Ω4 => Ω4 = Ω' ∧ (items.mapIdx f).take i ++ [y] = (items.mapIdx f).take (i + 1)) ht ⟨rfl, ?_⟩)
    · simpa [dYes] using z
    · rw [take_one (x := f i t) (by rw [List.getElem?_mapIdx, ht]; rfl)]
  · rintro acc Ω' ⟨rfl, rfl⟩
    rw [show items.length = (items.mapIdx f).length by rw [List.length_mapIdx], List.take_length]
    exact h
end
end LT

namespace LT
open PySem PySem.Spec PyProof.Rows L2 L2H LL
section
variable {K : PySem.W.Frag} {G : List (Value × Option Addr × XV) → Prop} {E : EK}
/-! ### a def -/
theorem dok {P : Program} {w : World} {mg : Str → Option Value} {base : Heap} {x qual : Str} {params : Arguments} {body : List Stmt} {sc : Scope} {kws : List (Str × V)} {f : Addr} {fd : FuncData} {CX : CXT} {N ps : List Str} {k : Nat} {Pd : Pw} (F : FunD K x qual params body sc [] kws f fd) (S : FnScope N ps sc)
    (h : ∀ (cdv : Value) (A : Around) (outer : List Env) (s : Shared) (H : Hp) (E : XK), Room k (A.deeper (envOfC qual sc s.heap.objs.size f cdv)) → ∃ t ds, PSs (cxOf CX P w K mg base N qual sc f cdv A outer s H E) body t ∧ SimS K (fun _ => True) (fun _ => E) t ds ∧
      ∀ ts Ω PQ PX, ts.length = ps.length → Pd ts Ω PQ PX → ds { nx := fun _ Ω' => PQ .non Ω', rt := PQ, ex := fun _ => PX } (ts.map some ++ List.replicate (N.length - ps.length) none) Ω) :
    FnOk P w K mg base CX (k + 1) f fd ps (spD K Pd ps.length) := by
  refine F.ok S (fun vs H Q E ⟨g, Ω, ts, PQ, PX, hl, d, _⟩ => by rw [d.len]; exact hl) (fun cdv A outer s H vs Q E hr hsp => ?_)
  obtain ⟨g, Ω, ts, PQ, PX, hl, d, o, p, q, qx⟩ := hsp
  obtain ⟨t, ds, h1, h2, h3⟩ := h cdv A outer s H E hr
  refine ⟨t, h1, h2 g _ H _ Ω _ _ trivial ⟨o, ?_, fun i u e => ?_⟩ (h3 ts Ω PQ PX hl p) ⟨fun ρ' Ω' σ' H' p k r => q _ Ω' _ H' p k r.om rfl, q, fun _ _ _ _ z => z.elim, fun _ _ _ _ z => z.elim, fun x ρ' Ω' σ' c dd H' p k r z => qx x Ω' c dd H' p k r.om z⟩⟩
  · show (vs.map some ++ List.replicate (N.length - vs.length) none).length = _
    rw [List.length_append, List.length_append, List.length_map, List.length_map, List.length_replicate, List.length_replicate, d.len, hl]
  · show ∃ v, (vs.map some ++ List.replicate (N.length - vs.length) none)[i]? = some (some v) ∧ _
    rw [List.getElem?_append] at e ⊢
    rw [List.length_map] at e ⊢
    rw [d.len]
    split at e
    · rename_i hlt
      rw [if_pos hlt]
      rw [List.getElem?_map] at e ⊢
      cases et : ts[i]? with
      | none => rw [et] at e; cases e
      | some t' =>
        rw [et] at e
        cases e
        obtain ⟨v, ev, dv⟩ := d.get' et
        exact ⟨v, by rw [ev]; rfl, dv⟩
    · have := List.mem_of_getElem? e
      rw [List.mem_replicate] at this
      exact absurd this.2 (by simp)
theorem dokMk {X : Cx} {body : List Stmt} {E : XK} {Q : DS → Prop} {t : TS} {ds : DS} (term : PSs X body t) (sim : SimS K (fun _ => True) (fun _ => E) t ds) (go : Q ds) : ∃ t ds, PSs X body t ∧ SimS K (fun _ => True) (fun _ => E) t ds ∧ Q ds := ⟨t, ds, term, sim, go⟩
/-! ### index, length, slices -/
theorem VDL.atI {dr : Option (Addr × Addr)} {F : Addr → Prop} {H : Hp} {xs : List V} {ts : List Tr} {i : Int} {t : Tr} (d : VDL K dr F H xs ts) (h : L2.atI ts i = some t) : ∃ v, L2.atI xs i = some v ∧ VD K dr F H v t := by
  unfold L2.atI at h ⊢
  rw [d.len]
  cases e : ixN ts.length i with
  | none => rw [e] at h; cases h
  | some j =>
    rw [e] at h
    obtain ⟨v, ev, dv⟩ := d.get' (i := j) h
    exact ⟨v, ev, dv⟩
def dIx (as : Tr → Om → Option (List Tr)) : Tr → Tr → Om → PT' → Prop := fun x y Ω P => ∃ ts i t, as x Ω = some ts ∧ y = .int i ∧ atI ts i = some t ∧ P t Ω
theorem simr_IxL : SimR K (rIxL K) (dIx asL) := fun g H Ω x y tx ty P Q o d1 d2 ⟨ts, i, t, e1, e2, e3, p⟩ q => by
  subst e2
  obtain ⟨a, xs, rfl, s, _, dl, _⟩ := at_L o d1 e1
  obtain ⟨v, ev, dv⟩ := dl.atI e3
  exact ⟨a, xs, i, v, rfl, d2, s, ev, q t Ω v H p .refl o dv⟩
theorem simr_IxT : SimR K (rIxT K) (dIx fun x _ => asT x) := fun g H Ω x y tx ty P Q o d1 d2 ⟨ts, i, t, e1, e2, e3, p⟩ q => by
  subst e2
  obtain ⟨a, xs, rfl, s, dl, _⟩ := at_T d1 e1
  obtain ⟨v, ev, dv⟩ := dl.atI e3
  exact ⟨a, xs, i, v, rfl, d2, s, ev, q t Ω v H p .refl o dv⟩
theorem simr_IxA : SimR K (rIxA K) (dIx asS) := fun g H Ω x y tx ty P Q o d1 d2 ⟨ts, i, t, e1, e2, e3, p⟩ q => by
  subst e2
  obtain ⟨a, xs, rfl, s, dl, _⟩ := at_S o d1 e1
  obtain ⟨v, ev, dv⟩ := dl.atI e3
  exact s.elim (fun s => .inl ⟨a, xs, i, v, rfl, d2, s, ev, q t Ω v H p .refl o dv⟩) fun s => .inr ⟨a, xs, i, v, rfl, d2, s, ev, q t Ω v H p .refl o dv⟩
def dIxS : Tr → Tr → Om → PT' → Prop := fun x y Ω P => ∃ z i c, x = .str z ∧ y = .int i ∧ z.length ≤ sizeLine ∧ atI z.cps.toList i = some c ∧ P (.str ⟨#[c]⟩) Ω
theorem simr_IxS : SimR K rIxS dIxS := fun g H Ω x y tx ty P Q o d1 d2 ⟨z, i, c, e1, e2, h1, h2, p⟩ q => by
  subst e1 e2
  exact ⟨z, i, c, d1, d2, h1, h2, q _ Ω _ H p .refl o rfl⟩
/-- the dict's keys and values -/
def cellD : Option Cell → Option (List Key × List Tr)
  | some (.dic ks ts) => some (ks, ts)
  | _ => none
def asD : Tr → Om → Option (List Key × List Tr)
  | .dic ks ts, _ => some (ks, ts)
  | .obj a, Ω => cellD (Ω a)
  | _, _ => none
theorem asD_obj {a : Addr} {ks : List Key} {ts : List Tr} {Ω : Om} (h : Ω a = some (.dic ks ts)) : asD (.obj a) Ω = some (ks, ts) := by show cellD (Ω a) = _; rw [h]; rfl
theorem at_D {g : Gh} {H : Hp} {Ω : Om} {v : V} {t : Tr} {ks : List Key} {ts : List Tr} (o : OmOk K g H Ω) (d : VD K g.dr (NM g Ω) H v t) (h : asD t Ω = some (ks, ts)) : ∃ a xs, v = .ref a ∧ H a = some (.dK (ks.zip xs)) ∧ VDL K g.dr (NM g Ω) H xs ts ∧ ts.length = ks.length ∧ ts.length ≤ 1000000 := by
  cases t with
  | dic ks' us =>
    cases h
    obtain ⟨a, xs, e, f, h, d, z⟩ := d
    exact ⟨a, xs, e, h, d, z⟩
  | obj a =>
    cases e : Ω a with
    | none =>
      replace h : cellD (Ω a) = some (ks, ts) := h
      rw [e] at h
      cases h
    | some c =>
      cases c with
      | dic ks' us =>
        rw [asD_obj e] at h
        cases h
        obtain ⟨xs, h1, h2, h3⟩ := (o.ce a _ e).2
        exact ⟨a, xs, d, h1, h2, h3⟩
      | _ =>
        replace h : cellD (Ω a) = some (ks, ts) := h
        rw [e] at h
        cases h
  | _ => cases h
def lenT : Tr → Om → Option Nat
  | .lst ts, _ => some ts.length
  | .tup ts, _ => some ts.length
  | .dic ks ts, _ => some ts.length
  | .obj a, Ω => match cellL (Ω a) with
    | some ts => some ts.length
    | none => (cellD (Ω a)).map fun (z : List Key × List Tr) => z.2.length
  | _, _ => none
theorem lenT_obj {a : Addr} {ts : List Tr} {Ω : Om} (h : Ω a = some (.lst ts)) : lenT (.obj a) Ω = some ts.length := by
  show (match cellL (Ω a) with | some ts => some ts.length | none => (cellD (Ω a)).map fun (z : List Key × List Tr) => z.2.length) = _
  rw [h]; rfl
theorem lenT_objD {a : Addr} {ks : List Key} {ts : List Tr} {Ω : Om} (h : Ω a = some (.dic ks ts)) : lenT (.obj a) Ω = some ts.length := by
  show (match cellL (Ω a) with | some ts => some ts.length | none => (cellD (Ω a)).map fun (z : List Key × List Tr) => z.2.length) = _
  rw [h]; rfl
/-- len of a list, a tuple, a dict -/
def rLenS (K : PySem.W.Frag) : List V → Hp → VK → Prop := fun vs H Q => (∃ p xs, vs = [.ref p] ∧ (SqL K H p xs ∨ SqT K H p xs) ∧ Q (.int xs.length) H) ∨ rLenD vs H Q
theorem call_lenS {X : Cx} : CallR X (.builtin "len") (rLenS X.K) := fun pins s σ H vs us Q I r h => by
  rcases h with ⟨p, xs, rfl, e, q⟩ | ⟨p, kvs, rfl, e, q⟩
  · exact call_len_seq pins s σ H _ us Q I r ⟨p, xs, rfl, e, q⟩
  · exact call_lenD pins s σ H _ us Q I r ⟨p, kvs, rfl, e, q⟩
def dLen : List Tr → Om → PT' → Prop := fun us Ω P => ∃ t n, us = [t] ∧ lenT t Ω = some n ∧ (n ≤ 1000000 → P (.int n) Ω)
theorem simc_len : SimC K (rLenS K) dLen := fun g H Ω vs us P Q o d ⟨t, n, e, hn, p⟩ q => by
  subst e
  obtain ⟨v, _, rfl, d, rfl⟩ := d
  have dic : ∀ (ks : List Key) (ts : List Tr), asD t Ω = some (ks, ts) → ts.length = n → rLenS K [v] H Q := fun ks ts h hn => by
    obtain ⟨a, xs, rfl, h1, h2, h3, z⟩ := at_D o d h
    refine .inr ⟨a, _, rfl, h1, ?_⟩
    rw [List.length_zip, h2.len, ← h3, Nat.min_self, hn]
    exact q _ Ω _ H (p (hn ▸ z)) .refl o rfl
  have lst : ∀ (ts : List Tr), asS t Ω = some ts → ts.length = n → rLenS K [v] H Q := fun ts h hn => by
    obtain ⟨a, xs, rfl, s, dl, z⟩ := at_S o d h
    exact .inl ⟨a, xs, rfl, s, by rw [dl.len, hn]; exact q _ Ω _ H (p (hn ▸ z)) .refl o rfl⟩
  cases t with
  | lst ts => exact lst ts rfl (by cases hn; rfl)
  | tup ts => exact lst ts rfl (by cases hn; rfl)
  | dic ks ts => exact dic ks ts rfl (by cases hn; rfl)
  | obj a =>
    cases e : Ω a with
    | none => simp only [lenT, e, cellL, cellD] at hn; cases hn
    | some c =>
      cases c with
      | lst ts =>
        rw [lenT_obj e] at hn
        exact lst ts (asS_obj e) (by cases hn; rfl)
      | dic ks ts =>
        rw [lenT_objD e] at hn
        exact dic ks ts (asD_obj e) (by cases hn; rfl)
      | ins _ _ _ _ => simp only [lenT, e, cellL, cellD] at hn; cases hn
  | _ => cases hn
/-! ### int, bool, max, min, sum, all, any -/
def rInt (xs : List V) (H : Hp) (Q : VK) : Prop := (∃ i, xs = [.int i] ∧ Q (.int i) H) ∨ ∃ k : Bool, xs = [.bl k] ∧ Q (.int (if k then 1 else 0)) H
theorem call_int {X : Cx} : CallR X (.type "int") rInt := call_int1
def dInt : List Tr → Om → PT' → Prop := fun us Ω P => ∃ t, us = [t] ∧ ((∃ i, t = .int i ∧ P (.int i) Ω) ∨ ∃ k : Bool, t = .bl k ∧ P (.int (if k then 1 else 0)) Ω)
theorem simc_int : SimC K rInt dInt := fun g H Ω vs us P Q o d ⟨t, e, h⟩ q => by
  subst e
  obtain ⟨v, _, rfl, d, rfl⟩ := d
  rcases h with ⟨i, e, p⟩ | ⟨k, e, p⟩
  · subst e
    exact .inl ⟨i, by rw [show v = _ from d], q _ Ω _ H p .refl o rfl⟩
  · subst e
    exact .inr ⟨k, by rw [show v = _ from d], q _ Ω _ H p .refl o rfl⟩
def dMx (f : Int → Int → Int) : List Tr → Om → PT' → Prop := fun us Ω P => ∃ i j, us = [.int i, .int j] ∧ P (.int (f i j)) Ω
theorem simc_mx : SimC K rMx (dMx max) := fun g H Ω vs us P Q o d ⟨i, j, e, p⟩ q => by
  subst e
  obtain ⟨v, _, rfl, d1, u, _, rfl, d2, rfl⟩ := d
  exact ⟨i, j, by rw [show v = _ from d1, show u = _ from d2], q _ Ω _ H p .refl o rfl⟩
theorem simc_mn : SimC K rMn (dMx min) := fun g H Ω vs us P Q o d ⟨i, j, e, p⟩ q => by
  subst e
  obtain ⟨v, _, rfl, d1, u, _, rfl, d2, rfl⟩ := d
  exact ⟨i, j, by rw [show v = _ from d1, show u = _ from d2], q _ Ω _ H p .refl o rfl⟩
theorem vdl_ints {dr : Option (Addr × Addr)} {F : Addr → Prop} {H : Hp} : ∀ {ns : List Int} {xs : List V}, VDL K dr F H xs (ns.map Tr.int) → xs = ns.map V.int
  | [], xs, h => h
  | n :: ns, xs, h => by
    obtain ⟨v, vs, rfl, h1, h2⟩ := h
    rw [show v = _ from h1, vdl_ints h2]
    rfl
theorem vdl_of_ints {dr : Option (Addr × Addr)} {F : Addr → Prop} {H : Hp} : ∀ {ns : List Int}, VDL K dr F H (ns.map V.int) (ns.map Tr.int)
  | [] => rfl
  | n :: ns => ⟨_, _, rfl, rfl, vdl_of_ints⟩
theorem vdl_bools {dr : Option (Addr × Addr)} {F : Addr → Prop} {H : Hp} : ∀ {ns : List Bool} {xs : List V}, VDL K dr F H xs (ns.map Tr.bl) → xs = ns.map V.bl
  | [], xs, h => h
  | n :: ns, xs, h => by
    obtain ⟨v, vs, rfl, h1, h2⟩ := h
    rw [show v = _ from h1, vdl_bools h2]
    rfl
def dSum : List Tr → Om → PT' → Prop := fun us Ω P => ∃ (t : Tr) (ns : List Int), us = [t] ∧ asL t Ω = some (ns.map Tr.int) ∧ P (.int ns.sum) Ω
theorem simc_sum : SimC K (rSum K) dSum := fun g H Ω vs us P Q o d ⟨t, ns, e, h, p⟩ q => by
  subst e
  obtain ⟨v, _, rfl, d, rfl⟩ := d
  obtain ⟨a, xs, rfl, s, _, dl, _⟩ := at_L o d h
  rw [vdl_ints dl] at s
  exact ⟨a, ns, rfl, s, q _ Ω _ H p .refl o rfl⟩
def dMaxL : List Tr → Om → PT' → Prop := fun us Ω P => ∃ (t : Tr) (ns : List Int), us = [t] ∧ asL t Ω = some (ns.map Tr.int) ∧ 0 < ns.length ∧ ∀ m, m ∈ ns → (∀ y, y ∈ ns → y ≤ m) → P (.int m) Ω
theorem simc_maxL : SimC K (rMax K) dMaxL := fun g H Ω vs us P Q o d ⟨t, ns, e, h, h0, p⟩ q => by
  subst e
  obtain ⟨v, _, rfl, d, rfl⟩ := d
  obtain ⟨a, xs, rfl, s, _, dl, _⟩ := at_L o d h
  rw [vdl_ints dl] at s
  exact ⟨a, ns, rfl, s, h0, fun m h1 h2 => q _ Ω _ H (p m h1 h2) .refl o rfl⟩
def dMinL : List Tr → Om → PT' → Prop := fun us Ω P => ∃ (t : Tr) (ns : List Int), us = [t] ∧ asL t Ω = some (ns.map Tr.int) ∧ 0 < ns.length ∧ ∀ m, m ∈ ns → (∀ y, y ∈ ns → m ≤ y) → P (.int m) Ω
theorem simc_minL : SimC K (rMin K) dMinL := fun g H Ω vs us P Q o d ⟨t, ns, e, h, h0, p⟩ q => by
  subst e
  obtain ⟨v, _, rfl, d, rfl⟩ := d
  obtain ⟨a, xs, rfl, s, _, dl, _⟩ := at_L o d h
  rw [vdl_ints dl] at s
  exact ⟨a, ns, rfl, s, h0, fun m h1 h2 => q _ Ω _ H (p m h1 h2) .refl o rfl⟩
def dAll (f : List Bool → Bool) : List Tr → Om → PT' → Prop := fun us Ω P => ∃ (t : Tr) (bs : List Bool), us = [t] ∧ asL t Ω = some (bs.map Tr.bl) ∧ P (.bl (f bs)) Ω
theorem simc_all : SimC K (rAll K) (dAll fun bs => bs.all id) := fun g H Ω vs us P Q o d ⟨t, ns, e, h, p⟩ q => by
  subst e
  obtain ⟨v, _, rfl, d, rfl⟩ := d
  obtain ⟨a, xs, rfl, s, _, dl, _⟩ := at_L o d h
  rw [vdl_bools dl] at s
  exact ⟨a, ns, rfl, s, q _ Ω _ H p .refl o rfl⟩
theorem simc_any : SimC K (rAny K) (dAll fun bs => bs.any id) := fun g H Ω vs us P Q o d ⟨t, ns, e, h, p⟩ q => by
  subst e
  obtain ⟨v, _, rfl, d, rfl⟩ := d
  obtain ⟨a, xs, rfl, s, _, dl, _⟩ := at_L o d h
  rw [vdl_bools dl] at s
  exact ⟨a, ns, rfl, s, q _ Ω _ H p .refl o rfl⟩
/-! ### list(x), tuple(x) -/
def rList (K : PySem.W.Frag) (xs : List V) (H : Hp) (Q : VK) : Prop := (∃ p ys, xs = [.ref p] ∧ (SqL K H p ys ∨ SqT K H p ys) ∧ ∀ l, H l = none → Q (.ref l) (upd H l (.lst ys))) ∨ rLstD xs H Q
theorem call_list {X : Cx} (hc : X.calm = true) : CallR X (.type "list") (rList X.K) := fun pins s σ H xs us Q I r h => by
  rcases h with h | h
  · exact call_list_of pins s σ H xs us Q I r h
  · exact call_lstD hc pins s σ H xs us Q I r h
def kT : Key → Tr
  | .inl i => .int i
  | .inr x => .str x
def dList : List Tr → Om → PT' → Prop := fun us Ω P => ∃ t, us = [t] ∧ ((∃ ts, asS t Ω = some ts ∧ (ts.length ≤ 1000000 → lstNew ts Ω P)) ∨ ∃ ks ts, asD t Ω = some (ks, ts) ∧ (ks.length ≤ 1000000 → lstNew (ks.map kT) Ω P))
theorem vdl_keys {dr : Option (Addr × Addr)} {F : Addr → Prop} {H : Hp} : ∀ {ks : List Key}, VDL K dr F H (ks.map kV) (ks.map kT)
  | [] => rfl
  | .inl i :: ks => ⟨_, _, rfl, rfl, vdl_keys⟩
  | .inr i :: ks => ⟨_, _, rfl, rfl, vdl_keys⟩
theorem simc_list : SimC K (rList K) dList := fun g H Ω vs us P Q o d ⟨t, e, h⟩ q => by
  subst e
  obtain ⟨v, _, rfl, d, rfl⟩ := d
  rcases h with ⟨ts, h, p⟩ | ⟨ks, ts, h, p⟩
  · obtain ⟨a, xs, rfl, s, dl, hz⟩ := at_S o d h
    exact .inl ⟨a, xs, rfl, s, fun l n => new_lst o dl hz (p hz) q n⟩
  · obtain ⟨a, xs, rfl, s, dl, hl, hz⟩ := at_D o d h
    rw [hl] at hz
    refine .inr ⟨a, _, rfl, s, fun l n => ?_⟩
    have e : (ks.zip xs).map (fun kv => kV kv.1) = ks.map kV := by
      have e2 : (ks.zip xs).map (fun kv => kV kv.1) = ((ks.zip xs).map Prod.fst).map kV := by rw [List.map_map]; rfl
      rw [e2, List.map_fst_zip (by rw [dl.len, hl]; exact Nat.le_refl _)]
    rw [e]
    exact new_lst o vdl_keys (by rw [List.length_map]; exact hz) (p hz) q n
def rTuple (K : PySem.W.Frag) (xs : List V) (H : Hp) (Q : VK) : Prop := ∃ p ys, xs = [.ref p] ∧ ((SqL K H p ys ∧ ∀ l, H l = none → Q (.ref l) (upd H l (.tup ys))) ∨ (SqT K H p ys ∧ Q (.ref p) H))
theorem call_tuple {X : Cx} : CallR X (.type "tuple") (rTuple X.K) := call_tuple_of
def dTuple : List Tr → Om → PT' → Prop := fun us Ω P => ∃ t ts, us = [t] ∧ asS t Ω = some ts ∧ (ts.length ≤ 1000000 → P (.tup ts) Ω)
theorem simc_tuple : SimC K (rTuple K) dTuple := fun g H Ω vs us P Q o d ⟨t, ts, e, h, p⟩ q => by
  subst e
  obtain ⟨v, _, rfl, d, rfl⟩ := d
  have lst : ∀ (h : asL t Ω = some ts), rTuple K [v] H Q := fun h => by
    obtain ⟨a, xs, rfl, s, _, dl, hz⟩ := at_L o d h
    exact ⟨a, xs, rfl, .inl ⟨s, fun l n => new_tup o dl hz (p hz) q n⟩⟩
  cases t with
  | tup us =>
    cases h
    obtain ⟨a, xs, rfl, s, dl, hz⟩ := sqt d
    exact ⟨a, xs, rfl, .inr ⟨s, q _ Ω _ H (p hz) .refl o d⟩⟩
  | lst us => exact lst h
  | obj b => exact lst h
  | _ => cases h
/-! ### isinstance -/
def kindT : Tr → Option String
  | .non => some "NoneType"
  | .bl _ => some "bool"
  | .int _ => some "int"
  | .str _ => some "str"
  | .lst _ => some "list"
  | .tup _ => some "tuple"
  | .dic _ _ => some "dict"
  | _ => none
theorem tyx_T {H : Hp} {a : Addr} {xs : List V} (h : SqT K H a xs) : TyX K H (.ref a) (.type "tuple") := by
  rcases h with (h | ⟨o, h⟩) | ⟨o, its, n, h1, h2, _⟩
  · exact .base (.tup h)
  · exact .fTuple h
  · exact .kTuple h1 h2
theorem tyx_of {dr : Option (Addr × Addr)} {F : Addr → Prop} {H : Hp} {v : V} {t : Tr} {n : String} (d : VD K dr F H v t) (h : kindT t = some n) : TyX K H v (.type n) := by
  cases t with
  | non => cases h; rw [show v = _ from d]; exact .base .non
  | bl b => cases h; rw [show v = _ from d]; exact .base (.bl b)
  | int b => cases h; rw [show v = _ from d]; exact .base (.int b)
  | str b => cases h; rw [show v = _ from d]; exact .base (.str b)
  | lst ts =>
    cases h
    obtain ⟨a, xs, rfl, f, e, _⟩ := d
    exact .base (.lst e)
  | tup ts =>
    cases h
    obtain ⟨a, xs, rfl, e, _⟩ := d
    rcases e with e | e
    · exact .base (.tup e.2)
    · exact tyx_T (e.1 H)
  | dic ks ts =>
    cases h
    obtain ⟨a, xs, rfl, f, e, _⟩ := d
    exact .base (.dK e)
  | _ => cases h
def tyNames : List String := ["int", "bool", "str", "list", "tuple", "dict"]
def isK (k n : String) : Bool := (kitB k n).getD false
def isT (t : Tr) (n : String) : Bool := match kindT t with
  | some k => isK k n
  | none => false
theorem kit_known : ∀ k ∈ ["NoneType", "bool", "int", "str", "list", "tuple", "dict"], ∀ n ∈ tyNames, kitB k n = some (isK k n) := by decide +kernel
theorem kind_mem {t : Tr} {k : String} (h : kindT t = some k) : k ∈ ["NoneType", "bool", "int", "str", "list", "tuple", "dict"] := by
  cases t <;> cases h <;> simp
def dIsi : List Tr → Om → PT' → Prop := fun us Ω P => ∃ x n, us = [x, .ty n] ∧ (kindT x).isSome = true ∧ n ∈ tyNames ∧ P (.bl (isT x n)) Ω
theorem simc_isi : SimC K (rIsi K) dIsi := fun g H Ω vs us P Q o d ⟨x, n, e, hk, hn, p⟩ q => by
  subst e
  obtain ⟨v, _, rfl, d1, u, _, rfl, d2, rfl⟩ := d
  obtain rfl : u = .ty n := d2
  obtain ⟨k, ek⟩ := Option.isSome_iff_exists.mp hk
  refine ⟨v, .ty n, _, _, isT x n, rfl, .ty n, tyx_of d1 ek, ?_, q _ Ω _ H p .refl o rfl⟩
  have := kit_known k (kind_mem ek) n hn
  unfold isT
  rw [ek]
  exact kit_ty this
theorem isT_int {t : Tr} : isT t "int" = (match t with | .int _ => true | .bl _ => true | _ => false) := by
  cases t <;> simp only [isT, kindT] <;> decide +kernel
theorem isT_bool {t : Tr} : isT t "bool" = (match t with | .bl _ => true | _ => false) := by
  cases t <;> simp only [isT, kindT] <;> decide +kernel
theorem isT_str {t : Tr} : isT t "str" = (match t with | .str _ => true | _ => false) := by
  cases t <;> simp only [isT, kindT] <;> decide +kernel
theorem isT_list {t : Tr} : isT t "list" = (match t with | .lst _ => true | _ => false) := by
  cases t <;> simp only [isT, kindT] <;> decide +kernel
theorem isT_tuple {t : Tr} : isT t "tuple" = (match t with | .tup _ => true | _ => false) := by
  cases t <;> simp only [isT, kindT] <;> decide +kernel
theorem isT_dict {t : Tr} : isT t "dict" = (match t with | .dic _ _ => true | _ => false) := by
  cases t <;> simp only [isT, kindT] <;> decide +kernel
end
end LT

namespace LT
open PySem PySem.Spec PyProof.Rows L2 L2H LL
section
variable {K : PySem.W.Frag} {G : List (Value × Option Addr × XV) → Prop} {E : EK}
/-! ### slices -/
def doNone : DO := fun _ Ω P _ => P none Ω
def doSome (de : DE) : DO := fun ρ Ω P PX => de ρ Ω (fun x Ω1 => ∃ i, x = .int i ∧ P (some i) Ω1) PX
theorem sim_oNone : SimO K G E tNoPart doNone := fun g σ H ρ Ω P PX Q _ R p q _ => q none Ω H p .refl R.om
theorem sim_oSome {te : TE} {de : DE} (h : SimE K G E te de) : SimO K G E (tPart te) (doSome de) := fun g σ H ρ Ω P PX Q hG R p q qx =>
  h g σ H ρ Ω _ PX _ hG R p (fun x Ω1 v H1 ⟨i, e, p1⟩ k1 o1 d1 => by
    subst e
    exact ⟨i, d1, q (some i) Ω1 H1 p1 k1 o1⟩) qx
def cutT (ts : List Tr) (lo hi : Option Int) : List Tr := (ts.drop (HT.sIx ts.length 0 lo)).take (HT.sIx ts.length ts.length hi - HT.sIx ts.length 0 lo)
theorem VDL.cut {dr : Option (Addr × Addr)} {F : Addr → Prop} {H : Hp} {xs : List V} {ts : List Tr} (d : VDL K dr F H xs ts) (lo hi : Option Int) : VDL K dr F H (cutV xs lo hi) (cutT ts lo hi) := by
  unfold cutV cutT
  rw [d.len]
  exact d.sub _ _
theorem cutT_le (ts : List Tr) (lo hi : Option Int) : (cutT ts lo hi).length ≤ ts.length := by
  unfold cutT
  rw [List.length_take, List.length_drop]
  omega
def SimSl (K : PySem.W.Frag) (r : V → Option Int → Option Int → Hp → VK → Prop) (d : Tr → Option Int → Option Int → Om → PT' → Prop) : Prop := ∀ g H Ω x tx lo hi P Q, OmOk K g H Ω → VD K g.dr (NM g Ω) H x tx → d tx lo hi Ω P → After K g H Ω P Q → r x lo hi H Q
def dSl (d : Tr → Option Int → Option Int → Om → PT' → Prop) (de : DE) (dl dh : DO) : DE := fun ρ Ω P PX => de ρ Ω (fun x Ω1 => dl ρ Ω1 (fun l Ω2 => dh ρ Ω2 (fun u Ω3 => d x l u Ω3 P) PX) PX) PX
theorem sim_sl {r : V → Option Int → Option Int → Hp → VK → Prop} {d : Tr → Option Int → Option Int → Om → PT' → Prop} {te : TE} {tl th : TO} {de : DE} {dl dh : DO} (hr : SimSl K r d) (he : SimE K G E te de) (hl : SimO K G E tl dl) (hh : SimO K G E th dh) : SimE K G E (tSl r te tl th) (dSl d de dl dh) := fun g σ H ρ Ω P PX Q hG R p q qx =>
  he g σ H ρ Ω _ PX _ hG R p (fun x Ω1 v H1 p1 k1 o1 d1 => hl g σ H1 ρ Ω1 _ PX _ hG (R.keep k1 o1) p1 (fun l Ω2 H2 p2 k2 o2 => hh g σ H2 ρ Ω2 _ PX _ hG (R.keep (k1.trans k2) o2) p2 (fun u Ω3 H3 p3 k3 o3 => hr g H3 Ω3 v x l u P Q o3 (d1.keep (k2.trans k3)) p3 (q.at ((k1.trans k2).trans k3))) (qx.at (k1.trans k2))) (qx.at k1)) qx
def dSlL : Tr → Option Int → Option Int → Om → PT' → Prop := fun x lo hi Ω P => ∃ ts, asL x Ω = some ts ∧ (ts.length ≤ 1000000 → lstNew (cutT ts lo hi) Ω P)
theorem simsl_L : SimSl K (rSlL K) dSlL := fun g H Ω x tx lo hi P Q o d ⟨ts, e, p⟩ q => by
  obtain ⟨a, xs, rfl, s, _, dl, z⟩ := at_L o d e
  exact ⟨a, xs, rfl, s, fun l n => new_lst o (dl.cut lo hi) (Nat.le_trans (cutT_le ts lo hi) z) (p z) q n⟩
def rSlG (K : PySem.W.Frag) : V → Option Int → Option Int → Hp → VK → Prop := fun x lo hi H Q => rSlL K x lo hi H Q ∨ rSlA K x lo hi H Q ∨ rSlS x lo hi H Q
theorem sl_G {X : Cx} : SlR X (rSlG X.K) := sl_list.or (sl_tupA.or sl_str)
def dSlG : Tr → Option Int → Option Int → Om → PT' → Prop
  | .tup ts, lo, hi, Ω, P => P (.tup (cutT ts lo hi)) Ω
  | .str z, lo, hi, Ω, P => z.length ≤ sizeLine ∧ P (.str (cutS z lo hi)) Ω
  | x, lo, hi, Ω, P => ∃ ts, asL x Ω = some ts ∧ (ts.length ≤ 1000000 → lstNew (cutT ts lo hi) Ω P)
theorem cut_whole {ts : List Tr} {lo hi : Option Int} (h : HT.sIx ts.length 0 lo = 0 ∧ HT.sIx ts.length ts.length hi = ts.length) : cutT ts lo hi = ts := by
  unfold cutT
  rw [h.1, h.2]
  simp
theorem simsl_G : SimSl K (rSlG K) dSlG := fun g H Ω x tx lo hi P Q o d p q => by
  have lst : (∃ ts, asL tx Ω = some ts ∧ (ts.length ≤ 1000000 → lstNew (cutT ts lo hi) Ω P)) → rSlG K x lo hi H Q := fun p => .inl (simsl_L g H Ω x tx lo hi P Q o d p q)
  cases tx with
  | tup ts =>
    obtain ⟨a, xs, rfl, s, dl, z⟩ := sqt d
    refine .inr (.inl ⟨a, xs, rfl, s, fun h => ?_, fun _ l n => ?_⟩)
    · rw [dl.len] at h
      replace p : P (.tup (cutT ts lo hi)) Ω := p
      rw [cut_whole h] at p
      exact q _ Ω _ H p .refl o d
    · exact new_tup o (dl.cut lo hi) (Nat.le_trans (cutT_le ts lo hi) z) p q n
  | str y => exact .inr (.inr ⟨y, d, p.1, q _ Ω _ H p.2 .refl o rfl⟩)
  | _ => exact lst p
/-! ### x + y -/
def rAddS : R2 := fun x y H Q => ∃ i j, x = .str i ∧ y = .str j ∧ i.length + j.length ≤ sizeLine ∧ Q (.str (i ++ j)) H
def rAddG (K : PySem.W.Frag) : R2 := fun x y H Q => rI0 (fun i j => V.int (i + j)) x y H Q ∨ rCat x y H Q ∨ rCatA K x y H Q ∨ rAddS x y H Q
theorem op_addG {X : Cx} : OpR X (binaryOp .Add) (rAddG X.K) := op_add.or (op_cat.or (op_catA.or op_add_str))
def dAddG : Tr → Tr → Om → PT' → Prop
  | .int i, .int j, Ω, P => P (.int (i + j)) Ω
  | .tup xs, .tup ys, Ω, P => xs.length + ys.length ≤ 1000000 ∧ P (.tup (xs ++ ys)) Ω
  | .str a, .str b, Ω, P => a.length + b.length ≤ sizeLine ∧ P (.str (a ++ b)) Ω
  | x, y, Ω, P => ∃ xs ys, asL x Ω = some xs ∧ asL y Ω = some ys ∧ xs.length + ys.length ≤ 1000000 ∧ lstNew (xs ++ ys) Ω P
theorem simr_addG : SimR K (rAddG K) dAddG := fun g H Ω x y tx ty P Q o d1 d2 p q => by
  have lst : (∃ xs ys, asL tx Ω = some xs ∧ asL ty Ω = some ys ∧ xs.length + ys.length ≤ 1000000 ∧ lstNew (xs ++ ys) Ω P) → rAddG K x y H Q := fun ⟨xs, ys, e1, e2, hz, p⟩ => by
    obtain ⟨a, us, rfl, _, h1, l1, _⟩ := at_L o d1 e1
    obtain ⟨b, ws, rfl, _, h2, l2, _⟩ := at_L o d2 e2
    exact .inr (.inl ⟨a, b, us, ws, rfl, rfl, h1, h2, by rw [l1.len, l2.len]; exact size_ok hz, fun l n => new_lst o (l1.app _ l2) (by rw [List.length_append]; exact hz) p q n⟩)
  cases tx with
  | int i =>
    cases ty with
    | int j => exact .inl ⟨i, j, d1, d2, q _ Ω _ H p .refl o rfl⟩
    | _ => exact lst p
  | tup xs =>
    cases ty with
    | tup ys =>
      obtain ⟨hz, p⟩ := p
      have d1' := d1
      have d2' := d2
      obtain ⟨a, us, rfl, s1, l1, _⟩ := sqt d1
      obtain ⟨b, ws, rfl, s2, l2, _⟩ := sqt d2
      refine .inr (.inr (.inl ⟨a, b, us, ws, rfl, rfl, s1, s2, by rw [l1.len, l2.len]; exact size_ok hz, fun e => ?_, fun _ e => ?_, fun _ _ l n => new_tup o (l1.app _ l2) (by rw [List.length_append]; exact hz) p q n⟩))
      · subst e
        rw [l1.nil_inv] at p
        exact q _ Ω _ H p .refl o d2'
      · subst e
        rw [l2.nil_inv, List.append_nil] at p
        exact q _ Ω _ H p .refl o d1'
    | _ => exact lst p
  | str a =>
    cases ty with
    | str b => exact .inr (.inr (.inr ⟨a, b, d1, d2, p.1, q _ Ω _ H p.2 .refl o rfl⟩))
    | _ => exact lst p
  | lst a => cases ty <;> exact lst p
  | obj a => cases ty <;> exact lst p
  | _ => exact lst p
/-! ### methods of cells, items of cells -/
def dApp (de : DE) (da : DA) : DE := fun ρ Ω P PX => de ρ Ω (fun x Ω1 => (asL x Ω1).isSome = true ∧ da ρ Ω1 (fun ts Ω2 => ∃ a us y, x = .obj a ∧ ts = [y] ∧ Ω2 a = some (.lst us) ∧ us.length + 1 ≤ 1000000 ∧ P .non (put Ω2 a (.lst (us ++ [y])))) PX) PX
theorem sim_append {te : TE} {ta : TA} {de : DE} {da : DA} (he : SimE K G E te de) (ha : SimA K G E ta da) : SimE K G E (tBM K "list" rAppend te ta) (dApp de da) := fun g σ H ρ Ω P PX Q hG R p q qx =>
  he g σ H ρ Ω _ PX _ hG R p (fun x Ω1 v H1 ⟨hs, p1⟩ k1 o1 d1 => by
    obtain ⟨us, e1⟩ := Option.isSome_iff_exists.mp hs
    obtain ⟨a, xs, e2, s, _⟩ := at_L o1 d1 e1
    refine ⟨by rw [e2]; exact .inl ⟨rfl, xs, s⟩, ha g σ H1 ρ Ω1 _ PX _ hG (R.keep k1 o1) p1 (fun ts Ω2 vs H2 ⟨b, us, y, e, ey, h1, hz, p2⟩ k2 o2 d2 => ?_) (qx.at k1)⟩
    subst e ey
    obtain ⟨w, _, rfl, dw, rfl⟩ := d2
    obtain ⟨_, ys, e3, _, h2, l2, z2⟩ := at_L o2 (show VD K g.dr (NM g Ω2) H2 (.ref b) (.obj b) from rfl) (asL_obj h1)
    cases e3
    rw [show v = .ref b from d1]
    refine ⟨b, ys, w, rfl, rfl, h2, by rw [l2.len]; exact size_lt z2, q _ _ _ _ p2 ((k1.trans k2).trans (.write h1)) (o2.write h1 ⟨ys ++ [w], upd_same, ?_, by rw [List.length_append]; exact hz⟩) rfl⟩
    have kw : Keep g H2 Ω2 (upd H2 b (.lst (ys ++ [w]))) (put Ω2 b (.lst (us ++ [y]))) := .write h1
    exact (l2.keep kw).app _ (.one (dw.keep kw))) qx
def dSet (v : Tr) (o i : Tr) (Ω : Om) (P : Om → Prop) : Prop := ∃ a us k j, o = .obj a ∧ i = .int k ∧ Ω a = some (.lst us) ∧ ixN us.length k = some j ∧ P (put Ω a (.lst (us.set j v)))
def dSub (d1 d2 : DE) : DG := fun v ρ Ω P PX => d1 ρ Ω (fun o Ω1 => d2 ρ Ω1 (fun i Ω2 => dSet v o i Ω2 (P ρ)) PX) PX
theorem sim_gSub {t1 t2 : TE} {d1 d2 : DE} (h1 : SimE K G E t1 d1) (h2 : SimE K G E t2 d2) : SimG K G E (gSub t1 t2 rSetL) (dSub d1 d2) := fun g σ H ρ Ω v t P PX Q hG R dv p q qx =>
  h1 g σ H ρ Ω _ PX _ hG R p (fun o Ω1 ov H1 p1 k1 o1 do1 => h2 g σ H1 ρ Ω1 _ PX _ hG (R.keep k1 o1) p1 (fun i Ω2 iv H2 ⟨a, us, k, j, e1, e2, hc, hx, p2⟩ k2 o2 di => by
    subst e1 e2
    obtain ⟨_, ys, e3, _, hh, l2, z2⟩ := at_L o2 (show VD K g.dr (NM g Ω2) H2 (.ref a) (.obj a) from rfl) (asL_obj hc)
    cases e3
    have kw : Keep g H2 Ω2 (upd H2 a (.lst (ys.set j v))) (put Ω2 a (.lst (us.set j t))) := .write hc
    have kk := (k1.trans k2).trans kw
    have o3 : OmOk K g (upd H2 a (.lst (ys.set j v))) (put Ω2 a (.lst (us.set j t))) := o2.write hc ⟨_, upd_same, (l2.keep kw).set (dv.keep kk), by rw [List.length_set]; exact z2⟩
    exact ⟨a, ys, k, j, show ov = .ref a from do1, show iv = .int k from di, hh, by rw [l2.len]; exact hx, q ρ _ σ _ p2 kk (R.keep kk o3)⟩) (fun x Ω' c d H' hp k o r => qx c d H' ⟨x, Ω', hp, k1.trans k, o, r⟩)) fun x Ω' c d H' hp k o r => qx c d H' ⟨x, Ω', hp, k, o, r⟩
/-- a cell becomes data (nothing runs) -/
theorem freeze {g : Gh} {σ : L2.St} {H : Hp} {ρ : En} {Ω : Om} {i : Nat} {a : Addr} {ts : List Tr} (R : Rel K g σ H ρ Ω) (h1 : ρ[i]? = some (some (.obj a))) (h2 : Ω a = some (.lst ts)) : Rel K g σ H (ρ.set i (some (.lst ts))) (cut Ω a) := by
  have R1 := R.keep Keep.freeze (R.om.freeze (a := a))
  obtain ⟨v, ev, dv⟩ := R.env i _ h1
  obtain ⟨xs, h3, h4, h5⟩ := (R.om.ce a _ h2).2
  have hd : ∀ d, g.dr ≠ some (d, a) := fun d e => by
    obtain ⟨_, _, _, _, _, _, _, _, h7, _⟩ := R.om.dr d a e
    rw [h2] at h7
    cases h7
  have hn : NM g (cut Ω a) a := ⟨cut_same, hd, (R.om.ce a _ h2).1⟩
  have R2 := R1.set (v := v) (t := .lst ts) (i := i) ⟨a, xs, dv, hn, h3, h4.keep Keep.freeze, h5⟩
  have es : σ.set i (some v) = σ := by
    apply List.ext_getElem?
    intro j
    by_cases hj : i = j
    · subst hj
      rw [List.getElem?_set_self ((List.getElem?_eq_some_iff.mp ev).1), ev]
    · rw [List.getElem?_set_ne hj]
  rw [es] at R2
  exact R2
/-- what follows may take the cell of slot i as data -/
def dThaw (i : Nat) (d : DS) : DS := fun D ρ Ω => d D ρ Ω ∨ ∃ a ts, ρ[i]? = some (some (.obj a)) ∧ Ω a = some (.lst ts) ∧ d D (ρ.set i (some (.lst ts))) (cut Ω a)
theorem sim_thaw {i : Nat} {ts : TS} {ds : DS} (h : SimS K G E ts ds) : SimS K G E ts (dThaw i ds) := fun g σ H ρ Ω D DD hG R p e => by
  rcases p with p | ⟨a, us, h1, h2, p⟩
  · exact h g σ H ρ Ω D DD hG R p e
  · exact h g σ H _ _ D DD hG (freeze R h1 h2) p (e.at Keep.freeze)
/-- return: the cell of slot i may become data first -/
def dRetT (i : Nat) (de : DE) : DS := dThaw i (dRet de)
theorem sim_retThaw {i : Nat} {te : TE} {de : DE} (h : SimE K G E te de) : SimS K G E (tRet te) (dRetT i de) := sim_thaw (sim_ret h)
end
end LT

namespace LT
open PySem PySem.Spec PyProof.Rows L2 L2H LL
section
variable {K : PySem.W.Frag} {G : List (Value × Option Addr × XV) → Prop} {E : EK}
/-! ### == of data -/
mutual
def toP : Tr → PyData
  | .bl b => .bool b
  | .int i => .int i
  | .str x => .str x
  | .lst ts => .list (toPs ts)
  | .tup ts => .tuple (toPs ts)
  | _ => .none
def toPs : List Tr → List PyData
  | [] => []
  | t :: ts => toP t :: toPs ts
end
mutual
/-- no dict, no cell in it -/
def plainT : Tr → Bool
  | .dic _ _ => false
  | .obj _ => false
  | .drw => false
  | .ty _ => false
  | .lst ts => plainTs ts
  | .tup ts => plainTs ts
  | _ => true
def plainTs : List Tr → Bool
  | [] => true
  | t :: ts => plainT t && plainTs ts
end
mutual
theorem dp_of {dr : Option (Addr × Addr)} {F : Addr → Prop} {H : Hp} : ∀ {v : V} (t : Tr), VD K dr F H v t → plainT t = true → Dp K H v (toP t)
  | _, .non, h, _ => by rw [show _ = V.non from h]; exact .non
  | _, .bl b, h, _ => by rw [show _ = V.bl b from h]; exact .bl b
  | _, .int b, h, _ => by rw [show _ = V.int b from h]; exact .int b
  | _, .str b, h, _ => by rw [show _ = V.str b from h]; exact .str b
  | _, .lst ts, h, p => by
    obtain ⟨a, xs, rfl, s, d, _⟩ := sql h
    exact .lst s (dps_of ts d p)
  | _, .tup ts, h, p => by
    obtain ⟨a, xs, rfl, s, d, _⟩ := sqt h
    exact .tup s (dps_of ts d p)
  | _, .dic _ _, _, p => by cases p
  | _, .obj _, _, p => by cases p
  | _, .drw, _, p => by cases p
  | _, .ty _, _, p => by cases p
theorem dps_of {dr : Option (Addr × Addr)} {F : Addr → Prop} {H : Hp} : ∀ {vs : List V} (ts : List Tr), VDL K dr F H vs ts → plainTs ts = true → DpAll K H vs (toPs ts)
  | _, [], h, _ => by rw [show _ = [] from h]; exact .nil
  | _, t :: ts, h, p => by
    obtain ⟨v, vs, rfl, h1, h2⟩ := h
    have p' := Bool.and_eq_true_iff.mp (show (plainT t && plainTs ts) = true from p)
    exact .cons (dp_of t h1 p'.1) (dps_of ts h2 p'.2)
end
def eqT (x y : Tr) : Bool := PyData.eqv (toP x) (toP y)
def okEq (x : Tr) : Bool := plainT x && SeqAt.shaped (toP x)
def dEqD (f : Bool → Bool) : Tr → Tr → Om → PT' → Prop := fun x y Ω P => okEq x = true ∧ okEq y = true ∧ P (.bl (f (eqT x y))) Ω
theorem simr_EqD : SimR K (rEqD K) (dEqD fun b => b) := fun g H Ω x y tx ty P Q o d1 d2 ⟨h1, h2, p⟩ q =>
  have a := Bool.and_eq_true_iff.mp h1
  have b := Bool.and_eq_true_iff.mp h2
  ⟨_, _, dp_of tx d1 a.1, dp_of ty d2 b.1, a.2, b.2, q _ Ω _ H p .refl o rfl⟩
theorem simr_NeD : SimR K (rNeD K) (dEqD fun b => !b) := fun g H Ω x y tx ty P Q o d1 d2 ⟨h1, h2, p⟩ q =>
  have a := Bool.and_eq_true_iff.mp h1
  have b := Bool.and_eq_true_iff.mp h2
  ⟨_, _, dp_of tx d1 a.1, dp_of ty d2 b.1, a.2, b.2, q _ Ω _ H p .refl o rfl⟩
/-! ### x is None -/
theorem sim_isN {te : TE} {de : DE} (h : SimE K G E te de) : SimE K G E (tIsN te) (fun ρ Ω P PX => de ρ Ω (fun x Ω1 => P (.bl (isNonT x)) Ω1) PX) := fun g σ H ρ Ω P PX Q hG R p q qx =>
  h g σ H ρ Ω _ PX _ hG R p (fun x Ω1 v H1 p1 k1 o1 d1 => by rw [vd_non d1]; exact q _ Ω1 _ H1 p1 k1 o1 rfl) qx
/-! ### dicts -/
def keyT : Tr → Option Key
  | .int i => some (.inl i)
  | .str x => some (.inr x)
  | _ => none
def valT (ks : List Key) (ts : List Tr) (k : Key) : Option Tr := ((ks.zip ts).find? fun kv => decide (kv.1 = k)).map (·.2)
theorem valT_nil {ts : List Tr} {k : Key} : valT [] ts k = none := rfl
theorem valT_cons {a : Key} {ks : List Key} {t : Tr} {ts : List Tr} {k : Key} : valT (a :: ks) (t :: ts) k = if a = k then some t else valT ks ts k := by
  unfold valT
  rw [List.zip_cons_cons, List.find?_cons]
  by_cases h : a = k
  · simp [h]
  · simp [h]
theorem vd_key {dr : Option (Addr × Addr)} {F : Addr → Prop} {H : Hp} {v : V} {t : Tr} {k : Key} (d : VD K dr F H v t) (h : keyT t = some k) : v = kV k := by
  cases t with
  | int i => cases h; exact d
  | str i => cases h; exact d
  | _ => cases h
theorem val_of {dr : Option (Addr × Addr)} {F : Addr → Prop} {H : Hp} {k : Key} : ∀ {ks : List Key} {xs : List V} {ts : List Tr}, VDL K dr F H xs ts → ts.length = ks.length → (valV (ks.zip xs) k = none ∧ valT ks ts k = none) ∨ ∃ v t, valV (ks.zip xs) k = some v ∧ valT ks ts k = some t ∧ VD K dr F H v t
  | [], _, _, _, _ => .inl ⟨rfl, rfl⟩
  | a :: ks, xs, [], _, hl => by cases hl
  | a :: ks, xs, t :: ts, d, hl => by
    obtain ⟨v, vs, rfl, d1, d2⟩ := d
    rw [valT_cons]
    by_cases h : a = k
    · subst h
      rw [if_pos rfl]
      exact .inr ⟨v, t, by rw [List.zip_cons_cons, valV_pos rfl], rfl, d1⟩
    · rw [if_neg h]
      rw [List.zip_cons_cons, valV_neg h]
      exact val_of d2 (by simpa using hl)
def dGet (dd dk : DE) : DE := fun ρ Ω P PX => dd ρ Ω (fun x Ω1 => dk ρ Ω1 (fun y Ω2 => ∃ ks ts k t, asD x Ω2 = some (ks, ts) ∧ keyT y = some k ∧ valT ks ts k = some t ∧ P t Ω2) PX) PX
theorem sim_dget {td tk : TE} {dd dk : DE} (hd : SimE K G E td dd) (hk : SimE K G E tk dk) : SimE K G E (tDGet td tk) (dGet dd dk) := fun g σ H ρ Ω P PX Q hG R p q qx =>
  hd g σ H ρ Ω _ PX _ hG R p (fun x Ω1 v H1 p1 k1 o1 d1 => hk g σ H1 ρ Ω1 _ PX _ hG (R.keep k1 o1) p1 (fun y Ω2 u H2 ⟨ks, ts, k, t, e1, e2, e3, p2⟩ k2 o2 d2 => by
    obtain ⟨a, xs, rfl, h1, h2, h3, _⟩ := at_D o2 (d1.keep k2) e1
    obtain rfl := vd_key d2 e2
    rcases val_of (k := k) h2 h3 with ⟨_, z⟩ | ⟨w, t', z1, z2, dw⟩
    · rw [e3] at z; cases z
    · rw [e3] at z2
      cases z2
      exact ⟨a, w, rfl, by rw [← z1]; exact DGet.k h1, q _ Ω2 _ H2 p2 (k1.trans k2) o2 dw⟩) (qx.at k1)) qx
def dGet2 (dd dk dx : DE) : DE := fun ρ Ω P PX => dd ρ Ω (fun x Ω1 => (asD x Ω1).isSome = true ∧ dk ρ Ω1 (fun y Ω2 => dx ρ Ω2 (fun z Ω3 => ∃ ks ts k, asD x Ω3 = some (ks, ts) ∧ keyT y = some k ∧ P ((valT ks ts k).getD z) Ω3) PX) PX) PX
theorem isD_of {g : Gh} {H : Hp} {Ω : Om} {v : V} {t : Tr} (o : OmOk K g H Ω) (d : VD K g.dr (NM g Ω) H v t) (h : (asD t Ω).isSome = true) : ∃ a, v = .ref a ∧ IsD H a := by
  obtain ⟨⟨ks, ts⟩, e⟩ := Option.isSome_iff_exists.mp h
  obtain ⟨a, xs, rfl, h1, _⟩ := at_D o d e
  exact ⟨a, rfl, .inl ⟨_, .inl h1⟩⟩
theorem sim_dget2 {td tk tx : TE} {dd dk dx : DE} (hd : SimE K G E td dd) (hk : SimE K G E tk dk) (hx : SimE K G E tx dx) : SimE K G E (tDGet2 td tk tx) (dGet2 dd dk dx) := fun g σ H ρ Ω P PX Q hG R p q qx =>
  hd g σ H ρ Ω _ PX _ hG R p (fun x Ω1 v H1 ⟨hs, p1⟩ k1 o1 d1 => by
    obtain ⟨a, rfl, isd⟩ := isD_of o1 d1 hs
    refine ⟨a, rfl, isd, hk g σ H1 ρ Ω1 _ PX _ hG (R.keep k1 o1) p1 (fun y Ω2 u H2 p2 k2 o2 d2 => hx g σ H2 ρ Ω2 _ PX _ hG (R.keep (k1.trans k2) o2) p2 (fun z Ω3 zz H3 ⟨ks, ts, k, e1, e2, p3⟩ k3 o3 d3 => ?_) (qx.at (k1.trans k2))) (qx.at k1)⟩
    obtain ⟨b, xs, e, h1, h2, h3, _⟩ := at_D o3 (d1.keep (k2.trans k3)) e1
    cases e
    obtain rfl := vd_key (d2.keep k3) e2
    have kk := (k1.trans k2).trans k3
    rcases val_of (k := k) h2 h3 with ⟨z1, z2⟩ | ⟨w, t', z1, z2, dw⟩
    · exact ⟨none, by rw [← z1]; exact DGet.k h1, by rw [z2] at p3; exact q _ Ω3 _ H3 p3 kk o3 d3⟩
    · exact ⟨some w, by rw [← z1]; exact DGet.k h1, by rw [z2] at p3; exact q _ Ω3 _ H3 p3 kk o3 dw⟩) qx
def dGet1 (dd dk : DE) : DE := fun ρ Ω P PX => dd ρ Ω (fun x Ω1 => (asD x Ω1).isSome = true ∧ dk ρ Ω1 (fun y Ω2 => ∃ ks ts k, asD x Ω2 = some (ks, ts) ∧ keyT y = some k ∧ P ((valT ks ts k).getD .non) Ω2) PX) PX
theorem sim_dget1 {td tk : TE} {dd dk : DE} (hd : SimE K G E td dd) (hk : SimE K G E tk dk) : SimE K G E (tDGet1 td tk) (dGet1 dd dk) := fun g σ H ρ Ω P PX Q hG R p q qx =>
  hd g σ H ρ Ω _ PX _ hG R p (fun x Ω1 v H1 ⟨hs, p1⟩ k1 o1 d1 => by
    obtain ⟨a, rfl, isd⟩ := isD_of o1 d1 hs
    refine ⟨a, rfl, isd, hk g σ H1 ρ Ω1 _ PX _ hG (R.keep k1 o1) p1 (fun y Ω2 u H2 ⟨ks, ts, k, e1, e2, p3⟩ k2 o2 d2 => ?_) (qx.at k1)⟩
    obtain ⟨b, xs, e, h1, h2, h3, _⟩ := at_D o2 (d1.keep k2) e1
    cases e
    obtain rfl := vd_key d2 e2
    have kk := k1.trans k2
    rcases val_of (k := k) h2 h3 with ⟨z1, z2⟩ | ⟨w, t', z1, z2, dw⟩
    · exact ⟨none, by rw [← z1]; exact DGet.k h1, by rw [z2] at p3; exact q _ Ω2 _ H2 p3 kk o2 rfl⟩
    · exact ⟨some w, by rw [← z1]; exact DGet.k h1, by rw [z2] at p3; exact q _ Ω2 _ H2 p3 kk o2 dw⟩) qx
def dIn (neg : Bool) (dk dd : DE) : DE := fun ρ Ω P PX => dk ρ Ω (fun y Ω1 => dd ρ Ω1 (fun x Ω2 => ∃ ks ts k, asD x Ω2 = some (ks, ts) ∧ keyT y = some k ∧ P (.bl (if neg then !(valT ks ts k).isSome else (valT ks ts k).isSome)) Ω2) PX) PX
theorem sim_din {td tk : TE} {dd dk : DE} (hk : SimE K G E tk dk) (hd : SimE K G E td dd) : SimE K G E (tDIn tk td) (dIn false dk dd) := fun g σ H ρ Ω P PX Q hG R p q qx =>
  hk g σ H ρ Ω _ PX _ hG R p (fun y Ω1 u H1 p1 k1 o1 d1 => hd g σ H1 ρ Ω1 _ PX _ hG (R.keep k1 o1) p1 (fun x Ω2 v H2 ⟨ks, ts, k, e1, e2, p2⟩ k2 o2 d2 => by
    obtain ⟨a, xs, rfl, h1, h2, h3, _⟩ := at_D o2 d2 e1
    obtain rfl := vd_key d1 e2
    refine ⟨a, _, rfl, DGet.k h1, ?_⟩
    rcases val_of (k := k) h2 h3 with ⟨z1, z2⟩ | ⟨w, t', z1, z2, dw⟩
    · rw [z1]; rw [z2] at p2; exact q _ Ω2 _ H2 p2 (k1.trans k2) o2 rfl
    · rw [z1]; rw [z2] at p2; exact q _ Ω2 _ H2 p2 (k1.trans k2) o2 rfl) (qx.at k1)) qx
theorem sim_dnotin {td tk : TE} {dd dk : DE} (hk : SimE K G E tk dk) (hd : SimE K G E td dd) : SimE K G E (tDNotIn tk td) (dIn true dk dd) := fun g σ H ρ Ω P PX Q hG R p q qx =>
  hk g σ H ρ Ω _ PX _ hG R p (fun y Ω1 u H1 p1 k1 o1 d1 => hd g σ H1 ρ Ω1 _ PX _ hG (R.keep k1 o1) p1 (fun x Ω2 v H2 ⟨ks, ts, k, e1, e2, p2⟩ k2 o2 d2 => by
    obtain ⟨a, xs, rfl, h1, h2, h3, _⟩ := at_D o2 d2 e1
    obtain rfl := vd_key d1 e2
    refine ⟨a, _, rfl, DGet.k h1, ?_⟩
    rcases val_of (k := k) h2 h3 with ⟨z1, z2⟩ | ⟨w, t', z1, z2, dw⟩
    · rw [z1]; rw [z2] at p2; exact q _ Ω2 _ H2 p2 (k1.trans k2) o2 rfl
    · rw [z1]; rw [z2] at p2; exact q _ Ω2 _ H2 p2 (k1.trans k2) o2 rfl) (qx.at k1)) qx
/-- an entry in its place, or at the end -/
def putT (kvs : List (Key × Tr)) (k : Key) (v : Tr) : List (Key × Tr) :=
  if (kvs.any fun kv => decide (kv.1 = k)) = true then kvs.map (fun kv => if kv.1 = k then (kv.1, v) else kv) else kvs ++ [(k, v)]
def dicOf (kvs : List (Key × Tr)) : Tr := .dic (kvs.map (·.1)) (kvs.map (·.2))
/-- the same keys, the values' data -/
def KVD (K : PySem.W.Frag) (dr : Option (Addr × Addr)) (F : Addr → Prop) (H : Hp) (kvs : List (Key × V)) (us : List (Key × Tr)) : Prop := kvs.map (·.1) = us.map (·.1) ∧ VDL K dr F H (kvs.map (·.2)) (us.map (·.2))
theorem KVD.put {dr : Option (Addr × Addr)} {F : Addr → Prop} {H : Hp} {k : Key} {v : V} {t : Tr} (d : VD K dr F H v t) : ∀ {kvs : List (Key × V)} {us : List (Key × Tr)}, KVD K dr F H kvs us → KVD K dr F H (putK kvs k v) (putT us k t) := by
  have any : ∀ {kvs : List (Key × V)} {us : List (Key × Tr)}, KVD K dr F H kvs us → (kvs.any fun kv => decide (kv.1 = k)) = (us.any fun kv => decide (kv.1 = k)) := fun {kvs us} h => by
    have e1 : (kvs.any fun kv => decide (kv.1 = k)) = (kvs.map (·.1)).any fun x => decide (x = k) := by rw [List.any_map]; rfl
    have e2 : (us.any fun kv => decide (kv.1 = k)) = (us.map (·.1)).any fun x => decide (x = k) := by rw [List.any_map]; rfl
    rw [e1, e2, h.1]
  have mp : ∀ {kvs : List (Key × V)} {us : List (Key × Tr)}, KVD K dr F H kvs us → KVD K dr F H (kvs.map (fun kv => if kv.1 = k then (kv.1, v) else kv)) (us.map (fun kv => if kv.1 = k then (kv.1, t) else kv)) := by
    intro kvs
    induction kvs with
    | nil =>
      intro us h
      cases us with
      | nil => exact h
      | cons u us => cases h.1
    | cons kv kvs ih =>
      intro us h
      cases us with
      | nil => cases h.1
      | cons u us =>
        obtain ⟨h1, w, ws, e, h2, h3⟩ := h
        simp only [List.map_cons, List.cons.injEq] at h1 e
        have r := ih (us := us) ⟨h1.2, by rw [e.2]; exact h3⟩
        obtain ⟨k1, v1⟩ := kv
        obtain ⟨k2, t2⟩ := u
        simp only at h1 e h2
        obtain ⟨rfl, h1'⟩ := h1
        obtain ⟨rfl, e'⟩ := e
        by_cases hk : k1 = k
        · simp only [List.map_cons, hk, if_true]
          exact ⟨by simp only [List.map_cons]; rw [r.1], v, _, rfl, d, r.2⟩
        · simp only [List.map_cons, hk, if_false]
          exact ⟨by simp only [List.map_cons]; rw [r.1], _, _, rfl, h2, r.2⟩
  intro kvs us h
  unfold putK putT
  rw [any h]
  by_cases hc : (us.any fun kv => decide (kv.1 = k)) = true
  · rw [if_pos hc, if_pos hc]
    exact mp h
  · rw [if_neg hc, if_neg hc]
    exact ⟨by rw [List.map_append, List.map_append, h.1]; rfl, by rw [List.map_append, List.map_append]; exact h.2.app _ (.one d)⟩
theorem putT_len {kvs : List (Key × Tr)} {k : Key} {t : Tr} : (putT kvs k t).length ≤ kvs.length + 1 := by
  unfold putT
  split
  · rw [List.length_map]; omega
  · rw [List.length_append]; simp
theorem KVD.len {dr : Option (Addr × Addr)} {F : Addr → Prop} {H : Hp} {kvs : List (Key × V)} {us : List (Key × Tr)} (h : KVD K dr F H kvs us) : kvs.length = us.length := by
  have := congrArg List.length h.1
  simpa using this
theorem zip_fst_snd {α β : Type} : ∀ (l : List (α × β)), (l.map (·.1)).zip (l.map (·.2)) = l
  | [] => rfl
  | (a, b) :: l => by simp only [List.map_cons, List.zip_cons_cons, zip_fst_snd l]
/-- a new dict: data, or a cell -/
def dicNew (us : List (Key × Tr)) (Ω : Om) (P : PT') : Prop := P (dicOf us) Ω ∨ ∀ a, Ω a = none → P (.obj a) (put Ω a (.dic (us.map (·.1)) (us.map (·.2))))
def dDc (di : DI) (dg : DG) (dt : DT) (dk dv : DE) (vs : List Nat) : DE := fun ρ Ω P PX => di ρ Ω (fun items st Ω1 => items.length ≤ 1000000 ∧ ∃ W : Nat → List (Key × Tr) → Om → Prop, W 0 [] Ω1 ∧ (∀ i acc Ω', W i acc Ω' → st Ω') ∧
  (∀ i t acc Ω', items[i]? = some t → W i acc Ω' → dg t (wipeT ρ vs) Ω' (fun ρ2 Ω2 => dt ρ2 Ω2 (fun b Ω3 => if b = true then dk ρ2 Ω3 (fun y Ω4 => dv ρ2 Ω4 (fun z Ω5 => ∃ k, keyT y = some k ∧ W (i + 1) (putT acc k z) Ω5) nox) nox else W (i + 1) acc Ω3) nox) nox) ∧
  ∀ acc Ω', W items.length acc Ω' → dicNew acc Ω' P) PX
theorem sim_dc {wi : TI} {tg : TG} {tt : TT} {tk te : TE} {vs : List Nat} {di : DI} {dg : DG} {dt : DT} {dk de : DE} (hi : SimI K G E wi di) (hg : SimG K G E tg dg) (gi : GIn vs tg) (ht : SimT K G E tt dt) (hk : SimE K G E tk dk) (he : SimE K G E te de) : SimE K G E (tDc wi tg tt tk te vs) (dDc di dg dt dk de vs) := fun g σ H ρ Ω P PX Q hG R h q qx => by
  refine hi g σ H ρ Ω _ _ _ hG R h (fun items st Ω1 J H1 h1 k1 o1 it => ?_) qx
  obtain ⟨hz, W, w0, wst, step, fin⟩ := h1
  intro D nD
  have npr : ¬ g.pr D := not_pr o1 nD
  refine ⟨fun i m H' => m + i = items.length ∧ ∃ xs acc Ω', H' D = some (.dK xs) ∧ KVD K g.dr (NM (g.with D) Ω') H' xs acc ∧ acc.length ≤ i ∧ Keep g H1 Ω1 H' Ω' ∧ OmOk K (g.with D) H' Ω' ∧ W i acc Ω', ⟨items.length, by omega, [], [], Ω1, upd_same, ⟨rfl, rfl⟩, Nat.le_refl _, .new nD, o1.more nD, w0⟩, ?_⟩
  rintro i m H' ⟨hm, xs, acc, Ω', eD, da, hl, k2, o2, w⟩
  obtain ⟨s1, s2⟩ := it (g.with D) (.inr ⟨D, nD, rfl⟩) i H' Ω' k2 o2 (wst _ _ _ w)
  have nΩ : ∀ {H2 : Hp} {Ω2 : Om}, OmOk K (g.with D) H2 Ω2 → Ω2 D = none := fun {H2 Ω2} o => by
    cases e : Ω2 D with
    | none => rfl
    | some c => exact absurd (.inr rfl) (o.ce D c e).1
  have nd : ∀ d, g.dr ≠ some (d, D) := o1.nodr nD
  rcases Nat.lt_or_ge i items.length with hlt | hge
  · obtain ⟨go, yl⟩ := s2 hlt
    refine .inr ⟨go, fun H2 => m - 1 + (i + 1) = items.length ∧ ∃ xs acc Ω', H2 D = some (.dK xs) ∧ KVD K g.dr (NM (g.with D) Ω') H2 xs acc ∧ acc.length ≤ i + 1 ∧ Keep g H1 Ω1 H2 Ω' ∧ OmOk K (g.with D) H2 Ω' ∧ W (i + 1) acc Ω', fun H2 z => ⟨m - 1, by omega, z⟩, fun x H'' y => ?_⟩
    obtain ⟨k3, o3, t, et, dd⟩ := yl x H'' y
    have Rw : Rel K (g.with D) (L2.wipe σ vs) H'' (wipeT ρ vs) Ω' := by
      have k13 := k2.trans k3
      refine ⟨o3, (Rel.wipe R vs).len, fun j u e => ?_⟩
      obtain ⟨v, h1, h2⟩ := ((Rel.wipe R vs).keep k1 o1).env j u e
      exact ⟨v, h1, (h2.more nD).keep (g := g.with D) k13⟩
    have h0 := hg (g.with D) (L2.wipe σ vs) H'' (wipeT ρ vs) Ω' x t _ _ (fun σ2 H2 => tt σ2 H2 fun b H3 => if b = true then tk σ2 H3 fun y H4 => te σ2 H4 fun z H5 => ∃ kvs k, y = kV k ∧ H5 D = some (.dK kvs) ∧ kvs.length < sizeLine ∧ (m - 1 + (i + 1) = items.length ∧ ∃ xs acc_1 Ω', upd H5 D (.dK (putK kvs k z)) D = some (.dK xs) ∧ KVD K g.dr (NM (g.with D) Ω') (upd H5 D (.dK (putK kvs k z))) xs acc_1 ∧ acc_1.length ≤ i + 1 ∧ Keep g H1 Ω1 (upd H5 D (.dK (putK kvs k z))) Ω' ∧ OmOk K (g.with D) (upd H5 D (.dK (putK kvs k z))) Ω' ∧ W (i + 1) acc_1 Ω') else (m - 1 + (i + 1) = items.length ∧ ∃ xs acc Ω', H3 D = some (.dK xs) ∧ KVD K g.dr (NM (g.with D) Ω') H3 xs acc ∧ acc.length ≤ i + 1 ∧ Keep g H1 Ω1 H3 Ω' ∧ OmOk K (g.with D) H3 Ω' ∧ W (i + 1) acc Ω')) hG Rw dd (step i t acc Ω' et w) (fun ρ2 Ω2 σ2 H2 p k4 R4 => ?_) fun _ _ _ ⟨_, _, z, _⟩ => z.elim
    · have h1 := gi _ _ _ _ h0
      refine Eq.mpr (congrArg (tg x (L2.wipe σ vs) H'') ?_) h1
      funext σ2 H2
      rw [wipe_idem]
      exact propext And.comm
    · have k5 := (k2.trans k3).trans k4
      refine ht (g.with D) σ2 H2 ρ2 Ω2 _ _ _ hG R4 p (fun b Ω3 H3 p3 k6 o6 => ?_) AfterX.nox
      have eD2 : H2 D = some (.dK xs) := (k4 D _ (nΩ o3) nd (k3 D _ (nΩ o2) nd eD).1).1
      have eD3 : H3 D = some (.dK xs) := (k6 D _ (nΩ R4.om) nd eD2).1
      have k7 := k5.trans k6
      have ka : Keep (g.with D) H' Ω' H3 Ω3 := (k3.trans k4).trans k6
      by_cases hb : b = true
      · rw [if_pos hb] at p3 ⊢
        refine hk (g.with D) σ2 H3 ρ2 Ω3 _ _ _ hG (R4.keep k6 o6) p3 (fun y Ω4 v H4 p4 k8 o8 d8 => ?_) AfterX.nox
        refine he (g.with D) σ2 H4 ρ2 Ω4 _ _ _ hG (R4.keep (k6.trans k8) o8) p4 (fun z Ω5 u H5 ⟨k, ek, p5⟩ k9 o9 d9 => ?_) AfterX.nox
        have eD4 : H4 D = some (.dK xs) := (k8 D _ (nΩ o6) nd eD3).1
        have eD5 : H5 D = some (.dK xs) := (k9 D _ (nΩ o8) nd eD4).1
        have dac : VDL K g.dr (NM (g.with D) Ω5) H5 (xs.map (·.2)) (acc.map (·.2)) := ((da.2.keep ka).keep (g := g.with D) k8).keep (g := g.with D) k9
        have r := KVD.put (k := k) d9 (show KVD K _ _ H5 xs acc from ⟨da.1, dac⟩)
        have hlen := da.len
        refine ⟨xs, k, vd_key d8 ek, eD5, size_lt (by omega), by omega, _, putT acc k z, Ω5, upd_same, ⟨r.1, r.2.prot⟩, Nat.le_trans putT_len (by omega), ((k7.trans k8).trans k9).prot nD, o9.prot, p5⟩
      · rw [if_neg hb] at p3 ⊢
        exact ⟨by omega, xs, acc, Ω3, eD3, ⟨da.1, VDL.keep (g := g.with D) (v := xs.map (·.2)) (t := acc.map (·.2)) da.2 ka⟩, by omega, k7, o6, p3⟩
  · have hi : i = items.length := by omega
    refine .inl ⟨s1 hi, ?_⟩
    have f := fin acc Ω' (hi ▸ w)
    have hlen := da.len
    have ez : (acc.map (·.1)).zip (xs.map (·.2)) = xs := by rw [← da.1]; exact zip_fst_snd xs
    rcases f with f | f
    · exact q _ Ω' _ H' f (k1.trans k2) o2.less ⟨D, xs.map (·.2), rfl, ⟨nΩ o2, nd, npr⟩, by rw [ez]; exact eD, da.2.less, by simp, by rw [List.length_map]; omega⟩
    · have kc : Keep g H1 Ω1 H' (put Ω' D (.dic (acc.map (·.1)) (acc.map (·.2)))) := fun b u hb hd e => ⟨(k2 b u hb hd e).1, by rw [put_ne (ne_of_none e nD)]; exact (k2 b u hb hd e).2⟩
      exact q _ _ _ H' (f D (nΩ o2)) (k1.trans kc) (o2.toCell npr ⟨xs.map (·.2), by rw [ez]; exact eD, (show VDL K (g.with D).dr (NM (g.with D) Ω') H' (xs.map (·.2)) (acc.map (·.2)) from da.2), by simp, by rw [List.length_map]; omega⟩) rfl
end
end LT

namespace LT
open PySem PySem.Spec PyProof.Rows L2 L2H LL
section
variable {K : PySem.W.Frag} {G : List (Value × Option Addr × XV) → Prop} {E : EK}
/-! ### raise, try -/
/-- n.__init__: the fields are kept in order, then told -/
def sp_Exc (K : PySem.W.Frag) (cn : Str) (ns : List Str) : Sp := fun vs H Q _ => ∃ (a : Addr) (us : List V), vs = .ref a :: us ∧ us.length = ns.length ∧ H a = some (exo a (He.ga K cn) none) ∧
  ∀ d p1 p2 H', H d = none → d ≠ a → H' a = some (exo a (He.ga K cn) (some d)) → H' d = some (exd d (("told", .ref p2) :: (ns.zip us).reverse)) → H' p1 = some (.tup us) → H' p2 = some (.tup [.str cn, .ref p1]) → H p1 = none → H p2 = none → (∀ b o, b ≠ a → H b = some o → H' b = some o) → Q .non H'
theorem exd_tup' {a : Addr} {vs : List (Str × V)} {xs : List V} : ¬ exd a vs = .tup xs := exd_tup
def excT (cn : Str) (ns : List Str) (ts : List Tr) : XV := ⟨cn, "told" :: ns.reverse, .tup [.str cn, .tup ts] :: ts.reverse⟩
def dRaise (cn : Str) (ns : List Str) (da : DA) : DS := fun D ρ Ω => da ρ Ω (fun ts Ω' => ts.length = ns.length ∧ ts.length ≤ 100 ∧ D.ex ρ (excT cn ns ts) Ω') (fun x Ω' => D.ex ρ x Ω')
theorem VDL.rev {dr : Option (Addr × Addr)} {F : Addr → Prop} {H : Hp} : ∀ {xs : List V} {ts : List Tr}, VDL K dr F H xs ts → VDL K dr F H xs.reverse ts.reverse
  | _, [], h => by rw [show _ = [] from h]; rfl
  | _, t :: ts, h => by
    obtain ⟨v, vs, rfl, h1, h2⟩ := h
    rw [List.reverse_cons, List.reverse_cons]
    exact VDL.app _ (VDL.rev h2) (.one h1)
theorem sim_raise {cn : Str} {ns : List Str} {ta : TA} {da : DA} (ha : SimA K G E ta da) : SimS K G E (fun _ σ H => tMkO (He.ga K cn) (sp_Exc K cn ns) [] ta σ H fun cls d H' => E σ cls d H') (dRaise cn ns da) := fun g σ H ρ Ω D DD hG R p e => by
  refine ha g σ H ρ Ω _ _ _ hG R p (fun ts Ω1 vs H1 ⟨hl, hz, p1⟩ k1 o1 d1 => ?_) (e.exx R)
  refine ⟨by rw [d1.len]; omega, fun a na => ?_⟩
  rw [List.append_nil]
  refine ⟨a, vs, rfl, by rw [d1.len, hl], upd_same, fun d p1' p2' H' hd hne e1 e2 e3 e4 f1 f2 kk => ⟨rfl, d, _, e1, e2, ?_, ?_⟩⟩
  · rw [upd_ne hne] at hd; exact hd
  · have fd : H1 d = none := by rw [upd_ne hne] at hd; exact hd
    have na1 : p1' ≠ a := fun z => by rw [z, upd_same] at f1; cases f1
    have na2 : p2' ≠ a := fun z => by rw [z, upd_same] at f2; cases f2
    have nd1 : p1' ≠ d := fun z => by rw [z, e2] at e3; exact exd_tup' (Option.some.inj e3)
    have nd2 : p2' ≠ d := fun z => by rw [z, e2] at e4; exact exd_tup' (Option.some.inj e4)
    rw [upd_ne na1] at f1
    rw [upd_ne na2] at f2
    have nb : ∀ b o, H1 b = some o → upd (del H' a) d (.xd (("told", .ref p2') :: (ns.zip vs).reverse)) b = some o := fun b o q => by
      have nba : b ≠ a := ne_of_none q na
      rw [upd_ne (ne_of_none q fd), del_ne nba]
      exact kk b o nba (by rw [upd_ne nba]; exact q)
    have k2 : Keep g H1 Ω1 (upd (del H' a) d (.xd (("told", .ref p2') :: (ns.zip vs).reverse))) Ω1 := fun b o h _ q => ⟨nb b o q, h⟩
    have o2 : OmOk K g (upd (del H' a) d (.xd (("told", .ref p2') :: (ns.zip vs).reverse))) Ω1 := by
      refine ⟨fun d' s' q => ?_, fun b c q => ?_, fun q hq => (o1.ex q hq).keep k2, fun b hb => ?_⟩
      · have D0 := o1.dr d' s' q
        exact D0.imp (D0.drw.same nb).st (fun b o _ _ q => nb b o q) fun _ q _ => q
      · obtain ⟨u, hu⟩ := (o1.ce b c q).2.tracked
        exact ⟨(o1.ce b c q).1, (o1.ce b c q).2.imp (by rw [nb b u hu, hu]) fun b' o' f q' => ⟨f, nb b' o' q'⟩⟩
      · obtain ⟨u, hu⟩ := o1.pt b hb
        exact ⟨u, nb b u hu⟩
    have hp1 : upd (del H' a) d (.xd (("told", .ref p2') :: (ns.zip vs).reverse)) p1' = some (.tup vs) := by rw [upd_ne nd1, del_ne na1]; exact e3
    have hp2 : upd (del H' a) d (.xd (("told", .ref p2') :: (ns.zip vs).reverse)) p2' = some (.tup [.str cn, .ref p1']) := by rw [upd_ne nd2, del_ne na2]; exact e4
    have n1 : NM g Ω1 p1' := NM.new o1 f1 (not_pr o1 f1)
    have n2 : NM g Ω1 p2' := NM.new o1 f2 (not_pr o1 f2)
    have d2 := d1.keep k2
    refine e.ex _ ρ Ω1 σ _ _ _ p1 (k1.trans k2) (R.keep (k1.trans k2) o2) ⟨rfl, d, _, rfl, NM.new o1 fd (not_pr o1 fd), upd_same, ?_, ?_⟩
    · show ("told" : Str) :: ((ns.zip vs).reverse).map (·.1) = ("told" : Str) :: ns.reverse
      rw [List.map_reverse, List.map_fst_zip (by rw [d1.len, hl]; exact Nat.le_refl _)]
    · show VDL K g.dr _ _ (V.ref p2' :: ((ns.zip vs).reverse).map (·.2)) (Tr.tup [.str cn, .tup ts] :: ts.reverse)
      rw [List.map_reverse, List.map_snd_zip (by rw [d1.len, hl]; exact Nat.le_refl _)]
      refine .cons ⟨p2', _, rfl, .inl ⟨n2, hp2⟩, .cons rfl (.one ⟨p1', vs, rfl, .inl ⟨n1, hp1⟩, d2, by omega⟩), by simp⟩ d2.rev
/-- the exceptions that are known in the suite -/
def GX (G : List (Value × Option Addr × XV) → Prop) (cls : Value) (d : Option Addr) (x : XV) : List (Value × Option Addr × XV) → Prop := fun l => ∃ r, l = (cls, d, x) :: r ∧ G r
def Gh.and (g : Gh) (p : Value × Option Addr × XV) : Gh := ⟨g.dr, g.pr, p :: g.ex⟩
theorem OmOk.and {g : Gh} {H : Hp} {Ω : Om} {cls : Value} {d : Option Addr} {x : XV} (o : OmOk K g H Ω) (h : XR K g Ω H cls d x) : OmOk K (g.and (cls, d, x)) H Ω := by
  refine ⟨o.dr, fun a c q => ⟨(o.ce a c q).1, (by cases c <;> exact (o.ce a _ q).2)⟩, fun p hp => ?_, o.pt⟩
  rcases List.mem_cons.mp hp with rfl | hp
  · exact h
  · exact o.ex p hp
theorem OmOk.drop {g : Gh} {H : Hp} {Ω : Om} {p : Value × Option Addr × XV} (o : OmOk K (g.and p) H Ω) : OmOk K g H Ω :=
  ⟨o.dr, fun a c q => ⟨(o.ce a c q).1, (by cases c <;> exact (o.ce a _ q).2)⟩, fun p hp => o.ex p (List.mem_cons_of_mem _ hp), o.pt⟩
theorem Rel.and {g : Gh} {σ : L2.St} {H : Hp} {ρ : En} {Ω : Om} {cls : Value} {d : Option Addr} {x : XV} (R : Rel K g σ H ρ Ω) (h : XR K g Ω H cls d x) : Rel K (g.and (cls, d, x)) σ H ρ Ω := ⟨R.om.and h, R.len, R.env⟩
theorem Rel.drop {g : Gh} {σ : L2.St} {H : Hp} {ρ : En} {Ω : Om} {p : Value × Option Addr × XV} (R : Rel K (g.and p) σ H ρ Ω) : Rel K g σ H ρ Ω := ⟨R.om.drop, R.len, R.env⟩
def dTry (K : PySem.W.Frag) (c : Value) (i : Nat) (db : DS) (ds : Addr → XV → DS) : DS := fun DD ρ Ω => db { DD with ex := fun ρ' x Ω' => ∃ b, PySem.W.exmOne K (.ref (He.ga K x.cls)) c = some b ∧
  (b = true → ∀ a, ds a x { nx := fun ρ2 Ω2 => DD.nx (ρ2.set i none) Ω2, rt := DD.rt, bk := fun ρ2 Ω2 => DD.bk (ρ2.set i none) Ω2, ct := fun ρ2 Ω2 => DD.ct (ρ2.set i none) Ω2, ex := fun _ _ _ => False } (ρ'.set i (some (.obj a))) Ω') ∧ (b = false → DD.ex ρ' x Ω') } ρ Ω
theorem sim_try {c : Value} {i : Nat} {tb : WX → TS} {ts : Addr → Value → Option Addr → TS} {Wout : WX} {db : DS} {ds : Addr → XV → DS} (hE : ∀ σ cls d H, E σ cls d H = Wout cls d σ H) (hb : ∀ W : WX, SimS K G (fun σ cls d H => W cls d σ H) (tb W) db)
    (hs : ∀ a cls d x, SimS K (GX G cls d x) (fun _ _ _ _ => False) (ts a cls d) (ds a x)) : SimS K G E (fun D σ H => tb (wAs K c i ts Wout D) D σ H) (dTry K c i db ds) := fun g σ H ρ Ω D DD hG R p e => by
  refine hb _ g σ H ρ Ω D _ hG R p ⟨e.nx, e.rt, e.bk, e.ct, fun x ρ' Ω' σ' cls d H' ⟨b, eb, h1, h2⟩ k R' xr => ?_⟩
  have ec : cls = .ref (He.ga K x.cls) := xr.1
  refine ⟨b, by rw [ec]; exact eb, fun hb' a na => ?_, fun hb' => by rw [← hE]; exact e.ex x ρ' Ω' σ' cls d H' (h2 hb') k R' xr⟩
  refine hs a cls d x (g.and (cls, d, x)) _ H' _ Ω' _ _ ⟨g.ex, rfl, hG⟩ ((R'.set (v := .ref a) (t := .obj a) rfl).and xr) (h1 hb' a) ⟨fun ρ2 Ω2 σ2 H2 p2 k2 r2 => e.nx _ Ω2 _ H2 p2 (k.trans k2) r2.drop.none, fun t Ω2 v H2 p2 k2 o2 d2 => e.rt t Ω2 v H2 p2 (k.trans k2) o2.drop d2, fun ρ2 Ω2 σ2 H2 p2 k2 r2 => e.bk _ Ω2 _ H2 p2 (k.trans k2) r2.drop.none, fun ρ2 Ω2 σ2 H2 p2 k2 r2 => e.ct _ Ω2 _ H2 p2 (k.trans k2) r2.drop.none, fun _ _ _ _ _ _ _ z => z.elim⟩
/-- e.f in the suite -/
def dXf (K : PySem.W.Frag) (a : Addr) (x : XV) (C : Addr) (n : Str) (de : DE) : DE := fun ρ Ω P PX => de ρ Ω (fun t Ω1 => ∃ u, t = .obj a ∧ He.ga K x.cls = C ∧ (x.ns.zip x.ts).lookup n = some u ∧ P u Ω1) PX
theorem lookup_vd {dr : Option (Addr × Addr)} {F : Addr → Prop} {H : Hp} {n : Str} {u : Tr} : ∀ {fs : List (Str × V)} {ns : List Str} {ts : List Tr}, fs.map (·.1) = ns → VDL K dr F H (fs.map (·.2)) ts → (ns.zip ts).lookup n = some u → ∃ v, fs.lookup n = some v ∧ VD K dr F H v u
  | [], ns, ts, e, _, h => by
    subst e
    simp at h
  | (m, w) :: fs, ns, ts, e, d, h => by
    subst e
    obtain ⟨t, ts', rfl, d1, d2⟩ := VDL.cons_inv d
    rw [List.map_cons, List.zip_cons_cons, List.lookup_cons] at h
    rw [List.lookup_cons]
    cases q : n == m with
    | true =>
      rw [q] at h
      cases h
      exact ⟨w, rfl, d1⟩
    | false =>
      rw [q] at h
      exact lookup_vd rfl d2 h
theorem sim_xf {a C : Addr} {cls : Value} {d : Option Addr} {x : XV} {n : Str} {te : TE} {de : DE} (h : SimE K (GX G cls d x) E te de) : SimE K (GX G cls d x) E (tXf a cls d C n te) (dXf K a x C n de) := fun g σ H ρ Ω P PX Q hG R p q qx =>
  h g σ H ρ Ω _ PX _ hG R p (fun t Ω1 v H1 ⟨u, e, ec, hl, p1⟩ k1 o1 d1 => by
    subst e
    obtain ⟨r, er, _⟩ := hG
    obtain ⟨ecls, dd, fs, ed, nn, eh, en, dl⟩ := o1.ex (cls, d, x) (by rw [er]; exact List.mem_cons_self)
    obtain ⟨w, hw, dw⟩ := lookup_vd en dl hl
    exact ⟨d1, by rw [← ec]; exact ecls, dd, fs, w, ed, eh, hw, q u Ω1 w H1 p1 k1 o1 dw⟩) qx
def clsV : Tr → Option Value
  | .ty n => some (.type n)
  | .obj a => some (.ref a)
  | _ => none
/-- isinstance(e, c) in the suite -/
def dIsX (K : PySem.W.Frag) (a : Addr) (x : XV) : List Tr → Om → PT' → Prop := fun us Ω P => ∃ c cv b, us = [.obj a, c] ∧ clsV c = some cv ∧ PySem.W.kitOne K (.ref (He.ga K x.cls)) cv = some b ∧ P (.bl b) Ω
theorem sim_isX {a C : Addr} {cls : Value} {d : Option Addr} {x : XV} {ta : TA} {da : DA} (h : SimA K (GX G cls d x) E ta da) : SimE K (GX G cls d x) E (tCB (rIsXC K a C cls d) ta) (fun ρ Ω P PX => da ρ Ω (fun us Ω1 => He.ga K x.cls = C ∧ dIsX K a x us Ω1 P) PX) := fun g σ H ρ Ω P PX Q hG R p q qx =>
  h g σ H ρ Ω _ PX _ hG R p (fun us Ω1 vs H1 ⟨ec, c, cv, b, e, hc, hk, p1⟩ k1 o1 d1 => by
    subst e
    obtain ⟨v, _, rfl, dv, u, _, rfl, du, rfl⟩ := d1
    obtain ⟨r, er, _⟩ := hG
    obtain ⟨ecls, dd, fs, ed, nn, eh, en, dl⟩ := o1.ex (cls, d, x) (by rw [er]; exact List.mem_cons_self)
    obtain rfl : v = .ref a := dv
    have hcv : ClsV u cv := by
      cases c with
      | ty n => cases hc; rw [show u = _ from du]; exact .ty n
      | obj b => cases hc; rw [show u = _ from du]; exact .own b
      | _ => cases hc
    exact ⟨dd, u, cv, b, fs, by rw [← ec]; exact ecls, ed, rfl, hcv, by rw [← ec]; exact hk, eh, q _ Ω1 _ H1 p1 k1 o1 rfl⟩) qx
theorem sim_ref {a : Addr} : SimE K G E (tC (.ref a)) (dC (.obj a)) := fun g σ H ρ Ω P PX Q _ R p q _ => q _ Ω _ H p .refl R.om rfl
def flatK : Tr → Bool
  | .non => true
  | .bl _ => true
  | .int _ => true
  | .str _ => true
  | _ => false
theorem vdl_flat {dr : Option (Addr × Addr)} {F : Addr → Prop} {H : Hp} : ∀ {us : List Tr}, us.all flatK = true → VDL K dr F H (us.map toV) us
  | [], _ => rfl
  | t :: ts, hf => by
    have hf' := Bool.and_eq_true_iff.mp (show (flatK t && ts.all flatK) = true from hf)
    refine ⟨_, _, rfl, ?_, vdl_flat hf'.2⟩
    cases t with
    | non => rfl
    | bl b => rfl
    | int b => rfl
    | str b => rfl
    | _ => cases (show false = true from hf'.1)
theorem sim_const {a : Addr} {us : List Tr} {xs : List V} (hc : ∀ H, SqT K H a xs) (hx : xs = us.map toV) (hf : us.all flatK = true) (hz : us.length ≤ 1000) : SimE K G E (tC (.ref a)) (dC (.tup us)) := fun g σ H ρ Ω P PX Q _ R p q _ =>
  q _ Ω _ H p .refl R.om ⟨a, xs, rfl, .inr ⟨hc, by
    subst hx
    rw [List.all_map, List.all_eq_true]
    intro t ht
    have := List.all_eq_true.mp hf t ht
    cases t <;> first | rfl | cases (show false = true from this)⟩, by subst hx; exact vdl_flat hf, by omega⟩
def dIsN (f : Bool → Bool) : Tr → Tr → Om → PT' → Prop := fun x y Ω P => y = .non ∧ P (.bl (f (isNonT x))) Ω
theorem simr_isN : SimR K rIsN (dIsN fun b => b) := fun g H Ω x y tx ty P Q o d1 d2 ⟨e, p⟩ q => by
  subst e
  exact ⟨d2, by rw [vd_non d1]; exact q _ Ω _ H p .refl o rfl⟩
theorem simr_notN : SimR K rNotN (dIsN fun b => !b) := fun g H Ω x y tx ty P Q o d1 d2 ⟨e, p⟩ q => by
  subst e
  exact ⟨d2, by rw [vd_non d1]; exact q _ Ω _ H p .refl o rfl⟩
def isBT (b : Bool) : Tr → Bool
  | .bl c => decide (c = b)
  | _ => false
def dIsB : Tr → Tr → Om → PT' → Prop := fun x y Ω P => ∃ b : Bool, y = .bl b ∧ (kindT x).isSome = true ∧ P (.bl (isBT b x)) Ω
theorem simr_isB : SimR K rIsBx dIsB := fun g H Ω x y tx ty P Q o d1 d2 ⟨b, e, hk, p⟩ q => by
  subst e
  have fin : okIs x = true → decide (x = .bl b) = isBT b tx → rIsBx x y H Q := fun h1 h2 => ⟨b, d2, h1, by rw [h2]; exact q _ Ω _ H p .refl o rfl⟩
  cases tx with
  | non => rw [show x = _ from d1] at fin ⊢; exact fin rfl rfl
  | bl c => rw [show x = _ from d1] at fin ⊢; exact fin rfl (by simp [isBT])
  | int c => rw [show x = _ from d1] at fin ⊢; exact fin rfl rfl
  | str c => rw [show x = _ from d1] at fin ⊢; exact fin rfl rfl
  | lst ts => obtain ⟨a, xs, rfl, _⟩ := d1; exact fin rfl rfl
  | tup ts => obtain ⟨a, xs, rfl, _⟩ := d1; exact fin rfl rfl
  | dic ks ts => obtain ⟨a, xs, rfl, _⟩ := d1; exact fin rfl rfl
  | _ => cases hk
def inT (x : Tr) (ts : List Tr) : Bool := ts.any fun t => eqV (toV t) (toV x)
def dIn' (neg : Bool) : Tr → Tr → Om → PT' → Prop := fun x y Ω P => ∃ ts, asS y Ω = some ts ∧ flatK x = true ∧ ts.all flatK = true ∧ P (.bl (if neg then !inT x ts else inT x ts)) Ω
theorem flatK_V {t : Tr} (h : flatK t = true) : flatT t = true ∧ flatV (toV t) = true := by
  cases t <;> first | exact ⟨rfl, rfl⟩ | cases (show false = true from h)
theorem vdl_flatV {dr : Option (Addr × Addr)} {F : Addr → Prop} {H : Hp} : ∀ {xs : List V} {ts : List Tr}, VDL K dr F H xs ts → ts.all flatK = true → xs = ts.map toV
  | _, [], d, _ => d
  | _, t :: ts, d, h2 => by
    obtain ⟨v, vs, rfl, h, k⟩ := d
    have h2' := Bool.and_eq_true_iff.mp (show (flatK t && ts.all flatK) = true from h2)
    rw [List.map_cons, ← vdl_flatV k h2'.2, vd_flat h (flatK_V h2'.1).1]
theorem simr_in {neg : Bool} : SimR K (rIn K neg) (dIn' neg) := fun g H Ω x y tx ty P Q o d1 d2 ⟨ts, e, h1, h2, p⟩ q => by
  obtain ⟨a, xs, rfl, s, dl, z⟩ := at_S o d2 e
  obtain rfl := vd_flat d1 (flatK_V h1).1
  have ex : xs = ts.map toV := vdl_flatV dl h2
  refine ⟨a, xs, rfl, s, (flatK_V h1).2, ?_, ?_⟩
  · rw [ex, List.all_map, List.all_eq_true]
    exact fun t ht => (flatK_V (List.all_eq_true.mp h2 t ht)).2
  · have ei : inV (toV tx) xs = inT tx ts := by
      unfold inV inT
      rw [ex, List.any_map]
      rfl
    rw [ei]
    exact q _ Ω _ H p .refl o rfl
/-- isinstance(x, (A, B, ..)) -/
def dIsiT : List Tr → Om → PT' → Prop := fun us Ω P => ∃ x ns, us = [x, .tup (ns.map Tr.ty)] ∧ ns ≠ [] ∧ (kindT x).isSome = true ∧ (∀ n ∈ ns, n ∈ tyNames) ∧ P (.bl (ns.any fun n => isT x n)) Ω
theorem clsv_all {dr : Option (Addr × Addr)} {F : Addr → Prop} {H : Hp} : ∀ {xs : List V} {ns : List String}, VDL K dr F H xs (ns.map Tr.ty) → Paired ClsV xs (ns.map Value.type)
  | xs, [], d => by rw [show xs = [] from d]; exact .nil
  | xs, n :: ns, d => by
    obtain ⟨w, ws, rfl, h1, h2⟩ := d
    rw [show w = _ from h1]
    exact .cons (.ty n) (clsv_all h2)
theorem kit_all {x : Tr} {k : String} (ek : kindT x = some k) : ∀ {ns : List String}, (∀ n ∈ ns, n ∈ tyNames) → PySem.W.kitAny K (.type k) (ns.map Value.type) = some (ns.any fun n => isT x n)
  | [], _ => rfl
  | n :: ns, hn => by
    have e1 : PySem.W.kitOne K (.type k) (.type n) = some (isT x n) := by
      have := kit_known k (kind_mem ek) n (hn n List.mem_cons_self)
      unfold isT
      rw [ek]
      exact kit_ty this
    refine kitAny_cons e1 (fun hb => ?_) fun hb => by simp [hb]
    rw [show ((n :: ns).any fun n => isT x n) = (ns.any fun n => isT x n) by rw [List.any_cons, hb]; rfl]
    exact kit_all ek fun m hm => hn m (List.mem_cons_of_mem _ hm)
theorem simc_isiT : SimC K (rIsiT K) dIsiT := fun g H Ω vs us P Q o d ⟨x, ns, e, hne, hk, hn, p⟩ q => by
  subst e
  obtain ⟨v, _, rfl, d1, u, _, rfl, d2, rfl⟩ := d
  obtain ⟨k, ek⟩ := Option.isSome_iff_exists.mp hk
  obtain ⟨a, xs, rfl, h, dl, _⟩ := d2
  rcases h with ⟨_, h⟩ | h
  · refine ⟨v, a, xs, .type k, ns.map Value.type, _, rfl, h, ?_, tyx_of d1 ek, ?_, q _ Ω _ H p .refl o rfl⟩
    · exact clsv_all dl
    · exact kit_all ek hn
  · exfalso
    cases ns with
    | nil => exact hne rfl
    | cons n ns =>
      obtain ⟨w, ws, rfl, h1, _⟩ := dl
      have h2 := h.2
      rw [show w = _ from h1] at h2
      cases h2
theorem sim_chain {r r' : R2} {d d' : Tr → Tr → Om → PT' → Prop} {ta tb tc : TE} {da db dc : DE} (hr : SimR K r d) (hr' : SimR K r' d') (ha : SimE K G E ta da) (hb : SimE K G E tb db) (hc : SimE K G E tc dc) : SimE K G E (tChain r r' ta tb tc) (dChain d d' da db dc) := fun g σ H ρ Ω P PX Q hG R p q qx =>
  ha g σ H ρ Ω _ PX _ hG R p (fun x Ω1 v H1 p1 k1 o1 d1 => hb g σ H1 ρ Ω1 _ PX _ hG (R.keep k1 o1) p1 (fun y Ω2 u H2 p2 k2 o2 d2 => hr g H2 Ω2 v u x y _ _ o2 (d1.keep k2) d2 p2 (fun z Ω3 zz H3 ⟨b, ez, p3⟩ k3 o3 d3 => by
    subst ez
    refine ⟨b, d3, ?_⟩
    have kk := (k1.trans k2).trans k3
    by_cases hb' : b = true
    · rw [if_pos hb'] at p3 ⊢
      exact hc g σ H3 ρ Ω3 _ PX _ hG (R.keep kk o3) p3 (fun w Ω4 ww H4 p4 k4 o4 d4 => hr' g H4 Ω4 u ww y w P Q o4 (d2.keep (k3.trans k4)) d4 p4 (q.at (kk.trans k4))) (qx.at kk)
    · rw [if_neg hb'] at p3 ⊢
      exact q _ Ω3 _ H3 p3 kk o3 rfl)) (qx.at k1)) qx
/-! ### readings of written trees -/
theorem kindT_non  : kindT .non = some "NoneType" := rfl
theorem isNonT_non  : isNonT .non = true := rfl
theorem flatT_non  : flatT .non = true := rfl
theorem flatK_non  : flatK .non = true := rfl
theorem isBT_non_true  : isBT true .non = false := rfl
theorem isBT_non_false  : isBT false .non = false := rfl
theorem toV_non  : toV Tr.non = V.non := rfl
theorem ofV_non  : ofV V.non = Tr.non := rfl
theorem keyT_non  : keyT .non = none := rfl
theorem isT_non_int  : isT .non "int" = false := show isK "NoneType" "int" = false from by decide +kernel
theorem isT_non_bool  : isT .non "bool" = false := show isK "NoneType" "bool" = false from by decide +kernel
theorem isT_non_str  : isT .non "str" = false := show isK "NoneType" "str" = false from by decide +kernel
theorem isT_non_list  : isT .non "list" = false := show isK "NoneType" "list" = false from by decide +kernel
theorem isT_non_tuple  : isT .non "tuple" = false := show isK "NoneType" "tuple" = false from by decide +kernel
theorem isT_non_dict  : isT .non "dict" = false := show isK "NoneType" "dict" = false from by decide +kernel
theorem kindT_bl {b : Bool} : kindT (.bl b) = some "bool" := rfl
theorem isNonT_bl {b : Bool} : isNonT (.bl b) = false := rfl
theorem flatT_bl {b : Bool} : flatT (.bl b) = true := rfl
theorem flatK_bl {b : Bool} : flatK (.bl b) = true := rfl
theorem toV_bl {b : Bool} : toV (Tr.bl b) = (V.bl b) := rfl
theorem ofV_bl {b : Bool} : ofV (V.bl b) = (Tr.bl b) := rfl
theorem keyT_bl {b : Bool} : keyT (.bl b) = none := rfl
theorem isT_bl_int {b : Bool} : isT (.bl b) "int" = true := show isK "bool" "int" = true from by decide +kernel
theorem isT_bl_bool {b : Bool} : isT (.bl b) "bool" = true := show isK "bool" "bool" = true from by decide +kernel
theorem isT_bl_str {b : Bool} : isT (.bl b) "str" = false := show isK "bool" "str" = false from by decide +kernel
theorem isT_bl_list {b : Bool} : isT (.bl b) "list" = false := show isK "bool" "list" = false from by decide +kernel
theorem isT_bl_tuple {b : Bool} : isT (.bl b) "tuple" = false := show isK "bool" "tuple" = false from by decide +kernel
theorem isT_bl_dict {b : Bool} : isT (.bl b) "dict" = false := show isK "bool" "dict" = false from by decide +kernel
theorem kindT_int {i : Int} : kindT (.int i) = some "int" := rfl
theorem isNonT_int {i : Int} : isNonT (.int i) = false := rfl
theorem flatT_int {i : Int} : flatT (.int i) = true := rfl
theorem flatK_int {i : Int} : flatK (.int i) = true := rfl
theorem isBT_int_true {i : Int} : isBT true (.int i) = false := rfl
theorem isBT_int_false {i : Int} : isBT false (.int i) = false := rfl
theorem toV_int {i : Int} : toV (Tr.int i) = (V.int i) := rfl
theorem ofV_int {i : Int} : ofV (V.int i) = (Tr.int i) := rfl
theorem keyT_int {i : Int} : keyT (.int i) = some (.inl i) := rfl
theorem isT_int_int {i : Int} : isT (.int i) "int" = true := show isK "int" "int" = true from by decide +kernel
theorem isT_int_bool {i : Int} : isT (.int i) "bool" = false := show isK "int" "bool" = false from by decide +kernel
theorem isT_int_str {i : Int} : isT (.int i) "str" = false := show isK "int" "str" = false from by decide +kernel
theorem isT_int_list {i : Int} : isT (.int i) "list" = false := show isK "int" "list" = false from by decide +kernel
theorem isT_int_tuple {i : Int} : isT (.int i) "tuple" = false := show isK "int" "tuple" = false from by decide +kernel
theorem isT_int_dict {i : Int} : isT (.int i) "dict" = false := show isK "int" "dict" = false from by decide +kernel
theorem kindT_str {x : Str} : kindT (.str x) = some "str" := rfl
theorem isNonT_str {x : Str} : isNonT (.str x) = false := rfl
theorem flatT_str {x : Str} : flatT (.str x) = true := rfl
theorem flatK_str {x : Str} : flatK (.str x) = true := rfl
theorem isBT_str_true {x : Str} : isBT true (.str x) = false := rfl
theorem isBT_str_false {x : Str} : isBT false (.str x) = false := rfl
theorem toV_str {x : Str} : toV (Tr.str x) = (V.str x) := rfl
theorem ofV_str {x : Str} : ofV (V.str x) = (Tr.str x) := rfl
theorem keyT_str {x : Str} : keyT (.str x) = some (.inr x) := rfl
theorem isT_str_int {x : Str} : isT (.str x) "int" = false := show isK "str" "int" = false from by decide +kernel
theorem isT_str_bool {x : Str} : isT (.str x) "bool" = false := show isK "str" "bool" = false from by decide +kernel
theorem isT_str_str {x : Str} : isT (.str x) "str" = true := show isK "str" "str" = true from by decide +kernel
theorem isT_str_list {x : Str} : isT (.str x) "list" = false := show isK "str" "list" = false from by decide +kernel
theorem isT_str_tuple {x : Str} : isT (.str x) "tuple" = false := show isK "str" "tuple" = false from by decide +kernel
theorem isT_str_dict {x : Str} : isT (.str x) "dict" = false := show isK "str" "dict" = false from by decide +kernel
theorem kindT_lst {ts : List Tr} : kindT (.lst ts) = some "list" := rfl
theorem isNonT_lst {ts : List Tr} : isNonT (.lst ts) = false := rfl
theorem flatT_lst {ts : List Tr} : flatT (.lst ts) = false := rfl
theorem flatK_lst {ts : List Tr} : flatK (.lst ts) = false := rfl
theorem isBT_lst_true {ts : List Tr} : isBT true (.lst ts) = false := rfl
theorem isBT_lst_false {ts : List Tr} : isBT false (.lst ts) = false := rfl
theorem lenT_lst {ts : List Tr} {Ω : Om} : lenT (.lst ts) Ω = some ts.length := rfl
theorem keyT_lst {ts : List Tr} : keyT (.lst ts) = none := rfl
theorem isT_lst_int {ts : List Tr} : isT (.lst ts) "int" = false := show isK "list" "int" = false from by decide +kernel
theorem isT_lst_bool {ts : List Tr} : isT (.lst ts) "bool" = false := show isK "list" "bool" = false from by decide +kernel
theorem isT_lst_str {ts : List Tr} : isT (.lst ts) "str" = false := show isK "list" "str" = false from by decide +kernel
theorem isT_lst_list {ts : List Tr} : isT (.lst ts) "list" = true := show isK "list" "list" = true from by decide +kernel
theorem isT_lst_tuple {ts : List Tr} : isT (.lst ts) "tuple" = false := show isK "list" "tuple" = false from by decide +kernel
theorem isT_lst_dict {ts : List Tr} : isT (.lst ts) "dict" = false := show isK "list" "dict" = false from by decide +kernel
theorem kindT_tup {ts : List Tr} : kindT (.tup ts) = some "tuple" := rfl
theorem isNonT_tup {ts : List Tr} : isNonT (.tup ts) = false := rfl
theorem flatT_tup {ts : List Tr} : flatT (.tup ts) = false := rfl
theorem flatK_tup {ts : List Tr} : flatK (.tup ts) = false := rfl
theorem isBT_tup_true {ts : List Tr} : isBT true (.tup ts) = false := rfl
theorem isBT_tup_false {ts : List Tr} : isBT false (.tup ts) = false := rfl
theorem lenT_tup {ts : List Tr} {Ω : Om} : lenT (.tup ts) Ω = some ts.length := rfl
theorem keyT_tup {ts : List Tr} : keyT (.tup ts) = none := rfl
theorem isT_tup_int {ts : List Tr} : isT (.tup ts) "int" = false := show isK "tuple" "int" = false from by decide +kernel
theorem isT_tup_bool {ts : List Tr} : isT (.tup ts) "bool" = false := show isK "tuple" "bool" = false from by decide +kernel
theorem isT_tup_str {ts : List Tr} : isT (.tup ts) "str" = false := show isK "tuple" "str" = false from by decide +kernel
theorem isT_tup_list {ts : List Tr} : isT (.tup ts) "list" = false := show isK "tuple" "list" = false from by decide +kernel
theorem isT_tup_tuple {ts : List Tr} : isT (.tup ts) "tuple" = true := show isK "tuple" "tuple" = true from by decide +kernel
theorem isT_tup_dict {ts : List Tr} : isT (.tup ts) "dict" = false := show isK "tuple" "dict" = false from by decide +kernel
theorem kindT_dic {ks : List Key} {ts : List Tr} : kindT (.dic ks ts) = some "dict" := rfl
theorem isNonT_dic {ks : List Key} {ts : List Tr} : isNonT (.dic ks ts) = false := rfl
theorem flatT_dic {ks : List Key} {ts : List Tr} : flatT (.dic ks ts) = false := rfl
theorem flatK_dic {ks : List Key} {ts : List Tr} : flatK (.dic ks ts) = false := rfl
theorem isBT_dic_true {ks : List Key} {ts : List Tr} : isBT true (.dic ks ts) = false := rfl
theorem isBT_dic_false {ks : List Key} {ts : List Tr} : isBT false (.dic ks ts) = false := rfl
theorem lenT_dic {ks : List Key} {ts : List Tr} {Ω : Om} : lenT (.dic ks ts) Ω = some ts.length := rfl
theorem keyT_dic {ks : List Key} {ts : List Tr} : keyT (.dic ks ts) = none := rfl
theorem isT_dic_int {ks : List Key} {ts : List Tr} : isT (.dic ks ts) "int" = false := show isK "dict" "int" = false from by decide +kernel
theorem isT_dic_bool {ks : List Key} {ts : List Tr} : isT (.dic ks ts) "bool" = false := show isK "dict" "bool" = false from by decide +kernel
theorem isT_dic_str {ks : List Key} {ts : List Tr} : isT (.dic ks ts) "str" = false := show isK "dict" "str" = false from by decide +kernel
theorem isT_dic_list {ks : List Key} {ts : List Tr} : isT (.dic ks ts) "list" = false := show isK "dict" "list" = false from by decide +kernel
theorem isT_dic_tuple {ks : List Key} {ts : List Tr} : isT (.dic ks ts) "tuple" = false := show isK "dict" "tuple" = false from by decide +kernel
theorem isT_dic_dict {ks : List Key} {ts : List Tr} : isT (.dic ks ts) "dict" = true := show isK "dict" "dict" = true from by decide +kernel
theorem kindT_obj {a : Addr} : kindT (.obj a) = none := rfl
theorem isNonT_obj {a : Addr} : isNonT (.obj a) = false := rfl
theorem flatT_obj {a : Addr} : flatT (.obj a) = false := rfl
theorem flatK_obj {a : Addr} : flatK (.obj a) = false := rfl
theorem isBT_obj_true {a : Addr} : isBT true (.obj a) = false := rfl
theorem isBT_obj_false {a : Addr} : isBT false (.obj a) = false := rfl
theorem keyT_obj {a : Addr} : keyT (.obj a) = none := rfl
theorem kindT_drw  : kindT .drw = none := rfl
theorem isNonT_drw  : isNonT .drw = false := rfl
theorem flatT_drw  : flatT .drw = false := rfl
theorem flatK_drw  : flatK .drw = false := rfl
theorem isBT_drw_true  : isBT true .drw = false := rfl
theorem isBT_drw_false  : isBT false .drw = false := rfl
theorem keyT_drw  : keyT .drw = none := rfl
theorem kindT_ty {n : String} : kindT (.ty n) = none := rfl
theorem isNonT_ty {n : String} : isNonT (.ty n) = false := rfl
theorem flatT_ty {n : String} : flatT (.ty n) = true := rfl
theorem flatK_ty {n : String} : flatK (.ty n) = false := rfl
theorem isBT_ty_true {n : String} : isBT true (.ty n) = false := rfl
theorem isBT_ty_false {n : String} : isBT false (.ty n) = false := rfl
theorem toV_ty {n : String} : toV (Tr.ty n) = (V.ty n) := rfl
theorem ofV_ty {n : String} : ofV (V.ty n) = (Tr.ty n) := rfl
theorem keyT_ty {n : String} : keyT (.ty n) = none := rfl
theorem asD_dic {ks : List Key} {ts : List Tr} {Ω : Om} : asD (.dic ks ts) Ω = some (ks, ts) := rfl
theorem isBT_bl {b c : Bool} : isBT b (.bl c) = decide (c = b) := rfl
theorem dAddG_int {i j : Int} {Ω : Om} {P : PT'} : dAddG (.int i) (.int j) Ω P = P (.int (i + j)) Ω := rfl
theorem dAddG_str {a b : Str} {Ω : Om} {P : PT'} : dAddG (.str a) (.str b) Ω P = (a.length + b.length ≤ sizeLine ∧ P (.str (a ++ b)) Ω) := rfl
theorem dAddG_tup {xs ys : List Tr} {Ω : Om} {P : PT'} : dAddG (.tup xs) (.tup ys) Ω P = (xs.length + ys.length ≤ 1000000 ∧ P (.tup (xs ++ ys)) Ω) := rfl
theorem dAddG_lst_lst {xs : List Tr} {ys : List Tr} {Ω : Om} {P : PT'} : dAddG (.lst xs) (.lst ys) Ω P = ∃ us ws, asL (.lst xs) Ω = some us ∧ asL (.lst ys) Ω = some ws ∧ us.length + ws.length ≤ 1000000 ∧ lstNew (us ++ ws) Ω P := rfl
theorem dAddG_lst_obj {xs : List Tr} {b : Addr} {Ω : Om} {P : PT'} : dAddG (.lst xs) (.obj b) Ω P = ∃ us ws, asL (.lst xs) Ω = some us ∧ asL (.obj b) Ω = some ws ∧ us.length + ws.length ≤ 1000000 ∧ lstNew (us ++ ws) Ω P := rfl
theorem dAddG_obj_lst {a : Addr} {ys : List Tr} {Ω : Om} {P : PT'} : dAddG (.obj a) (.lst ys) Ω P = ∃ us ws, asL (.obj a) Ω = some us ∧ asL (.lst ys) Ω = some ws ∧ us.length + ws.length ≤ 1000000 ∧ lstNew (us ++ ws) Ω P := rfl
theorem dAddG_obj_obj {a : Addr} {b : Addr} {Ω : Om} {P : PT'} : dAddG (.obj a) (.obj b) Ω P = ∃ us ws, asL (.obj a) Ω = some us ∧ asL (.obj b) Ω = some ws ∧ us.length + ws.length ≤ 1000000 ∧ lstNew (us ++ ws) Ω P := rfl
theorem dSlG_tup {ts : List Tr} {lo hi : Option Int} {Ω : Om} {P : PT'} : dSlG (.tup ts) lo hi Ω P = P (.tup (cutT ts lo hi)) Ω := rfl
theorem dSlG_str {z : Str} {lo hi : Option Int} {Ω : Om} {P : PT'} : dSlG (.str z) lo hi Ω P = (z.length ≤ sizeLine ∧ P (.str (cutS z lo hi)) Ω) := rfl
theorem dSlG_lst {xs : List Tr} {lo hi : Option Int} {Ω : Om} {P : PT'} : dSlG (.lst xs) lo hi Ω P = ∃ ts, asL (.lst xs) Ω = some ts ∧ (ts.length ≤ 1000000 → lstNew (cutT ts lo hi) Ω P) := rfl
theorem dSlG_obj {a : Addr} {lo hi : Option Int} {Ω : Om} {P : PT'} : dSlG (.obj a) lo hi Ω P = ∃ ts, asL (.obj a) Ω = some ts ∧ (ts.length ≤ 1000000 → lstNew (cutT ts lo hi) Ω P) := rfl
theorem tyN_int : (("int" : String) ∈ tyNames) = True := eq_true (by decide)
theorem tyN_bool : (("bool" : String) ∈ tyNames) = True := eq_true (by decide)
theorem tyN_str : (("str" : String) ∈ tyNames) = True := eq_true (by decide)
theorem tyN_list : (("list" : String) ∈ tyNames) = True := eq_true (by decide)
theorem tyN_tuple : (("tuple" : String) ∈ tyNames) = True := eq_true (by decide)
theorem tyN_dict : (("dict" : String) ∈ tyNames) = True := eq_true (by decide)
/-! ### the draws, by the promises that stand -/
theorem of_aft {g : Gh} {H H' : Hp} {Ω : Om} {d s : Addr} (o : OmOk K g H Ω) (e : g.dr = some (d, s)) (a : Aft d s H H') : Keep g H Ω H' Ω ∧ OmOk K g H' Ω := by
  have hs : Ω s = none := by
    obtain ⟨_, _, _, _, _, _, _, _, h7, _⟩ := o.dr d s e
    exact h7
  have nx : ∀ b, (∀ d, g.dr ≠ some (d, b)) → b ≠ s := fun b h z => h d (by rw [z]; exact e)
  have nc : ∀ b, Ω b ≠ none → b ≠ s := fun b h z => h (by rw [z]; exact hs)
  have k : Keep g H Ω H' Ω := fun b u h hd q => ⟨a.kp b u (nx b hd) q, h⟩
  have np : ¬ g.pr s := by
    obtain ⟨_, _, _, _, _, _, _, _, _, _, _, p, _⟩ := o.dr d s e
    exact p
  refine ⟨k, fun d' s' q => ?_, fun b c q => ⟨(o.ce b c q).1, ?_⟩, fun p hp => (o.ex p hp).keep k, fun b hb => ?_⟩
  · rw [e] at q
    cases q
    exact (o.dr d s e).imp a.dr.st (fun b u hb _ q => a.kp b u hb q) fun _ h _ => h
  · obtain ⟨u, hu⟩ := (o.ce b c q).2.tracked
    have hb := nc b (by rw [q]; simp)
    exact (o.ce b c q).2.imp (by rw [a.kp b u hb hu, hu]) fun b' o' f q' => ⟨f, a.kp b' o' (nx b' f.2.1) q'⟩
  · obtain ⟨u, hu⟩ := o.pt b hb
    exact ⟨u, a.kp b u (fun z => np (z ▸ hb)) hu⟩
end
end LT

namespace LT
open PySem PySem.Spec PyProof.Rows L2 L2H LL
section
variable {prog : Program} {w : World} {A : Around} {E : Value → Shared → Prop} {s : Shared} {l : Addr} {its : List Value} {ns : List Int}
theorem min_intTup {xs : Array (Int × Tok)} {Q : Value → Shared → Prop} (hh : A.handled = none) (hl : s.heap.IsTuple l (intItems xs)) (hne : 0 < xs.size)
    (h : ∀ v h' tk, (intItems xs)[argBest (fun i j => decide (numAt xs i < numAt xs j)) (xs.size - 1)]? = some v → (∀ b o, s.heap.get? b = some o → h'.get? b = some o) → Q v { s with heap := h', toks := tk }) :
    wpAny (model prog w) A (call (.builtin "min") [.ref l]) Q E s := by
  have hlt : l < s.heap.objs.size := by obtain ⟨_, e, _⟩ := hl; exact Heap.lt_size e
  refine call_min_walk (wpAny_pyIter_tuple hl ?_)
  refine ⟨_, [_, l], [_], _, _, _, _, rfl, Walks.tuple (A := A.in1) hh _ l (Nat.ne_of_lt hlt) (intItems xs), ⟨⟨_, Heap.get?_push_size _ rfl, rfl, rfl⟩, hl.push _⟩, fun c hc => ?_, by simpa [intItems] using hne, CmpOf.ints_lt (numAt xs) (fun _ _ => intItems_at), fun v h' tk hP hk => ?_⟩
  · show c < (s.heap.push _).objs.size
    rw [Heap.size_push]
    rcases List.mem_cons.mp hc with rfl | hc
    · exact Nat.lt_succ_self _
    · rcases List.mem_cons.mp hc with rfl | hc
      · exact Nat.lt_succ_of_lt hlt
      · cases hc
  · refine h v h' tk (by simpa [intItems] using hP) fun b o e => ?_
    refine hk b o (fun hm => ?_) (Heap.get?_push_of_some _ e)
    rcases List.mem_cons.mp hm with e1 | hm
    · exact absurd (e1 ▸ Heap.lt_size e) (Nat.lt_irrefl _)
    · cases hm
theorem min_rawT {Q : Value → Shared → Prop} (hh : A.handled = none) (hl : s.heap.IsTuple l its.toArray) (hi : IntsAre its ns) (hne : 0 < ns.length)
    (h : ∀ h' tk M t', (∀ b o, s.heap.get? b = some o → h'.get? b = some o) → M ∈ ns → (∀ a, a ∈ ns → M ≤ a) → Q (.int M t') { s with heap := h', toks := tk }) : wpAny (model prog w) A (call (.builtin "min") [.ref l]) Q E s := by
  obtain ⟨xs, e⟩ := hi.allInts.items
  have hn : numsOf (intItems xs).toList = ns := by rw [← e]; exact hi.numsOf
  rw [nums_intItems] at hn
  subst hn
  rw [e] at hl
  have hsz : 0 < xs.size := by simpa using hne
  refine min_intTup hh hl hsz fun v h' tk hv hk => ?_
  obtain ⟨t, rfl⟩ := intItems_at hv
  obtain ⟨h1, h2⟩ := argBest_lt (numAt xs) (xs.size - 1)
  refine h h' tk _ t hk ?_ fun a ha => ?_
  · rw [numAt_eq]; exact PySem.getD_mem (by rw [List.length_map, Array.length_toList]; omega)
  · obtain ⟨j, hj, rfl⟩ := mem_getD ha
    rw [List.length_map, Array.length_toList] at hj
    rw [← numAt_eq]; exact h2 j (by omega)
end
/-- min(t), t a list or a tuple of ints -/
def rMinS (K : PySem.W.Frag) : List V → Hp → VK → Prop := fun vs H Q => ∃ (a : Addr) (ns : List Int), vs = [V.ref a] ∧ (SqL K H a (ns.map V.int) ∨ SqT K H a (ns.map V.int)) ∧ 0 < ns.length ∧ ∀ m, m ∈ ns → (∀ y, y ∈ ns → m ≤ y) → Q (.int m) H
theorem cr_minS {X : Cx} (hc : X.calm = true) : CallR X (.builtin "min") (rMinS X.K) := by
  intro pins s σ H vs us Q I r h
  obtain ⟨a, ns, rfl, hs, hne, q⟩ := h
  rcases hs with hs | hs
  · exact cr_min hc pins s σ H _ us Q I r ⟨a, ns, rfl, hs, hne, q⟩
  · obtain ⟨its, rv, hl, _⟩ := I.tuple hs
    rw [Vals.ref1 r]
    exact min_rawT (I.ok.hd hc) hl rv.ints hne fun h' tk m t' hk h1 h2 => ⟨.int _, H, I.kept hk, ⟨_, rfl⟩, q m h1 h2⟩
def dMinS : List Tr → Om → PT' → Prop := fun us Ω P => ∃ (t : Tr) (ns : List Int), us = [t] ∧ asS t Ω = some (ns.map Tr.int) ∧ 0 < ns.length ∧ ∀ m, m ∈ ns → (∀ y, y ∈ ns → m ≤ y) → P (.int m) Ω
theorem simc_minS {K : PySem.W.Frag} : SimC K (rMinS K) dMinS := fun g H Ω vs us P Q o d ⟨t, ns, e, h, h0, p⟩ q => by
  subst e
  obtain ⟨v, _, rfl, d, rfl⟩ := d
  obtain ⟨a, xs, rfl, s, dl, _⟩ := at_S o d h
  rw [vdl_ints dl] at s
  exact ⟨a, ns, rfl, s, h0, fun m h1 h2 => q _ Ω _ H (p m h1 h2) .refl o rfl⟩
/-! ### [x] * n -/
def dRep : Tr → Tr → Om → PT' → Prop := fun x y Ω P => ∃ ts k, asL x Ω = some ts ∧ y = .int k ∧ -(2 ^ 63) ≤ k ∧ k < 2 ^ 63 ∧ ts.length * k.toNat ≤ 1000000 ∧ lstNew (List.replicate k.toNat ts).flatten Ω P
theorem VDL.rep {K : PySem.W.Frag} {dr : Option (Addr × Addr)} {F : Addr → Prop} {H : Hp} {xs : List V} {ts : List Tr} (d : VDL K dr F H xs ts) : ∀ n : Nat, VDL K dr F H (List.replicate n xs).flatten (List.replicate n ts).flatten
  | 0 => rfl
  | n + 1 => by
    rw [List.replicate_succ, List.replicate_succ, List.flatten_cons, List.flatten_cons]
    exact d.app _ (VDL.rep d n)
theorem simr_rep {K : PySem.W.Frag} : SimR K rRep dRep := fun g H Ω x y tx ty P Q o d1 d2 ⟨ts, k, e, e2, h1, h2, hz, p⟩ q => by
  subst e2
  obtain ⟨a, xs, rfl, _, hh, dl, _⟩ := at_L o d1 e
  refine ⟨a, k, xs, rfl, d2, hh, h1, h2, by rw [dl.len]; exact size_ok hz, fun l n => new_lst o (dl.rep _) ?_ p q n⟩
  have : ∀ m : Nat, (List.replicate m ts).flatten.length = ts.length * m := fun m => by
    induction m with
    | zero => simp
    | succ m ih => rw [List.replicate_succ, List.flatten_cons, List.length_append, ih, Nat.mul_succ, Nat.add_comm]
  rw [this]; exact hz
/-! ### loops -/
section
variable {dg : DG} {db : DS} {D : DN} {ρ : En} {Ω : Om}
theorem stay_of {t : Tr} {ts : List Tr} (h : asS t Ω = some ts) : stay t ts Ω := by
  cases t with
  | obj a =>
    have h' : cellL (Ω a) = some ts := h
    cases e : Ω a with
    | none => rw [e] at h'; cases h'
    | some c =>
      cases c with
      | lst us => rw [e] at h'; cases h'; exact e
      | _ => rw [e] at h'; cases h'
  | _ => trivial
/-- over a list or a tuple in slot i -/
theorem for_S {i : Nat} {t : Tr} {ts : List Tr} (ht : ρ[i]? = some (some t)) (hs : asS t Ω = some ts) (W : Nat → En → Om → Prop) (w0 : W 0 ρ Ω) (wst : ∀ i ρ' Ω', W i ρ' Ω' → stay t ts Ω')
    (step : ts.length ≤ 1000000 → ∀ i x ρ' Ω', ts[i]? = some x → W i ρ' Ω' → dg x ρ' Ω' (fun ρ2 Ω2 => db { D with nx := W (i + 1), ct := W (i + 1), bk := D.nx } ρ2 Ω2) nox) (fin : ∀ ρ' Ω', W ts.length ρ' Ω' → D.nx ρ' Ω') : dFor (diS (dVar i)) dg db D ρ Ω :=
  ⟨t, ht, ts, hs, fun hz => ⟨W, w0, wst, step hz, fin⟩⟩
/-- over any list or tuple -/
theorem for_Se {de : DE} {t : Tr} {ts : List Tr} {Ω1 : Om} (he : ∀ P : PT', P t Ω1 → de ρ Ω P (fun y Ω' => D.ex ρ y Ω')) (hs : asS t Ω1 = some ts) (W : Nat → En → Om → Prop) (w0 : W 0 ρ Ω1) (wst : ∀ i ρ' Ω', W i ρ' Ω' → stay t ts Ω')
    (step : ts.length ≤ 1000000 → ∀ i x ρ' Ω', ts[i]? = some x → W i ρ' Ω' → dg x ρ' Ω' (fun ρ2 Ω2 => db { D with nx := W (i + 1), ct := W (i + 1), bk := D.nx } ρ2 Ω2) nox) (fin : ∀ ρ' Ω', W ts.length ρ' Ω' → D.nx ρ' Ω') : dFor (diS de) dg db D ρ Ω :=
  he _ ⟨ts, hs, fun hz => ⟨W, w0, wst, step hz, fin⟩⟩
/-- over range(a, b) -/
theorem for_R2 {da : DA} {a b : Int} {Ω1 : Om} (he : ∀ P : List Tr → Om → Prop, P [.int a, .int b] Ω1 → da ρ Ω P (fun y Ω' => D.ex ρ y Ω')) (hb : -(2 ^ 62) ≤ a ∧ a < 2 ^ 62 ∧ -(2 ^ 62) ≤ b ∧ b < 2 ^ 62) (W : Nat → En → Om → Prop) (w0 : W 0 ρ Ω1)
    (step : ∀ (i : Nat) ρ' Ω', i < (b - a).toNat → W i ρ' Ω' → dg (.int (a + i)) ρ' Ω' (fun ρ2 Ω2 => db { D with nx := W (i + 1), ct := W (i + 1), bk := D.nx } ρ2 Ω2) nox) (fin : ∀ ρ' Ω', W (b - a).toNat ρ' Ω' → D.nx ρ' Ω') : dFor (diR2 da) dg db D ρ Ω :=
  he _ ⟨a, b, rfl, hb, W, w0, fun _ _ _ _ => trivial, fun i t ρ' Ω' e w => by
    have hi : i < (b - a).toNat := by have := (List.getElem?_eq_some_iff.mp e).1; rwa [rngT_len] at this
    rw [rngT_get hi] at e
    cases e
    exact step i ρ' Ω' hi w, fun ρ' Ω' w => fin ρ' Ω' (by rwa [rngT_len] at w)⟩
/-- over range(n) -/
theorem for_R1 {da : DA} {n : Int} {Ω1 : Om} (he : ∀ P : List Tr → Om → Prop, P [.int n] Ω1 → da ρ Ω P (fun y Ω' => D.ex ρ y Ω')) (hb : -(2 ^ 62) ≤ n ∧ n < 2 ^ 62) (W : Nat → En → Om → Prop) (w0 : W 0 ρ Ω1)
    (step : ∀ (i : Nat) ρ' Ω', i < n.toNat → W i ρ' Ω' → dg (.int (i : Int)) ρ' Ω' (fun ρ2 Ω2 => db { D with nx := W (i + 1), ct := W (i + 1), bk := D.nx } ρ2 Ω2) nox) (fin : ∀ ρ' Ω', W n.toNat ρ' Ω' → D.nx ρ' Ω') : dFor (diR1 da) dg db D ρ Ω :=
  he _ ⟨n, rfl, hb.1, hb.2, W, w0, fun _ _ _ _ => trivial, fun i t ρ' Ω' e w => by
    have hi : i < n.toNat := by have := (List.getElem?_eq_some_iff.mp e).1; rwa [rngT_len] at this
    rw [rngT_get hi, Int.zero_add] at e
    cases e
    exact step i ρ' Ω' hi w, fun ρ' Ω' w => fin ρ' Ω' (by rwa [rngT_len] at w)⟩
/-- the same, the number drawn -/
theorem for_R1X {da : DA} {R : Int → Prop} {Ω1 : Om} (he : ∀ P : List Tr → Om → Prop, (∀ n : Int, R n → P [.int n] Ω1) → da ρ Ω P (fun y Ω' => D.ex ρ y Ω')) (hb : ∀ n, R n → -(2 ^ 62) ≤ n ∧ n < 2 ^ 62) (W : Int → Nat → En → Om → Prop) (w0 : ∀ n, R n → W n 0 ρ Ω1)
    (step : ∀ n, R n → ∀ (i : Nat) ρ' Ω', i < n.toNat → W n i ρ' Ω' → dg (.int (i : Int)) ρ' Ω' (fun ρ2 Ω2 => db { D with nx := W n (i + 1), ct := W n (i + 1), bk := D.nx } ρ2 Ω2) nox) (fin : ∀ n, R n → ∀ ρ' Ω', W n n.toNat ρ' Ω' → D.nx ρ' Ω') : dFor (diR1 da) dg db D ρ Ω :=
  he _ fun n hn => ⟨n, rfl, (hb n hn).1, (hb n hn).2, W n, w0 n hn, fun _ _ _ _ => trivial, fun i t ρ' Ω' e w => by
    have hi : i < n.toNat := by have := (List.getElem?_eq_some_iff.mp e).1; rwa [rngT_len] at this
    rw [rngT_get hi, Int.zero_add] at e
    cases e
    exact step n hn i ρ' Ω' hi w, fun ρ' Ω' w => fin n hn ρ' Ω' (by rwa [rngT_len] at w)⟩
end
/-- a comprehension over a list or a tuple, each item with its value -/
theorem map_S {de : DE} {t : Tr} {ts : List Tr} {ρ : En} {Ω : Om} {dg : DG} {del : DE} {vs : List Nat} {P : PT'} {PX : PXt} (he : ∀ P : PT', P t Ω → de ρ Ω P PX) (hs : asS t Ω = some ts) (f : Tr → Tr)
    (hm : ∀ t ρ (P P' : En → Om → Prop), (∀ a b, P a b → P' a b) → dg t ρ Ω P nox → dg t ρ Ω P' nox) (hf : ∀ x ∈ ts, ∀ Q : PT', Q (f x) Ω → dg x (wipeT ρ vs) Ω (fun ρ2 Ω2 => del ρ2 Ω2 Q nox) nox) (h : lstNew (ts.map f) Ω P) : dLc (diS de) dg dYes del vs ρ Ω P PX :=
  he _ ⟨ts, hs, fun hz => by
    refine ⟨hz, fun i acc Ω' => Ω' = Ω ∧ acc = (ts.map f).take i, ⟨rfl, rfl⟩, fun i acc Ω' e => e.1 ▸ stay_of hs, ?_, ?_⟩
    · rintro i x acc Ω' hx ⟨rfl, rfl⟩
      refine hm _ _ _ _ (fun a b z => ?_) (hf x (List.mem_of_getElem? hx) (fun y Ω4 => Ω4 = Ω' ∧ (ts.map f).take i ++ [y] = (ts.map f).take (i + 1)) ⟨rfl, ?_⟩)
      · simpa [dYes] using z
      · rw [take_one (x := f x) (by rw [List.getElem?_map, hx]; rfl)]
    · rintro acc Ω' ⟨rfl, rfl⟩
      rw [show ts.length = (ts.map f).length by rw [List.length_map], List.take_length]
      exact h⟩
theorem mono_dName {i : Nat} {Ω : Om} : ∀ t ρ (P P' : En → Om → Prop), (∀ a b, P a b → P' a b) → dName i t ρ Ω P nox → dName i t ρ Ω P' nox := fun _ _ _ _ h p => h _ _ p
theorem atI_0 {α : Type} {a : α} {r : List α} : atI (a :: r) 0 = some a := atI_nat (j := 0) rfl
theorem atI_1 {α : Type} {a b : α} {r : List α} : atI (a :: b :: r) 1 = some b := atI_nat (j := 1) rfl
theorem atI_2 {α : Type} {a b c : α} {r : List α} : atI (a :: b :: c :: r) 2 = some c := atI_nat (j := 2) rfl
theorem atI_3 {α : Type} {a b c d : α} {r : List α} : atI (a :: b :: c :: d :: r) 3 = some d := atI_nat (j := 3) rfl
theorem atI_4 {α : Type} {a b c d e : α} {r : List α} : atI (a :: b :: c :: d :: e :: r) 4 = some e := atI_nat (j := 4) rfl
theorem atI_5 {α : Type} {a b c d e f : α} {r : List α} : atI (a :: b :: c :: d :: e :: f :: r) 5 = some f := atI_nat (j := 5) rfl
theorem atI_6 {α : Type} {a b c d e f g : α} {r : List α} : atI (a :: b :: c :: d :: e :: f :: g :: r) 6 = some g := atI_nat (j := 6) rfl
theorem atI_7 {α : Type} {a b c d e f g h : α} {r : List α} : atI (a :: b :: c :: d :: e :: f :: g :: h :: r) 7 = some h := atI_nat (j := 7) rfl
theorem atI_8 {α : Type} {a b c d e f g h i : α} {r : List α} : atI (a :: b :: c :: d :: e :: f :: g :: h :: i :: r) 8 = some i := atI_nat (j := 8) rfl
theorem atI_9 {α : Type} {a b c d e f g h i j : α} {r : List α} : atI (a :: b :: c :: d :: e :: f :: g :: h :: i :: j :: r) 9 = some j := atI_nat (j := 9) rfl
theorem exq {α : Type} {a : α} {p : α → Prop} : (∃ x, some a = some x ∧ p x) = p a := by simp
theorem stay_put {t : Tr} {ts : List Tr} {Ω : Om} {a : Addr} {c : Cell} (h : asS t Ω = some ts) (ha : Ω a = none) : stay t ts (put Ω a c) := by
  have s := stay_of h
  cases t with
  | obj b =>
    show put Ω a c b = _
    rw [put_ne (fun z => by rw [z] at s; rw [show Ω a = _ from s] at ha; cases ha)]
    exact s
  | _ => trivial
theorem asS_put {t : Tr} {ts : List Tr} {Ω : Om} {a : Addr} {c : Cell} (h : asS t Ω = some ts) (ha : Ω a = none) : asS t (put Ω a c) = some ts := by
  cases t with
  | obj b =>
    have s : Ω b = some (.lst ts) := stay_of h
    exact asS_obj (by rw [put_ne (fun z => by rw [z] at s; rw [s] at ha; cases ha)]; exact s)
  | _ => exact h
theorem asL_put {a : Addr} {ts : List Tr} {Ω : Om} : asL (.obj a) (put Ω a (.lst ts)) = some ts := asL_obj put_same
/-- the list that was made is handed back as data -/
theorem ret_new {D : DN} {ρ : En} {Ω : Om} {i : Nat} {a : Addr} {ts : List Tr} (h1 : ρ[i]? = some (some (.obj a))) (ha : Ω a = none) (q : D.rt (.lst ts) Ω) : dRetT i (dVar i) D ρ (put Ω a (.lst ts)) :=
  .inr ⟨a, ts, h1, put_same, .lst ts, by rw [List.getElem?_set_self (List.getElem?_eq_some_iff.mp h1).1], by rw [cut_put ha]; exact q⟩
/-- a list that was made, as data, ahead of what follows -/
theorem thaw_new {d : DS} {D : DN} {ρ : En} {Ω : Om} {i : Nat} {a : Addr} {ts : List Tr} (h1 : ρ[i]? = some (some (.obj a))) (ha : Ω a = none) (q : d D (ρ.set i (some (.lst ts))) Ω) : dThaw i d D ρ (put Ω a (.lst ts)) :=
  .inr ⟨a, ts, h1, put_same, by rw [cut_put ha]; exact q⟩
/-- a slice of a list or a tuple, as data -/
theorem slice_S {c : Tr} {us : List Tr} {lo hi : Option Int} {Ω : Om} {P : PT'} (h : c = .lst us ∨ c = .tup us) (q : ∀ d, (d = .lst (cutT us lo hi) ∨ d = .tup (cutT us lo hi)) → P d Ω) : dSlG c lo hi Ω P := by
  rcases h with rfl | rfl
  · exact ⟨us, rfl, fun _ => .inl (q _ (.inl rfl))⟩
  · exact q _ (.inr rfl)
theorem seq_asS {d : Tr} {us : List Tr} {Ω : Om} (h : d = .lst us ∨ d = .tup us) : asS d Ω = some us := by
  rcases h with rfl | rfl <;> rfl
theorem seq_stay {d : Tr} {us : List Tr} {Ω : Om} (h : d = .lst us ∨ d = .tup us) : stay d us Ω := by
  rcases h with rfl | rfl <;> trivial
theorem cutT_nat {us : List Tr} {f k : Nat} (hf : f ≤ us.length) : cutT us (some (f : Int)) (some (k : Int)) = (us.drop f).take (k - f) := by
  unfold cutT
  rw [HT.sIx_nat, HT.sIx_nat, Nat.min_eq_left hf]
  rcases Nat.le_total k us.length with h | h
  · rw [Nat.min_eq_left h]
  · rw [Nat.min_eq_right h, List.take_of_length_le (by rw [List.length_drop]; exact Nat.le_refl _), List.take_of_length_le (by rw [List.length_drop]; omega)]
/-- over something that is the items us, a list or a tuple, as data -/
theorem for_SX {dg : DG} {db : DS} {D : DN} {ρ : En} {Ω : Om} {de : DE} {us : List Tr} (he : ∀ P : PT', (∀ d, (d = .lst us ∨ d = .tup us) → P d Ω) → de ρ Ω P (fun y Ω' => D.ex ρ y Ω')) (W : Nat → En → Om → Prop) (w0 : W 0 ρ Ω)
    (step : us.length ≤ 1000000 → ∀ i x ρ' Ω', us[i]? = some x → W i ρ' Ω' → dg x ρ' Ω' (fun ρ2 Ω2 => db { D with nx := W (i + 1), ct := W (i + 1), bk := D.nx } ρ2 Ω2) nox) (fin : ∀ ρ' Ω', W us.length ρ' Ω' → D.nx ρ' Ω') : dFor (diS de) dg db D ρ Ω :=
  he _ fun d hd => ⟨us, seq_asS hd, fun hz => ⟨W, w0, fun _ _ _ _ => seq_stay hd, step hz, fin⟩⟩
theorem pg_tupK {X : Cx} {K : PySem.W.Frag} {pos : Pos} {es : List Expr} {k : Nat} {t : TGs} {n : Nat} (hK : X.K = K) (hc : X.calm = true) (h : PGs X es t) (h1 : (assignEach es X.env).length = n := by rfl) (h2 : List.findIdx? (fun x => x.1) (assignEach es X.env) = none := by rfl) : PG X (.Tuple es k pos) (gTup K n t) := hK ▸ pg_tup hc h h1 h2
theorem pi_seqK {X : Cx} {K : PySem.W.Frag} {tg l : Expr} {te : TE} (hK : X.K = K) (hl : PE X l te) : PI X tg l (iSeq K te) := hK ▸ LL.pi_seq hl
def MonoG (dg : DG) : Prop := ∀ t ρ Ω (P P' : En → Om → Prop), (∀ a b, P a b → P' a b) → dg t ρ Ω P nox → dg t ρ Ω P' nox
def MonoGs (dg : DGs) : Prop := ∀ t ρ Ω (P P' : En → Om → Prop), (∀ a b, P a b → P' a b) → dg t ρ Ω P nox → dg t ρ Ω P' nox
theorem mg_name {i : Nat} : MonoG (dName i) := fun _ _ _ _ _ h p => h _ _ p
theorem mg_nil : MonoGs dgNil := fun _ _ _ _ _ h p => ⟨p.1, h _ _ p.2⟩
theorem mg_cons {d : DG} {u : DGs} (hd : MonoG d) (hu : MonoGs u) : MonoGs (dgCons d u) := fun ts ρ Ω P P' h ⟨t, r, e, p⟩ => ⟨t, r, e, hd _ _ _ _ _ (fun a b z => hu _ _ _ _ _ h z) p⟩
theorem mg_tup {n : Nat} {u : DGs} (hu : MonoGs u) : MonoG (dTupG n u) := fun t ρ Ω P P' h ⟨ts, e, l, p⟩ => ⟨ts, e, l, hu _ _ _ _ _ h p⟩
/-! ### written dicts -/
section
variable {K : PySem.W.Frag} {G : List (Value × Option Addr × XV) → Prop} {E : EK}
theorem new_dic {g : Gh} {H : Hp} {Ω : Om} {D : Addr} {kvs : List (Key × V)} {us : List (Key × Tr)} {P : PT'} {Q : VK} {H0 : Hp} {Ω0 : Om} (o : OmOk K (g.with D) H Ω) (npr : ¬ g.pr D) (nd : ∀ d, g.dr ≠ some (d, D)) (e : H D = some (.dK kvs)) (d : KVD K g.dr (NM (g.with D) Ω) H kvs us) (hz : us.length ≤ 1000000) (k : Keep g H0 Ω0 H Ω) (n0 : H0 D = none) (h : dicNew us Ω P) (q : After K g H0 Ω0 P Q) : Q (.ref D) H := by
  have nΩ : Ω D = none := by
    cases e : Ω D with
    | none => rfl
    | some c => exact absurd (.inr rfl) (o.ce D c e).1
  have hlen := d.len
  have ez : (us.map (·.1)).zip (kvs.map (·.2)) = kvs := by rw [← d.1]; exact LT.zip_fst_snd kvs
  rcases h with h | h
  · exact q _ Ω _ H h k o.less ⟨D, kvs.map (·.2), rfl, ⟨nΩ, nd, npr⟩, by rw [ez]; exact e, d.2.less, by simp, by rw [List.length_map]; omega⟩
  · have kc : Keep g H0 Ω0 H (put Ω D (.dic (us.map (·.1)) (us.map (·.2)))) := fun b u hb hd e => ⟨(k b u hb hd e).1, by rw [put_ne (ne_of_none e n0)]; exact (k b u hb hd e).2⟩
    exact q _ _ _ H (h D nΩ) kc (o.toCell npr ⟨kvs.map (·.2), by rw [ez]; exact e, (show VDL K (g.with D).dr (NM (g.with D) Ω) H (kvs.map (·.2)) (us.map (·.2)) from d.2), by simp, by rw [List.length_map]; omega⟩) rfl
def dNewD : DE := fun _ Ω P _ => dicNew [] Ω P
theorem sim_newD : SimE K G E tDNewK dNewD := fun g σ H ρ Ω P PX Q _ R p q _ D nD =>
  new_dic (us := []) (R.om.more nD) (not_pr R.om nD) (R.om.nodr nD) upd_same ⟨rfl, rfl⟩ (by simp) (.new nD) nD p q
def dDisp1 (dk dv : DE) : DE := fun ρ Ω P PX => dk ρ Ω (fun y Ω1 => dv ρ Ω1 (fun z Ω2 => ∃ k, keyT y = some k ∧ dicNew [(k, z)] Ω2 P) nox) nox
theorem sim_disp1 {tk tv : TE} {dk dv : DE} (hk : SimE K G E tk dk) (hv : SimE K G E tv dv) : SimE K G E (tDisp [(tk, tv)]) (dDisp1 dk dv) := fun g σ H ρ Ω P PX Q hG R p q _ D nD => by
  have o1 : OmOk K (g.with D) (upd H D (.dK [])) Ω := R.om.more nD
  have k1 : Keep g H Ω (upd H D (.dK [])) Ω := .new nD
  have nd := R.om.nodr nD
  have nΩ : ∀ {H2 : Hp} {Ω2 : Om}, OmOk K (g.with D) H2 Ω2 → Ω2 D = none := fun {H2 Ω2} o => by
    cases e : Ω2 D with
    | none => rfl
    | some c => exact absurd (.inr rfl) (o.ce D c e).1
  have R1 : Rel K (g.with D) σ (upd H D (.dK [])) ρ Ω := ⟨o1, R.len, fun j u e => by
    obtain ⟨v, h1, h2⟩ := R.env j u e
    exact ⟨v, h1, (h2.more nD).keep (g := g.with D) k1⟩⟩
  refine hk (g.with D) σ _ ρ Ω _ _ _ hG R1 p (fun y Ω1 v H1 p1 k2 o2 d2 => ?_) AfterX.nox
  refine hv (g.with D) σ H1 ρ Ω1 _ _ _ hG (R1.keep k2 o2) p1 (fun z Ω2 u H2 ⟨k, ek, p2⟩ k3 o3 d3 => ?_) AfterX.nox
  have e1 : H1 D = some (.dK []) := (k2 D _ (nΩ o1) nd upd_same).1
  have e2 : H2 D = some (.dK []) := (k3 D _ (nΩ o2) nd e1).1
  refine ⟨e2, [(k, u)], by rw [vd_key d2 ek]; rfl, by simp, ?_⟩
  have kk : Keep g H Ω (upd H2 D (.dK (mergeK [] [(k, u)]))) Ω2 := ((k1.trans k2).trans k3).prot nD
  exact new_dic o3.prot (not_pr R.om nD) nd upd_same (us := [(k, z)]) ⟨rfl, .one d3.prot⟩ (by simp) kk nD p2 q
end
end LT
namespace LT
open PySem PySem.Spec PyProof.Rows L2 L2H LL
section
variable {K : PySem.W.Frag} {G : List (Value × Option Addr × XV) → Prop} {E : EK}
/-- try .. except C as n, its reading kept folded -/
def tTryAs (K : PySem.W.Frag) (c : Value) (i : Nat) (tb : WX → TS) (ts : Addr → Value → Option Addr → TS) (Wout : WX) : TS := fun D σ H => tb (wAs K c i ts Wout D) D σ H
theorem ps_tryT {X : Cx} {x n : Str} {c : Value} {i : Nat} {body suite : List Stmt} {b₀ : Stmt} {np pos pos' : Pos} {tb : WX → TS} {ts : Addr → Value → Option Addr → TS} {Wout : WX} (hs : X.stack = X.env :: X.outer) (hf : X.env.frame = some X.env.locals) (hN : X.N.Nodup) (hi : X.N[i]? = some n) (hln : X.env.kindOf n = some .local) (hc : Names X x c) (tk : Takes X Wout)
    (hb : ∀ (W : WX) (pn : List (Addr × Obj)) (xe : Value → Shared → Prop), Takes (X.tr pn xe) W → PassesOwn (model X.prog X.w) X.A X.env xe → PSs (X.tr pn xe) body (tb W))
    (hsu : ∀ (a : Addr) (oe : Obj) (cls : Value) (d : Option Addr) (pn : List (Addr × Obj)), Zc cls d oe → (∃ vs, oe.data = .fields vs) → PSs (X.suite a ((a, oe) :: pn)) (b₀ :: suite) (ts a cls d)) :
    PS X (.Try body [.ExceptHandler (some (.Name x np)) (some n) (b₀ :: suite) pos'] [] [] pos) (tTryAs X.K c i tb ts Wout) := ps_try_as hs hf hN hi hln hc tk hb hsu
theorem sim_tryT {c : Value} {i : Nat} {tb : WX → TS} {ts : Addr → Value → Option Addr → TS} {Wout : WX} {db : DS} {ds : Addr → XV → DS} (hE : ∀ σ cls d H, E σ cls d H = Wout cls d σ H) (hb : ∀ W : WX, SimS K G (WE W) (tb W) db)
    (hs : ∀ a cls d x, SimS K (GX G cls d x) (fun _ _ _ _ => False) (ts a cls d) (ds a x)) : SimS K G E (tTryAs K c i tb ts Wout) (dTry K c i db ds) := sim_try hE hb hs
theorem pickP {us : List Tr} {v : Int} {P : Tr → Prop} (h0 : 0 ≤ v) (h1 : v < us.length) (h : ∀ x ∈ us, P x) : ∃ x, L2.atI us v = some x ∧ P x := by
  obtain ⟨j, rfl⟩ := Int.eq_ofNat_of_zero_le h0
  have hj : j < us.length := by omega
  exact ⟨us[j], atI_nat (List.getElem?_eq_getElem hj), h _ (List.getElem_mem hj)⟩
end
end LT
namespace LT
open PySem PySem.Spec PyProof.Rows L2 L2H LL
section
variable {K : PySem.W.Frag} {G : List (Value × Option Addr × XV) → Prop} {E : EK}
/-- in a def that raises nothing: each exception is caught -/
def dTry0 (K : PySem.W.Frag) (c : Value) (i : Nat) (db : DS) (ds : Addr → XV → DS) : DS := fun DD ρ Ω => db { DD with ex := fun ρ' x Ω' => PySem.W.exmOne K (.ref (He.ga K x.cls)) c = some true ∧ ∀ a, ds a x { nx := fun ρ2 Ω2 => DD.nx (ρ2.set i none) Ω2, rt := DD.rt, bk := fun ρ2 Ω2 => DD.bk (ρ2.set i none) Ω2, ct := fun ρ2 Ω2 => DD.ct (ρ2.set i none) Ω2, ex := fun _ _ _ => False } (ρ'.set i (some (.obj a))) Ω' } ρ Ω
theorem sim_tryT0 {c : Value} {i : Nat} {tb : WX → TS} {ts : Addr → Value → Option Addr → TS} {db : DS} {ds : Addr → XV → DS} (hb : ∀ W : WX, SimS K G (WE W) (tb W) db)
    (hs : ∀ a cls d x, SimS K (GX G cls d x) (fun _ _ _ _ => False) (ts a cls d) (ds a x)) : SimS K G E (tTryAs K c i tb ts (fun _ _ _ _ => False)) (dTry0 K c i db ds) := fun g σ H ρ Ω D DD hG R p e => by
  refine hb _ g σ H ρ Ω D _ hG R p ⟨e.nx, e.rt, e.bk, e.ct, fun x ρ' Ω' σ' cls d H' ⟨eb, h1⟩ k R' xr => ?_⟩
  have ec : cls = .ref (He.ga K x.cls) := xr.1
  refine ⟨true, by rw [ec]; exact eb, fun hb' a na => ?_, fun hb' => by cases hb'⟩
  refine hs a cls d x (g.and (cls, d, x)) _ H' _ Ω' _ _ ⟨g.ex, rfl, hG⟩ ((R'.set (v := .ref a) (t := .obj a) rfl).and xr) (h1 a) ⟨fun ρ2 Ω2 σ2 H2 p2 k2 r2 => e.nx _ Ω2 _ H2 p2 (k.trans k2) r2.drop.none, fun t Ω2 v H2 p2 k2 o2 d2 => e.rt t Ω2 v H2 p2 (k.trans k2) o2.drop d2, fun ρ2 Ω2 σ2 H2 p2 k2 r2 => e.bk _ Ω2 _ H2 p2 (k.trans k2) r2.drop.none, fun ρ2 Ω2 σ2 H2 p2 k2 r2 => e.ct _ Ω2 _ H2 p2 (k.trans k2) r2.drop.none, fun _ _ _ _ _ _ _ z => z.elim⟩
end
end LT
namespace LT
open PySem PySem.Spec PyProof.Rows L2 L2H LL
/-- a loop that may be left at two places: what comes behind it once -/
theorem for_cut {di : DI} {dg : DG} {db : DS} {D : DN} {ρ : En} {Ω : Om} (R : En → Om → Prop) (h1 : ∀ ρ' Ω', R ρ' Ω' → D.nx ρ' Ω') (h2 : ∀ N : En → Om → Prop, (∀ ρ' Ω', R ρ' Ω' → N ρ' Ω') → dFor di dg db { D with nx := N } ρ Ω) : dFor di dg db D ρ Ω := h2 D.nx h1
/-- a comprehension with a condition -/
theorem flt_S {de : DE} {t : Tr} {ts : List Tr} {ρ : En} {Ω : Om} {dg : DG} {dt : DT} {del : DE} {vs : List Nat} {P : PT'} {PX : PXt} (he : ∀ P : PT', P t Ω → de ρ Ω P PX) (hs : asS t Ω = some ts) (f : Tr → Tr) (b : Tr → Bool)
    (hf : ∀ x ∈ ts, ∀ (Q : PT') (N : Om → Prop), (b x = true → Q (f x) Ω) → (b x = false → N Ω) → dg x (wipeT ρ vs) Ω (fun ρ2 Ω2 => dt ρ2 Ω2 (fun k Ω3 => if k = true then del ρ2 Ω3 Q nox else N Ω3) nox) nox) (h : lstNew ((ts.filter b).map f) Ω P) : dLc (diS de) dg dt del vs ρ Ω P PX :=
  he _ ⟨ts, hs, fun hz => by
    refine ⟨hz, fun i acc Ω' => Ω' = Ω ∧ acc = ((ts.take i).filter b).map f, ⟨rfl, rfl⟩, fun i acc Ω' e => e.1 ▸ stay_of hs, ?_, ?_⟩
    · rintro i x acc Ω' hx ⟨rfl, rfl⟩
      have e1 : ts.take (i + 1) = ts.take i ++ [x] := take_one hx
      refine hf x (List.mem_of_getElem? hx) (fun y Ω4 => Ω4 = Ω' ∧ ((ts.take i).filter b).map f ++ [y] = ((ts.take (i + 1)).filter b).map f) (fun Ω3 => Ω3 = Ω' ∧ ((ts.take i).filter b).map f = ((ts.take (i + 1)).filter b).map f) (fun hb => ⟨rfl, ?_⟩) (fun hb => ⟨rfl, ?_⟩)
      · rw [e1, List.filter_append, List.map_append, List.filter_cons, hb]; rfl
      · rw [e1, List.filter_append, List.map_append, List.filter_cons, hb]; exact (List.append_nil _).symm
    · rintro acc Ω' ⟨rfl, rfl⟩
      rw [List.take_length]
      exact h⟩
theorem cutT_from {us : List Tr} {f : Nat} (hf : f ≤ us.length) : cutT us (some (f : Int)) none = us.drop f := by
  have h := cutT_nat (us := us) (f := f) (k := us.length) hf
  have e : cutT us (some (f : Int)) none = cutT us (some (f : Int)) (some (us.length : Int)) := by
    unfold cutT
    rw [HT.sIx_nat us.length us.length us.length, Nat.min_self]; rfl
  rw [e, h, List.take_of_length_le]
  rw [List.length_drop]; omega
theorem cutT_to {us : List Tr} {k : Nat} : cutT us none (some (k : Int)) = us.take k := by
  have h := cutT_nat (us := us) (f := 0) (k := k) (Nat.zero_le _)
  have e : cutT us none (some (k : Int)) = cutT us (some ((0 : Nat) : Int)) (some (k : Int)) := by
    unfold cutT
    rw [HT.sIx_nat us.length 0 0, Nat.zero_min]; rfl
  rw [e, h]; rfl
end LT
namespace LT
open PySem PySem.Spec PyProof.Rows L2 L2H LL
/-- over a list of which only a fact about its items is known -/
theorem for_SR {dg : DG} {db : DS} {D : DN} {ρ : En} {Ω : Om} {de : DE} (R : Tr → Prop) (he : ∀ P : PT', (∀ us, (∀ x ∈ us, R x) → P (.lst us) Ω) → de ρ Ω P (fun y Ω' => D.ex ρ y Ω')) (W : En → Om → Prop) (w0 : W ρ Ω)
    (step : ∀ x ρ' Ω', R x → W ρ' Ω' → dg x ρ' Ω' (fun ρ2 Ω2 => db { D with nx := W, ct := W, bk := D.nx } ρ2 Ω2) nox) (fin : ∀ ρ' Ω', W ρ' Ω' → D.nx ρ' Ω') : dFor (diS de) dg db D ρ Ω :=
  he _ fun us hus => ⟨us, rfl, fun hz => ⟨fun _ => W, w0, fun _ _ _ _ => trivial, fun i x ρ' Ω' hx w => step x ρ' Ω' (hus x (List.mem_of_getElem? hx)) w, fin⟩⟩
/-- a comprehension over range(n), its items known -/
theorem map_R1 {da : DA} {n : Int} {ρ : En} {Ω : Om} {dg : DG} {del : DE} {vs : List Nat} {P : PT'} {PX : PXt} (he : ∀ P : List Tr → Om → Prop, P [.int n] Ω → da ρ Ω P PX) (hb : 0 ≤ n ∧ n ≤ 1000000) (f : Nat → Tr)
    (hf : ∀ i : Nat, i < n.toNat → ∀ Q : PT', Q (f i) Ω → dg (.int (i : Int)) (wipeT ρ vs) Ω (fun ρ2 Ω2 => dYes ρ2 Ω2 (fun b Ω3 => if b = true then del ρ2 Ω3 Q nox else False) nox) nox) (hm : MonoG dg) (h : lstNew ((List.range n.toNat).map f) Ω P) : dLc (diR1 da) dg dYes del vs ρ Ω P PX :=
  he _ ⟨n, rfl, by omega, by omega, by
    refine ⟨by rw [rngT_len]; omega, fun i acc Ω' => Ω' = Ω ∧ acc = ((List.range n.toNat).map f).take i, ⟨rfl, rfl⟩, fun _ _ _ _ => trivial, ?_, ?_⟩
    · rintro i x acc Ω' e ⟨rfl, rfl⟩
      have hi : i < n.toNat := by have := (List.getElem?_eq_some_iff.mp e).1; rwa [rngT_len] at this
      rw [rngT_get hi, Int.zero_add] at e
      cases e
      refine hm _ _ _ _ _ (fun a b z => ?_) (hf i hi (fun y Ω4 => Ω4 = Ω' ∧ ((List.range n.toNat).map f).take i ++ [y] = ((List.range n.toNat).map f).take (i + 1)) ⟨rfl, ?_⟩)
      · simpa [dYes] using z
      · rw [take_one (x := f i) (by rw [List.getElem?_map, List.getElem?_range hi]; rfl)]
    · rintro acc Ω' ⟨rfl, rfl⟩
      rw [rngT_len, List.take_of_length_le (by simp)]
      exact h⟩
/-- a comprehension over range(n), both drawn -/
theorem map_R1R {da : DA} {ρ : En} {Ω : Om} {dg : DG} {del : DE} {vs : List Nat} {P : PT'} {PX : PXt} (A : Tr → Prop) (he : ∀ P : List Tr → Om → Prop, (∀ n : Int, 0 ≤ n → n ≤ 1000000 → P [.int n] Ω) → da ρ Ω P PX)
    (hf : ∀ (i : Nat), i < 1000000 → ∀ (Q : PT'), (∀ t, A t → Q t Ω) → dg (.int (i : Int)) (wipeT ρ vs) Ω (fun ρ2 Ω2 => dYes ρ2 Ω2 (fun b Ω3 => if b = true then del ρ2 Ω3 Q nox else False) nox) nox) (hm : MonoG dg) (h : ∀ us : List Tr, us.length ≤ 1000000 → (∀ t ∈ us, A t) → lstNew us Ω P) : dLc (diR1 da) dg dYes del vs ρ Ω P PX :=
  he _ fun n n0 n1 => ⟨n, rfl, by omega, by omega, by
    refine ⟨by rw [rngT_len]; omega, fun i acc Ω' => Ω' = Ω ∧ acc.length = i ∧ ∀ t ∈ acc, A t, ⟨rfl, rfl, fun _ z => (List.not_mem_nil z).elim⟩, fun _ _ _ _ => trivial, ?_, ?_⟩
    · rintro i x acc Ω' e ⟨rfl, hl, ha⟩
      have hi : i < n.toNat := by have := (List.getElem?_eq_some_iff.mp e).1; rwa [rngT_len] at this
      rw [rngT_get hi, Int.zero_add] at e
      cases e
      refine hm _ _ _ _ _ (fun a b z => ?_) (hf i (by omega) (fun y Ω4 => Ω4 = Ω' ∧ (acc ++ [y]).length = i + 1 ∧ ∀ t ∈ acc ++ [y], A t) fun t ht => ⟨rfl, by rw [List.length_append, hl]; rfl, fun u hu => ?_⟩)
      · simpa [dYes] using z
      · rcases List.mem_append.mp hu with hu | hu
        · exact ha u hu
        · rw [List.mem_singleton.mp hu]; exact ht
    · rintro acc Ω' ⟨rfl, hl, ha⟩
      rw [rngT_len] at hl
      exact h acc (by omega) ha⟩
end LT

namespace LT
open PySem PySem.Spec PyProof.Rows L2 L2H LL
section
variable {K : PySem.W.Frag} {G : List (Value × Option Addr × XV) → Prop} {E : EK}
/-! ### a def that is called within an except suite -/
theorem dokH {P : Program} {w : World} {mg : Str → Option Value} {base : Heap} {x qual : Str} {params : Arguments} {body : List Stmt} {sc : Scope} {f : Addr} {fd : FuncData} {N ps : List Str} {k : Nat} {Pd : Pw} (F : FunD K x qual params body sc [] [] f fd) (S : FnScope N ps sc)
    (h : ∀ (cdv : Value) (A : Around) (outer : List Env) (s : Shared) (H : Hp) (E : XK) (p : Addr × Obj), Hot1 A p → RoomH k (A.deeper (envOfC qual sc s.heap.objs.size f cdv)) → ∃ t ds, PSs (cxH CX0 P w K mg base N qual sc f cdv A outer s H E p) body t ∧ SimS K (fun _ => True) (fun _ => E) t ds ∧
      ∀ ts Ω PQ PX, ts.length = ps.length → Pd ts Ω PQ PX → ds { nx := fun _ Ω' => PQ .non Ω', rt := PQ, ex := fun _ => PX } (ts.map some ++ List.replicate (N.length - ps.length) none) Ω) :
    FnH P w K mg base CX0 (k + 1) f fd ps (spD K Pd ps.length) := by
  obtain ⟨oc, od, dV, kV, doc, pm, an, cdv, ct, osl, rfl, lk, hcd, _, _⟩ := F.ex
  refine fn_ofH lk hcd S (fun vs H Q E ⟨g, Ω, ts, PQ, PX, hl, d, _⟩ => by rw [d.len]; exact hl) (fun A outer s H vs Q E p hot hr hsp => ?_)
  obtain ⟨g, Ω, ts, PQ, PX, hl, d, o, pp, q, qx⟩ := hsp
  obtain ⟨t, ds, h1, h2, h3⟩ := h cdv A outer s H E p hot hr
  refine ⟨t, h1, h2 g _ H _ Ω _ _ trivial ⟨o, ?_, fun i u e => ?_⟩ (h3 ts Ω PQ PX hl pp) ⟨fun ρ' Ω' σ' H' p k r => q _ Ω' _ H' p k r.om rfl, q, fun _ _ _ _ z => z.elim, fun _ _ _ _ z => z.elim, fun x ρ' Ω' σ' c dd H' p k r z => qx x Ω' c dd H' p k r.om z⟩⟩
  · show (vs.map some ++ List.replicate (N.length - vs.length) none).length = _
    rw [List.length_append, List.length_append, List.length_map, List.length_map, List.length_replicate, List.length_replicate, d.len, hl]
  · show ∃ v, (vs.map some ++ List.replicate (N.length - vs.length) none)[i]? = some (some v) ∧ _
    rw [List.getElem?_append] at e ⊢
    rw [List.length_map] at e ⊢
    rw [d.len]
    split at e
    · rename_i hlt
      rw [if_pos hlt]
      rw [List.getElem?_map] at e ⊢
      cases et : ts[i]? with
      | none => rw [et] at e; cases e
      | some t' =>
        rw [et] at e
        cases e
        obtain ⟨v, ev, dv⟩ := d.get' et
        exact ⟨v, by rw [ev]; rfl, dv⟩
    · have := List.mem_of_getElem? e
      rw [List.mem_replicate] at this
      exact absurd this.2 (by simp)
/-- what is never reached -/
def tDead : TS := fun _ _ _ => False
def dDead : DS := fun _ _ _ => False
theorem ps_dead {X : Cx} {s : Stmt} : PS X s tDead := ⟨fun pins s σ H D I h => h.elim⟩
theorem sim_dead : SimS K G E tDead dDead := fun g σ H ρ Ω D DD hG R h e => h.elim
theorem hot_deeper {A : Around} {env : Env} {p : Addr × Obj} (h : Hot1 A p) : Hot1 (A.deeper env) p := h
theorem pass0H {X : Cx} {E : XK} {σ : L2.St} : PassesAt CX0 X σ E := fun _ _ _ e s' I c => by
  exact (show False from c).elim
end
end LT
namespace LT
open PySem PySem.Spec PyProof.Rows L2 L2H LL
theorem law_cut {te : TE} {tg : TG} {rest : TS} {D : Ends} {σ : L2.St} {H : Hp} (C : L2.St → Hp → Prop) (h : ∀ N : L2.St → Hp → Prop, (∀ σ' H', C σ' H' → N σ' H') → tAsg te tg { D with nx := N } σ H) (h2 : ∀ σ' H', C σ' H' → rest D σ' H') : tSeq (tAsg te tg) rest D σ H := h _ h2
theorem law_sim {K : PySem.W.Frag} {E : EK} {rest : TS} {dr : DS} (sim : SimS K (fun _ => True) E rest dr) {d s : Addr} {H : Hp} {Q : VK} {σ : L2.St} {n : Nat} {v0 : Option V} (hs : σ = v0 :: some (.ref d) :: List.replicate n none) (D1 : Drw d s H) (q : ∀ H', Q (.bl true) H') (nx : L2.St → Hp → Prop)
    (h : dr { nx := fun _ _ => False, rt := fun t _ => t = .bl true, ex := fun _ => nox } (none :: some .drw :: List.replicate n none) (fun _ => none)) : rest { nx := nx, rt := Q } σ H := by
  subst hs
  refine sim ⟨some (d, s), fun _ => False, []⟩ _ H _ (fun _ => none) _ _ trivial ⟨?_, ?_, fun i t e => ?_⟩ h ⟨fun _ _ _ _ z => z.elim, fun t Ω' v H' e k o dv => ?_, fun _ _ _ _ z => z.elim, fun _ _ _ _ z => z.elim, fun _ _ _ _ _ _ _ z => z.elim⟩
  · refine ⟨fun d' s' e => ?_, (fun a c e => by cases e), (fun p hp => (List.not_mem_nil hp).elim), fun b z => (show False from z).elim⟩
    cases e
    obtain ⟨⟨c, h1, h2, ns, h3⟩, h4, h5⟩ := D1
    exact ⟨c, ns, h1, h2, h3, h4, h5, rfl, rfl, rfl, id, id, id⟩
  · rw [List.length_cons, List.length_cons, List.length_cons, List.length_cons, List.length_replicate, List.length_replicate]
  · match i, e with
    | 1, e =>
      cases e
      exact ⟨_, rfl, d, s, rfl, rfl⟩
    | i + 2, e =>
      have := List.mem_of_getElem? (show (List.replicate n (none : Option Tr))[i]? = some (some t) from e)
      rw [List.mem_replicate] at this
      cases this.2
  · have e' : t = .bl true := e
    subst e'
    rw [show v = .bl true from dv]
    exact q H'
end LT

namespace LT
open PySem PySem.Spec PyProof.Rows L2
/-- C(e, ..) makes an exception whose context is None -/
theorem pmkN {Y : Cx} {D : CXT} {cn : Str} {e0 : Expr} {er : List Expr} {t0 : TA} {p1 p2 : Pos} {Ca ia : Addr} {j : Nat} {fn : FuncData} {pn : List Str} {spc : Sp} {dv : List Value} {dw : List V} (o : OexC Y.K Ca) (i1 : PySem.W.findIn Y.K (.ref Ca) "__init__" = some (some (.ref ia))) (i2 : PySem.W.typeIn Y.K (.ref ia) = some (.type "function"))
    (f1 : FnOk Y.prog Y.w Y.K Y.mg Y.base D j ia fn pn spc) (room : Room (j + 1) Y.A) (bi : Binds Y.K fn pn dv) (dd : Vals dw dv) (px : Passes D Y (fun _ _ _ => False)) (gl : Gl Y cn) (mg : Y.mg cn = some (.ref Ca)) (args : PA Y (e0 :: er) t0)
    (nd : (cn == ("__debug__" : Str)) = false := by decide) (s1 : starEach (e0 :: er) Y.env = (false, eval e0 Y.env) :: starEach er Y.env := by rfl) (s2 : (backTo p2 (starEach er Y.env)).any (·.1) = false := by rfl) :
    L2N.PMk Y (.Call (.Name cn p1) (e0 :: er) [] p2) (tMkO Ca spc dw t0) := fun ps st ρ G W inv hyp => by
  obtain ⟨_, _, _, _, bm, _, _, _, _, _, _, _, _, _, _, cls, refs⟩ := o.cls
  refine wpAny_Call_Name_kw (ld_glob inv gl mg (PySem.W.callWith_K (h₀ := Y.base) inv.ok.mod.kin o.kC (thn (args.run p2 ps st ρ G _ inv hyp) fun ua ⟨hp, g, dr, tk, os⟩ ⟨vs, G1, inv1, rel, _, ask⟩ => ⟨inv1.kIn, ?_⟩) s1 s2) nd)
  have new : hp.objs.size ≤ hp.objs.size + 1 := Nat.le_succ _
  have call1 := ask (hp.objs.size + 1) (inv1.hok.fresh new)
  let h2 := (hp.push (PySem.W.kdv_tup ua)).push (PySem.HandSPX.excO Ca hp.objs.size)
  have keep : ∀ b ob, hp.get? b = some ob → h2.get? b = some ob := fun b ob z => Heap.get?_push_of_some _ (Heap.get?_push_of_some _ z)
  have there : h2.get? (hp.objs.size + 1) = some (PySem.HandSPX.excO Ca hp.objs.size) := by show ((hp.push _).push _).get? _ = _; heap_get
  have inv2 : Inv Y ps ρ (upd G1 (hp.objs.size + 1) (exo (hp.objs.size + 1) Ca none)) ⟨h2, g, dr, tk, os⟩ := inv1.laid (t' := tk) (o := exo (hp.objs.size + 1) Ca none) keep new (exo_ok there)
  have rel2 : Vals (V.ref (hp.objs.size + 1) :: (vs ++ dw)) (Value.ref (hp.objs.size + 1) :: (ua ++ dv)) := .cons rfl (rel.append dd)
  have len2 : (Value.ref (hp.objs.size + 1) :: ua ++ dv).length = pn.length := (f1.len _ _ _ _ call1 ▸ rel2.length).symm
  have small : ua.length ≤ sizeLine := by have := Paired.length rel; rw [sizeLine_eq]; omega
  refine wpAny_call (PySem.HandSPX.call_own F.excBase_ValueError (fun Z => PySem.HandSPX.refsVE_contains Z bm refs) (inv1.kIn _ _ cls) (PySem.W.looks_findIn inv1.kIn i1) (fun self => PySem.W.bind_fn inv1.kIn self i2) small (codeAny_mono (f1.run _ Y.stack _ _ ⟨Value.ref (hp.objs.size + 1) :: ua, []⟩ (Value.ref (hp.objs.size + 1) :: (ua ++ dv)) _ _ (fun _ _ _ => False) (room.make Ca ua []) (inv2.env0.make Ca ua []) (bi _ (Value.ref (hp.objs.size + 1) :: ua) inv2.kIn len2) rel2 call1) fun r fin out => ?_))
  match r, out with
  | .error er, out => exact px ps ρ _ _ er fin inv2 out
  | .ok (.ret u), ⟨v, G2, o2, ba2, un2, ho2, rv, ev, d, fs, ea, ed, n1, w2⟩ =>
    subst ev
    obtain ⟨hf, gf, df, tf, of⟩ := fin
    obtain ⟨t9, G9, J9, k9, ge9, he9, na9⟩ := mk_end0 (d2 := df) (t2 := tf) inv1 new keep un2 ho2 o2 ba2 ea ed n1
    exact ⟨rv, hp.objs.size + 1, _, _, ⟨G9, gf, df, tf, of⟩, _, .ref Ca, some d, rfl, J9, k9, ge9, he9, ⟨rfl, rfl, fun z hz => by cases hz; rfl⟩, rfl, rfl, na9, rfl, ba2, raises_own o.exC o.tyC, w2⟩
  | .ok .next, out => exact False.elim out
  | .ok .brk, out => exact False.elim out
  | .ok .cont, out => exact False.elim out
theorem takes0N {X : Cx} : L2N.Takes X (fun _ _ _ _ => False) := fun u s' z => by
  obtain ⟨_, _, _, _, _, _, _, _, _, _, _, _, _, _, _, _, w⟩ := z
  exact w.elim
theorem hotN {X : Cx} {a : Addr} {oe : Obj} {cls : Value} {d : Option Addr} {pn : List (Addr × Obj)} (hz : L2N.Zn cls d oe) (hf : ∃ vs, oe.data = .fields vs) : L2H.HotC (X.suite a ((a, oe) :: pn)) := by
  obtain ⟨vs, e⟩ := hf
  exact ⟨(a, oe), ⟨rfl, vs, e, hz.2.2 vs e⟩, List.mem_cons_self⟩
theorem ps_tryN {X : Cx} {x n : Str} {c : Value} {i : Nat} {body suite : List Stmt} {b₀ : Stmt} {np pos pos' : Pos} {tb : WX → TS} {ts : Addr → Value → Option Addr → TS} {Wout : WX} (hs : X.stack = X.env :: X.outer) (hf : X.env.frame = some X.env.locals) (hN : X.N.Nodup) (hi : X.N[i]? = some n) (hln : X.env.kindOf n = some .local) (hc : Names X x c) (tk : L2N.Takes X Wout)
    (hb : ∀ (W : WX) (pn : List (Addr × Obj)) (xe : Value → Shared → Prop), L2N.Takes (X.tr pn xe) W → PassesOwn (model X.prog X.w) X.A X.env xe → PSs (X.tr pn xe) body (tb W))
    (hsu : ∀ (a : Addr) (oe : Obj) (cls : Value) (d : Option Addr) (pn : List (Addr × Obj)), L2N.Zn cls d oe → (∃ vs, oe.data = .fields vs) → PSs (X.suite a ((a, oe) :: pn)) (b₀ :: suite) (ts a cls d)) :
    PS X (.Try body [.ExceptHandler (some (.Name x np)) (some n) (b₀ :: suite) pos'] [] [] pos) (tTryAs X.K c i tb ts Wout) := L2N.ps_try_as hs hf hN hi hln hc tk hb hsu
end LT

/-! zip of two, each a list or a tuple -/
namespace LL
open PySem PySem.Spec PyProof.Rows L2
/-- b: a tuple; else a list -/
def SqB (K : PySem.W.Frag) (b : Bool) (H : Hp) (a : Addr) (xs : List V) : Prop := if b = true then SqT K H a xs else SqL K H a xs
def itB (b : Bool) (h : Heap) (j a : Addr) (n : Nat) : Prop := if b = true then h.IsTupleIter j a n else h.IsListIter j a n
def isB (b : Bool) (h : Heap) (a : Addr) (xs : Array Value) : Prop := if b = true then h.IsTuple a xs else h.IsList a xs
theorem itB_obj {b : Bool} {h : Heap} {j a : Addr} {n : Nat} (e : itB b h j a n) : ∃ o, h.get? j = some o ∧ ∃ vs, o.data = .fields vs := by
  cases b
  · obtain ⟨o, e1, _, e2⟩ := (show h.IsListIter j a n from e)
    exact ⟨o, e1, _, e2⟩
  · obtain ⟨o, e1, _, e2⟩ := (show h.IsTupleIter j a n from e)
    exact ⟨o, e1, _, e2⟩
theorem itB_at {b : Bool} {h h' : Heap} {j a : Addr} {n : Nat} (e : itB b h j a n) (k : ∀ o, h.get? j = some o → h'.get? j = some o) : itB b h' j a n := by
  cases b
  · exact (show h.IsListIter j a n from e).at k
  · exact (show h.IsTupleIter j a n from e).at k
theorem drawsB {prog : Program} {w : World} {A : Around} (hh : A.handled = none) (b : Bool) (j a : Addr) (hne : a ≠ j) (xs : List Value) : Draws prog w A j [j, a] xs.length (fun i v => xs[i]? = some v) (fun i h => itB b h j a i ∧ isB b h a xs.toArray) := by
  have e : (fun (i : Nat) (v : Value) => xs.toArray[i]? = some v) = (fun (i : Nat) (v : Value) => xs[i]? = some v) := by
    funext i v
    simp
  rw [← e, ← List.size_toArray (as := xs)]
  cases b
  · exact Draws.list hh j a hne xs.toArray
  · exact Draws.tuple hh j a hne xs.toArray
theorem sqB_inv {X : Cx} {pins : List (Addr × Obj)} {σ : L2.St} {H : Hp} {s : Shared} {b : Bool} {a : Addr} {xs : List V} (I : Inv X pins σ H s) (h : SqB X.K b H a xs) : ∃ its : List Value, Vals xs its ∧ isB b s.heap a its.toArray := by
  cases b
  · obtain ⟨its, rv, p, _⟩ := I.list (show SqL X.K H a xs from h)
    exact ⟨its, rv, p.isList⟩
  · obtain ⟨its, rv, p, _⟩ := I.tuple (show SqT X.K H a xs from h)
    exact ⟨its, rv, p⟩
theorem sqB_inj {X : Cx} {pins : List (Addr × Obj)} {σ : L2.St} {H : Hp} {s : Shared} {b : Bool} {a : Addr} {xs ys : List V} (I : Inv X pins σ H s) (h : SqB X.K b H a xs) (k : SqB X.K b H a ys) : xs = ys := by
  cases b
  · exact I.list_inj (show SqL X.K H a xs from h) k
  · exact I.tuple_inj (show SqT X.K H a xs from h) k
/-- pairs of the items at a and at b -/
def ItzB (K : PySem.W.Frag) (b1 b2 : Bool) (a b : Addr) : It :=
  ⟨fun i H => ∃ xs ys x y, SqB K b1 H a xs ∧ SqB K b2 H b ys ∧ xs[i]? = some x ∧ ys[i]? = some y,
    fun i H v H' => ∃ T x y, v = .ref T ∧ H T = none ∧ H' = upd H T (.tup [x, y]) ∧ (∀ xs, SqB K b1 H a xs → xs[i]? = some x) ∧ (∀ ys, SqB K b2 H b ys → ys[i]? = some y),
    fun i H => ∃ xs ys, SqB K b1 H a xs ∧ SqB K b2 H b ys ∧ i ≤ xs.length ∧ i ≤ ys.length ∧ (i = xs.length ∨ i = ys.length)⟩
theorem turn_zipB {P : Program} {w : World} {K : PySem.W.Frag} {elts : List Expr} {kk : Nat} {tpos : Pos} {b1 b2 : Bool} {a b z TI TO j1 j2 : Addr} (S : ZipSep2 z TI TO j1 j2 [j1, a] [j2, b]) (n1 : a ≠ j1) (n2 : b ≠ j2) :
    Turn P w K (.Tuple elts kk tpos) (ItzB K b1 b2 a b) [z, TI, TO, j1, j2] z (fun i h => IsZip h z TI TO .none ∧ IsTupOf2 h TI (.ref j1) (.ref j2) ∧ (∃ x y, IsTupOf2 h TO x y) ∧ itB b1 h j1 a i ∧ itB b2 h j2 b i) where
  mem := List.mem_cons_self
  obj := fun i h st c hc => by
    obtain ⟨f1, f2, ⟨u, v, f3⟩, f4, f5⟩ := st
    simp only [List.mem_cons, List.not_mem_nil, or_false] at hc
    rcases hc with rfl | rfl | rfl | rfl | rfl
    · exact ⟨_, f1, fun _ e => nomatch e⟩
    · exact ⟨_, f2, fun _ e => nomatch e⟩
    · exact ⟨_, f3, fun _ e => nomatch e⟩
    · obtain ⟨o, e1, vs, e2⟩ := itB_obj f4
      exact ⟨o, e1, fun _ e => by rw [e2] at e; cases e⟩
    · obtain ⟨o, e1, vs, e2⟩ := itB_obj f5
      exact ⟨o, e1, fun _ e => by rw [e2] at e; cases e⟩
  keep := fun i h h' st k => by
    obtain ⟨f1, f2, ⟨u, v, f3⟩, f4, f5⟩ := st
    exact ⟨k z (by simp) _ f1, k TI (by simp) _ f2, ⟨u, v, k TO (by simp) _ f3⟩, itB_at f4 fun o e => k j1 (by simp) o e, itB_at f5 fun o e => k j2 (by simp) o e⟩
  item := by
    intro X eP ew eK hc i pins s σ H E I hf st hg
    subst eP ew eK
    obtain ⟨f1, f2, ⟨u0, v0, f3⟩, f4, f5⟩ := st
    obtain ⟨xs, ys, x, y, sx, sy, ex, ey⟩ := hg
    obtain ⟨as, ra, pa⟩ := sqB_inv I sx
    obtain ⟨bs, rb, pb⟩ := sqB_inv I sy
    obtain ⟨u, eu, ru⟩ := ra.get ex
    obtain ⟨v, ev, rv⟩ := rb.get ey
    have hzl : z < s.heap.objs.size := Heap.lt_size f1
    have hTl : TO < s.heap.objs.size := Heap.lt_size f3
    have hIl : TI < s.heap.objs.size := Heap.lt_size f2
    have h1l : j1 < s.heap.objs.size := by obtain ⟨_, e, _⟩ := itB_obj f4; exact Heap.lt_size e
    have h2l : j2 < s.heap.objs.size := by obtain ⟨_, e, _⟩ := itB_obj f5; exact Heap.lt_size e
    have hd : X.A.handled = none := I.ok.hd hc
    have D1 := drawsB (prog := X.prog) (w := X.w) (A := X.A.in1) hd b1 j1 a n1 as
    have D2 := drawsB (prog := X.prog) (w := X.w) (A := X.A.in1) hd b2 j2 b n2 bs
    refine wpAny_pyNext_zipD2_item S D1 D2 f1 f2 f3 (i := i) ⟨f4, pa⟩ ⟨f5, pb⟩ (List.getElem?_eq_some_iff.mp eu).1 (List.getElem?_eq_some_iff.mp ev).1 fun u' v' h' tk q1 q2 g1 g2 g3 g4 g5 _ hk => ?_
    rw [eu] at q1
    rw [ev] at q2
    cases q1
    cases q2
    refine ⟨_, rfl, wpAny_letOwnedTupleGo_zip (s := { s with heap := h', toks := tk }) g1 fun h2 g1' sb => ?_⟩
    have eT : h2.get? s.heap.objs.size = some { cls := .type "tuple", data := .seq #[u, v] } := (sb.2 _ (Nat.ne_of_gt hzl)).trans g5
    have fresh := I.hok.fresh (Nat.le_refl s.heap.objs.size)
    have ob : ObjOk X.prog X.w (upd H s.heap.objs.size (.tup [x, y])) h2 s.heap.objs.size (.tup [x, y]) := ⟨(show 2 ≤ sizeLine by decide), [u, v], .cons ru (.cons rv .nil), ⟨_, eT, rfl, _, rfl⟩⟩
    have kp : ∀ c o, c ∉ [z, TI, TO, j1, j2] → s.heap.get? c = some o → h2.get? c = some o := fun c o hb e => by
      simp only [List.mem_cons, List.not_mem_nil, or_false, not_or] at hb
      exact (sb.2 c hb.1).trans (hk c o hb.1 hb.2.2.1 hb.2.2.2.1 hb.2.2.2.2 e)
    have J : Inv X pins σ (upd H s.heap.objs.size (.tup [x, y])) { s with heap := h2, toks := tk } := I.turnedNew (t' := tk) (ch := [z, TI, TO, j1, j2]) kp hf (Nat.le_refl _) ob
    refine ⟨.ref s.heap.objs.size, _, J, rfl, ⟨_, x, y, rfl, fresh, rfl, fun l hl => by rw [sqB_inj I hl sx]; exact ex, fun l hl => by rw [sqB_inj I hl sy]; exact ey⟩, ⟨g1', ?_, ⟨u, v, ?_⟩, ?_, ?_⟩, fun c hcm => ?_⟩
    · exact (sb.2 _ S.TIz).trans (hk _ _ S.TIz S.TITO S.TIi1 S.TIi2 f2)
    · exact (sb.2 _ S.TOz).trans g2
    · exact itB_at g3.1 fun o e => (sb.2 _ S.zi1.symm).trans e
    · exact itB_at g4.1 fun o e => (sb.2 _ S.zi2.symm).trans e
    · have hlt : c < s.heap.objs.size := by
        simp only [List.mem_cons, List.not_mem_nil, or_false] at hcm
        rcases hcm with rfl | rfl | rfl | rfl | rfl <;> assumption
      rw [upd_ne (Nat.ne_of_lt hlt)]
      exact (hf c hcm).1
  done := by
    intro X eP ew eK hc i pins s σ H E I hf st hg
    subst eP ew eK
    obtain ⟨f1, f2, ⟨u0, v0, f3⟩, f4, f5⟩ := st
    obtain ⟨xs, ys, sx, sy, l1, l2, hend⟩ := hg
    obtain ⟨as, ra, pa⟩ := sqB_inv I sx
    obtain ⟨bs, rb, pb⟩ := sqB_inv I sy
    have e1 : xs.length = as.length := ra.length
    have e2 : ys.length = bs.length := rb.length
    have hd : X.A.handled = none := I.ok.hd hc
    have D1 := drawsB (prog := X.prog) (w := X.w) (A := X.A.in1) hd b1 j1 a n1 as
    have D2 := drawsB (prog := X.prog) (w := X.w) (A := X.A.in1) hd b2 j2 b n2 bs
    refine wpAny_pyNext_zipD2_end S D1 D2 f1 f2 f3 (i := i) ⟨f4, pa⟩ ⟨f5, pb⟩ (by omega) (by omega) (by omega) fun h' tk hk => ⟨rfl, I.turnedL (t' := tk) (ch := [z, TI, TO, j1, j2]) (fun c o hb e => ?_) hf⟩
    simp only [List.mem_cons, List.not_mem_nil, or_false, not_or] at hb
    exact hk c o hb.1 hb.2.2.1 hb.2.2.2.1 hb.2.2.2.2 e
  self := fun A i s Q E st h => wpAny_pyIter_zip st.1 h
def iZipB (K : PySem.W.Frag) (ta : TA) : TI := fun σ H R => ta σ H fun vs H1 => ∃ b1 b2 a b xs ys, vs = [.ref a, .ref b] ∧ SqB K b1 H1 a xs ∧ SqB K b2 H1 b ys ∧ R (ItzB K b1 b2 a b) H1
theorem beginsB (b : Bool) (a : Addr) (xs : Array Value) : ∃ o, Begins (.ref a) o (fun h => isB b h a xs) ∧ ∀ h j, h.get? j = some o → itB b h j a 0 := by
  cases b
  · exact ⟨_, begins_list a xs, fun h j e => ⟨_, e, rfl, rfl⟩⟩
  · exact ⟨_, begins_tuple a xs, fun h j e => ⟨_, e, rfl, rfl⟩⟩
theorem isB_lt {b : Bool} {h : Heap} {a : Addr} {xs : Array Value} (e : isB b h a xs) : a < h.objs.size := by
  cases b
  · obtain ⟨o, q, _⟩ := (show h.IsList a xs from e)
    exact Heap.lt_size q
  · obtain ⟨o, q, _⟩ := (show h.IsTuple a xs from e)
    exact Heap.lt_size q
theorem pi_zipB {X : Cx} {e e2 : Expr} {ta : TA} {p pos tpos : Pos} {elts : List Expr} {kk : Nat} {K : PySem.W.Frag} (hK : X.K = K) (hg : Gl X "zip") (hm : X.mg "zip" = none) (ha : PA X [e, e2] ta)
    (hs : starEach [e, e2] X.env = (false, eval e X.env) :: starEach [e2] X.env := by rfl) (hpl : (backTo pos (starEach [e2] X.env)).any (·.1) = false := by rfl) : PI X (.Tuple elts kk tpos) (.Call (.Name "zip" p) [e, e2] [] pos) (iZipB K ta) := by
  subst hK
  refine ⟨fun pins s σ H R I h => Call_ (ld_blt I hg hm PyProof.Rows.boot_zip (PyProof.Rows.callWith_type1 (thn (ha.run pos pins s σ H _ I h) fun us s1 ⟨vs, H1, I1, r1, q1⟩ => ?_) hs hpl))⟩
  obtain ⟨b1, b2, a, b, xs, ys, rfl, sx, sy, q⟩ := q1
  cases r1 with
  | cons r rr =>
    cases rr with
    | cons r' rr =>
      cases rr
      cases r
      cases r'
      obtain ⟨as, ra, pa⟩ := sqB_inv I1 sx
      obtain ⟨bs, rb, pb⟩ := sqB_inv I1 sy
      obtain ⟨o1, B1, t1⟩ := beginsB b1 a as.toArray
      obtain ⟨o2, B2, t2⟩ := beginsB b2 b bs.toArray
      have la := isB_lt pa
      have lb := isB_lt pb
      refine zip_begins2 B1 B2 pa pb fun h' g1 g2 g3 g4 g5 _ hk => wpAny_pyIter_zip g1 ?_
      have I2 : Inv X pins σ H1 { s1 with heap := h' } := I1.kept (t' := s1.toks) hk
      have S : ZipSep2 (s1.heap.objs.size + 4) (s1.heap.objs.size + 2) (s1.heap.objs.size + 3) s1.heap.objs.size (s1.heap.objs.size + 1) [s1.heap.objs.size, a] [s1.heap.objs.size + 1, b] := by
        generalize s1.heap.objs.size = n at la lb
        have ha2 : a ≠ n := Nat.ne_of_lt la
        have hb2 : b ≠ n := Nat.ne_of_lt lb
        have x1 : ∀ k : Nat, n + k ≠ a := fun k z => by have : n + k < n := z ▸ la; omega
        have x2 : ∀ k : Nat, n + k ≠ b := fun k z => by have : n + k < n := z ▸ lb; omega
        have x3 : ∀ k l : Nat, k ≠ l → n + k ≠ n + l := fun k l h z => h (by have : n + k = n + l := z; omega)
        have x4 : ∀ k : Nat, k ≠ 0 → n + k ≠ n := fun k h z => h (by have : n + k = n := z; omega)
        refine ⟨x3 2 4 (by decide), x3 3 4 (by decide), x3 2 3 (by decide), x4 2 (by decide), List.mem_cons_self, ?_, ?_, x3 2 1 (by decide), List.mem_cons_self, ?_, ?_, ?_, ?_⟩ <;> simp only [List.mem_cons, List.not_mem_nil, or_false, not_or]
        · exact ⟨x4 4 (by decide), x1 4⟩
        · exact ⟨x4 3 (by decide), x1 3⟩
        · exact ⟨x3 4 1 (by decide), x2 4⟩
        · exact ⟨x3 3 1 (by decide), x2 3⟩
        · exact ⟨(x4 1 (by decide)).symm, hb2.symm⟩
        · exact ⟨x4 1 (by decide), x1 1⟩
      refine ⟨s1.heap.objs.size + 4, _, _, _, H1, rfl, I2, turn_zipB S (Nat.ne_of_lt la) (Nat.ne_of_lt (Nat.lt_succ_of_lt lb)), ⟨g1, g2, ⟨_, _, g3⟩, t1 _ _ g4, t2 _ _ g5⟩, fun c hcm => ?_, q⟩
      have hle : s1.heap.objs.size ≤ c := by
        simp only [List.mem_cons, List.not_mem_nil, or_false] at hcm
        generalize s1.heap.objs.size = n at hcm
        rcases hcm with e | e | e | e | e <;> rw [e]
        · exact Nat.le_add_right n 4
        · exact Nat.le_add_right n 2
        · exact Nat.le_add_right n 3
        · exact Nat.le_refl n
        · exact Nat.le_add_right n 1
      exact I1.fpOk hle (I1.hok.fresh hle)
end LL

/-! t[::-1], t a tuple -/
namespace LL
open PySem PySem.Spec PyProof.Rows L2 HT
theorem back_pick (n : Nat) (xs : Array Value) (hn : n = xs.size) : ((List.range n).filterMap fun (m : Nat) => xs[((n : Int) - 1 + (m : Int) * (-1)).toNat]?) = xs.toList.reverse := by
  subst hn
  have e : (fun (m : Nat) => xs[(((xs.size : Nat) : Int) - 1 + (m : Int) * (-1)).toNat]?) = (fun k => xs[k]?) ∘ fun k => xs.size - 1 - k := by
    funext m
    show _ = xs[xs.size - 1 - m]?
    congr 1
    omega
  rw [e, ← List.filterMap_map, PySem.W.krv_range, List.filterMap_reverse, PySem.W.krv_all]
theorem back_places (n : Nat) : Builtin.Slice.slicePlaces ((n : Int) - 1) (-1) (-1) = n := by
  unfold Builtin.Slice.slicePlaces
  have h1 : ¬ (-1 : Int) > 0 := by omega
  simp only [h1, if_false, show (- -1 : Int) = 1 by decide, Int.ediv_one]
  split <;> omega
section
variable {prog : Program} {w : World} {A : Around} {E : Value → Shared → Prop} {s : Shared}
theorem tup_back {t sl : Addr} {xs : Array Value} {v1 v2 v3 : Value} {Q : Value → Shared → Prop} (ht : IsTup s.heap t xs) (hq : s.heap.IsSliceOf sl v1 v2 v3) (p1 : IsPart v1 none) (p2 : IsPart v2 none) (p3 : IsPart v3 (some (-1)))
    (h : Q (.ref s.heap.objs.size) { s with heap := s.heap.push { cls := .type "tuple", data := .seq xs.toList.reverse.toArray } }) (hz : xs.size ≤ sizeLine) : wpAny (model prog w) A (getItem (.ref t) (.ref sl)) Q E s := by
  have sz : sizeOk (.seq xs.toList.reverse.toArray) := by
    show xs.toList.reverse.toArray.size ≤ sizeLine
    rw [List.size_toArray, List.length_reverse, Array.length_toList]; exact hz
  obtain ⟨ob, eo, ec, ed⟩ := id hq
  have tS : s.TypeIs (.ref sl) "slice" := ⟨ob, eo, ec⟩
  unfold getItem
  try with_reducible refine wpAny_holding ?_
  first | refine wpAny_bind (wpAny_pure ?_) | skip
  refine wpAny_bind (wpAny_sequenceKey ht.typeIs (by decide) (wpAny_bind (wpAny_callSpecial?_slot (name := Str.ofString "__getitem__") ht.typeIs PyProof.Rows.slot_tuple_getitem (wpAny_call_entry PyProof.Rows.slot_tuple_getitem ht.typeIs entry_tuple_getitem ?_ (args_tuple_getitem _ _)))))
  show wpAny _ _ (Builtin.Tuple.tupleItemsOf (.ref t) >>= fun _ => _) _ _ s
  refine wpAny_bind (tupleItemsOf_ ht (wpAny_bind (wpAny_typeOf tS ?_)))
  rw [if_pos (show _ = true by decide)]
  refine wpAny_bind ?_
  · unfold Builtin.Slice.sliceApplied Builtin.Slice.sliceFields
    refine wpAny_bind (wpAny_bind (wpAny_field eo ed (x := v1) rfl (wpAny_bind (wpAny_field eo ed (x := v2) rfl (wpAny_bind (wpAny_field eo ed (x := v3) rfl (wpAny_pure ?_)))))))
    refine wpAny_bind (slicePart_ p3 ?_)
    show wpAny _ _ (if ((-1 : Int) == 0) = true then _ else _) _ _ s
    rw [if_neg (show ¬ _ by decide)]
    refine wpAny_bind (slicePart_ p1 (wpAny_bind (slicePart_ p2 (wpAny_bind (wpAny_pure ?_)))))
    show wpAny _ _ (pure ((((xs.size : Nat) : Int) - 1), (-1 : Int), Builtin.Slice.slicePlaces (((xs.size : Nat) : Int) - 1) (-1) (-1))) _ _ s
    rw [back_places]
    refine wpAny_pure ?_
    have no : ¬ (((((xs.size : Nat) : Int) - 1 == 0) && ((-1 : Int) == 1) && (xs.size == xs.size)) = true) := by
      intro z
      rw [show ((-1 : Int) == 1) = false by decide] at z
      simp at z
    show wpAny _ _ (if (((((xs.size : Nat) : Int) - 1 == 0) && ((-1 : Int) == 1) && (xs.size == xs.size)) = true) then _ else _) _ _ s
    rw [if_neg no, back_pick xs.size xs rfl]
    first
      | exact wpAny_bind (m := Builtin.Tuple.tupleExact _) (wpAny_newObj_type (wpAny_pure ⟨_, rfl, wpAny_pure h⟩) sz)
      | exact wpAny_bind (m := Builtin.Tuple.tupleExact _) (wpAny_newObj_type (wpAny_bind (wpAny_pure (wpAny_pure ⟨_, rfl, wpAny_pure h⟩))) sz)
      | exact wpAny_bind (wpAny_bind (m := Builtin.Tuple.tupleExact _) (wpAny_newObj_type (wpAny_pure (wpAny_pure ⟨_, rfl, wpAny_pure h⟩)) sz))
      | exact wpAny_bind (wpAny_bind (m := Builtin.Tuple.tupleExact _) (wpAny_newObj_type (wpAny_pure ⟨_, rfl, wpAny_pure h⟩) sz))
end
def tRevT (K : PySem.W.Frag) (te : TE) : TE := fun σ H Q => te σ H fun x H1 => ∃ a xs, x = .ref a ∧ SqT K H1 a xs ∧ ∀ p, H1 p = none → Q (.ref p) (upd H1 p (.tup xs.reverse))
theorem pe_revT {X : Cx} {K : PySem.W.Frag} {e : Expr} {te : TE} {k : Nat} {q1 q2 q3 pos : Pos} (hK : X.K = K) (he : PE X e te) : PE X (.Subscript e (.Slice none none (some (.UnaryOp .USub (.Constant (.int 1) k q1) q2)) q3) pos) (tRevT K te) := by
  subst hK
  refine ⟨fun pins s σ H Q I h => Subscript_ (thn (he.run pins s σ H _ I h) fun v s1 ⟨x, H1, I1, r1, a, xs, ex, hx, q⟩ => ?_)⟩
  subst ex
  cases r1
  have hst : PO X (some (.UnaryOp .USub (.Constant (.int 1) k q1) q2)) (tPart (tUn (rU fun i => .int (-i)) (tC (.int 1)))) := po_some (pe_un un_neg pe_int)
  refine wpAny_Slice (thn (po_none.run pins s1 σ H1 (fun o G => o = none ∧ G = H1) I1 ⟨rfl, rfl⟩) fun v1 s2 ⟨l, H2, I2, p1, el, e2⟩ => ?_)
  subst el e2
  refine thn (po_none.run pins s2 σ H2 (fun o G => o = none ∧ G = H2) I2 ⟨rfl, rfl⟩) fun v2 s3 ⟨u, H3, I3, p2, eu, e3⟩ => ?_
  subst eu e3
  refine thn (hst.run pins s3 σ H3 (fun o G => o = some (-1) ∧ G = H3) I3 ⟨1, rfl, -1, rfl, rfl, rfl⟩) fun v3 s4 ⟨o, H4, I4, p3, eo, e4⟩ => ?_
  subst eo e4
  have J : Inv X pins σ H4 { s4 with heap := s4.heap.push { cls := .type "slice", data := .fields #[v1, v2, v3] } } := I4.kept (t' := s4.toks) fun b ob z => Heap.get?_push_of_some _ z
  obtain ⟨its, r, ht, hz⟩ := J.tuple hx
  have hlen := r.length
  show wpAny (model X.prog X.w) X.A (subscriptTail e (.Slice none none (some (.UnaryOp .USub (.Constant (.int 1) k q1) q2)) q3) (.ref a) (.ref s4.heap.objs.size)) (EP X pins σ Q) X.xe { s4 with heap := s4.heap.push { cls := .type "slice", data := .fields #[v1, v2, v3] } }
  refine tail_any (ops := [.ref a, .ref s4.heap.objs.size]) ht.typeIs PyProof.Rows.slot_tuple_getitem.lookup ?_ (by with_unfolding_all rfl)
  refine tup_back ht (Heap.IsSliceOf.new _ v1 v2 v3) p1 p2 p3 ?_ (by rw [List.size_toArray]; omega)
  refine ⟨.ref _, _, J.laid (t' := s4.toks) (o := .tup xs.reverse) (fun b ob z => Heap.get?_push_of_some _ z) (Nat.le_refl _) ?_, rfl, q _ (J.hok.fresh (Nat.le_refl _))⟩
  exact ⟨by rw [List.length_reverse]; exact hz, _, r.reverse, IsTup.new _ _⟩
end LL

namespace LT
open PySem PySem.Spec PyProof.Rows L2 LL
section
variable {K : PySem.W.Frag} {G : List (Value × Option Addr × XV) → Prop} {E : EK}
theorem passE0N {X : Cx} : Passes (L2N.CX X.prog X.w) X E0 := fun _ _ _ _ _ _ _ h => by
  obtain ⟨_, _, _, _, _, _, _, _, _, _, _, _, hE⟩ := h
  exact hE.elim
theorem wide_mul' {v : Int} (h : v.natAbs < 2 ^ 5000) : CMulW v 10000000000000000000000000000000000000000000000000000000000000000 := wide_mul h (b := 300) (by decide) (by decide) (by decide) (by decide)
theorem nil_all {P : Tr → Prop} : ∀ x ∈ ([] : List Tr), P x := fun _ h => nomatch h
theorem rngT_mem {lo : Int} {n : Nat} {x : Tr} (h : x ∈ rngT lo n) : ∃ i : Nat, i < n ∧ x = .int (lo + i) := by
  unfold rngT at h
  obtain ⟨i, hi, rfl⟩ := List.mem_map.mp h
  exact ⟨i, List.mem_range.mp hi, rfl⟩
/-! ### zip -/
def zipT (us ws : List Tr) : List Tr := List.zipWith (fun x y => .tup [x, y]) us ws
theorem zipT_get {us ws : List Tr} {i : Nat} {x y : Tr} (h1 : us[i]? = some x) (h2 : ws[i]? = some y) : (zipT us ws)[i]? = some (.tup [x, y]) := by
  unfold zipT
  rw [List.getElem?_zipWith, h1, h2]
theorem zipT_at {us ws : List Tr} {i : Nat} {x : Tr} (h : (zipT us ws)[i]? = some x) : ∃ a b, us[i]? = some a ∧ ws[i]? = some b ∧ x = .tup [a, b] := by
  unfold zipT at h
  rw [List.getElem?_zipWith] at h
  split at h
  · rename_i a b ha hb
    cases h
    exact ⟨a, b, ha, hb, rfl⟩
  · cases h
theorem atI_last {us : List Tr} {x : Tr} {n : Nat} (h : us[n]? = some x) (hn : us.length = n + 1) : L2.atI us (-1) = some x := by
  have e : ixN us.length (-1) = some n := by
    unfold ixN
    rw [if_neg (by omega), hn]
    first
      | (rw [if_pos (by omega)]; congr 1; omega)
      | simp
  unfold L2.atI
  rw [e]
  exact h
theorem zipT_len {us ws : List Tr} : (zipT us ws).length = min us.length ws.length := by unfold zipT; rw [List.length_zipWith]
/-- a list or a tuple, as the machine has it -/
def isTupT : Tr → Bool
  | .tup _ => true
  | _ => false
theorem at_B {g : Gh} {H : Hp} {Ω : Om} {v : V} {t : Tr} {ts : List Tr} (o : OmOk K g H Ω) (d : VD K g.dr (NM g Ω) H v t) (h : asS t Ω = some ts) : ∃ a xs, v = .ref a ∧ SqB K (isTupT t) H a xs ∧ VDL K g.dr (NM g Ω) H xs ts ∧ ts.length ≤ 1000000 := by
  cases t with
  | tup us =>
    obtain ⟨a, xs, e, s, d, z⟩ := at_T (ts := ts) d h
    exact ⟨a, xs, e, s, d, z⟩
  | lst us =>
    obtain ⟨a, xs, e, s, _, d, z⟩ := at_L (ts := ts) o d h
    exact ⟨a, xs, e, s, d, z⟩
  | obj us =>
    obtain ⟨a, xs, e, s, _, d, z⟩ := at_L (ts := ts) o d h
    exact ⟨a, xs, e, s, d, z⟩
  | _ => cases h
theorem stays_B {g g' : Gh} {H1 H' : Hp} {Ω1 Ω' : Om} {t : Tr} {ts : List Tr} {a : Addr} (hg : g' = g ∨ ∃ D, H1 D = none ∧ g' = g.with D) (k : Keep g H1 Ω1 H' Ω') (o' : OmOk K g' H' Ω') (st : stay t ts Ω') (h : asS t Ω1 = some ts) (d : VD K g.dr (NM g Ω1) H1 (.ref a) t) : ∃ ys, SqB K (isTupT t) H' a ys ∧ VDL K g'.dr (NM g' Ω') H' ys ts := by
  cases t with
  | tup us =>
    obtain ⟨b, ys, e, s, dl, _⟩ := at_T (ts := ts) (vd_at hg k d) h
    cases e
    exact ⟨ys, s, dl⟩
  | lst us =>
    obtain ⟨ys, s, dl⟩ := stays_L (ts := ts) hg k o' st h d
    exact ⟨ys, s, dl⟩
  | obj us =>
    obtain ⟨ys, s, dl⟩ := stays_L (ts := ts) hg k o' st h d
    exact ⟨ys, s, dl⟩
  | _ => cases h
theorem itz_ok {g : Gh} {H1 : Hp} {Ω1 : Om} {t u : Tr} {ts us : List Tr} {a b : Addr} (h : asS t Ω1 = some ts) (d : VD K g.dr (NM g Ω1) H1 (.ref a) t) (h2 : asS u Ω1 = some us) (d2 : VD K g.dr (NM g Ω1) H1 (.ref b) u) : ItOk K g (ItzB K (isTupT t) (isTupT u) a b) (zipT ts us) H1 Ω1 (fun Ω => stay t ts Ω ∧ stay u us Ω) := fun g' hg i H' Ω' k o' st => by
  obtain ⟨xs, s1, l1⟩ := stays_B hg k o' st.1 h d
  obtain ⟨ys, s2, l2⟩ := stays_B hg k o' st.2 h2 d2
  have e1 := l1.len
  have e2 := l2.len
  rw [zipT_len]
  refine ⟨fun e => ⟨xs, ys, s1, s2, by omega, by omega, by omega⟩, fun hi => ⟨⟨xs, ys, xs[i]'(by omega), ys[i]'(by omega), s1, s2, List.getElem?_eq_getElem _, List.getElem?_eq_getElem _⟩, ?_⟩⟩
  rintro v H'' ⟨T, x, y, rfl, n, rfl, hx, hy⟩
  obtain ⟨tx, ex, dx⟩ := l1.get _ (hx xs s1)
  obtain ⟨ty, ey, dy⟩ := l2.get _ (hy ys s2)
  have kn : Keep g' H' Ω' (upd H' T (.tup [x, y])) Ω' := .new n
  have hk : Keep g H' Ω' (upd H' T (.tup [x, y])) Ω' := .new n
  exact ⟨hk, o'.new n, _, zipT_get ex ey, T, _, rfl, .inl ⟨NM.new o' n (not_pr o' n), upd_same⟩, .cons (dx.keep kn) (.one (dy.keep kn)), by simp⟩
def diZ (da : DA) : DI := fun ρ Ω P PX => da ρ Ω (fun vs Ω1 => ∃ t u ts us, vs = [t, u] ∧ asS t Ω1 = some ts ∧ asS u Ω1 = some us ∧ (ts.length ≤ 1000000 → us.length ≤ 1000000 → P (zipT ts us) (fun Ω => stay t ts Ω ∧ stay u us Ω) Ω1)) PX
theorem sim_iZ {ta : TA} {da : DA} (h : SimA K G E ta da) : SimI K G E (iZipB K ta) (diZ da) := fun g σ H ρ Ω P PX R hG r p q qx =>
  h g σ H ρ Ω _ PX _ hG r p (fun vs Ω1 ws H1 ⟨t, u, ts, us, e0, e1, e2, p1⟩ k1 o1 d1 => by
    subst e0
    obtain ⟨v, _, rfl, dv, w, _, rfl, dw, rfl⟩ := d1
    obtain ⟨a, xs, rfl, s1, l1, z1⟩ := at_B o1 dv e1
    obtain ⟨b, ys, rfl, s2, l2, z2⟩ := at_B o1 dw e2
    exact ⟨_, _, a, b, xs, ys, rfl, s1, s2, q _ _ Ω1 _ H1 (p1 z1 z2) k1 o1 (itz_ok e1 dv e2 dw)⟩) qx
/-! ### t[::-1] -/
def dRevT (de : DE) : DE := fun ρ Ω P PX => de ρ Ω (fun t Ω1 => ∃ ts, t = .tup ts ∧ P (.tup ts.reverse) Ω1) PX
theorem VDL.rv {dr : Option (Addr × Addr)} {F : Addr → Prop} {H : Hp} {xs : List V} {ts : List Tr} (d : VDL K dr F H xs ts) : VDL K dr F H xs.reverse ts.reverse := by
  have e := d.len
  refine VDL.of_all (by rw [List.length_reverse, List.length_reverse, e]) fun i x t h1 h2 => ?_
  have h3 := (List.getElem?_eq_some_iff.mp h1).1
  rw [List.length_reverse] at h3
  rw [List.getElem?_reverse h3] at h1
  rw [List.getElem?_reverse (by omega), ← e] at h2
  exact d.all _ x t h1 h2
theorem sim_revT {te : TE} {de : DE} (h : SimE K G E te de) : SimE K G E (tRevT K te) (dRevT de) := fun g σ H ρ Ω P PX Q hG R p q qx =>
  h g σ H ρ Ω _ PX _ hG R p (fun t Ω1 v H1 ⟨ts, e, p1⟩ k1 o1 d1 => by
    subst e
    obtain ⟨a, xs, rfl, s, dl, z⟩ := sqt d1
    exact ⟨a, xs, rfl, s, fun p n => new_tup o1 dl.rv (by rw [List.length_reverse]; exact z) p1 (q.at k1) n⟩) qx
/-! ### str(i) -/
def rStrI : List V → Hp → VK → Prop := fun xs H Q => ∃ i : Int, xs = [.int i] ∧ i.natAbs.log2 < 1920 ∧ Q (.str (toString i)) H
theorem call_strI {X : Cx} : CallR X (.type "str") rStrI := call_str_int
def dStrI : List Tr → Om → PT' → Prop := fun us Ω P => ∃ i : Int, us = [.int i] ∧ i.natAbs.log2 < 1920 ∧ P (.str (toString i)) Ω
theorem simc_strI : SimC K rStrI dStrI := fun g H Ω vs us P Q o d ⟨i, e, hz, p⟩ q => by
  subst e
  obtain ⟨v, _, rfl, dv, rfl⟩ := d
  exact ⟨i, by rw [show v = _ from dv], hz, q _ Ω _ H p .refl o rfl⟩
/-! ### isinstance(e, (C1, C2, ..)) in the suite that holds e -/
def rIsXT (K : PySem.W.Frag) (a D : Addr) (cls : Value) (d : Option Addr) : List V → Hp → VK → Prop := fun xs H Q => ∃ (dd tp : Addr) (cs : List V) (us : List Value) (b : Bool) (fs : List (Str × V)), cls = .ref D ∧ d = some dd ∧ xs = [.ref a, .ref tp] ∧ H tp = some (.tup cs) ∧ Paired ClsV cs us ∧ PySem.W.kitAny K (.ref D) us = some b ∧ H dd = some (.xd fs) ∧ Q (.bl b) H
theorem call_isXT {X : Cx} {p : Addr × Obj} {D : Addr} {cls : Value} {d : Option Addr} (hp : p ∈ X.pn) (C : ExcD X.K D) (hz : Zc cls d p.2) (hf : ∃ fs, p.2.data = .fields fs) : CallR X (.builtin "isinstance") (rIsXT X.K p.1 D cls d) := by
  rintro pins s σ H xs us Q I r ⟨dd, tp, cs, ws, b, fs, rfl, rfl, rfl, hT, k, e, hd, q⟩
  obtain ⟨u1, u2, rfl, r1, r2⟩ := vals2 r
  cases (show u1 = Value.ref p.1 from r1)
  cases (show u2 = Value.ref tp from r2)
  obtain ⟨hget, _⟩ := I.pin p (List.mem_append_left _ hp)
  have hx : ObjOk X.prog X.w H s.heap dd (.xd fs) := I.hok dd _ hd
  obtain ⟨mA, ⟨od, es, ep, ho, hr⟩, _⟩ := hx
  obtain ⟨vs, hv⟩ := hf
  have J : PySem.W.InstAt s.heap p.1 p.2 D (some od) := ⟨hget, hz.1, by unfold PySem.W.notCls; rw [hv] <;> rfl, by rw [hz.2]; exact ho⟩
  obtain ⟨_, its, rv, oo, h1, h2, n, h3⟩ := (show ObjOk X.prog X.w H s.heap tp (.tup cs) from I.hok tp _ hT)
  have e3 := ClsV.all k rv
  subst e3
  obtain ⟨oc, odd, dt, sl⟩ := oo
  simp only at h2 h3
  subst h2 h3
  exact PySem.W.kia_tup (PySem.W.kitx_exc C.hc C.hg C.hk C.hs C.ha C.hn C.ht C.hm) I.kIn J h1 e (fun z => nomatch z) fun tk => ⟨.bl b, H, I.tok tk, rfl, q⟩
/-- the classes of a tuple, one by one -/
def anyK (K : PySem.W.Frag) (t : Value) : List Tr → Bool → Prop
  | [], r => r = false
  | c :: cs, r => ∃ cv b, clsV c = some cv ∧ PySem.W.kitOne K t cv = some b ∧ if b = true then r = true else anyK K t cs r
def dIsXT (K : PySem.W.Frag) (a : Addr) (x : XV) : List Tr → Om → PT' → Prop := fun us Ω P => ∃ cs b, us = [.obj a, .tup cs] ∧ cs.all (fun c => (clsV c).isSome) = true ∧ anyK K (.ref (He.ga K x.cls)) cs b ∧ P (.bl b) Ω
theorem any_kit {K : PySem.W.Frag} {t : Value} {g : Gh} {Ω : Om} {H : Hp} : ∀ {cs : List Tr} {vs : List V} {b : Bool}, VDL K g.dr (NM g Ω) H vs cs → cs.all (fun c => (clsV c).isSome) = true → anyK K t cs b → ∃ us, Paired ClsV vs us ∧ PySem.W.kitAny K t us = some b
  | [], vs, b, d, _, h => by
    rw [show vs = [] from d, show b = false from h]
    exact ⟨[], .nil, kitAny_nil⟩
  | c :: cs, vs, b, d, ha, h => by
    obtain ⟨v, ws, rfl, d1, d2⟩ := d
    obtain ⟨cv, k, hc, hk, hr⟩ := h
    have ha' := Bool.and_eq_true_iff.mp (show ((clsV c).isSome && cs.all (fun c => (clsV c).isSome)) = true from ha)
    have hcv : ClsV v cv := by
      cases c with
      | ty n => cases hc; rw [show v = _ from d1]; exact .ty n
      | obj b => cases hc; rw [show v = _ from d1]; exact .own b
      | _ => cases hc
    cases k with
    | true =>
      rw [if_pos rfl] at hr
      subst hr
      have rest : ∀ {cs : List Tr} {ws : List V}, VDL K g.dr (NM g Ω) H ws cs → cs.all (fun c => (clsV c).isSome) = true → ∃ us, Paired ClsV ws us := by
        intro cs
        induction cs with
        | nil => intro ws d _; rw [show ws = [] from d]; exact ⟨[], .nil⟩
        | cons c cs ih =>
          intro ws d ha
          obtain ⟨v, ws, rfl, d1, d2⟩ := d
          have ha' := Bool.and_eq_true_iff.mp (show ((clsV c).isSome && cs.all (fun c => (clsV c).isSome)) = true from ha)
          obtain ⟨us, hu⟩ := ih d2 ha'.2
          obtain ⟨cv, hc⟩ := Option.isSome_iff_exists.mp ha'.1
          have hcv : ClsV v cv := by
            cases c with
            | ty n => cases hc; rw [show v = _ from d1]; exact .ty n
            | obj b => cases hc; rw [show v = _ from d1]; exact .own b
            | _ => cases hc
          exact ⟨cv :: us, .cons hcv hu⟩
      obtain ⟨us, hu⟩ := rest d2 ha'.2
      exact ⟨cv :: us, .cons hcv hu, kitAny_cons hk (fun z => nomatch z) fun _ => rfl⟩
    | false =>
      rw [if_neg Bool.false_ne_true] at hr
      obtain ⟨us, hu, hb⟩ := any_kit d2 ha'.2 hr
      exact ⟨cv :: us, .cons hcv hu, kitAny_cons hk (fun _ => hb) fun z => nomatch z⟩
theorem sim_isXT {a C : Addr} {cls : Value} {d : Option Addr} {x : XV} {te : TE} {ta : TA} {de : DE} {da : DA} (he : SimE K (GX G cls d x) E te de) (h : SimA K (GX G cls d x) E ta da) : SimE K (GX G cls d x) E (tCB (rIsXT K a C cls d) (tCons te (tCons (tTup ta) tNil))) (fun ρ Ω P PX => de ρ Ω (fun t Ω1 => da ρ Ω1 (fun cs Ω2 => cs.length ≤ 1000000 ∧ He.ga K x.cls = C ∧ dIsXT K a x [t, .tup cs] Ω2 P) PX) PX) := fun g σ H ρ Ω P PX Q hG R p q qx =>
  he g σ H ρ Ω _ PX _ hG R p (fun t Ω1 v H1 p1 k1 o1 d1 => h g σ H1 ρ Ω1 _ PX _ hG (R.keep k1 o1) p1 (fun cs Ω2 vs H2 ⟨hz, ec, cs', b, e, hall, hany, p2⟩ k2 o2 d2 => by
    cases e
    obtain ⟨r, er, _⟩ := hG
    obtain ⟨ecls, dd, fs, ed, nn, eh, en, dl⟩ := o2.ex (cls, d, x) (by rw [er]; exact List.mem_cons_self)
    obtain ⟨us, hu, hk⟩ := any_kit d2 hall hany
    refine ⟨by rw [d2.len]; exact size_ok hz, fun tp ntp => ?_⟩
    have k3 : Keep g H2 Ω2 (upd H2 tp (.tup vs)) Ω2 := .new ntp
    obtain rfl : v = .ref a := d1
    exact ⟨dd, tp, vs, us, b, fs, by rw [← ec]; exact ecls, ed, rfl, upd_same, hu, by rw [← ec]; exact hk, by rw [upd_ne (ne_of_none eh ntp)]; exact eh, q _ Ω2 _ _ p2 ((k1.trans k2).trans k3) (o2.new ntp) rfl⟩) (qx.at k1)) qx
/-! ### any comprehension -/
theorem lc_I {di : DI} {items : List Tr} {st : Om → Prop} {ρ : En} {Ω : Om} {dg : DG} {dt : DT} {del : DE} {vs : List Nat} {P : PT'} {PX : PXt} (hd : ∀ R : List Tr → (Om → Prop) → Om → Prop, (items.length ≤ 1000000 → R items st Ω) → di ρ Ω R PX) (hst : st Ω) (f : Tr → Tr) (b : Tr → Bool)
    (hf : ∀ x ∈ items, ∀ (Q : PT') (N : Om → Prop), (b x = true → Q (f x) Ω) → (b x = false → N Ω) → dg x (wipeT ρ vs) Ω (fun ρ2 Ω2 => dt ρ2 Ω2 (fun k Ω3 => if k = true then del ρ2 Ω3 Q nox else N Ω3) nox) nox) (h : items.length ≤ 1000000 → lstNew ((items.filter b).map f) Ω P) : dLc di dg dt del vs ρ Ω P PX :=
  hd _ fun hz => by
    refine ⟨hz, fun i acc Ω' => Ω' = Ω ∧ acc = ((items.take i).filter b).map f, ⟨rfl, rfl⟩, fun i acc Ω' e => e.1 ▸ hst, ?_, ?_⟩
    · rintro i x acc Ω' hx ⟨rfl, rfl⟩
      have e1 : items.take (i + 1) = items.take i ++ [x] := take_one hx
      refine hf x (List.mem_of_getElem? hx) (fun y Ω4 => Ω4 = Ω' ∧ ((items.take i).filter b).map f ++ [y] = ((items.take (i + 1)).filter b).map f) (fun Ω3 => Ω3 = Ω' ∧ ((items.take i).filter b).map f = ((items.take (i + 1)).filter b).map f) (fun hb => ⟨rfl, ?_⟩) (fun hb => ⟨rfl, ?_⟩)
      · rw [e1, List.filter_append, List.map_append, List.filter_cons, hb]; rfl
      · rw [e1, List.filter_append, List.map_append, List.filter_cons, hb]; exact (List.append_nil _).symm
    · rintro acc Ω' ⟨rfl, rfl⟩
      rw [List.take_length]
      exact h hz
theorem lc_M {di : DI} {items : List Tr} {st : Om → Prop} {ρ : En} {Ω : Om} {dg : DG} {del : DE} {vs : List Nat} {P : PT'} {PX : PXt} (hd : ∀ R : List Tr → (Om → Prop) → Om → Prop, (items.length ≤ 1000000 → R items st Ω) → di ρ Ω R PX) (hst : st Ω) (f : Tr → Tr)
    (hf : ∀ x ∈ items, ∀ (Q : PT') (N : Om → Prop), Q (f x) Ω → dg x (wipeT ρ vs) Ω (fun ρ2 Ω2 => dYes ρ2 Ω2 (fun k Ω3 => if k = true then del ρ2 Ω3 Q nox else N Ω3) nox) nox) (h : items.length ≤ 1000000 → lstNew (items.map f) Ω P) : dLc di dg dYes del vs ρ Ω P PX :=
  lc_I hd hst f (fun _ => true) (fun x hx Q N q _ => hf x hx Q N (q rfl)) (fun hz => by rw [List.filter_eq_self.mpr (fun _ _ => rfl)]; exact h hz)
/-- of whose items only a fact is known -/
theorem lc_A {di : DI} {items : List Tr} {st : Om → Prop} {ρ : En} {Ω : Om} {dg : DG} {dt : DT} {del : DE} {vs : List Nat} {P : PT'} {PX : PXt} (hd : ∀ R : List Tr → (Om → Prop) → Om → Prop, (items.length ≤ 1000000 → R items st Ω) → di ρ Ω R PX) (hst : st Ω) (A : Tr → Prop)
    (hf : ∀ x ∈ items, ∀ (Q : PT') (N : Om → Prop), (∀ y, A y → Q y Ω) → N Ω → dg x (wipeT ρ vs) Ω (fun ρ2 Ω2 => dt ρ2 Ω2 (fun k Ω3 => if k = true then del ρ2 Ω3 Q nox else N Ω3) nox) nox) (h : ∀ us : List Tr, (∀ y ∈ us, A y) → us.length ≤ items.length → items.length ≤ 1000000 → lstNew us Ω P) : dLc di dg dt del vs ρ Ω P PX :=
  hd _ fun hz => by
    refine ⟨hz, fun i acc Ω' => Ω' = Ω ∧ (∀ y ∈ acc, A y) ∧ acc.length ≤ i, ⟨rfl, fun _ h => (List.not_mem_nil h).elim, Nat.le_refl _⟩, fun i acc Ω' e => e.1 ▸ hst, ?_, ?_⟩
    · rintro i x acc Ω' hx ⟨rfl, ha, hl⟩
      refine hf x (List.mem_of_getElem? hx) (fun y Ω4 => Ω4 = Ω' ∧ (∀ z ∈ acc ++ [y], A z) ∧ (acc ++ [y]).length ≤ i + 1) (fun Ω3 => Ω3 = Ω' ∧ (∀ y ∈ acc, A y) ∧ acc.length ≤ i + 1) (fun y hy => ⟨rfl, fun z hz => ?_, ?_⟩) ⟨rfl, ha, Nat.le_succ_of_le hl⟩
      · rcases List.mem_append.mp hz with hz | hz
        · exact ha z hz
        · rw [List.mem_singleton.mp hz]; exact hy
      · rw [List.length_append]
        exact Nat.succ_le_succ hl
    · rintro acc Ω' ⟨rfl, ha, hl⟩
      exact h acc ha hl hz
/-- any loop -/
theorem for_I {di : DI} {items : List Tr} {st : Om → Prop} {dg : DG} {db : DS} {D : DN} {ρ : En} {Ω : Om} (hd : ∀ R : List Tr → (Om → Prop) → Om → Prop, (items.length ≤ 1000000 → R items st Ω) → di ρ Ω R (fun y Ω' => D.ex ρ y Ω')) (W : Nat → En → Om → Prop) (w0 : W 0 ρ Ω) (wst : ∀ i ρ' Ω', W i ρ' Ω' → st Ω')
    (step : items.length ≤ 1000000 → ∀ i x ρ' Ω', items[i]? = some x → W i ρ' Ω' → dg x ρ' Ω' (fun ρ2 Ω2 => db { D with nx := W (i + 1), ct := W (i + 1), bk := D.nx } ρ2 Ω2) nox) (fin : ∀ ρ' Ω', W items.length ρ' Ω' → D.nx ρ' Ω') : dFor di dg db D ρ Ω :=
  hd _ fun hz => ⟨W, w0, wst, step hz, fin⟩
/-! ### a cell becomes data ahead of a statement -/
def tMk (n : Nat) (t : TS) : TS := t
theorem ps_mk {X : Cx} {s : Stmt} {t : TS} {n : Nat} (h : PS X s t) : PS X s (tMk n t) := h
theorem sim_mk {n : Nat} {t : TS} {d : DS} (h : SimS K G E t d) : SimS K G E (tMk n t) (dThaw n d) := sim_thaw (ts := t) h
end
end LT

namespace LT
open PySem PySem.Spec PyProof.Rows L2 LL
/-! ### cells that are lent to a call as data -/
mutual
/-- the second is the first, its lists read where they are cells -/
inductive Drf (Ω : Om) : Tr → Tr → Prop
  | same (t : Tr) : Drf Ω t t
  | cell {a : Addr} {ts us : List Tr} : Ω a = some (.lst ts) → DrfL Ω ts us → Drf Ω (.obj a) (.lst us)
  | tup {ts us : List Tr} : DrfL Ω ts us → Drf Ω (.tup ts) (.tup us)
  | lst {ts us : List Tr} : DrfL Ω ts us → Drf Ω (.lst ts) (.lst us)
inductive DrfL (Ω : Om) : List Tr → List Tr → Prop
  | nil : DrfL Ω [] []
  | cons {t u : Tr} {ts us : List Tr} : Drf Ω t u → DrfL Ω ts us → DrfL Ω (t :: ts) (u :: us)
end
theorem DrfL.same {Ω : Om} : ∀ (ts : List Tr), DrfL Ω ts ts
  | [] => .nil
  | t :: ts => .cons (.same t) (DrfL.same ts)
theorem DrfL.len {Ω : Om} : ∀ {ts us : List Tr}, DrfL Ω ts us → ts.length = us.length
  | [], _, .nil => rfl
  | _ :: _, _, .cons _ h => by rw [List.length_cons, List.length_cons, h.len]
def noΩ : Om := fun _ => none
theorem NM.lent {g : Gh} {Ω : Om} {b : Addr} (h : NM g Ω b) : NM g noΩ b := ⟨rfl, h.2⟩
section
variable {K : PySem.W.Frag} {g : Gh} {H H' : Hp} {Ω Ω' : Om}
theorem OmOk.notdr (o : OmOk K g H Ω) {a : Addr} {c : Cell} (h : Ω a = some c) : ∀ d, g.dr ≠ some (d, a) := fun d e => by
  obtain ⟨_, _, _, _, _, _, _, _, h7, _⟩ := o.dr d a e
  rw [h7] at h; cases h
mutual
theorem VD.lent (o : OmOk K g H Ω) : ∀ {v : V} (t u : Tr), Drf Ω t u → VD K g.dr (NM g Ω) H v t → VD K g.dr (NM g noΩ) H v u
  | v, t, _, .same _, d => d.imp fun _ _ f e => ⟨f.lent, e⟩
  | v, _, _, .cell (a := a) (ts := ts) (us := us) h r, d => by
    obtain ⟨np, xs, e, dx, hz⟩ := o.ce a _ h
    exact ⟨a, xs, d, ⟨rfl, o.notdr h, np⟩, e, VDL.lent o ts us r dx, by rw [← r.len]; exact hz⟩
  | v, _, _, .tup (ts := ts) (us := us) r, d => by
    obtain ⟨a, xs, e, ha, dx, hz⟩ := d
    exact ⟨a, xs, e, ha.imp (fun z => ⟨z.1.lent, z.2⟩) id, VDL.lent o ts us r dx, by rw [← r.len]; exact hz⟩
  | v, _, _, .lst (ts := ts) (us := us) r, d => by
    obtain ⟨a, xs, e, ha, he, dx, hz⟩ := d
    exact ⟨a, xs, e, ha.lent, he, VDL.lent o ts us r dx, by rw [← r.len]; exact hz⟩
theorem VDL.lent (o : OmOk K g H Ω) : ∀ {v : List V} (t u : List Tr), DrfL Ω t u → VDL K g.dr (NM g Ω) H v t → VDL K g.dr (NM g noΩ) H v u
  | v, _, _, .nil, d => d
  | v, _, _, .cons (t := t) (u := u) (ts := ts) (us := us) h r, d => by
    obtain ⟨x, xs, e, d1, d2⟩ := d
    exact ⟨x, xs, e, VD.lent o t u h d1, VDL.lent o ts us r d2⟩
end
theorem OmOk.lent (o : OmOk K g H Ω) : OmOk K g H noΩ where
  dr := fun d s e => by
    obtain ⟨c, ns, h1, h2, h3, h4, h5, h6, h7, h8, p⟩ := o.dr d s e
    exact ⟨c, ns, h1, h2, h3, h4, h5, rfl, rfl, rfl, p⟩
  ce := fun a c e => by cases e
  ex := fun p hp => by
    obtain ⟨e, dd, fs, e1, n, e2, e3, e4⟩ := o.ex p hp
    exact ⟨e, dd, fs, e1, n.lent, e2, e3, e4.imp fun _ _ f e => ⟨f.lent, e⟩⟩
  pt := o.pt
/-- what was lent is as it was -/
theorem Keep.back (k : Keep g H noΩ H' Ω') : Keep g H Ω H' Ω := fun b o hb hd e => ⟨(k b o rfl hd e).1, hb⟩
theorem OmOk.back (o : OmOk K g H Ω) (o' : OmOk K g H' Ω') (k : Keep g H noΩ H' Ω') : OmOk K g H' Ω where
  dr := fun d s e => (o.dr d s e).imp (o'.dr d s e).drw.st (fun b u hb _ q => (k b u rfl (fun d' e' => by rw [e] at e'; cases e'; exact hb rfl) q).1) fun _ hb _ => hb
  ce := fun a c e => by
    obtain ⟨u, q⟩ := (o.ce a c e).2.tracked
    exact ⟨(o.ce a c e).1, (o.ce a c e).2.imp (by rw [q]; exact (k a u rfl (o.notdr e) q).1) fun b u f q => ⟨f, (k b u rfl f.2.1 q).1⟩⟩
  ex := fun p hp => (o.ex p hp).keep k.back
  pt := fun b hb => o'.pt b hb
/-- what is no cell's kind -/
def noCell : HO → Bool
  | .lst _ => false
  | .dK _ => false
  | .ins _ _ _ => false
  | _ => true
theorem NM.back (o : OmOk K g H Ω) (k : Keep g H noΩ H' Ω') {b : Addr} {u : HO} (f : NM g Ω' b) (e : H' b = some u) (n : noCell u = true) : NM g Ω b := by
  refine ⟨?_, f.2⟩
  cases h : Ω b with
  | none => rfl
  | some c =>
    have ce := (o.ce b c h).2
    have nd := o.notdr h
    exfalso
    cases c with
    | lst ts => obtain ⟨xs, q, _⟩ := ce; rw [(k b _ rfl nd q).1] at e; cases e; cases n
    | dic ks ts => obtain ⟨xs, q, _⟩ := ce; rw [(k b _ rfl nd q).1] at e; cases e; cases n
    | ins C dx ns ts => obtain ⟨xs, q, _⟩ := ce; rw [(k b _ rfl nd q).1] at e; cases e; cases n
mutual
/-- no list and no dict in it -/
def tupT : Tr → Bool
  | .lst _ => false
  | .dic _ _ => false
  | .tup ts => tupTL ts
  | _ => true
def tupTL : List Tr → Bool
  | [] => true
  | t :: ts => tupT t && tupTL ts
end
mutual
theorem VD.back (o : OmOk K g H Ω) (k : Keep g H noΩ H' Ω') : ∀ {v : V} (t : Tr), tupT t = true → VD K g.dr (NM g Ω') H' v t → VD K g.dr (NM g Ω) H' v t
  | _, .non, _, h => h
  | _, .bl _, _, h => h
  | _, .int _, _, h => h
  | _, .str _, _, h => h
  | _, .tup ts, n, h => by
    obtain ⟨a, xs, e, ha, dx, hz⟩ := h
    exact ⟨a, xs, e, ha.imp (fun z => ⟨NM.back o k z.1 z.2 rfl, z.2⟩) id, VDL.back o k ts n dx, hz⟩
  | _, .obj a, _, h => h
  | _, .drw, _, h => h
  | _, .ty n, _, h => h
theorem VDL.back (o : OmOk K g H Ω) (k : Keep g H noΩ H' Ω') : ∀ {v : List V} (t : List Tr), tupTL t = true → VDL K g.dr (NM g Ω') H' v t → VDL K g.dr (NM g Ω) H' v t
  | _, [], _, h => h
  | _, t :: ts, n, h => by
    obtain ⟨v, vs, e, d1, d2⟩ := h
    have n' := Bool.and_eq_true_iff.mp (show (tupT t && tupTL ts) = true from n)
    exact ⟨v, vs, e, VD.back o k t n'.1 d1, VDL.back o k ts n'.2 d2⟩
end
theorem XR.back (o : OmOk K g H Ω) (k : Keep g H noΩ H' Ω') {cls : Value} {d : Option Addr} {x : XV} (h : XR K g Ω' H' cls d x) (n : tupTL x.ts = true) : XR K g Ω H' cls d x := by
  obtain ⟨e, dd, fs, e1, nn, e2, e3, e4⟩ := h
  exact ⟨e, dd, fs, e1, NM.back o k nn e2 rfl, e2, e3, VDL.back o k _ n e4⟩
variable {G : List (Value × Option Addr × XV) → Prop} {E : EK}
/-- the mark of a call to which cells are lent -/
def tBor (t : TE) : TE := t
theorem pe_bor {X : Cx} {e : Expr} {t : TE} (h : PE X e t) : PE X e (tBor t) := h
def dBor (P : Pw) (n : Nat) (da : DA) : DE := fun ρ Ω Q PX => da ρ Ω (fun ts Ω1 => ∃ us, DrfL Ω1 ts us ∧ us.length = n ∧ P us noΩ (fun t _ => tupT t = true ∧ Q t Ω1) (fun x _ => tupTL x.ts = true ∧ PX x Ω1)) PX
def dBor0 (P : Pw) (n : Nat) (da : DA) : DE := fun ρ Ω Q PX => da ρ Ω (fun ts Ω1 => ∃ us, DrfL Ω1 ts us ∧ us.length = n ∧ P us noΩ (fun t _ => tupT t = true ∧ Q t Ω1) nox) PX
theorem After.lent {P : PT'} {Q : VK} (o : OmOk K g H Ω) (q : After K g H Ω P Q) : After K g H noΩ (fun t _ => tupT t = true ∧ P t Ω) Q := fun t Ω' v H' ⟨n, p⟩ k o' d => q t Ω v H' p k.back (o.back o' k) (VD.back o k t n d)
theorem AfterX.lent {P : PXt} {Q : XK} (o : OmOk K g H Ω) (q : AfterX K g H Ω P Q) : AfterX K g H noΩ (fun x _ => tupTL x.ts = true ∧ P x Ω) Q := fun x Ω' c d H' ⟨n, p⟩ k o' r => q x Ω c d H' p k.back (o.back o' k) (r.back o k n)
theorem sim_bor {P : Pw} {n : Nat} {E1 : XK} {ta : TA} {da : DA} (ha : SimA K G (fun _ => E1) ta da) : SimE K G (fun _ => E1) (tBor (tCall (spD K P n) [] E1 ta)) (dBor P n da) := fun g σ H ρ Ω Q PX QQ hG R h q qx =>
  ha g σ H ρ Ω _ PX _ hG R h (fun ts Ω1 vs H1 ⟨us, r, hl, p⟩ k1 o1 d1 => by rw [List.append_nil]; exact ⟨g, noΩ, us, _, _, hl, VDL.lent o1 ts us r d1, o1.lent, p, (q.at k1).lent o1, (qx.at k1).lent o1⟩) qx
theorem sim_bor0 {P : Pw} {n : Nat} {ta : TA} {da : DA} (ha : SimA K G E ta da) : SimE K G E (tBor (tCall (spD K P n) [] E0 ta)) (dBor0 P n da) := fun g σ H ρ Ω Q PX QQ hG R h q qx =>
  ha g σ H ρ Ω _ PX _ hG R h (fun ts Ω1 vs H1 ⟨us, r, hl, p⟩ k1 o1 d1 => by rw [List.append_nil]; exact ⟨g, noΩ, us, _, nox, hl, VDL.lent o1 ts us r d1, o1.lent, p, (q.at k1).lent o1, AfterX.nox⟩) qx
theorem sim_borS {P : Pw} {n : Nat} {ta : TA} {da : DA} (ha : SimA K G E ta da) : SimE K G E (tBor (tCallS (spD K P n) E ta)) (dBor P n da) := fun g σ H ρ Ω Q PX QQ hG R h q qx =>
  ha g σ H ρ Ω _ PX _ hG R h (fun ts Ω1 vs H1 ⟨us, r, hl, p⟩ k1 o1 d1 => ⟨g, noΩ, us, _, _, hl, VDL.lent o1 ts us r d1, o1.lent, p, (q.at k1).lent o1, (qx.at k1).lent o1⟩) qx
/-! ### a cell that is asked no more is dropped -/
def tFg (t : TS) : TS := t
theorem ps_fg {X : Cx} {s : Stmt} {t : TS} (h : PS X s t) : PS X s (tFg t) := h
def dForget (d : DS) : DS := fun D ρ Ω => d D ρ Ω ∨ ∃ a, d D ρ (cut Ω a)
theorem sim_fg {t : TS} {d : DS} (h : SimS K G E t d) : SimS K G E (tFg t) (dForget d) := fun g σ H ρ Ω D DD hG R p e => by
  rcases p with p | ⟨a, p⟩
  · exact h g σ H ρ Ω D DD hG R p e
  · exact h g σ H ρ (cut Ω a) D DD hG (R.keep .freeze R.om.freeze) p (e.at .freeze)
theorem fg_new {d : DS} {D : DN} {ρ : En} {Ω : Om} {a : Addr} {c : Cell} (ha : Ω a = none) (q : d D ρ Ω) : dForget d D ρ (put Ω a c) := .inr ⟨a, by rw [cut_put ha]; exact q⟩
end
end LT

namespace LT
open PySem PySem.Spec PyProof.Rows L2 L2H LL
/-! ### a def that is called within an except suite, on the exception that the suite holds -/
abbrev Pz := Addr → XV → Pw
/-- a: the exception; x: its value -/
def spZ (K : PySem.W.Frag) (P : Pz) (n : Nat) : Addr → Addr → Addr → Sp := fun a D dd vs H Q _ => ∃ (g : Gh) (Ω : Om) (ts : List Tr) (PQ : PT') (x : XV) (r : List (Value × Option Addr × XV)), g.ex = (.ref D, some dd, x) :: r ∧ ts.length = n ∧ VDL K g.dr (NM g Ω) H vs ts ∧ OmOk K g H Ω ∧ P a x ts Ω PQ nox ∧ After K g H Ω PQ Q
section
variable {K : PySem.W.Frag} {G : List (Value × Option Addr × XV) → Prop} {E : EK}
/-- the call's reading -/
def dCallZ (a : Addr) (x : XV) (P : Pz) (n : Nat) (da : DA) : DE := fun ρ Ω Q PX => da ρ Ω (fun ts Ω1 => ts.length = n ∧ P a x ts Ω1 Q nox) PX
theorem sim_callZ {a : Addr} {cls : Value} {d : Option Addr} {x : XV} {P : Pz} {n : Nat} {ta : TA} {da : DA} (ha : SimA K (GX G cls d x) E ta da) : SimE K (GX G cls d x) E (tCallZ cls d a (spZ K P n) ta) (dCallZ a x P n da) := fun g σ H ρ Ω Q PX QQ hG R h q qx =>
  ha g σ H ρ Ω _ PX _ hG R h (fun ts Ω1 vs H1 ⟨hl, p⟩ k1 o1 d1 => by
    obtain ⟨r, er, _⟩ := hG
    obtain ⟨ecls, dd, fs, ed, _⟩ := o1.ex (cls, d, x) (by rw [er]; exact List.mem_cons_self)
    exact ⟨_, dd, ecls, ed, g, Ω1, ts, Q, x, r, by rw [er, show cls = _ from ecls, show d = _ from ed], hl, d1, o1, p, q.at k1⟩) qx
theorem dokMkZ {X : Cx} {body : List Stmt} {E : XK} {cls : Value} {d : Option Addr} {Q : (XV → DS) → Prop} {t : TS} {ds : XV → DS} (term : PSs X body t) (sim : ∀ x, SimS K (GX (fun _ => True) cls d x) (fun _ => E) t (ds x)) (go : Q ds) : ∃ (t : TS) (ds : XV → DS), PSs X body t ∧ (∀ x, SimS K (GX (fun _ => True) cls d x) (fun _ => E) t (ds x)) ∧ Q ds := ⟨t, ds, term, sim, go⟩
theorem dokZ {P : Program} {w : World} {mg : Str → Option Value} {base : Heap} {xn qual : Str} {params : Arguments} {body : List Stmt} {sc : Scope} {f : Addr} {fd : FuncData} {N ps : List Str} {k : Nat} {C : Str} {Pd : Pz} (F : FunD K xn qual params body sc [] [] f fd) (S : FnScope N ps sc)
    (hC : ∀ a x ts Ω Q, Pd a x ts Ω Q nox → x.cls = C)
    (h : ∀ (cdv : Value) (A : Around) (outer : List Env) (s : Shared) (H : Hp) (E : XK) (p : Addr × Obj) (cls : Value) (d : Option Addr), Zc cls d p.2 → (∃ fs, p.2.data = .fields fs) → RoomH k (A.deeper (envOfC qual sc s.heap.objs.size f cdv)) → ∃ (t : TS) (ds : XV → DS), PSs (cxH CX0 P w K mg base N qual sc f cdv A outer s H E p) body t ∧ (∀ x, SimS K (GX (fun _ => True) cls d x) (fun _ => E) t (ds x)) ∧
      ∀ x ts Ω PQ, x.cls = C → ts.length = ps.length → Pd p.1 x ts Ω PQ nox → ds x { nx := fun _ Ω' => PQ .non Ω', rt := PQ, ex := fun _ _ _ => False } (ts.map some ++ List.replicate (N.length - ps.length) none) Ω) :
    FnZ P w K mg base (k + 1) f fd ps (spZ K Pd ps.length) := by
  refine okZ F S (fun a D dd vs H Q E ⟨g, Ω, ts, PQ, x, r, _, hl, d, _⟩ => by rw [d.len]; exact hl) (fun cdv A outer s H vs Q E p D dd hr hz hf hsp => ?_)
  obtain ⟨g, Ω, ts, PQ, x, r, er, hl, d, o, pp, q⟩ := hsp
  obtain ⟨t, ds, h1, h2, h3⟩ := h cdv A outer s H E p (.ref D) (some dd) hz hf hr
  refine ⟨t, h1, h2 x g _ H _ Ω _ _ ⟨r, er, trivial⟩ ⟨o, ?_, fun i u e => ?_⟩ (h3 x ts Ω PQ (hC _ _ _ _ _ pp) hl pp) ⟨fun ρ' Ω' σ' H' p k r => q _ Ω' _ H' p k r.om rfl, q, fun _ _ _ _ z => z.elim, fun _ _ _ _ z => z.elim, fun _ _ _ _ _ _ _ z => z.elim⟩⟩
  · show (vs.map some ++ List.replicate (N.length - vs.length) none).length = _
    rw [List.length_append, List.length_append, List.length_map, List.length_map, List.length_replicate, List.length_replicate, d.len, hl]
  · show ∃ v, (vs.map some ++ List.replicate (N.length - vs.length) none)[i]? = some (some v) ∧ _
    rw [List.getElem?_append] at e ⊢
    rw [List.length_map] at e ⊢
    rw [d.len]
    split at e
    · rename_i hlt
      rw [if_pos hlt]
      rw [List.getElem?_map] at e ⊢
      cases et : ts[i]? with
      | none => rw [et] at e; cases e
      | some t' =>
        rw [et] at e
        cases e
        obtain ⟨v, ev, dv⟩ := d.get' et
        exact ⟨v, by rw [ev]; rfl, dv⟩
    · have := List.mem_of_getElem? e
      rw [List.mem_replicate] at this
      exact absurd this.2 (by simp)
end
end LT

namespace LT
open PySem PySem.Spec PyProof.Rows L2 LL
section
variable {K : PySem.W.Frag} {G : List (Value × Option Addr × XV) → Prop} {E : EK}
/-! ### d[k] = v, d a dict's cell -/
def putL (ks : List Key) (ts : List Tr) (k : Key) (v : Tr) : List (Key × Tr) := putT (ks.zip ts) k v
def dDPut (dd dk dv : DE) : DS := fun D ρ Ω => dv ρ Ω (fun v Ω1 => dd ρ Ω1 (fun x Ω2 => dk ρ Ω2 (fun y Ω3 => ∃ a ks ts k, x = .obj a ∧ keyT y = some k ∧ Ω3 a = some (.dic ks ts) ∧ ts.length + 1 ≤ 1000000 ∧ D.nx ρ (put Ω3 a (.dic ((putL ks ts k v).map (·.1)) ((putL ks ts k v).map (·.2))))) (fun y Ω' => D.ex ρ y Ω')) (fun y Ω' => D.ex ρ y Ω')) (fun y Ω' => D.ex ρ y Ω')
theorem sim_dput {td tk tv : TE} {dd dk dv : DE} (hd : SimE K G E td dd) (hk : SimE K G E tk dk) (hv : SimE K G E tv dv) : SimS K G E (sDPut td tk tv) (dDPut dd dk dv) := fun g σ H ρ Ω D DD hG R h e => by
  refine hv g σ H ρ Ω _ _ _ hG R h (fun v Ω1 vv H1 h1 k1 o1 d1 => ?_) (e.exx R)
  have R1 := R.keep k1 o1
  refine hd g σ H1 ρ Ω1 _ _ _ hG R1 h1 (fun x Ω2 xv H2 h2 k2 o2 d2 => ?_) ((e.at k1).exx R1)
  have R2 := R1.keep k2 o2
  refine hk g σ H2 ρ Ω2 _ _ _ hG R2 h2 (fun y Ω3 yv H3 ⟨a, ks, ts, k, ex, ek, hc, hz, p⟩ k3 o3 d3 => ?_) ((e.at (k1.trans k2)).exx R2)
  subst ex
  obtain rfl : xv = .ref a := d2
  obtain rfl := vd_key d3 ek
  obtain ⟨xs, h4, h5, h6, h7⟩ := (o3.ce a _ hc).2
  have kk := (k1.trans k2).trans k3
  have hl5 := h5.len
  have hzl : (ks.zip xs).length = ts.length := by rw [List.length_zip]; omega
  refine ⟨a, _, rfl, DPut.k h4 (by rw [hzl]; exact size_lt h7), ?_⟩
  have kv : KVD K g.dr (NM g Ω3) H3 (ks.zip xs) (ks.zip ts) := by
    refine ⟨by rw [List.map_fst_zip (by omega), List.map_fst_zip (by omega)], ?_⟩
    rw [List.map_snd_zip (by omega), List.map_snd_zip (by omega)]
    exact h5
  have kv2 := KVD.put (k := k) (d1.keep (k2.trans k3)) kv
  have kw : Keep g H3 Ω3 (upd H3 a (.dK (putK (ks.zip xs) k vv))) (put Ω3 a (.dic ((putL ks ts k v).map (·.1)) ((putL ks ts k v).map (·.2)))) := .write hc
  have hlen : (putL ks ts k v).length ≤ ts.length + 1 := by
    have := putT_len (kvs := ks.zip ts) (k := k) (t := v)
    rw [List.length_zip] at this
    unfold putL
    omega
  have o4 : OmOk K g (upd H3 a (.dK (putK (ks.zip xs) k vv))) (put Ω3 a (.dic ((putL ks ts k v).map (·.1)) ((putL ks ts k v).map (·.2)))) := by
    refine o3.write hc ⟨(putK (ks.zip xs) k vv).map (·.2), ?_, kv2.2.keep kw, by simp, by rw [List.length_map]; omega⟩
    rw [upd_same]
    have e1 : (putL ks ts k v).map (·.1) = (putK (ks.zip xs) k vv).map (·.1) := kv2.1.symm
    rw [e1, LT.zip_fst_snd]
  exact e.nx ρ _ σ _ p (kk.trans kw) (R.keep (kk.trans kw) o4)
/-! ### sorted(set(t)) -/
def dSortS (da : DA) : DE := fun ρ Ω P PX => da ρ Ω (fun us Ω1 => ∃ (t : Tr) (ns ds : List Int), us = [t] ∧ asT t = some (ns.map Tr.int) ∧ ds.length ≤ 4000 ∧ (∀ k ∈ ns, k ∈ ds) ∧ ∀ ms : List Int, ms.Pairwise (· < ·) → (∀ k, k ∈ ms ↔ k ∈ ns) → ms.length ≤ 1000000 → lstNew (ms.map Tr.int) Ω1 P) PX
theorem sim_sortS {w : World} {ta : TA} {da : DA} (ha : SimA K G E ta da) : SimE K G E (tCB (rSortS w) (tCons (tCB (rSetT K w) ta) tNil)) (dSortS da) := fun g σ H ρ Ω P PX Q hG R h q qx =>
  ha g σ H ρ Ω _ PX _ hG R h (fun us Ω1 vs H1 ⟨t, ns, ds, e, ht, few, sub, p⟩ k1 o1 d1 => by
    subst e
    obtain ⟨v, _, rfl, dv, rfl⟩ := d1
    obtain ⟨a, xs, rfl, s, dl, hz⟩ := at_T dv ht
    rw [vdl_ints dl] at s
    refine ⟨a, ns, ds, rfl, s, by unfold scanBound; omega, sub, fun b c hb => ?_⟩
    refine ⟨b, _, c, rfl, upd_same, fun ms pa hs hm hp => ?_⟩
    have k2 : Keep g H1 Ω1 (upd H1 b (SetO w b (fun j => decide (j ∈ ns)) c)) Ω1 := .new hb
    have o2 := o1.new (o := SetO w b (fun j => decide (j ∈ ns)) c) hb
    have hm' : ∀ k, k ∈ ms ↔ k ∈ ns := fun k => by rw [hm k]; exact decide_eq_true_iff
    have len : ms.length ≤ 1000000 := by
      have := nodup_le (l := ms) (ds := ds) (hs.imp fun h => Int.ne_of_lt h) fun k hk => sub k ((hm' k).mp hk)
      omega
    exact new_lst o2 vdl_of_ints (by rw [List.length_map]; exact len) (p ms hs hm' len) (q.at (k1.trans k2)) hp) qx
/-! ### cells that are asked no more -/
def cuts (Ω : Om) : List Addr → Om
  | [] => Ω
  | a :: as => cut (cuts Ω as) a
theorem Keep.freezes {g : Gh} {H : Hp} {Ω : Om} : ∀ as : List Addr, Keep g H Ω H (cuts Ω as)
  | [] => .refl
  | a :: as => (Keep.freezes as).trans .freeze
theorem OmOk.freezes {g : Gh} {H : Hp} {Ω : Om} (o : OmOk K g H Ω) : ∀ as : List Addr, OmOk K g H (cuts Ω as)
  | [] => o
  | a :: as => (OmOk.freezes o as).freeze
/-- return: what is asked no more is dropped -/
def dRetF (de : DE) : DS := fun D ρ Ω => de ρ Ω (fun t Ω' => ∃ as, D.rt t (cuts Ω' as)) (fun x Ω' => D.ex ρ x Ω')
theorem sim_retF {te : TE} {de : DE} (h : SimE K G E te de) : SimS K G E (tRet te) (dRetF de) := fun g σ H ρ Ω D DD hG R p e => h g σ H ρ Ω _ _ _ hG R p (fun t Ω' v H' ⟨as, q⟩ k o d => e.rt t _ v H' q (k.trans (.freezes as)) (o.freezes as) (d.keep (.freezes as))) (e.exx R)
theorem retF_0 {t : Tr} {Ω : Om} {P : PT'} (q : P t Ω) : ∃ as, P t (cuts Ω as) := ⟨[], q⟩
theorem retF_1 {t : Tr} {Ω : Om} {P : PT'} {a : Addr} {c : Cell} (ha : Ω a = none) (q : P t Ω) : ∃ as, P t (cuts (put Ω a c) as) := ⟨[a], by show P t (cut (put Ω a c) a); rw [cut_put ha]; exact q⟩
theorem retF_2 {t : Tr} {Ω : Om} {P : PT'} {a b : Addr} {c d : Cell} (ha : Ω a = none) (hb : put Ω a c b = none) (q : P t Ω) : ∃ as, P t (cuts (put (put Ω a c) b d) as) := ⟨[a, b], by show P t (cut (cut (put (put Ω a c) b d) b) a); rw [cut_put hb, cut_put ha]; exact q⟩
/-- the same ahead of a statement -/
def tFgl (t : TS) : TS := t
theorem ps_fgl {X : Cx} {s : Stmt} {t : TS} (h : PS X s t) : PS X s (tFgl t) := h
def dForgets (d : DS) : DS := fun D ρ Ω => ∃ as, d D ρ (cuts Ω as)
theorem sim_fgl {t : TS} {d : DS} (h : SimS K G E t d) : SimS K G E (tFgl t) (dForgets d) := fun g σ H ρ Ω D DD hG R ⟨as, p⟩ e => h g σ H ρ (cuts Ω as) D DD hG (R.keep (.freezes as) (R.om.freezes as)) p (e.at (.freezes as))
/-- a dict's cell becomes data -/
theorem freezeD {g : Gh} {σ : L2.St} {H : Hp} {ρ : En} {Ω : Om} {i : Nat} {a : Addr} {ks : List Key} {ts : List Tr} (R : Rel K g σ H ρ Ω) (h1 : ρ[i]? = some (some (.obj a))) (h2 : Ω a = some (.dic ks ts)) : Rel K g σ H (ρ.set i (some (.dic ks ts))) (cut Ω a) := by
  have R1 := R.keep Keep.freeze (R.om.freeze (a := a))
  obtain ⟨v, ev, dv⟩ := R.env i _ h1
  obtain ⟨xs, h3, h4, h5⟩ := (R.om.ce a _ h2).2
  have hn : NM g (cut Ω a) a := ⟨cut_same, R.om.notdr h2, (R.om.ce a _ h2).1⟩
  have R2 := R1.set (v := v) (t := .dic ks ts) (i := i) ⟨a, xs, dv, hn, h3, h4.keep Keep.freeze, h5⟩
  have es : σ.set i (some v) = σ := by
    apply List.ext_getElem?
    intro j
    by_cases hj : i = j
    · subst hj
      rw [List.getElem?_set_self ((List.getElem?_eq_some_iff.mp ev).1), ev]
    · rw [List.getElem?_set_ne hj]
  rw [es] at R2
  exact R2
def dThawD (i : Nat) (d : DS) : DS := fun D ρ Ω => d D ρ Ω ∨ ∃ a ks ts, ρ[i]? = some (some (.obj a)) ∧ Ω a = some (.dic ks ts) ∧ d D (ρ.set i (some (.dic ks ts))) (cut Ω a)
theorem sim_thawD {i : Nat} {ts : TS} {ds : DS} (h : SimS K G E ts ds) : SimS K G E ts (dThawD i ds) := fun g σ H ρ Ω D DD hG R p e => by
  rcases p with p | ⟨a, ks, us, h1, h2, p⟩
  · exact h g σ H ρ Ω D DD hG R p e
  · exact h g σ H _ _ D DD hG (freezeD R h1 h2) p (e.at Keep.freeze)
def dRetTD (i : Nat) (de : DE) : DS := dThawD i (dRet de)
theorem sim_retThawD {i : Nat} {te : TE} {de : DE} (h : SimE K G E te de) : SimS K G E (tRet te) (dRetTD i de) := sim_thawD (sim_ret h)
theorem ret_newD {D : DN} {ρ : En} {Ω : Om} {i : Nat} {a : Addr} {ks : List Key} {ts : List Tr} (h1 : ρ[i]? = some (some (.obj a))) (ha : Ω a = none) (q : D.rt (.dic ks ts) Ω) : dRetTD i (dVar i) D ρ (put Ω a (.dic ks ts)) :=
  .inr ⟨a, ks, ts, h1, put_same, .dic ks ts, by rw [List.getElem?_set_self (List.getElem?_eq_some_iff.mp h1).1], by rw [cut_put ha]; exact q⟩
theorem asD_put {a : Addr} {ks : List Key} {ts : List Tr} {Ω : Om} : asD (.obj a) (put Ω a (.dic ks ts)) = some (ks, ts) := asD_obj put_same
/-- a dict without a key takes it at its end -/
theorem putT_new {kvs : List (Key × Tr)} {k : Key} {v : Tr} (h : k ∉ kvs.map (·.1)) : putT kvs k v = kvs ++ [(k, v)] := by
  unfold putT
  rw [if_neg]
  intro z
  obtain ⟨kv, hm, e⟩ := List.any_eq_true.mp z
  exact h (List.mem_map.mpr ⟨kv, hm, of_decide_eq_true e⟩)
theorem valT_at : ∀ {ks : List Key} {ts : List Tr} {i : Nat} {k : Key} {t : Tr}, ks.Nodup → ks[i]? = some k → ts[i]? = some t → valT ks ts k = some t
  | a :: ks, [], _, _, _, _, _, h2 => by cases h2
  | a :: ks, u :: ts, 0, k, t, _, h1, h2 => by
    cases h1
    cases h2
    rw [valT_cons, if_pos rfl]
  | a :: ks, u :: ts, i + 1, k, t, hn, h1, h2 => by
    obtain ⟨n1, n2⟩ := List.nodup_cons.mp hn
    have hk : k ∈ ks := List.mem_of_getElem? (i := i) h1
    rw [valT_cons, if_neg (fun e => n1 (by rw [e]; exact hk))]
    exact valT_at (i := i) n2 h1 h2
/-! ### t * n -/
def dRepW : Tr → Tr → Om → PT' → Prop := fun x y Ω P => ∃ ts k, x = .tup ts ∧ y = .int k ∧ ts ≠ [] ∧ 2 ≤ k ∧ ts.length * k.toNat ≤ 1000000 ∧ P (.tup (List.replicate k.toNat ts).flatten) Ω
theorem flat_len {α : Type} {ts : List α} : ∀ m : Nat, (List.replicate m ts).flatten.length = ts.length * m
  | 0 => by simp
  | m + 1 => by rw [List.replicate_succ, List.flatten_cons, List.length_append, flat_len m, Nat.mul_succ, Nat.add_comm]
theorem simr_repW : SimR K (rRepW K) dRepW := fun g H Ω x y tx ty P Q o d1 d2 ⟨ts, k, e, e2, ne, h1, hz, p⟩ q => by
  subst e e2
  obtain ⟨a, xs, rfl, s, dl, z⟩ := sqt d1
  have hl := dl.len
  refine ⟨a, k, xs, rfl, d2, s, fun e => ne (by rw [e] at hl; exact List.eq_nil_of_length_eq_zero hl.symm), h1, by rw [hl]; exact hz, fun l n => new_tup o (dl.rep _) (by rw [flat_len]; exact hz) p q n⟩
theorem flat_one {α : Type} {a : α} : ∀ m : Nat, (List.replicate m [a]).flatten = List.replicate m a
  | 0 => rfl
  | m + 1 => by rw [List.replicate_succ, List.replicate_succ, List.flatten_cons, flat_one m]; rfl
/-! ### list(range(i, j)) -/
def dLstRg (da db : DE) : DE := fun ρ Ω P PX => da ρ Ω (fun x Ω1 => db ρ Ω1 (fun y Ω2 => ∃ i j : Int, x = .int i ∧ y = .int j ∧ (0 ≤ i ∧ i ≤ 1000000 ∧ 0 ≤ j ∧ j ≤ 1000000) ∧ lstNew (rngT i (j - i).toNat) Ω2 P) PX) PX
theorem sim_listRg {ta tb : TE} {da db : DE} (ha : SimE K G E ta da) (hb : SimE K G E tb db) : SimE K G E (tLstRg (tRg2 ta tb)) (dLstRg da db) := fun g σ H ρ Ω P PX Q hG R h q qx =>
  ha g σ H ρ Ω _ PX _ hG R h (fun x Ω1 v H1 h1 k1 o1 d1 => hb g σ H1 ρ Ω1 _ PX _ hG (R.keep k1 o1) h1 (fun y Ω2 u H2 ⟨i, j, e1, e2, b, p⟩ k2 o2 d2 => by
    subst e1 e2
    refine ⟨i, j, d1, d2, RgOk.of_le b.1 (by omega) (by omega) b.2.2.1 |> fun r => ⟨r, fun q' hq => ?_⟩⟩
    have e1 : rgV i j = ((List.range (j - i).toNat).map fun (k : Nat) => i + (k : Int)).map V.int := by unfold rgV; rw [List.map_map]; rfl
    have e2 : rngT i (j - i).toNat = ((List.range (j - i).toNat).map fun (k : Nat) => i + (k : Int)).map Tr.int := by unfold rngT; rw [List.map_map]; rfl
    rw [e1]
    refine new_lst o2 vdl_of_ints ?_ (by rw [← e2]; exact p) (q.at (k1.trans k2)) hq
    rw [List.length_map, List.length_map, List.length_range]
    omega) (qx.at k1)) qx
/-! ### loops of which one fact stays -/
theorem for_R2W {dg : DG} {db : DS} {D : DN} {ρ : En} {Ω : Om} {da : DA} {R : Int → Int → Prop} {Ω1 : Om} (he : ∀ P : List Tr → Om → Prop, (∀ a n : Int, R a n → P [.int a, .int n] Ω1) → da ρ Ω P (fun y Ω' => D.ex ρ y Ω')) (hb : ∀ a n, R a n → -(2 ^ 62) ≤ a ∧ a < 2 ^ 62 ∧ -(2 ^ 62) ≤ n ∧ n < 2 ^ 62) (W : En → Om → Prop) (w0 : W ρ Ω1)
    (step : ∀ a n, R a n → ∀ (v : Int) ρ' Ω', a ≤ v → v < n → W ρ' Ω' → dg (.int v) ρ' Ω' (fun ρ2 Ω2 => db { D with nx := W, ct := W, bk := D.nx } ρ2 Ω2) nox) (fin : ∀ ρ' Ω', W ρ' Ω' → D.nx ρ' Ω') : dFor (diR2 da) dg db D ρ Ω :=
  he _ fun a n hn => ⟨a, n, rfl, hb a n hn, fun _ => W, w0, fun _ _ _ _ => trivial, fun i t ρ' Ω' e w => by
    have hi : i < (n - a).toNat := by have := (List.getElem?_eq_some_iff.mp e).1; rwa [rngT_len] at this
    rw [rngT_get hi] at e
    cases e
    exact step a n hn _ ρ' Ω' (by omega) (by omega) w, fun ρ' Ω' w => fin ρ' Ω' w⟩
theorem for_R1W {dg : DG} {db : DS} {D : DN} {ρ : En} {Ω : Om} {da : DA} {R : Int → Prop} {Ω1 : Om} (he : ∀ P : List Tr → Om → Prop, (∀ n : Int, R n → P [.int n] Ω1) → da ρ Ω P (fun y Ω' => D.ex ρ y Ω')) (hb : ∀ n, R n → -(2 ^ 62) ≤ n ∧ n < 2 ^ 62) (W : En → Om → Prop) (w0 : W ρ Ω1)
    (step : ∀ n, R n → ∀ (v : Int) ρ' Ω', 0 ≤ v → v < n → W ρ' Ω' → dg (.int v) ρ' Ω' (fun ρ2 Ω2 => db { D with nx := W, ct := W, bk := D.nx } ρ2 Ω2) nox) (fin : ∀ ρ' Ω', W ρ' Ω' → D.nx ρ' Ω') : dFor (diR1 da) dg db D ρ Ω :=
  he _ fun n hn => ⟨n, rfl, (hb n hn).1, (hb n hn).2, fun _ => W, w0, fun _ _ _ _ => trivial, fun i t ρ' Ω' e w => by
    have hi : i < n.toNat := by have := (List.getElem?_eq_some_iff.mp e).1; rwa [rngT_len] at this
    rw [rngT_get hi, Int.zero_add] at e
    cases e
    exact step n hn _ ρ' Ω' (by omega) (by omega) w, fun ρ' Ω' w => fin ρ' Ω' w⟩
end
end LT

namespace LT
open PySem PySem.Spec PyProof.Rows L2 LL
section
variable {K : PySem.W.Frag} {G : List (Value × Option Addr × XV) → Prop} {E : EK}
/-! ### sorted -/
def dSortI : List Tr → Om → PT' → Prop := fun us Ω P => ∃ (t : Tr) (ns : List Int), us = [t] ∧ asL t Ω = some (ns.map Tr.int) ∧ ∀ ms : List Int, ms.Perm ns → ms.Pairwise (· ≤ ·) → lstNew (ms.map Tr.int) Ω P
theorem simc_sortI : SimC K (rSortedI K) dSortI := fun g H Ω vs us P Q o d ⟨t, ns, e, h, p⟩ q => by
  subst e
  obtain ⟨v, _, rfl, d, rfl⟩ := d
  obtain ⟨a, xs, rfl, s, _, dl, z⟩ := at_L o d h
  rw [vdl_ints dl] at s
  rw [List.length_map] at z
  exact ⟨a, ns, rfl, s, fun ms p' hp hs n => new_lst o vdl_of_ints (by rw [List.length_map, hp.length_eq]; exact z) (p ms hp hs) q n⟩
def rowT (r : List Int) : Tr := .tup (r.map Tr.int)
theorem toPs_ints : ∀ {ns : List Int}, toPs (ns.map Tr.int) = ns.map PyData.int
  | [] => rfl
  | n :: ns => by show PyData.int n :: toPs (ns.map Tr.int) = _; rw [toPs_ints]; rfl
theorem plain_ints : ∀ {ns : List Int}, plainTs (ns.map Tr.int) = true
  | [] => rfl
  | n :: ns => by show (true && plainTs (ns.map Tr.int)) = true; rw [plain_ints]; rfl
theorem vdl_pairs {dr : Option (Addr × Addr)} {F : Addr → Prop} {H : Hp} : ∀ {bs : List (V × List Int)}, (∀ b ∈ bs, VD K dr F H b.1 (rowT b.2)) → VDL K dr F H (bs.map (·.1)) ((bs.map (·.2)).map rowT)
  | [], _ => rfl
  | b :: bs, h => .cons (h b List.mem_cons_self) (vdl_pairs fun c hc => h c (List.mem_cons_of_mem _ hc))
theorem vdl_zip {dr : Option (Addr × Addr)} {F : Addr → Prop} {H : Hp} : ∀ {xs : List V} {rs : List (List Int)}, VDL K dr F H xs (rs.map rowT) → ∀ b ∈ xs.zip rs, VD K dr F H b.1 (rowT b.2) ∧ b.2 ∈ rs
  | xs, [], _, b, hb => by rw [List.zip_nil_right] at hb; cases hb
  | xs, r :: rs, d, b, hb => by
    obtain ⟨v, vs, rfl, d1, d2⟩ := d
    rw [List.zip_cons_cons] at hb
    rcases List.mem_cons.mp hb with rfl | hb
    · exact ⟨d1, List.mem_cons_self⟩
    · obtain ⟨h1, h2⟩ := vdl_zip d2 b hb
      exact ⟨h1, List.mem_cons_of_mem _ h2⟩
def dSortR : List Tr → Om → PT' → Prop := fun us Ω P => ∃ (t : Tr) (rs : List (List Int)), us = [t] ∧ asL t Ω = some (rs.map rowT) ∧ (∀ r ∈ rs, r ≠ []) ∧ lstNew ((rs.mergeSort leR).map rowT) Ω P
theorem simc_sortR : SimC K (rSortedR K) dSortR := fun g H Ω vs us P Q o d ⟨t, rs, e, h, ne, p⟩ q => by
  subst e
  obtain ⟨v, _, rfl, d, rfl⟩ := d
  obtain ⟨a, xs, rfl, s, _, dl, z⟩ := at_L o d h
  have len := dl.len
  rw [List.length_map] at z len
  have e1 : (xs.zip rs).map (·.1) = xs := List.map_fst_zip (Nat.le_of_eq len)
  have e2 : (xs.zip rs).map (·.2) = rs := List.map_snd_zip (Nat.le_of_eq len.symm)
  have hz := vdl_zip dl
  have e3 : ((xs.zip rs).mergeSort fun a b => leR a.2 b.2).map (·.2) = rs.mergeSort leR := by
    have := List.map_mergeSort (r := fun (a b : V × List Int) => leR a.2 b.2) (s := leR) (f := fun b : V × List Int => b.2) (l := xs.zip rs) (fun _ _ _ _ => rfl)
    rw [this, e2]
  refine ⟨a, xs.zip rs, rfl, by rw [e1]; exact s, fun b hb => ⟨?_, ne _ (hz b hb).2⟩, fun l n => ?_⟩
  · have := dp_of (rowT b.2) (hz b hb).1 (by show plainTs (b.2.map Tr.int) = true; exact plain_ints)
    rw [show toP (rowT b.2) = .tuple (toPs (b.2.map Tr.int)) from rfl, toPs_ints] at this
    exact this
  · have dv : VDL K g.dr (NM g Ω) H (((xs.zip rs).mergeSort fun a b => leR a.2 b.2).map (·.1)) ((rs.mergeSort leR).map rowT) := by
      rw [← e3]
      exact vdl_pairs fun b hb => (hz b (List.mem_mergeSort.mp hb)).1
    exact new_lst o dv (by rw [List.length_map, List.length_mergeSort]; exact z) p q n
end
end LT

namespace LT
open PySem PySem.Spec PyProof.Rows L2 LL
section
variable {K : PySem.W.Frag} {G : List (Value × Option Addr × XV) → Prop} {E : EK}
/-! ### objects of the program's own classes -/
def fldT (ns : List Str) (ts : List Tr) (f : Str) : Option Tr := (ns.zip ts).lookup f
theorem fld_vd {dr : Option (Addr × Addr)} {F : Addr → Prop} {H : Hp} {f : Str} : ∀ {ns : List Str} {xs : List V} {ts : List Tr}, VDL K dr F H xs ts → ts.length = ns.length → (∀ {t : Tr}, fldT ns ts f = some t → ∃ v, (ns.zip xs).lookup f = some v ∧ VD K dr F H v t) ∧ (fldT ns ts f = none → (ns.zip xs).lookup f = none)
  | [], xs, ts, d, hl => ⟨fun e => (by cases e), fun _ => rfl⟩
  | n :: ns, xs, [], d, hl => by cases hl
  | n :: ns, xs, t :: ts, d, hl => by
    obtain ⟨v, vs, rfl, d1, d2⟩ := d
    obtain ⟨i1, i2⟩ := fld_vd (f := f) (ns := ns) d2 (by simpa using hl)
    have e1 : fldT (n :: ns) (t :: ts) f = match f == n with | true => some t | false => fldT ns ts f := rfl
    have e2 : ((n :: ns).zip (v :: vs)).lookup f = match f == n with | true => some v | false => (ns.zip vs).lookup f := rfl
    rw [e1, e2]
    cases f == n with
    | true => exact ⟨fun e => ⟨v, rfl, by cases e; exact d1⟩, fun e => (by cases e)⟩
    | false => exact ⟨i1, i2⟩
/-- what a cell is asked for -/
def insC (Ω : Om) : Tr → Option (Addr × Addr × List Str × List Tr)
  | .obj a => match Ω a with
    | some (.ins C dx ns ts) => some (C, dx, ns, ts)
    | _ => none
  | _ => none
def insF (C : Addr) (f : Str) (x : Tr) (Ω : Om) : Option Tr := match insC Ω x with
  | some (C', _, ns, ts) => if C' = C then fldT ns ts f else none
  | none => none
/-- the object's address, where its class is C and its own dict has no m -/
def insM (C : Addr) (m : Str) (x : Tr) (Ω : Om) : Option Addr := match insC Ω x, x with
  | some (C', _, ns, ts), .obj a => if C' = C ∧ fldT ns ts m = none then some a else none
  | _, _ => none
def insP (C : Addr) (x : Tr) (Ω : Om) : Option Addr := match insC Ω x, x with
  | some (C', _, _, _), .obj a => if C' = C then some a else none
  | _, _ => none
theorem insC_obj {Ω : Om} {a C dx : Addr} {ns : List Str} {ts : List Tr} (h : Ω a = some (.ins C dx ns ts)) : insC Ω (.obj a) = some (C, dx, ns, ts) := by simp only [insC, h]
theorem insC_eq {Ω : Om} {x : Tr} {r : Addr × Addr × List Str × List Tr} (h : insC Ω x = some r) : ∃ a, x = .obj a ∧ Ω a = some (.ins r.1 r.2.1 r.2.2.1 r.2.2.2) := by
  unfold insC at h
  split at h
  · split at h
    · cases h
      exact ⟨_, rfl, by assumption⟩
    · cases h
  · cases h
theorem insF_obj {Ω : Om} {a C dx : Addr} {ns : List Str} {ts : List Tr} {f : Str} (h : Ω a = some (.ins C dx ns ts)) : insF C f (.obj a) Ω = fldT ns ts f := by
  unfold insF
  rw [insC_obj h]
  exact if_pos rfl
theorem insM_obj {Ω : Om} {a C dx : Addr} {ns : List Str} {ts : List Tr} {m : Str} (h : Ω a = some (.ins C dx ns ts)) (hm : fldT ns ts m = none) : insM C m (.obj a) Ω = some a := by
  unfold insM
  rw [insC_obj h]
  exact if_pos ⟨rfl, hm⟩
theorem insP_obj {Ω : Om} {a C dx : Addr} {ns : List Str} {ts : List Tr} (h : Ω a = some (.ins C dx ns ts)) : insP C (.obj a) Ω = some a := by
  unfold insP
  rw [insC_obj h]
  exact if_pos rfl
theorem insF_eq {Ω : Om} {x : Tr} {C : Addr} {f : Str} {t : Tr} (h : insF C f x Ω = some t) : ∃ a dx ns ts, x = .obj a ∧ Ω a = some (.ins C dx ns ts) ∧ fldT ns ts f = some t := by
  unfold insF at h
  split at h
  · rename_i C' dx ns ts e
    obtain ⟨a, e1, e2⟩ := insC_eq e
    by_cases hc : C' = C
    · subst hc
      rw [if_pos rfl] at h
      exact ⟨a, dx, ns, ts, e1, e2, h⟩
    · rw [if_neg hc] at h; cases h
  · cases h
theorem insM_eq {Ω : Om} {x : Tr} {C : Addr} {m : Str} {a : Addr} (h : insM C m x Ω = some a) : ∃ dx ns ts, x = .obj a ∧ Ω a = some (.ins C dx ns ts) ∧ fldT ns ts m = none := by
  unfold insM at h
  split at h
  · rename_i C' dx ns ts b e
    obtain ⟨a', e1, e2⟩ := insC_eq e
    cases e1
    split at h
    · rename_i hc
      obtain ⟨rfl, hm⟩ := hc
      cases h
      exact ⟨dx, ns, ts, rfl, e2, hm⟩
    · cases h
  · cases h
theorem insP_eq {Ω : Om} {x : Tr} {C : Addr} {a : Addr} (h : insP C x Ω = some a) : ∃ dx ns ts, x = .obj a ∧ Ω a = some (.ins C dx ns ts) := by
  unfold insP at h
  split at h
  · rename_i C' dx ns ts b e
    obtain ⟨a', e1, e2⟩ := insC_eq e
    cases e1
    split at h
    · rename_i hc
      subst hc
      cases h
      exact ⟨dx, ns, ts, rfl, e2⟩
    · cases h
  · cases h
/-- reading a field -/
def dFld (C : Addr) (f : Str) (de : DE) : DE := fun ρ Ω P PX => de ρ Ω (fun x Ω1 => ∃ t, insF C f x Ω1 = some t ∧ P t Ω1) PX
theorem sim_fld {C : Addr} {f : Str} {te : TE} {de : DE} (hC : Cls K C) (hn : NoAttr K C f) (h : SimE K G E te de) : SimE K G E (tFld K te f) (dFld C f de) := fun g σ H ρ Ω P PX Q hG R p q qx =>
  h g σ H ρ Ω _ PX _ hG R p (fun x Ω1 v H1 ⟨t, hx, p1⟩ k1 o1 d1 => by
    obtain ⟨a, dx, ns, ts, ex, hc, hf⟩ := insF_eq hx
    subst ex
    obtain rfl : v = .ref a := d1
    obtain ⟨xs, h1, h2, h3⟩ := (o1.ce a _ hc).2
    obtain ⟨u, e, d2⟩ := (fld_vd h2 h3).1 hf
    exact ⟨a, C, dx, _, u, rfl, h1, hC, hn, e, q _ _ _ _ p1 k1 o1 d2⟩) qx
/-- o.f = v -/
def putFT {α : Type} (f : Str) (v : α) : List (Str × α) → List (Str × α)
  | [] => [(f, v)]
  | (g, u) :: r => if g = f then (f, v) :: r else (g, u) :: putFT f v r
theorem putF_eq {f : Str} {v : V} : ∀ {l : List (Str × V)}, putF f v l = putFT f v l
  | [] => rfl
  | (g, u) :: r => by
    unfold putF putFT
    rw [putF_eq]
    by_cases h : g = f
    · rw [if_pos h, if_pos h, h]
    · rw [if_neg h, if_neg h]
theorem putFT_vd {dr : Option (Addr × Addr)} {F : Addr → Prop} {H : Hp} {f : Str} {v : V} {t : Tr} (d : VD K dr F H v t) : ∀ {ns : List Str} {xs : List V} {ts : List Tr}, VDL K dr F H xs ts → ts.length = ns.length → ∃ ns' ts' xs', putFT f v (ns.zip xs) = ns'.zip xs' ∧ putFT f t (ns.zip ts) = ns'.zip ts' ∧ VDL K dr F H xs' ts' ∧ ts'.length = ns'.length ∧ ns' = (putFT f t (ns.zip ts)).map (·.1) ∧ ts' = (putFT f t (ns.zip ts)).map (·.2)
  | [], xs, [], e, _ => ⟨[f], [t], [v], rfl, rfl, ⟨v, [], rfl, d, rfl⟩, rfl, rfl, rfl⟩
  | [], xs, t :: ts, _, hl => by cases hl
  | n :: ns, xs, [], _, hl => by cases hl
  | n :: ns, xs, u :: ts, e, hl => by
    obtain ⟨w, vs, rfl, d1, d2⟩ := e
    have hl' : ts.length = ns.length := by simpa using hl
    have e1 : putFT f v ((n :: ns).zip (w :: vs)) = if n = f then (f, v) :: ns.zip vs else (n, w) :: putFT f v (ns.zip vs) := rfl
    have e2 : putFT f t ((n :: ns).zip (u :: ts)) = if n = f then (f, t) :: ns.zip ts else (n, u) :: putFT f t (ns.zip ts) := rfl
    rw [e1, e2]
    by_cases h : n = f
    · rw [if_pos h, if_pos h]
      refine ⟨f :: ns, t :: ts, v :: vs, rfl, rfl, ⟨v, vs, rfl, d, d2⟩, by simp [hl'], ?_, ?_⟩
      · rw [List.map_cons, List.map_fst_zip (by omega)]
      · rw [List.map_cons, List.map_snd_zip (by omega)]
    · rw [if_neg h, if_neg h]
      obtain ⟨ns', ts', xs', a1, a2, a3, a4, a5, a6⟩ := putFT_vd (f := f) d (ns := ns) d2 hl'
      refine ⟨n :: ns', u :: ts', w :: xs', by rw [a1]; rfl, by rw [a2]; rfl, ⟨w, xs', rfl, d1, a3⟩, by simp [a4], by rw [List.map_cons, ← a5], by rw [List.map_cons, ← a6]⟩
def dSetF (C : Addr) (f : Str) (dd dv : DE) : DS := fun D ρ Ω => dv ρ Ω (fun v Ω1 => dd ρ Ω1 (fun x Ω2 => ∃ a dx ns ts, x = .obj a ∧ insC Ω2 (.obj a) = some (C, dx, ns, ts) ∧ ts.length < 1000 ∧ D.nx ρ (put Ω2 a (.ins C dx ((putFT f v (ns.zip ts)).map (·.1)) ((putFT f v (ns.zip ts)).map (·.2))))) (fun y Ω' => D.ex ρ y Ω')) (fun y Ω' => D.ex ρ y Ω')
theorem sim_setF {C : Addr} {f : Str} {td tv : TE} {dd dv : DE} (hC : Cls K C) (hn : NoAttr K C f) (hd : SimE K G E td dd) (hv : SimE K G E tv dv) : SimS K G E (sFld K td tv f) (dSetF C f dd dv) := fun g σ H ρ Ω D DD hG R h e => by
  refine hv g σ H ρ Ω _ _ _ hG R h (fun v Ω1 vv H1 h1 k1 o1 d1 => ?_) (e.exx R)
  have R1 := R.keep k1 o1
  refine hd g σ H1 ρ Ω1 _ _ _ hG R1 h1 (fun x Ω2 xv H2 h2 k2 o2 d2 => ?_) ((e.at k1).exx R1)
  obtain ⟨a, dx, ns, ts, ex, hx, hz, p⟩ := h2
  obtain ⟨_, ea, hc⟩ := insC_eq hx
  cases ea
  simp only at hc
  subst ex
  obtain rfl : xv = .ref a := d2
  obtain ⟨xs, h3, h4, h5⟩ := (o2.ce a _ hc).2
  have kk := k1.trans k2
  obtain ⟨ns', ts', xs', a1, a2, a3, a4, a5, a6⟩ := putFT_vd (f := f) (d1.keep k2) (ns := ns) h4 h5
  have hlen := h4.len
  refine ⟨a, C, dx, _, rfl, h3, hC, hn, by rw [List.length_zip]; omega, ?_⟩
  rw [putF_eq, a1]
  rw [← a5, ← a6] at p
  have kw : Keep g H2 Ω2 (upd H2 a (.ins C dx (ns'.zip xs'))) (put Ω2 a (.ins C dx ns' ts')) := .write hc
  exact e.nx ρ _ σ _ p (kk.trans kw) (R.keep (kk.trans kw) (o2.write hc ⟨xs', upd_same, a3.keep kw, a4⟩))
/-- arguments that stand by default -/
def DfOk (K : PySem.W.Frag) (dvs : List V) (dts : List Tr) : Prop := ∀ (g : Gh) (Ω : Om) (H : Hp), VDL K g.dr (NM g Ω) H dvs dts
theorem DfOk.nil : DfOk K [] [] := fun _ _ _ => rfl
theorem vdl_app {dr : Option (Addr × Addr)} {F : Addr → Prop} {H : Hp} {ys : List V} {us : List Tr} (h2 : VDL K dr F H ys us) : ∀ {xs : List V} {ts : List Tr}, VDL K dr F H xs ts → VDL K dr F H (xs ++ ys) (ts ++ us)
  | xs, [], h => by
    have e : xs = [] := h
    subst e
    exact h2
  | xs, t :: ts, h => by
    obtain ⟨v, vs, rfl, d1, d2⟩ := h
    exact ⟨v, vs ++ ys, rfl, d1, vdl_app h2 d2⟩
/-- C(..) -/
def dMake (C : Addr) (P : Pw) (n : Nat) (dts : List Tr) (da : DA) : DE := fun ρ Ω Q PX => da ρ Ω (fun us Ω1 => us.length + dts.length + 1 = n ∧ ∀ a dx, Ω1 a = none → P (.obj a :: (us ++ dts)) (put Ω1 a (.ins C dx [] [])) (fun t Ω2 => t = .non ∧ Q (.obj a) Ω2) PX) PX
theorem sim_make {C : Addr} {P : Pw} {n : Nat} {dvs : List V} {dts : List Tr} {E1 : XK} {ta : TA} {da : DA} (hd : DfOk K dvs dts) (ha : SimA K G (fun _ => E1) ta da) : SimE K G (fun _ => E1) (tMake C (spD K P n) dvs E1 ta) (dMake C P n dts da) := fun g σ H ρ Ω Q PX QQ hG R h q qx =>
  ha g σ H ρ Ω _ PX _ hG R h (fun us Ω1 vs H1 ⟨hl, p⟩ k1 o1 d1 x dx nx ndx ne => by
    have npd : Keep g H1 Ω1 (upd H1 dx (.own x)) Ω1 := .new ndx
    have o2 := o1.new (o := .own x) ndx
    have nx2 : upd H1 dx (.own x) x = none := by rw [upd_ne (Ne.symm ne)]; exact nx
    have np : ¬ g.pr x := fun z => by obtain ⟨u, e⟩ := o1.pt x z; rw [nx] at e; cases e
    have kc : Keep g (upd H1 dx (.own x)) Ω1 (upd (upd H1 dx (.own x)) x (.ins C dx [])) (put Ω1 x (.ins C dx [] [])) := .cell nx2
    have o3 : OmOk K g (upd (upd H1 dx (.own x)) x (.ins C dx [])) (put Ω1 x (.ins C dx [] [])) := o2.cell nx2 np ⟨[], by rw [upd_same]; rfl, rfl, rfl⟩
    have kk := (k1.trans npd).trans kc
    have d3 := d1.keep (npd.trans kc)
    refine ⟨g, put Ω1 x (.ins C dx [] []), .obj x :: (us ++ dts), _, PX, by simp only [List.length_cons, List.length_append]; omega, ⟨.ref x, vs ++ dvs, rfl, rfl, vdl_app (hd g _ _) d3⟩, o3, p x dx (o1.fresh nx), fun t Ω2 v H2 ⟨e, pq⟩ k4 o4 d4 => ?_, qx.at kk⟩
    subst e
    exact ⟨d4, q _ _ _ _ pq (kk.trans k4) o4 rfl⟩) qx
theorem sim_make0 {C : Addr} {P : Pw} {n : Nat} {dvs : List V} {dts : List Tr} {ta : TA} {da : DA} (hd : DfOk K dvs dts) (ha : SimA K G E ta da) : SimE K G E (tMake C (spD K P n) dvs E0 ta) (fun ρ Ω Q PX => da ρ Ω (fun us Ω1 => us.length + dts.length + 1 = n ∧ ∀ a dx, Ω1 a = none → P (.obj a :: (us ++ dts)) (put Ω1 a (.ins C dx [] [])) (fun t Ω2 => t = .non ∧ Q (.obj a) Ω2) nox) PX) := fun g σ H ρ Ω Q PX QQ hG R h q qx =>
  ha g σ H ρ Ω _ PX _ hG R h (fun us Ω1 vs H1 ⟨hl, p⟩ k1 o1 d1 x dx nx ndx ne => by
    have npd : Keep g H1 Ω1 (upd H1 dx (.own x)) Ω1 := .new ndx
    have o2 := o1.new (o := .own x) ndx
    have nx2 : upd H1 dx (.own x) x = none := by rw [upd_ne (Ne.symm ne)]; exact nx
    have np : ¬ g.pr x := fun z => by obtain ⟨u, e⟩ := o1.pt x z; rw [nx] at e; cases e
    have kc : Keep g (upd H1 dx (.own x)) Ω1 (upd (upd H1 dx (.own x)) x (.ins C dx [])) (put Ω1 x (.ins C dx [] [])) := .cell nx2
    have o3 : OmOk K g (upd (upd H1 dx (.own x)) x (.ins C dx [])) (put Ω1 x (.ins C dx [] [])) := o2.cell nx2 np ⟨[], by rw [upd_same]; rfl, rfl, rfl⟩
    have kk := (k1.trans npd).trans kc
    have d3 := d1.keep (npd.trans kc)
    refine ⟨g, put Ω1 x (.ins C dx [] []), .obj x :: (us ++ dts), _, nox, by simp only [List.length_cons, List.length_append]; omega, ⟨.ref x, vs ++ dvs, rfl, rfl, vdl_app (hd g _ _) d3⟩, o3, p x dx (o1.fresh nx), fun t Ω2 v H2 ⟨e, pq⟩ k4 o4 d4 => ?_, AfterX.nox⟩
    subst e
    exact ⟨d4, q _ _ _ _ pq (kk.trans k4) o4 rfl⟩) qx
/-- o.m(..) -/
def dMeth (C : Addr) (m : Str) (P : Pw) (n : Nat) (dts : List Tr) (de : DE) (da : DA) : DE := fun ρ Ω Q PX => de ρ Ω (fun x Ω1 => ∃ a, insM C m x Ω1 = some a ∧ da ρ Ω1 (fun us Ω2 => us.length + dts.length + 1 = n ∧ P (.obj a :: (us ++ dts)) Ω2 Q PX) PX) PX
theorem sim_meth {C : Addr} {m : Str} {P : Pw} {n : Nat} {dvs : List V} {dts : List Tr} {E1 : XK} {te : TE} {de : DE} {ta : TA} {da : DA} (hd : DfOk K dvs dts) (he : SimE K G (fun _ => E1) te de) (ha : SimA K G (fun _ => E1) ta da) : SimE K G (fun _ => E1) (tMeth C m (spD K P n) dvs E1 te ta) (dMeth C m P n dts de da) := fun g σ H ρ Ω Q PX QQ hG R h q qx =>
  he g σ H ρ Ω _ PX _ hG R h (fun x Ω1 v H1 ⟨a, hx, p⟩ k1 o1 d1 => by
    obtain ⟨dx, ns, ts, ex, hc, hf⟩ := insM_eq hx
    subst ex
    obtain rfl : v = .ref a := d1
    obtain ⟨xs, h1, h2, h3⟩ := (o1.ce a _ hc).2
    refine ⟨a, dx, _, rfl, h1, (fld_vd h2 h3).2 hf, ?_⟩
    exact ha g σ H1 ρ Ω1 _ PX _ hG (R.keep k1 o1) p (fun us Ω2 vs H2 ⟨hl, p2⟩ k2 o2 d2 => ⟨g, Ω2, .obj a :: (us ++ dts), Q, PX, by simp only [List.length_cons, List.length_append]; omega, ⟨.ref a, vs ++ dvs, rfl, rfl, vdl_app (hd g _ _) d2⟩, o2, p2, q.at (k1.trans k2), qx.at (k1.trans k2)⟩) (qx.at k1)) qx
def dMeth0 (C : Addr) (m : Str) (P : Pw) (n : Nat) (dts : List Tr) (de : DE) (da : DA) : DE := fun ρ Ω Q PX => de ρ Ω (fun x Ω1 => ∃ a, insM C m x Ω1 = some a ∧ da ρ Ω1 (fun us Ω2 => us.length + dts.length + 1 = n ∧ P (.obj a :: (us ++ dts)) Ω2 Q nox) PX) PX
theorem sim_meth0 {C : Addr} {m : Str} {P : Pw} {n : Nat} {dvs : List V} {dts : List Tr} {te : TE} {de : DE} {ta : TA} {da : DA} (hd : DfOk K dvs dts) (he : SimE K G E te de) (ha : SimA K G E ta da) : SimE K G E (tMeth C m (spD K P n) dvs E0 te ta) (dMeth0 C m P n dts de da) := fun g σ H ρ Ω Q PX QQ hG R h q qx =>
  he g σ H ρ Ω _ PX _ hG R h (fun x Ω1 v H1 ⟨a, hx, p⟩ k1 o1 d1 => by
    obtain ⟨dx, ns, ts, ex, hc, hf⟩ := insM_eq hx
    subst ex
    obtain rfl : v = .ref a := d1
    obtain ⟨xs, h1, h2, h3⟩ := (o1.ce a _ hc).2
    refine ⟨a, dx, _, rfl, h1, (fld_vd h2 h3).2 hf, ?_⟩
    exact ha g σ H1 ρ Ω1 _ PX _ hG (R.keep k1 o1) p (fun us Ω2 vs H2 ⟨hl, p2⟩ k2 o2 d2 => ⟨g, Ω2, .obj a :: (us ++ dts), Q, nox, by simp only [List.length_cons, List.length_append]; omega, ⟨.ref a, vs ++ dvs, rfl, rfl, vdl_app (hd g _ _) d2⟩, o2, p2, q.at (k1.trans k2), AfterX.nox⟩) (qx.at k1)) qx
/-- a property -/
def dProp (C : Addr) (P : Pw) (de : DE) : DE := fun ρ Ω Q PX => de ρ Ω (fun x Ω1 => ∃ a, insP C x Ω1 = some a ∧ P [.obj a] Ω1 Q nox) PX
theorem sim_prop {C : Addr} {P : Pw} {te : TE} {de : DE} (he : SimE K G E te de) : SimE K G E (tProp C (spD K P 1) [] E0 te) (dProp C P de) := fun g σ H ρ Ω Q PX QQ hG R h q qx =>
  he g σ H ρ Ω _ PX _ hG R h (fun x Ω1 v H1 ⟨a, hx, p⟩ k1 o1 d1 => by
    obtain ⟨dx, ns, ts, ex, hc⟩ := insP_eq hx
    subst ex
    obtain rfl : v = .ref a := d1
    obtain ⟨xs, h1, h2, h3⟩ := (o1.ce a _ hc).2
    exact ⟨a, dx, _, rfl, h1, g, Ω1, [.obj a], Q, nox, rfl, ⟨.ref a, [], rfl, rfl, rfl⟩, o1, p, q.at k1, AfterX.nox⟩) qx
/-- l.pop() -/
def dPop (de : DE) : DE := fun ρ Ω P PX => de ρ Ω (fun x Ω1 => ∃ a us y, x = .obj a ∧ asL (.obj a) Ω1 = some us ∧ us.getLast? = some y ∧ P y (put Ω1 a (.lst us.dropLast))) PX
theorem asL_cell {a : Addr} {us : List Tr} {Ω : Om} (h : asL (.obj a) Ω = some us) : Ω a = some (.lst us) := by
  have h2 : cellL (Ω a) = some us := h
  cases e : Ω a with
  | none => rw [e] at h2; cases h2
  | some c =>
    rw [e] at h2
    cases c with
    | lst ts => cases h2; rfl
    | _ => cases h2
theorem VDL.dropLast {dr : Option (Addr × Addr)} {F : Addr → Prop} {H : Hp} : ∀ {xs : List V} {ts : List Tr}, VDL K dr F H xs ts → VDL K dr F H xs.dropLast ts.dropLast
  | xs, [], h => by rw [show xs = [] from h]; rfl
  | xs, [t], h => by
    obtain ⟨v, vs, rfl, _, e⟩ := h
    rw [show vs = [] from e]
    rfl
  | xs, t :: u :: ts, h => by
    obtain ⟨v, vs, rfl, d1, e⟩ := h
    obtain ⟨w, ws, rfl, d2, e2⟩ := e
    have := VDL.dropLast (xs := w :: ws) (ts := u :: ts) ⟨w, ws, rfl, d2, e2⟩
    rw [List.dropLast_cons₂, List.dropLast_cons₂]
    exact ⟨v, _, rfl, d1, this⟩
theorem sim_pop {te : TE} {de : DE} (he : SimE K G E te de) : SimE K G E (tBM0 K "list" rPop te) (dPop de) := fun g σ H ρ Ω P PX Q hG R p q qx =>
  he g σ H ρ Ω _ PX _ hG R p (fun x Ω1 v H1 ⟨a, us, y, ex, hu, hy, p1⟩ k1 o1 d1 => by
    subst ex
    obtain rfl : v = .ref a := d1
    have hc := asL_cell hu
    obtain ⟨_, xs, e3, s, _⟩ := at_L o1 (show VD K g.dr (NM g Ω1) H1 (.ref a) (.obj a) from rfl) hu
    cases e3
    obtain ⟨zs, h1, h2, h3⟩ := (o1.ce a _ hc).2
    have hlen := h2.len
    rw [List.getLast?_eq_getElem?] at hy
    obtain ⟨w, hw, dw⟩ := h2.get' hy
    have kw : Keep g H1 Ω1 (upd H1 a (.lst zs.dropLast)) (put Ω1 a (.lst us.dropLast)) := .write hc
    refine ⟨.inl ⟨rfl, xs, s⟩, a, zs, w, rfl, rfl, h1, by rw [hlen]; exact hw, q _ _ _ _ p1 (k1.trans kw) (o1.write hc ⟨_, upd_same, (h2.dropLast).keep kw, by rw [List.length_dropLast]; omega⟩) (dw.keep kw)⟩) qx
end
end LT

namespace LT
open PySem PySem.Spec PyProof.Rows L2 LL
section
variable {K : PySem.W.Frag} {g : Gh} {H H' : Hp} {Ω Ω' : Om} {a : Addr} {c : Cell} {u w : HO}
/-! ### a cell under a lock -/
theorem nm_lock {b : Addr} (h : Ω a = some c) (f : NM g Ω b) : NM (g.with a) (cut Ω a) b := ⟨by unfold cut; split; rfl; exact f.1, f.2.1, fun z => z.elim f.2.2 (fun e => by rw [e] at f; rw [f.1] at h; cases h)⟩
theorem up_lock (h : Ω a = some c) : ∀ b o', NM g Ω b → H b = some o' → NM (g.with a) (cut Ω a) b ∧ upd H a u b = some o' := fun b o' f r => ⟨nm_lock h f, by rw [upd_ne (fun z => by rw [z] at f; rw [f.1] at h; cases h)]; exact r⟩
theorem cut_none {b : Addr} (h : Ω b = none) : cut Ω a b = none := by unfold cut; split; rfl; exact h
theorem cell_imp {g2 : Gh} {H2 : Hp} {Ω2 : Om} {b : Addr} {c' : Cell} (hd : g2.dr = g.dr) (hb : H2 b = H b) (up : ∀ b o', NM g Ω b → H b = some o' → NM g2 Ω2 b ∧ H2 b = some o') (r : CellOk K g Ω H b c') : CellOk K g2 Ω2 H2 b c' := by
  cases c' with
  | lst ts => obtain ⟨xs, q, r, z⟩ := r; exact ⟨xs, by rw [hb]; exact q, by rw [hd]; exact r.imp up, z⟩
  | dic ks ts => obtain ⟨xs, q, r, z⟩ := r; exact ⟨xs, by rw [hb]; exact q, by rw [hd]; exact r.imp up, z⟩
  | ins C dx ns ts => obtain ⟨xs, q, r, z⟩ := r; exact ⟨xs, by rw [hb]; exact q, by rw [hd]; exact r.imp up, z⟩
theorem OmOk.lock (o : OmOk K g H Ω) (h : Ω a = some c) : OmOk K (g.with a) (upd H a u) (cut Ω a) where
  dr := fun d s e => by
    obtain ⟨c', ns, h1, h2, h3, h4, h5, h6, h7, h8, p1, p2, p3⟩ := o.dr d s e
    obtain ⟨i, v, kk, t, gg, h0, q4⟩ := h4
    have ne : ∀ {b}, Ω b = none → b ≠ a := fun hb z => by rw [z, h] at hb; cases hb
    exact ⟨c', ns, by rw [upd_ne (ne h6)]; exact h1, h2, by rw [upd_ne (ne h8)]; exact h3, ⟨i, v, kk, t, gg, h0, by rw [upd_ne (ne h7)]; exact q4⟩, h5, cut_none h6, cut_none h7, cut_none h8, fun z => z.elim p1 (ne h6), fun z => z.elim p2 (ne h7), fun z => z.elim p3 (ne h8)⟩
  ce := fun b c' e => by
    have hb : b ≠ a := fun z => by rw [z, cut_same] at e; cases e
    rw [cut_ne hb] at e
    exact ⟨fun z => z.elim (o.ce b c' e).1 hb, cell_imp (g := g) rfl (upd_ne hb) (up_lock h) (o.ce b c' e).2⟩
  ex := fun p hp => by
    obtain ⟨e, dd, fs, e1, nn, e2, e3, e4⟩ := o.ex p hp
    have up := up_lock (g := g) (H := H) (u := u) h
    exact ⟨e, dd, fs, e1, (up _ _ nn e2).1, (up _ _ nn e2).2, e3, e4.imp up⟩
  pt := fun b hb => by
    by_cases e : b = a
    · exact ⟨u, by rw [e, upd_same]⟩
    · obtain ⟨w, q⟩ := o.pt b (hb.resolve_right e)
      exact ⟨w, by rw [upd_ne e]; exact q⟩
theorem Rel.lock {σ : L2.St} {ρ : En} (R : Rel K g σ H ρ Ω) (h : Ω a = some c) : Rel K (g.with a) σ (upd H a u) ρ (cut Ω a) := ⟨R.om.lock h, R.len, fun i t e => by
  obtain ⟨v, h1, h2⟩ := R.env i t e
  exact ⟨v, h1, VD.imp (up_lock h) t h2⟩⟩
theorem keep_lock (h : Ω a = some c) (k : Keep g (upd H a w) (cut Ω a) H' Ω') (nd : ∀ d, g.dr ≠ some (d, a)) : Keep g H Ω (upd H' a u) (put Ω' a c) := fun b o hb hd e => by
  have ne : b ≠ a := fun z => by rw [z, h] at hb; cases hb
  obtain ⟨k1, k2⟩ := k b o (cut_none hb) hd (by rw [upd_ne ne]; exact e)
  exact ⟨by rw [upd_ne ne]; exact k1, by rw [put_ne ne]; exact k2⟩
theorem up_free : ∀ b o', NM (g.with a) Ω' b → H' b = some o' → NM g (put Ω' a c) b ∧ upd H' a u b = some o' := fun b o' f r => by
  have ne : b ≠ a := fun z => f.2.2 (.inr z)
  exact ⟨⟨by rw [put_ne ne]; exact f.1, f.less.2⟩, by rw [upd_ne ne]; exact r⟩
theorem OmOk.free (o : OmOk K (g.with a) H' Ω') (hp : ¬ g.pr a) (hc : CellOk K (g.with a) Ω' (upd H' a u) a c) : OmOk K g (upd H' a u) (put Ω' a c) := (o.prot (o := u)).toCell hp hc
theorem Rel.free {σ : L2.St} {ρ : En} (R : Rel K (g.with a) σ H' ρ Ω') (hp : ¬ g.pr a) (hc : CellOk K (g.with a) Ω' (upd H' a u) a c) : Rel K g σ (upd H' a u) ρ (put Ω' a c) := ⟨R.om.free hp hc, R.len, fun i t e => by
  obtain ⟨v, h1, h2⟩ := R.env i t e
  exact ⟨v, h1, VD.imp up_free t h2⟩⟩
end
section
variable {K : PySem.W.Frag} {G : List (Value × Option Addr × XV) → Prop} {E : EK}
/-! ### for k, v in d.items(): d, a local, is not changed in the loop -/
def itemsT (ks : List Key) (ts : List Tr) : List Tr := (ks.zip ts).map fun kv => .tup [kT kv.1, kv.2]
def dForI (i : Nat) (dg : DG) (db : DS) : DS := fun D ρ Ω => ∃ a ks ts, ρ[i]? = some (some (.obj a)) ∧ Ω a = some (.dic ks ts) ∧ ∃ W : Nat → En → Om → Prop, W 0 ρ (cut Ω a) ∧
  (∀ j t ρ' Ω', (itemsT ks ts)[j]? = some t → W j ρ' Ω' → dg t ρ' Ω' (fun ρ2 Ω2 => db { nx := W (j + 1), ct := W (j + 1), rt := fun _ _ => False } ρ2 Ω2) nox) ∧ ∀ ρ' Ω', W ks.length ρ' Ω' → D.nx ρ' (put Ω' a (.dic ks ts))
theorem sim_forI {i : Nat} {tg : TG} {tb : TS} {dg : DG} {db : DS} (hg : SimG K G E tg dg) (hb : SimS K G E tb db) : SimS K G E (tLock (tFor (iItems (tVar i)) tg tb)) (dForI i dg db) := fun g σ H ρ Ω D DD hG R ⟨a, ks, ts, hi, hc, W, w0, step, fin⟩ e => by
  obtain ⟨v, ev, dv⟩ := R.env i _ hi
  obtain rfl : v = .ref a := dv
  obtain ⟨pa, xs, h1, h2, h3, h4⟩ := R.om.ce a _ hc
  have nd := R.om.notdr hc
  have hlen := h2.len
  have hkl : (ks.zip xs).length = ks.length := by rw [List.length_zip]; omega
  refine ⟨a, .dK (ks.zip xs), h1, trivial, fun od => ?_⟩
  refine ⟨.ref a, ev, a, od, ks.zip xs, rfl, upd_same, ?_⟩
  have R1 : Rel K (g.with a) σ (upd H a (.frz od (.dK (ks.zip xs)))) ρ (cut Ω a) := R.lock hc
  have d1 : VDL K (g.with a).dr (NM (g.with a) (cut Ω a)) (upd H a (.frz od (.dK (ks.zip xs)))) xs ts := VDL.imp (up_lock hc) ts h2
  have still : ∀ {H' Ω'}, Keep (g.with a) (upd H a (.frz od (.dK (ks.zip xs)))) (cut Ω a) H' Ω' → H' a = some (.frz od (.dK (ks.zip xs))) := fun k => (k a _ cut_same nd upd_same).1
  have back : ∀ {H' Ω'}, Keep (g.with a) (upd H a (.frz od (.dK (ks.zip xs)))) (cut Ω a) H' Ω' → CellOk K (g.with a) Ω' (upd H' a (.dK (ks.zip xs))) a (.dic ks ts) := fun k => ⟨xs, upd_same, VDL.prot (g := g) (D := a) (VDL.keep (g := g.with a) d1 k), h3, h4⟩
  refine ⟨fun j m σ' H' => m + j = ks.length ∧ ∃ ρ' Ω', Keep (g.with a) (upd H a (.frz od (.dK (ks.zip xs)))) (cut Ω a) H' Ω' ∧ Rel K (g.with a) σ' H' ρ' Ω' ∧ W j ρ' Ω', ⟨ks.length, by omega, ρ, _, .refl, R1, w0⟩, ?_⟩
  rintro j m σ' H' ⟨hm, ρ', Ω', k2, R2, w⟩
  rcases Nat.lt_or_ge j ks.length with hlt | hge
  · refine .inr ⟨⟨still k2, by rw [hkl]; exact hlt⟩, fun σ2 H2 => m - 1 + (j + 1) = ks.length ∧ ∃ ρ2 Ω2, Keep (g.with a) (upd H a (.frz od (.dK (ks.zip xs)))) (cut Ω a) H2 Ω2 ∧ Rel K (g.with a) σ2 H2 ρ2 Ω2 ∧ W (j + 1) ρ2 Ω2, fun σ2 H2 z => ⟨m - 1, by omega, z⟩, ?_⟩
    rintro x _ ⟨T, k, u, hk, rfl, nT, rfl⟩
    rw [List.getElem?_zip_eq_some] at hk
    obtain ⟨hk1, hk2⟩ := hk
    obtain ⟨t, ht⟩ : ∃ t, ts[j]? = some t := ⟨_, List.getElem?_eq_getElem (by omega)⟩
    obtain ⟨u', hu', du⟩ := d1.get' ht
    obtain rfl : u' = u := by rw [hk2] at hu'; exact (Option.some.inj hu').symm
    have npT : ¬ (g.with a).pr T := fun z => by obtain ⟨o, q⟩ := R2.om.pt T z; rw [nT] at q; cases q
    have kn : Keep (g.with a) H' Ω' (upd H' T (.tup [kV k, u'])) Ω' := .new nT
    have o3 := R2.om.new (o := .tup [kV k, u']) nT
    have dk : VDL K (g.with a).dr (NM (g.with a) Ω') (upd H' T (.tup [kV k, u'])) ([k].map kV) ([k].map kT) := vdl_keys
    obtain ⟨vk, _, ek, dk1, _⟩ := dk
    have ek1 : vk = kV k := (List.cons.inj ek).1.symm
    rw [ek1] at dk1
    have dt : VD K (g.with a).dr (NM (g.with a) Ω') (upd H' T (.tup [kV k, u'])) (.ref T) (.tup [kT k, t]) := ⟨T, [kV k, u'], rfl, .inl ⟨NM.new R2.om nT npT, upd_same⟩, ⟨_, _, rfl, dk1, ⟨_, _, rfl, VD.keep (g := g.with a) (VD.keep (g := g.with a) du k2) kn, rfl⟩⟩, by simp⟩
    have hit : (itemsT ks ts)[j]? = some (.tup [kT k, t]) := by
      unfold itemsT
      rw [List.getElem?_map, (List.getElem?_zip_eq_some (z := (k, t))).mpr ⟨hk1, ht⟩]
      rfl
    refine hg (g.with a) σ' _ ρ' Ω' (.ref T) _ _ _ _ hG (R2.keep kn o3) dt (step j _ ρ' Ω' hit w) (fun ρ2 Ω2 σ2 H2 p k4 R4 => ?_) fun _ _ _ ⟨_, _, z, _⟩ => z.elim
    have k5 := (k2.trans kn).trans k4
    exact hb (g.with a) σ2 H2 ρ2 Ω2 _ _ hG R4 p ⟨fun ρ3 Ω3 σ3 H3 p3 k r => ⟨by omega, ρ3, Ω3, k5.trans k, r, p3⟩, fun _ _ _ _ z => z.elim, fun _ _ _ _ z => z.elim, fun ρ3 Ω3 σ3 H3 p3 k r => ⟨by omega, ρ3, Ω3, k5.trans k, r, p3⟩, fun _ _ _ _ _ _ _ z => z.elim⟩
  · have hj : j = ks.length := by omega
    refine .inl ⟨⟨still k2, by rw [hkl]; exact hge⟩, still k2, ?_⟩
    have hf := fin ρ' Ω' (hj ▸ w)
    exact e.nx ρ' _ σ' _ hf (keep_lock hc k2 nd) (R2.free pa (back k2))
/-- the truth of a list or a tuple -/
def dTru (de : DE) : DT := fun ρ Ω P PX => de ρ Ω (fun x Ω1 => ∃ us, asS x Ω1 = some us ∧ P (!us.isEmpty) Ω1) PX
def tTru (K : PySem.W.Frag) (ta : TE) : TT := fun σ H Q => ta σ H fun x H' => ∃ k, TruV K x H' k ∧ Q k H'
theorem pt_tru {X : Cx} {a : PySem.Expr} {ta : TE} (h : PE X a ta) (ht : ∀ (whole : PySem.Sem PySem.Value), PySem.isTrue a X.env whole = do
          let v ← whole
          PySem.standAt a.pos
          PySem.holding [v] (PySem.truthy v)) : PT X a (tTru X.K ta) := pt_truth h ht
theorem sim_tru {te : TE} {de : DE} (h : SimE K G E te de) : SimT K G E (tTru K te) (dTru de) := fun g σ H ρ Ω P PX Q hG R p q qx =>
  h g σ H ρ Ω _ PX _ hG R p (fun x Ω1 v H1 ⟨us, hu, p1⟩ k1 o1 d1 => by
    obtain ⟨a, xs, rfl, s, dl, z⟩ := at_S o1 d1 hu
    have e : us.isEmpty = xs.isEmpty := by
      have := dl.len
      cases us <;> cases xs <;> simp_all
    refine ⟨!us.isEmpty, ?_, q _ _ _ p1 k1 o1⟩
    rw [e]
    rcases s with s | s
    · exact .inl ⟨xs, s, rfl⟩
    · exact .inr (.inl ⟨xs, s, rfl⟩)) qx
end
end LT

namespace LT
open PySem PySem.Spec PyProof.Rows L2 L2H LL
/-! ### try .. except A as e: .. except B as f: .. -/
structure Hdl where
  c : Value
  i : Nat
  ts : Addr → Value → Option Addr → TS
def endsAt (D : Ends) (i : Nat) : Ends := { nx := fun y G => D.nx (y.set i none) G, rt := D.rt, bk := fun y G => D.bk (y.set i none) G, ct := fun y G => D.ct (y.set i none) G }
def wRow (K : PySem.W.Frag) (Wo : WX) (D : Ends) : List Hdl → WX
  | [] => Wo
  | h :: r => fun cls d y G => ∃ b, PySem.W.exmOne K cls h.c = some b ∧ (b = true → ∀ a, G a = none → h.ts a cls d (endsAt D h.i) (y.set h.i (some (.ref a))) G) ∧ (b = false → wRow K Wo D r cls d y G)
inductive RowOk (X : Cx) : List ExceptHandler → List Hdl → Prop
  | nil : RowOk X [] []
  | cons {x n : Str} {h : Hdl} {b0 : Stmt} {su : List Stmt} {p1 p2 : Pos} {ks : List ExceptHandler} {l : List Hdl} (hi : X.N[h.i]? = some n) (hk : X.env.kindOf n = some .local) (hc : Names X x h.c)
      (hu : ∀ (a : Addr) (oe : Obj) (cls : Value) (d : Option Addr) (pn : List (Addr × Obj)), Zc cls d oe → (∃ u, oe.data = .fields u) → PSs (X.suite a ((a, oe) :: pn)) (b0 :: su) (h.ts a cls d)) (r : RowOk X ks l) :
      RowOk X (.ExceptHandler (some (.Name x p1)) (some n) (b0 :: su) p2 :: ks) (h :: l)
theorem row_cons {X : Cx} {x n : Str} {c : Value} {i : Nat} {ts : Addr → Value → Option Addr → TS} {b0 : Stmt} {su : List Stmt} {p1 p2 : Pos} {ks : List ExceptHandler} {l : List Hdl} (hi : X.N[i]? = some n) (hk : X.env.kindOf n = some .local) (hc : Names X x c)
    (hu : ∀ (a : Addr) (oe : Obj) (cls : Value) (d : Option Addr) (pn : List (Addr × Obj)), Zc cls d oe → (∃ u, oe.data = .fields u) → PSs (X.suite a ((a, oe) :: pn)) (b0 :: su) (ts a cls d)) (r : RowOk X ks l) : RowOk X (.ExceptHandler (some (.Name x p1)) (some n) (b0 :: su) p2 :: ks) (⟨c, i, ts⟩ :: l) := .cons hi hk hc hu r
section
variable {X : Cx} {body : List Stmt} {k0 : ExceptHandler} {ks : List ExceptHandler} {row : List Hdl} {pos : Pos} {tb : WX → TS} {Wo : WX}
def tTryRow (K : PySem.W.Frag) (row : List Hdl) (tb : WX → TS) (Wo : WX) : TS := fun D y G => tb (wRow K Wo D row) D y G
theorem ps_tryRow (st : X.stack = X.env :: X.outer) (fr : X.env.frame = some X.env.locals) (nd : X.N.Nodup) (tk : Takes X Wo)
    (bd : ∀ (W : WX) (pn : List (Addr × Obj)) (xe : Value → Shared → Prop), Takes (X.tr pn xe) W → PassesOwn (model X.prog X.w) X.A X.env xe → PSs (X.tr pn xe) body (tb W))
    (cl : RowOk X (k0 :: ks) row) : PS X (.Try body (k0 :: ks) [] [] pos) (tTryRow X.K row tb Wo) := by
  refine ⟨fun pp s0 y G D inv hyp => ?_⟩
  have ok := inv.ok
  have frs' : X.A.frames = some (X.env :: X.outer) := ok.frames.trans (congrArg some st)
  refine wpAny_Try_except ?_
  let out : Value → Shared → Prop := fun e t1 => wpAny (model X.prog X.w) X.A (noteFrame e X.env) (fun _ t2 => wpAny (model X.prog X.w) X.A (setFlight e none) (fun _ t3 => wpAny (model X.prog X.w) X.A (handleBy e X.env (k0 :: ks)) (SP X pp D) X.xe t3) X.xe t2) X.xe t1
  have takes : Takes (X.tr (X.pn ++ pp) out) (wRow X.K Wo D row) := by
    rintro u s9 ⟨a, B, sI, p9, y9, G9, cls, d, rfl, J9, nb, up, sky, na, os, ag, ask⟩
    have J : Inv X pp y9 G9 sI := J9.ofTry ok
    rw [show (X.tr (X.pn ++ pp) out).stack = X.env :: X.outer from st] at sky
    show wpAny (model X.prog X.w) X.A (noteFrame (.ref a) X.env) _ _ s9
    refine Sky.land Zc.steady frs' fr sky fun h3 f3 u3 => ?_
    have J3 : Inv X pp y9 G9 { s9 with heap := h3 } := J.landed nb f3.1 (up.trans u3) os ag
    obtain ⟨o3, v3, e3, z3, d3⟩ := f3.there
    have off : a ∉ frs (X.env :: X.outer) := fun hm => by
      obtain ⟨_, o', e', no⟩ := f3.2.2.1.mem hm
      rw [e3] at e'; cases e'
      exact no _ d3
    have offL : a ≠ X.env.locals := fun z => off (List.mem_filterMap.mpr ⟨_, List.mem_cons_self, z ▸ fr⟩)
    have offF : a ∉ X.fs := fun hm => by
      obtain ⟨e, he, q⟩ := List.mem_filterMap.mp hm
      exact off (List.mem_filterMap.mpr ⟨e, List.mem_cons_of_mem _ he, q⟩)
    have S3 := J3.suite e3 d3 na offL offF
    suffices all : ∀ {ks' : List ExceptHandler} {l' : List Hdl}, RowOk X ks' l' → wRow X.K Wo D l' cls d y9 G9 → wpAny (model X.prog X.w) X.A (handleBy (.ref a) X.env ks') (SP X pp D) X.xe { s9 with heap := h3 } from all cl ask
    intro ks' l' hk
    induction hk with
    | nil =>
      intro w
      refine wpAny_handleBy_nil ?_
      obtain ⟨_, _, _, oe, us, T, oT, us', he, hz, hd, h1, _⟩ := id f3
      unfold PySem.passOn
      refine wpAny_bind (wpAny_field he hd h1 ?_)
      rw [if_neg (show ¬ ((Value.ref T == Value.none) = true) from fun z => by simp at z)]
      have last : wpAny (model X.prog X.w) X.A (setFlight (.ref a) X.env.frame) (fun _ t4 => wpAny (model X.prog X.w) X.A (throw (.ref a) : Sem Flow) (SP X pp D) X.xe t4) X.xe { s9 with heap := h3 } := by
        rw [fr]
        exact HandSPX.setFlight_upZ f3 fun h4 hh4 up4 => wpAny_throw (tk _ _ ⟨a, B, sI, pp, y9, G9, cls, d, rfl, J, nb, (up.trans u3).trans up4, .inr (.inr (by rw [st]; exact hh4)), na, os, ag, w⟩)
      first
        | exact wpAny_bind (wpAny_pure (wpAny_bind last))
        | exact wpAny_bind last
    | @cons x n h b0 su p1 p2 ks2 l2 hi hkd hc hu r ih =>
      rintro ⟨b, eb, yes, no⟩
      refine wpAny_handleBy_cons (codeAny_handlers_test ?_) (by intro q; cases q)
      have lk : PySem.W.Looks (model X.prog X.w) h3 (typeOf (.ref a)) cls := fun _ _ _ s k q => wpAny_typeOf_ref (k _ _ e3) (by rw [z3.1]; exact q)
      have lm := PySem.W.exm_one (M := model X.prog X.w) (J3.kIn) lk eb
      have test : ∀ {Q E : Value → Shared → Prop}, Q h.c { s9 with heap := h3 } → wpAny (model X.prog X.w) (X.A.mark (some (.ref a))) (eval (.Name x p1) X.env) Q E { s9 with heap := h3 } := fun {Q E} q => by
        obtain ⟨g1, g2, hm | ⟨hm, hv, nn⟩⟩ := hc
        · exact ld_glob (X := X.suite a ((a, o3) :: (X.pn ++ pp))) S3 g1 hm q g2
        · exact ld_blt (X := X.suite a ((a, o3) :: (X.pn ++ pp))) S3 g1 hm hv q nn g2
      refine test (lm.here ?_)
      cases b with
      | false =>
        show wpAny _ X.A (handleBy (.ref a) X.env ks2) _ _ _
        exact ih (no rfl)
      | true =>
        refine codeAny_handlers_suite_as ?_
        refine HandSPX.lands_againZ f3 fun h4 f4 up4 => ?_
        have J4 : Inv X pp y9 G9 { s9 with heap := h4 } := J.landed nb f4.1 ((up.trans u3).trans up4) os ag
        obtain ⟨o4, v4, e4, z4, d4⟩ := f4.there
        have S4 := J4.suite e4 d4 na offL offF
        refine store_ok (X := X.suite a ((a, o4) :: (X.pn ++ pp))) (v := .ref a) S4 nd hi (.inl hkd) rfl (fun s5 S5 => ?_) (.inr hkd)
        refine wpAny_mono ((hu a o4 cls d (X.pn ++ pp) z4 ⟨_, d4⟩).run [] s5 _ G9 _ S5 (yes rfl a na)) (fun f s6 res => ?_) (fun _ _ z => z.elim)
        have gone : ∀ {y6 : L2.St} {G6 : Hp} {Q : Shared → Prop}, Inv (X.suite a ((a, o4) :: (X.pn ++ pp))) [] y6 G6 s6 → (∀ s7, Inv X pp (y6.set h.i none) G6 s7 → Q s7) → wpAny (model X.prog X.w) X.A (do bindName X.env n .none; unbindBehindTheSuite X.env n p2) (fun _ s7 => Q s7) X.xe s6 :=
          fun S6 hq => gone_ok (S6.unsuite ok) nd hi hkd hq
        match f, res with
        | .next, ⟨_, _, S6, q6⟩ => exact gone S6 fun s7 J7 => ⟨_, _, J7, q6⟩
        | .brk, ⟨_, _, S6, q6⟩ => exact gone S6 fun s7 J7 => ⟨_, _, J7, q6⟩
        | .cont, ⟨_, _, S6, q6⟩ => exact gone S6 fun s7 J7 => ⟨_, _, J7, q6⟩
        | .ret u, ⟨_, _, _, S6, r6, q6⟩ => exact gone S6 fun s7 J7 => ⟨_, _, _, J7, r6, q6⟩
  refine wpAny_mono ((bd (wRow X.K Wo D row) (X.pn ++ pp) out takes PassesOwn.looking).run [] s0 y G D (inv.toTry _) hyp) (fun f s1 res => ?_) (fun _ _ he => he)
  match f, res with
  | .next, ⟨y', G', J', q⟩ => exact wpAny_execs_nil ⟨y', G', J'.ofTry ok, q⟩
  | .brk, ⟨y', G', J', q⟩ => exact ⟨y', G', J'.ofTry ok, q⟩
  | .cont, ⟨y', G', J', q⟩ => exact ⟨y', G', J'.ofTry ok, q⟩
  | .ret u, ⟨v, y', G', J', r, q⟩ => exact ⟨v, y', G', J'.ofTry ok, r, q⟩
end
section
variable {K : PySem.W.Frag} {G : List (Value × Option Addr × XV) → Prop} {E : EK}
/-! the clauses' readings -/
structure HdT where
  c : Value
  i : Nat
  ds : Addr → XV → DS
def endsT (DD : DN) (i : Nat) : DN := { nx := fun ρ2 Ω2 => DD.nx (ρ2.set i none) Ω2, rt := DD.rt, bk := fun ρ2 Ω2 => DD.bk (ρ2.set i none) Ω2, ct := fun ρ2 Ω2 => DD.ct (ρ2.set i none) Ω2, ex := fun _ _ _ => False }
def exRow (K : PySem.W.Frag) (N : En → XV → Om → Prop) (DD : DN) : List HdT → En → XV → Om → Prop
  | [] => N
  | h :: r => fun ρ x Ω => ∃ b, PySem.W.exmOne K (.ref (He.ga K x.cls)) h.c = some b ∧ (b = true → ∀ a, h.ds a x (endsT DD h.i) (ρ.set h.i (some (.obj a))) Ω) ∧ (b = false → exRow K N DD r ρ x Ω)
inductive SimRow (K : PySem.W.Frag) (G : List (Value × Option Addr × XV) → Prop) : List Hdl → List HdT → Prop
  | nil : SimRow K G [] []
  | cons {c : Value} {i : Nat} {ts : Addr → Value → Option Addr → TS} {ds : Addr → XV → DS} {l : List Hdl} {l' : List HdT} (h : ∀ a cls d x, SimS K (GX G cls d x) (fun _ _ _ _ => False) (ts a cls d) (ds a x)) (r : SimRow K G l l') : SimRow K G (⟨c, i, ts⟩ :: l) (⟨c, i, ds⟩ :: l')
def dTryR (K : PySem.W.Frag) (l : List HdT) (db : DS) : DS := fun DD ρ Ω => db { DD with ex := exRow K (fun ρ' x Ω' => DD.ex ρ' x Ω') DD l } ρ Ω
def dTryR0 (K : PySem.W.Frag) (l : List HdT) (db : DS) : DS := fun DD ρ Ω => db { DD with ex := exRow K (fun _ _ _ => False) DD l } ρ Ω
theorem row_sim {Wo : WX} {D : Ends} {DD : DN} {N : En → XV → Om → Prop} {g : Gh} {H : Hp} {Ω : Om} (hG : G g.ex) (e : EndsR K E g H Ω D DD) (out : ∀ x ρ' Ω' σ' cls d H', N ρ' x Ω' → Keep g H Ω H' Ω' → Rel K g σ' H' ρ' Ω' → XR K g Ω' H' cls d x → Wo cls d σ' H') :
    ∀ {l : List Hdl} {l' : List HdT}, SimRow K G l l' → ∀ x ρ' Ω' σ' cls d H', exRow K N DD l' ρ' x Ω' → Keep g H Ω H' Ω' → Rel K g σ' H' ρ' Ω' → XR K g Ω' H' cls d x → wRow K Wo D l cls d σ' H' := by
  intro l l' r
  induction r with
  | nil => exact fun x ρ' Ω' σ' cls d H' p k R' xr => out x ρ' Ω' σ' cls d H' p k R' xr
  | @cons c i ts ds l l' hs r ih =>
    rintro x ρ' Ω' σ' cls d H' ⟨b, eb, h1, h2⟩ k R' xr
    have ec : cls = .ref (He.ga K x.cls) := xr.1
    refine ⟨b, by rw [ec]; exact eb, fun hb' a na => ?_, fun hb' => ih x ρ' Ω' σ' cls d H' (h2 hb') k R' xr⟩
    exact hs a cls d x (g.and (cls, d, x)) _ H' _ Ω' _ _ ⟨g.ex, rfl, hG⟩ ((R'.set (v := .ref a) (t := .obj a) rfl).and xr) (h1 hb' a) ⟨fun ρ2 Ω2 σ2 H2 p2 k2 r2 => e.nx _ Ω2 _ H2 p2 (k.trans k2) r2.drop.none, fun t Ω2 v H2 p2 k2 o2 d2 => e.rt t Ω2 v H2 p2 (k.trans k2) o2.drop d2, fun ρ2 Ω2 σ2 H2 p2 k2 r2 => e.bk _ Ω2 _ H2 p2 (k.trans k2) r2.drop.none, fun ρ2 Ω2 σ2 H2 p2 k2 r2 => e.ct _ Ω2 _ H2 p2 (k.trans k2) r2.drop.none, fun _ _ _ _ _ _ _ z => z.elim⟩
theorem sim_tryR {l : List Hdl} {l' : List HdT} {tb : WX → TS} {Wo : WX} {db : DS} (hE : ∀ σ cls d H, E σ cls d H = Wo cls d σ H) (hb : ∀ W : WX, SimS K G (WE W) (tb W) db) (hs : SimRow K G l l') : SimS K G E (tTryRow K l tb Wo) (dTryR K l' db) := fun g σ H ρ Ω D DD hG R p e =>
  hb _ g σ H ρ Ω D _ hG R p ⟨e.nx, e.rt, e.bk, e.ct, fun x ρ' Ω' σ' cls d H' q k R' xr => row_sim hG e (fun x ρ' Ω' σ' cls d H' q k R' xr => by rw [← hE]; exact e.ex x ρ' Ω' σ' cls d H' q k R' xr) hs x ρ' Ω' σ' cls d H' q k R' xr⟩
theorem sim_tryR0 {l : List Hdl} {l' : List HdT} {tb : WX → TS} {db : DS} (hb : ∀ W : WX, SimS K G (WE W) (tb W) db) (hs : SimRow K G l l') : SimS K G E (tTryRow K l tb (fun _ _ _ _ => False)) (dTryR0 K l' db) := fun g σ H ρ Ω D DD hG R p e =>
  hb _ g σ H ρ Ω D _ hG R p ⟨e.nx, e.rt, e.bk, e.ct, fun x ρ' Ω' σ' cls d H' q k R' xr => row_sim hG e (fun _ _ _ _ _ _ _ z => z.elim) hs x ρ' Ω' σ' cls d H' q k R' xr⟩
/-! ### o.m(..) within a try -/
def tMthS (C : Addr) (m : Str) (sp : Sp) (dvs : List V) (E : EK) (ta : TE) (t : TA) : TE := fun σ H Q => ta σ H fun x H1 => ∃ a dx fs, x = .ref a ∧ H1 a = some (.ins C dx fs) ∧ fs.lookup m = none ∧ t σ H1 fun vs H2 => sp (x :: (vs ++ dvs)) H2 Q (E σ)
section
variable {X : Cx} {CX : CXT} {k : Nat} {f C : Addr} {fd : FuncData} {ps : List Str} {sp : Sp} {m : Str} {dvs : List V} {ds : List Value} {q1 q2 : Pos} {e o : Expr} {es : List Expr} {ta : TE} {t : TA} {pl : Sem Bool}
theorem pe_mthS (he : PE X o ta) (c : Cls X.K C) (hm : Meth X.K C m f) (F : FnOk X.prog X.w X.K X.mg X.base CX k f fd ps sp) (room : Room k X.A) (bi : Binds X.K fd ps ds) (dd : Vals dvs ds) (px : ∀ σ, PassesAt CX X σ (E σ)) (args : PA X (e :: es) t)
    (s1 : starEach (e :: es) X.env = (false, eval e X.env) :: starEach es X.env := by rfl) (s2 : (backTo q2 (starEach es X.env)).any (·.1) = false := by rfl)
    (ev : eval (.Call (.Attribute o m q1) (e :: es) [] q2) X.env = (do let ov ← eval o X.env; standAt q1.atName; let (f, first) ← holding [ov] (getMethod ov m pl); callWith q2 f first (backTo q2 (starEach (e :: es) X.env)) (backToKw q2 (keywordEach [] X.env))) := by rfl) :
    PE X (.Call (.Attribute o m q1) (e :: es) [] q2) (tMthS C m sp dvs E ta t) := ⟨fun pp st y G W inv hyp => by
  refine PySem.W.methodCall_KW (pl := pl) (thn (he.run pp st y G _ inv hyp) fun u st1 ⟨x, G1, inv1, rx, a, dx, fs, ex, ea, look, ask⟩ => ?_) ev
  subst ex
  obtain rfl : u = Value.ref a := rx
  refine getmeth_ok inv1 ea c hm look ?_
  refine PySem.W.callWith_K (first := [.ref a]) (h₀ := X.base) inv.ok.mod.kin hm.kp (thn (args.run q2 pp st1 y G1 _ inv1 ask) fun us st2 ⟨vs, G2, inv2, rel, ask2⟩ => ⟨inv2.kIn, ?_⟩) s1 s2
  exact run_fnSD (us := .ref a :: us) (vs := .ref a :: vs) F room bi dd (px y) inv2 (.cons rfl rel) ask2⟩
theorem pe_mthS0 (he : PE X o ta) (c : Cls X.K C) (hm : Meth X.K C m f) (F : FnOk X.prog X.w X.K X.mg X.base CX k f fd ps sp) (room : Room k X.A) (bi : Binds X.K fd ps ds) (dd : Vals dvs ds) (px : ∀ σ, PassesAt CX X σ (E σ))
    (ev : eval (.Call (.Attribute o m q1) [] [] q2) X.env = (do let ov ← eval o X.env; standAt q1.atName; let (f, first) ← holding [ov] (getMethod ov m pl); callWith q2 f first (backTo q2 (starEach [] X.env)) (backToKw q2 (keywordEach [] X.env))) := by rfl) :
    PE X (.Call (.Attribute o m q1) [] [] q2) (tMthS C m sp dvs E ta tNil) := ⟨fun pp st y G W inv hyp => by
  refine PySem.W.methodCall_KW (pl := pl) (thn (he.run pp st y G _ inv hyp) fun u st1 ⟨x, G1, inv1, rx, a, dx, fs, ex, ea, look, ask⟩ => ?_) ev
  subst ex
  obtain rfl : u = Value.ref a := rx
  refine getmeth_ok inv1 ea c hm look ?_
  exact PySem.W.callWith_K0 (first := [.ref a]) inv1.kIn hm.kp (run_fnSD (us := [.ref a]) (vs := [.ref a]) F room bi dd (px y) inv1 (.cons rfl .nil) ask)⟩
end
theorem sim_mthS {C : Addr} {m : Str} {P : Pw} {n : Nat} {dvs : List V} {dts : List Tr} {te : TE} {de : DE} {ta : TA} {da : DA} (hd : DfOk K dvs dts) (he : SimE K G E te de) (ha : SimA K G E ta da) : SimE K G E (tMthS C m (spD K P n) dvs E te ta) (dMeth C m P n dts de da) := fun g σ H ρ Ω Q PX QQ hG R h q qx =>
  he g σ H ρ Ω _ PX _ hG R h (fun x Ω1 v H1 ⟨a, hx, p⟩ k1 o1 d1 => by
    obtain ⟨dx, ns, ts, ex, hc, hf⟩ := insM_eq hx
    subst ex
    obtain rfl : v = .ref a := d1
    obtain ⟨xs, h1, h2, h3⟩ := (o1.ce a _ hc).2
    refine ⟨a, dx, _, rfl, h1, (fld_vd h2 h3).2 hf, ?_⟩
    exact ha g σ H1 ρ Ω1 _ PX _ hG (R.keep k1 o1) p (fun us Ω2 vs H2 ⟨hl, p2⟩ k2 o2 d2 => ⟨g, Ω2, .obj a :: (us ++ dts), Q, PX, by simp only [List.length_cons, List.length_append]; omega, ⟨.ref a, vs ++ dvs, rfl, rfl, vdl_app (hd g _ _) d2⟩, o2, p2, q.at (k1.trans k2), qx.at (k1.trans k2)⟩) (qx.at k1)) qx
/-! ### C(.., k = v) -/
def dMakeK (C : Addr) (P : Pw) (n m k : Nat) (gT : List Tr → List Tr → List Tr) (da dk : DA) : DE := fun ρ Ω Q PX => da ρ Ω (fun us Ω1 => dk ρ Ω1 (fun zs Ω2 => us.length = n ∧ zs.length = m ∧ ∀ a dx, Ω2 a = none → (gT (.obj a :: us) zs).length = k ∧ P (gT (.obj a :: us) zs) (put Ω2 a (.ins C dx [] [])) (fun t Ω3 => t = .non ∧ Q (.obj a) Ω3) nox) PX) PX
theorem sim_makeK {C : Addr} {P : Pw} {n m k : Nat} {gV : List V → List V → List V} {gT : List Tr → List Tr → List Tr} {ta tk : TA} {da dk : DA} (hg : ∀ (dr : Option (Addr × Addr)) (F : Addr → Prop) (H : Hp) (vs zs : List V) (ts us : List Tr), VDL K dr F H vs ts → VDL K dr F H zs us → VDL K dr F H (gV vs zs) (gT ts us)) (ha : SimA K G E ta da) (hk : SimA K G E tk dk) : SimE K G E (tMakeK C n m (spD K P k) gV E0 ta tk) (dMakeK C P n m k gT da dk) := fun g σ H ρ Ω Q PX QQ hG R h q qx =>
  ha g σ H ρ Ω _ PX _ hG R h (fun us Ω0 vs H0 p0 k0 o0 d0 => hk g σ H0 ρ Ω0 _ PX _ hG (R.keep k0 o0) p0 (fun zs Ω1 ws H1 ⟨hl, hm, p⟩ k1' o1 d1 => by
    refine ⟨by rw [d0.len]; exact hl, by rw [d1.len]; exact hm, fun x dx nx ndx ne => ?_⟩
    have k1 := k0.trans k1'
    have npd : Keep g H1 Ω1 (upd H1 dx (.own x)) Ω1 := .new ndx
    have o2 := o1.new (o := .own x) ndx
    have nx2 : upd H1 dx (.own x) x = none := by rw [upd_ne (Ne.symm ne)]; exact nx
    have np : ¬ g.pr x := fun z => by obtain ⟨u, e⟩ := o1.pt x z; rw [nx] at e; cases e
    have kc : Keep g (upd H1 dx (.own x)) Ω1 (upd (upd H1 dx (.own x)) x (.ins C dx [])) (put Ω1 x (.ins C dx [] [])) := .cell nx2
    have o3 : OmOk K g (upd (upd H1 dx (.own x)) x (.ins C dx [])) (put Ω1 x (.ins C dx [] [])) := o2.cell nx2 np ⟨[], by rw [upd_same]; rfl, rfl, rfl⟩
    have kk := (k1.trans npd).trans kc
    obtain ⟨hl2, p2⟩ := p x dx (o1.fresh nx)
    refine ⟨g, put Ω1 x (.ins C dx [] []), gT (.obj x :: us) zs, _, nox, hl2, hg _ _ _ _ _ _ _ ⟨.ref x, vs, rfl, rfl, ((d0.keep k1').keep npd).keep kc⟩ ((d1.keep npd).keep kc), o3, p2, fun t Ω2 v H2 ⟨e, pq⟩ k4 o4 d4 => ?_, AfterX.nox⟩
    subst e
    exact ⟨d4, q _ _ _ _ pq (kk.trans k4) o4 rfl⟩) (qx.at k0)) qx
/-! ### a, b, .. = a list -/
theorem pg_lstK {X : Cx} {K : PySem.W.Frag} {pos : Pos} {es : List Expr} {k : Nat} {t : TGs} {n : Nat} (hK : X.K = K) (hc : X.calm = true) (h : PGs X es t) (h1 : (assignEach es X.env).length = n := by rfl) (h2 : List.findIdx? (fun x => x.1) (assignEach es X.env) = none := by rfl) : PG X (.Tuple es k pos) (gLst K n t) := hK ▸ pg_lst hc h h1 h2
def dLstG (n : Nat) (d : DGs) : DG := fun t ρ Ω P _ => ∃ ts, asL t Ω = some ts ∧ ts.length = n ∧ d ts ρ Ω P nox
theorem sim_gLst {n : Nat} {t : TGs} {d : DGs} (h : SimGs K G t d) : SimG K G E (gLst K n t) (dLstG n d) := fun g σ H ρ Ω v t' P PX Q hG R dd ⟨ts, e1, hl, p⟩ q _ => by
  obtain ⟨a, xs, rfl, hs, _, dl, hz⟩ := at_L R.om dd e1
  exact ⟨a, xs, rfl, hs, by rw [dl.len]; exact hl, h g σ H ρ Ω xs ts P Q hG R dl p q⟩
end
end LT

namespace K12
open PySem PySem.Spec PyProof.Rows L2 LL LT
local macro_rules | `(tactic| fail "s") => `(tactic| first | (with_reducible first | exact sim_var | exact sim_int | exact sim_bl | exact sim_str | exact sim_non | exact sim_ty | exact sim_ref | exact sim_nil | apply sim_cons | apply sim_op | apply simr_I0 | apply simr_I | exact simr_Eq | exact simr_Ne | exact simr_IxA | exact simr_addG | exact simr_isN | exact simr_notN | exact simr_isB | exact simr_in | exact simr_IxL | exact simr_IxT | exact simr_IxS | exact simr_EqD | exact simr_NeD | exact simr_rep | exact simr_repW | apply sim_un | apply sim_test | apply sim_tB | apply sim_and | apply sim_or | apply sim_not | apply sim_andV | apply sim_orV | apply sim_notV | apply sim_if | apply sim_chain | apply sim_tup | apply sim_lst | apply sim_bor0 | apply sim_bor | apply sim_borS | apply sim_call0 | apply sim_call | apply sim_callS | apply sim_callZ | apply sim_isXT | apply sim_isX | apply sim_xf | apply sim_sortS | apply sim_listRg | apply sim_CB | exact simc_len | exact simc_int | exact simc_isi | exact simc_mx | exact simc_mn | exact simc_sum | exact simc_maxL | exact simc_minL | exact simc_minS | exact simc_all | exact simc_any | exact simc_list | exact simc_tuple | exact simc_isiT | exact simc_strI | exact simc_sortI | exact simc_sortR | apply sim_sl | exact simsl_G | exact simsl_L | exact sim_oNone | apply sim_oSome | apply sim_append | exact sim_newD | apply sim_disp1 | apply sim_dget2 | apply sim_dget1 | apply sim_dget | apply sim_din | apply sim_dnotin | apply sim_lc | apply sim_dc | exact sim_yes | apply sim_iL | apply sim_iT | apply sim_iS | apply sim_iR1 | apply sim_iR2 | apply sim_iE | apply sim_iZ | apply sim_revT | exact gin_name (by decide) | apply gin_tup | exact gin_nil | apply gin_cons | exact mono_name | exact mono_nil | apply mono_cons | apply mono_tup | exact sim_next | apply sim_mk | apply sim_fgl | apply sim_fg | apply sim_seq | apply sim_ret | exact sim_retN | apply sim_drop | exact sim_break | exact sim_cont | apply sim_ifS | apply sim_asg | exact sim_gName | apply sim_gTup | exact sim_gNil | apply sim_gCons | apply sim_gSub | apply sim_for | apply sim_while | apply sim_dput | apply sim_raise | apply sim_tryT0 | apply sim_tryT) | exact fun _ _ => rfl | exact fun _ => rfl | exact fun _ _ _ _ => rfl | intro W | intro a cls d x)
local macro_rules | `(tactic| fail "l") => `(tactic| (simp only [List.length_append,List.length_take,List.length_drop,List.length_map,List.length_cons,List.length_nil,List.length_set,List.length_replicate,List.length_range]; omega))
local macro_rules | `(tactic| fail "r") => `(tactic| first | fail "d" | with_reducible refine fun (_ : _ ≤ 1000000) => ?_ | with_reducible refine Or.inl (fun (_ : _ ≤ 1000000) => ?_) | with_reducible refine lst_in ?_ | with_reducible refine dic_in ?_ | with_reducible refine tk_call (by first | decide | exact tk_big (by omega) (by omega)) fun v h0 h1 => ?_ | with_reducible refine bt_call (by first | decide | exact tk_big (by omega) (by omega)) fun v h0 h1 => ?_ | with_reducible refine ct_call (by first | decide | exact ⟨by omega, by omega, by omega⟩) fun v h0 h1 => ?_ | with_reducible refine LL.itei (fun h => ?_) fun h => ?_ | with_reducible refine pickP (by omega) (by simp only [List.length_cons, List.length_nil]; omega) ?_ | with_reducible refine List.forall_mem_cons.mpr (And.intro ?_ ?_) | with_reducible exact LT.nil_all | with_reducible refine And.intro (by first | (unfold CPow; decide) | omega | rfl) ?_ | with_reducible refine am_call rfl (List.cons_ne_nil _ _) ?_ | refine And.intro (show CMul _ _ from .inl ⟨by omega, by omega⟩) ?_)
local macro_rules | `(tactic| fail "d") => `(tactic| simp only [and_true,dLstG,dTryR0,dTryR,exRow,endsT,dMakeK,dTru,dPop,dFld,dSetF,dMeth,dMeth0,dProp,dMake,dSortI,dSortR,dLstRg,dRepW,dRetF,dForgets,asD_put,dSortS,dDPut,dCallZ,dBor,dBor0,diZ,dRevT,dStrI,dIsXT,dTry0,dTry,dXf,dIsX,dNewD,dDisp1,Prod.mk.injEq,wipeT,Int.toNat_natCast,asL_put,put_same,put_put,Cell.lst.injEq,atI_0,atI_1,atI_2,atI_3,atI_4,atI_5,atI_6,atI_7,atI_8,atI_9,Tr.ty.injEq,tyN_int,tyN_bool,tyN_str,tyN_list,tyN_tuple,tyN_dict,dVar,dC,dName,dOp,dI,dI0,dUn,dU,dEq,dNe,dTest,dAnd,dOr,dNot,dAndV,dOrV,dNotV,dIf,dChain,dNil,dCons,dTup,dLst,dCall,dCall0,dCB,dNext,dSeq,dRet,dRetN,dDrop,dBreak,dCont,dIfS,dgNil,dgCons,dTupG,dAsg,diL,diT,diS,diR1,diR2,diE,dYes,dIx,dLen,dInt,dMx,dSum,dAll,dIsi,dIsiT,doNone,doSome,dSl,dApp,dSub,dSet,dEqD,dGet,dGet1,dGet2,LT.dIn,dIsN,dIsB,dIn',dList,dTuple,dRaise,dMaxL,dMinL,dMinS,dRep,asL_lst,asS_lst,asS_tup,asT_tup,flatV',Tr.int.injEq,Tr.bl.injEq,Tr.str.injEq,Tr.lst.injEq,Tr.tup.injEq,Tr.obj.injEq,Option.isSome_some,List.map_cons,List.map_nil,List.length_cons,List.length_nil,List.replicate_succ,List.replicate_zero,List.cons_append,List.nil_append,List.append_nil,List.getElem?_cons_zero,List.getElem?_cons_succ,List.set_cons_zero,List.set_cons_succ,Nat.add_sub_cancel,Nat.reduceAdd,Nat.reduceSub,Option.some.injEq,List.cons.injEq,and_true,true_and,and_false,false_and,exists_eq_left,exists_eq_left',exists_and_left,exists_and_right,exists_eq,exists_eq',LL.if_dec,reduceCtorEq,exists_false,exists_const,or_false,false_or,if_true,if_false,and_assoc,Int.reduceEq,Int.reduceNe,Int.reduceNeg,Int.reduceLT,Int.reduceLE,Int.reduceMul,Int.reduceAdd,Int.reduceSub,Int.reducePow,Int.reduceToNat,Nat.reducePow,Nat.reduceLT,Nat.reduceLeDiff,true_or,or_true,Bool.not_true,Bool.not_false,Bool.false_eq_true,Bool.or_false,Bool.or_true,Bool.true_or,Bool.false_or,decide_true,decide_false,not_true_eq_false,not_false_eq_true,LL.scal_int,LL.scal_bl,LL.scal_str,V.int.injEq,V.bl.injEq,V.str.injEq,Nat.zero_le,forall_const,true_implies,kindT_non,isNonT_non,flatT_non,flatK_non,isBT_non_true,isBT_non_false,toV_non,ofV_non,keyT_non,isT_non_int,isT_non_bool,isT_non_str,isT_non_list,isT_non_tuple,isT_non_dict,kindT_bl,isNonT_bl,flatT_bl,flatK_bl,toV_bl,ofV_bl,keyT_bl,isT_bl_int,isT_bl_bool,isT_bl_str,isT_bl_list,isT_bl_tuple,isT_bl_dict,kindT_int,isNonT_int,flatT_int,flatK_int,isBT_int_true,isBT_int_false,toV_int,ofV_int,keyT_int,isT_int_int,isT_int_bool,isT_int_str,isT_int_list,isT_int_tuple,isT_int_dict,kindT_str,isNonT_str,flatT_str,flatK_str,isBT_str_true,isBT_str_false,toV_str,ofV_str,keyT_str,isT_str_int,isT_str_bool,isT_str_str,isT_str_list,isT_str_tuple,isT_str_dict,kindT_lst,isNonT_lst,flatT_lst,flatK_lst,isBT_lst_true,isBT_lst_false,lenT_lst,keyT_lst,isT_lst_int,isT_lst_bool,isT_lst_str,isT_lst_list,isT_lst_tuple,isT_lst_dict,kindT_tup,isNonT_tup,flatT_tup,flatK_tup,isBT_tup_true,isBT_tup_false,lenT_tup,keyT_tup,isT_tup_int,isT_tup_bool,isT_tup_str,isT_tup_list,isT_tup_tuple,isT_tup_dict,kindT_dic,isNonT_dic,flatT_dic,flatK_dic,isBT_dic_true,isBT_dic_false,lenT_dic,keyT_dic,isT_dic_int,isT_dic_bool,isT_dic_str,isT_dic_list,isT_dic_tuple,isT_dic_dict,kindT_obj,isNonT_obj,flatT_obj,flatK_obj,isBT_obj_true,isBT_obj_false,keyT_obj,kindT_drw,isNonT_drw,flatT_drw,flatK_drw,isBT_drw_true,isBT_drw_false,keyT_drw,kindT_ty,isNonT_ty,flatT_ty,flatK_ty,isBT_ty_true,isBT_ty_false,toV_ty,ofV_ty,keyT_ty,asD_dic,isBT_bl,dAddG_int,dAddG_str,dAddG_tup,dAddG_lst_lst,dAddG_lst_obj,dAddG_obj_lst,dAddG_obj_obj,dSlG_tup,dSlG_str,dSlG_lst,dSlG_obj])
local macro_rules | `(tactic| simp! only [$xs,*]) => `(tactic| try simp only [$xs,*,dLstG,dTryR0,dTryR,exRow,endsT,dMakeK,dTru,dPop,dFld,dSetF,dMeth,dMeth0,dProp,dMake,dSortI,dSortR,dLstRg,dRepW,dRetF,dForgets,asD_put,dSortS,dDPut,dCallZ,dBor,dBor0,diZ,dRevT,dStrI,dIsXT,dTry0,dTry,dXf,dIsX,dNewD,dDisp1,Prod.mk.injEq,wipeT,Int.toNat_natCast,asL_put,put_same,put_put,Cell.lst.injEq,atI_0,atI_1,atI_2,atI_3,atI_4,atI_5,atI_6,atI_7,atI_8,atI_9,Tr.ty.injEq,tyN_int,tyN_bool,tyN_str,tyN_list,tyN_tuple,tyN_dict,dVar,dC,dName,dOp,dI,dI0,dUn,dU,dEq,dNe,dTest,dAnd,dOr,dNot,dAndV,dOrV,dNotV,dIf,dChain,dNil,dCons,dTup,dLst,dCall,dCall0,dCB,dNext,dSeq,dRet,dRetN,dDrop,dBreak,dCont,dIfS,dgNil,dgCons,dTupG,dAsg,diL,diT,diS,diR1,diR2,diE,dYes,dIx,dLen,dInt,dMx,dSum,dAll,dIsi,dIsiT,doNone,doSome,dSl,dApp,dSub,dSet,dEqD,dGet,dGet1,dGet2,LT.dIn,dIsN,dIsB,dIn',dList,dTuple,dRaise,dMaxL,dMinL,dMinS,dRep,asL_lst,asS_lst,asS_tup,asT_tup,flatV',Tr.int.injEq,Tr.bl.injEq,Tr.str.injEq,Tr.lst.injEq,Tr.tup.injEq,Tr.obj.injEq,Option.isSome_some,List.map_cons,List.map_nil,List.length_cons,List.length_nil,List.replicate_succ,List.replicate_zero,List.cons_append,List.nil_append,List.append_nil,List.getElem?_cons_zero,List.getElem?_cons_succ,List.set_cons_zero,List.set_cons_succ,Nat.add_sub_cancel,Nat.reduceAdd,Nat.reduceSub,Option.some.injEq,List.cons.injEq,and_true,true_and,and_false,false_and,exists_eq_left,exists_eq_left',exists_and_left,exists_and_right,exists_eq,exists_eq',LL.if_dec,reduceCtorEq,exists_false,exists_const,or_false,false_or,if_true,if_false,and_assoc,Int.reduceEq,Int.reduceNe,Int.reduceNeg,Int.reduceLT,Int.reduceLE,Int.reduceMul,Int.reduceAdd,Int.reduceSub,Int.reducePow,Int.reduceToNat,Nat.reducePow,Nat.reduceLT,Nat.reduceLeDiff,true_or,or_true,Bool.not_true,Bool.not_false,Bool.false_eq_true,Bool.or_false,Bool.or_true,Bool.true_or,Bool.false_or,decide_true,decide_false,not_true_eq_false,not_false_eq_true,LL.scal_int,LL.scal_bl,LL.scal_str,V.int.injEq,V.bl.injEq,V.str.injEq,Nat.zero_le,forall_const,true_implies,kindT_non,isNonT_non,flatT_non,flatK_non,isBT_non_true,isBT_non_false,toV_non,ofV_non,keyT_non,isT_non_int,isT_non_bool,isT_non_str,isT_non_list,isT_non_tuple,isT_non_dict,kindT_bl,isNonT_bl,flatT_bl,flatK_bl,toV_bl,ofV_bl,keyT_bl,isT_bl_int,isT_bl_bool,isT_bl_str,isT_bl_list,isT_bl_tuple,isT_bl_dict,kindT_int,isNonT_int,flatT_int,flatK_int,isBT_int_true,isBT_int_false,toV_int,ofV_int,keyT_int,isT_int_int,isT_int_bool,isT_int_str,isT_int_list,isT_int_tuple,isT_int_dict,kindT_str,isNonT_str,flatT_str,flatK_str,isBT_str_true,isBT_str_false,toV_str,ofV_str,keyT_str,isT_str_int,isT_str_bool,isT_str_str,isT_str_list,isT_str_tuple,isT_str_dict,kindT_lst,isNonT_lst,flatT_lst,flatK_lst,isBT_lst_true,isBT_lst_false,lenT_lst,keyT_lst,isT_lst_int,isT_lst_bool,isT_lst_str,isT_lst_list,isT_lst_tuple,isT_lst_dict,kindT_tup,isNonT_tup,flatT_tup,flatK_tup,isBT_tup_true,isBT_tup_false,lenT_tup,keyT_tup,isT_tup_int,isT_tup_bool,isT_tup_str,isT_tup_list,isT_tup_tuple,isT_tup_dict,kindT_dic,isNonT_dic,flatT_dic,flatK_dic,isBT_dic_true,isBT_dic_false,lenT_dic,keyT_dic,isT_dic_int,isT_dic_bool,isT_dic_str,isT_dic_list,isT_dic_tuple,isT_dic_dict,kindT_obj,isNonT_obj,flatT_obj,flatK_obj,isBT_obj_true,isBT_obj_false,keyT_obj,kindT_drw,isNonT_drw,flatT_drw,flatK_drw,isBT_drw_true,isBT_drw_false,keyT_drw,kindT_ty,isNonT_ty,flatT_ty,flatK_ty,isBT_ty_true,isBT_ty_false,toV_ty,ofV_ty,keyT_ty,asD_dic,isBT_bl,dAddG_int,dAddG_str,dAddG_tup,dAddG_lst_lst,dAddG_lst_obj,dAddG_obj_lst,dAddG_obj_obj,dSlG_tup,dSlG_str,dSlG_lst,dSlG_obj])
variable {P : Program} {w : World} {K : PySem.W.Frag} {mg : Str → Option Value} {base : Heap}

/-- 0 < many: a number of 0 .. many - 1 -/
noncomputable def sp_law_mixed : Sp := fun vs H Q _ => ∃ a b m : Int, vs = [.int a, .int b, .int m] ∧ 0 < m ∧ ∀ v : Int, 0 ≤ v → v < m → Q (.int v) H
noncomputable def sp_law_next_cell : Sp := fun vs H Q _ => ∃ d s, vs = [.ref d] ∧ Drw d s H ∧ ∀ H', Aft d s H H' → Q .non H'
noncomputable def sp_law_take : Sp := fun vs H Q _ => ∃ d s m, vs = [.ref d, .int m] ∧ Drw d s H ∧ m.natAbs < 2 ^ 4000 ∧ ∀ v H', Aft d s H H' → 0 ≤ v → (v < m ∨ v = 0) → Q (.int v) H'
theorem use_take {d s : Addr} {m : Int} {H : Hp} {Q : VK} {E : XK} (D : Drw d s H) (hm : m.natAbs < 2 ^ 4000) (q : ∀ v H', Aft d s H H' → Drw d s H' → 0 ≤ v → (v < m ∨ v = 0) → Q (.int v) H') : sp_law_take [.ref d, .int m] H Q E :=
  ⟨d, s, m, rfl, D, hm, fun v H' a => q v H' a a.dr⟩

theorem ok_law_mixed (T : Tx K mg) : FnOk P w K mg base CX0 1 (He.ga K "_law_mixed") T.fd_law_mixed P_law_mixed sp_law_mixed := by
  refine T.F_law_mixed.ok sc_law_mixed (fun vs H Q E h => ?_) (fun cdv A outer s H vs Q E hr h => ⟨_, PSs.nox (pss_cons (ps_set (i := 3) sc_law_mixed.nd rfl (Or.inl rfl) (pe_int)) (pss_cons (ps_for PassesOwn.never rfl (pi_range1 rfl T.z_range (pa_cons (pe_int) pa_nil)) (pg_name (i := 4) sc_law_mixed.nd rfl (Or.inl rfl)) (pss_cons (ps_set (i := 5) sc_law_mixed.nd rfl (Or.inl rfl) (pe_op op_mod (pe_callTy LL.call_intI (by rfl) T.z_int (by decide +kernel) (pa_cons (pe_op op_mul (pe_op op_add (pe_op op_add (pv 0) (pe_int)) (pe_op op_mul (pe_op op_add (pe_op op_mul (pe_int) (pv 1)) (pv 4)) (pe_int))) (pe_int)) pa_nil)) (pe_int))) (pss_cons (ps_set (i := 6) sc_law_mixed.nd rfl (Or.inl rfl) (pe_op op_mod (pe_callTy LL.call_intI (by rfl) T.z_int (by decide +kernel) (pa_cons (pe_op op_add (pe_op op_add (pe_op op_mul (pv 5) (pv 5)) (pe_op op_mul (pe_op op_fdiv (pv 5) (pe_int)) (pe_int))) (pv 1)) pa_nil)) (pe_int))) (pss_one (ps_set (i := 3) sc_law_mixed.nd rfl (Or.inl rfl) (pe_op op_add (pe_op op_mul (pv 3) (pe_int)) (pe_op op_fdiv (pv 6) (pe_int)))))))) (pss_one (ps_ret (pe_op op_mod (pe_callTy LL.call_intI (by rfl) T.z_int (by decide +kernel) (pa_cons (pv 3) pa_nil)) (pv 2)))))), ?_⟩)
  · obtain ⟨_, _, _, rfl, _⟩ := h
    rfl
  · obtain ⟨a, b, m, rfl, hm, q⟩ := h
    simp only [tSeq, tAsg, tRet, tRetN, tDrop, tNext, tVar, tC, gName, tOp, tUn, rI, rI0, rU, tIfS, tTest, tB, tIf, tAnd, tOr, tNot, tAndV, tOrV, tNotV, tCall, tCons, tNil, tCB, tLst, tTup, tChain, CMul, CDiv, CPow, rEq, rNe, gSub, L2.start, LL.cxK0, LL.cxK1, List.map_cons, List.map_nil, List.length_cons, List.length_nil, List.replicate_succ, List.replicate_zero, List.cons_append, List.nil_append, List.append_nil, List.getElem?_cons_zero, List.getElem?_cons_succ, List.set_cons_zero, List.set_cons_succ, Nat.add_sub_cancel, Nat.reduceAdd, Nat.reduceSub, Option.some.injEq, V.int.injEq, V.bl.injEq, V.ref.injEq, V.str.injEq, List.cons.injEq, and_true, true_and, and_false, false_and, exists_eq_left, exists_eq_left', exists_and_left, exists_and_right, exists_eq, exists_eq', LL.if_dec, reduceCtorEq, exists_false, exists_const, or_false, false_or, if_true, if_false, LL.rInt1, LL.rMx, LL.rMn, and_assoc, Int.reduceNeg, Int.reduceLT, Int.reduceLE, Int.reduceMul, Int.reduceAdd, Int.reduceSub, Int.reducePow, Int.reduceToNat, Nat.reducePow, Nat.reduceLT, true_or, or_true, Bool.not_true, Bool.not_false, Bool.false_eq_true, Bool.or_false, Bool.or_true, Bool.true_or, Bool.false_or, decide_true, decide_false, not_true_eq_false, not_false_eq_true, LL.scal_int, LL.scal_bl, LL.scal_str, LL.isInt, LL.isBl, LL.isStr, LL.isLst, LL.isTup, LL.isDic, N_law_mixed]
    refine use_forR (j := 2) (fun Q q => q) (by decide) (by decide) (fun i σ' H' => H' = H ∧ ∃ (v : Int) (x1 x2 x3 : Option V), σ' = [some (.int a), some (.int b), some (.int m), some (.int v), x1, x2, x3]) ⟨rfl, _, _, _, _, rfl⟩ ?_ ?_
    · rintro i σ' H' hi ⟨rfl, v, x1, x2, x3, rfl⟩
      simp only [tSeq, tAsg, tRet, tRetN, tDrop, tNext, tVar, tC, gName, tOp, tUn, rI, rI0, rU, tIfS, tTest, tB, tIf, tAnd, tOr, tNot, tAndV, tOrV, tNotV, tCall, tCons, tNil, tCB, tLst, tTup, tChain, CMul, CDiv, CPow, rEq, rNe, gSub, L2.start, LL.cxK0, LL.cxK1, List.map_cons, List.map_nil, List.length_cons, List.length_nil, List.replicate_succ, List.replicate_zero, List.cons_append, List.nil_append, List.append_nil, List.getElem?_cons_zero, List.getElem?_cons_succ, List.set_cons_zero, List.set_cons_succ, Nat.add_sub_cancel, Nat.reduceAdd, Nat.reduceSub, Option.some.injEq, V.int.injEq, V.bl.injEq, V.ref.injEq, V.str.injEq, List.cons.injEq, and_true, true_and, and_false, false_and, exists_eq_left, exists_eq_left', exists_and_left, exists_and_right, exists_eq, exists_eq', LL.if_dec, reduceCtorEq, exists_false, exists_const, or_false, false_or, if_true, if_false, LL.rInt1, LL.rMx, LL.rMn, and_assoc, Int.reduceNeg, Int.reduceLT, Int.reduceLE, Int.reduceMul, Int.reduceAdd, Int.reduceSub, Int.reducePow, Int.reduceToNat, Nat.reducePow, Nat.reduceLT, true_or, or_true, Bool.not_true, Bool.not_false, Bool.false_eq_true, Bool.or_false, Bool.or_true, Bool.true_or, Bool.false_or, decide_true, decide_false, not_true_eq_false, not_false_eq_true, LL.scal_int, LL.scal_bl, LL.scal_str, LL.isInt, LL.isBl, LL.isStr, LL.isLst, LL.isTup, LL.isDic]
      have h1 := Int.emod_nonneg ((a + 7 + (2 * b + (0 + (i : Int))) * 1000003) * 48271) (show (2147483647 : Int) ≠ 0 by decide)
      have h2 := Int.emod_lt_of_pos ((a + 7 + (2 * b + (0 + (i : Int))) * 1000003) * 48271) (show (0 : Int) < 2147483647 by decide)
      exact Or.inl ⟨by omega, by omega⟩
    · rintro σ' H' ⟨rfl, v, x1, x2, x3, rfl⟩
      simp only [tSeq, tAsg, tRet, tRetN, tDrop, tNext, tVar, tC, gName, tOp, tUn, rI, rI0, rU, tIfS, tTest, tB, tIf, tAnd, tOr, tNot, tAndV, tOrV, tNotV, tCall, tCons, tNil, tCB, tLst, tTup, tChain, CMul, CDiv, CPow, rEq, rNe, gSub, L2.start, LL.cxK0, LL.cxK1, List.map_cons, List.map_nil, List.length_cons, List.length_nil, List.replicate_succ, List.replicate_zero, List.cons_append, List.nil_append, List.append_nil, List.getElem?_cons_zero, List.getElem?_cons_succ, List.set_cons_zero, List.set_cons_succ, Nat.add_sub_cancel, Nat.reduceAdd, Nat.reduceSub, Option.some.injEq, V.int.injEq, V.bl.injEq, V.ref.injEq, V.str.injEq, List.cons.injEq, and_true, true_and, and_false, false_and, exists_eq_left, exists_eq_left', exists_and_left, exists_and_right, exists_eq, exists_eq', LL.if_dec, reduceCtorEq, exists_false, exists_const, or_false, false_or, if_true, if_false, LL.rInt1, LL.rMx, LL.rMn, and_assoc, Int.reduceNeg, Int.reduceLT, Int.reduceLE, Int.reduceMul, Int.reduceAdd, Int.reduceSub, Int.reducePow, Int.reduceToNat, Nat.reducePow, Nat.reduceLT, true_or, or_true, Bool.not_true, Bool.not_false, Bool.false_eq_true, Bool.or_false, Bool.or_true, Bool.true_or, Bool.false_or, decide_true, decide_false, not_true_eq_false, not_false_eq_true, LL.scal_int, LL.scal_bl, LL.scal_str, LL.isInt, LL.isBl, LL.isStr, LL.isLst, LL.isTup, LL.isDic]
      exact ⟨hm, q _ (Int.emod_nonneg _ (by omega)) (Int.emod_lt_of_pos _ hm)⟩
theorem ok_law_next_cell (T : Tx K mg) : FnOk P w K mg base CX0 1 (He.ga K "_law_next_cell") T.fd_law_next_cell P_law_next_cell sp_law_next_cell := by
  refine T.F_law_next_cell.ok sc_law_next_cell (fun vs H Q E h => ?_) (fun cdv A outer s H vs Q E hr h => ⟨_, PSs.nox (pss_cons (ps_set (i := 1) sc_law_next_cell.nd rfl (Or.inl rfl) (pe_ix (show IxR _ (rIxL K) from ix_list) (pv 0) (pe_int) (fun _ _ => rfl))) (pss_cons (ps_set (i := 2) sc_law_next_cell.nd rfl (Or.inl rfl) (pe_ix (show IxR _ (rIxL K) from ix_list) (pv 0) (pe_int) (fun _ _ => rfl))) (pss_one (ps_if (pt_cmpR op_lt (pe_ix (show IxR _ (rIxL K) from ix_list) (pv 2) (pe_int) (fun _ _ => rfl)) (pe_callB LL.call_lenL (by rfl) T.z_len (by decide +kernel) (pa_cons (pv 1) pa_nil)) (nomark _)) (pss_cons (ps_set (i := 3) sc_law_next_cell.nd rfl (Or.inl rfl) (pe_callTy LL.call_intI (by rfl) T.z_int (by decide +kernel) (pa_cons (pe_ix (show IxR _ (rIxL K) from ix_list) (pv 1) (pe_ix (show IxR _ (rIxL K) from ix_list) (pv 2) (pe_int) (fun _ _ => rfl)) (fun _ _ => rfl)) pa_nil))) (pss_cons (ps_asg (pe_op op_add (pe_ix (show IxR _ (rIxL K) from ix_list) (pv 2) (pe_int) (fun _ _ => rfl)) (pe_int)) (pg_sub (pv 2) (pe_int) set_list)) (pss_cons (ps_asg (pe_op op_mod (pe_callTy LL.call_intI (by rfl) T.z_int (by decide +kernel) (pa_cons (pe_op op_add (pe_op op_add (pe_op op_mul (pe_ix (show IxR _ (rIxL K) from ix_list) (pv 2) (pe_int) (fun _ _ => rfl)) (pe_int)) (pe_op op_mod (pv 3) (pe_int))) (pe_int)) pa_nil)) (pe_int)) (pg_sub (pv 2) (pe_int) set_list)) (pss_one (ps_if (pt_cmpR op_ge (pv 3) (pe_op op_pow (pe_int) (pe_int)) (nomark _)) (pss_one (ps_asg (pv 3) (pg_sub (pv 2) (pe_int) set_list))) (pss_one (ps_asg (pe_int) (pg_sub (pv 2) (pe_int) set_list)))))))) pss_nil)))), ?_⟩)
  · obtain ⟨_, _, rfl, _⟩ := h
    rfl
  · obtain ⟨d, s, rfl, D, q⟩ := h
    obtain ⟨⟨c, hd, hcs, ns, hc⟩, ⟨i, v, k, t, gg, hi, hs⟩, hds⟩ := _root_.id D
    simp only [tSeq, tAsg, tRet, tRetN, tDrop, tNext, tVar, tC, gName, tOp, tUn, rI, rI0, rU, tIfS, tTest, tB, tIf, tAnd, tOr, tNot, tAndV, tOrV, tNotV, tCall, tCons, tNil, tCB, tLst, tTup, tChain, CMul, CDiv, CPow, rEq, rNe, gSub, L2.start, LL.cxK0, LL.cxK1, List.map_cons, List.map_nil, List.length_cons, List.length_nil, List.replicate_succ, List.replicate_zero, List.cons_append, List.nil_append, List.append_nil, List.getElem?_cons_zero, List.getElem?_cons_succ, List.set_cons_zero, List.set_cons_succ, Nat.add_sub_cancel, Nat.reduceAdd, Nat.reduceSub, Option.some.injEq, V.int.injEq, V.bl.injEq, V.ref.injEq, V.str.injEq, List.cons.injEq, and_true, true_and, and_false, false_and, exists_eq_left, exists_eq_left', exists_and_left, exists_and_right, exists_eq, exists_eq', LL.if_dec, reduceCtorEq, exists_false, exists_const, or_false, false_or, if_true, if_false, LL.rInt1, LL.rMx, LL.rMn, and_assoc, Int.reduceNeg, Int.reduceLT, Int.reduceLE, Int.reduceMul, Int.reduceAdd, Int.reduceSub, Int.reducePow, Int.reduceToNat, Nat.reducePow, Nat.reduceLT, true_or, or_true, Bool.not_true, Bool.not_false, Bool.false_eq_true, Bool.or_false, Bool.or_true, Bool.true_or, Bool.false_or, decide_true, decide_false, not_true_eq_false, not_false_eq_true, LL.scal_int, LL.scal_bl, LL.scal_str, LL.isInt, LL.isBl, LL.isStr, LL.isLst, LL.isTup, LL.isDic, N_law_next_cell]
    refine use_ixL hd rfl (use_ixL hd rfl (use_ixL hs rfl ?_))
    refine use_lenL hc ?_
    simp only [tSeq, tAsg, tRet, tRetN, tDrop, tNext, tVar, tC, gName, tOp, tUn, rI, rI0, rU, tIfS, tTest, tB, tIf, tAnd, tOr, tNot, tAndV, tOrV, tNotV, tCall, tCons, tNil, tCB, tLst, tTup, tChain, CMul, CDiv, CPow, rEq, rNe, gSub, L2.start, LL.cxK0, LL.cxK1, List.map_cons, List.map_nil, List.length_cons, List.length_nil, List.replicate_succ, List.replicate_zero, List.cons_append, List.nil_append, List.append_nil, List.getElem?_cons_zero, List.getElem?_cons_succ, List.set_cons_zero, List.set_cons_succ, Nat.add_sub_cancel, Nat.reduceAdd, Nat.reduceSub, Option.some.injEq, V.int.injEq, V.bl.injEq, V.ref.injEq, V.str.injEq, List.cons.injEq, and_true, true_and, and_false, false_and, exists_eq_left, exists_eq_left', exists_and_left, exists_and_right, exists_eq, exists_eq', LL.if_dec, reduceCtorEq, exists_false, exists_const, or_false, false_or, if_true, if_false, LL.rInt1, LL.rMx, LL.rMn, and_assoc, Int.reduceNeg, Int.reduceLT, Int.reduceLE, Int.reduceMul, Int.reduceAdd, Int.reduceSub, Int.reducePow, Int.reduceToNat, Nat.reducePow, Nat.reduceLT, true_or, or_true, Bool.not_true, Bool.not_false, Bool.false_eq_true, Bool.or_false, Bool.or_true, Bool.true_or, Bool.false_or, decide_true, decide_false, not_true_eq_false, not_false_eq_true, LL.scal_int, LL.scal_bl, LL.scal_str, LL.isInt, LL.isBl, LL.isStr, LL.isLst, LL.isTup, LL.isDic]
    split
    · rename_i hlt
      obtain ⟨n, hn⟩ := atI_int hi (by simpa using hlt)
      refine use_ixL hs rfl (use_ixL hc hn ?_)
      simp only [tSeq, tAsg, tRet, tRetN, tDrop, tNext, tVar, tC, gName, tOp, tUn, rI, rI0, rU, tIfS, tTest, tB, tIf, tAnd, tOr, tNot, tAndV, tOrV, tNotV, tCall, tCons, tNil, tCB, tLst, tTup, tChain, CMul, CDiv, CPow, rEq, rNe, gSub, L2.start, LL.cxK0, LL.cxK1, List.map_cons, List.map_nil, List.length_cons, List.length_nil, List.replicate_succ, List.replicate_zero, List.cons_append, List.nil_append, List.append_nil, List.getElem?_cons_zero, List.getElem?_cons_succ, List.set_cons_zero, List.set_cons_succ, Nat.add_sub_cancel, Nat.reduceAdd, Nat.reduceSub, Option.some.injEq, V.int.injEq, V.bl.injEq, V.ref.injEq, V.str.injEq, List.cons.injEq, and_true, true_and, and_false, false_and, exists_eq_left, exists_eq_left', exists_and_left, exists_and_right, exists_eq, exists_eq', LL.if_dec, reduceCtorEq, exists_false, exists_const, or_false, false_or, if_true, if_false, LL.rInt1, LL.rMx, LL.rMn, and_assoc, Int.reduceNeg, Int.reduceLT, Int.reduceLE, Int.reduceMul, Int.reduceAdd, Int.reduceSub, Int.reducePow, Int.reduceToNat, Nat.reducePow, Nat.reduceLT, true_or, or_true, Bool.not_true, Bool.not_false, Bool.false_eq_true, Bool.or_false, Bool.or_true, Bool.true_or, Bool.false_or, decide_true, decide_false, not_true_eq_false, not_false_eq_true, LL.scal_int, LL.scal_bl, LL.scal_str, LL.isInt, LL.isBl, LL.isStr, LL.isLst, LL.isTup, LL.isDic]
      refine use_ixL hs rfl ?_
      simp only [tSeq, tAsg, tRet, tRetN, tDrop, tNext, tVar, tC, gName, tOp, tUn, rI, rI0, rU, tIfS, tTest, tB, tIf, tAnd, tOr, tNot, tAndV, tOrV, tNotV, tCall, tCons, tNil, tCB, tLst, tTup, tChain, CMul, CDiv, CPow, rEq, rNe, gSub, L2.start, LL.cxK0, LL.cxK1, List.map_cons, List.map_nil, List.length_cons, List.length_nil, List.replicate_succ, List.replicate_zero, List.cons_append, List.nil_append, List.append_nil, List.getElem?_cons_zero, List.getElem?_cons_succ, List.set_cons_zero, List.set_cons_succ, Nat.add_sub_cancel, Nat.reduceAdd, Nat.reduceSub, Option.some.injEq, V.int.injEq, V.bl.injEq, V.ref.injEq, V.str.injEq, List.cons.injEq, and_true, true_and, and_false, false_and, exists_eq_left, exists_eq_left', exists_and_left, exists_and_right, exists_eq, exists_eq', LL.if_dec, reduceCtorEq, exists_false, exists_const, or_false, false_or, if_true, if_false, LL.rInt1, LL.rMx, LL.rMn, and_assoc, Int.reduceNeg, Int.reduceLT, Int.reduceLE, Int.reduceMul, Int.reduceAdd, Int.reduceSub, Int.reducePow, Int.reduceToNat, Nat.reducePow, Nat.reduceLT, true_or, or_true, Bool.not_true, Bool.not_false, Bool.false_eq_true, Bool.or_false, Bool.or_true, Bool.true_or, Bool.false_or, decide_true, decide_false, not_true_eq_false, not_false_eq_true, LL.scal_int, LL.scal_bl, LL.scal_str, LL.isInt, LL.isBl, LL.isStr, LL.isLst, LL.isTup, LL.isDic]
      refine use_setL hs rfl ?_
      refine use_ixL upd_same rfl ?_
      simp only [tSeq, tAsg, tRet, tRetN, tDrop, tNext, tVar, tC, gName, tOp, tUn, rI, rI0, rU, tIfS, tTest, tB, tIf, tAnd, tOr, tNot, tAndV, tOrV, tNotV, tCall, tCons, tNil, tCB, tLst, tTup, tChain, CMul, CDiv, CPow, rEq, rNe, gSub, L2.start, LL.cxK0, LL.cxK1, List.map_cons, List.map_nil, List.length_cons, List.length_nil, List.replicate_succ, List.replicate_zero, List.cons_append, List.nil_append, List.append_nil, List.getElem?_cons_zero, List.getElem?_cons_succ, List.set_cons_zero, List.set_cons_succ, Nat.add_sub_cancel, Nat.reduceAdd, Nat.reduceSub, Option.some.injEq, V.int.injEq, V.bl.injEq, V.ref.injEq, V.str.injEq, List.cons.injEq, and_true, true_and, and_false, false_and, exists_eq_left, exists_eq_left', exists_and_left, exists_and_right, exists_eq, exists_eq', LL.if_dec, reduceCtorEq, exists_false, exists_const, or_false, false_or, if_true, if_false, LL.rInt1, LL.rMx, LL.rMn, and_assoc, Int.reduceNeg, Int.reduceLT, Int.reduceLE, Int.reduceMul, Int.reduceAdd, Int.reduceSub, Int.reducePow, Int.reduceToNat, Nat.reducePow, Nat.reduceLT, true_or, or_true, Bool.not_true, Bool.not_false, Bool.false_eq_true, Bool.or_false, Bool.or_true, Bool.true_or, Bool.false_or, decide_true, decide_false, not_true_eq_false, not_false_eq_true, LL.scal_int, LL.scal_bl, LL.scal_str, LL.isInt, LL.isBl, LL.isStr, LL.isLst, LL.isTup, LL.isDic]
      refine use_setL upd_same rfl ?_
      rw [upd_upd]
      refine ⟨by decide, ?_⟩
      split
      · exact use_setL upd_same rfl (by rw [upd_upd]; exact q _ (Aft.st D (by omega)))
      · exact use_setL upd_same rfl (by rw [upd_upd]; exact q _ (Aft.st D (by omega)))
    · exact q _ (Aft.refl D)
theorem ok_law_take (T : Tx K mg) : FnOk P w K mg base CX0 2 (He.ga K "_law_take") T.fd_law_take P_law_take sp_law_take := by
  refine T.F_law_take.ok sc_law_take (fun vs H Q E h => ?_) (fun cdv A outer s H vs Q E hr h => ⟨_, PSs.nox (pss_cons (ps_if (pt_cmpR op_lt (pv 1) (pe_int) (nomark _)) (pss_one (ps_ret (pe_int))) pss_nil) (pss_cons (ps_set (i := 2) sc_law_take.nd rfl (Or.inl rfl) (pe_ix (show IxR _ (rIxL K) from ix_list) (pv 0) (pe_int) (fun _ _ => rfl))) (pss_cons (ps_asg (pe_op op_add (pe_ix (show IxR _ (rIxL K) from ix_list) (pv 2) (pe_int) (fun _ _ => rfl)) (pe_int)) (pg_sub (pv 2) (pe_int) set_list)) (pss_cons (ps_if (PW.pt (pw_and (pt_cmpR op_lt (pe_ix (show IxR _ (rIxL K) from ix_list) (pv 2) (pe_int) (fun _ _ => rfl)) (pe_int) (nomark _)) (pw_and1 (pt_cmpR op_lt (pe_ix (show IxR _ (rIxL K) from ix_list) (pv 2) (pe_int) (fun _ _ => rfl)) (pe_int) (nomark _))))) (pss_one (ps_expr (pe_call (ok_law_next_cell T) hr rfl T.g_law_next_cell T.F_law_next_cell.kp (b_law_next_cell T) .nil pass0 (pa_cons (pv 0) pa_nil)))) pss_nil) (pss_cons (ps_if (pt_cmpR op_gt (pe_ix (show IxR _ (rIxL K) from ix_list) (pv 2) (pe_int) (fun _ _ => rfl)) (pe_int) (nomark _)) (pss_cons (ps_set (i := 3) sc_law_take.nd rfl (Or.inl rfl) (pe_op op_mod (pe_callTy LL.call_intI (by rfl) T.z_int (by decide +kernel) (pa_cons (pe_ix (show IxR _ (rIxL K) from ix_list) (pv 2) (pe_int) (fun _ _ => rfl)) pa_nil)) (pv 1))) (pss_cons (ps_asg (pe_op op_fdivW (pe_ix (show IxR _ (rIxL K) from ix_list) (pv 2) (pe_int) (fun _ _ => rfl)) (pv 1)) (pg_sub (pv 2) (pe_int) set_list)) (pss_one (ps_ret (pv 3))))) pss_nil) (pss_cons (ps_if (pt_cmpR op_gt (pe_ix (show IxR _ (rIxL K) from ix_list) (pv 2) (pe_int) (fun _ _ => rfl)) (pe_int) (nomark _)) (pss_one (ps_asg (pe_op op_sub (pe_ix (show IxR _ (rIxL K) from ix_list) (pv 2) (pe_int) (fun _ _ => rfl)) (pe_int)) (pg_sub (pv 2) (pe_int) set_list))) pss_nil) (pss_one (ps_ret (pe_call (ok_law_mixed T) hr rfl T.g_law_mixed T.F_law_mixed.kp (b_law_mixed T) .nil pass0 (pa_cons (pe_ix (show IxR _ (rIxL K) from ix_list) (pv 2) (pe_int) (fun _ _ => rfl)) (pa_cons (pe_ix (show IxR _ (rIxL K) from ix_list) (pv 2) (pe_int) (fun _ _ => rfl)) (pa_cons (pv 1) pa_nil)))))))))))), ?_⟩)
  · obtain ⟨_, _, _, rfl, _⟩ := h
    rfl
  · obtain ⟨d, s, m, rfl, D, hmb, q⟩ := h
    obtain ⟨⟨c, hd, hcs, ns, hc⟩, ⟨i, v, k, t, gg, hi, hs⟩, hds⟩ := _root_.id D
    simp only [tSeq, tAsg, tRet, tRetN, tDrop, tNext, tVar, tC, gName, tOp, tUn, rI, rI0, rU, tIfS, tTest, tB, tIf, tAnd, tOr, tNot, tAndV, tOrV, tNotV, tCall, tCons, tNil, tCB, tLst, tTup, tChain, CMul, CDiv, CPow, rEq, rNe, gSub, L2.start, LL.cxK0, LL.cxK1, List.map_cons, List.map_nil, List.length_cons, List.length_nil, List.replicate_succ, List.replicate_zero, List.cons_append, List.nil_append, List.append_nil, List.getElem?_cons_zero, List.getElem?_cons_succ, List.set_cons_zero, List.set_cons_succ, Nat.add_sub_cancel, Nat.reduceAdd, Nat.reduceSub, Option.some.injEq, V.int.injEq, V.bl.injEq, V.ref.injEq, V.str.injEq, List.cons.injEq, and_true, true_and, and_false, false_and, exists_eq_left, exists_eq_left', exists_and_left, exists_and_right, exists_eq, exists_eq', LL.if_dec, reduceCtorEq, exists_false, exists_const, or_false, false_or, if_true, if_false, LL.rInt1, LL.rMx, LL.rMn, and_assoc, Int.reduceNeg, Int.reduceLT, Int.reduceLE, Int.reduceMul, Int.reduceAdd, Int.reduceSub, Int.reducePow, Int.reduceToNat, Nat.reducePow, Nat.reduceLT, true_or, or_true, Bool.not_true, Bool.not_false, Bool.false_eq_true, Bool.or_false, Bool.or_true, Bool.true_or, Bool.false_or, decide_true, decide_false, not_true_eq_false, not_false_eq_true, LL.scal_int, LL.scal_bl, LL.scal_str, LL.isInt, LL.isBl, LL.isStr, LL.isLst, LL.isTup, LL.isDic, N_law_take]
    split
    · exact q _ _ (Aft.refl D) (by decide) (.inr rfl)
    · rename_i hm
      have hm0 : 0 < m := by omega
      refine use_ixL hd rfl (use_ixL hs rfl ?_)
      simp only [tSeq, tAsg, tRet, tRetN, tDrop, tNext, tVar, tC, gName, tOp, tUn, rI, rI0, rU, tIfS, tTest, tB, tIf, tAnd, tOr, tNot, tAndV, tOrV, tNotV, tCall, tCons, tNil, tCB, tLst, tTup, tChain, CMul, CDiv, CPow, rEq, rNe, gSub, L2.start, LL.cxK0, LL.cxK1, List.map_cons, List.map_nil, List.length_cons, List.length_nil, List.replicate_succ, List.replicate_zero, List.cons_append, List.nil_append, List.append_nil, List.getElem?_cons_zero, List.getElem?_cons_succ, List.set_cons_zero, List.set_cons_succ, Nat.add_sub_cancel, Nat.reduceAdd, Nat.reduceSub, Option.some.injEq, V.int.injEq, V.bl.injEq, V.ref.injEq, V.str.injEq, List.cons.injEq, and_true, true_and, and_false, false_and, exists_eq_left, exists_eq_left', exists_and_left, exists_and_right, exists_eq, exists_eq', LL.if_dec, reduceCtorEq, exists_false, exists_const, or_false, false_or, if_true, if_false, LL.rInt1, LL.rMx, LL.rMn, and_assoc, Int.reduceNeg, Int.reduceLT, Int.reduceLE, Int.reduceMul, Int.reduceAdd, Int.reduceSub, Int.reducePow, Int.reduceToNat, Nat.reducePow, Nat.reduceLT, true_or, or_true, Bool.not_true, Bool.not_false, Bool.false_eq_true, Bool.or_false, Bool.or_true, Bool.true_or, Bool.false_or, decide_true, decide_false, not_true_eq_false, not_false_eq_true, LL.scal_int, LL.scal_bl, LL.scal_str, LL.isInt, LL.isBl, LL.isStr, LL.isLst, LL.isTup, LL.isDic]
      refine use_setL hs rfl (use_ixL upd_same rfl ?_)
      simp only [tSeq, tAsg, tRet, tRetN, tDrop, tNext, tVar, tC, gName, tOp, tUn, rI, rI0, rU, tIfS, tTest, tB, tIf, tAnd, tOr, tNot, tAndV, tOrV, tNotV, tCall, tCons, tNil, tCB, tLst, tTup, tChain, CMul, CDiv, CPow, rEq, rNe, gSub, L2.start, LL.cxK0, LL.cxK1, List.map_cons, List.map_nil, List.length_cons, List.length_nil, List.replicate_succ, List.replicate_zero, List.cons_append, List.nil_append, List.append_nil, List.getElem?_cons_zero, List.getElem?_cons_succ, List.set_cons_zero, List.set_cons_succ, Nat.add_sub_cancel, Nat.reduceAdd, Nat.reduceSub, Option.some.injEq, V.int.injEq, V.bl.injEq, V.ref.injEq, V.str.injEq, List.cons.injEq, and_true, true_and, and_false, false_and, exists_eq_left, exists_eq_left', exists_and_left, exists_and_right, exists_eq, exists_eq', LL.if_dec, reduceCtorEq, exists_false, exists_const, or_false, false_or, if_true, if_false, LL.rInt1, LL.rMx, LL.rMn, and_assoc, Int.reduceNeg, Int.reduceLT, Int.reduceLE, Int.reduceMul, Int.reduceAdd, Int.reduceSub, Int.reducePow, Int.reduceToNat, Nat.reducePow, Nat.reduceLT, true_or, or_true, Bool.not_true, Bool.not_false, Bool.false_eq_true, Bool.or_false, Bool.or_true, Bool.true_or, Bool.false_or, decide_true, decide_false, not_true_eq_false, not_false_eq_true, LL.scal_int, LL.scal_bl, LL.scal_str, LL.isInt, LL.isBl, LL.isStr, LL.isLst, LL.isTup, LL.isDic]
      have a1 : Aft d s H (upd H s (.lst [.int i, .int v, .int k, .int (t + 1), .int gg])) := Aft.st D hi
      show (if v < 2 then rIxL K (V.ref s) (V.int 2) (upd H s (.lst [.int i, .int v, .int k, .int (t + 1), .int gg])) _ else rIxL K (V.ref s) (V.int 1) (upd H s (.lst [.int i, .int v, .int k, .int (t + 1), .int gg])) _)
      generalize upd H s (.lst [.int i, .int v, .int k, .int (t + 1), .int gg]) = H1 at a1 ⊢
      clear hs
      have tail : ∀ H1, Aft d s H H1 → rIxL K (V.ref s) (V.int 1) H1 (fun x H1 => ∃ i, x = V.int i ∧ if 1 < i then rIxL K (V.ref s) (V.int 1) H1 (fun x H1 => ∃ i, x = V.int i ∧ 0 < m ∧ rIxL K (V.ref s) (V.int 1) H1 (fun x H1 => ∃ i_1, x = V.int i_1 ∧ CDivW i_1 m ∧ rSetL (V.ref s) (V.int 1) (V.int (i_1 / m)) H1 fun H3 => Q (V.int (i % m)) H3))
          else rIxL K (V.ref s) (V.int 2) H1 (fun x H1 => ∃ i, x = V.int i ∧ if 0 < i then rIxL K (V.ref s) (V.int 2) H1 (fun x H1 => ∃ i, x = V.int i ∧ rSetL (V.ref s) (V.int 2) (V.int (i - 1)) H1 fun H3 => rIxL K (V.ref s) (V.int 4) H3 fun x H1 => rIxL K (V.ref s) (V.int 3) H1 fun x_1 H1 => sp_law_mixed [x, x_1, V.int m] H1 Q E0)
            else rIxL K (V.ref s) (V.int 4) H1 fun x H1 => rIxL K (V.ref s) (V.int 3) H1 fun x_1 H1 => sp_law_mixed [x, x_1, V.int m] H1 Q E0)) := by
        intro H2 a2
        obtain ⟨⟨c2, hd2, hcs2, ns2, hc2⟩, ⟨i2, v2, k2, t2, gg2, hi2, hs2⟩, _⟩ := _root_.id a2.dr
        refine use_ixL hs2 rfl ⟨_, rfl, ?_⟩
        split
        · refine use_ixL hs2 rfl ⟨_, rfl, hm0, use_ixL hs2 rfl ⟨_, rfl, wide_div hm0 hmb (by decide) (by decide), ?_⟩⟩
          exact use_setL hs2 rfl (q _ _ (a2.st2 hi2) (Int.emod_nonneg _ (by omega)) (.inl (Int.emod_lt_of_pos _ hm0)))
        · refine use_ixL hs2 rfl ⟨_, rfl, ?_⟩
          split
          · refine use_ixL hs2 rfl ⟨_, rfl, use_setL hs2 rfl (use_ixL upd_same rfl (use_ixL upd_same rfl ?_))⟩
            exact ⟨_, _, _, rfl, hm0, fun v h0 h1 => q _ _ (a2.st2 hi2) h0 (.inl h1)⟩
          · refine use_ixL hs2 rfl (use_ixL hs2 rfl ?_)
            exact ⟨_, _, _, rfl, hm0, fun v h0 h1 => q _ _ a2 h0 (.inl h1)⟩
      split
      · obtain ⟨_, ⟨i3, v3, k3, t3, gg3, hi3, hs3⟩, _⟩ := _root_.id a1.dr
        refine use_ixL hs3 rfl ⟨_, rfl, ?_⟩
        split
        · exact ⟨d, s, rfl, a1.dr, fun H' a2 => tail _ (a1.trans a2)⟩
        · exact tail _ a1
      · exact tail _ a1
noncomputable def sp_law_draws (K : PySem.W.Frag) : Sp := fun vs H Q _ => ∃ (a : Addr) (ns : List Int), vs = [.ref a] ∧ SqL K H a (ns.map V.int) ∧ ns.length ≤ 100000 ∧ ∀ d s H', Same H H' → Drw d s H' → H d = none → H s = none → Q (.ref d) H'

theorem ok_law_draws (T : Tx K mg) : FnOk P w K mg base CX0 1 (He.ga K "_law_draws") T.fd_law_draws P_law_draws (sp_law_draws K) := by
  refine T.F_law_draws.ok sc_law_draws (fun vs H Q E h => ?_) (fun cdv A outer s H vs Q E hr h => ⟨_, PSs.nox (pss_one (ps_ret (pe_lst (pa_cons (pe_lc (own := [("_law_cell", 1)]) (by rfl) sc_law_draws.nd (pi_list (pv 0)) (blkOk_by (N := N_law_draws) (sc := defScope s_law_draws) (by decide +kernel)) (fun _ _ _ _ _ => (pg_name (i := 1) sc_law_draws.nd rfl (Or.inl rfl))) (fun _ _ _ _ _ => pts_nil) (fun _ _ _ _ _ => (pe_callTy LL.call_intI (by rfl) T.z_int (by decide +kernel) (pa_cons (pv 1) pa_nil)))) (pa_cons (pe_lst (pa_cons (pe_int) (pa_cons (pe_int) (pa_cons (pe_int) (pa_cons (pe_int) (pa_cons (pe_int) pa_nil)))))) pa_nil))))), ?_⟩)
  · obtain ⟨_, _, rfl, _⟩ := h
    rfl
  · obtain ⟨a, ns, rfl, hs, hn, q⟩ := h
    simp only [tSeq, tAsg, tRet, tRetN, tDrop, tNext, tVar, tC, gName, tOp, tUn, rI, rI0, rU, tIfS, tTest, tB, tIf, tAnd, tOr, tNot, tAndV, tOrV, tNotV, tCall, tCons, tNil, tCB, tLst, tTup, tChain, CMul, CDiv, CPow, rEq, rNe, gSub, L2.start, LL.cxK0, LL.cxK1, List.map_cons, List.map_nil, List.length_cons, List.length_nil, List.replicate_succ, List.replicate_zero, List.cons_append, List.nil_append, List.append_nil, List.getElem?_cons_zero, List.getElem?_cons_succ, List.set_cons_zero, List.set_cons_succ, Nat.add_sub_cancel, Nat.reduceAdd, Nat.reduceSub, Option.some.injEq, V.int.injEq, V.bl.injEq, V.ref.injEq, V.str.injEq, List.cons.injEq, and_true, true_and, and_false, false_and, exists_eq_left, exists_eq_left', exists_and_left, exists_and_right, exists_eq, exists_eq', LL.if_dec, reduceCtorEq, exists_false, exists_const, or_false, false_or, if_true, if_false, LL.rInt1, LL.rMx, LL.rMn, and_assoc, Int.reduceNeg, Int.reduceLT, Int.reduceLE, Int.reduceMul, Int.reduceAdd, Int.reduceSub, Int.reducePow, Int.reduceToNat, Nat.reducePow, Nat.reduceLT, true_or, or_true, Bool.not_true, Bool.not_false, Bool.false_eq_true, Bool.or_false, Bool.or_true, Bool.true_or, Bool.false_or, decide_true, decide_false, not_true_eq_false, not_false_eq_true, LL.scal_int, LL.scal_bl, LL.scal_str, LL.isInt, LL.isBl, LL.isStr, LL.isLst, LL.isTup, LL.isDic, N_law_draws]
    refine ⟨_, rfl, a, rfl, ⟨_, hs⟩, fun D hD => ?_⟩
    refine lc_list (K := K) (a := a) (xs := ns.map V.int) (fun i H' => Same H H' ∧ H' D = some (.lst ((ns.take i).map V.int))) ⟨Same.new (Same.refl _) hD, upd_same⟩ (fun i H' _ ⟨s1, _⟩ => s1.seq hs) ?_ ?_
    · rintro i x H' hi ⟨s1, eD⟩
      rw [List.getElem?_map] at hi
      obtain ⟨n, hn2, rfl⟩ := Option.map_eq_some_iff.mp hi
      simp only [tSeq, tAsg, tRet, tRetN, tDrop, tNext, tVar, tC, gName, tOp, tUn, rI, rI0, rU, tIfS, tTest, tB, tIf, tAnd, tOr, tNot, tAndV, tOrV, tNotV, tCall, tCons, tNil, tCB, tLst, tTup, tChain, CMul, CDiv, CPow, rEq, rNe, gSub, L2.start, LL.cxK0, LL.cxK1, List.map_cons, List.map_nil, List.length_cons, List.length_nil, List.replicate_succ, List.replicate_zero, List.cons_append, List.nil_append, List.append_nil, List.getElem?_cons_zero, List.getElem?_cons_succ, List.set_cons_zero, List.set_cons_succ, Nat.add_sub_cancel, Nat.reduceAdd, Nat.reduceSub, Option.some.injEq, V.int.injEq, V.bl.injEq, V.ref.injEq, V.str.injEq, List.cons.injEq, and_true, true_and, and_false, false_and, exists_eq_left, exists_eq_left', exists_and_left, exists_and_right, exists_eq, exists_eq', LL.if_dec, reduceCtorEq, exists_false, exists_const, or_false, false_or, if_true, if_false, LL.rInt1, LL.rMx, LL.rMn, and_assoc, Int.reduceNeg, Int.reduceLT, Int.reduceLE, Int.reduceMul, Int.reduceAdd, Int.reduceSub, Int.reducePow, Int.reduceToNat, Nat.reducePow, Nat.reduceLT, true_or, or_true, Bool.not_true, Bool.not_false, Bool.false_eq_true, Bool.or_false, Bool.or_true, Bool.true_or, Bool.false_or, decide_true, decide_false, not_true_eq_false, not_false_eq_true, LL.scal_int, LL.scal_bl, LL.scal_str, LL.isInt, LL.isBl, LL.isStr, LL.isLst, LL.isTup, LL.isDic, tYes, wipe, List.foldl_cons, List.foldl_nil]
      refine ⟨_, eD, small_sz (by rw [List.length_map, List.length_take]; omega), Same.own s1 hD, ?_⟩
      rw [upd_same, take_one hn2, List.map_append]
      rfl
    · rintro H' ⟨s1, eD⟩
      rw [List.length_map, List.take_length] at eD
      refine ⟨by decide, ?_⟩
      have nD : ∀ b, H' b = none → b ≠ D := fun b nb z => by rw [z, eD] at nb; cases nb
      intro p2 np2
      generalize hq : upd H' p2 _ = H2
      have sH2 : Same H' H2 := hq ▸ Same.new (Same.refl _) np2
      have ep2 := hq ▸ (upd_same (H := H') (a := p2))
      clear hq
      replace eD := sH2 _ _ eD
      refine ⟨by decide, ?_⟩
      intro p3 np3
      generalize hq : upd H2 p3 _ = H3
      have sH3 : Same H2 H3 := hq ▸ Same.new (Same.refl _) np3
      have ep3 := hq ▸ (upd_same (H := H2) (a := p3))
      clear hq
      replace eD := sH3 _ _ eD
      replace ep2 := sH3 _ _ ep2
      refine q p3 p2 H3 ((s1.trans sH2).trans sH3) ⟨⟨D, ep3, (nD _ np2).symm, ns, eD⟩, ⟨0, 0, 0, 0, 11, by decide, ep2⟩, fun z => by rw [z] at np3; rw [z] at ep3; rw [ep3] at ep2; cases ep2⟩ ((s1.trans sH2).free np3) (s1.free np2)
noncomputable def wp_take : Pw := fun ts Ω PQ _ => ∃ m : Int, ts = [.drw, .int m] ∧ m.natAbs < 2 ^ 4000 ∧ ∀ v : Int, 0 ≤ v → (v < m ∨ v = 0) → PQ (.int v) Ω
theorem okt_law_take (T : Tx K mg) : FnOk P w K mg base CX0 2 (He.ga K "_law_take") T.fd_law_take P_law_take (spD K wp_take 2) := (ok_law_take T).imp fun vs H Q E h => by
  obtain ⟨g, Ω, ts, PQ, PX, hl, d, o, ⟨m, rfl, hm, q⟩, aq, _⟩ := h
  obtain ⟨v, _, rfl, ⟨d0, s, eg, rfl⟩, u, _, rfl, rfl, rfl⟩ := d
  refine ⟨d0, s, m, rfl, (o.dr d0 s eg).drw, hm, fun v H' a h0 h1 => ?_⟩
  obtain ⟨k, o'⟩ := of_aft o eg a
  exact aq _ Ω _ H' (q v h0 h1) k o' rfl
theorem big_of {n : Int} (h0 : -1000000000000 ≤ n) (h : n ≤ 1000000000000) : n.natAbs < 2 ^ 4000 := Nat.lt_of_le_of_lt (show n.natAbs ≤ 1000000000000 by omega) (by decide +kernel)
noncomputable def wp_between : Pw := fun ts Ω PQ _ => ∃ lo hi : Int, ts = [.drw, .int lo, .int hi] ∧ (hi - lo + 1).natAbs < 2 ^ 4000 ∧ ∀ v : Int, lo ≤ v → (v ≤ hi ∨ v = lo) → PQ (.int v) Ω
noncomputable def wp_count : Pw := fun ts Ω PQ _ => ∃ lo hi : Int, ts = [.drw, .int lo, .int hi] ∧ 0 ≤ lo ∧ lo ≤ hi ∧ hi ≤ 100000000000 ∧ ∀ v : Int, 0 ≤ v → v ≤ hi → PQ (.int v) Ω
theorem lenT_of {t : Tr} {Ω : Om} {us : List Tr} (h : asS t Ω = some us) : ∃ n, lenT t Ω = some n ∧ n = us.length := by
  cases t with
  | lst ts => cases h; exact ⟨_, rfl, rfl⟩
  | tup ts => cases h; exact ⟨_, rfl, rfl⟩
  | obj a =>
    have h' : cellL (Ω a) = some us := h
    exact ⟨_, by show (match cellL (Ω a) with | some ts => some ts.length | none => _) = _; rw [h'], rfl⟩
  | _ => cases h
noncomputable def wp_among : Pw := fun ts Ω PQ _ => ∃ r us, ts = [.drw, r] ∧ asS r Ω = some us ∧ us ≠ [] ∧ ∀ x ∈ us, PQ x Ω
theorem tk_call {m : Int} {Ω : Om} {P : PT'} {X : PXt} (h : m.natAbs < 2 ^ 4000) (k : ∀ v : Int, 0 ≤ v → (v < m ∨ v = 0) → P (.int v) Ω) : wp_take [.drw, .int m] Ω P X := ⟨m, rfl, h, k⟩
theorem tk_big {m : Int} (h0 : -1000000000000 ≤ m) (h : m ≤ 1000000000000) : m.natAbs < 2 ^ 4000 := big_of h0 h
theorem bt_call {lo hi : Int} {Ω : Om} {P : PT'} {X : PXt} (h : (hi - lo + 1).natAbs < 2 ^ 4000) (k : ∀ v : Int, lo ≤ v → (v ≤ hi ∨ v = lo) → P (.int v) Ω) : wp_between [.drw, .int lo, .int hi] Ω P X := ⟨lo, hi, rfl, h, k⟩
theorem ct_call {lo hi : Int} {Ω : Om} {P : PT'} {X : PXt} (h : 0 ≤ lo ∧ lo ≤ hi ∧ hi ≤ 100000000000) (k : ∀ v : Int, 0 ≤ v → v ≤ hi → P (.int v) Ω) : wp_count [.drw, .int lo, .int hi] Ω P X := ⟨lo, hi, rfl, h.1, h.2.1, h.2.2, k⟩
theorem am_call {r : Tr} {us : List Tr} {Ω : Om} {P : PT'} {X : PXt} (h : asS r Ω = some us) (h1 : us ≠ []) (k : ∀ x ∈ us, P x Ω) : wp_among [.drw, r] Ω P X := ⟨r, us, rfl, h, h1, k⟩
theorem lst_in {ts : List Tr} {Ω : Om} {P : PT'} (h : P (.lst ts) Ω) : lstNew ts Ω P := .inl h
theorem dic_in {us : List (Key × Tr)} {Ω : Om} {P : PT'} (h : P (dicOf us) Ω) : dicNew us Ω P := .inl h
theorem pick_at {α : Type} {us : List α} {v : Int} (h0 : 0 ≤ v) (h1 : v < us.length) : ∃ x ∈ us, L2.atI us v = some x := by
  obtain ⟨j, rfl⟩ := Int.eq_ofNat_of_zero_le h0
  have hj : j < us.length := by omega
  exact ⟨us[j], List.getElem_mem hj, atI_nat (List.getElem?_eq_getElem hj)⟩
theorem ok_law_between (T : Tx K mg) : FnOk P w K mg base CX0 3 (He.ga K "_law_between") T.fd_law_between P_law_between (spD K wp_between 3) := by
  refine dok T.F_law_between sc_law_between fun cdv A outer s H E hr => ?_
  refine' dokMk (PSs.nox (pss_cons (ps_if (pt_cmpR op_le (pv 2) (pv 1) (nomark _)) (pss_one (ps_ret (pv 1))) pss_nil) (pss_cons (ps_set (i := 3) sc_law_between.nd rfl (Or.inl rfl) (pe_call (okt_law_take T) hr rfl T.g_law_take T.F_law_take.kp (b_law_take T) .nil pass0 (pa_cons (pv 0) (pa_cons (pe_int) pa_nil)))) (pss_cons (ps_if (pt_cmpR op_eq (pv 3) (pe_int) (nomark _)) (pss_one (ps_ret (pv 1))) pss_nil) (pss_cons (ps_if (pt_cmpR op_eq (pv 3) (pe_int) (nomark _)) (pss_one (ps_ret (pv 2))) pss_nil) (pss_one (ps_ret (pe_op (show OpR _ _ (LT.rAddG K) from LT.op_addG) (pv 1) (pe_call (okt_law_take T) hr rfl T.g_law_take T.F_law_take.kp (b_law_take T) .nil pass0 (pa_cons (pv 0) (pa_cons (pe_op (show OpR _ _ (LT.rAddG K) from LT.op_addG) (pe_op op_sub (pv 2) (pv 1)) (pe_int)) pa_nil))))))))))) ?sim ?go
  case sim =>
    try simp only [LL.cxK0, LL.cxK1, List.map_cons, List.map_nil]
    repeat' (first | with_reducible apply sim_gLst | with_reducible apply sim_tryR0 | with_reducible apply sim_tryR | with_reducible apply SimRow.cons | with_reducible exact SimRow.nil | with_reducible apply sim_mthS (dts := []) .nil | with_reducible apply sim_makeK (gT := fun ts us => ts ++ us) (fun _ _ _ _ _ _ _ h1 h2 => vdl_app h2 h1) | with_reducible apply sim_fld T.c_Ground T.n_Ground_pages | with_reducible apply sim_fld T.c_Ground T.n_Ground_width | with_reducible apply sim_fld T.c_Ground T.n_Ground_fill | with_reducible apply sim_fld T.c_Ground T.n_Ground__budget | with_reducible apply sim_fld T.c_Ground T.n_Ground__spent | with_reducible apply sim_fld T.c_Ground T.n_Ground__words | with_reducible apply sim_fld T.c_Ground T.n_Ground__holders | with_reducible apply sim_fld T.c_Ground T.n_Ground__deeds | with_reducible apply sim_setF T.c_Ground T.n_Ground_pages | with_reducible apply sim_setF T.c_Ground T.n_Ground_width | with_reducible apply sim_setF T.c_Ground T.n_Ground_fill | with_reducible apply sim_setF T.c_Ground T.n_Ground__budget | with_reducible apply sim_setF T.c_Ground T.n_Ground__spent | with_reducible apply sim_setF T.c_Ground T.n_Ground__words | with_reducible apply sim_setF T.c_Ground T.n_Ground__holders | with_reducible apply sim_setF T.c_Ground T.n_Ground__deeds | with_reducible apply sim_forI | with_reducible apply sim_pop | with_reducible apply sim_tru | with_reducible apply sim_prop | with_reducible apply sim_make (dts := []) .nil | with_reducible apply sim_make0 (dts := []) .nil | with_reducible apply sim_meth0 (dts := []) .nil | with_reducible apply sim_meth (dts := []) .nil | fail "s")
  case go =>
    intro ts Ω PQ PX hl h
    obtain ⟨lo, hi, rfl, hm, q⟩ := h
    simp! only [N_law_between]
    refine itei (fun h => q _ (by omega) (.inr rfl)) fun h => ?_
    refine ⟨6, rfl, by decide, fun v h0 h1 => ?_⟩
    simp! only [and_true]
    refine itei (fun h => q _ (by omega) (.inr rfl)) fun h => itei (fun h => q _ (by omega) (.inl (by omega))) fun h => ?_
    exact ⟨_, rfl, hm, fun v h0 h1 => q _ (by omega) (by omega)⟩
theorem ok_law_count (T : Tx K mg) : FnOk P w K mg base CX0 4 (He.ga K "_law_count") T.fd_law_count P_law_count (spD K wp_count 3) := by
  refine dok T.F_law_count sc_law_count fun cdv A outer s H E hr => ?_
  refine' dokMk (PSs.nox (pss_cons (ps_if (pt_cmpR op_eq (pe_call (okt_law_take T) (hr.mono (by decide)) rfl T.g_law_take T.F_law_take.kp (b_law_take T) .nil pass0 (pa_cons (pv 0) (pa_cons (pe_int) pa_nil))) (pe_int) (nomark _)) (pss_one (ps_ret (pe_call (ok_law_between T) hr rfl T.g_law_between T.F_law_between.kp (b_law_between T) .nil pass0 (pa_cons (pv 0) (pa_cons (pv 1) (pa_cons (pv 2) pa_nil)))))) pss_nil) (pss_one (ps_ret (pe_call (ok_law_between T) hr rfl T.g_law_between T.F_law_between.kp (b_law_between T) .nil pass0 (pa_cons (pv 0) (pa_cons (pe_int) (pa_cons (pv 1) pa_nil)))))))) ?sim ?go
  case sim =>
    try simp only [LL.cxK0, LL.cxK1, List.map_cons, List.map_nil]
    repeat' (first | with_reducible apply sim_gLst | with_reducible apply sim_tryR0 | with_reducible apply sim_tryR | with_reducible apply SimRow.cons | with_reducible exact SimRow.nil | with_reducible apply sim_mthS (dts := []) .nil | with_reducible apply sim_makeK (gT := fun ts us => ts ++ us) (fun _ _ _ _ _ _ _ h1 h2 => vdl_app h2 h1) | with_reducible apply sim_fld T.c_Ground T.n_Ground_pages | with_reducible apply sim_fld T.c_Ground T.n_Ground_width | with_reducible apply sim_fld T.c_Ground T.n_Ground_fill | with_reducible apply sim_fld T.c_Ground T.n_Ground__budget | with_reducible apply sim_fld T.c_Ground T.n_Ground__spent | with_reducible apply sim_fld T.c_Ground T.n_Ground__words | with_reducible apply sim_fld T.c_Ground T.n_Ground__holders | with_reducible apply sim_fld T.c_Ground T.n_Ground__deeds | with_reducible apply sim_setF T.c_Ground T.n_Ground_pages | with_reducible apply sim_setF T.c_Ground T.n_Ground_width | with_reducible apply sim_setF T.c_Ground T.n_Ground_fill | with_reducible apply sim_setF T.c_Ground T.n_Ground__budget | with_reducible apply sim_setF T.c_Ground T.n_Ground__spent | with_reducible apply sim_setF T.c_Ground T.n_Ground__words | with_reducible apply sim_setF T.c_Ground T.n_Ground__holders | with_reducible apply sim_setF T.c_Ground T.n_Ground__deeds | with_reducible apply sim_forI | with_reducible apply sim_pop | with_reducible apply sim_tru | with_reducible apply sim_prop | with_reducible apply sim_make (dts := []) .nil | with_reducible apply sim_make0 (dts := []) .nil | with_reducible apply sim_meth0 (dts := []) .nil | with_reducible apply sim_meth (dts := []) .nil | fail "s")
  case go =>
    intro ts Ω PQ PX hl h
    obtain ⟨lo, hi, rfl, h0, h1, h2, q⟩ := h
    simp! only [N_law_count]
    refine ⟨8, rfl, by decide, fun v h3 h4 => ?_⟩
    simp! only [and_true]
    refine itei (fun h => ⟨_, _, rfl, big_of (by omega) (by omega), fun v h5 h6 => q v (by omega) (by omega)⟩) fun h => ⟨_, _, rfl, big_of (by omega) (by omega), fun v h5 h6 => q v (by omega) (by omega)⟩
theorem ok_law_among (T : Tx K mg) : FnOk P w K mg base CX0 3 (He.ga K "_law_among") T.fd_law_among P_law_among (spD K wp_among 2) := by
  refine dok T.F_law_among sc_law_among fun cdv A outer s H E hr => ?_
  refine' dokMk (PSs.nox (pss_one (ps_ret (pe_ix (show IxR _ (LL.rIxA K) from LL.ix_A) (pv 1) (pe_call (okt_law_take T) hr rfl T.g_law_take T.F_law_take.kp (b_law_take T) .nil pass0 (pa_cons (pv 0) (pa_cons (pe_callB (show CallR _ _ (LT.rLenS K) from LT.call_lenS) (by rfl) T.z_len (by decide +kernel) (pa_cons (pv 1) pa_nil)) pa_nil))) (fun _ _ => rfl))))) ?sim ?go
  case sim =>
    try simp only [LL.cxK0, LL.cxK1, List.map_cons, List.map_nil]
    repeat' (first | with_reducible apply sim_gLst | with_reducible apply sim_tryR0 | with_reducible apply sim_tryR | with_reducible apply SimRow.cons | with_reducible exact SimRow.nil | with_reducible apply sim_mthS (dts := []) .nil | with_reducible apply sim_makeK (gT := fun ts us => ts ++ us) (fun _ _ _ _ _ _ _ h1 h2 => vdl_app h2 h1) | with_reducible apply sim_fld T.c_Ground T.n_Ground_pages | with_reducible apply sim_fld T.c_Ground T.n_Ground_width | with_reducible apply sim_fld T.c_Ground T.n_Ground_fill | with_reducible apply sim_fld T.c_Ground T.n_Ground__budget | with_reducible apply sim_fld T.c_Ground T.n_Ground__spent | with_reducible apply sim_fld T.c_Ground T.n_Ground__words | with_reducible apply sim_fld T.c_Ground T.n_Ground__holders | with_reducible apply sim_fld T.c_Ground T.n_Ground__deeds | with_reducible apply sim_setF T.c_Ground T.n_Ground_pages | with_reducible apply sim_setF T.c_Ground T.n_Ground_width | with_reducible apply sim_setF T.c_Ground T.n_Ground_fill | with_reducible apply sim_setF T.c_Ground T.n_Ground__budget | with_reducible apply sim_setF T.c_Ground T.n_Ground__spent | with_reducible apply sim_setF T.c_Ground T.n_Ground__words | with_reducible apply sim_setF T.c_Ground T.n_Ground__holders | with_reducible apply sim_setF T.c_Ground T.n_Ground__deeds | with_reducible apply sim_forI | with_reducible apply sim_pop | with_reducible apply sim_tru | with_reducible apply sim_prop | with_reducible apply sim_make (dts := []) .nil | with_reducible apply sim_make0 (dts := []) .nil | with_reducible apply sim_meth0 (dts := []) .nil | with_reducible apply sim_meth (dts := []) .nil | fail "s")
  case go =>
    intro ts Ω PQ PX hl h
    obtain ⟨r, us, rfl, hr, hne, q⟩ := h
    have hl' : ∃ n, lenT r Ω = some n ∧ n = us.length := lenT_of hr
    obtain ⟨n, en, rfl⟩ := hl'
    simp! only [N_law_among]
    refine ⟨_, en, fun hz => ⟨_, rfl, Nat.lt_of_le_of_lt (show (us.length : Int).natAbs ≤ 1000000 by omega) (by decide +kernel), fun v h0 h1 => ?_⟩⟩
    have h2 : v < us.length := by
      rcases h1 with h1 | h1
      · exact h1
      · have := List.length_pos_iff.mpr hne
        omega
    obtain ⟨x, hx, e⟩ := pick_at h0 h2
    exact ⟨us, hr, v, rfl, x, e, q x hx⟩
end K12

namespace K12
open PySem PySem.Spec PyProof.Rows L2 LL LT
set_option autoImplicit false
local macro_rules | `(tactic| fail "s") => `(tactic| first | (with_reducible first | exact sim_var | exact sim_int | exact sim_bl | exact sim_str | exact sim_non | exact sim_ty | exact sim_ref | exact sim_nil | apply sim_cons | apply sim_op | apply simr_I0 | apply simr_I | exact simr_Eq | exact simr_Ne | exact simr_IxA | exact simr_addG | exact simr_isN | exact simr_notN | exact simr_isB | exact simr_in | exact simr_IxL | exact simr_IxT | exact simr_IxS | exact simr_EqD | exact simr_NeD | exact simr_rep | exact simr_repW | apply sim_un | apply sim_test | apply sim_tB | apply sim_and | apply sim_or | apply sim_not | apply sim_andV | apply sim_orV | apply sim_notV | apply sim_if | apply sim_chain | apply sim_tup | apply sim_lst | apply sim_bor0 | apply sim_bor | apply sim_borS | apply sim_call0 | apply sim_call | apply sim_callS | apply sim_callZ | apply sim_isXT | apply sim_isX | apply sim_xf | apply sim_sortS | apply sim_listRg | apply sim_CB | exact simc_len | exact simc_int | exact simc_isi | exact simc_mx | exact simc_mn | exact simc_sum | exact simc_maxL | exact simc_minL | exact simc_minS | exact simc_all | exact simc_any | exact simc_list | exact simc_tuple | exact simc_isiT | exact simc_strI | exact simc_sortI | exact simc_sortR | apply sim_sl | exact simsl_G | exact simsl_L | exact sim_oNone | apply sim_oSome | apply sim_append | exact sim_newD | apply sim_disp1 | apply sim_dget2 | apply sim_dget1 | apply sim_dget | apply sim_din | apply sim_dnotin | apply sim_lc | apply sim_dc | exact sim_yes | apply sim_iL | apply sim_iT | apply sim_iS | apply sim_iR1 | apply sim_iR2 | apply sim_iE | apply sim_iZ | apply sim_revT | exact gin_name (by decide) | apply gin_tup | exact gin_nil | apply gin_cons | exact mono_name | exact mono_nil | apply mono_cons | apply mono_tup | exact sim_next | apply sim_mk | apply sim_fgl | apply sim_fg | apply sim_seq | apply sim_ret | exact sim_retN | apply sim_drop | exact sim_break | exact sim_cont | apply sim_ifS | apply sim_asg | exact sim_gName | apply sim_gTup | exact sim_gNil | apply sim_gCons | apply sim_gSub | apply sim_for | apply sim_while | apply sim_dput | apply sim_raise | apply sim_tryT0 | apply sim_tryT) | exact fun _ _ => rfl | exact fun _ => rfl | exact fun _ _ _ _ => rfl | intro W | intro a cls d x)
local macro_rules | `(tactic| fail "l") => `(tactic| (simp only [List.length_append,List.length_take,List.length_drop,List.length_map,List.length_cons,List.length_nil,List.length_set,List.length_replicate,List.length_range]; omega))
local macro_rules | `(tactic| fail "r") => `(tactic| first | fail "d" | with_reducible refine fun (_ : _ ≤ 1000000) => ?_ | with_reducible refine Or.inl (fun (_ : _ ≤ 1000000) => ?_) | with_reducible refine lst_in ?_ | with_reducible refine dic_in ?_ | with_reducible refine tk_call (by first | decide | exact tk_big (by omega) (by omega)) fun v h0 h1 => ?_ | with_reducible refine bt_call (by first | decide | exact tk_big (by omega) (by omega)) fun v h0 h1 => ?_ | with_reducible refine ct_call (by first | decide | exact ⟨by omega, by omega, by omega⟩) fun v h0 h1 => ?_ | with_reducible refine LL.itei (fun h => ?_) fun h => ?_ | with_reducible refine pickP (by omega) (by simp only [List.length_cons, List.length_nil]; omega) ?_ | with_reducible refine List.forall_mem_cons.mpr (And.intro ?_ ?_) | with_reducible exact LT.nil_all | with_reducible refine And.intro (by first | (unfold CPow; decide) | omega | rfl) ?_ | with_reducible refine am_call rfl (List.cons_ne_nil _ _) ?_ | refine And.intro (show CMul _ _ from .inl ⟨by omega, by omega⟩) ?_)
local macro_rules | `(tactic| fail "d") => `(tactic| simp only [and_true,dLstG,dTryR0,dTryR,exRow,endsT,dMakeK,dTru,dPop,dFld,dSetF,dMeth,dMeth0,dProp,dMake,dSortI,dSortR,dLstRg,dRepW,dRetF,dForgets,asD_put,dSortS,dDPut,dCallZ,dBor,dBor0,diZ,dRevT,dStrI,dIsXT,dTry0,dTry,dXf,dIsX,dNewD,dDisp1,Prod.mk.injEq,wipeT,Int.toNat_natCast,asL_put,put_same,put_put,Cell.lst.injEq,atI_0,atI_1,atI_2,atI_3,atI_4,atI_5,atI_6,atI_7,atI_8,atI_9,Tr.ty.injEq,tyN_int,tyN_bool,tyN_str,tyN_list,tyN_tuple,tyN_dict,dVar,dC,dName,dOp,dI,dI0,dUn,dU,dEq,dNe,dTest,dAnd,dOr,dNot,dAndV,dOrV,dNotV,dIf,dChain,dNil,dCons,dTup,dLst,dCall,dCall0,dCB,dNext,dSeq,dRet,dRetN,dDrop,dBreak,dCont,dIfS,dgNil,dgCons,dTupG,dAsg,diL,diT,diS,diR1,diR2,diE,dYes,dIx,dLen,dInt,dMx,dSum,dAll,dIsi,dIsiT,doNone,doSome,dSl,dApp,dSub,dSet,dEqD,dGet,dGet1,dGet2,LT.dIn,dIsN,dIsB,dIn',dList,dTuple,dRaise,dMaxL,dMinL,dMinS,dRep,asL_lst,asS_lst,asS_tup,asT_tup,flatV',Tr.int.injEq,Tr.bl.injEq,Tr.str.injEq,Tr.lst.injEq,Tr.tup.injEq,Tr.obj.injEq,Option.isSome_some,List.map_cons,List.map_nil,List.length_cons,List.length_nil,List.replicate_succ,List.replicate_zero,List.cons_append,List.nil_append,List.append_nil,List.getElem?_cons_zero,List.getElem?_cons_succ,List.set_cons_zero,List.set_cons_succ,Nat.add_sub_cancel,Nat.reduceAdd,Nat.reduceSub,Option.some.injEq,List.cons.injEq,and_true,true_and,and_false,false_and,exists_eq_left,exists_eq_left',exists_and_left,exists_and_right,exists_eq,exists_eq',LL.if_dec,reduceCtorEq,exists_false,exists_const,or_false,false_or,if_true,if_false,and_assoc,Int.reduceEq,Int.reduceNe,Int.reduceNeg,Int.reduceLT,Int.reduceLE,Int.reduceMul,Int.reduceAdd,Int.reduceSub,Int.reducePow,Int.reduceToNat,Nat.reducePow,Nat.reduceLT,Nat.reduceLeDiff,true_or,or_true,Bool.not_true,Bool.not_false,Bool.false_eq_true,Bool.or_false,Bool.or_true,Bool.true_or,Bool.false_or,decide_true,decide_false,not_true_eq_false,not_false_eq_true,LL.scal_int,LL.scal_bl,LL.scal_str,V.int.injEq,V.bl.injEq,V.str.injEq,Nat.zero_le,forall_const,true_implies,kindT_non,isNonT_non,flatT_non,flatK_non,isBT_non_true,isBT_non_false,toV_non,ofV_non,keyT_non,isT_non_int,isT_non_bool,isT_non_str,isT_non_list,isT_non_tuple,isT_non_dict,kindT_bl,isNonT_bl,flatT_bl,flatK_bl,toV_bl,ofV_bl,keyT_bl,isT_bl_int,isT_bl_bool,isT_bl_str,isT_bl_list,isT_bl_tuple,isT_bl_dict,kindT_int,isNonT_int,flatT_int,flatK_int,isBT_int_true,isBT_int_false,toV_int,ofV_int,keyT_int,isT_int_int,isT_int_bool,isT_int_str,isT_int_list,isT_int_tuple,isT_int_dict,kindT_str,isNonT_str,flatT_str,flatK_str,isBT_str_true,isBT_str_false,toV_str,ofV_str,keyT_str,isT_str_int,isT_str_bool,isT_str_str,isT_str_list,isT_str_tuple,isT_str_dict,kindT_lst,isNonT_lst,flatT_lst,flatK_lst,isBT_lst_true,isBT_lst_false,lenT_lst,keyT_lst,isT_lst_int,isT_lst_bool,isT_lst_str,isT_lst_list,isT_lst_tuple,isT_lst_dict,kindT_tup,isNonT_tup,flatT_tup,flatK_tup,isBT_tup_true,isBT_tup_false,lenT_tup,keyT_tup,isT_tup_int,isT_tup_bool,isT_tup_str,isT_tup_list,isT_tup_tuple,isT_tup_dict,kindT_dic,isNonT_dic,flatT_dic,flatK_dic,isBT_dic_true,isBT_dic_false,lenT_dic,keyT_dic,isT_dic_int,isT_dic_bool,isT_dic_str,isT_dic_list,isT_dic_tuple,isT_dic_dict,kindT_obj,isNonT_obj,flatT_obj,flatK_obj,isBT_obj_true,isBT_obj_false,keyT_obj,kindT_drw,isNonT_drw,flatT_drw,flatK_drw,isBT_drw_true,isBT_drw_false,keyT_drw,kindT_ty,isNonT_ty,flatT_ty,flatK_ty,isBT_ty_true,isBT_ty_false,toV_ty,ofV_ty,keyT_ty,asD_dic,isBT_bl,dAddG_int,dAddG_str,dAddG_tup,dAddG_lst_lst,dAddG_lst_obj,dAddG_obj_lst,dAddG_obj_obj,dSlG_tup,dSlG_str,dSlG_lst,dSlG_obj])
local macro_rules | `(tactic| simp! only [$xs,*]) => `(tactic| try simp only [$xs,*,dLstG,dTryR0,dTryR,exRow,endsT,dMakeK,dTru,dPop,dFld,dSetF,dMeth,dMeth0,dProp,dMake,dSortI,dSortR,dLstRg,dRepW,dRetF,dForgets,asD_put,dSortS,dDPut,dCallZ,dBor,dBor0,diZ,dRevT,dStrI,dIsXT,dTry0,dTry,dXf,dIsX,dNewD,dDisp1,Prod.mk.injEq,wipeT,Int.toNat_natCast,asL_put,put_same,put_put,Cell.lst.injEq,atI_0,atI_1,atI_2,atI_3,atI_4,atI_5,atI_6,atI_7,atI_8,atI_9,Tr.ty.injEq,tyN_int,tyN_bool,tyN_str,tyN_list,tyN_tuple,tyN_dict,dVar,dC,dName,dOp,dI,dI0,dUn,dU,dEq,dNe,dTest,dAnd,dOr,dNot,dAndV,dOrV,dNotV,dIf,dChain,dNil,dCons,dTup,dLst,dCall,dCall0,dCB,dNext,dSeq,dRet,dRetN,dDrop,dBreak,dCont,dIfS,dgNil,dgCons,dTupG,dAsg,diL,diT,diS,diR1,diR2,diE,dYes,dIx,dLen,dInt,dMx,dSum,dAll,dIsi,dIsiT,doNone,doSome,dSl,dApp,dSub,dSet,dEqD,dGet,dGet1,dGet2,LT.dIn,dIsN,dIsB,dIn',dList,dTuple,dRaise,dMaxL,dMinL,dMinS,dRep,asL_lst,asS_lst,asS_tup,asT_tup,flatV',Tr.int.injEq,Tr.bl.injEq,Tr.str.injEq,Tr.lst.injEq,Tr.tup.injEq,Tr.obj.injEq,Option.isSome_some,List.map_cons,List.map_nil,List.length_cons,List.length_nil,List.replicate_succ,List.replicate_zero,List.cons_append,List.nil_append,List.append_nil,List.getElem?_cons_zero,List.getElem?_cons_succ,List.set_cons_zero,List.set_cons_succ,Nat.add_sub_cancel,Nat.reduceAdd,Nat.reduceSub,Option.some.injEq,List.cons.injEq,and_true,true_and,and_false,false_and,exists_eq_left,exists_eq_left',exists_and_left,exists_and_right,exists_eq,exists_eq',LL.if_dec,reduceCtorEq,exists_false,exists_const,or_false,false_or,if_true,if_false,and_assoc,Int.reduceEq,Int.reduceNe,Int.reduceNeg,Int.reduceLT,Int.reduceLE,Int.reduceMul,Int.reduceAdd,Int.reduceSub,Int.reducePow,Int.reduceToNat,Nat.reducePow,Nat.reduceLT,Nat.reduceLeDiff,true_or,or_true,Bool.not_true,Bool.not_false,Bool.false_eq_true,Bool.or_false,Bool.or_true,Bool.true_or,Bool.false_or,decide_true,decide_false,not_true_eq_false,not_false_eq_true,LL.scal_int,LL.scal_bl,LL.scal_str,V.int.injEq,V.bl.injEq,V.str.injEq,Nat.zero_le,forall_const,true_implies,kindT_non,isNonT_non,flatT_non,flatK_non,isBT_non_true,isBT_non_false,toV_non,ofV_non,keyT_non,isT_non_int,isT_non_bool,isT_non_str,isT_non_list,isT_non_tuple,isT_non_dict,kindT_bl,isNonT_bl,flatT_bl,flatK_bl,toV_bl,ofV_bl,keyT_bl,isT_bl_int,isT_bl_bool,isT_bl_str,isT_bl_list,isT_bl_tuple,isT_bl_dict,kindT_int,isNonT_int,flatT_int,flatK_int,isBT_int_true,isBT_int_false,toV_int,ofV_int,keyT_int,isT_int_int,isT_int_bool,isT_int_str,isT_int_list,isT_int_tuple,isT_int_dict,kindT_str,isNonT_str,flatT_str,flatK_str,isBT_str_true,isBT_str_false,toV_str,ofV_str,keyT_str,isT_str_int,isT_str_bool,isT_str_str,isT_str_list,isT_str_tuple,isT_str_dict,kindT_lst,isNonT_lst,flatT_lst,flatK_lst,isBT_lst_true,isBT_lst_false,lenT_lst,keyT_lst,isT_lst_int,isT_lst_bool,isT_lst_str,isT_lst_list,isT_lst_tuple,isT_lst_dict,kindT_tup,isNonT_tup,flatT_tup,flatK_tup,isBT_tup_true,isBT_tup_false,lenT_tup,keyT_tup,isT_tup_int,isT_tup_bool,isT_tup_str,isT_tup_list,isT_tup_tuple,isT_tup_dict,kindT_dic,isNonT_dic,flatT_dic,flatK_dic,isBT_dic_true,isBT_dic_false,lenT_dic,keyT_dic,isT_dic_int,isT_dic_bool,isT_dic_str,isT_dic_list,isT_dic_tuple,isT_dic_dict,kindT_obj,isNonT_obj,flatT_obj,flatK_obj,isBT_obj_true,isBT_obj_false,keyT_obj,kindT_drw,isNonT_drw,flatT_drw,flatK_drw,isBT_drw_true,isBT_drw_false,keyT_drw,kindT_ty,isNonT_ty,flatT_ty,flatK_ty,isBT_ty_true,isBT_ty_false,toV_ty,ofV_ty,keyT_ty,asD_dic,isBT_bl,dAddG_int,dAddG_str,dAddG_tup,dAddG_lst_lst,dAddG_lst_obj,dAddG_obj_lst,dAddG_obj_obj,dSlG_tup,dSlG_str,dSlG_lst,dSlG_obj])
section
open PySem PySem.Spec PyProof.Rows L2 LL LT
variable {P : Program} {w : World} {K : PySem.W.Frag} {mg : Str → Option Value} {base : Heap}

noncomputable def wp_align : Pw := fun ts Ω PQ _ => ∃ m : Int, ts = [.drw, .int m] ∧ 0 ≤ m ∧ m ≤ 40 ∧ ∀ k : Nat, (k : Int) ≤ m → PQ (.int (2 ^ k)) Ω
noncomputable def wp_number : Pw := fun ts Ω PQ _ => ∃ lo hi : Int, ts = [.drw, .int lo, .int hi] ∧ lo ≤ hi ∧ -100000000000 ≤ lo ∧ hi ≤ 100000000000 ∧ ∀ v : Int, lo ≤ v → v ≤ hi → PQ (.int v) Ω
theorem al_call {m : Int} {Ω : Om} {P : PT'} {X : PXt} (h : 0 ≤ m ∧ m ≤ 40) (k : ∀ k : Nat, (k : Int) ≤ m → P (.int (2 ^ k)) Ω) : wp_align [.drw, .int m] Ω P X := ⟨m, rfl, h.1, h.2, k⟩
theorem nu_call {lo hi : Int} {Ω : Om} {P : PT'} {X : PXt} (h : lo ≤ hi ∧ -100000000000 ≤ lo ∧ hi ≤ 100000000000) (k : ∀ v : Int, lo ≤ v → v ≤ hi → P (.int v) Ω) : wp_number [.drw, .int lo, .int hi] Ω P X := ⟨lo, hi, rfl, h.1, h.2.1, h.2.2, k⟩
end
section
open PySem PySem.Spec PyProof.Rows L2 LL LT
variable {P : Program} {w : World} {K : PySem.W.Frag} {mg : Str → Option Value} {base : Heap}

theorem ok_BadValue (T : Tx K mg) : FnOk P w K mg base CX0 1 (iBV K) T.fd_BadValue P_BadValue (sp_Exc K "BadValue" ["parameter"]) := by
  refine T.F_BadValue.ok sc_BadValue (fun vs H Q E h => ?_) (fun cdv A outer s H vs Q E hr h => ⟨_, PSs.nox (pss_cons (ps_ost (pv 0) (pv 1)) (pss_one (ps_ost (pv 0) (pe_tup (pa_cons pe_str (pa_cons (pe_tup (pa_cons (pv 1) pa_nil)) pa_nil)))))), ?_⟩)
  · obtain ⟨_, us, rfl, hl, _⟩ := h
    match us, hl with
    | [_], _ => rfl
  · obtain ⟨a, us, rfl, hl, ha, q⟩ := h
    obtain ⟨n, rfl⟩ : ∃ n, us = [n] := match us, hl with
      | [n], _ => ⟨n, rfl⟩
    simp only [tSeq, tAsg, tRet, tRetN, tDrop, tNext, tVar, tC, gName, tOp, tUn, rI, rI0, rU, tIfS, tTest, tB, tIf, tAnd, tOr, tNot, tAndV, tOrV, tNotV, tCall, tCons, tNil, tCB, tLst, tTup, tChain, CMul, CDiv, CPow, rEq, rNe, gSub, L2.start, LL.cxK0, LL.cxK1, List.map_cons, List.map_nil, List.length_cons, List.length_nil, List.replicate_succ, List.replicate_zero, List.cons_append, List.nil_append, List.append_nil, List.getElem?_cons_zero, List.getElem?_cons_succ, List.set_cons_zero, List.set_cons_succ, Nat.add_sub_cancel, Nat.reduceAdd, Nat.reduceSub, Option.some.injEq, V.int.injEq, V.bl.injEq, V.ref.injEq, V.str.injEq, List.cons.injEq, and_true, true_and, and_false, false_and, exists_eq_left, exists_eq_left', exists_and_left, exists_and_right, exists_eq, exists_eq', LL.if_dec, reduceCtorEq, exists_false, exists_const, or_false, false_or, if_true, if_false, LL.rInt1, LL.rMx, LL.rMn, and_assoc, Int.reduceNeg, Int.reduceLT, Int.reduceLE, Int.reduceMul, Int.reduceAdd, Int.reduceSub, Int.reducePow, Int.reduceToNat, Nat.reducePow, Nat.reduceLT, true_or, or_true, Bool.not_true, Bool.not_false, Bool.false_eq_true, Bool.or_false, Bool.or_true, Bool.true_or, Bool.false_or, decide_true, decide_false, not_true_eq_false, not_false_eq_true, LL.scal_int, LL.scal_bl, LL.scal_str, LL.isInt, LL.isBl, LL.isStr, LL.isLst, LL.isTup, LL.isDic, P_BadValue, tOst]
    refine ⟨_, T.x_BadValue, T.n_BadValue_parameter, .inl ⟨ha, fun dx hdx hne => ?_⟩⟩
    have e1 : upd (upd H dx (exd dx [("parameter", n)])) a (exo a (aBV K) (some dx)) a = some (exo a (aBV K) (some dx)) := upd_same
    have e2 : upd (upd H dx (exd dx [("parameter", n)])) a (exo a (aBV K) (some dx)) dx = some (exd dx [("parameter", n)]) := by rw [upd_ne hne, upd_same]
    have e3 : ∀ b o, b ≠ a → H b = some o → upd (upd H dx (exd dx [("parameter", n)])) a (exo a (aBV K) (some dx)) b = some o := fun b o hb e => by rw [upd_ne hb, upd_ne (ne_of_none e hdx)]; exact e
    have e4 : ∀ b, upd (upd H dx (exd dx [("parameter", n)])) a (exo a (aBV K) (some dx)) b = none → H b = none := fun b hb => by
      by_cases c : b = a
      · rw [c, upd_same] at hb; cases hb
      · rw [upd_ne c] at hb
        by_cases c2 : b = dx
        · rw [c2]; exact hdx
        · rw [upd_ne c2] at hb; exact hb
    generalize upd (upd H dx (exd dx [("parameter", n)])) a (exo a (aBV K) (some dx)) = H1 at e1 e2 e3 e4 ⊢
    refine ⟨by decide, ?_⟩
    intro p1 np1
    generalize hq : upd H1 p1 _ = H2
    have sH2 : Same H1 H2 := hq ▸ Same.new (Same.refl _) np1
    have ep1 := hq ▸ (upd_same (H := H1) (a := p1))
    clear hq
    replace e1 := sH2 _ _ e1
    replace e2 := sH2 _ _ e2
    refine ⟨by decide, ?_⟩
    intro p2 np2
    generalize hq : upd H2 p2 _ = H3
    have sH3 : Same H2 H3 := hq ▸ Same.new (Same.refl _) np2
    have ep2 := hq ▸ (upd_same (H := H2) (a := p2))
    clear hq
    replace e1 := sH3 _ _ e1
    replace e2 := sH3 _ _ e2
    replace ep1 := sH3 _ _ ep1
    refine ⟨_, T.x_BadValue, T.n_BadValue_told, .inr ⟨dx, e1, _, e2, by simp, ?_⟩⟩
    have f1 := e4 _ np1
    have f2 := e4 _ (sH2.free np2)
    have x1 : p1 ≠ dx := fun z => by rw [z, e2] at ep1; exact (show ¬ exd dx [("parameter", n)] = .tup [n] from exd_tup) (Option.some.inj ep1)
    have x2 : p2 ≠ dx := fun z => by rw [z, e2] at ep2; exact (show ¬ exd dx [("parameter", n)] = .tup [.str "BadValue", .ref p1] from exd_tup) (Option.some.inj ep2)
    refine q dx p1 p2 _ hdx hne (by rw [upd_ne hne.symm]; exact e1) upd_same (by rw [upd_ne x1]; exact ep1) (by rw [upd_ne x2]; exact ep2) f1 f2 (fun b o hb e => ?_)
    rw [upd_ne (ne_of_none e hdx)]
    exact sH3 _ _ (sH2 _ _ (e3 _ _ hb e))

noncomputable def InR (lo hi : Int) : Tr → Prop
  | .int i => lo ≤ i ∧ i ≤ hi
  | _ => False
instance (lo hi : Int) (t : Tr) : Decidable (InR lo hi t) := by
  cases t <;> unfold InR <;> infer_instance
/-- data of a kind that isinstance knows -/
noncomputable def isInt : Tr → Bool
  | .int _ => true
  | _ => false
noncomputable def wp_isint : Pw := fun ts Ω PQ _ => ∃ t, ts = [t] ∧ (kindT t).isSome = true ∧ PQ (.bl (isInt t)) Ω
noncomputable def badX (n : Tr) : XV := excT "BadValue" ["parameter"] [n]
noncomputable def wp_need_whole : Pw := fun ts Ω PQ PX => ∃ t lo hi n, ts = [t, .int lo, .int hi, n] ∧ (kindT t).isSome = true ∧ (InR lo hi t → PQ .non Ω) ∧ (¬ InR lo hi t → PX (badX n) Ω)
noncomputable def wp_need : Pw := fun ts Ω PQ PX => ∃ b n, ts = [.bl b, n] ∧ (b = true → PQ .non Ω) ∧ (b = false → PX (badX n) Ω)
theorem ok_is_whole (T : Tx K mg) : FnOk P w K mg base CX0 1 (He.ga K "is_whole") T.fd_is_whole P_is_whole (spD K wp_isint 1) := by
  refine dok T.F_is_whole sc_is_whole fun cdv A outer s H E hr => ?_
  refine' dokMk (PSs.nox (pss_one (ps_ret ((pe_and (pe_callB (show CallR _ _ (rIsi K) from call_isi) (by rfl) T.z_isinstance (by decide +kernel) (pa_cons (pv 0) (pa_cons (pe_bltn (v := .ty "int") (u := .type "int") (by rfl) T.z_int (by decide +kernel) rfl) pa_nil))) (pe_one (pe_not (pe_callB (show CallR _ _ (rIsi K) from call_isi) (by rfl) T.z_isinstance (by decide +kernel) (pa_cons (pv 0) (pa_cons (pe_bltn (v := .ty "bool") (u := .type "bool") (by rfl) T.z_bool (by decide +kernel) rfl) pa_nil)))))))))) ?sim ?go
  case sim =>
    try simp only [LL.cxK0, LL.cxK1, List.map_cons, List.map_nil]
    repeat' (first | with_reducible apply sim_gLst | with_reducible apply sim_tryR0 | with_reducible apply sim_tryR | with_reducible apply SimRow.cons | with_reducible exact SimRow.nil | with_reducible apply sim_mthS (dts := []) .nil | with_reducible apply sim_makeK (gT := fun ts us => ts ++ us) (fun _ _ _ _ _ _ _ h1 h2 => vdl_app h2 h1) | with_reducible apply sim_fld T.c_Ground T.n_Ground_pages | with_reducible apply sim_fld T.c_Ground T.n_Ground_width | with_reducible apply sim_fld T.c_Ground T.n_Ground_fill | with_reducible apply sim_fld T.c_Ground T.n_Ground__budget | with_reducible apply sim_fld T.c_Ground T.n_Ground__spent | with_reducible apply sim_fld T.c_Ground T.n_Ground__words | with_reducible apply sim_fld T.c_Ground T.n_Ground__holders | with_reducible apply sim_fld T.c_Ground T.n_Ground__deeds | with_reducible apply sim_setF T.c_Ground T.n_Ground_pages | with_reducible apply sim_setF T.c_Ground T.n_Ground_width | with_reducible apply sim_setF T.c_Ground T.n_Ground_fill | with_reducible apply sim_setF T.c_Ground T.n_Ground__budget | with_reducible apply sim_setF T.c_Ground T.n_Ground__spent | with_reducible apply sim_setF T.c_Ground T.n_Ground__words | with_reducible apply sim_setF T.c_Ground T.n_Ground__holders | with_reducible apply sim_setF T.c_Ground T.n_Ground__deeds | with_reducible apply sim_forI | with_reducible apply sim_pop | with_reducible apply sim_tru | with_reducible apply sim_prop | with_reducible apply sim_make (dts := []) .nil | with_reducible apply sim_make0 (dts := []) .nil | with_reducible apply sim_meth0 (dts := []) .nil | with_reducible apply sim_meth (dts := []) .nil | fail "s")
  case go =>
    intro ts Ω PQ PX hl h
    obtain ⟨t, rfl, hk, q⟩ := h
    simp! only [N_is_whole]
    cases t <;> first | (cases hk; done) | (simp! only [and_true]; exact q)
theorem ok_need_whole (T : Tx K mg) : FnOk P w K mg base (L2.CX P w) 3 (He.ga K "need_whole") T.fd_need_whole P_need_whole (spD K wp_need_whole 4) := by
  refine dok T.F_need_whole sc_need_whole fun cdv A outer s H E hr => ?_
  refine' dokMk ((pss_one (ps_if (PW.pt (pw_or (pt_not (pt_val (pe_call (ok_is_whole T) (hr.mono (by decide)) rfl T.g_is_whole T.F_is_whole.kp (b_is_whole T) .nil pass0 (pa_cons (pv 0) pa_nil)))) (pw_or1 (pt_not (pt_chain op_le op_le (pv 1) (pv 0) (pv 2)))))) (pss_one (ps_raise rfl (takes_of rfl rfl rfl rfl) (pmk_oex T.x_BadValue T.i_BadValue T.t_BadValue (ok_BadValue T) hr (b_BadValue T) .nil pass0 rfl T.g_BadValue (pa_cons (pv 3) pa_nil)))) pss_nil))) ?sim ?go
  case sim =>
    try simp only [LL.cxK0, LL.cxK1, List.map_cons, List.map_nil]
    repeat' (first | with_reducible apply sim_gLst | with_reducible apply sim_tryR0 | with_reducible apply sim_tryR | with_reducible apply SimRow.cons | with_reducible exact SimRow.nil | with_reducible apply sim_mthS (dts := []) .nil | with_reducible apply sim_makeK (gT := fun ts us => ts ++ us) (fun _ _ _ _ _ _ _ h1 h2 => vdl_app h2 h1) | with_reducible apply sim_fld T.c_Ground T.n_Ground_pages | with_reducible apply sim_fld T.c_Ground T.n_Ground_width | with_reducible apply sim_fld T.c_Ground T.n_Ground_fill | with_reducible apply sim_fld T.c_Ground T.n_Ground__budget | with_reducible apply sim_fld T.c_Ground T.n_Ground__spent | with_reducible apply sim_fld T.c_Ground T.n_Ground__words | with_reducible apply sim_fld T.c_Ground T.n_Ground__holders | with_reducible apply sim_fld T.c_Ground T.n_Ground__deeds | with_reducible apply sim_setF T.c_Ground T.n_Ground_pages | with_reducible apply sim_setF T.c_Ground T.n_Ground_width | with_reducible apply sim_setF T.c_Ground T.n_Ground_fill | with_reducible apply sim_setF T.c_Ground T.n_Ground__budget | with_reducible apply sim_setF T.c_Ground T.n_Ground__spent | with_reducible apply sim_setF T.c_Ground T.n_Ground__words | with_reducible apply sim_setF T.c_Ground T.n_Ground__holders | with_reducible apply sim_setF T.c_Ground T.n_Ground__deeds | with_reducible apply sim_forI | with_reducible apply sim_pop | with_reducible apply sim_tru | with_reducible apply sim_prop | with_reducible apply sim_make (dts := []) .nil | with_reducible apply sim_make0 (dts := []) .nil | with_reducible apply sim_meth0 (dts := []) .nil | with_reducible apply sim_meth (dts := []) .nil | fail "s")
  case go =>
    intro ts Ω PQ PX hl h
    obtain ⟨t, lo, hi, n, rfl, hk, q1, q2⟩ := h
    simp! only [N_need_whole]
    refine ⟨t, rfl, hk, ?_⟩
    cases t with
    | int i =>
      simp! only [isInt]
      refine itei (fun h => ?_) fun h => q2 fun z => h z.1
      by_cases h2 : i ≤ hi
      · rw [if_neg (by simp [h2])]
        exact q1 ⟨h, h2⟩
      · rw [if_pos (by simp [h2])]
        exact q2 fun z => h2 z.2
    | _ =>
      simp! only [isInt]
      exact q2 (fun z => z)
mutual
/-- data, dicts too -/
noncomputable def dataT : Tr → Bool
  | .obj _ => false
  | .drw => false
  | .ty _ => false
  | .lst ts => dataTs ts
  | .tup ts => dataTs ts
  | .dic ks ts => decide ks.Nodup && (decide (ts.length = ks.length) && dataTs ts)
  | _ => true
noncomputable def dataTs : List Tr → Bool
  | [] => true
  | t :: ts => dataT t && dataTs ts
end
theorem data_kind {t : Tr} (h : dataT t = true) : (kindT t).isSome = true := by
  cases t <;> first | rfl | cases (show false = true from h)
theorem dataTs_mem : ∀ {ts : List Tr} {t : Tr}, dataTs ts = true → t ∈ ts → dataT t = true
  | u :: us, t, h, m => by
    have h' := Bool.and_eq_true_iff.mp (show (dataT u && dataTs us) = true from h)
    rcases List.mem_cons.mp m with rfl | m
    · exact h'.1
    · exact dataTs_mem h'.2 m
theorem dataTs_of : ∀ {ts : List Tr}, (∀ t ∈ ts, dataT t = true) → dataTs ts = true
  | [], _ => rfl
  | t :: ts, h => by
    show (dataT t && dataTs ts) = true
    rw [h t List.mem_cons_self, dataTs_of fun u hu => h u (List.mem_cons_of_mem _ hu)]
    rfl
theorem data_dic {ks : List Key} {ts : List Tr} (h : dataT (.dic ks ts) = true) : ks.Nodup ∧ ts.length = ks.length ∧ dataTs ts = true := by
  have h1 := Bool.and_eq_true_iff.mp (show (decide ks.Nodup && (decide (ts.length = ks.length) && dataTs ts)) = true from h)
  have h2 := Bool.and_eq_true_iff.mp h1.2
  exact ⟨of_decide_eq_true h1.1, of_decide_eq_true h2.1, h2.2⟩
theorem data_app {as bs : List Tr} (h1 : dataTs as = true) (h2 : dataTs bs = true) : dataTs (as ++ bs) = true := dataTs_of fun t ht => (List.mem_append.mp ht).elim (dataTs_mem h1) (dataTs_mem h2)
theorem data_one {x : Tr} (h1 : dataT x = true) : dataTs [x] = true := dataTs_of fun t ht => by
  rw [List.mem_singleton.mp ht]
  exact h1
theorem data_cons {x : Tr} {ts : List Tr} (h1 : dataT x = true) (h2 : dataTs ts = true) : dataTs (x :: ts) = true := by show (dataT x && dataTs ts) = true; rw [h1, h2]; rfl
theorem data_ints {ns : List Int} : dataTs (ns.map Tr.int) = true := dataTs_of fun t ht => by
  obtain ⟨n, _, rfl⟩ := List.mem_map.mp ht
  rfl
theorem data_sub {ts us : List Tr} (h : dataTs ts = true) (s : ∀ t ∈ us, t ∈ ts) : dataTs us = true := dataTs_of fun t ht => dataTs_mem h (s t ht)
noncomputable def isFlagT : Tr → Bool
  | .bl _ => true
  | _ => false
noncomputable def isRowT : Tr → Bool
  | .lst _ => true
  | .tup _ => true
  | _ => false
noncomputable def wp_flag (f : Tr → Bool) : Pw := fun ts Ω PQ _ => ∃ t, ts = [t] ∧ dataT t = true ∧ PQ (.bl (f t)) Ω
theorem len_S {t : Tr} {Ω : Om} {us : List Tr} (h : asS t Ω = some us) : lenT t Ω = some us.length := by
  obtain ⟨n, e, rfl⟩ := lenT_of h
  exact e
theorem asS_of_asL {t : Tr} {Ω : Om} {us : List Tr} (h : asL t Ω = some us) : asS t Ω = some us := by
  cases t <;> first | exact h | cases h
theorem ok_need (T : Tx K mg) : FnOk P w K mg base (L2.CX P w) 3 (He.ga K "need") T.fd_need P_need (spD K wp_need 2) := by
  refine dok T.F_need sc_need fun cdv A outer s H E hr => ?_
  refine' dokMk ((pss_one (ps_if (pt_not (pt_val (pv 0))) (pss_one (ps_raise rfl (takes_of rfl rfl rfl rfl) (pmk_oex T.x_BadValue T.i_BadValue T.t_BadValue (ok_BadValue T) hr (b_BadValue T) .nil pass0 rfl T.g_BadValue (pa_cons (pv 1) pa_nil)))) pss_nil))) ?sim ?go
  case sim =>
    try simp only [LL.cxK0, LL.cxK1, List.map_cons, List.map_nil]
    repeat' (first | with_reducible apply sim_gLst | with_reducible apply sim_tryR0 | with_reducible apply sim_tryR | with_reducible apply SimRow.cons | with_reducible exact SimRow.nil | with_reducible apply sim_mthS (dts := []) .nil | with_reducible apply sim_makeK (gT := fun ts us => ts ++ us) (fun _ _ _ _ _ _ _ h1 h2 => vdl_app h2 h1) | with_reducible apply sim_fld T.c_Ground T.n_Ground_pages | with_reducible apply sim_fld T.c_Ground T.n_Ground_width | with_reducible apply sim_fld T.c_Ground T.n_Ground_fill | with_reducible apply sim_fld T.c_Ground T.n_Ground__budget | with_reducible apply sim_fld T.c_Ground T.n_Ground__spent | with_reducible apply sim_fld T.c_Ground T.n_Ground__words | with_reducible apply sim_fld T.c_Ground T.n_Ground__holders | with_reducible apply sim_fld T.c_Ground T.n_Ground__deeds | with_reducible apply sim_setF T.c_Ground T.n_Ground_pages | with_reducible apply sim_setF T.c_Ground T.n_Ground_width | with_reducible apply sim_setF T.c_Ground T.n_Ground_fill | with_reducible apply sim_setF T.c_Ground T.n_Ground__budget | with_reducible apply sim_setF T.c_Ground T.n_Ground__spent | with_reducible apply sim_setF T.c_Ground T.n_Ground__words | with_reducible apply sim_setF T.c_Ground T.n_Ground__holders | with_reducible apply sim_setF T.c_Ground T.n_Ground__deeds | with_reducible apply sim_forI | with_reducible apply sim_pop | with_reducible apply sim_tru | with_reducible apply sim_prop | with_reducible apply sim_make (dts := []) .nil | with_reducible apply sim_make0 (dts := []) .nil | with_reducible apply sim_meth0 (dts := []) .nil | with_reducible apply sim_meth (dts := []) .nil | fail "s")
  case go =>
    intro ts Ω PQ PX hl h
    obtain ⟨b, n, rfl, q1, q2⟩ := h
    simp! only [N_need]
    cases b with
    | true => exact q1 rfl
    | false => exact q2 rfl
end
section
open PySem PySem.Spec PyProof.Rows L2 LL LT
variable {P : Program} {w : World} {K : PySem.W.Frag} {mg : Str → Option Value} {base : Heap}

theorem okE_Broken (T : Tx K mg) : FnOk P w K mg base CX0 1 (He.ma K (He.ga K "Broken") "__init__") T.fd_Broken P_Broken (sp_Exc K "Broken" ["place", "found", "due"]) := by
  refine T.F_Broken.ok sc_Broken (fun vs H Q E h => ?_) (fun cdv A outer s H vs Q E hr h => ⟨_, PSs.nox (pss_cons (ps_ost (pv 0) (pv 1)) (pss_cons (ps_ost (pv 0) (pv 2)) (pss_cons (ps_ost (pv 0) (pv 3)) (pss_one (ps_ost (pv 0) (pe_tup (pa_cons pe_str (pa_cons (pe_tup (pa_cons (pv 1) (pa_cons (pv 2) (pa_cons (pv 3) pa_nil)))) pa_nil)))))))), ?_⟩)
  · obtain ⟨_, us, rfl, hl, _⟩ := h
    show us.length + 1 = _
    rw [hl]
    rfl
  · obtain ⟨a, us, rfl, hl, ha, q⟩ := h
    obtain ⟨x0, x1, x2, rfl⟩ : ∃ x0 x1 x2, us = [x0, x1, x2] := match us, hl with
      | [x0, x1, x2], _ => ⟨x0, x1, x2, rfl⟩
    simp only [tSeq, tAsg, tRet, tRetN, tDrop, tNext, tVar, tC, gName, tOp, tUn, rI, rI0, rU, tIfS, tTest, tB, tIf, tAnd, tOr, tNot, tAndV, tOrV, tNotV, tCall, tCons, tNil, tCB, tLst, tTup, tChain, CMul, CDiv, CPow, rEq, rNe, gSub, L2.start, LL.cxK0, LL.cxK1, List.map_cons, List.map_nil, List.length_cons, List.length_nil, List.replicate_succ, List.replicate_zero, List.cons_append, List.nil_append, List.append_nil, List.getElem?_cons_zero, List.getElem?_cons_succ, List.set_cons_zero, List.set_cons_succ, Nat.add_sub_cancel, Nat.reduceAdd, Nat.reduceSub, Option.some.injEq, V.int.injEq, V.bl.injEq, V.ref.injEq, V.str.injEq, List.cons.injEq, and_true, true_and, and_false, false_and, exists_eq_left, exists_eq_left', exists_and_left, exists_and_right, exists_eq, exists_eq', LL.if_dec, reduceCtorEq, exists_false, exists_const, or_false, false_or, if_true, if_false, LL.rInt1, LL.rMx, LL.rMn, and_assoc, Int.reduceNeg, Int.reduceLT, Int.reduceLE, Int.reduceMul, Int.reduceAdd, Int.reduceSub, Int.reducePow, Int.reduceToNat, Nat.reducePow, Nat.reduceLT, true_or, or_true, Bool.not_true, Bool.not_false, Bool.false_eq_true, Bool.or_false, Bool.or_true, Bool.true_or, Bool.false_or, decide_true, decide_false, not_true_eq_false, not_false_eq_true, LL.scal_int, LL.scal_bl, LL.scal_str, LL.isInt, LL.isBl, LL.isStr, LL.isLst, LL.isTup, LL.isDic, P_Broken, tOst]
    refine ⟨_, T.v_Broken.oex, T.v_Broken.no "place" (by simp), .inl ⟨ha, fun dx hdx hne => ?_⟩⟩
    have e1 : upd (upd H dx (exd dx [("place", x0)])) a (exo a (He.ga K "Broken") (some dx)) a = some (exo a (He.ga K "Broken") (some dx)) := upd_same
    have e2 : upd (upd H dx (exd dx [("place", x0)])) a (exo a (He.ga K "Broken") (some dx)) dx = some (exd dx [("place", x0)]) := by rw [upd_ne hne, upd_same]
    have e3 : ∀ b o, b ≠ a → H b = some o → upd (upd H dx (exd dx [("place", x0)])) a (exo a (He.ga K "Broken") (some dx)) b = some o := fun b o hb e => by rw [upd_ne hb, upd_ne (ne_of_none e hdx)]; exact e
    have e4 : ∀ b, upd (upd H dx (exd dx [("place", x0)])) a (exo a (He.ga K "Broken") (some dx)) b = none → H b = none := fun b hb => by
      by_cases c : b = a
      · rw [c, upd_same] at hb; cases hb
      · rw [upd_ne c] at hb
        by_cases c2 : b = dx
        · rw [c2]; exact hdx
        · rw [upd_ne c2] at hb; exact hb
    generalize upd (upd H dx (exd dx [("place", x0)])) a (exo a (He.ga K "Broken") (some dx)) = H1 at e1 e2 e3 e4 ⊢
    refine ⟨_, T.v_Broken.oex, T.v_Broken.no "found" (by simp), .inr ⟨dx, e1, _, e2, by simp, ?_⟩⟩
    replace e1 : upd H1 dx (exd dx [("found", x1), ("place", x0)]) a = some (exo a (He.ga K "Broken") (some dx)) := by rw [upd_ne hne.symm]; exact e1
    replace e2 : upd H1 dx (exd dx [("found", x1), ("place", x0)]) dx = some (exd dx [("found", x1), ("place", x0)]) := upd_same
    replace e3 : ∀ b o, b ≠ a → H b = some o → upd H1 dx (exd dx [("found", x1), ("place", x0)]) b = some o := fun b o hb e => by rw [upd_ne (ne_of_none e hdx)]; exact e3 b o hb e
    replace e4 : ∀ b, upd H1 dx (exd dx [("found", x1), ("place", x0)]) b = none → H b = none := fun b hb => by
      by_cases c2 : b = dx
      · rw [c2]; exact hdx
      · rw [upd_ne c2] at hb; exact e4 b hb
    generalize upd H1 dx (exd dx [("found", x1), ("place", x0)]) = H2 at e1 e2 e3 e4 ⊢
    refine ⟨_, T.v_Broken.oex, T.v_Broken.no "due" (by simp), .inr ⟨dx, e1, _, e2, by simp, ?_⟩⟩
    replace e1 : upd H2 dx (exd dx [("due", x2), ("found", x1), ("place", x0)]) a = some (exo a (He.ga K "Broken") (some dx)) := by rw [upd_ne hne.symm]; exact e1
    replace e2 : upd H2 dx (exd dx [("due", x2), ("found", x1), ("place", x0)]) dx = some (exd dx [("due", x2), ("found", x1), ("place", x0)]) := upd_same
    replace e3 : ∀ b o, b ≠ a → H b = some o → upd H2 dx (exd dx [("due", x2), ("found", x1), ("place", x0)]) b = some o := fun b o hb e => by rw [upd_ne (ne_of_none e hdx)]; exact e3 b o hb e
    replace e4 : ∀ b, upd H2 dx (exd dx [("due", x2), ("found", x1), ("place", x0)]) b = none → H b = none := fun b hb => by
      by_cases c2 : b = dx
      · rw [c2]; exact hdx
      · rw [upd_ne c2] at hb; exact e4 b hb
    generalize upd H2 dx (exd dx [("due", x2), ("found", x1), ("place", x0)]) = H3 at e1 e2 e3 e4 ⊢
    refine ⟨by decide, ?_⟩
    intro p1 np1
    generalize hq : upd H3 p1 _ = H4
    have sH4 : Same H3 H4 := hq ▸ Same.new (Same.refl _) np1
    have ep1 := hq ▸ (upd_same (H := H3) (a := p1))
    clear hq
    replace e1 := sH4 _ _ e1
    replace e2 := sH4 _ _ e2
    refine ⟨by decide, ?_⟩
    intro p2 np2
    generalize hq : upd H4 p2 _ = H5
    have sH5 : Same H4 H5 := hq ▸ Same.new (Same.refl _) np2
    have ep2 := hq ▸ (upd_same (H := H4) (a := p2))
    clear hq
    replace e1 := sH5 _ _ e1
    replace e2 := sH5 _ _ e2
    replace ep1 := sH5 _ _ ep1
    refine ⟨_, T.v_Broken.oex, T.v_Broken.no "told" (by simp), .inr ⟨dx, e1, _, e2, by simp, ?_⟩⟩
    have f1 := e4 _ np1
    have f2 := e4 _ (sH4.free np2)
    have y1 : p1 ≠ dx := fun z => by rw [z, e2] at ep1; exact (show ¬ exd dx [("due", x2), ("found", x1), ("place", x0)] = .tup [x0, x1, x2] from exd_tup) (Option.some.inj ep1)
    have y2 : p2 ≠ dx := fun z => by rw [z, e2] at ep2; exact (show ¬ exd dx [("due", x2), ("found", x1), ("place", x0)] = .tup [.str "Broken", .ref p1] from exd_tup) (Option.some.inj ep2)
    refine q dx p1 p2 _ hdx hne (by rw [upd_ne hne.symm]; exact e1) upd_same (by rw [upd_ne y1]; exact ep1) (by rw [upd_ne y2]; exact ep2) f1 f2 (fun b o hb e => ?_)
    rw [upd_ne (ne_of_none e hdx)]
    exact sH5 _ _ (sH4 _ _ (e3 _ _ hb e))

theorem okE_Unknown (T : Tx K mg) : FnOk P w K mg base CX0 1 (He.ma K (He.ga K "Unknown") "__init__") T.fd_Unknown P_Unknown (sp_Exc K "Unknown" ["parameter"]) := by
  refine T.F_Unknown.ok sc_Unknown (fun vs H Q E h => ?_) (fun cdv A outer s H vs Q E hr h => ⟨_, PSs.nox (pss_cons (ps_ost (pv 0) (pv 1)) (pss_one (ps_ost (pv 0) (pe_tup (pa_cons pe_str (pa_cons (pe_tup (pa_cons (pv 1) pa_nil)) pa_nil)))))), ?_⟩)
  · obtain ⟨_, us, rfl, hl, _⟩ := h
    show us.length + 1 = _
    rw [hl]
    rfl
  · obtain ⟨a, us, rfl, hl, ha, q⟩ := h
    obtain ⟨x0, rfl⟩ : ∃ x0, us = [x0] := match us, hl with
      | [x0], _ => ⟨x0, rfl⟩
    simp only [tSeq, tAsg, tRet, tRetN, tDrop, tNext, tVar, tC, gName, tOp, tUn, rI, rI0, rU, tIfS, tTest, tB, tIf, tAnd, tOr, tNot, tAndV, tOrV, tNotV, tCall, tCons, tNil, tCB, tLst, tTup, tChain, CMul, CDiv, CPow, rEq, rNe, gSub, L2.start, LL.cxK0, LL.cxK1, List.map_cons, List.map_nil, List.length_cons, List.length_nil, List.replicate_succ, List.replicate_zero, List.cons_append, List.nil_append, List.append_nil, List.getElem?_cons_zero, List.getElem?_cons_succ, List.set_cons_zero, List.set_cons_succ, Nat.add_sub_cancel, Nat.reduceAdd, Nat.reduceSub, Option.some.injEq, V.int.injEq, V.bl.injEq, V.ref.injEq, V.str.injEq, List.cons.injEq, and_true, true_and, and_false, false_and, exists_eq_left, exists_eq_left', exists_and_left, exists_and_right, exists_eq, exists_eq', LL.if_dec, reduceCtorEq, exists_false, exists_const, or_false, false_or, if_true, if_false, LL.rInt1, LL.rMx, LL.rMn, and_assoc, Int.reduceNeg, Int.reduceLT, Int.reduceLE, Int.reduceMul, Int.reduceAdd, Int.reduceSub, Int.reducePow, Int.reduceToNat, Nat.reducePow, Nat.reduceLT, true_or, or_true, Bool.not_true, Bool.not_false, Bool.false_eq_true, Bool.or_false, Bool.or_true, Bool.true_or, Bool.false_or, decide_true, decide_false, not_true_eq_false, not_false_eq_true, LL.scal_int, LL.scal_bl, LL.scal_str, LL.isInt, LL.isBl, LL.isStr, LL.isLst, LL.isTup, LL.isDic, P_Unknown, tOst]
    refine ⟨_, T.v_Unknown.oex, T.v_Unknown.no "parameter" (by simp), .inl ⟨ha, fun dx hdx hne => ?_⟩⟩
    have e1 : upd (upd H dx (exd dx [("parameter", x0)])) a (exo a (He.ga K "Unknown") (some dx)) a = some (exo a (He.ga K "Unknown") (some dx)) := upd_same
    have e2 : upd (upd H dx (exd dx [("parameter", x0)])) a (exo a (He.ga K "Unknown") (some dx)) dx = some (exd dx [("parameter", x0)]) := by rw [upd_ne hne, upd_same]
    have e3 : ∀ b o, b ≠ a → H b = some o → upd (upd H dx (exd dx [("parameter", x0)])) a (exo a (He.ga K "Unknown") (some dx)) b = some o := fun b o hb e => by rw [upd_ne hb, upd_ne (ne_of_none e hdx)]; exact e
    have e4 : ∀ b, upd (upd H dx (exd dx [("parameter", x0)])) a (exo a (He.ga K "Unknown") (some dx)) b = none → H b = none := fun b hb => by
      by_cases c : b = a
      · rw [c, upd_same] at hb; cases hb
      · rw [upd_ne c] at hb
        by_cases c2 : b = dx
        · rw [c2]; exact hdx
        · rw [upd_ne c2] at hb; exact hb
    generalize upd (upd H dx (exd dx [("parameter", x0)])) a (exo a (He.ga K "Unknown") (some dx)) = H1 at e1 e2 e3 e4 ⊢
    refine ⟨by decide, ?_⟩
    intro p1 np1
    generalize hq : upd H1 p1 _ = H2
    have sH2 : Same H1 H2 := hq ▸ Same.new (Same.refl _) np1
    have ep1 := hq ▸ (upd_same (H := H1) (a := p1))
    clear hq
    replace e1 := sH2 _ _ e1
    replace e2 := sH2 _ _ e2
    refine ⟨by decide, ?_⟩
    intro p2 np2
    generalize hq : upd H2 p2 _ = H3
    have sH3 : Same H2 H3 := hq ▸ Same.new (Same.refl _) np2
    have ep2 := hq ▸ (upd_same (H := H2) (a := p2))
    clear hq
    replace e1 := sH3 _ _ e1
    replace e2 := sH3 _ _ e2
    replace ep1 := sH3 _ _ ep1
    refine ⟨_, T.v_Unknown.oex, T.v_Unknown.no "told" (by simp), .inr ⟨dx, e1, _, e2, by simp, ?_⟩⟩
    have f1 := e4 _ np1
    have f2 := e4 _ (sH2.free np2)
    have y1 : p1 ≠ dx := fun z => by rw [z, e2] at ep1; exact (show ¬ exd dx [("parameter", x0)] = .tup [x0] from exd_tup) (Option.some.inj ep1)
    have y2 : p2 ≠ dx := fun z => by rw [z, e2] at ep2; exact (show ¬ exd dx [("parameter", x0)] = .tup [.str "Unknown", .ref p1] from exd_tup) (Option.some.inj ep2)
    refine q dx p1 p2 _ hdx hne (by rw [upd_ne hne.symm]; exact e1) upd_same (by rw [upd_ne y1]; exact ep1) (by rw [upd_ne y2]; exact ep2) f1 f2 (fun b o hb e => ?_)
    rw [upd_ne (ne_of_none e hdx)]
    exact sH3 _ _ (sH2 _ _ (e3 _ _ hb e))

theorem okE_NotHeld (T : Tx K mg) : FnOk P w K mg base CX0 1 (He.ma K (He.ga K "NotHeld") "__init__") T.fd_NotHeld P_NotHeld (sp_Exc K "NotHeld" ["place", "found"]) := by
  refine T.F_NotHeld.ok sc_NotHeld (fun vs H Q E h => ?_) (fun cdv A outer s H vs Q E hr h => ⟨_, PSs.nox (pss_cons (ps_ost (pv 0) (pv 1)) (pss_cons (ps_ost (pv 0) (pv 2)) (pss_one (ps_ost (pv 0) (pe_tup (pa_cons pe_str (pa_cons (pe_tup (pa_cons (pv 1) (pa_cons (pv 2) pa_nil))) pa_nil))))))), ?_⟩)
  · obtain ⟨_, us, rfl, hl, _⟩ := h
    show us.length + 1 = _
    rw [hl]
    rfl
  · obtain ⟨a, us, rfl, hl, ha, q⟩ := h
    obtain ⟨x0, x1, rfl⟩ : ∃ x0 x1, us = [x0, x1] := match us, hl with
      | [x0, x1], _ => ⟨x0, x1, rfl⟩
    simp only [tSeq, tAsg, tRet, tRetN, tDrop, tNext, tVar, tC, gName, tOp, tUn, rI, rI0, rU, tIfS, tTest, tB, tIf, tAnd, tOr, tNot, tAndV, tOrV, tNotV, tCall, tCons, tNil, tCB, tLst, tTup, tChain, CMul, CDiv, CPow, rEq, rNe, gSub, L2.start, LL.cxK0, LL.cxK1, List.map_cons, List.map_nil, List.length_cons, List.length_nil, List.replicate_succ, List.replicate_zero, List.cons_append, List.nil_append, List.append_nil, List.getElem?_cons_zero, List.getElem?_cons_succ, List.set_cons_zero, List.set_cons_succ, Nat.add_sub_cancel, Nat.reduceAdd, Nat.reduceSub, Option.some.injEq, V.int.injEq, V.bl.injEq, V.ref.injEq, V.str.injEq, List.cons.injEq, and_true, true_and, and_false, false_and, exists_eq_left, exists_eq_left', exists_and_left, exists_and_right, exists_eq, exists_eq', LL.if_dec, reduceCtorEq, exists_false, exists_const, or_false, false_or, if_true, if_false, LL.rInt1, LL.rMx, LL.rMn, and_assoc, Int.reduceNeg, Int.reduceLT, Int.reduceLE, Int.reduceMul, Int.reduceAdd, Int.reduceSub, Int.reducePow, Int.reduceToNat, Nat.reducePow, Nat.reduceLT, true_or, or_true, Bool.not_true, Bool.not_false, Bool.false_eq_true, Bool.or_false, Bool.or_true, Bool.true_or, Bool.false_or, decide_true, decide_false, not_true_eq_false, not_false_eq_true, LL.scal_int, LL.scal_bl, LL.scal_str, LL.isInt, LL.isBl, LL.isStr, LL.isLst, LL.isTup, LL.isDic, P_NotHeld, tOst]
    refine ⟨_, T.v_NotHeld.oex, T.v_NotHeld.no "place" (by simp), .inl ⟨ha, fun dx hdx hne => ?_⟩⟩
    have e1 : upd (upd H dx (exd dx [("place", x0)])) a (exo a (He.ga K "NotHeld") (some dx)) a = some (exo a (He.ga K "NotHeld") (some dx)) := upd_same
    have e2 : upd (upd H dx (exd dx [("place", x0)])) a (exo a (He.ga K "NotHeld") (some dx)) dx = some (exd dx [("place", x0)]) := by rw [upd_ne hne, upd_same]
    have e3 : ∀ b o, b ≠ a → H b = some o → upd (upd H dx (exd dx [("place", x0)])) a (exo a (He.ga K "NotHeld") (some dx)) b = some o := fun b o hb e => by rw [upd_ne hb, upd_ne (ne_of_none e hdx)]; exact e
    have e4 : ∀ b, upd (upd H dx (exd dx [("place", x0)])) a (exo a (He.ga K "NotHeld") (some dx)) b = none → H b = none := fun b hb => by
      by_cases c : b = a
      · rw [c, upd_same] at hb; cases hb
      · rw [upd_ne c] at hb
        by_cases c2 : b = dx
        · rw [c2]; exact hdx
        · rw [upd_ne c2] at hb; exact hb
    generalize upd (upd H dx (exd dx [("place", x0)])) a (exo a (He.ga K "NotHeld") (some dx)) = H1 at e1 e2 e3 e4 ⊢
    refine ⟨_, T.v_NotHeld.oex, T.v_NotHeld.no "found" (by simp), .inr ⟨dx, e1, _, e2, by simp, ?_⟩⟩
    replace e1 : upd H1 dx (exd dx [("found", x1), ("place", x0)]) a = some (exo a (He.ga K "NotHeld") (some dx)) := by rw [upd_ne hne.symm]; exact e1
    replace e2 : upd H1 dx (exd dx [("found", x1), ("place", x0)]) dx = some (exd dx [("found", x1), ("place", x0)]) := upd_same
    replace e3 : ∀ b o, b ≠ a → H b = some o → upd H1 dx (exd dx [("found", x1), ("place", x0)]) b = some o := fun b o hb e => by rw [upd_ne (ne_of_none e hdx)]; exact e3 b o hb e
    replace e4 : ∀ b, upd H1 dx (exd dx [("found", x1), ("place", x0)]) b = none → H b = none := fun b hb => by
      by_cases c2 : b = dx
      · rw [c2]; exact hdx
      · rw [upd_ne c2] at hb; exact e4 b hb
    generalize upd H1 dx (exd dx [("found", x1), ("place", x0)]) = H2 at e1 e2 e3 e4 ⊢
    refine ⟨by decide, ?_⟩
    intro p1 np1
    generalize hq : upd H2 p1 _ = H3
    have sH3 : Same H2 H3 := hq ▸ Same.new (Same.refl _) np1
    have ep1 := hq ▸ (upd_same (H := H2) (a := p1))
    clear hq
    replace e1 := sH3 _ _ e1
    replace e2 := sH3 _ _ e2
    refine ⟨by decide, ?_⟩
    intro p2 np2
    generalize hq : upd H3 p2 _ = H4
    have sH4 : Same H3 H4 := hq ▸ Same.new (Same.refl _) np2
    have ep2 := hq ▸ (upd_same (H := H3) (a := p2))
    clear hq
    replace e1 := sH4 _ _ e1
    replace e2 := sH4 _ _ e2
    replace ep1 := sH4 _ _ ep1
    refine ⟨_, T.v_NotHeld.oex, T.v_NotHeld.no "told" (by simp), .inr ⟨dx, e1, _, e2, by simp, ?_⟩⟩
    have f1 := e4 _ np1
    have f2 := e4 _ (sH3.free np2)
    have y1 : p1 ≠ dx := fun z => by rw [z, e2] at ep1; exact (show ¬ exd dx [("found", x1), ("place", x0)] = .tup [x0, x1] from exd_tup) (Option.some.inj ep1)
    have y2 : p2 ≠ dx := fun z => by rw [z, e2] at ep2; exact (show ¬ exd dx [("found", x1), ("place", x0)] = .tup [.str "NotHeld", .ref p1] from exd_tup) (Option.some.inj ep2)
    refine q dx p1 p2 _ hdx hne (by rw [upd_ne hne.symm]; exact e1) upd_same (by rw [upd_ne y1]; exact ep1) (by rw [upd_ne y2]; exact ep2) f1 f2 (fun b o hb e => ?_)
    rw [upd_ne (ne_of_none e hdx)]
    exact sH4 _ _ (sH3 _ _ (e3 _ _ hb e))

theorem okE_Cut (T : Tx K mg) : FnOk P w K mg base CX0 1 (He.ma K (He.ga K "Cut") "__init__") T.fd_Cut P_Cut (sp_Exc K "Cut" ["needed", "left"]) := by
  refine T.F_Cut.ok sc_Cut (fun vs H Q E h => ?_) (fun cdv A outer s H vs Q E hr h => ⟨_, PSs.nox (pss_cons (ps_ost (pv 0) (pv 1)) (pss_cons (ps_ost (pv 0) (pv 2)) (pss_one (ps_ost (pv 0) (pe_tup (pa_cons pe_str (pa_cons (pe_tup (pa_cons (pv 1) (pa_cons (pv 2) pa_nil))) pa_nil))))))), ?_⟩)
  · obtain ⟨_, us, rfl, hl, _⟩ := h
    show us.length + 1 = _
    rw [hl]
    rfl
  · obtain ⟨a, us, rfl, hl, ha, q⟩ := h
    obtain ⟨x0, x1, rfl⟩ : ∃ x0 x1, us = [x0, x1] := match us, hl with
      | [x0, x1], _ => ⟨x0, x1, rfl⟩
    simp only [tSeq, tAsg, tRet, tRetN, tDrop, tNext, tVar, tC, gName, tOp, tUn, rI, rI0, rU, tIfS, tTest, tB, tIf, tAnd, tOr, tNot, tAndV, tOrV, tNotV, tCall, tCons, tNil, tCB, tLst, tTup, tChain, CMul, CDiv, CPow, rEq, rNe, gSub, L2.start, LL.cxK0, LL.cxK1, List.map_cons, List.map_nil, List.length_cons, List.length_nil, List.replicate_succ, List.replicate_zero, List.cons_append, List.nil_append, List.append_nil, List.getElem?_cons_zero, List.getElem?_cons_succ, List.set_cons_zero, List.set_cons_succ, Nat.add_sub_cancel, Nat.reduceAdd, Nat.reduceSub, Option.some.injEq, V.int.injEq, V.bl.injEq, V.ref.injEq, V.str.injEq, List.cons.injEq, and_true, true_and, and_false, false_and, exists_eq_left, exists_eq_left', exists_and_left, exists_and_right, exists_eq, exists_eq', LL.if_dec, reduceCtorEq, exists_false, exists_const, or_false, false_or, if_true, if_false, LL.rInt1, LL.rMx, LL.rMn, and_assoc, Int.reduceNeg, Int.reduceLT, Int.reduceLE, Int.reduceMul, Int.reduceAdd, Int.reduceSub, Int.reducePow, Int.reduceToNat, Nat.reducePow, Nat.reduceLT, true_or, or_true, Bool.not_true, Bool.not_false, Bool.false_eq_true, Bool.or_false, Bool.or_true, Bool.true_or, Bool.false_or, decide_true, decide_false, not_true_eq_false, not_false_eq_true, LL.scal_int, LL.scal_bl, LL.scal_str, LL.isInt, LL.isBl, LL.isStr, LL.isLst, LL.isTup, LL.isDic, P_Cut, tOst]
    refine ⟨_, T.v_Cut.oex, T.v_Cut.no "needed" (by simp), .inl ⟨ha, fun dx hdx hne => ?_⟩⟩
    have e1 : upd (upd H dx (exd dx [("needed", x0)])) a (exo a (He.ga K "Cut") (some dx)) a = some (exo a (He.ga K "Cut") (some dx)) := upd_same
    have e2 : upd (upd H dx (exd dx [("needed", x0)])) a (exo a (He.ga K "Cut") (some dx)) dx = some (exd dx [("needed", x0)]) := by rw [upd_ne hne, upd_same]
    have e3 : ∀ b o, b ≠ a → H b = some o → upd (upd H dx (exd dx [("needed", x0)])) a (exo a (He.ga K "Cut") (some dx)) b = some o := fun b o hb e => by rw [upd_ne hb, upd_ne (ne_of_none e hdx)]; exact e
    have e4 : ∀ b, upd (upd H dx (exd dx [("needed", x0)])) a (exo a (He.ga K "Cut") (some dx)) b = none → H b = none := fun b hb => by
      by_cases c : b = a
      · rw [c, upd_same] at hb; cases hb
      · rw [upd_ne c] at hb
        by_cases c2 : b = dx
        · rw [c2]; exact hdx
        · rw [upd_ne c2] at hb; exact hb
    generalize upd (upd H dx (exd dx [("needed", x0)])) a (exo a (He.ga K "Cut") (some dx)) = H1 at e1 e2 e3 e4 ⊢
    refine ⟨_, T.v_Cut.oex, T.v_Cut.no "left" (by simp), .inr ⟨dx, e1, _, e2, by simp, ?_⟩⟩
    replace e1 : upd H1 dx (exd dx [("left", x1), ("needed", x0)]) a = some (exo a (He.ga K "Cut") (some dx)) := by rw [upd_ne hne.symm]; exact e1
    replace e2 : upd H1 dx (exd dx [("left", x1), ("needed", x0)]) dx = some (exd dx [("left", x1), ("needed", x0)]) := upd_same
    replace e3 : ∀ b o, b ≠ a → H b = some o → upd H1 dx (exd dx [("left", x1), ("needed", x0)]) b = some o := fun b o hb e => by rw [upd_ne (ne_of_none e hdx)]; exact e3 b o hb e
    replace e4 : ∀ b, upd H1 dx (exd dx [("left", x1), ("needed", x0)]) b = none → H b = none := fun b hb => by
      by_cases c2 : b = dx
      · rw [c2]; exact hdx
      · rw [upd_ne c2] at hb; exact e4 b hb
    generalize upd H1 dx (exd dx [("left", x1), ("needed", x0)]) = H2 at e1 e2 e3 e4 ⊢
    refine ⟨by decide, ?_⟩
    intro p1 np1
    generalize hq : upd H2 p1 _ = H3
    have sH3 : Same H2 H3 := hq ▸ Same.new (Same.refl _) np1
    have ep1 := hq ▸ (upd_same (H := H2) (a := p1))
    clear hq
    replace e1 := sH3 _ _ e1
    replace e2 := sH3 _ _ e2
    refine ⟨by decide, ?_⟩
    intro p2 np2
    generalize hq : upd H3 p2 _ = H4
    have sH4 : Same H3 H4 := hq ▸ Same.new (Same.refl _) np2
    have ep2 := hq ▸ (upd_same (H := H3) (a := p2))
    clear hq
    replace e1 := sH4 _ _ e1
    replace e2 := sH4 _ _ e2
    replace ep1 := sH4 _ _ ep1
    refine ⟨_, T.v_Cut.oex, T.v_Cut.no "told" (by simp), .inr ⟨dx, e1, _, e2, by simp, ?_⟩⟩
    have f1 := e4 _ np1
    have f2 := e4 _ (sH3.free np2)
    have y1 : p1 ≠ dx := fun z => by rw [z, e2] at ep1; exact (show ¬ exd dx [("left", x1), ("needed", x0)] = .tup [x0, x1] from exd_tup) (Option.some.inj ep1)
    have y2 : p2 ≠ dx := fun z => by rw [z, e2] at ep2; exact (show ¬ exd dx [("left", x1), ("needed", x0)] = .tup [.str "Cut", .ref p1] from exd_tup) (Option.some.inj ep2)
    refine q dx p1 p2 _ hdx hne (by rw [upd_ne hne.symm]; exact e1) upd_same (by rw [upd_ne y1]; exact ep1) (by rw [upd_ne y2]; exact ep2) f1 f2 (fun b o hb e => ?_)
    rw [upd_ne (ne_of_none e hdx)]
    exact sH4 _ _ (sH3 _ _ (e3 _ _ hb e))

end
section
open PySem PySem.Spec PyProof.Rows L2 LL LT
variable {P : Program} {w : World} {K : PySem.W.Frag} {mg : Str → Option Value} {base : Heap}

/-! ### images and change rows -/
noncomputable def holdB (i : Int) : Bool := (decide (0 ≤ i) && decide (i ≤ 8)) || (decide (11 ≤ i) && decide (i ≤ 18)) || (decide (21 ≤ i) && decide (i ≤ 28))
noncomputable def holdT : Tr → Bool
  | .int i => holdB i
  | _ => false
noncomputable def wordB (i : Int) : Bool := decide (0 ≤ i) && decide (i ≤ 65535)
noncomputable def wordT : Tr → Bool
  | .int i => wordB i
  | _ => false
noncomputable def widthB (i : Int) : Bool := decide (i = 16) || decide (i = 32) || decide (i = 64)
noncomputable def widthT : Tr → Bool
  | .int i => widthB i
  | _ => false
noncomputable def fitsB (n w : Int) : Bool := decide (n % w = 0) && (decide (1 ≤ n / w) && decide (n / w ≤ 256))
/-- few different ones -/
noncomputable def Few (us : List Tr) : Prop := ∀ ns : List Int, us = ns.map Tr.int → ∃ ds : List Int, ds.length ≤ 4000 ∧ ∀ k ∈ ns, k ∈ ds
noncomputable def itemsOf : Tr → List Tr
  | .tup us => us
  | .lst us => us
  | _ => []
noncomputable def intOf : Tr → Int
  | .int i => i
  | _ => 0
noncomputable def imgB : Tr → Bool
  | .tup [a, b, c, d] => widthT a && (wordT b && (isTupT c && (isTupT d && (decide ((itemsOf c).length = (itemsOf d).length) && (fitsB (itemsOf c).length (intOf a) && ((itemsOf c).all wordT && (itemsOf d).all holdT))))))
  | _ => false
/-- what an image may be of -/
noncomputable def FewI (t : Tr) : Prop := ∀ w f ws hs, t = .tup [w, f, .tup ws, .tup hs] → Few ws ∧ Few hs
structure Ch where
  p : Int
  w : Int
  h : Int
  w' : Int
  h' : Int
deriving DecidableEq
noncomputable def cT (c : Ch) : Tr := .tup [.int c.p, .int c.w, .int c.h, .int c.w', .int c.h']
noncomputable def chB : Tr → Bool
  | .tup [a, b, c, d, f] => isInt a && ((decide (0 ≤ intOf a) && decide (intOf a < 16384)) && (wordT b && (holdT c && (wordT d && (holdT f && (!decide (toV b = toV d) || !decide (toV c = toV f)))))))
  | _ => false
noncomputable def placeT : Tr → Int
  | .tup (.int p :: _) => p
  | _ => 0
noncomputable def chsB : Int → List Tr → Bool
  | _, [] => true
  | l, r :: rs => chB r && (decide (l < placeT r) && chsB (placeT r) rs)
noncomputable def chsT : Tr → Bool
  | .lst us => chsB (-1) us
  | _ => false
theorem ok_is_holder (T : Tx K mg) : FnOk P w K mg base CX0 2 (He.ga K "is_holder") T.fd_is_holder P_is_holder (spD K (wp_flag holdT) 1) := by
  refine dok T.F_is_holder sc_is_holder fun cdv A outer s H E hr => ?_
  refine' dokMk (PSs.nox (pss_cons (ps_if (pt_not (pt_val (pe_call (ok_is_whole T) hr rfl T.g_is_whole T.F_is_whole.kp (b_is_whole T) .nil pass0 (pa_cons (pv 0) pa_nil)))) (pss_one (ps_ret (pe_bl))) pss_nil) (pss_one (ps_ret ((pe_or (pe_chain op_le op_le (pe_int) (pv 0) (pe_int)) (pe_or (pe_chain op_le op_le (pe_int) (pv 0) (pe_int)) (pe_one (pe_chain op_le op_le (pe_glob (v := .int 21) rfl T.c_MAP.choose_spec ⟨_, rfl⟩) (pv 0) (pe_glob (v := .int 28) rfl T.c_NODE.choose_spec ⟨_, rfl⟩)))))))))) ?sim ?go
  case sim =>
    try simp only [LL.cxK0, LL.cxK1, List.map_cons, List.map_nil]
    repeat' (first | with_reducible apply sim_gLst | with_reducible apply sim_tryR0 | with_reducible apply sim_tryR | with_reducible apply SimRow.cons | with_reducible exact SimRow.nil | with_reducible apply sim_mthS (dts := []) .nil | with_reducible apply sim_makeK (gT := fun ts us => ts ++ us) (fun _ _ _ _ _ _ _ h1 h2 => vdl_app h2 h1) | with_reducible apply sim_fld T.c_Ground T.n_Ground_pages | with_reducible apply sim_fld T.c_Ground T.n_Ground_width | with_reducible apply sim_fld T.c_Ground T.n_Ground_fill | with_reducible apply sim_fld T.c_Ground T.n_Ground__budget | with_reducible apply sim_fld T.c_Ground T.n_Ground__spent | with_reducible apply sim_fld T.c_Ground T.n_Ground__words | with_reducible apply sim_fld T.c_Ground T.n_Ground__holders | with_reducible apply sim_fld T.c_Ground T.n_Ground__deeds | with_reducible apply sim_setF T.c_Ground T.n_Ground_pages | with_reducible apply sim_setF T.c_Ground T.n_Ground_width | with_reducible apply sim_setF T.c_Ground T.n_Ground_fill | with_reducible apply sim_setF T.c_Ground T.n_Ground__budget | with_reducible apply sim_setF T.c_Ground T.n_Ground__spent | with_reducible apply sim_setF T.c_Ground T.n_Ground__words | with_reducible apply sim_setF T.c_Ground T.n_Ground__holders | with_reducible apply sim_setF T.c_Ground T.n_Ground__deeds | with_reducible apply sim_forI | with_reducible apply sim_pop | with_reducible apply sim_tru | with_reducible apply sim_prop | with_reducible apply sim_make (dts := []) .nil | with_reducible apply sim_make0 (dts := []) .nil | with_reducible apply sim_meth0 (dts := []) .nil | with_reducible apply sim_meth (dts := []) .nil | fail "s")
  case go =>
    intro ts Ω PQ PX hl h
    obtain ⟨t, rfl, hk, q⟩ := h
    simp! only [N_is_holder]
    refine ⟨t, rfl, data_kind hk, ?_⟩
    cases t with
    | int i =>
      simp! only [isInt]
      unfold holdT holdB at q
      by_cases h1 : 0 ≤ i <;> by_cases h2 : i ≤ 8 <;> by_cases h3 : 11 ≤ i <;> by_cases h4 : i ≤ 18 <;> by_cases h5 : 21 ≤ i <;> by_cases h6 : i ≤ 28 <;> simpa [h1, h2, h3, h4, h5, h6] using q
    | _ => first | (cases (show false = true from hk); done) | (simp! only [isInt]; exact q)
theorem ok_is_word (T : Tx K mg) : FnOk P w K mg base CX0 2 (He.ga K "is_word") T.fd_is_word P_is_word (spD K (wp_flag wordT) 1) := by
  refine dok T.F_is_word sc_is_word fun cdv A outer s H E hr => ?_
  refine' dokMk (PSs.nox (pss_one (ps_ret ((pe_and (pe_call (ok_is_whole T) hr rfl T.g_is_whole T.F_is_whole.kp (b_is_whole T) .nil pass0 (pa_cons (pv 0) pa_nil)) (pe_one (pe_chain op_le op_le (pe_int) (pv 0) (pe_glob (v := .int 65535) rfl T.c_MOST_WORD.choose_spec ⟨_, rfl⟩)))))))) ?sim ?go
  case sim =>
    try simp only [LL.cxK0, LL.cxK1, List.map_cons, List.map_nil]
    repeat' (first | with_reducible apply sim_gLst | with_reducible apply sim_tryR0 | with_reducible apply sim_tryR | with_reducible apply SimRow.cons | with_reducible exact SimRow.nil | with_reducible apply sim_mthS (dts := []) .nil | with_reducible apply sim_makeK (gT := fun ts us => ts ++ us) (fun _ _ _ _ _ _ _ h1 h2 => vdl_app h2 h1) | with_reducible apply sim_fld T.c_Ground T.n_Ground_pages | with_reducible apply sim_fld T.c_Ground T.n_Ground_width | with_reducible apply sim_fld T.c_Ground T.n_Ground_fill | with_reducible apply sim_fld T.c_Ground T.n_Ground__budget | with_reducible apply sim_fld T.c_Ground T.n_Ground__spent | with_reducible apply sim_fld T.c_Ground T.n_Ground__words | with_reducible apply sim_fld T.c_Ground T.n_Ground__holders | with_reducible apply sim_fld T.c_Ground T.n_Ground__deeds | with_reducible apply sim_setF T.c_Ground T.n_Ground_pages | with_reducible apply sim_setF T.c_Ground T.n_Ground_width | with_reducible apply sim_setF T.c_Ground T.n_Ground_fill | with_reducible apply sim_setF T.c_Ground T.n_Ground__budget | with_reducible apply sim_setF T.c_Ground T.n_Ground__spent | with_reducible apply sim_setF T.c_Ground T.n_Ground__words | with_reducible apply sim_setF T.c_Ground T.n_Ground__holders | with_reducible apply sim_setF T.c_Ground T.n_Ground__deeds | with_reducible apply sim_forI | with_reducible apply sim_pop | with_reducible apply sim_tru | with_reducible apply sim_prop | with_reducible apply sim_make (dts := []) .nil | with_reducible apply sim_make0 (dts := []) .nil | with_reducible apply sim_meth0 (dts := []) .nil | with_reducible apply sim_meth (dts := []) .nil | fail "s")
  case go =>
    intro ts Ω PQ PX hl h
    obtain ⟨t, rfl, hk, q⟩ := h
    simp! only [N_is_word]
    refine ⟨t, rfl, data_kind hk, ?_⟩
    cases t with
    | int i =>
      simp! only [isInt]
      unfold wordT wordB at q
      by_cases h1 : 0 ≤ i <;> by_cases h2 : i ≤ 65535 <;> simpa [h1, h2] using q
    | _ => first | (cases (show false = true from hk); done) | (simp! only [isInt]; exact q)
theorem ok_is_width (T : Tx K mg) : FnOk P w K mg base CX0 2 (He.ga K "is_width") T.fd_is_width P_is_width (spD K (wp_flag widthT) 1) := by
  refine dok T.F_is_width sc_is_width fun cdv A outer s H E hr => ?_
  refine' dokMk (PSs.nox (pss_one (ps_ret ((pe_and (pe_call (ok_is_whole T) hr rfl T.g_is_whole T.F_is_whole.kp (b_is_whole T) .nil pass0 (pa_cons (pv 0) pa_nil)) (pe_one (pe_cmpR (show OpR _ _ (rIn K false) from op_in_seq) (pv 0) (pe_glob (v := .ref (He.ga K "WIDTHS")) (u := .ref (He.ga K "WIDTHS")) rfl T.g_WIDTHS rfl) (by rfl)))))))) ?sim ?go
  case sim =>
    try simp only [LL.cxK0, LL.cxK1, List.map_cons, List.map_nil]
    repeat' (first | with_reducible apply sim_gLst | with_reducible apply sim_tryR0 | with_reducible apply sim_tryR | with_reducible apply SimRow.cons | with_reducible exact SimRow.nil | with_reducible apply sim_mthS (dts := []) .nil | with_reducible apply sim_makeK (gT := fun ts us => ts ++ us) (fun _ _ _ _ _ _ _ h1 h2 => vdl_app h2 h1) | with_reducible apply sim_fld T.c_Ground T.n_Ground_pages | with_reducible apply sim_fld T.c_Ground T.n_Ground_width | with_reducible apply sim_fld T.c_Ground T.n_Ground_fill | with_reducible apply sim_fld T.c_Ground T.n_Ground__budget | with_reducible apply sim_fld T.c_Ground T.n_Ground__spent | with_reducible apply sim_fld T.c_Ground T.n_Ground__words | with_reducible apply sim_fld T.c_Ground T.n_Ground__holders | with_reducible apply sim_fld T.c_Ground T.n_Ground__deeds | with_reducible apply sim_setF T.c_Ground T.n_Ground_pages | with_reducible apply sim_setF T.c_Ground T.n_Ground_width | with_reducible apply sim_setF T.c_Ground T.n_Ground_fill | with_reducible apply sim_setF T.c_Ground T.n_Ground__budget | with_reducible apply sim_setF T.c_Ground T.n_Ground__spent | with_reducible apply sim_setF T.c_Ground T.n_Ground__words | with_reducible apply sim_setF T.c_Ground T.n_Ground__holders | with_reducible apply sim_setF T.c_Ground T.n_Ground__deeds | with_reducible apply sim_forI | with_reducible apply sim_pop | with_reducible apply sim_tru | with_reducible apply sim_prop | with_reducible apply sim_make (dts := []) .nil | with_reducible apply sim_make0 (dts := []) .nil | with_reducible apply sim_meth0 (dts := []) .nil | with_reducible apply sim_meth (dts := []) .nil | with_reducible exact sim_const T.w_WIDTHS (us := [Tr.int 16, Tr.int 32, Tr.int 64]) (by with_unfolding_all rfl) (by with_unfolding_all rfl) (by with_unfolding_all decide) | fail "s")
  case go =>
    intro ts Ω PQ PX hl h
    obtain ⟨t, rfl, hk, q⟩ := h
    simp! only [N_is_width]
    refine ⟨t, rfl, data_kind hk, ?_⟩
    cases t with
    | int i =>
      simp! only [isInt]
      refine ⟨rfl, ?_⟩
      have e : inT (.int i) [.int 16, .int 32, .int 64] = widthT (.int i) := by
        simp only [inT, List.any_cons, List.any_nil, toV, eqV, widthT, widthB]
        have e : ∀ j : Int, (j == i) = decide (i = j) := fun j => by by_cases h : j = i <;> simp [h, Ne.symm]
        rw [e, e, e, Bool.or_false, Bool.or_assoc]
      rw [e]
      exact q
    | _ => first | (cases (show false = true from hk); done) | (simp! only [isInt]; exact q)
noncomputable def wp_fits : Pw := fun ts Ω PQ _ => ∃ n w : Int, ts = [.int n, .int w] ∧ widthB w = true ∧ PQ (.bl (fitsB n w)) Ω
noncomputable def wp_distinct : Pw := fun ts Ω PQ _ => ∃ us, ts = [.tup us] ∧ dataTs us = true ∧ Few us ∧ (us.all isInt = false → PQ .non Ω) ∧ ∀ ns ms : List Int, us = ns.map Tr.int → (∀ k, k ∈ ms ↔ k ∈ ns) → PQ (.lst (ms.map Tr.int)) Ω
noncomputable def wp_all (f : Tr → Bool) : Pw := fun ts Ω PQ _ => ∃ us, ts = [.tup us] ∧ dataTs us = true ∧ Few us ∧ PQ (.bl (us.all f)) Ω
theorem ints_of_all : ∀ {us : List Tr}, us.all isInt = true → ∃ ns : List Int, us = ns.map Tr.int
  | [], _ => ⟨[], rfl⟩
  | u :: us, h => by
    have h' := Bool.and_eq_true_iff.mp (show (isInt u && us.all isInt) = true from h)
    obtain ⟨ns, rfl⟩ := ints_of_all h'.2
    cases u with
    | int i => exact ⟨i :: ns, rfl⟩
    | _ => cases (show false = true from h'.1)
theorem allB {us : List Tr} {f : Tr → Bool} : (us.map fun t => Tr.bl (f t)) = List.map Tr.bl (us.map f) := by rw [List.map_map]; rfl
theorem allM {us : List Tr} {f : Tr → Bool} : (us.map f).all id = us.all f := by rw [List.all_map]; rfl
noncomputable def wp_isimg : Pw := fun ts Ω PQ _ => ∃ t, ts = [t] ∧ dataT t = true ∧ FewI t ∧ PQ (.bl (imgB t)) Ω
/-! ### the rest -/
structure Img where
  w : Int
  f : Int
  ws : List Int
  hs : List Int
noncomputable def imT (I : Img) : Tr := .tup [.int I.w, .int I.f, .tup (I.ws.map Tr.int), .tup (I.hs.map Tr.int)]
structure GI (I : Img) : Prop where
  w : widthB I.w = true
  f : wordB I.f = true
  len : I.ws.length = I.hs.length
  fit : fitsB I.ws.length I.w = true
  ws : ∀ k ∈ I.ws, wordB k = true
  hs : ∀ k ∈ I.hs, holdB k = true
theorem all_int {f : Tr → Bool} {g : Int → Bool} (e : ∀ i, f (.int i) = g i) {ns : List Int} : (ns.map Tr.int).all f = true ↔ ∀ k ∈ ns, g k = true := by
  rw [List.all_map, List.all_eq_true]
  constructor
  · intro h k hk; rw [← e]; exact h k hk
  · intro h k hk; show f (.int k) = true; rw [e]; exact h k hk
theorem GI.img {I : Img} (h : GI I) : imgB (imT I) = true := by
  have h1 : (I.ws.map Tr.int).all wordT = true := (all_int (fun _ => rfl)).mpr h.ws
  have h2 : (I.hs.map Tr.int).all holdT = true := (all_int (fun _ => rfl)).mpr h.hs
  simp only [imT, imgB, itemsOf, intOf, isTupT, widthT, wordT, h.w, h.f, h1, h2, h.fit, List.length_map, h.len, decide_true, Bool.true_and, Bool.and_true]
  rw [← h.len]; exact h.fit
theorem imgB_form {t : Tr} (h : imgB t = true) : ∃ I, t = imT I ∧ GI I := by
  match t, h with
  | .tup [a, b, c, d], h =>
    simp only [imgB, Bool.and_eq_true, decide_eq_true_eq] at h
    obtain ⟨h1, h2, h3, h4, h5, h6, h7, h8⟩ := h
    obtain ⟨w, rfl⟩ : ∃ i, a = .int i := by cases a <;> first | exact ⟨_, rfl⟩ | cases h1
    obtain ⟨f, rfl⟩ : ∃ i, b = .int i := by cases b <;> first | exact ⟨_, rfl⟩ | cases h2
    obtain ⟨ws, rfl⟩ : ∃ i, c = .tup i := by cases c <;> first | exact ⟨_, rfl⟩ | cases h3
    obtain ⟨hs, rfl⟩ : ∃ i, d = .tup i := by cases d <;> first | exact ⟨_, rfl⟩ | cases h4
    obtain ⟨ws, rfl⟩ := ints_of_all (us := ws) (List.all_eq_true.mpr fun t ht => by
      have := List.all_eq_true.mp h7 t ht
      cases t <;> first | rfl | cases (show false = true from this))
    obtain ⟨hs, rfl⟩ := ints_of_all (us := hs) (List.all_eq_true.mpr fun t ht => by
      have := List.all_eq_true.mp h8 t ht
      cases t <;> first | rfl | cases (show false = true from this))
    simp only [itemsOf, List.length_map] at h5 h6
    exact ⟨⟨w, f, ws, hs⟩, rfl, h1, h2, h5, h6, (all_int (fun _ => rfl)).mp h7, (all_int (fun _ => rfl)).mp h8⟩
noncomputable def like (I J : Img) : Bool := decide (J.w = I.w) && (decide (J.f = I.f) && decide (J.ws.length = I.ws.length))
theorem imT_inj {I J : Img} (h : imT I = imT J) : I = J := by
  obtain ⟨w, f, ws, hs⟩ := I
  obtain ⟨w', f', ws', hs'⟩ := J
  have im : ∀ {a b : List Int}, a.map Tr.int = b.map Tr.int → a = b := fun {a b} e => by
    have e2 := congrArg (List.map intOf) e
    rw [List.map_map, List.map_map] at e2
    simpa [Function.comp_def, intOf] using e2
  simp only [imT, Tr.tup.injEq, List.cons.injEq, Tr.int.injEq, and_true] at h
  obtain ⟨rfl, rfl, h3, h4⟩ := h
  rw [im h3, im h4]
theorem data_im {I : Img} : dataT (imT I) = true := by
  simp only [imT, dataT, dataTs, data_ints, Bool.and_self]
/-- the rows that tell two lists of words and holders apart -/
noncomputable def diffL : Int → List Int → List Int → List Int → List Int → List Ch
  | p, w :: ws, h :: hs, w' :: ws', h' :: hs' => if w = w' ∧ h = h' then diffL (p + 1) ws hs ws' hs' else ⟨p, w, h, w', h'⟩ :: diffL (p + 1) ws hs ws' hs'
  | _, _, _, _, _ => []
noncomputable def diff (I J : Img) : List Ch := diffL 0 I.ws I.hs J.ws J.hs
noncomputable def putRows : List Int → List Int → List Ch → Option (List Int × List Int)
  | ws, hs, [] => some (ws, hs)
  | ws, hs, c :: cs => if c.p < ws.length ∧ ws[c.p.toNat]? = some c.w ∧ hs[c.p.toNat]? = some c.h then putRows (ws.set c.p.toNat c.w') (hs.set c.p.toNat c.h') cs else none
noncomputable def invC (c : Ch) : Ch := ⟨c.p, c.w', c.h', c.w, c.h⟩
theorem chB_form {t : Tr} (h : chB t = true) : ∃ c : Ch, t = cT c ∧ 0 ≤ c.p ∧ c.p < 16384 ∧ wordB c.w = true ∧ holdB c.h = true ∧ wordB c.w' = true ∧ holdB c.h' = true ∧ ¬ (c.w = c.w' ∧ c.h = c.h') := by
  match t, h with
  | .tup [a, b, c, d, f], h =>
    simp only [chB, Bool.and_eq_true, Bool.or_eq_true, decide_eq_true_eq, Bool.not_eq_true', decide_eq_false_iff_not] at h
    obtain ⟨h1, h2, h3, h4, h5, h6, h7⟩ := h
    obtain ⟨a, rfl⟩ : ∃ i, a = .int i := by cases a <;> first | exact ⟨_, rfl⟩ | cases h1
    obtain ⟨b, rfl⟩ : ∃ i, b = .int i := by cases b <;> first | exact ⟨_, rfl⟩ | cases h3
    obtain ⟨c, rfl⟩ : ∃ i, c = .int i := by cases c <;> first | exact ⟨_, rfl⟩ | cases h4
    obtain ⟨d, rfl⟩ : ∃ i, d = .int i := by cases d <;> first | exact ⟨_, rfl⟩ | cases h5
    obtain ⟨f, rfl⟩ : ∃ i, f = .int i := by cases f <;> first | exact ⟨_, rfl⟩ | cases h6
    refine ⟨⟨a, b, c, d, f⟩, rfl, h2.1, h2.2, h3, h4, h5, h6, fun z => ?_⟩
    rcases h7 with h7 | h7
    · exact h7 (by rw [show b = d from z.1])
    · exact h7 (by rw [show c = f from z.2])
theorem chB_cT {c : Ch} (h0 : 0 ≤ c.p) (h1 : c.p < 16384) (h2 : wordB c.w = true) (h3 : holdB c.h = true) (h4 : wordB c.w' = true) (h5 : holdB c.h' = true) (h6 : ¬ (c.w = c.w' ∧ c.h = c.h')) : chB (cT c) = true := by
  simp only [cT, chB, Bool.and_eq_true, Bool.or_eq_true, decide_eq_true_eq, Bool.not_eq_true', decide_eq_false_iff_not]
  refine ⟨rfl, ⟨h0, h1⟩, h2, h3, h4, h5, ?_⟩
  by_cases e : c.w = c.w'
  · exact .inr fun z => h6 ⟨e, V.int.inj z⟩
  · exact .inl fun z => e (V.int.inj z)
theorem chsB_drop {l : Int} {us : List Tr} {i : Nat} {x : Tr} (h : us[i]? = some x) : chsB l (us.drop i) = (chB x && (decide (l < placeT x) && chsB (placeT x) (us.drop (i + 1)))) := by
  rw [List.drop_eq_getElem_cons (List.getElem?_eq_some_iff.mp h).1, (List.getElem?_eq_some_iff.mp h).2]
  rfl
noncomputable def wp_changes : Pw := fun ts Ω PQ PX => ∃ b a, ts = [b, a] ∧ dataT b = true ∧ dataT a = true ∧ FewI b ∧ FewI a ∧ (imgB b = false → PX (badX (.str "before")) Ω) ∧ ∀ I, b = imT I → GI I → (imgB a = false → PX (badX (.str "after")) Ω) ∧ ∀ J, a = imT J → GI J → (like I J = false → PX (badX (.str "after")) Ω) ∧ (like I J = true → lstNew ((diff I J).map cT) Ω PQ)
noncomputable def wp_put : Pw := fun ts Ω PQ _ => ∃ a b r cs ws hs, ts = [.obj a, .obj b, r] ∧ Ω a = some (.lst (ws.map Tr.int)) ∧ Ω b = some (.lst (hs.map Tr.int)) ∧ a ≠ b ∧ r ≠ .obj a ∧ r ≠ .obj b ∧ ws.length = hs.length ∧ asS r Ω = some (cs.map cT) ∧ (∀ c ∈ cs, 0 ≤ c.p) ∧ (putRows ws hs cs = none → ∀ ws' hs' : List Int, PQ (.bl false) (put (put Ω a (.lst (ws'.map Tr.int))) b (.lst (hs'.map Tr.int)))) ∧ ∀ ws' hs', putRows ws hs cs = some (ws', hs') → PQ (.bl true) (put (put Ω a (.lst (ws'.map Tr.int))) b (.lst (hs'.map Tr.int)))
end
section
open PySem PySem.Spec PyProof.Rows L2 LL LT
variable {P : Program} {w : World} {K : PySem.W.Frag} {mg : Str → Option Value} {base : Heap}

/-! ### pure: pairs, rows -/
theorem lay_ints : ∀ {ns : List Int}, PyData.canLayAll0 (toPs (ns.map Tr.int)) = true
  | [] => rfl
  | n :: ns => by
    show (PyData.canLay0 (.int n) && PyData.canLayAll0 (toPs (ns.map Tr.int))) = true
    rw [lay_ints]
    rfl
theorem ok_ints {ns : List Int} : okEq (.tup (ns.map Tr.int)) = true := by
  have h1 : plainT (.tup (ns.map Tr.int)) = true := by
    show plainTs (ns.map Tr.int) = true
    induction ns with
    | nil => rfl
    | cons n ns ih => show (true && plainTs (ns.map Tr.int)) = true; rw [ih]; rfl
  have h2 : PyData.depth (toP (.tup (ns.map Tr.int))) ≤ 64 := by
    have : ∀ ns : List Int, PyData.depthAll (toPs (ns.map Tr.int)) = 0 := by
      intro ns
      induction ns with
      | nil => simp [toPs, PyData.depthAll]
      | cons n ns ih => simp [toPs, toP, PyData.depthAll, PyData.depth, ih]
    show PyData.depth (.tuple (toPs (ns.map Tr.int))) ≤ 64
    simp [PyData.depth, this]
  unfold okEq SeqAt.shaped
  rw [h1, decide_eq_true h2, show PyData.canLay0 (toP (.tup (ns.map Tr.int))) = true from lay_ints]
  rfl
theorem ok_pair {a b : Int} : okEq (.tup [.int a, .int b]) = true := ok_ints (ns := [a, b])
theorem eq_pair {a b c d : Int} : LT.eqT (.tup [.int a, .int b]) (.tup [.int c, .int d]) = (decide (a = c) && decide (b = d)) := by
  unfold LT.eqT
  simp only [toP, toPs, PyData.eqv, PyData.eqvAll, Bool.and_true]
  by_cases h1 : a = c <;> by_cases h2 : b = d <;> simp [h1, h2]
theorem atI_map {ns : List Int} {i : Nat} {n : Int} (h : ns[i]? = some n) : L2.atI (ns.map Tr.int) (i : Int) = some (.int n) := atI_nat (by rw [List.getElem?_map, h]; rfl)
theorem diffL_drop {p : Int} {ws hs ws' hs' : List Int} {i : Nat} {a b a' b' : Int} (h1 : ws[i]? = some a) (h2 : hs[i]? = some b) (h3 : ws'[i]? = some a') (h4 : hs'[i]? = some b') : diffL p (ws.drop i) (hs.drop i) (ws'.drop i) (hs'.drop i) = (if a = a' ∧ b = b' then diffL (p + 1) (ws.drop (i + 1)) (hs.drop (i + 1)) (ws'.drop (i + 1)) (hs'.drop (i + 1)) else ⟨p, a, b, a', b'⟩ :: diffL (p + 1) (ws.drop (i + 1)) (hs.drop (i + 1)) (ws'.drop (i + 1)) (hs'.drop (i + 1))) := by
  have d : ∀ {l : List Int} {x : Int}, l[i]? = some x → l.drop i = x :: l.drop (i + 1) := fun {l x} h => by
    rw [List.drop_eq_getElem_cons (List.getElem?_eq_some_iff.mp h).1, (List.getElem?_eq_some_iff.mp h).2]
  rw [d h1, d h2, d h3, d h4]
  rfl
theorem diffL_le : ∀ {p : Int} {ws hs ws' hs' : List Int}, (diffL p ws hs ws' hs').length ≤ ws.length
  | _, [], _, _, _ => by simp [diffL]
  | _, _ :: _, [], _, _ => by simp [diffL]
  | _, _ :: _, _ :: _, [], _ => by simp [diffL]
  | _, _ :: _, _ :: _, _ :: _, [] => by simp [diffL]
  | p, w :: ws, h :: hs, w' :: ws', h' :: hs' => by
    have ih := diffL_le (p := p + 1) (ws := ws) (hs := hs) (ws' := ws') (hs' := hs')
    unfold diffL
    split
    · simp only [List.length_cons]; omega
    · simp only [List.length_cons]; omega
theorem like_iff {I J : Img} : like I J = true ↔ J.w = I.w ∧ J.f = I.f ∧ J.ws.length = I.ws.length := by
  unfold like
  simp only [Bool.and_eq_true, decide_eq_true_eq]
theorem GI.n {I : Img} (h : GI I) : 16 ≤ I.ws.length ∧ I.ws.length ≤ 16384 ∧ (I.ws.length : Int) % I.w = 0 ∧ 0 < I.w := by
  have hw := h.w
  have hf := h.fit
  simp only [widthB, Bool.or_eq_true, decide_eq_true_eq] at hw
  simp only [fitsB, Bool.and_eq_true, decide_eq_true_eq] at hf
  rcases hw with (hw | hw) | hw <;> rw [hw] at hf ⊢ <;> omega
theorem stay_ne {t : Tr} {ts : List Tr} {Ω : Om} {a : Addr} {c : Cell} (s : stay t ts Ω) (h : t ≠ .obj a) : stay t ts (put Ω a c) := by
  cases t with
  | obj b =>
    show put Ω a c b = _
    rw [put_ne (fun z => h (by rw [z]))]
    exact s
  | _ => trivial
theorem put_self {Ω : Om} {a : Addr} {c : Cell} (h : Ω a = some c) : put Ω a c = Ω := by
  funext b
  by_cases e : b = a
  · rw [e, put_same, h]
  · rw [put_ne e]
theorem put_comm {Ω : Om} {a b : Addr} {c d : Cell} (h : a ≠ b) : put (put Ω a c) b d = put (put Ω b d) a c := by
  funext x
  by_cases e1 : x = a
  · subst e1
    rw [put_ne h, put_same, put_same]
  · by_cases e2 : x = b
    · subst e2
      rw [put_same, put_ne e1, put_same]
    · rw [put_ne e2, put_ne e1, put_ne e1, put_ne e2]
theorem atI_ix {ns : List Int} {p : Int} (h0 : 0 ≤ p) (h1 : p < ns.length) : ∃ n, ns[p.toNat]? = some n ∧ L2.atI (ns.map Tr.int) p = some (.int n) ∧ ixN (ns.map Tr.int).length p = some p.toNat := by
  obtain ⟨k, rfl⟩ := Int.eq_ofNat_of_zero_le h0
  have hk : k < ns.length := by omega
  refine ⟨ns[k], List.getElem?_eq_getElem hk, atI_map (List.getElem?_eq_getElem hk), ?_⟩
  unfold ixN
  rw [List.length_map, if_pos (by omega), if_pos (by omega)]
theorem putRows_cons {ws hs : List Int} {c : Ch} {cs : List Ch} {w h : Int} (h1 : c.p < ws.length) (h2 : ws[c.p.toNat]? = some w) (h3 : hs[c.p.toNat]? = some h) : putRows ws hs (c :: cs) = if w = c.w ∧ h = c.h then putRows (ws.set c.p.toNat c.w') (hs.set c.p.toNat c.h') cs else none := by
  unfold putRows
  rw [h2, h3]
  by_cases e : w = c.w ∧ h = c.h
  · rw [if_pos e, if_pos ⟨h1, by rw [e.1], by rw [e.2]⟩]
    cases cs <;> rfl
  · rw [if_neg e, if_neg (fun z => e ⟨Option.some.inj z.2.1, Option.some.inj z.2.2⟩)]
theorem putRows_out {ws hs : List Int} {c : Ch} {cs : List Ch} (h1 : ¬ c.p < ws.length) : putRows ws hs (c :: cs) = none := by
  unfold putRows
  rw [if_neg (fun z => h1 z.1)]
end
section
open PySem PySem.Spec PyProof.Rows L2 LL LT
variable {P : Program} {w : World} {K : PySem.W.Frag} {mg : Str → Option Value} {base : Heap}

/-! ### a ground -/
noncomputable def grN : List Str := ["pages", "width", "fill", "_budget", "_spent", "_words", "_holders", "_deeds"]
noncomputable abbrev cG (K : PySem.W.Frag) : Addr := He.ga K "Ground"
/-- a deed: its dict's address, the places that it changed with what they were -/
structure Deed where
  e : Addr
  rs : List (Int × Int × Int)
noncomputable def rowK (r : Int × Int × Int) : Key := .inl r.1
noncomputable def rowV (r : Int × Int × Int) : Tr := .tup [.int r.2.1, .int r.2.2]
structure Grd where
  a : Addr
  dx : Addr
  b : Addr
  h : Addr
  d : Addr
  p : Int
  w : Int
  f : Int
  bud : Tr
  sp : Int
  ws : List Int
  hs : List Int
  ds : List Deed
noncomputable def grC (K : PySem.W.Frag) (g : Grd) : Cell := .ins (cG K) g.dx grN [.int g.p, .int g.w, .int g.f, g.bud, .int g.sp, .obj g.b, .obj g.h, .obj g.d]
noncomputable def deC (x : Deed) : Cell := .dic (x.rs.map rowK) (x.rs.map rowV)
noncomputable def Grd.own (g : Grd) : List Addr := g.a :: g.b :: g.h :: g.d :: g.ds.map (·.e)
/-- the object and its lists, at their addresses -/
structure At (K : PySem.W.Frag) (g : Grd) (Ω : Om) : Prop where
  o : Ω g.a = some (grC K g)
  b : Ω g.b = some (.lst (g.ws.map Tr.int))
  h : Ω g.h = some (.lst (g.hs.map Tr.int))
  d : Ω g.d = some (.lst (g.ds.map fun x => .obj x.e))
  e : ∀ x ∈ g.ds, Ω x.e = some (deC x)
  nd : g.own.Nodup
/-- all but the objects of g is as it was -/
noncomputable def Fr (g : Grd) (Ω Ω' : Om) : Prop := ∀ x, x ∉ g.own → Ω' x = Ω x
section
variable {K : PySem.W.Frag} {g : Grd} {Ω : Om}
theorem At.pages (A : At K g Ω) : insF (cG K) "pages" (.obj g.a) Ω = some (.int g.p) := (insF_obj A.o).trans rfl
theorem At.width (A : At K g Ω) : insF (cG K) "width" (.obj g.a) Ω = some (.int g.w) := (insF_obj A.o).trans rfl
theorem At.fill (A : At K g Ω) : insF (cG K) "fill" (.obj g.a) Ω = some (.int g.f) := (insF_obj A.o).trans rfl
theorem At.budget (A : At K g Ω) : insF (cG K) "_budget" (.obj g.a) Ω = some g.bud := (insF_obj A.o).trans rfl
theorem At.spent (A : At K g Ω) : insF (cG K) "_spent" (.obj g.a) Ω = some (.int g.sp) := (insF_obj A.o).trans rfl
theorem At.words (A : At K g Ω) : insF (cG K) "_words" (.obj g.a) Ω = some (.obj g.b) := (insF_obj A.o).trans rfl
theorem At.holders (A : At K g Ω) : insF (cG K) "_holders" (.obj g.a) Ω = some (.obj g.h) := (insF_obj A.o).trans rfl
theorem At.deeds (A : At K g Ω) : insF (cG K) "_deeds" (.obj g.a) Ω = some (.obj g.d) := (insF_obj A.o).trans rfl
theorem At.prop (A : At K g Ω) : insP (cG K) (.obj g.a) Ω = some g.a := insP_obj A.o
end
noncomputable def wp_top (K : PySem.W.Frag) : Pw := fun ts Ω PQ _ => ∃ g : Grd, ts = [.obj g.a] ∧ At K g Ω ∧ (0 ≤ g.p ∧ g.p ≤ 256 ∧ 0 ≤ g.w ∧ g.w ≤ 64) ∧ PQ (.int (g.p * g.w)) Ω
noncomputable def wp_spent (K : PySem.W.Frag) : Pw := fun ts Ω PQ _ => ∃ g : Grd, ts = [.obj g.a] ∧ At K g Ω ∧ PQ (.int g.sp) Ω
noncomputable def wp_depth (K : PySem.W.Frag) : Pw := fun ts Ω PQ _ => ∃ g : Grd, ts = [.obj g.a] ∧ At K g Ω ∧ PQ (.int g.ds.length) Ω
noncomputable def wp_budget (K : PySem.W.Frag) : Pw := fun ts Ω PQ _ => ∃ g : Grd, ts = [.obj g.a] ∧ At K g Ω ∧ PQ g.bud Ω
noncomputable def wp_image (K : PySem.W.Frag) : Pw := fun ts Ω PQ _ => ∃ g : Grd, ts = [.obj g.a] ∧ At K g Ω ∧ PQ (.tup [.int g.w, .int g.f, .tup (g.ws.map Tr.int), .tup (g.hs.map Tr.int)]) Ω
theorem ok_Ground_top (T : Tx K mg) : FnOk P w K mg base CX0 1 (gAd K "Ground" "top") T.fd_Ground_top P_Ground_top (spD K (wp_top K) 1) := by
  refine dok T.F_Ground_top sc_Ground_top fun cdv A outer s H E hr => ?_
  refine' dokMk (PSs.nox (pss_one (ps_ret (pe_op op_mul (pe_fld (pv 0) rfl) (pe_fld (pv 0) rfl))))) ?sim ?go
  case sim =>
    try simp only [LL.cxK0, LL.cxK1, List.map_cons, List.map_nil]
    repeat' (first | with_reducible apply sim_gLst | with_reducible apply sim_tryR0 | with_reducible apply sim_tryR | with_reducible apply SimRow.cons | with_reducible exact SimRow.nil | with_reducible apply sim_mthS (dts := []) .nil | with_reducible apply sim_makeK (gT := fun ts us => ts ++ us) (fun _ _ _ _ _ _ _ h1 h2 => vdl_app h2 h1) | with_reducible apply sim_fld T.c_Ground T.n_Ground_pages | with_reducible apply sim_fld T.c_Ground T.n_Ground_width | with_reducible apply sim_fld T.c_Ground T.n_Ground_fill | with_reducible apply sim_fld T.c_Ground T.n_Ground__budget | with_reducible apply sim_fld T.c_Ground T.n_Ground__spent | with_reducible apply sim_fld T.c_Ground T.n_Ground__words | with_reducible apply sim_fld T.c_Ground T.n_Ground__holders | with_reducible apply sim_fld T.c_Ground T.n_Ground__deeds | with_reducible apply sim_setF T.c_Ground T.n_Ground_pages | with_reducible apply sim_setF T.c_Ground T.n_Ground_width | with_reducible apply sim_setF T.c_Ground T.n_Ground_fill | with_reducible apply sim_setF T.c_Ground T.n_Ground__budget | with_reducible apply sim_setF T.c_Ground T.n_Ground__spent | with_reducible apply sim_setF T.c_Ground T.n_Ground__words | with_reducible apply sim_setF T.c_Ground T.n_Ground__holders | with_reducible apply sim_setF T.c_Ground T.n_Ground__deeds | with_reducible apply sim_forI | with_reducible apply sim_pop | with_reducible apply sim_tru | with_reducible apply sim_prop | with_reducible apply sim_make (dts := []) .nil | with_reducible apply sim_make0 (dts := []) .nil | with_reducible apply sim_meth0 (dts := []) .nil | with_reducible apply sim_meth (dts := []) .nil | fail "s")
  case go =>
    intro ts Ω PQ PX hl h
    obtain ⟨g, rfl, A, hb, q⟩ := h
    have e1 := A.pages
    have e2 := A.width
    simp! only [N_Ground_top, e1, e2]
    exact ⟨.inl ⟨by omega, by omega⟩, q⟩
theorem ok_Ground_spent (T : Tx K mg) : FnOk P w K mg base CX0 1 (gAd K "Ground" "spent") T.fd_Ground_spent P_Ground_spent (spD K (wp_spent K) 1) := by
  refine dok T.F_Ground_spent sc_Ground_spent fun cdv A outer s H E hr => ?_
  refine' dokMk (PSs.nox (pss_one (ps_ret (pe_fld (pv 0) rfl)))) ?sim ?go
  case sim =>
    try simp only [LL.cxK0, LL.cxK1, List.map_cons, List.map_nil]
    repeat' (first | with_reducible apply sim_gLst | with_reducible apply sim_tryR0 | with_reducible apply sim_tryR | with_reducible apply SimRow.cons | with_reducible exact SimRow.nil | with_reducible apply sim_mthS (dts := []) .nil | with_reducible apply sim_makeK (gT := fun ts us => ts ++ us) (fun _ _ _ _ _ _ _ h1 h2 => vdl_app h2 h1) | with_reducible apply sim_fld T.c_Ground T.n_Ground_pages | with_reducible apply sim_fld T.c_Ground T.n_Ground_width | with_reducible apply sim_fld T.c_Ground T.n_Ground_fill | with_reducible apply sim_fld T.c_Ground T.n_Ground__budget | with_reducible apply sim_fld T.c_Ground T.n_Ground__spent | with_reducible apply sim_fld T.c_Ground T.n_Ground__words | with_reducible apply sim_fld T.c_Ground T.n_Ground__holders | with_reducible apply sim_fld T.c_Ground T.n_Ground__deeds | with_reducible apply sim_setF T.c_Ground T.n_Ground_pages | with_reducible apply sim_setF T.c_Ground T.n_Ground_width | with_reducible apply sim_setF T.c_Ground T.n_Ground_fill | with_reducible apply sim_setF T.c_Ground T.n_Ground__budget | with_reducible apply sim_setF T.c_Ground T.n_Ground__spent | with_reducible apply sim_setF T.c_Ground T.n_Ground__words | with_reducible apply sim_setF T.c_Ground T.n_Ground__holders | with_reducible apply sim_setF T.c_Ground T.n_Ground__deeds | with_reducible apply sim_forI | with_reducible apply sim_pop | with_reducible apply sim_tru | with_reducible apply sim_prop | with_reducible apply sim_make (dts := []) .nil | with_reducible apply sim_make0 (dts := []) .nil | with_reducible apply sim_meth0 (dts := []) .nil | with_reducible apply sim_meth (dts := []) .nil | fail "s")
  case go =>
    intro ts Ω PQ PX hl h
    obtain ⟨g, rfl, A, q⟩ := h
    have e1 := A.spent
    simp! only [N_Ground_spent, e1]
    exact q
theorem ok_Ground_depth (T : Tx K mg) : FnOk P w K mg base CX0 1 (gAd K "Ground" "depth") T.fd_Ground_depth P_Ground_depth (spD K (wp_depth K) 1) := by
  refine dok T.F_Ground_depth sc_Ground_depth fun cdv A outer s H E hr => ?_
  refine' dokMk (PSs.nox (pss_one (ps_ret (pe_callB (show CallR _ _ (LT.rLenS K) from LT.call_lenS) (by rfl) T.z_len (by decide +kernel) (pa_cons (pe_fld (pv 0) rfl) pa_nil))))) ?sim ?go
  case sim =>
    try simp only [LL.cxK0, LL.cxK1, List.map_cons, List.map_nil]
    repeat' (first | with_reducible apply sim_gLst | with_reducible apply sim_tryR0 | with_reducible apply sim_tryR | with_reducible apply SimRow.cons | with_reducible exact SimRow.nil | with_reducible apply sim_mthS (dts := []) .nil | with_reducible apply sim_makeK (gT := fun ts us => ts ++ us) (fun _ _ _ _ _ _ _ h1 h2 => vdl_app h2 h1) | with_reducible apply sim_fld T.c_Ground T.n_Ground_pages | with_reducible apply sim_fld T.c_Ground T.n_Ground_width | with_reducible apply sim_fld T.c_Ground T.n_Ground_fill | with_reducible apply sim_fld T.c_Ground T.n_Ground__budget | with_reducible apply sim_fld T.c_Ground T.n_Ground__spent | with_reducible apply sim_fld T.c_Ground T.n_Ground__words | with_reducible apply sim_fld T.c_Ground T.n_Ground__holders | with_reducible apply sim_fld T.c_Ground T.n_Ground__deeds | with_reducible apply sim_setF T.c_Ground T.n_Ground_pages | with_reducible apply sim_setF T.c_Ground T.n_Ground_width | with_reducible apply sim_setF T.c_Ground T.n_Ground_fill | with_reducible apply sim_setF T.c_Ground T.n_Ground__budget | with_reducible apply sim_setF T.c_Ground T.n_Ground__spent | with_reducible apply sim_setF T.c_Ground T.n_Ground__words | with_reducible apply sim_setF T.c_Ground T.n_Ground__holders | with_reducible apply sim_setF T.c_Ground T.n_Ground__deeds | with_reducible apply sim_forI | with_reducible apply sim_pop | with_reducible apply sim_tru | with_reducible apply sim_prop | with_reducible apply sim_make (dts := []) .nil | with_reducible apply sim_make0 (dts := []) .nil | with_reducible apply sim_meth0 (dts := []) .nil | with_reducible apply sim_meth (dts := []) .nil | fail "s")
  case go =>
    intro ts Ω PQ PX hl h
    obtain ⟨g, rfl, A, q⟩ := h
    have e1 := A.deeds
    have e2 := lenT_obj A.d
    simp! only [N_Ground_depth, e1, e2, List.length_map]
    exact fun _ => q
theorem ok_Ground_budget (T : Tx K mg) : FnOk P w K mg base CX0 1 (gAd K "Ground" "budget") T.fd_Ground_budget P_Ground_budget (spD K (wp_budget K) 1) := by
  refine dok T.F_Ground_budget sc_Ground_budget fun cdv A outer s H E hr => ?_
  refine' dokMk (PSs.nox (pss_one (ps_ret (pe_fld (pv 0) rfl)))) ?sim ?go
  case sim =>
    try simp only [LL.cxK0, LL.cxK1, List.map_cons, List.map_nil]
    repeat' (first | with_reducible apply sim_gLst | with_reducible apply sim_tryR0 | with_reducible apply sim_tryR | with_reducible apply SimRow.cons | with_reducible exact SimRow.nil | with_reducible apply sim_mthS (dts := []) .nil | with_reducible apply sim_makeK (gT := fun ts us => ts ++ us) (fun _ _ _ _ _ _ _ h1 h2 => vdl_app h2 h1) | with_reducible apply sim_fld T.c_Ground T.n_Ground_pages | with_reducible apply sim_fld T.c_Ground T.n_Ground_width | with_reducible apply sim_fld T.c_Ground T.n_Ground_fill | with_reducible apply sim_fld T.c_Ground T.n_Ground__budget | with_reducible apply sim_fld T.c_Ground T.n_Ground__spent | with_reducible apply sim_fld T.c_Ground T.n_Ground__words | with_reducible apply sim_fld T.c_Ground T.n_Ground__holders | with_reducible apply sim_fld T.c_Ground T.n_Ground__deeds | with_reducible apply sim_setF T.c_Ground T.n_Ground_pages | with_reducible apply sim_setF T.c_Ground T.n_Ground_width | with_reducible apply sim_setF T.c_Ground T.n_Ground_fill | with_reducible apply sim_setF T.c_Ground T.n_Ground__budget | with_reducible apply sim_setF T.c_Ground T.n_Ground__spent | with_reducible apply sim_setF T.c_Ground T.n_Ground__words | with_reducible apply sim_setF T.c_Ground T.n_Ground__holders | with_reducible apply sim_setF T.c_Ground T.n_Ground__deeds | with_reducible apply sim_forI | with_reducible apply sim_pop | with_reducible apply sim_tru | with_reducible apply sim_prop | with_reducible apply sim_make (dts := []) .nil | with_reducible apply sim_make0 (dts := []) .nil | with_reducible apply sim_meth0 (dts := []) .nil | with_reducible apply sim_meth (dts := []) .nil | fail "s")
  case go =>
    intro ts Ω PQ PX hl h
    obtain ⟨g, rfl, A, q⟩ := h
    have e1 := A.budget
    simp! only [N_Ground_budget, e1]
    exact q
theorem ok_Ground_image (T : Tx K mg) : FnOk P w K mg base CX0 1 (He.ma K (He.ga K "Ground") "image") T.fd_Ground_image P_Ground_image (spD K (wp_image K) 1) := by
  refine dok T.F_Ground_image sc_Ground_image fun cdv A outer s H E hr => ?_
  refine' dokMk (PSs.nox (pss_one (ps_ret (pe_tup (pa_cons (pe_fld (pv 0) rfl) (pa_cons (pe_fld (pv 0) rfl) (pa_cons (pe_callTy (show CallR _ _ (LT.rTuple K) from LT.call_tuple) (by rfl) T.z_tuple (by decide +kernel) (pa_cons (pe_fld (pv 0) rfl) pa_nil)) (pa_cons (pe_callTy (show CallR _ _ (LT.rTuple K) from LT.call_tuple) (by rfl) T.z_tuple (by decide +kernel) (pa_cons (pe_fld (pv 0) rfl) pa_nil)) pa_nil)))))))) ?sim ?go
  case sim =>
    try simp only [LL.cxK0, LL.cxK1, List.map_cons, List.map_nil]
    repeat' (first | with_reducible apply sim_gLst | with_reducible apply sim_tryR0 | with_reducible apply sim_tryR | with_reducible apply SimRow.cons | with_reducible exact SimRow.nil | with_reducible apply sim_mthS (dts := []) .nil | with_reducible apply sim_makeK (gT := fun ts us => ts ++ us) (fun _ _ _ _ _ _ _ h1 h2 => vdl_app h2 h1) | with_reducible apply sim_fld T.c_Ground T.n_Ground_pages | with_reducible apply sim_fld T.c_Ground T.n_Ground_width | with_reducible apply sim_fld T.c_Ground T.n_Ground_fill | with_reducible apply sim_fld T.c_Ground T.n_Ground__budget | with_reducible apply sim_fld T.c_Ground T.n_Ground__spent | with_reducible apply sim_fld T.c_Ground T.n_Ground__words | with_reducible apply sim_fld T.c_Ground T.n_Ground__holders | with_reducible apply sim_fld T.c_Ground T.n_Ground__deeds | with_reducible apply sim_setF T.c_Ground T.n_Ground_pages | with_reducible apply sim_setF T.c_Ground T.n_Ground_width | with_reducible apply sim_setF T.c_Ground T.n_Ground_fill | with_reducible apply sim_setF T.c_Ground T.n_Ground__budget | with_reducible apply sim_setF T.c_Ground T.n_Ground__spent | with_reducible apply sim_setF T.c_Ground T.n_Ground__words | with_reducible apply sim_setF T.c_Ground T.n_Ground__holders | with_reducible apply sim_setF T.c_Ground T.n_Ground__deeds | with_reducible apply sim_forI | with_reducible apply sim_pop | with_reducible apply sim_tru | with_reducible apply sim_prop | with_reducible apply sim_make (dts := []) .nil | with_reducible apply sim_make0 (dts := []) .nil | with_reducible apply sim_meth0 (dts := []) .nil | with_reducible apply sim_meth (dts := []) .nil | fail "s")
  case go =>
    intro ts Ω PQ PX hl h
    obtain ⟨g, rfl, A, q⟩ := h
    have e1 := A.width
    have e2 := A.fill
    have e3 := A.words
    have e4 := A.holders
    have e5 := asS_obj A.b
    have e6 := asS_obj A.h
    simp! only [N_Ground_image, e1, e2, e3, e4, e5, e6]
    exact fun _ _ => q
/-! ### places, holders -/
noncomputable def isHeld (hs : List Int) (h s e : Int) : Prop := ∀ p : Int, s ≤ p → p < e → hs[p.toNat]? = some h
noncomputable def wp_nplace (K : PySem.W.Frag) : Pw := fun ts Ω PQ PX => ∃ (g : Grd) (t : Tr), ts = [.obj g.a, t] ∧ At K g Ω ∧ (0 ≤ g.p ∧ g.p ≤ 256 ∧ 0 ≤ g.w ∧ g.w ≤ 64) ∧ (kindT t).isSome = true ∧ (InR 0 (g.p * g.w - 1) t → PQ .non Ω) ∧ (¬ InR 0 (g.p * g.w - 1) t → PX (badX (.str "place")) Ω)
noncomputable def heldX (p h : Int) : XV := excT "NotHeld" ["place", "found"] [.int p, .int h]
noncomputable def wp_nheld (K : PySem.W.Frag) : Pw := fun ts Ω PQ PX => ∃ (g : Grd) (s e h : Int), ts = [.obj g.a, .int s, .int e, .int h] ∧ At K g Ω ∧ 0 ≤ s ∧ s ≤ e ∧ e ≤ g.hs.length ∧ g.hs.length ≤ 100000 ∧ (isHeld g.hs h s e → PQ .non Ω) ∧ ∀ p k : Int, s ≤ p → p < e → isHeld g.hs h s p → g.hs[p.toNat]? = some k → k ≠ h → PX (heldX p k) Ω
noncomputable def brokenX (p w f : Int) : XV := excT "Broken" ["place", "found", "due"] [.int p, .int w, .int f]
/-- what is nobody's is fill -/
noncomputable def isFill (g : Grd) (s e : Int) : Prop := ∀ p : Int, s ≤ p → p < e → g.hs[p.toNat]? = some 0 → g.ws[p.toNat]? = some g.f
noncomputable def wp_nfill (K : PySem.W.Frag) : Pw := fun ts Ω PQ PX => ∃ (g : Grd) (s e : Int), ts = [.obj g.a, .int s, .int e] ∧ At K g Ω ∧ 0 ≤ s ∧ s ≤ e ∧ e ≤ g.hs.length ∧ g.ws.length = g.hs.length ∧ g.hs.length ≤ 100000 ∧ (isFill g s e → PQ .non Ω) ∧ ∀ p k : Int, s ≤ p → p < e → isFill g s p → g.hs[p.toNat]? = some 0 → g.ws[p.toNat]? = some k → k ≠ g.f → PX (brokenX p k g.f) Ω
theorem ok_Ground_need_place (T : Tx K mg) : FnOk P w K mg base (L2.CX P w) 4 (He.ma K (He.ga K "Ground") "_need_place") T.fd_Ground_need_place P_Ground_need_place (spD K (wp_nplace K) 2) := by
  refine dok T.F_Ground_need_place sc_Ground_need_place fun cdv A outer s H E hr => ?_
  refine' dokMk ((pss_one (ps_expr (pe_call (ok_need_whole T) hr rfl T.g_need_whole T.F_need_whole.kp (b_need_whole T) .nil (passR (takes_of rfl rfl rfl rfl) (fun _ _ _ _ h => h)) (pa_cons (pv 1) (pa_cons (pe_int) (pa_cons (pe_op op_sub (pe_prop (pv 0) T.c_Ground T.p_Ground_top (ok_Ground_top T) (hr.mono (by decide)) (b_Ground_top T) .nil pass0 rfl) (pe_int)) (pa_cons (pe_str) pa_nil)))))))) ?sim ?go
  case sim =>
    try simp only [LL.cxK0, LL.cxK1, List.map_cons, List.map_nil]
    repeat' (first | with_reducible apply sim_gLst | with_reducible apply sim_tryR0 | with_reducible apply sim_tryR | with_reducible apply SimRow.cons | with_reducible exact SimRow.nil | with_reducible apply sim_mthS (dts := []) .nil | with_reducible apply sim_makeK (gT := fun ts us => ts ++ us) (fun _ _ _ _ _ _ _ h1 h2 => vdl_app h2 h1) | with_reducible apply sim_fld T.c_Ground T.n_Ground_pages | with_reducible apply sim_fld T.c_Ground T.n_Ground_width | with_reducible apply sim_fld T.c_Ground T.n_Ground_fill | with_reducible apply sim_fld T.c_Ground T.n_Ground__budget | with_reducible apply sim_fld T.c_Ground T.n_Ground__spent | with_reducible apply sim_fld T.c_Ground T.n_Ground__words | with_reducible apply sim_fld T.c_Ground T.n_Ground__holders | with_reducible apply sim_fld T.c_Ground T.n_Ground__deeds | with_reducible apply sim_setF T.c_Ground T.n_Ground_pages | with_reducible apply sim_setF T.c_Ground T.n_Ground_width | with_reducible apply sim_setF T.c_Ground T.n_Ground_fill | with_reducible apply sim_setF T.c_Ground T.n_Ground__budget | with_reducible apply sim_setF T.c_Ground T.n_Ground__spent | with_reducible apply sim_setF T.c_Ground T.n_Ground__words | with_reducible apply sim_setF T.c_Ground T.n_Ground__holders | with_reducible apply sim_setF T.c_Ground T.n_Ground__deeds | with_reducible apply sim_forI | with_reducible apply sim_pop | with_reducible apply sim_tru | with_reducible apply sim_prop | with_reducible apply sim_make (dts := []) .nil | with_reducible apply sim_make0 (dts := []) .nil | with_reducible apply sim_meth0 (dts := []) .nil | with_reducible apply sim_meth (dts := []) .nil | fail "s")
  case go =>
    intro ts Ω PQ PX hl h
    obtain ⟨g, t, rfl, A, hb, hk, q1, q2⟩ := h
    have e1 := A.prop
    simp! only [N_Ground_need_place, e1]
    refine ⟨g, rfl, A, hb, ?_⟩
    simp! only [and_true]
    exact ⟨t, _, _, _, rfl, hk, q1, q2⟩
theorem ok_Ground_need_held (T : Tx K mg) : FnOk P w K mg base (L2.CX P w) 3 (He.ma K (He.ga K "Ground") "_need_held") T.fd_Ground_need_held P_Ground_need_held (spD K (wp_nheld K) 4) := by
  refine dok T.F_Ground_need_held sc_Ground_need_held fun cdv A outer s H E hr => ?_
  refine' dokMk ((pss_one (ps_for (passes_of rfl) rfl (pi_range2 rfl T.z_range (pa_cons (pv 1) (pa_cons (pv 2) pa_nil))) (pg_name (i := 4) sc_Ground_need_held.nd rfl (Or.inl rfl)) (pss_one (ps_if (pt_cmpR op_ne (pe_ix (show IxR _ (LL.rIxA K) from LL.ix_A) (pe_fld (pv 0) rfl) (pv 4) (fun _ _ => rfl)) (pv 3) (nomark _)) (pss_one (ps_raise rfl (takes_of rfl rfl rfl rfl) (pmk_oex T.v_NotHeld.oex T.v_NotHeld.ini T.v_NotHeld.typ (okE_NotHeld T) hr (b_NotHeld T) .nil pass0 rfl T.g_NotHeld (pa_cons (pv 4) (pa_cons (pe_ix (show IxR _ (LL.rIxA K) from LL.ix_A) (pe_fld (pv 0) rfl) (pv 4) (fun _ _ => rfl)) pa_nil))))) pss_nil))))) ?sim ?go
  case sim =>
    try simp only [LL.cxK0, LL.cxK1, List.map_cons, List.map_nil]
    repeat' (first | with_reducible apply sim_gLst | with_reducible apply sim_tryR0 | with_reducible apply sim_tryR | with_reducible apply SimRow.cons | with_reducible exact SimRow.nil | with_reducible apply sim_mthS (dts := []) .nil | with_reducible apply sim_makeK (gT := fun ts us => ts ++ us) (fun _ _ _ _ _ _ _ h1 h2 => vdl_app h2 h1) | with_reducible apply sim_fld T.c_Ground T.n_Ground_pages | with_reducible apply sim_fld T.c_Ground T.n_Ground_width | with_reducible apply sim_fld T.c_Ground T.n_Ground_fill | with_reducible apply sim_fld T.c_Ground T.n_Ground__budget | with_reducible apply sim_fld T.c_Ground T.n_Ground__spent | with_reducible apply sim_fld T.c_Ground T.n_Ground__words | with_reducible apply sim_fld T.c_Ground T.n_Ground__holders | with_reducible apply sim_fld T.c_Ground T.n_Ground__deeds | with_reducible apply sim_setF T.c_Ground T.n_Ground_pages | with_reducible apply sim_setF T.c_Ground T.n_Ground_width | with_reducible apply sim_setF T.c_Ground T.n_Ground_fill | with_reducible apply sim_setF T.c_Ground T.n_Ground__budget | with_reducible apply sim_setF T.c_Ground T.n_Ground__spent | with_reducible apply sim_setF T.c_Ground T.n_Ground__words | with_reducible apply sim_setF T.c_Ground T.n_Ground__holders | with_reducible apply sim_setF T.c_Ground T.n_Ground__deeds | with_reducible apply sim_forI | with_reducible apply sim_pop | with_reducible apply sim_tru | with_reducible apply sim_prop | with_reducible apply sim_make (dts := []) .nil | with_reducible apply sim_make0 (dts := []) .nil | with_reducible apply sim_meth0 (dts := []) .nil | with_reducible apply sim_meth (dts := []) .nil | fail "s")
  case go =>
    intro ts Ω PQ PX hl h
    obtain ⟨g, s, e, h, rfl, A, h0, h1, h2, h3, q1, q2⟩ := h
    have e1 := A.holders
    have e2 := asS_obj A.h
    simp! only [N_Ground_need_held]
    refine for_R2 (a := s) (b := e) (Ω1 := Ω) (fun P p => ?_) (by omega) (fun i ρ' Ω' => Ω' = Ω ∧ (∃ x4, ρ' = [some (.obj g.a), some (.int s), some (.int e), some (.int h), x4]) ∧ isHeld g.hs h s (s + i)) ⟨rfl, ⟨_, rfl⟩, fun p p0 p1 => by omega⟩ ?_ ?_
    · simp! only [and_true]
      exact p
    · rintro i ρ' Ω' hi ⟨rfl, ⟨x4, rfl⟩, hh⟩
      obtain ⟨k, k1, k2, _⟩ := atI_ix (ns := g.hs) (p := s + i) (by omega) (by omega)
      simp! only [e1, e2, k2]
      refine itei (fun hx => q2 (s + i) k (by omega) (by omega) hh k1 (by simpa using hx)) fun hx p p0 p1 => ?_
      by_cases hp : p < s + i
      · exact hh p p0 hp
      · rw [show p = s + i by omega, k1, show k = h by simpa using hx]
    · rintro ρ' Ω' ⟨rfl, ⟨x4, rfl⟩, hh⟩
      exact q1 fun p p0 p1 => hh p p0 (by omega)
theorem ok_Ground_need_fill (T : Tx K mg) : FnOk P w K mg base (L2.CX P w) 3 (He.ma K (He.ga K "Ground") "_need_fill") T.fd_Ground_need_fill P_Ground_need_fill (spD K (wp_nfill K) 3) := by
  refine dok T.F_Ground_need_fill sc_Ground_need_fill fun cdv A outer s H E hr => ?_
  refine' dokMk ((pss_one (ps_for (passes_of rfl) rfl (pi_range2 rfl T.z_range (pa_cons (pv 1) (pa_cons (pv 2) pa_nil))) (pg_name (i := 3) sc_Ground_need_fill.nd rfl (Or.inl rfl)) (pss_one (ps_if (PW.pt (pw_and (pt_cmpR op_eq (pe_ix (show IxR _ (LL.rIxA K) from LL.ix_A) (pe_fld (pv 0) rfl) (pv 3) (fun _ _ => rfl)) (pe_glob (v := .int 0) rfl T.c_NOBODY.choose_spec ⟨_, rfl⟩) (nomark _)) (pw_and1 (pt_cmpR op_ne (pe_ix (show IxR _ (LL.rIxA K) from LL.ix_A) (pe_fld (pv 0) rfl) (pv 3) (fun _ _ => rfl)) (pe_fld (pv 0) rfl) (nomark _))))) (pss_one (ps_raise rfl (takes_of rfl rfl rfl rfl) (pmk_oex T.v_Broken.oex T.v_Broken.ini T.v_Broken.typ (okE_Broken T) hr (b_Broken T) .nil pass0 rfl T.g_Broken (pa_cons (pv 3) (pa_cons (pe_ix (show IxR _ (LL.rIxA K) from LL.ix_A) (pe_fld (pv 0) rfl) (pv 3) (fun _ _ => rfl)) (pa_cons (pe_fld (pv 0) rfl) pa_nil)))))) pss_nil))))) ?sim ?go
  case sim =>
    try simp only [LL.cxK0, LL.cxK1, List.map_cons, List.map_nil]
    repeat' (first | with_reducible apply sim_gLst | with_reducible apply sim_tryR0 | with_reducible apply sim_tryR | with_reducible apply SimRow.cons | with_reducible exact SimRow.nil | with_reducible apply sim_mthS (dts := []) .nil | with_reducible apply sim_makeK (gT := fun ts us => ts ++ us) (fun _ _ _ _ _ _ _ h1 h2 => vdl_app h2 h1) | with_reducible apply sim_fld T.c_Ground T.n_Ground_pages | with_reducible apply sim_fld T.c_Ground T.n_Ground_width | with_reducible apply sim_fld T.c_Ground T.n_Ground_fill | with_reducible apply sim_fld T.c_Ground T.n_Ground__budget | with_reducible apply sim_fld T.c_Ground T.n_Ground__spent | with_reducible apply sim_fld T.c_Ground T.n_Ground__words | with_reducible apply sim_fld T.c_Ground T.n_Ground__holders | with_reducible apply sim_fld T.c_Ground T.n_Ground__deeds | with_reducible apply sim_setF T.c_Ground T.n_Ground_pages | with_reducible apply sim_setF T.c_Ground T.n_Ground_width | with_reducible apply sim_setF T.c_Ground T.n_Ground_fill | with_reducible apply sim_setF T.c_Ground T.n_Ground__budget | with_reducible apply sim_setF T.c_Ground T.n_Ground__spent | with_reducible apply sim_setF T.c_Ground T.n_Ground__words | with_reducible apply sim_setF T.c_Ground T.n_Ground__holders | with_reducible apply sim_setF T.c_Ground T.n_Ground__deeds | with_reducible apply sim_forI | with_reducible apply sim_pop | with_reducible apply sim_tru | with_reducible apply sim_prop | with_reducible apply sim_make (dts := []) .nil | with_reducible apply sim_make0 (dts := []) .nil | with_reducible apply sim_meth0 (dts := []) .nil | with_reducible apply sim_meth (dts := []) .nil | fail "s")
  case go =>
    intro ts Ω PQ PX hl h
    obtain ⟨g, s, e, rfl, A, h0, h1, h2, h3, h4, q1, q2⟩ := h
    have e1 := A.holders
    have e2 := asS_obj A.h
    have e3 := A.words
    have e4 := asS_obj A.b
    have e5 := A.fill
    simp! only [N_Ground_need_fill]
    refine for_R2 (a := s) (b := e) (Ω1 := Ω) (fun P p => ?_) (by omega) (fun i ρ' Ω' => Ω' = Ω ∧ (∃ x4, ρ' = [some (.obj g.a), some (.int s), some (.int e), x4]) ∧ isFill g s (s + i)) ⟨rfl, ⟨_, rfl⟩, fun p p0 p1 => by omega⟩ ?_ ?_
    · simp! only [and_true]
      exact p
    · rintro i ρ' Ω' hi ⟨rfl, ⟨x4, rfl⟩, hh⟩
      obtain ⟨k, k1, k2, _⟩ := atI_ix (ns := g.hs) (p := s + i) (by omega) (by omega)
      obtain ⟨l, l1, l2, _⟩ := atI_ix (ns := g.ws) (p := s + i) (by omega) (by omega)
      simp! only [e1, e2, e3, e4, e5, k2, l2]
      refine itei (fun hk => itei (fun hx => q2 (s + i) l (by omega) (by omega) hh (by rw [k1, hk]) l1 (by simpa using hx)) fun hx p p0 p1 hz => ?_) fun hk p p0 p1 hz => ?_
      · by_cases hp : p < s + i
        · exact hh p p0 hp hz
        · rw [show p = s + i by omega, l1, show l = g.f by simpa using hx]
      · by_cases hp : p < s + i
        · exact hh p p0 hp hz
        · rw [show p = s + i by omega, k1] at hz
          exact (hk (Option.some.inj hz)).elim
    · rintro ρ' Ω' ⟨rfl, ⟨x4, rfl⟩, hh⟩
      exact q1 fun p p0 p1 => hh p p0 (by omega)
/-! ### deeds -/
theorem At.ne {K : PySem.W.Frag} {g : Grd} {Ω : Om} (A : At K g Ω) {x : Addr} (h : x ∈ g.own) : Ω x ≠ none := by
  simp only [Grd.own, List.mem_cons, List.mem_map] at h
  rcases h with rfl | rfl | rfl | rfl | ⟨y, hy, rfl⟩
  · rw [A.o]; simp
  · rw [A.b]; simp
  · rw [A.h]; simp
  · rw [A.d]; simp
  · rw [A.e y hy]; simp
/-- the object's own addresses differ -/
structure Apart (g : Grd) : Prop where
  ab : g.a ≠ g.b
  ah : g.a ≠ g.h
  ad : g.a ≠ g.d
  bh : g.b ≠ g.h
  bd : g.b ≠ g.d
  hd : g.h ≠ g.d
  ea : ∀ x ∈ g.ds, x.e ≠ g.a
  eb : ∀ x ∈ g.ds, x.e ≠ g.b
  eh : ∀ x ∈ g.ds, x.e ≠ g.h
  ed : ∀ x ∈ g.ds, x.e ≠ g.d
  ee : (g.ds.map (·.e)).Nodup
theorem apart_iff {g : Grd} : g.own.Nodup ↔ Apart g := by
  simp only [Grd.own, List.nodup_cons, List.mem_cons, List.mem_map, not_or, not_exists, not_and]
  constructor
  · rintro ⟨⟨h1, h2, h3, h4⟩, ⟨h5, h6, h7⟩, ⟨h8, h9⟩, h10, h11⟩
    exact ⟨h1, h2, h3, h5, h6, h8, h4, h7, h9, h10, h11⟩
  · rintro ⟨h1, h2, h3, h5, h6, h8, h4, h7, h9, h10, h11⟩
    exact ⟨⟨h1, h2, h3, h4⟩, ⟨h5, h6, h7⟩, ⟨h8, h9⟩, h10, h11⟩
theorem At.begin {K : PySem.W.Frag} {g : Grd} {Ω : Om} (A : At K g Ω) {e : Addr} (he : Ω e = none) : At K { g with ds := g.ds ++ [⟨e, []⟩] } (put (put Ω e (.dic [] [])) g.d (.lst (g.ds.map (fun x => .obj x.e) ++ [.obj e]))) ∧ Fr { g with ds := g.ds ++ [⟨e, []⟩] } Ω (put (put Ω e (.dic [] [])) g.d (.lst (g.ds.map (fun x => .obj x.e) ++ [.obj e]))) := by
  have n : ∀ x ∈ g.own, x ≠ e := fun x hx z => A.ne hx (z ▸ he)
  have na := n g.a (by simp [Grd.own])
  have nb := n g.b (by simp [Grd.own])
  have nh := n g.h (by simp [Grd.own])
  have nd := n g.d (by simp [Grd.own])
  have ne : ∀ x ∈ g.ds, x.e ≠ e := fun x hx => n x.e (by simp only [Grd.own, List.mem_cons, List.mem_map]; exact .inr (.inr (.inr (.inr ⟨x, hx, rfl⟩))))
  have P := apart_iff.mp A.nd
  refine ⟨⟨?_, ?_, ?_, ?_, fun x hx => ?_, apart_iff.mpr ⟨P.ab, P.ah, P.ad, P.bh, P.bd, P.hd, ?_, ?_, ?_, ?_, ?_⟩⟩, fun x hx => ?_⟩
  · rw [put_ne P.ad, put_ne na]; exact A.o
  · rw [put_ne P.bd, put_ne nb]; exact A.b
  · rw [put_ne P.hd, put_ne nh]; exact A.h
  · rw [put_same, List.map_append]; rfl
  · rcases List.mem_append.mp hx with hx | hx
    · rw [put_ne (P.ed x hx), put_ne (ne x hx)]; exact A.e x hx
    · rw [List.mem_singleton.mp hx, put_ne (Ne.symm nd), put_same]; rfl
  · intro x hx
    rcases List.mem_append.mp hx with hx | hx
    · exact P.ea x hx
    · rw [List.mem_singleton.mp hx]; exact Ne.symm na
  · intro x hx
    rcases List.mem_append.mp hx with hx | hx
    · exact P.eb x hx
    · rw [List.mem_singleton.mp hx]; exact Ne.symm nb
  · intro x hx
    rcases List.mem_append.mp hx with hx | hx
    · exact P.eh x hx
    · rw [List.mem_singleton.mp hx]; exact Ne.symm nh
  · intro x hx
    rcases List.mem_append.mp hx with hx | hx
    · exact P.ed x hx
    · rw [List.mem_singleton.mp hx]; exact Ne.symm nd
  · rw [List.map_append]
    refine List.nodup_append.mpr ⟨P.ee, List.nodup_cons.mpr ⟨List.not_mem_nil, List.nodup_nil⟩, fun x hx y hy z => ?_⟩
    obtain ⟨w, hw, rfl⟩ := List.mem_map.mp hx
    exact ne w hw (by rw [z, List.mem_singleton.mp hy])
  · simp only [Grd.own, List.mem_cons, List.map_append, List.mem_append, List.map_cons, List.map_nil, not_or] at hx
    rw [put_ne hx.2.2.2.1, put_ne (fun z => hx.2.2.2.2.2.1 z)]
noncomputable def wp_begin (K : PySem.W.Frag) : Pw := fun ts Ω PQ _ => ∃ g : Grd, ts = [.obj g.a] ∧ At K g Ω ∧ g.ds.length ≤ 1000 ∧ ∀ (e : Addr) (Ω' : Om), Ω e = none → At K { g with ds := g.ds ++ [⟨e, []⟩] } Ω' → Fr { g with ds := g.ds ++ [⟨e, []⟩] } Ω Ω' → PQ (.int (g.ds.length + 1)) Ω'
theorem ok_Ground_begin (T : Tx K mg) : FnOk P w K mg base CX0 1 (He.ma K (He.ga K "Ground") "begin") T.fd_Ground_begin P_Ground_begin (spD K (wp_begin K) 1) := by
  refine dok T.F_Ground_begin sc_Ground_begin fun cdv A outer s H E hr => ?_
  refine' dokMk (PSs.nox (pss_cons (ps_expr (pe_bm PySem.F.plainAttrs_list PySem.F.slot_list_append PySem.F.type_list_append mt_append (pe_fld (pv 0) rfl) (pa_cons (pe_dnewK) pa_nil))) (pss_one (ps_ret (pe_callB (show CallR _ _ (LT.rLenS K) from LT.call_lenS) (by rfl) T.z_len (by decide +kernel) (pa_cons (pe_fld (pv 0) rfl) pa_nil)))))) ?sim ?go
  case sim =>
    try simp only [LL.cxK0, LL.cxK1, List.map_cons, List.map_nil]
    repeat' (first | with_reducible apply sim_gLst | with_reducible apply sim_tryR0 | with_reducible apply sim_tryR | with_reducible apply SimRow.cons | with_reducible exact SimRow.nil | with_reducible apply sim_mthS (dts := []) .nil | with_reducible apply sim_makeK (gT := fun ts us => ts ++ us) (fun _ _ _ _ _ _ _ h1 h2 => vdl_app h2 h1) | with_reducible apply sim_fld T.c_Ground T.n_Ground_pages | with_reducible apply sim_fld T.c_Ground T.n_Ground_width | with_reducible apply sim_fld T.c_Ground T.n_Ground_fill | with_reducible apply sim_fld T.c_Ground T.n_Ground__budget | with_reducible apply sim_fld T.c_Ground T.n_Ground__spent | with_reducible apply sim_fld T.c_Ground T.n_Ground__words | with_reducible apply sim_fld T.c_Ground T.n_Ground__holders | with_reducible apply sim_fld T.c_Ground T.n_Ground__deeds | with_reducible apply sim_setF T.c_Ground T.n_Ground_pages | with_reducible apply sim_setF T.c_Ground T.n_Ground_width | with_reducible apply sim_setF T.c_Ground T.n_Ground_fill | with_reducible apply sim_setF T.c_Ground T.n_Ground__budget | with_reducible apply sim_setF T.c_Ground T.n_Ground__spent | with_reducible apply sim_setF T.c_Ground T.n_Ground__words | with_reducible apply sim_setF T.c_Ground T.n_Ground__holders | with_reducible apply sim_setF T.c_Ground T.n_Ground__deeds | with_reducible apply sim_forI | with_reducible apply sim_pop | with_reducible apply sim_tru | with_reducible apply sim_prop | with_reducible apply sim_make (dts := []) .nil | with_reducible apply sim_make0 (dts := []) .nil | with_reducible apply sim_meth0 (dts := []) .nil | with_reducible apply sim_meth (dts := []) .nil | fail "s")
  case go =>
    intro ts Ω PQ PX hl h
    obtain ⟨g, rfl, A, hl, q⟩ := h
    have e1 := A.deeds
    simp! only [N_Ground_begin, e1]
    refine ⟨by rw [asL_obj A.d]; rfl, .inr fun e he => ?_⟩
    obtain ⟨A', F⟩ := A.begin he
    have hd : put Ω e (.dic [] []) g.d = some (.lst (g.ds.map fun x => .obj x.e)) := by rw [put_ne (fun z => A.ne (by simp [Grd.own]) (z ▸ he))]; exact A.d
    refine ⟨_, hd, by rw [List.length_map]; omega, ?_⟩
    have e2 := A'.deeds
    have e3 := lenT_obj A'.d
    simp only [List.map_append, List.map_cons, List.map_nil] at e2 e3
    simp! only [e2, e3]
    simp only [List.length_append, List.length_map, List.length_cons, List.length_nil] at *
    exact fun _ => q e _ he A' F
theorem Fr.refl {g : Grd} {Ω : Om} : Fr g Ω Ω := fun _ _ => rfl
theorem Fr.trans {g g' : Grd} {Ω Ω' Ω2 : Om} (h : g.own = g'.own) (f : Fr g Ω Ω') (f' : Fr g' Ω' Ω2) : Fr g' Ω Ω2 := fun x hx => by rw [f' x hx, f x (by rw [h]; exact hx)]
theorem Fr.put {g : Grd} {Ω : Om} {a : Addr} {c : Cell} (h : a ∈ g.own) : Fr g Ω (put Ω a c) := fun x hx => put_ne fun z => hx (z ▸ h)
theorem At.setB {K : PySem.W.Frag} {g : Grd} {Ω : Om} (A : At K g Ω) (ws : List Int) : At K { g with ws := ws } (put Ω g.b (.lst (ws.map Tr.int))) := by
  have P := apart_iff.mp A.nd
  exact ⟨by rw [put_ne P.ab]; exact A.o, put_same, by rw [put_ne (Ne.symm P.bh)]; exact A.h, by rw [put_ne (Ne.symm P.bd)]; exact A.d, fun x hx => by rw [put_ne (P.eb x hx)]; exact A.e x hx, A.nd⟩
theorem At.setH {K : PySem.W.Frag} {g : Grd} {Ω : Om} (A : At K g Ω) (hs : List Int) : At K { g with hs := hs } (put Ω g.h (.lst (hs.map Tr.int))) := by
  have P := apart_iff.mp A.nd
  exact ⟨by rw [put_ne P.ah]; exact A.o, by rw [put_ne P.bh]; exact A.b, put_same, by rw [put_ne (Ne.symm P.hd)]; exact A.d, fun x hx => by rw [put_ne (P.eh x hx)]; exact A.e x hx, A.nd⟩
theorem At.setE {K : PySem.W.Frag} {g : Grd} {Ω : Om} {d0 : List Deed} {x : Deed} (A : At K g Ω) (hd : g.ds = d0 ++ [x]) (rs : List (Int × Int × Int)) : At K { g with ds := d0 ++ [⟨x.e, rs⟩] } (put Ω x.e (deC ⟨x.e, rs⟩)) ∧ g.own = Grd.own { g with ds := d0 ++ [⟨x.e, rs⟩] } := by
  have P := apart_iff.mp A.nd
  have hx : x ∈ g.ds := by rw [hd]; exact List.mem_append_right _ (List.mem_singleton_self _)
  have own : g.own = Grd.own { g with ds := d0 ++ [⟨x.e, rs⟩] } := by
    unfold Grd.own
    rw [hd, List.map_append, List.map_append]
    rfl
  refine ⟨⟨by rw [put_ne (Ne.symm (P.ea x hx))]; exact A.o, by rw [put_ne (Ne.symm (P.eb x hx))]; exact A.b, by rw [put_ne (Ne.symm (P.eh x hx))]; exact A.h, ?_, fun y hy => ?_, own ▸ A.nd⟩, own⟩
  · rw [put_ne (Ne.symm (P.ed x hx)), A.d, hd, List.map_append, List.map_append]
    rfl
  · rcases List.mem_append.mp hy with hy | hy
    · have ee := P.ee
      rw [hd, List.map_append] at ee
      have hne : y.e ≠ x.e := (List.nodup_append.mp ee).2.2 y.e (List.mem_map.mpr ⟨y, hy, rfl⟩) x.e (List.mem_singleton_self _)
      rw [put_ne hne]
      exact A.e y (by rw [hd]; exact List.mem_append_left _ hy)
    · rw [List.mem_singleton.mp hy, put_same]
theorem val_rows : ∀ {rs : List (Int × Int × Int)} {p : Int}, (valT (rs.map rowK) (rs.map rowV) (.inl p)).isSome = decide (p ∈ rs.map (·.1))
  | [], _ => rfl
  | r :: rs, p => by
    rw [List.map_cons, List.map_cons, List.map_cons, valT_cons]
    by_cases h : r.1 = p
    · rw [if_pos (show rowK r = .inl p by unfold rowK; rw [h]), decide_eq_true (by rw [h]; exact List.mem_cons_self)]
      rfl
    · rw [if_neg (show ¬ rowK r = .inl p from fun z => h (Sum.inl.inj z)), val_rows]
      congr 1
      simp only [List.mem_cons, eq_iff_iff]
      exact ⟨fun z => .inr z, fun z => z.resolve_left (fun e => h e.symm)⟩
theorem put_rows {rs : List (Int × Int × Int)} {r : Int × Int × Int} (h : r.1 ∉ rs.map (·.1)) : putL (rs.map rowK) (rs.map rowV) (.inl r.1) (rowV r) = (rs ++ [r]).map fun r => (rowK r, rowV r) := by
  unfold putL
  have e : (rs.map rowK).zip (rs.map rowV) = rs.map fun r => (rowK r, rowV r) := List.zip_map' ..
  rw [e, putT_new, List.map_append]
  · rfl
  · rw [List.map_map]
    intro hm
    obtain ⟨s, hs, e2⟩ := List.mem_map.mp hm
    exact h (List.mem_map.mpr ⟨s, hs, Sum.inl.inj e2⟩)
theorem put_deed {Ω : Om} {e : Addr} {rs : List (Int × Int × Int)} {r : Int × Int × Int} (h : r.1 ∉ rs.map (·.1)) : put Ω e (.dic ((putL (rs.map rowK) (rs.map rowV) (.inl r.1) (rowV r)).map (·.1)) ((putL (rs.map rowK) (rs.map rowV) (.inl r.1) (rowV r)).map (·.2))) = put Ω e (deC ⟨e, rs ++ [r]⟩) := by
  rw [put_rows h, List.map_map, List.map_map]
  rfl
noncomputable def addR (rs : List (Int × Int × Int)) (p w h : Int) : List (Int × Int × Int) := if p ∈ rs.map (·.1) then rs else rs ++ [(p, w, h)]
/-- a place changed, within the last deed -/
noncomputable def chgG (g : Grd) (d0 : List Deed) (x : Deed) (p w h : Int) : Grd := { g with ws := g.ws.set p.toNat w, hs := g.hs.set p.toNat h, ds := d0 ++ [⟨x.e, addR x.rs p ((g.ws[p.toNat]?).getD 0) ((g.hs[p.toNat]?).getD 0)⟩] }
noncomputable def wp_change (K : PySem.W.Frag) : Pw := fun ts Ω PQ _ => ∃ (g : Grd) (d0 : List Deed) (x : Deed) (p w h : Int), ts = [.obj g.a, .int p, .int w, .int h] ∧ At K g Ω ∧ g.ds = d0 ++ [x] ∧ 0 ≤ p ∧ p < g.ws.length ∧ g.ws.length = g.hs.length ∧ x.rs.length ≤ 100000 ∧ ∀ Ω', At K (chgG g d0 x p w h) Ω' → Fr (chgG g d0 x p w h) Ω Ω' → PQ .non Ω'
theorem ok_Ground_change (T : Tx K mg) : FnOk P w K mg base CX0 1 (He.ma K (He.ga K "Ground") "_change") T.fd_Ground_change P_Ground_change (spD K (wp_change K) 4) := by
  refine dok T.F_Ground_change sc_Ground_change fun cdv A outer s H E hr => ?_
  refine' dokMk (PSs.nox (pss_cons (ps_set (i := 4) sc_Ground_change.nd rfl (Or.inl rfl) (pe_ix (show IxR _ (LL.rIxA K) from LL.ix_A) (pe_fld (pv 0) rfl) (pe_un un_neg (pe_int)) (fun _ _ => rfl))) (pss_cons (ps_if (pt_cmp (pc_dnotin (hu_of hr) (pv 1) (pv 4))) (pss_one (ps_dput (hu_of hr) (pv 4) (pv 1) (pe_tup (pa_cons (pe_ix (show IxR _ (LL.rIxA K) from LL.ix_A) (pe_fld (pv 0) rfl) (pv 1) (fun _ _ => rfl)) (pa_cons (pe_ix (show IxR _ (LL.rIxA K) from LL.ix_A) (pe_fld (pv 0) rfl) (pv 1) (fun _ _ => rfl)) pa_nil))) rfl)) pss_nil) (pss_cons (ps_asg (pv 2) (pg_sub (pe_fld (pv 0) rfl) (pv 1) set_list)) (pss_one (ps_asg (pv 3) (pg_sub (pe_fld (pv 0) rfl) (pv 1) set_list))))))) ?sim ?go
  case sim =>
    try simp only [LL.cxK0, LL.cxK1, List.map_cons, List.map_nil]
    repeat' (first | with_reducible apply sim_gLst | with_reducible apply sim_tryR0 | with_reducible apply sim_tryR | with_reducible apply SimRow.cons | with_reducible exact SimRow.nil | with_reducible apply sim_mthS (dts := []) .nil | with_reducible apply sim_makeK (gT := fun ts us => ts ++ us) (fun _ _ _ _ _ _ _ h1 h2 => vdl_app h2 h1) | with_reducible apply sim_fld T.c_Ground T.n_Ground_pages | with_reducible apply sim_fld T.c_Ground T.n_Ground_width | with_reducible apply sim_fld T.c_Ground T.n_Ground_fill | with_reducible apply sim_fld T.c_Ground T.n_Ground__budget | with_reducible apply sim_fld T.c_Ground T.n_Ground__spent | with_reducible apply sim_fld T.c_Ground T.n_Ground__words | with_reducible apply sim_fld T.c_Ground T.n_Ground__holders | with_reducible apply sim_fld T.c_Ground T.n_Ground__deeds | with_reducible apply sim_setF T.c_Ground T.n_Ground_pages | with_reducible apply sim_setF T.c_Ground T.n_Ground_width | with_reducible apply sim_setF T.c_Ground T.n_Ground_fill | with_reducible apply sim_setF T.c_Ground T.n_Ground__budget | with_reducible apply sim_setF T.c_Ground T.n_Ground__spent | with_reducible apply sim_setF T.c_Ground T.n_Ground__words | with_reducible apply sim_setF T.c_Ground T.n_Ground__holders | with_reducible apply sim_setF T.c_Ground T.n_Ground__deeds | with_reducible apply sim_forI | with_reducible apply sim_pop | with_reducible apply sim_tru | with_reducible apply sim_prop | with_reducible apply sim_make (dts := []) .nil | with_reducible apply sim_make0 (dts := []) .nil | with_reducible apply sim_meth0 (dts := []) .nil | with_reducible apply sim_meth (dts := []) .nil | fail "s")
  case go =>
    intro ts Ω PQ PX hl h
    obtain ⟨g, d0, x, p, w, h, rfl, A, hd, h0, h1, h2, h3, q⟩ := h
    have e1 := A.deeds
    have e2 := asS_obj A.d
    have e3 : L2.atI (g.ds.map fun x => Tr.obj x.e) (-1) = some (.obj x.e) := by
      rw [hd]
      exact LT.atI_last (n := d0.length) (by simp) (by simp)
    have hx : x ∈ g.ds := by rw [hd]; exact List.mem_append_right _ (List.mem_singleton_self _)
    have e4 : asD (.obj x.e) Ω = some (x.rs.map rowK, x.rs.map rowV) := asD_obj (A.e x hx)
    have e5 := val_rows (rs := x.rs) (p := p)
    obtain ⟨w0, k1, k2, k3⟩ := atI_ix (ns := g.ws) (p := p) h0 h1
    obtain ⟨v0, l1, l2, l3⟩ := atI_ix (ns := g.hs) (p := p) h0 (by omega)
    rw [show chgG g d0 x p w h = { g with ws := g.ws.set p.toNat w, hs := g.hs.set p.toNat h, ds := d0 ++ [⟨x.e, addR x.rs p w0 v0⟩] } by unfold chgG; rw [k1, l1]; rfl] at q
    simp! only [N_Ground_change, e1, e2, e3, e4, e5]
    refine itei (fun hn => ?_) fun hn => ?_
    · have hn' : p ∉ x.rs.map (·.1) := by simpa using hn
      obtain ⟨A1, own⟩ := A.setE hd (x.rs ++ [(p, w0, v0)])
      rw [show addR x.rs p w0 v0 = x.rs ++ [(p, w0, v0)] from if_neg hn'] at q
      have F1 : Fr { g with ds := d0 ++ [⟨x.e, x.rs ++ [(p, w0, v0)]⟩] } Ω (put Ω x.e (deC ⟨x.e, x.rs ++ [(p, w0, v0)]⟩)) := .put (by rw [← own]; simp only [Grd.own, List.mem_cons, List.mem_map]; exact .inr (.inr (.inr (.inr ⟨x, hx, rfl⟩))))
      refine ⟨_, A.words, _, asS_obj A.b, _, k2, _, A.holders, _, asS_obj A.h, _, l2, _, _, A.e x hx, by rw [List.length_map]; omega, ?_⟩
      rw [show Tr.tup [.int w0, .int v0] = rowV (p, w0, v0) from rfl, put_deed (r := (p, w0, v0)) hn']
      generalize put Ω x.e (deC ⟨x.e, x.rs ++ [(p, w0, v0)]⟩) = Ω1 at A1 F1 ⊢
      refine ⟨_, A1.words, _, rfl, _, A1.b, _, k3, ?_⟩
      rw [show ((g.ws.map Tr.int).set p.toNat (.int w)) = (g.ws.set p.toNat w).map Tr.int from List.map_set.symm]
      have A2 := A1.setB (g.ws.set p.toNat w)
      have F2 := F1.trans rfl (Fr.put (a := g.b) (c := .lst ((g.ws.set p.toNat w).map Tr.int)) (by simp [Grd.own]))
      refine ⟨_, A2.holders, _, rfl, _, A2.h, _, l3, ?_⟩
      rw [show ((g.hs.map Tr.int).set p.toNat (.int h)) = (g.hs.set p.toNat h).map Tr.int from List.map_set.symm]
      exact q _ (A2.setH _) (F2.trans rfl (Fr.put (by simp [Grd.own])))
    · have hn' : p ∈ x.rs.map (·.1) := by simpa using hn
      rw [show addR x.rs p w0 v0 = x.rs from if_pos hn', show d0 ++ [⟨x.e, x.rs⟩] = g.ds from hd.symm] at q
      refine ⟨_, A.words, _, rfl, _, A.b, _, k3, ?_⟩
      rw [show ((g.ws.map Tr.int).set p.toNat (.int w)) = (g.ws.set p.toNat w).map Tr.int from List.map_set.symm]
      have A2 := A.setB (g.ws.set p.toNat w)
      have F2 : Fr g Ω (put Ω g.b (.lst ((g.ws.set p.toNat w).map Tr.int))) := .put (by simp [Grd.own])
      refine ⟨_, A2.holders, _, rfl, _, A2.h, _, l3, ?_⟩
      rw [show ((g.hs.map Tr.int).set p.toNat (.int h)) = (g.hs.set p.toNat h).map Tr.int from List.map_set.symm]
      exact q _ (A2.setH _) (F2.trans rfl (Fr.put (by simp [Grd.own])))
/-! ### what a deed costs -/
noncomputable def costR (g : Grd) (rs : List (Int × Int × Int)) : Nat := (rs.filter fun r => !(decide (g.ws[r.1.toNat]? = some r.2.1) && decide (g.hs[r.1.toNat]? = some r.2.2))).length
noncomputable def RowsIn (g : Grd) (rs : List (Int × Int × Int)) : Prop := ∀ r ∈ rs, 0 ≤ r.1 ∧ r.1 < g.ws.length ∧ r.1 < g.hs.length
noncomputable def wp_cost (K : PySem.W.Frag) : Pw := fun ts Ω PQ _ => ∃ (g : Grd) (d0 : List Deed) (x : Deed), ts = [.obj g.a] ∧ At K g Ω ∧ g.ds = d0 ++ [x] ∧ RowsIn g x.rs ∧ x.rs.length ≤ 100000 ∧ PQ (.int (costR g x.rs)) Ω
theorem items_rows {rs : List (Int × Int × Int)} : itemsT (rs.map rowK) (rs.map rowV) = rs.map fun r => .tup [.int r.1, .tup [.int r.2.1, .int r.2.2]] := by
  unfold itemsT
  rw [List.zip_map', List.map_map]
  rfl
theorem put_cut {Ω : Om} {a : Addr} {c : Cell} (h : Ω a = some c) : put (cut Ω a) a c = Ω := by
  funext b
  by_cases hb : b = a
  · subst hb; rw [put_same, h]
  · rw [put_ne hb, cut_ne hb]
theorem insF_cut {Ω : Om} {C b : Addr} {f : Str} {a : Addr} (h : b ≠ a) : insF C f (.obj b) (cut Ω a) = insF C f (.obj b) Ω := by
  simp only [insF, insC, LT.cut_ne h]
theorem cost_take {g : Grd} {rs : List (Int × Int × Int)} {j : Nat} {r : Int × Int × Int} {w0 v0 : Int} (hr : rs[j]? = some r) (hw : g.ws[r.1.toNat]? = some w0) (hv : g.hs[r.1.toNat]? = some v0) : costR g (rs.take (j + 1)) = costR g (rs.take j) + if w0 = r.2.1 ∧ v0 = r.2.2 then 0 else 1 := by
  have e1 : rs.take (j + 1) = rs.take j ++ [r] := take_one hr
  unfold costR
  rw [e1, List.filter_append, List.length_append, List.filter_cons, hw, hv]
  congr 1
  by_cases h1 : w0 = r.2.1 <;> by_cases h2 : v0 = r.2.2 <;> simp [h1, h2]
theorem ok_Ground_cost (T : Tx K mg) : FnOk P w K mg base CX0 1 (He.ma K (He.ga K "Ground") "_cost") T.fd_Ground_cost P_Ground_cost (spD K (wp_cost K) 1) := by
  refine dok T.F_Ground_cost sc_Ground_cost fun cdv A outer s H E hr => ?_
  refine' dokMk (PSs.nox (pss_cons (ps_set (i := 1) sc_Ground_cost.nd rfl (Or.inl rfl) (pe_ix (show IxR _ (LL.rIxA K) from LL.ix_A) (pe_fld (pv 0) rfl) (pe_un un_neg (pe_int)) (fun _ _ => rfl))) (pss_cons (ps_set (i := 2) sc_Ground_cost.nd rfl (Or.inl rfl) (pe_int)) (pss_cons (ps_lock (ps_for PassesOwn.never rfl (pi_items (pv 1)) (LT.pg_tupK (K := K) (n := 2) rfl rfl (pgs_cons (pg_name (i := 3) sc_Ground_cost.nd rfl (Or.inl rfl)) (pgs_cons (LT.pg_tupK (K := K) (n := 2) rfl rfl (pgs_cons (pg_name (i := 4) sc_Ground_cost.nd rfl (Or.inl rfl)) (pgs_cons (pg_name (i := 5) sc_Ground_cost.nd rfl (Or.inl rfl)) pgs_nil))) pgs_nil))) (pss_one (ps_if (PW.pt (pw_or (pt_cmpR op_ne (pe_ix (show IxR _ (LL.rIxA K) from LL.ix_A) (pe_fld (pv 0) rfl) (pv 3) (fun _ _ => rfl)) (pv 4) (nomark _)) (pw_or1 (pt_cmpR op_ne (pe_ix (show IxR _ (LL.rIxA K) from LL.ix_A) (pe_fld (pv 0) rfl) (pv 3) (fun _ _ => rfl)) (pv 5) (nomark _))))) (pss_one (ps_set (i := 2) sc_Ground_cost.nd rfl (Or.inl rfl) (pe_op (show OpR _ _ (LT.rAddG K) from LT.op_addG) (pv 2) (pe_int)))) pss_nil)))) (pss_one (ps_ret (pv 2))))))) ?sim ?go
  case sim =>
    try simp only [LL.cxK0, LL.cxK1, List.map_cons, List.map_nil]
    repeat' (first | with_reducible apply sim_gLst | with_reducible apply sim_tryR0 | with_reducible apply sim_tryR | with_reducible apply SimRow.cons | with_reducible exact SimRow.nil | with_reducible apply sim_mthS (dts := []) .nil | with_reducible apply sim_makeK (gT := fun ts us => ts ++ us) (fun _ _ _ _ _ _ _ h1 h2 => vdl_app h2 h1) | with_reducible apply sim_fld T.c_Ground T.n_Ground_pages | with_reducible apply sim_fld T.c_Ground T.n_Ground_width | with_reducible apply sim_fld T.c_Ground T.n_Ground_fill | with_reducible apply sim_fld T.c_Ground T.n_Ground__budget | with_reducible apply sim_fld T.c_Ground T.n_Ground__spent | with_reducible apply sim_fld T.c_Ground T.n_Ground__words | with_reducible apply sim_fld T.c_Ground T.n_Ground__holders | with_reducible apply sim_fld T.c_Ground T.n_Ground__deeds | with_reducible apply sim_setF T.c_Ground T.n_Ground_pages | with_reducible apply sim_setF T.c_Ground T.n_Ground_width | with_reducible apply sim_setF T.c_Ground T.n_Ground_fill | with_reducible apply sim_setF T.c_Ground T.n_Ground__budget | with_reducible apply sim_setF T.c_Ground T.n_Ground__spent | with_reducible apply sim_setF T.c_Ground T.n_Ground__words | with_reducible apply sim_setF T.c_Ground T.n_Ground__holders | with_reducible apply sim_setF T.c_Ground T.n_Ground__deeds | with_reducible apply sim_forI | with_reducible apply sim_pop | with_reducible apply sim_tru | with_reducible apply sim_prop | with_reducible apply sim_make (dts := []) .nil | with_reducible apply sim_make0 (dts := []) .nil | with_reducible apply sim_meth0 (dts := []) .nil | with_reducible apply sim_meth (dts := []) .nil | fail "s")
  case go =>
    intro ts Ω PQ PX hl h
    obtain ⟨g, d0, x, rfl, A, hd, hr, hz, q⟩ := h
    have e1 := A.deeds
    have e2 := asS_obj A.d
    have e3 : L2.atI (g.ds.map fun x => Tr.obj x.e) (-1) = some (.obj x.e) := by
      rw [hd]
      exact LT.atI_last (n := d0.length) (by simp) (by simp)
    have hx : x ∈ g.ds := by rw [hd]; exact List.mem_append_right _ (List.mem_singleton_self _)
    have P := apart_iff.mp A.nd
    simp! only [N_Ground_cost, e1, e2, e3]
    refine ⟨x.e, x.rs.map rowK, x.rs.map rowV, rfl, A.e x hx, fun j ρ' Ω' => Ω' = cut Ω x.e ∧ ∃ x3 x4 x5, ρ' = [some (.obj g.a), some (.obj x.e), some (.int (costR g (x.rs.take j))), x3, x4, x5], ⟨rfl, _, _, _, rfl⟩, ?_, ?_⟩
    · rintro j t ρ' Ω' ht ⟨rfl, x3, x4, x5, rfl⟩
      rw [items_rows, List.getElem?_map] at ht
      obtain ⟨r, hr1, rfl⟩ := Option.map_eq_some_iff.mp ht
      obtain ⟨b0, b1, b2⟩ := hr r (List.mem_of_getElem? hr1)
      obtain ⟨w0, k1, k2, _⟩ := atI_ix (ns := g.ws) (p := r.1) b0 b1
      obtain ⟨v0, l1, l2, _⟩ := atI_ix (ns := g.hs) (p := r.1) b0 b2
      have f1 := (insF_cut (C := cG K) (f := "_words") (Ω := Ω) (Ne.symm (P.ea x hx))).trans A.words
      have f2 := (insF_cut (C := cG K) (f := "_holders") (Ω := Ω) (Ne.symm (P.ea x hx))).trans A.holders
      have f3 := asS_obj (Ω := cut Ω x.e) (by rw [cut_ne (Ne.symm (P.eb x hx))]; exact A.b)
      have f4 := asS_obj (Ω := cut Ω x.e) (by rw [cut_ne (Ne.symm (P.eh x hx))]; exact A.h)
      have hc := cost_take (g := g) hr1 k1 l1
      simp! only [f1, f2, f3, f4, k2, l2]
      refine itei (fun h => ?_) fun h => itei (fun h2 => ?_) fun h2 => ?_
      · rw [hc, if_neg (fun z => by simp [z.1] at h)]; rfl
      · rw [hc, if_neg (fun z => by simp [z.2] at h2)]; rfl
      · rw [hc, if_pos ⟨by simpa using h, by simpa using h2⟩]; rfl
    · rintro ρ' Ω' ⟨rfl, x3, x4, x5, rfl⟩
      rw [List.length_map, List.take_length]
      rw [show Cell.dic (x.rs.map rowK) (x.rs.map rowV) = deC x from rfl, put_cut (A.e x hx)]
      simp! only [and_true]
      exact q
/-! ### cancelling -/
theorem At.other {K : PySem.W.Frag} {g : Grd} {Ω Ω' : Om} (A : At K g Ω) (h : ∀ b ∈ g.own, Ω' b = Ω b) : At K g Ω' := by
  have m : ∀ x ∈ g.ds, x.e ∈ g.own := fun x hx => by
    simp only [Grd.own, List.mem_cons, List.mem_map]
    exact .inr (.inr (.inr (.inr ⟨x, hx, rfl⟩)))
  exact ⟨by rw [h _ (by simp [Grd.own])]; exact A.o, by rw [h _ (by simp [Grd.own])]; exact A.b, by rw [h _ (by simp [Grd.own])]; exact A.h, by rw [h _ (by simp [Grd.own])]; exact A.d, fun x hx => by rw [h _ (m x hx)]; exact A.e x hx, A.nd⟩
theorem At.pop {K : PySem.W.Frag} {g : Grd} {Ω : Om} {d0 : List Deed} {x : Deed} (A : At K g Ω) (hd : g.ds = d0 ++ [x]) : At K { g with ds := d0 } (put Ω g.d (.lst (d0.map fun y => .obj y.e))) ∧ x.e ∉ Grd.own { g with ds := d0 } := by
  have P := apart_iff.mp A.nd
  have sub : ∀ y ∈ d0, y ∈ g.ds := fun y hy => by rw [hd]; exact List.mem_append_left _ hy
  have hx : x ∈ g.ds := by rw [hd]; exact List.mem_append_right _ (List.mem_singleton_self _)
  have ee := P.ee
  rw [hd, List.map_append] at ee
  have e2 := List.nodup_append.mp ee
  refine ⟨⟨by rw [put_ne P.ad]; exact A.o, by rw [put_ne P.bd]; exact A.b, by rw [put_ne P.hd]; exact A.h, put_same, fun y hy => by rw [put_ne (P.ed y (sub y hy))]; exact A.e y (sub y hy), apart_iff.mpr ⟨P.ab, P.ah, P.ad, P.bh, P.bd, P.hd, fun y hy => P.ea y (sub y hy), fun y hy => P.eb y (sub y hy), fun y hy => P.eh y (sub y hy), fun y hy => P.ed y (sub y hy), e2.1⟩⟩, fun hm => ?_⟩
  simp only [Grd.own, List.mem_cons, List.mem_map] at hm
  rcases hm with h | h | h | h | ⟨y, hy, h⟩
  · exact P.ea x hx h
  · exact P.eb x hx h
  · exact P.eh x hx h
  · exact P.ed x hx h
  · exact e2.2.2 y.e (List.mem_map.mpr ⟨y, hy, rfl⟩) x.e (List.mem_singleton_self _) h
noncomputable def undoW (ws : List Int) (rs : List (Int × Int × Int)) : List Int := rs.foldl (fun ws r => ws.set r.1.toNat r.2.1) ws
noncomputable def undoH (hs : List Int) (rs : List (Int × Int × Int)) : List Int := rs.foldl (fun hs r => hs.set r.1.toNat r.2.2) hs
theorem undoW_len {rs : List (Int × Int × Int)} : ∀ {ws : List Int}, (undoW ws rs).length = ws.length := by
  induction rs with
  | nil => intro ws; rfl
  | cons r rs ih => intro ws; show (undoW (ws.set r.1.toNat r.2.1) rs).length = _; rw [ih, List.length_set]
theorem undoH_len {rs : List (Int × Int × Int)} : ∀ {hs : List Int}, (undoH hs rs).length = hs.length := by
  induction rs with
  | nil => intro hs; rfl
  | cons r rs ih => intro hs; show (undoH (hs.set r.1.toNat r.2.2) rs).length = _; rw [ih, List.length_set]
theorem undoW_take {ws : List Int} {rs : List (Int × Int × Int)} {j : Nat} {r : Int × Int × Int} (h : rs[j]? = some r) : undoW ws (rs.take (j + 1)) = (undoW ws (rs.take j)).set r.1.toNat r.2.1 := by
  have e1 : rs.take (j + 1) = rs.take j ++ [r] := take_one h
  unfold undoW
  rw [e1, List.foldl_append]
  rfl
theorem undoH_take {hs : List Int} {rs : List (Int × Int × Int)} {j : Nat} {r : Int × Int × Int} (h : rs[j]? = some r) : undoH hs (rs.take (j + 1)) = (undoH hs (rs.take j)).set r.1.toNat r.2.2 := by
  have e1 : rs.take (j + 1) = rs.take j ++ [r] := take_one h
  unfold undoH
  rw [e1, List.foldl_append]
  rfl
/-- the last deed's places as they were -/
noncomputable def undoG (g : Grd) (d0 : List Deed) (rs : List (Int × Int × Int)) : Grd := { g with ds := d0, ws := undoW g.ws rs, hs := undoH g.hs rs }
noncomputable def noDeedX : XV := excT "Unknown" ["parameter"] [.str "deed"]
noncomputable def wp_cancel (K : PySem.W.Frag) : Pw := fun ts Ω PQ PX => ∃ g : Grd, ts = [.obj g.a] ∧ At K g Ω ∧ (g.ds = [] → PX noDeedX Ω) ∧ ∀ d0 x, g.ds = d0 ++ [x] → RowsIn g x.rs ∧ x.rs.length ≤ 100000 ∧ ∀ Ω', At K (undoG g d0 x.rs) Ω' → Fr (undoG g d0 x.rs) Ω Ω' → PQ .non Ω'
end
section
open PySem PySem.Spec PyProof.Rows L2 LL LT
variable {P : Program} {w : World} {K : PySem.W.Frag} {mg : Str → Option Value} {base : Heap}

theorem ok_Ground_cancel (T : Tx K mg) : FnOk P w K mg base (L2.CX P w) 3 (He.ma K (He.ga K "Ground") "cancel") T.fd_Ground_cancel P_Ground_cancel (spD K (wp_cancel K) 1) := by
  refine dok T.F_Ground_cancel sc_Ground_cancel fun cdv A outer s H E hr => ?_
  refine' dokMk ((pss_cons (ps_if (pt_not (LT.pt_tru (pe_fld (pv 0) rfl) (by intro _; rfl))) (pss_one (ps_raise rfl (takes_of rfl rfl rfl rfl) (pmk_oex T.v_Unknown.oex T.v_Unknown.ini T.v_Unknown.typ (okE_Unknown T) hr (b_Unknown T) .nil pass0 rfl T.g_Unknown (pa_cons (pe_str) pa_nil)))) pss_nil) (pss_cons (ps_set (i := 1) sc_Ground_cancel.nd rfl (Or.inl rfl) (pe_bm0 PySem.F.plainAttrs_list PySem.F.slot_list_pop PySem.F.type_list_pop mt_pop (pe_fld (pv 0) rfl))) (pss_one (ps_lock (ps_for (passes_of rfl) rfl (pi_items (pv 1)) (LT.pg_tupK (K := K) (n := 2) rfl rfl (pgs_cons (pg_name (i := 2) sc_Ground_cancel.nd rfl (Or.inl rfl)) (pgs_cons (LT.pg_tupK (K := K) (n := 2) rfl rfl (pgs_cons (pg_name (i := 3) sc_Ground_cancel.nd rfl (Or.inl rfl)) (pgs_cons (pg_name (i := 4) sc_Ground_cancel.nd rfl (Or.inl rfl)) pgs_nil))) pgs_nil))) (pss_cons (ps_asg (pv 3) (pg_sub (pe_fld (pv 0) rfl) (pv 2) set_list)) (pss_one (ps_asg (pv 4) (pg_sub (pe_fld (pv 0) rfl) (pv 2) set_list)))))))))) ?sim ?go
  case sim =>
    try simp only [LL.cxK0, LL.cxK1, List.map_cons, List.map_nil]
    repeat' (first | with_reducible apply sim_gLst | with_reducible apply sim_tryR0 | with_reducible apply sim_tryR | with_reducible apply SimRow.cons | with_reducible exact SimRow.nil | with_reducible apply sim_mthS (dts := []) .nil | with_reducible apply sim_makeK (gT := fun ts us => ts ++ us) (fun _ _ _ _ _ _ _ h1 h2 => vdl_app h2 h1) | with_reducible apply sim_fld T.c_Ground T.n_Ground_pages | with_reducible apply sim_fld T.c_Ground T.n_Ground_width | with_reducible apply sim_fld T.c_Ground T.n_Ground_fill | with_reducible apply sim_fld T.c_Ground T.n_Ground__budget | with_reducible apply sim_fld T.c_Ground T.n_Ground__spent | with_reducible apply sim_fld T.c_Ground T.n_Ground__words | with_reducible apply sim_fld T.c_Ground T.n_Ground__holders | with_reducible apply sim_fld T.c_Ground T.n_Ground__deeds | with_reducible apply sim_setF T.c_Ground T.n_Ground_pages | with_reducible apply sim_setF T.c_Ground T.n_Ground_width | with_reducible apply sim_setF T.c_Ground T.n_Ground_fill | with_reducible apply sim_setF T.c_Ground T.n_Ground__budget | with_reducible apply sim_setF T.c_Ground T.n_Ground__spent | with_reducible apply sim_setF T.c_Ground T.n_Ground__words | with_reducible apply sim_setF T.c_Ground T.n_Ground__holders | with_reducible apply sim_setF T.c_Ground T.n_Ground__deeds | with_reducible apply sim_forI | with_reducible apply sim_pop | with_reducible apply sim_tru | with_reducible apply sim_prop | with_reducible apply sim_make (dts := []) .nil | with_reducible apply sim_make0 (dts := []) .nil | with_reducible apply sim_meth0 (dts := []) .nil | with_reducible apply sim_meth (dts := []) .nil | fail "s")
  case go =>
    intro ts Ω PQ PX hl h
    obtain ⟨g, rfl, A, q1, q2⟩ := h
    have e1 := A.deeds
    have e2 := asS_obj A.d
    have e3 := asL_obj A.d
    simp! only [N_Ground_cancel, e1, e2, e3]
    refine itei (fun h => q1 ?_) fun h => ?_
    · cases hg : g.ds with
      | nil => rfl
      | cons y ys => rw [hg] at h; simp at h
    obtain ⟨d0, x, hd⟩ : ∃ d0 x, g.ds = d0 ++ [x] := by
      rcases List.eq_nil_or_concat g.ds with hn | ⟨d0, x, hn⟩
      · rw [hn] at h; simp at h
      · exact ⟨d0, x, by simpa using hn⟩
    obtain ⟨hr, hz, q⟩ := q2 d0 x hd
    obtain ⟨A1, hx⟩ := A.pop hd
    have hxm : x ∈ g.ds := by rw [hd]; exact List.mem_append_right _ (List.mem_singleton_self _)
    have P := apart_iff.mp A.nd
    have el : (g.ds.map fun x => Tr.obj x.e).getLast? = some (.obj x.e) := by rw [hd]; simp
    have ed : (g.ds.map fun x => Tr.obj x.e).dropLast = d0.map fun x => Tr.obj x.e := by rw [hd]; simp
    refine ⟨.obj x.e, el, ?_⟩
    rw [ed]
    have hc : put Ω g.d (.lst (d0.map fun y => .obj y.e)) x.e = some (deC x) := by rw [put_ne (P.ed x hxm)]; exact A.e x hxm
    refine ⟨x.e, x.rs.map rowK, x.rs.map rowV, rfl, hc, fun j ρ' Ω' => At K (undoG g d0 (x.rs.take j)) Ω' ∧ Fr (undoG g d0 (x.rs.take j)) (cut (put Ω g.d (.lst (d0.map fun y => .obj y.e))) x.e) Ω' ∧ ∃ x3 x4 x5, ρ' = [some (.obj g.a), some (.obj x.e), x3, x4, x5], ⟨A1.other fun b hb => cut_ne fun z => hx (z ▸ hb), .refl, _, _, _, rfl⟩, ?_, ?_⟩
    · rintro j t ρ' Ω' ht ⟨A2, F2, x3, x4, x5, rfl⟩
      rw [items_rows, List.getElem?_map] at ht
      obtain ⟨r, hr1, rfl⟩ := Option.map_eq_some_iff.mp ht
      obtain ⟨b0, b1, b2⟩ := hr r (List.mem_of_getElem? hr1)
      have ew := undoW_take (ws := g.ws) hr1
      have eh := undoH_take (hs := g.hs) hr1
      obtain ⟨_, _, _, k3⟩ := atI_ix (ns := undoW g.ws (x.rs.take j)) (p := r.1) b0 (by rw [undoW_len]; exact b1)
      obtain ⟨_, _, _, l3⟩ := atI_ix (ns := undoH g.hs (x.rs.take j)) (p := r.1) b0 (by rw [undoH_len]; exact b2)
      simp! only [and_true]
      refine ⟨_, A2.words, _, rfl, _, A2.b, _, k3, ?_⟩
      have A3 := A2.setB (undoW g.ws (x.rs.take (j + 1)))
      have F3 := F2.trans rfl (Fr.put (g := undoG g d0 (x.rs.take j)) (a := g.b) (c := .lst ((undoW g.ws (x.rs.take (j + 1))).map Tr.int)) (by simp [Grd.own, undoG]))
      rw [show (((undoG g d0 (x.rs.take j)).ws.map Tr.int).set r.1.toNat (.int r.2.1)) = (undoW g.ws (x.rs.take (j + 1))).map Tr.int by rw [ew, List.map_set]; rfl]
      refine ⟨_, A3.holders, _, rfl, _, A3.h, _, l3, ?_⟩
      rw [show (((undoG g d0 (x.rs.take j)).hs.map Tr.int).set r.1.toNat (.int r.2.2)) = (undoH g.hs (x.rs.take (j + 1))).map Tr.int by rw [eh, List.map_set]; rfl]
      exact ⟨A3.setH _, F3.trans rfl (Fr.put (by simp [Grd.own, undoG]))⟩
    · rintro ρ' Ω' ⟨A2, F2, x3, x4, x5, rfl⟩
      rw [List.length_map, List.take_length] at A2 F2
      refine q _ (A2.other fun b hb => put_ne fun z => hx (z ▸ hb)) fun b hb => ?_
      by_cases hbx : b = x.e
      · rw [hbx, put_same, A.e x hxm]; rfl
      · rw [put_ne hbx, F2 b hb, cut_ne hbx, put_ne fun z => hb (by rw [z]; simp [Grd.own, undoG])]
end
section
open PySem PySem.Spec PyProof.Rows L2 LL LT
variable {P : Program} {w : World} {K : PySem.W.Frag} {mg : Str → Option Value} {base : Heap}

/-! ### an inner deed ends within an outer one -/
noncomputable def joinR (rs ys : List (Int × Int × Int)) : List (Int × Int × Int) := ys.foldl (fun rs r => addR rs r.1 r.2.1 r.2.2) rs
theorem joinR_take {rs ys : List (Int × Int × Int)} {j : Nat} {r : Int × Int × Int} (h : ys[j]? = some r) : joinR rs (ys.take (j + 1)) = addR (joinR rs (ys.take j)) r.1 r.2.1 r.2.2 := by
  have e1 : ys.take (j + 1) = ys.take j ++ [r] := take_one h
  unfold joinR
  rw [e1, List.foldl_append]
  rfl
theorem addR_len {rs : List (Int × Int × Int)} {p w h : Int} : (addR rs p w h).length ≤ rs.length + 1 := by
  unfold addR
  split
  · omega
  · rw [List.length_append]; simp
theorem joinR_len {ys : List (Int × Int × Int)} : ∀ {rs : List (Int × Int × Int)}, (joinR rs ys).length ≤ rs.length + ys.length := by
  induction ys with
  | nil => intro rs; exact Nat.le_refl _
  | cons r ys ih =>
    intro rs
    have h1 := ih (rs := addR rs r.1 r.2.1 r.2.2)
    have h2 := addR_len (rs := rs) (p := r.1) (w := r.2.1) (h := r.2.2)
    show (joinR (addR rs r.1 r.2.1 r.2.2) ys).length ≤ _
    rw [List.length_cons]
    omega
noncomputable def wp_passout (K : PySem.W.Frag) : Pw := fun ts Ω PQ _ => ∃ (g : Grd) (d0 : List Deed) (x y : Deed), ts = [.obj g.a, .obj y.e] ∧ At K g Ω ∧ g.ds = d0 ++ [x] ∧ Ω y.e = some (deC y) ∧ y.e ∉ g.own ∧ x.rs.length ≤ 100000 ∧ y.rs.length ≤ 100000 ∧ ∀ Ω', At K { g with ds := d0 ++ [⟨x.e, joinR x.rs y.rs⟩] } Ω' → Fr { g with ds := d0 ++ [⟨x.e, joinR x.rs y.rs⟩] } Ω Ω' → PQ .non Ω'
theorem ok_Ground_pass_out (T : Tx K mg) : FnOk P w K mg base CX0 1 (He.ma K (He.ga K "Ground") "_pass_out") T.fd_Ground_pass_out P_Ground_pass_out (spD K (wp_passout K) 2) := by
  refine dok T.F_Ground_pass_out sc_Ground_pass_out fun cdv A outer s H E hr => ?_
  refine' dokMk (PSs.nox (pss_cons (ps_set (i := 2) sc_Ground_pass_out.nd rfl (Or.inl rfl) (pe_ix (show IxR _ (LL.rIxA K) from LL.ix_A) (pe_fld (pv 0) rfl) (pe_un un_neg (pe_int)) (fun _ _ => rfl))) (pss_one (ps_lock (ps_for PassesOwn.never rfl (pi_items (pv 1)) (LT.pg_tupK (K := K) (n := 2) rfl rfl (pgs_cons (pg_name (i := 3) sc_Ground_pass_out.nd rfl (Or.inl rfl)) (pgs_cons (pg_name (i := 4) sc_Ground_pass_out.nd rfl (Or.inl rfl)) pgs_nil))) (pss_one (ps_if (pt_cmp (pc_dnotin (hu_of hr) (pv 3) (pv 2))) (pss_one (ps_dput (hu_of hr) (pv 2) (pv 3) (pv 4) rfl)) pss_nil))))))) ?sim ?go
  case sim =>
    try simp only [LL.cxK0, LL.cxK1, List.map_cons, List.map_nil]
    repeat' (first | with_reducible apply sim_gLst | with_reducible apply sim_tryR0 | with_reducible apply sim_tryR | with_reducible apply SimRow.cons | with_reducible exact SimRow.nil | with_reducible apply sim_mthS (dts := []) .nil | with_reducible apply sim_makeK (gT := fun ts us => ts ++ us) (fun _ _ _ _ _ _ _ h1 h2 => vdl_app h2 h1) | with_reducible apply sim_fld T.c_Ground T.n_Ground_pages | with_reducible apply sim_fld T.c_Ground T.n_Ground_width | with_reducible apply sim_fld T.c_Ground T.n_Ground_fill | with_reducible apply sim_fld T.c_Ground T.n_Ground__budget | with_reducible apply sim_fld T.c_Ground T.n_Ground__spent | with_reducible apply sim_fld T.c_Ground T.n_Ground__words | with_reducible apply sim_fld T.c_Ground T.n_Ground__holders | with_reducible apply sim_fld T.c_Ground T.n_Ground__deeds | with_reducible apply sim_setF T.c_Ground T.n_Ground_pages | with_reducible apply sim_setF T.c_Ground T.n_Ground_width | with_reducible apply sim_setF T.c_Ground T.n_Ground_fill | with_reducible apply sim_setF T.c_Ground T.n_Ground__budget | with_reducible apply sim_setF T.c_Ground T.n_Ground__spent | with_reducible apply sim_setF T.c_Ground T.n_Ground__words | with_reducible apply sim_setF T.c_Ground T.n_Ground__holders | with_reducible apply sim_setF T.c_Ground T.n_Ground__deeds | with_reducible apply sim_forI | with_reducible apply sim_pop | with_reducible apply sim_tru | with_reducible apply sim_prop | with_reducible apply sim_make (dts := []) .nil | with_reducible apply sim_make0 (dts := []) .nil | with_reducible apply sim_meth0 (dts := []) .nil | with_reducible apply sim_meth (dts := []) .nil | fail "s")
  case go =>
    intro ts Ω PQ PX hl h
    obtain ⟨g, d0, x, y, rfl, A, hd, hy, hn, lx, ly, q⟩ := h
    have e1 := A.deeds
    have e2 := asS_obj A.d
    have e3 : L2.atI (g.ds.map fun x => Tr.obj x.e) (-1) = some (.obj x.e) := by
      rw [hd]
      exact LT.atI_last (n := d0.length) (by simp) (by simp)
    have own : ∀ rs, g.own = Grd.own { g with ds := d0 ++ [⟨x.e, rs⟩] } := fun rs => (A.setE hd rs).2
    have hx : x ∈ g.ds := by rw [hd]; exact List.mem_append_right _ (List.mem_singleton_self _)
    have hxo : x.e ∈ g.own := by
      simp only [Grd.own, List.mem_cons, List.mem_map]
      exact .inr (.inr (.inr (.inr ⟨x, hx, rfl⟩)))
    simp! only [N_Ground_pass_out, e1, e2, e3]
    refine ⟨y.e, y.rs.map rowK, y.rs.map rowV, rfl, hy, fun j ρ' Ω' => At K { g with ds := d0 ++ [⟨x.e, joinR x.rs (y.rs.take j)⟩] } Ω' ∧ Fr g (cut Ω y.e) Ω' ∧ ∃ x3 x4, ρ' = [some (.obj g.a), some (.obj y.e), some (.obj x.e), x3, x4], ⟨?_, .refl, _, _, rfl⟩, ?_, ?_⟩
    · have hg : ({ g with ds := d0 ++ [⟨x.e, joinR x.rs (y.rs.take 0)⟩] } : Grd) = g := by
        rw [List.take_zero, show joinR x.rs [] = x.rs from rfl, show d0 ++ [Deed.mk x.e x.rs] = g.ds from hd.symm]
      rw [hg]
      exact A.other fun b hb => cut_ne fun z => hn (z ▸ hb)
    · rintro j t ρ' Ω' ht ⟨A2, F2, x3, x4, rfl⟩
      rw [items_rows, List.getElem?_map] at ht
      obtain ⟨r, hr1, rfl⟩ := Option.map_eq_some_iff.mp ht
      have hj := (List.getElem?_eq_some_iff.mp hr1).1
      have et := joinR_take (rs := x.rs) hr1
      have hlen := joinR_len (rs := x.rs) (ys := y.rs.take j)
      rw [List.length_take] at hlen
      have hc : Ω' x.e = some (deC ⟨x.e, joinR x.rs (y.rs.take j)⟩) := A2.e _ (List.mem_append_right _ (List.mem_singleton_self _))
      have e4 : asD (.obj x.e) Ω' = some ((joinR x.rs (y.rs.take j)).map rowK, (joinR x.rs (y.rs.take j)).map rowV) := asD_obj hc
      have e5 := val_rows (rs := joinR x.rs (y.rs.take j)) (p := r.1)
      simp! only [e4, e5]
      rw [et]
      refine itei (fun h => ?_) fun h => ?_
      · have hn' : r.1 ∉ (joinR x.rs (y.rs.take j)).map (·.1) := by simpa using h
        obtain ⟨A3, _⟩ := A2.setE (d0 := d0) (x := ⟨x.e, joinR x.rs (y.rs.take j)⟩) rfl (joinR x.rs (y.rs.take j) ++ [r])
        refine ⟨_, _, hc, by rw [List.length_map]; exact Nat.le_trans hlen (by omega), ?_⟩
        rw [show Tr.tup [.int r.2.1, .int r.2.2] = rowV r from rfl, put_deed hn', show addR (joinR x.rs (y.rs.take j)) r.1 r.2.1 r.2.2 = joinR x.rs (y.rs.take j) ++ [r] from if_neg hn']
        exact ⟨A3, F2.trans rfl (Fr.put hxo)⟩
      · have hn' : r.1 ∈ (joinR x.rs (y.rs.take j)).map (·.1) := by simpa using h
        rw [show addR (joinR x.rs (y.rs.take j)) r.1 r.2.1 r.2.2 = joinR x.rs (y.rs.take j) from if_pos hn']
        exact ⟨A2, F2⟩
    · rintro ρ' Ω' ⟨A2, F2, x3, x4, rfl⟩
      rw [List.length_map, List.take_length] at A2
      refine q _ (A2.other fun b hb => put_ne fun z => hn (by rw [own]; exact z ▸ hb)) fun b hb => ?_
      rw [← own] at hb
      by_cases hby : b = y.e
      · rw [hby, put_same, hy]; rfl
      · rw [put_ne hby, F2 b hb, cut_ne hby]
end
section
open PySem PySem.Spec PyProof.Rows L2 LL LT
variable {P : Program} {w : World} {K : PySem.W.Frag} {mg : Str → Option Value} {base : Heap}

/-! ### what the outermost deed costs is charged -/
theorem putF_spent {K : PySem.W.Frag} {g : Grd} {Ω : Om} {s : Int} : put Ω g.a (.ins (cG K) g.dx ((putFT "_spent" (.int s) (grN.zip [.int g.p, .int g.w, .int g.f, g.bud, .int g.sp, .obj g.b, .obj g.h, .obj g.d])).map (·.1)) ((putFT "_spent" (.int s) (grN.zip [.int g.p, .int g.w, .int g.f, g.bud, .int g.sp, .obj g.b, .obj g.h, .obj g.d])).map (·.2))) = put Ω g.a (grC K { g with sp := s }) := rfl
theorem putF_budget {K : PySem.W.Frag} {g : Grd} {Ω : Om} {t : Tr} : put Ω g.a (.ins (cG K) g.dx ((putFT "_budget" t (grN.zip [.int g.p, .int g.w, .int g.f, g.bud, .int g.sp, .obj g.b, .obj g.h, .obj g.d])).map (·.1)) ((putFT "_budget" t (grN.zip [.int g.p, .int g.w, .int g.f, g.bud, .int g.sp, .obj g.b, .obj g.h, .obj g.d])).map (·.2))) = put Ω g.a (grC K { g with bud := t }) := rfl
theorem At.setO {K : PySem.W.Frag} {g : Grd} {Ω : Om} (A : At K g Ω) (bud : Tr) (sp : Int) : At K { g with bud := bud, sp := sp } (put Ω g.a (grC K { g with bud := bud, sp := sp })) := by
  have P := apart_iff.mp A.nd
  exact ⟨put_same, by rw [put_ne (Ne.symm P.ab)]; exact A.b, by rw [put_ne (Ne.symm P.ah)]; exact A.h, by rw [put_ne (Ne.symm P.ad)]; exact A.d, fun x hx => by rw [put_ne (P.ea x hx)]; exact A.e x hx, A.nd⟩
noncomputable def cutX (n l : Int) : XV := excT "Cut" ["needed", "left"] [.int n, .int l]
noncomputable def wp_charge (K : PySem.W.Frag) : Pw := fun ts Ω PQ PX => ∃ (g : Grd) (d0 : List Deed) (x : Deed) (c : Int), ts = [.obj g.a, .int c] ∧ At K g Ω ∧ g.ds = d0 ++ [x] ∧ RowsIn g x.rs ∧ x.rs.length ≤ 100000 ∧ ((g.bud = .non ∧ ∀ Ω', At K { g with sp := g.sp + c } Ω' → Fr g Ω Ω' → PQ .non Ω') ∨ ∃ b, g.bud = .int b ∧ (b < c → ∀ Ω', At K (undoG g d0 x.rs) Ω' → Fr (undoG g d0 x.rs) Ω Ω' → PX (cutX c b) Ω') ∧ (c ≤ b → ∀ Ω', At K { g with bud := .int (b - c), sp := g.sp + c } Ω' → Fr g Ω Ω' → PQ .non Ω'))
theorem ok_Ground_charge (T : Tx K mg) : FnOk P w K mg base (L2.CX P w) 4 (He.ma K (He.ga K "Ground") "_charge") T.fd_Ground_charge P_Ground_charge (spD K (wp_charge K) 2) := by
  refine dok T.F_Ground_charge sc_Ground_charge fun cdv A outer s H E hr => ?_
  refine' dokMk ((pss_cons (ps_if (pt_cmpR op_notN1 (pe_fld (pv 0) rfl) (pe_non) (nomark _)) (pss_cons (ps_set (i := 2) sc_Ground_charge.nd rfl (Or.inl rfl) (pe_fld (pv 0) rfl)) (pss_cons (ps_if (pt_cmpR op_lt (pv 2) (pv 1) (nomark _)) (pss_cons (ps_expr (pe_meth0 (pv 0) T.c_Ground T.h_Ground_cancel (ok_Ground_cancel T) hr (b_Ground_cancel T) .nil (passR (takes_of rfl rfl rfl rfl) (fun _ _ _ _ h => h)))) (pss_one (ps_raise rfl (takes_of rfl rfl rfl rfl) (pmk_oex T.v_Cut.oex T.v_Cut.ini T.v_Cut.typ (okE_Cut T) (hr.mono (by decide)) (b_Cut T) .nil pass0 rfl T.g_Cut (pa_cons (pv 1) (pa_cons (pv 2) pa_nil)))))) pss_nil) (pss_one (ps_fld (pv 0) (pe_op op_sub (pv 2) (pv 1)) rfl)))) pss_nil) (pss_one (ps_fld (pv 0) (pe_op (show OpR _ _ (LT.rAddG K) from LT.op_addG) (pe_fld (pv 0) rfl) (pv 1)) rfl)))) ?sim ?go
  case sim =>
    try simp only [LL.cxK0, LL.cxK1, List.map_cons, List.map_nil]
    repeat' (first | with_reducible apply sim_gLst | with_reducible apply sim_tryR0 | with_reducible apply sim_tryR | with_reducible apply SimRow.cons | with_reducible exact SimRow.nil | with_reducible apply sim_mthS (dts := []) .nil | with_reducible apply sim_makeK (gT := fun ts us => ts ++ us) (fun _ _ _ _ _ _ _ h1 h2 => vdl_app h2 h1) | with_reducible apply sim_fld T.c_Ground T.n_Ground_pages | with_reducible apply sim_fld T.c_Ground T.n_Ground_width | with_reducible apply sim_fld T.c_Ground T.n_Ground_fill | with_reducible apply sim_fld T.c_Ground T.n_Ground__budget | with_reducible apply sim_fld T.c_Ground T.n_Ground__spent | with_reducible apply sim_fld T.c_Ground T.n_Ground__words | with_reducible apply sim_fld T.c_Ground T.n_Ground__holders | with_reducible apply sim_fld T.c_Ground T.n_Ground__deeds | with_reducible apply sim_setF T.c_Ground T.n_Ground_pages | with_reducible apply sim_setF T.c_Ground T.n_Ground_width | with_reducible apply sim_setF T.c_Ground T.n_Ground_fill | with_reducible apply sim_setF T.c_Ground T.n_Ground__budget | with_reducible apply sim_setF T.c_Ground T.n_Ground__spent | with_reducible apply sim_setF T.c_Ground T.n_Ground__words | with_reducible apply sim_setF T.c_Ground T.n_Ground__holders | with_reducible apply sim_setF T.c_Ground T.n_Ground__deeds | with_reducible apply sim_forI | with_reducible apply sim_pop | with_reducible apply sim_tru | with_reducible apply sim_prop | with_reducible apply sim_make (dts := []) .nil | with_reducible apply sim_make0 (dts := []) .nil | with_reducible apply sim_meth0 (dts := []) .nil | with_reducible apply sim_meth (dts := []) .nil | fail "s")
  case go =>
    intro ts Ω PQ PX hl h
    obtain ⟨g, d0, x, c, rfl, A, hd, hr, hz, q⟩ := h
    have e1 := A.budget
    have e2 := A.spent
    have e3 := insC_obj A.o
    rcases q with ⟨hb, q⟩ | ⟨b, hb, q1, q2⟩
    · rw [hb] at e1
      simp! only [N_Ground_charge, e1, e2, e3]
      rw [putF_spent]
      exact q _ (A.setO g.bud (g.sp + c)) (.put (by simp [Grd.own]))
    · rw [hb] at e1
      simp! only [N_Ground_charge, e1, e2, e3]
      refine itei (fun hlt => ⟨g.a, insM_obj A.o rfl, g, rfl, A, fun hn => (by rw [hd] at hn; simp at hn), fun d1 y h1 => ?_⟩) fun hlt => ?_
      · obtain ⟨rfl, h2⟩ := List.append_inj' (hd.symm.trans h1) rfl
        obtain rfl : x = y := (List.cons.inj h2).1
        exact ⟨hr, hz, fun Ω' A' F' => q1 hlt Ω' A' F'⟩
      · rw [putF_budget]
        have A1 := A.setO (.int (b - c)) g.sp
        have F1 : Fr g Ω (put Ω g.a (grC K { g with bud := .int (b - c) })) := .put (by simp [Grd.own])
        refine ⟨_, A1.spent, ?_⟩
        simp! only [and_true]
        refine ⟨_, _, _, insC_obj A1.o, (show 8 < 1000 by decide), ?_⟩
        exact q2 (by omega) _ (A.setO (.int (b - c)) (g.sp + c)) (Fr.put (g := g) (a := g.a) (by simp [Grd.own]))
end
section
open PySem PySem.Spec PyProof.Rows L2 LL LT
variable {P : Program} {w : World} {K : PySem.W.Frag} {mg : Str → Option Value} {base : Heap}

/-! ### a deed ends -/
noncomputable def wp_commit (K : PySem.W.Frag) : Pw := fun ts Ω PQ PX => ∃ g : Grd, ts = [.obj g.a] ∧ At K g Ω ∧ (g.ds = [] → PX noDeedX Ω) ∧ ∀ d0 x, g.ds = d0 ++ [x] → RowsIn g x.rs ∧ x.rs.length ≤ 100000 ∧ d0.length ≤ 1000 ∧
  (d0 = [] → (g.bud = .non ∧ ∀ Ω', At K { g with sp := g.sp + costR g x.rs, ds := [] } Ω' → Fr { g with ds := [] } Ω Ω' → PQ (.int (costR g x.rs)) Ω') ∨ ∃ b, g.bud = .int b ∧ (b < costR g x.rs → ∀ Ω', At K (undoG g [] x.rs) Ω' → Fr (undoG g [] x.rs) Ω Ω' → PX (cutX (costR g x.rs) b) Ω') ∧ (costR g x.rs ≤ b → ∀ Ω', At K { g with bud := .int (b - costR g x.rs), sp := g.sp + costR g x.rs, ds := [] } Ω' → Fr { g with ds := [] } Ω Ω' → PQ (.int (costR g x.rs)) Ω')) ∧
  ∀ c0 y, d0 = c0 ++ [y] → y.rs.length ≤ 100000 ∧ ∀ Ω', At K { g with ds := c0 ++ [⟨y.e, joinR y.rs x.rs⟩] } Ω' → Fr { g with ds := c0 ++ [⟨y.e, joinR y.rs x.rs⟩] } Ω Ω' → PQ (.int (costR g x.rs)) Ω'
theorem ok_Ground_commit (T : Tx K mg) : FnOk P w K mg base (L2.CX P w) 5 (He.ma K (He.ga K "Ground") "commit") T.fd_Ground_commit P_Ground_commit (spD K (wp_commit K) 1) := by
  refine dok T.F_Ground_commit sc_Ground_commit fun cdv A outer s H E hr => ?_
  refine' dokMk ((pss_cons (ps_if (pt_not (LT.pt_tru (pe_fld (pv 0) rfl) (by intro _; rfl))) (pss_one (ps_raise rfl (takes_of rfl rfl rfl rfl) (pmk_oex T.v_Unknown.oex T.v_Unknown.ini T.v_Unknown.typ (okE_Unknown T) (hr.mono (by decide)) (b_Unknown T) .nil pass0 rfl T.g_Unknown (pa_cons (pe_str) pa_nil)))) pss_nil) (pss_cons (ps_set (i := 1) sc_Ground_commit.nd rfl (Or.inl rfl) (pe_meth0 (pv 0) T.c_Ground T.h_Ground_cost (ok_Ground_cost T) (hr.mono (by decide)) (b_Ground_cost T) .nil pass0)) (pss_cons (ps_if (pt_cmpR op_gt (pe_callB (show CallR _ _ (LT.rLenS K) from LT.call_lenS) (by rfl) T.z_len (by decide +kernel) (pa_cons (pe_fld (pv 0) rfl) pa_nil)) (pe_int) (nomark _)) (pss_cons (ps_set (i := 2) sc_Ground_commit.nd rfl (Or.inl rfl) (pe_bm0 PySem.F.plainAttrs_list PySem.F.slot_list_pop PySem.F.type_list_pop mt_pop (pe_fld (pv 0) rfl))) (pss_cons (ps_expr (pe_meth (pv 0) T.c_Ground T.h_Ground_pass_out (ok_Ground_pass_out T) (hr.mono (by decide)) (b_Ground_pass_out T) .nil pass0 (pa_cons (pv 2) pa_nil))) (pss_one (ps_ret (pv 1))))) pss_nil) (pss_cons (ps_expr (pe_meth (pv 0) T.c_Ground T.h_Ground_charge (ok_Ground_charge T) hr (b_Ground_charge T) .nil (passR (takes_of rfl rfl rfl rfl) (fun _ _ _ _ h => h)) (pa_cons (pv 1) pa_nil))) (pss_cons (ps_expr (pe_bm0 PySem.F.plainAttrs_list PySem.F.slot_list_pop PySem.F.type_list_pop mt_pop (pe_fld (pv 0) rfl))) (pss_one (ps_ret (pv 1))))))))) ?sim ?go
  case sim =>
    try simp only [LL.cxK0, LL.cxK1, List.map_cons, List.map_nil]
    repeat' (first | with_reducible apply sim_gLst | with_reducible apply sim_tryR0 | with_reducible apply sim_tryR | with_reducible apply SimRow.cons | with_reducible exact SimRow.nil | with_reducible apply sim_mthS (dts := []) .nil | with_reducible apply sim_makeK (gT := fun ts us => ts ++ us) (fun _ _ _ _ _ _ _ h1 h2 => vdl_app h2 h1) | with_reducible apply sim_fld T.c_Ground T.n_Ground_pages | with_reducible apply sim_fld T.c_Ground T.n_Ground_width | with_reducible apply sim_fld T.c_Ground T.n_Ground_fill | with_reducible apply sim_fld T.c_Ground T.n_Ground__budget | with_reducible apply sim_fld T.c_Ground T.n_Ground__spent | with_reducible apply sim_fld T.c_Ground T.n_Ground__words | with_reducible apply sim_fld T.c_Ground T.n_Ground__holders | with_reducible apply sim_fld T.c_Ground T.n_Ground__deeds | with_reducible apply sim_setF T.c_Ground T.n_Ground_pages | with_reducible apply sim_setF T.c_Ground T.n_Ground_width | with_reducible apply sim_setF T.c_Ground T.n_Ground_fill | with_reducible apply sim_setF T.c_Ground T.n_Ground__budget | with_reducible apply sim_setF T.c_Ground T.n_Ground__spent | with_reducible apply sim_setF T.c_Ground T.n_Ground__words | with_reducible apply sim_setF T.c_Ground T.n_Ground__holders | with_reducible apply sim_setF T.c_Ground T.n_Ground__deeds | with_reducible apply sim_forI | with_reducible apply sim_pop | with_reducible apply sim_tru | with_reducible apply sim_prop | with_reducible apply sim_make (dts := []) .nil | with_reducible apply sim_make0 (dts := []) .nil | with_reducible apply sim_meth0 (dts := []) .nil | with_reducible apply sim_meth (dts := []) .nil | fail "s")
  case go =>
    intro ts Ω PQ PX hl h
    obtain ⟨g, rfl, A, q1, q2⟩ := h
    have e1 := A.deeds
    have e2 := asS_obj A.d
    have e3 := asL_obj A.d
    have e4 := lenT_obj A.d
    simp! only [N_Ground_commit, e1, e2, e3, e4]
    refine itei (fun h => q1 ?_) fun h => ?_
    · cases hg : g.ds with
      | nil => rfl
      | cons y ys => rw [hg] at h; simp at h
    obtain ⟨d0, x, hd⟩ : ∃ d0 x, g.ds = d0 ++ [x] := by
      rcases List.eq_nil_or_concat g.ds with hn | ⟨d0, x, hn⟩
      · rw [hn] at h; simp at h
      · exact ⟨d0, x, by simpa using hn⟩
    obtain ⟨hr, hz, hl, qa, qb⟩ := q2 d0 x hd
    refine ⟨g.a, insM_obj A.o rfl, g, d0, x, rfl, A, hd, hr, hz, ?_⟩
    simp! only [e1, e4]
    have hxm : x ∈ g.ds := by rw [hd]; exact List.mem_append_right _ (List.mem_singleton_self _)
    have P := apart_iff.mp A.nd
    have el : (g.ds.map fun x => Tr.obj x.e).getLast? = some (.obj x.e) := by rw [hd]; simp
    have ed : (g.ds.map fun x => Tr.obj x.e).dropLast = d0.map fun x => Tr.obj x.e := by rw [hd]; simp
    refine fun _ => itei (fun h1 => ?_) fun h1 => ?_
    · obtain ⟨c0, y, hc⟩ : ∃ c0 y, d0 = c0 ++ [y] := by
        rcases List.eq_nil_or_concat d0 with hn | ⟨c0, y, hn⟩
        · rw [List.length_map, hd, hn] at h1; simp at h1
        · exact ⟨c0, y, by simpa using hn⟩
      obtain ⟨ly, q⟩ := qb c0 y hc
      obtain ⟨A1, hx⟩ := A.pop hd
      refine ⟨_, e3, .obj x.e, el, ?_⟩
      rw [ed]
      have hcx : put Ω g.d (.lst (d0.map fun y => .obj y.e)) x.e = some (deC x) := by rw [put_ne (P.ed x hxm)]; exact A.e x hxm
      refine ⟨g.a, insM_obj A1.o rfl, { g with ds := d0 }, c0, y, x, rfl, A1, hc, hcx, hx, ly, hz, fun Ω' A' F' => q Ω' A' fun b hb => ?_⟩
      rw [F' b hb, put_ne fun z => hb (by rw [z]; simp [Grd.own])]
    · have h0 : d0 = [] := by
        rw [List.length_map, hd, List.length_append] at h1
        cases d0 with
        | nil => rfl
        | cons y ys => simp at h1; omega
      subst h0
      have fr : ∀ {g' : Grd} {Ω' : Om}, g'.own = g.own → g'.d = g.d → g'.ds = g.ds → At K g' Ω' → Fr g Ω Ω' → Fr { g with ds := [] } Ω (put Ω' g.d (.lst [])) := fun {g' Ω'} ho hdd hds A' F' b hb => by
        have hbd : b ≠ g.d := fun z => hb (by rw [z]; simp [Grd.own])
        rw [put_ne hbd]
        by_cases hbx : b = x.e
        · rw [hbx, A'.e x (by rw [hds]; exact hxm), A.e x hxm]
        · refine F' b fun hm => ?_
          simp only [Grd.own, hd, List.nil_append, List.map_cons, List.map_nil, List.mem_cons, List.not_mem_nil, or_false] at hm hb
          rcases hm with z | z | z | z | z
          · exact hb (.inl z)
          · exact hb (.inr (.inl z))
          · exact hb (.inr (.inr (.inl z)))
          · exact hb (.inr (.inr (.inr z)))
          · exact hbx z
      refine ⟨g.a, insM_obj A.o rfl, g, [], x, _, rfl, A, hd, hr, hz, ?_⟩
      rcases qa rfl with ⟨hb, q⟩ | ⟨b, hb, qc, q⟩
      · refine .inl ⟨hb, fun Ω' A' F' => ⟨_, A'.deeds, _, rfl, _, asL_obj A'.d, ⟨_, el⟩, ?_⟩⟩
        rw [show (List.map (fun x => Tr.obj x.e) g.ds).dropLast = [] from ed]
        exact q _ (A'.pop (d0 := []) hd).1 (fr (g' := { g with sp := g.sp + costR g x.rs }) rfl rfl rfl A' F')
      · refine .inr ⟨b, hb, qc, fun hle Ω' A' F' => ⟨_, A'.deeds, _, rfl, _, asL_obj A'.d, ⟨_, el⟩, ?_⟩⟩
        rw [show (List.map (fun x => Tr.obj x.e) g.ds).dropLast = [] from ed]
        exact q hle _ (A'.pop (d0 := []) hd).1 (fr (g' := { g with bud := .int (b - costR g x.rs), sp := g.sp + costR g x.rs }) rfl rfl rfl A' F')
end
section
open PySem PySem.Spec PyProof.Rows L2 LL LT
variable {P : Program} {w : World} {K : PySem.W.Frag} {mg : Str → Option Value} {base : Heap}

/-! ### pure: what a deed remembers -/
noncomputable abbrev Row := Int × Int × Int
noncomputable def undo (f : Row → Int) (ws : List Int) (rs : List Row) : List Int := rs.foldl (fun ws r => ws.set r.1.toNat (f r)) ws
theorem undoW_eq {ws : List Int} {rs : List Row} : undoW ws rs = undo (fun r => r.2.1) ws rs := rfl
theorem undoH_eq {ws : List Int} {rs : List Row} : undoH ws rs = undo (fun r => r.2.2) ws rs := rfl
theorem undo_cons {f : Row → Int} {ws : List Int} {r : Row} {rs : List Row} : undo f ws (r :: rs) = undo f (ws.set r.1.toNat (f r)) rs := rfl
theorem undo_snoc {f : Row → Int} {ws : List Int} {r : Row} {rs : List Row} : undo f ws (rs ++ [r]) = (undo f ws rs).set r.1.toNat (f r) := by
  unfold undo
  rw [List.foldl_append]
  rfl
theorem undo_len {f : Row → Int} : ∀ {rs : List Row} {ws : List Int}, (undo f ws rs).length = ws.length
  | [], _ => rfl
  | r :: rs, ws => by rw [undo_cons, undo_len, List.length_set]
theorem undo_comm {f : Row → Int} {p v : Int} (hp : 0 ≤ p) : ∀ {rs : List Row} {ws : List Int}, (∀ r ∈ rs, 0 ≤ r.1) → p ∉ rs.map (·.1) → undo f (ws.set p.toNat v) rs = (undo f ws rs).set p.toNat v
  | [], _, _, _ => rfl
  | r :: rs, ws, h0, hn => by
    have h1 := h0 r List.mem_cons_self
    have hne : p.toNat ≠ r.1.toNat := fun z => hn (by rw [List.map_cons, show p = r.1 by omega]; exact List.mem_cons_self)
    rw [undo_cons, undo_cons, List.set_comm _ _ hne, undo_comm hp (fun x hx => h0 x (List.mem_cons_of_mem _ hx)) fun z => hn (by rw [List.map_cons]; exact List.mem_cons_of_mem _ z)]
theorem undo_over {f : Row → Int} {p v : Int} (hp : 0 ≤ p) : ∀ {rs : List Row} {ws : List Int}, (∀ r ∈ rs, 0 ≤ r.1) → p ∈ rs.map (·.1) → undo f (ws.set p.toNat v) rs = undo f ws rs
  | [], _, _, h => (List.not_mem_nil h).elim
  | r :: rs, ws, h0, hm => by
    have h1 := h0 r List.mem_cons_self
    rw [undo_cons, undo_cons]
    by_cases e : p = r.1
    · rw [e, List.set_set]
    · rw [List.set_comm _ _ (show p.toNat ≠ r.1.toNat by omega)]
      rw [List.map_cons] at hm
      exact undo_over hp (fun x hx => h0 x (List.mem_cons_of_mem _ hx)) ((List.mem_cons.mp hm).resolve_left e)
theorem undo_not {f : Row → Int} {i : Nat} : ∀ {rs : List Row} {ws : List Int}, (∀ r ∈ rs, r.1.toNat ≠ i) → (undo f ws rs)[i]? = ws[i]?
  | [], _, _ => rfl
  | r :: rs, ws, h => by
    rw [undo_cons, undo_not fun x hx => h x (List.mem_cons_of_mem _ hx), List.getElem?_set_ne (h r List.mem_cons_self)]
theorem undo_mem {f : Row → Int} {r : Row} : ∀ {rs : List Row} {ws : List Int}, (rs.map (·.1)).Nodup → (∀ r ∈ rs, 0 ≤ r.1) → r ∈ rs → r.1.toNat < ws.length → (undo f ws rs)[r.1.toNat]? = some (f r)
  | [], _, _, _, h, _ => (List.not_mem_nil h).elim
  | x :: rs, ws, nd, h0, hm, hl => by
    rw [List.map_cons, List.nodup_cons] at nd
    rw [undo_cons]
    rcases List.mem_cons.mp hm with rfl | hm
    · rw [undo_not fun y hy z => nd.1 (List.mem_map.mpr ⟨y, hy, by have := h0 y (List.mem_cons_of_mem _ hy); have := h0 r List.mem_cons_self; omega⟩), List.getElem?_set_self hl]
    · exact undo_mem nd.2 (fun y hy => h0 y (List.mem_cons_of_mem _ hy)) hm (by rw [List.length_set]; exact hl)
theorem addR_mem {rs : List Row} {p a b : Int} {r : Row} (h : r ∈ addR rs p a b) : r ∈ rs ∨ r = (p, a, b) := by
  unfold addR at h
  split at h
  · exact .inl h
  · exact (List.mem_append.mp h).imp id List.mem_singleton.mp
theorem addR_nd {rs : List Row} {p a b : Int} (h : (rs.map (·.1)).Nodup) : ((addR rs p a b).map (·.1)).Nodup := by
  unfold addR
  split
  · exact h
  · rename_i hn
    rw [List.map_append]
    exact List.nodup_append.mpr ⟨h, by simp, fun x hx y hy z => hn (by rw [List.mem_singleton.mp hy] at z; rw [show p = x from z.symm]; exact hx)⟩
theorem undo_add {f : Row → Int} {p a b w : Int} {rs : List Row} {ws : List Int} (hp : 0 ≤ p) (h0 : ∀ r ∈ rs, 0 ≤ r.1) (he : ws[p.toNat]? = some (f (p, a, b))) : undo f (ws.set p.toNat w) (addR rs p a b) = undo f ws rs := by
  unfold addR
  split
  · rename_i hm
    exact undo_over hp h0 hm
  · rename_i hn
    have e : ws.set p.toNat (f (p, a, b)) = ws := by
      apply List.ext_getElem?
      intro i
      by_cases hi : p.toNat = i
      · subst hi
        rw [List.getElem?_set_self (List.getElem?_eq_some_iff.mp he).1, he]
      · rw [List.getElem?_set_ne hi]
    rw [undo_snoc, undo_comm hp h0 hn, List.set_set, ← undo_comm hp h0 hn, e]
theorem undo_join {f : Row → Int} : ∀ {xs ys : List Row} {ws : List Int}, (xs.map (·.1)).Nodup → (∀ r ∈ xs, 0 ≤ r.1) → (∀ r ∈ ys, 0 ≤ r.1) → undo f ws (joinR ys xs) = undo f (undo f ws xs) ys
  | [], _, _, _, _, _ => rfl
  | x :: xs, ys, ws, nd, h0, hy => by
    rw [List.map_cons, List.nodup_cons] at nd
    have hx := h0 x List.mem_cons_self
    have h0' : ∀ r ∈ xs, 0 ≤ r.1 := fun r hr => h0 r (List.mem_cons_of_mem _ hr)
    show undo f ws (joinR (addR ys x.1 x.2.1 x.2.2) xs) = _
    rw [undo_join nd.2 h0' fun r hr => (addR_mem hr).elim (hy r) fun e => by rw [e]; exact hx]
    rw [undo_cons, undo_comm hx h0' nd.1]
    unfold addR
    split
    · rename_i hm
      rw [undo_over hx hy hm]
    · rename_i hn
      rw [undo_snoc, undo_comm hx hy hn]
theorem joinR_mem : ∀ {xs ys : List Row} {r : Row}, r ∈ joinR ys xs → r ∈ ys ∨ r ∈ xs
  | [], _, _, h => .inl h
  | x :: xs, ys, r, h => by
    rcases joinR_mem (show r ∈ joinR (addR ys x.1 x.2.1 x.2.2) xs from h) with h | h
    · exact (addR_mem h).imp id fun e => by rw [e]; exact List.mem_cons_self
    · exact .inr (List.mem_cons_of_mem _ h)
theorem joinR_nd : ∀ {xs ys : List Row}, (ys.map (·.1)).Nodup → ((joinR ys xs).map (·.1)).Nodup
  | [], _, h => h
  | x :: xs, ys, h => joinR_nd (xs := xs) (ys := addR ys x.1 x.2.1 x.2.2) (addR_nd h)
structure DRel (sw sh ws hs : List Int) (rs : List Row) : Prop where
  nd : (rs.map (·.1)).Nodup
  inn : ∀ r ∈ rs, 0 ≤ r.1 ∧ r.1 < ws.length
  l : hs.length = ws.length
  w : undoW ws rs = sw
  h : undoH hs rs = sh
section
variable {sw sh mw mh ws hs : List Int} {rs xs : List Row}
theorem DRel.lw (D : DRel sw sh ws hs rs) : sw.length = ws.length := by rw [← D.w, undoW_eq, undo_len]
theorem DRel.lh (D : DRel sw sh ws hs rs) : sh.length = ws.length := by rw [← D.h, undoH_eq, undo_len, D.l]
theorem DRel.small (D : DRel sw sh ws hs rs) : rs.length ≤ ws.length := by
  have := nodup_le (l := rs.map (·.1)) (ds := (List.range ws.length).map Int.ofNat) D.nd fun k hk => by
    obtain ⟨r, hr, rfl⟩ := List.mem_map.mp hk
    have := D.inn r hr
    exact List.mem_map.mpr ⟨r.1.toNat, List.mem_range.mpr (by omega), by show ((r.1.toNat : Nat) : Int) = r.1; omega⟩
  rw [List.length_map, List.length_map, List.length_range] at this
  exact this
theorem DRel.new (h : hs.length = ws.length) : DRel ws hs ws hs [] := ⟨List.nodup_nil, fun _ z => (List.not_mem_nil z).elim, h, rfl, rfl⟩
theorem DRel.step (D : DRel sw sh ws hs rs) {p w h : Int} (h0 : 0 ≤ p) (h1 : p < ws.length) : DRel sw sh (ws.set p.toNat w) (hs.set p.toNat h) (addR rs p ((ws[p.toNat]?).getD 0) ((hs[p.toNat]?).getD 0)) := by
  have e1 : ws[p.toNat]? = some ((ws[p.toNat]?).getD 0) := by rw [List.getElem?_eq_getElem (by omega)]; rfl
  have e2 : hs[p.toNat]? = some ((hs[p.toNat]?).getD 0) := by rw [List.getElem?_eq_getElem (by rw [D.l]; omega)]; rfl
  refine ⟨addR_nd D.nd, fun r hr => ?_, by rw [List.length_set, List.length_set]; exact D.l, ?_, ?_⟩
  · rw [List.length_set]
    rcases addR_mem hr with hr | rfl
    · exact D.inn r hr
    · exact ⟨h0, h1⟩
  · rw [undoW_eq, undo_add h0 (fun r hr => (D.inn r hr).1) e1]; exact D.w
  · rw [undoH_eq, undo_add h0 (fun r hr => (D.inn r hr).1) e2]; exact D.h
theorem DRel.join (D : DRel mw mh ws hs xs) (E : DRel sw sh mw mh rs) : DRel sw sh ws hs (joinR rs xs) := by
  have hx : ∀ r ∈ xs, 0 ≤ r.1 := fun r hr => (D.inn r hr).1
  have hy : ∀ r ∈ rs, 0 ≤ r.1 := fun r hr => (E.inn r hr).1
  refine ⟨joinR_nd E.nd, fun r hr => ?_, D.l, ?_, ?_⟩
  · rcases joinR_mem hr with hr | hr
    · rw [← D.lw]; exact E.inn r hr
    · exact D.inn r hr
  · rw [undoW_eq, undo_join D.nd hx hy, ← undoW_eq, ← undoW_eq, D.w]; exact E.w
  · rw [undoH_eq, undo_join D.nd hx hy, ← undoH_eq, ← undoH_eq, D.h]; exact E.h
/-- the places that differ -/
noncomputable def difB (ws hs sw sh : List Int) (i : Nat) : Bool := !(decide (ws[i]? = sw[i]?) && decide (hs[i]? = sh[i]?))
noncomputable def diffC (ws hs sw sh : List Int) : Nat := ((List.range ws.length).filter (difB ws hs sw sh)).length
theorem diffC_le : diffC ws hs sw sh ≤ ws.length := by
  have := List.length_filter_le (difB ws hs sw sh) (List.range ws.length)
  rw [List.length_range] at this
  exact this
theorem DRel.cost (D : DRel sw sh ws hs rs) {g : Grd} (e1 : g.ws = ws) (e2 : g.hs = hs) : costR g rs = diffC ws hs sw sh := by
  have h0 : ∀ r ∈ rs, 0 ≤ r.1 := fun r hr => (D.inn r hr).1
  have aw : ∀ r ∈ rs, sw[r.1.toNat]? = some r.2.1 := fun r hr => by
    have := D.inn r hr
    rw [← D.w, undoW_eq]; exact undo_mem (f := fun r => r.2.1) D.nd h0 hr (by omega)
  have ah : ∀ r ∈ rs, sh[r.1.toNat]? = some r.2.2 := fun r hr => by
    have := D.inn r hr
    rw [← D.h, undoH_eq]; exact undo_mem (f := fun r => r.2.2) D.nd h0 hr (by rw [D.l]; omega)
  have e3 : rs.filter (fun r => !(decide (g.ws[r.1.toNat]? = some r.2.1) && decide (g.hs[r.1.toNat]? = some r.2.2))) = rs.filter (fun r => difB ws hs sw sh r.1.toNat) := by
    refine List.filter_congr fun r hr => ?_
    unfold difB
    rw [e1, e2, aw r hr, ah r hr]
  unfold costR diffC
  rw [e3, ← List.length_map (f := fun r : Row => r.1.toNat)]
  refine List.Perm.length_eq ((List.perm_ext_iff_of_nodup ?_ (List.Nodup.sublist List.filter_sublist List.nodup_range)).mpr fun i => ?_)
  · have nd2 : ((rs.filter fun r => difB ws hs sw sh r.1.toNat).map (·.1)).Nodup := List.Nodup.sublist (List.filter_sublist.map _) D.nd
    refine (List.pairwise_iff_forall_sublist).mpr fun {a b} hs' => ?_
    rw [show (fun r : Row => r.1.toNat) = Int.toNat ∘ (·.1) from rfl, ← List.map_map] at hs'
    obtain ⟨l, hl, e⟩ := List.sublist_map_iff.mp hs'
    match l, e with
    | [x, y], e =>
      simp only [List.map_cons, List.map_nil, List.cons.injEq, and_true] at e
      have hxy := (List.pairwise_iff_forall_sublist).mp nd2 hl
      have sub : ∀ z ∈ [x, y], 0 ≤ z := fun z hz => by
        obtain ⟨r, hr, rfl⟩ := List.mem_map.mp (hl.subset hz)
        exact h0 r (List.mem_filter.mp hr).1
      have := sub x (by simp)
      have := sub y (by simp)
      rw [e.1, e.2]
      omega
  · rw [List.mem_filter, List.mem_range, List.mem_map]
    constructor
    · rintro ⟨r, hr, rfl⟩
      obtain ⟨h1, h2⟩ := List.mem_filter.mp hr
      have := D.inn r h1
      exact ⟨by omega, h2⟩
    · rintro ⟨h1, h2⟩
      by_cases hm : ∃ r ∈ rs, r.1.toNat = i
      · obtain ⟨r, hr, rfl⟩ := hm
        exact ⟨r, List.mem_filter.mpr ⟨hr, h2⟩, rfl⟩
      · exfalso
        have hn : ∀ r ∈ rs, r.1.toNat ≠ i := fun r hr z => hm ⟨r, hr, z⟩
        have f1 : sw[i]? = ws[i]? := by rw [← D.w, undoW_eq]; exact undo_not hn
        have f2 : sh[i]? = hs[i]? := by rw [← D.h, undoH_eq]; exact undo_not hn
        unfold difB at h2
        rw [f1, f2] at h2
        simp at h2
end
noncomputable abbrev Snap := List Int × List Int
inductive Chain : List Int → List Int → List Deed → List Snap → Prop
  | nil {ws hs : List Int} : Chain ws hs [] []
  | snoc {ws hs sw sh : List Int} {d0 : List Deed} {s0 : List Snap} {x : Deed} : DRel sw sh ws hs x.rs → Chain sw sh d0 s0 → Chain ws hs (d0 ++ [x]) (s0 ++ [(sw, sh)])
section
variable {ws hs sw sh : List Int} {ds : List Deed} {ss s0 : List Snap}
theorem Chain.len (h : Chain ws hs ds ss) : ds.length = ss.length := by
  induction h with
  | nil => rfl
  | snoc _ _ ih => rw [List.length_append, List.length_append, ih]; rfl
theorem Chain.empty (h : Chain ws hs ds []) : ds = [] := List.eq_nil_of_length_eq_zero h.len
theorem Chain.empty' (h : Chain ws hs [] ss) : ss = [] := List.eq_nil_of_length_eq_zero h.len.symm
theorem Chain.last (h : Chain ws hs ds (s0 ++ [(sw, sh)])) : ∃ d0 x, ds = d0 ++ [x] ∧ DRel sw sh ws hs x.rs ∧ Chain sw sh d0 s0 := by
  generalize e : s0 ++ [(sw, sh)] = ss at h
  cases h with
  | nil => simp at e
  | snoc D C =>
    obtain ⟨e1, e2⟩ := List.append_inj' e rfl
    cases e1
    cases e2
    exact ⟨_, _, rfl, D, C⟩
theorem Chain.lastD {d0 : List Deed} {x : Deed} (h : Chain ws hs (d0 ++ [x]) ss) : ∃ s0 sw sh, ss = s0 ++ [(sw, sh)] ∧ DRel sw sh ws hs x.rs ∧ Chain sw sh d0 s0 := by
  generalize e : d0 ++ [x] = ds at h
  cases h with
  | nil => simp at e
  | snoc D C =>
    obtain ⟨e1, e2⟩ := List.append_inj' e rfl
    cases e1
    cases e2
    exact ⟨_, _, _, rfl, D, C⟩
end
end
section
open PySem PySem.Spec PyProof.Rows L2 LL LT
variable {P : Program} {w : World} {K : PySem.W.Frag} {mg : Str → Option Value} {base : Heap}

/-! ### a ground, its deeds told by what they began with -/
structure Ab where
  p : Int
  w : Int
  f : Int
  bud : Tr
  sp : Int
  ws : List Int
  hs : List Int
  ss : List Snap
structure Sz (A : Ab) : Prop where
  p0 : 1 ≤ A.p
  p1 : A.p ≤ 256
  w : A.w = 16 ∨ A.w = 32 ∨ A.w = 64
  l : (A.ws.length : Int) = A.p * A.w
  lh : A.hs.length = A.ws.length
  b : A.bud = .non ∨ ∃ b : Int, A.bud = .int b
noncomputable def mkG (a dx b h d : Addr) (A : Ab) (ds : List Deed) : Grd := ⟨a, dx, b, h, d, A.p, A.w, A.f, A.bud, A.sp, A.ws, A.hs, ds⟩
structure Gd (K : PySem.W.Frag) (a : Addr) (A : Ab) (own : List Addr) (Ω : Om) : Prop where
  ex : ∃ (dx b h d : Addr) (ds : List Deed), own = (mkG a dx b h d A ds).own ∧ At K (mkG a dx b h d A ds) Ω ∧ Chain A.ws A.hs ds A.ss
  sz : Sz A
/-- what is not own stays; what is newly own is new -/
noncomputable def Nx (o : List Addr) (Ω : Om) (o' : List Addr) (Ω' : Om) : Prop := (∀ x ∈ o', x ∈ o ∨ Ω x = none) ∧ ∀ x c, Ω x = some c → x ∉ o → Ω' x = some c
theorem Nx.refl {o : List Addr} {Ω : Om} : Nx o Ω o Ω := ⟨fun _ h => .inl h, fun _ _ h _ => h⟩
theorem Nx.trans {o o1 o2 : List Addr} {Ω Ω1 Ω2 : Om} (h : Nx o Ω o1 Ω1) (k : Nx o1 Ω1 o2 Ω2) : Nx o Ω o2 Ω2 := by
  refine ⟨fun x hx => ?_, fun x c e hx => ?_⟩
  · rcases k.1 x hx with h1 | h1
    · exact h.1 x h1
    · by_cases hm : x ∈ o
      · exact .inl hm
      · cases e : Ω x with
        | none => exact .inr rfl
        | some c => rw [h.2 x c e hm] at h1; cases h1
  · refine k.2 x c (h.2 x c e hx) fun hm => ?_
    rcases h.1 x hm with h1 | h1
    · exact hx h1
    · rw [e] at h1; cases h1
theorem Nx.sub {g : Grd} {o : List Addr} {Ω Ω' : Om} (h : ∀ x ∈ g.own, x ∈ o) (F : Fr g Ω Ω') : Nx o Ω g.own Ω' := ⟨fun x hx => .inl (h x hx), fun x c e hx => by rw [F x fun z => hx (h x z)]; exact e⟩
theorem Sz.n {A : Ab} (S : Sz A) : 16 ≤ A.ws.length ∧ A.ws.length ≤ 16384 := by
  have h := S.l
  have h0 := S.p0
  have h1 := S.p1
  rcases S.w with e | e | e <;> rw [e] at h <;> omega
section
variable {K : PySem.W.Frag} {a : Addr} {A : Ab} {own : List Addr} {Ω : Om} {PQ : PT'} {PX : PXt}
theorem Gd.top (G : Gd K a A own Ω) (q : PQ (.int (A.ws.length : Nat)) Ω) : wp_top K [.obj a] Ω PQ PX := by
  obtain ⟨dx, b, h, d, ds, eo, At1, C⟩ := G.ex
  have S := G.sz
  have := S.p0
  have := S.p1
  refine ⟨mkG a dx b h d A ds, rfl, At1, ⟨by show 0 ≤ A.p; omega, by show A.p ≤ 256; omega, by show 0 ≤ A.w; rcases S.w with e | e | e <;> omega, by show A.w ≤ 64; rcases S.w with e | e | e <;> omega⟩, ?_⟩
  show PQ (.int (A.p * A.w)) Ω
  rw [← S.l]
  exact q
theorem Gd.place (G : Gd K a A own Ω) {t : Tr} (hk : (kindT t).isSome = true) (q1 : InR 0 ((A.ws.length : Int) - 1) t → PQ .non Ω) (q2 : ¬ InR 0 ((A.ws.length : Int) - 1) t → PX (badX (.str "place")) Ω) : wp_nplace K [.obj a, t] Ω PQ PX := by
  obtain ⟨dx, b, h, d, ds, eo, At1, C⟩ := G.ex
  have S := G.sz
  have := S.p0
  have := S.p1
  have e : (mkG a dx b h d A ds).p * (mkG a dx b h d A ds).w = (A.ws.length : Int) := S.l.symm
  refine ⟨mkG a dx b h d A ds, t, rfl, At1, ⟨by show 0 ≤ A.p; omega, by show A.p ≤ 256; omega, by show 0 ≤ A.w; rcases S.w with e | e | e <;> omega, by show A.w ≤ 64; rcases S.w with e | e | e <;> omega⟩, hk, ?_, ?_⟩
  · rw [e]; exact q1
  · rw [e]; exact q2
theorem Gd.spent (G : Gd K a A own Ω) (q : PQ (.int A.sp) Ω) : wp_spent K [.obj a] Ω PQ PX := by
  obtain ⟨dx, b, h, d, ds, eo, At1, C⟩ := G.ex
  exact ⟨mkG a dx b h d A ds, rfl, At1, q⟩
theorem Gd.budget (G : Gd K a A own Ω) (q : PQ A.bud Ω) : wp_budget K [.obj a] Ω PQ PX := by
  obtain ⟨dx, b, h, d, ds, eo, At1, C⟩ := G.ex
  exact ⟨mkG a dx b h d A ds, rfl, At1, q⟩
theorem Gd.depth (G : Gd K a A own Ω) (q : PQ (.int A.ss.length) Ω) : wp_depth K [.obj a] Ω PQ PX := by
  obtain ⟨dx, b, h, d, ds, eo, At1, C⟩ := G.ex
  refine ⟨mkG a dx b h d A ds, rfl, At1, ?_⟩
  show PQ (.int ds.length) Ω
  rw [C.len]
  exact q
noncomputable def imgOf (A : Ab) : Tr := .tup [.int A.w, .int A.f, .tup (A.ws.map Tr.int), .tup (A.hs.map Tr.int)]
theorem Gd.image (G : Gd K a A own Ω) (q : PQ (imgOf A) Ω) : wp_image K [.obj a] Ω PQ PX := by
  obtain ⟨dx, b, h, d, ds, eo, At1, C⟩ := G.ex
  exact ⟨mkG a dx b h d A ds, rfl, At1, q⟩
theorem Gd.held (G : Gd K a A own Ω) {s e h : Int} (h0 : 0 ≤ s) (h1 : s ≤ e) (h2 : e ≤ A.ws.length) (q1 : isHeld A.hs h s e → PQ .non Ω) (q2 : ∀ p k : Int, s ≤ p → p < e → isHeld A.hs h s p → A.hs[p.toNat]? = some k → k ≠ h → PX (heldX p k) Ω) : wp_nheld K [.obj a, .int s, .int e, .int h] Ω PQ PX := by
  obtain ⟨dx, b, h, d, ds, eo, At1, C⟩ := G.ex
  have n := G.sz.n
  have e3 : (mkG a dx b h d A ds).hs.length = A.ws.length := G.sz.lh
  exact ⟨mkG a dx b h d A ds, s, e, _, rfl, At1, h0, h1, by rw [e3]; exact h2, by rw [e3]; omega, q1, q2⟩
/-- what is nobody's is fill -/
noncomputable def FillsA (ws hs : List Int) (f s e : Int) : Prop := ∀ p : Int, s ≤ p → p < e → hs[p.toNat]? = some 0 → ws[p.toNat]? = some f
theorem Gd.fills (G : Gd K a A own Ω) {s e : Int} (h0 : 0 ≤ s) (h1 : s ≤ e) (h2 : e ≤ A.ws.length) (q1 : FillsA A.ws A.hs A.f s e → PQ .non Ω) (q2 : ∀ p k : Int, s ≤ p → p < e → FillsA A.ws A.hs A.f s p → A.hs[p.toNat]? = some 0 → A.ws[p.toNat]? = some k → k ≠ A.f → PX (brokenX p k A.f) Ω) : wp_nfill K [.obj a, .int s, .int e] Ω PQ PX := by
  obtain ⟨dx, b, h, d, ds, eo, At1, C⟩ := G.ex
  have n := G.sz.n
  have e3 : (mkG a dx b h d A ds).hs.length = A.ws.length := G.sz.lh
  exact ⟨mkG a dx b h d A ds, s, e, rfl, At1, h0, h1, by rw [e3]; exact h2, e3.symm, by rw [e3]; omega, q1, q2⟩
theorem Gd.begin (G : Gd K a A own Ω) (hl : A.ss.length ≤ 1000) (q : ∀ own' Ω', Gd K a { A with ss := A.ss ++ [(A.ws, A.hs)] } own' Ω' → Nx own Ω own' Ω' → PQ (.int (A.ss.length + 1)) Ω') : wp_begin K [.obj a] Ω PQ PX := by
  obtain ⟨dx, b, h, d, ds, eo, At1, C⟩ := G.ex
  subst eo
  have el := C.len
  refine ⟨mkG a dx b h d A ds, rfl, At1, by show ds.length ≤ 1000; omega, fun e Ω' he At2 F => ?_⟩
  show PQ (.int ((ds.length : Nat) + 1)) Ω'
  rw [el]
  refine q _ Ω' ⟨⟨dx, b, h, d, ds ++ [Deed.mk e []], rfl, At2, .snoc (x := Deed.mk e []) (.new G.sz.lh) C⟩, ⟨G.sz.p0, G.sz.p1, G.sz.w, G.sz.l, G.sz.lh, G.sz.b⟩⟩ ⟨fun x hx => ?_, fun x c ex hx => ?_⟩
  · have hx' : x ∈ (mkG a dx b h d A ds).own ∨ x = e := by
      simp only [Grd.own, mkG, List.map_append, List.map_cons, List.map_nil, List.mem_cons, List.mem_append, List.not_mem_nil, or_false] at hx ⊢
      rcases hx with h | h | h | h | h | h
      · exact .inl (.inl h)
      · exact .inl (.inr (.inl h))
      · exact .inl (.inr (.inr (.inl h)))
      · exact .inl (.inr (.inr (.inr (.inl h))))
      · exact .inl (.inr (.inr (.inr (.inr h))))
      · exact .inr h
    exact hx'.imp id fun z => by rw [z]; exact he
  · rw [F x fun z => ?_]
    · exact ex
    · have hxe : x ≠ e := fun y => by rw [y, he] at ex; cases ex
      simp only [Grd.own, mkG, List.map_append, List.map_cons, List.map_nil, List.mem_cons, List.mem_append, List.not_mem_nil, or_false] at z hx
      rcases z with h | h | h | h | h | h
      · exact hx (.inl h)
      · exact hx (.inr (.inl h))
      · exact hx (.inr (.inr (.inl h)))
      · exact hx (.inr (.inr (.inr (.inl h))))
      · exact hx (.inr (.inr (.inr (.inr h))))
      · exact hxe h
theorem snoc_of {α : Type} {l : List α} (h : l ≠ []) : ∃ l0 x, l = l0 ++ [x] := by
  rcases List.eq_nil_or_concat l with e | ⟨l0, x, e⟩
  · exact absurd e h
  · exact ⟨l0, x, by simpa using e⟩
theorem rowsIn_of {sw sh ws hs : List Int} {rs : List Row} (D : DRel sw sh ws hs rs) {g : Grd} (e1 : g.ws = ws) (e2 : g.hs = hs) : RowsIn g rs := fun r hr => by
  have := D.inn r hr
  rw [e1, e2, D.l]
  exact ⟨this.1, this.2, this.2⟩
theorem Gd.change (G : Gd K a A own Ω) (hs : A.ss ≠ []) {p w h : Int} (h0 : 0 ≤ p) (h1 : p < A.ws.length) (q : ∀ own' Ω', Gd K a { A with ws := A.ws.set p.toNat w, hs := A.hs.set p.toNat h } own' Ω' → Nx own Ω own' Ω' → PQ .non Ω') : wp_change K [.obj a, .int p, .int w, .int h] Ω PQ PX := by
  obtain ⟨dx, b, hh, d, ds, eo, At1, C⟩ := G.ex
  subst eo
  obtain ⟨s0, ⟨sw, sh⟩, es⟩ := snoc_of hs
  rw [es] at C
  obtain ⟨d0, x, rfl, D, C0⟩ := C.last
  have n := G.sz.n
  have sm := D.small
  refine ⟨mkG a dx b hh d A (d0 ++ [x]), d0, x, p, w, h, rfl, At1, rfl, h0, h1, G.sz.lh.symm, by omega, fun Ω' At2 F => ?_⟩
  have C1 : Chain (A.ws.set p.toNat w) (A.hs.set p.toNat h) (d0 ++ [⟨x.e, addR x.rs p ((A.ws[p.toNat]?).getD 0) ((A.hs[p.toNat]?).getD 0)⟩]) (s0 ++ [(sw, sh)]) := .snoc (D.step h0 h1) C0
  rw [← es] at C1
  refine q _ Ω' ⟨⟨dx, b, hh, d, _, rfl, At2, C1⟩, ⟨G.sz.p0, G.sz.p1, G.sz.w, by rw [List.length_set]; exact G.sz.l, by rw [List.length_set, List.length_set]; exact G.sz.lh, G.sz.b⟩⟩ (.sub (fun y hy => ?_) F)
  simp only [Grd.own, mkG, List.map_append, List.map_cons, List.map_nil] at hy ⊢
  exact hy
theorem Gd.cancel (G : Gd K a A own Ω) (q1 : A.ss = [] → PX noDeedX Ω) (q2 : ∀ s0 sw sh, A.ss = s0 ++ [(sw, sh)] → ∀ own' Ω', Gd K a { A with ws := sw, hs := sh, ss := s0 } own' Ω' → Nx own Ω own' Ω' → PQ .non Ω') : wp_cancel K [.obj a] Ω PQ PX := by
  obtain ⟨dx, b, hh, d, ds, eo, At1, C⟩ := G.ex
  subst eo
  refine ⟨mkG a dx b hh d A ds, rfl, At1, fun e => q1 ?_, fun d0 x e => ?_⟩
  · rw [show ds = [] from e] at C
    exact C.empty'
  · obtain rfl : ds = d0 ++ [x] := e
    obtain ⟨s0, sw, sh, es, D, C0⟩ := C.lastD
    have n := G.sz.n
    have sm := D.small
    refine ⟨rowsIn_of D rfl rfl, by omega, fun Ω' At2 F => ?_⟩
    have C1 : Chain (undoW A.ws x.rs) (undoH A.hs x.rs) d0 s0 := by rw [D.w, D.h]; exact C0
    have r := q2 s0 sw sh es (undoG (mkG a dx b hh d A (d0 ++ [x])) d0 x.rs).own Ω'
    rw [← D.w, ← D.h] at r
    refine r ⟨⟨dx, b, hh, d, d0, rfl, At2, C1⟩, ⟨G.sz.p0, G.sz.p1, G.sz.w, by rw [undoW_len]; exact G.sz.l, by rw [undoW_len, undoH_len]; exact G.sz.lh, G.sz.b⟩⟩ (.sub (fun y hy => ?_) F)
    simp only [Grd.own, undoG, mkG, List.map_append, List.map_cons, List.map_nil, List.mem_cons, List.mem_append, List.not_mem_nil, or_false] at hy ⊢
    rcases hy with h | h | h | h | h
    · exact .inl h
    · exact .inr (.inl h)
    · exact .inr (.inr (.inl h))
    · exact .inr (.inr (.inr (.inl h)))
    · exact .inr (.inr (.inr (.inr (.inl h))))
/-- how the last deed of A ends -/
structure EndOk (K : PySem.W.Frag) (a : Addr) (A : Ab) (own : List Addr) (Ω : Om) (s0 : List Snap) (sw sh : List Int) (PQ : PT') (PX : PXt) : Prop where
  inn : s0 ≠ [] → ∀ own' Ω', Gd K a { A with ss := s0 } own' Ω' → Nx own Ω own' Ω' → PQ (.int (diffC A.ws A.hs sw sh)) Ω'
  fre : s0 = [] → A.bud = .non → ∀ own' Ω', Gd K a { A with ss := s0, sp := A.sp + diffC A.ws A.hs sw sh } own' Ω' → Nx own Ω own' Ω' → PQ (.int (diffC A.ws A.hs sw sh)) Ω'
  pay : ∀ b : Int, s0 = [] → A.bud = .int b → diffC A.ws A.hs sw sh ≤ b → ∀ own' Ω', Gd K a { A with ss := s0, sp := A.sp + diffC A.ws A.hs sw sh, bud := .int (b - diffC A.ws A.hs sw sh) } own' Ω' → Nx own Ω own' Ω' → PQ (.int (diffC A.ws A.hs sw sh)) Ω'
  cut : ∀ b : Int, s0 = [] → A.bud = .int b → b < diffC A.ws A.hs sw sh → ∀ own' Ω', Gd K a { A with ws := sw, hs := sh, ss := s0 } own' Ω' → Nx own Ω own' Ω' → PX (cutX (diffC A.ws A.hs sw sh) b) Ω'
theorem Gd.commit (G : Gd K a A own Ω) (hl : A.ss.length ≤ 1001) (q1 : A.ss = [] → PX noDeedX Ω) (q2 : ∀ s0 sw sh, A.ss = s0 ++ [(sw, sh)] → EndOk K a A own Ω s0 sw sh PQ PX) : wp_commit K [.obj a] Ω PQ PX := by
  obtain ⟨dx, b, hh, d, ds, eo, At1, C⟩ := G.ex
  subst eo
  refine ⟨mkG a dx b hh d A ds, rfl, At1, fun e => q1 ?_, fun d0 x e => ?_⟩
  · rw [show ds = [] from e] at C
    exact C.empty'
  · obtain rfl : ds = d0 ++ [x] := e
    obtain ⟨s0, sw, sh, es, D, C0⟩ := C.lastD
    have n := G.sz.n
    have sm := D.small
    have hlen := C0.len
    have q := q2 s0 sw sh es
    have hc : costR (mkG a dx b hh d A (d0 ++ [x])) x.rs = diffC A.ws A.hs sw sh := D.cost rfl rfl
    have S' : ∀ (s : List Snap) (sp : Int) (bud : Tr), (bud = .non ∨ ∃ b : Int, bud = .int b) → Sz { A with ss := s, sp := sp, bud := bud } := fun s sp bud hb => ⟨G.sz.p0, G.sz.p1, G.sz.w, G.sz.l, G.sz.lh, hb⟩
    have sub : ∀ (y : Addr) (ds' : List Deed), (∀ z ∈ ds', z.e ∈ (d0 ++ [x]).map (·.e)) → y ∈ (mkG a dx b hh d A ds').own → y ∈ (mkG a dx b hh d A (d0 ++ [x])).own := fun y ds' hd hy => by
      simp only [Grd.own, mkG, List.mem_cons, List.mem_map] at hy ⊢
      rcases hy with h | h | h | h | ⟨z, hz, rfl⟩
      · exact .inl h
      · exact .inr (.inl h)
      · exact .inr (.inr (.inl h))
      · exact .inr (.inr (.inr (.inl h)))
      · exact .inr (.inr (.inr (.inr (List.mem_map.mp (hd z hz)))))
    refine ⟨rowsIn_of D rfl rfl, by omega, by rw [es, List.length_append] at hl; simp only [List.length_cons, List.length_nil] at hl; omega, fun e0 => ?_, fun c0 y e0 => ?_⟩
    · subst e0
      obtain rfl := C0.empty'
      rw [hc]
      rcases G.sz.b with hb | ⟨bb, hb⟩
      · exact .inl ⟨hb, fun Ω' At2 F => q.fre rfl hb _ Ω' ⟨⟨dx, b, hh, d, [], rfl, At2, .nil⟩, S' _ _ _ G.sz.b⟩ (.sub (fun y hy => sub y [] (fun z hz => (List.not_mem_nil hz).elim) hy) F)⟩
      · refine .inr ⟨bb, hb, fun hlt Ω' At2 F => ?_, fun hle Ω' At2 F => q.pay bb rfl hb hle _ Ω' ⟨⟨dx, b, hh, d, [], rfl, At2, .nil⟩, S' _ _ _ (.inr ⟨_, rfl⟩)⟩ (.sub (fun y hy => sub y [] (fun z hz => (List.not_mem_nil hz).elim) hy) F)⟩
        refine q.cut bb rfl hb hlt _ Ω' ⟨⟨dx, b, hh, d, [], rfl, ?_, .nil⟩, ⟨G.sz.p0, G.sz.p1, G.sz.w, by rw [D.lw]; exact G.sz.l, by rw [D.lw, D.lh], G.sz.b⟩⟩ (.sub (fun y hy => sub y [] (fun z hz => (List.not_mem_nil hz).elim) hy) F)
        rw [← D.w, ← D.h]
        exact At2
    · subst e0
      obtain ⟨c1, ⟨vw, vh⟩, ec⟩ := snoc_of (l := s0) (fun z => by rw [z] at C0; have := C0.empty; simp at this)
      rw [ec] at C0
      obtain ⟨c2, y2, e2, D2, C2⟩ := C0.last
      obtain ⟨rfl, e3⟩ := List.append_inj' e2 rfl
      cases e3
      have sm2 := D2.small
      have := D.lw
      refine ⟨by omega, fun Ω' At2 F => ?_⟩
      rw [hc]
      have C1 : Chain A.ws A.hs (c0 ++ [⟨y.e, joinR y.rs x.rs⟩]) (c1 ++ [(vw, vh)]) := .snoc (D.join D2) C2
      rw [← ec] at C1
      refine q.inn (by rw [ec]; simp) _ Ω' ⟨⟨dx, b, hh, d, _, rfl, At2, C1⟩, S' _ _ _ G.sz.b⟩ (.sub (fun z hz => sub z _ (fun v hv => ?_) hz) F)
      simp only [List.map_append, List.map_cons, List.map_nil, List.mem_append, List.mem_cons, List.not_mem_nil, or_false] at hv ⊢
      rcases hv with hv | rfl
      · exact .inl (.inl (List.mem_map.mpr ⟨v, hv, rfl⟩))
      · exact .inl (.inr rfl)
/-- what becomes of a method that changes A to A1 -/
structure Out (K : PySem.W.Frag) (a : Addr) (A : Ab) (own : List Addr) (Ω : Om) (A1 : Ab) (PQ : Om → Prop) (PX : PXt) : Prop where
  inn : A.ss ≠ [] → ∀ own' Ω', Gd K a A1 own' Ω' → Nx own Ω own' Ω' → PQ Ω'
  fre : A.ss = [] → A.bud = .non → ∀ own' Ω', Gd K a { A1 with sp := A.sp + diffC A1.ws A1.hs A.ws A.hs } own' Ω' → Nx own Ω own' Ω' → PQ Ω'
  pay : ∀ b : Int, A.ss = [] → A.bud = .int b → diffC A1.ws A1.hs A.ws A.hs ≤ b → ∀ own' Ω', Gd K a { A1 with sp := A.sp + diffC A1.ws A1.hs A.ws A.hs, bud := .int (b - diffC A1.ws A1.hs A.ws A.hs) } own' Ω' → Nx own Ω own' Ω' → PQ Ω'
  cut : ∀ b : Int, A.ss = [] → A.bud = .int b → b < diffC A1.ws A1.hs A.ws A.hs → ∀ own' Ω', Gd K a A own' Ω' → Nx own Ω own' Ω' → PX (cutX (diffC A1.ws A1.hs A.ws A.hs) b) Ω'
/-- the deed of a method ends -/
theorem Out.ends {ws' hs' : List Int} {own2 : List Addr} {Ω2 : Om} {P : Om → Prop} (O : Out K a A own Ω { A with ws := ws', hs := hs' } P PX) (N : Nx own Ω own2 Ω2) {s0 : List Snap} {sw sh : List Int} (e : A.ss ++ [(A.ws, A.hs)] = s0 ++ [(sw, sh)]) : EndOk K a { A with ws := ws', hs := hs', ss := A.ss ++ [(A.ws, A.hs)] } own2 Ω2 s0 sw sh (fun _ Ω' => P Ω') PX := by
  obtain ⟨rfl, e2⟩ := List.append_inj' e rfl
  cases e2
  exact ⟨fun h own' Ω' G N2 => O.inn h own' Ω' G (N.trans N2), fun h hb own' Ω' G N2 => O.fre h hb own' Ω' G (N.trans N2), fun b h hb hle own' Ω' G N2 => O.pay b h hb hle own' Ω' G (N.trans N2), fun b h hb hlt own' Ω' G N2 => O.cut b h hb hlt own' Ω' G (N.trans N2)⟩
end
end
section
open PySem PySem.Spec PyProof.Rows L2 LL LT
variable {P : Program} {w : World} {K : PySem.W.Frag} {mg : Str → Option Value} {base : Heap}

/-! ### read, write, poke -/
noncomputable def userB (i : Int) : Bool := holdB i && !decide (i = 0)
noncomputable def userT : Tr → Bool
  | .int i => userB i
  | _ => false
noncomputable def wa_poke (K : PySem.W.Frag) : Pw := fun ts Ω PQ PX => ∃ (a : Addr) (A : Ab) (own : List Addr) (t1 t2 : Tr), ts = [.obj a, t1, t2] ∧ Gd K a A own Ω ∧ A.ss.length ≤ 900 ∧ dataT t1 = true ∧ dataT t2 = true ∧ (¬ InR 0 ((A.ws.length : Int) - 1) t1 → PX (badX (.str "place")) Ω) ∧ (InR 0 ((A.ws.length : Int) - 1) t1 → wordT t2 = false → PX (badX (.str "word")) Ω) ∧
  ∀ p w : Int, t1 = .int p → 0 ≤ p → p < A.ws.length → t2 = .int w → wordB w = true → Out K a A own Ω { A with ws := A.ws.set p.toNat w } (PQ .non) PX
noncomputable def wa_write (K : PySem.W.Frag) : Pw := fun ts Ω PQ PX => ∃ (a : Addr) (A : Ab) (own : List Addr) (t1 t2 t3 : Tr), ts = [.obj a, t1, t2, t3] ∧ Gd K a A own Ω ∧ A.ss.length ≤ 900 ∧ dataT t1 = true ∧ dataT t2 = true ∧ dataT t3 = true ∧ (¬ InR 0 ((A.ws.length : Int) - 1) t1 → PX (badX (.str "place")) Ω) ∧ (InR 0 ((A.ws.length : Int) - 1) t1 → wordT t2 = false → PX (badX (.str "word")) Ω) ∧ (InR 0 ((A.ws.length : Int) - 1) t1 → wordT t2 = true → userT t3 = false → PX (badX (.str "holder")) Ω) ∧
  ∀ p w h : Int, t1 = .int p → 0 ≤ p → p < A.ws.length → t2 = .int w → wordB w = true → t3 = .int h → userB h = true → (∀ k, A.hs[p.toNat]? = some k → k ≠ h → PX (heldX p k) Ω) ∧ (A.hs[p.toNat]? = some h → Out K a A own Ω { A with ws := A.ws.set p.toNat w } (PQ .non) PX)
theorem inR_int {lo hi : Int} {t : Tr} (h : InR lo hi t) : ∃ p : Int, t = .int p ∧ lo ≤ p ∧ p ≤ hi := by
  cases t with
  | int i => exact ⟨i, rfl, h⟩
  | _ => exact h.elim
theorem word_int {t : Tr} (h : wordT t = true) : ∃ w : Int, t = .int w ∧ wordB w = true := by
  cases t with
  | int i => exact ⟨i, rfl, h⟩
  | _ => cases (show false = true from h)
theorem set_get {ws : List Int} {i : Nat} {v : Int} (h : ws[i]? = some v) : ws.set i v = ws := by
  apply List.ext_getElem?
  intro j
  by_cases hj : i = j
  · subst hj
    rw [List.getElem?_set_self (List.getElem?_eq_some_iff.mp h).1, h]
  · rw [List.getElem?_set_ne hj]
section
variable {K : PySem.W.Frag} {a : Addr} {A : Ab} {own : List Addr} {Ω : Om}
theorem Gd.meth (G : Gd K a A own Ω) {m : Str} (hm : ∀ p w f bud sp b h d, fldT grN [.int p, .int w, .int f, bud, .int sp, .obj b, .obj h, .obj d] m = none) : insM (He.ga K "Ground") m (.obj a) Ω = some a := by
  obtain ⟨dx, b, h, d, ds, eo, At1, C⟩ := G.ex
  exact insM_obj At1.o (hm _ _ _ _ _ _ _ _)
theorem Gd.prop (G : Gd K a A own Ω) : insP (He.ga K "Ground") (.obj a) Ω = some a := by
  obtain ⟨dx, b, h, d, ds, eo, At1, C⟩ := G.ex
  exact At1.prop
theorem Gd.words (G : Gd K a A own Ω) : ∃ b, insF (He.ga K "Ground") "_words" (.obj a) Ω = some (.obj b) ∧ asS (.obj b) Ω = some (A.ws.map Tr.int) := by
  obtain ⟨dx, b, h, d, ds, eo, At1, C⟩ := G.ex
  exact ⟨_, At1.words, asS_obj At1.b⟩
theorem Gd.holders (G : Gd K a A own Ω) : ∃ b, insF (He.ga K "Ground") "_holders" (.obj a) Ω = some (.obj b) ∧ asS (.obj b) Ω = some (A.hs.map Tr.int) := by
  obtain ⟨dx, b, h, d, ds, eo, At1, C⟩ := G.ex
  exact ⟨_, At1.holders, asS_obj At1.h⟩
theorem Gd.fill (G : Gd K a A own Ω) : insF (He.ga K "Ground") "fill" (.obj a) Ω = some (.int A.f) := by
  obtain ⟨dx, b, h, d, ds, eo, At1, C⟩ := G.ex
  exact At1.fill
end

theorem ok_Ground_poke (T : Tx K mg) : FnOk P w K mg base (L2.CX P w) 6 (He.ma K (He.ga K "Ground") "poke") T.fd_Ground_poke P_Ground_poke (spD K (wa_poke K) 3) := by
  refine dok T.F_Ground_poke sc_Ground_poke fun cdv A outer s H E hr => ?_
  refine' dokMk ((pss_cons (ps_expr (pe_meth (pv 0) T.c_Ground T.h_Ground_need_place (ok_Ground_need_place T) (hr.mono (by decide)) (b_Ground_need_place T) .nil (passR (takes_of rfl rfl rfl rfl) (fun _ _ _ _ h => h)) (pa_cons (pv 1) pa_nil))) (pss_cons (ps_expr (pe_call (ok_need T) (hr.mono (by decide)) rfl T.g_need T.F_need.kp (b_need T) .nil (passR (takes_of rfl rfl rfl rfl) (fun _ _ _ _ h => h)) (pa_cons (pe_call (ok_is_word T) (hr.mono (by decide)) rfl T.g_is_word T.F_is_word.kp (b_is_word T) .nil pass0 (pa_cons (pv 2) pa_nil)) (pa_cons (pe_str) pa_nil)))) (pss_cons (ps_expr (pe_meth0 (pv 0) T.c_Ground T.h_Ground_begin (ok_Ground_begin T) (hr.mono (by decide)) (b_Ground_begin T) .nil pass0)) (pss_cons (ps_expr (pe_meth (pv 0) T.c_Ground T.h_Ground_change (ok_Ground_change T) (hr.mono (by decide)) (b_Ground_change T) .nil pass0 (pa_cons (pv 1) (pa_cons (pv 2) (pa_cons (pe_ix (show IxR _ (LL.rIxA K) from LL.ix_A) (pe_fld (pv 0) rfl) (pv 1) (fun _ _ => rfl)) pa_nil))))) (pss_one (ps_expr (pe_meth0 (pv 0) T.c_Ground T.h_Ground_commit (ok_Ground_commit T) hr (b_Ground_commit T) .nil (passR (takes_of rfl rfl rfl rfl) (fun _ _ _ _ h => h)))))))))) ?sim ?go
  case sim =>
    try simp only [LL.cxK0, LL.cxK1, List.map_cons, List.map_nil]
    repeat' (first | with_reducible apply sim_gLst | with_reducible apply sim_tryR0 | with_reducible apply sim_tryR | with_reducible apply SimRow.cons | with_reducible exact SimRow.nil | with_reducible apply sim_mthS (dts := []) .nil | with_reducible apply sim_makeK (gT := fun ts us => ts ++ us) (fun _ _ _ _ _ _ _ h1 h2 => vdl_app h2 h1) | with_reducible apply sim_fld T.c_Ground T.n_Ground_pages | with_reducible apply sim_fld T.c_Ground T.n_Ground_width | with_reducible apply sim_fld T.c_Ground T.n_Ground_fill | with_reducible apply sim_fld T.c_Ground T.n_Ground__budget | with_reducible apply sim_fld T.c_Ground T.n_Ground__spent | with_reducible apply sim_fld T.c_Ground T.n_Ground__words | with_reducible apply sim_fld T.c_Ground T.n_Ground__holders | with_reducible apply sim_fld T.c_Ground T.n_Ground__deeds | with_reducible apply sim_setF T.c_Ground T.n_Ground_pages | with_reducible apply sim_setF T.c_Ground T.n_Ground_width | with_reducible apply sim_setF T.c_Ground T.n_Ground_fill | with_reducible apply sim_setF T.c_Ground T.n_Ground__budget | with_reducible apply sim_setF T.c_Ground T.n_Ground__spent | with_reducible apply sim_setF T.c_Ground T.n_Ground__words | with_reducible apply sim_setF T.c_Ground T.n_Ground__holders | with_reducible apply sim_setF T.c_Ground T.n_Ground__deeds | with_reducible apply sim_forI | with_reducible apply sim_pop | with_reducible apply sim_tru | with_reducible apply sim_prop | with_reducible apply sim_make (dts := []) .nil | with_reducible apply sim_make0 (dts := []) .nil | with_reducible apply sim_meth0 (dts := []) .nil | with_reducible apply sim_meth (dts := []) .nil | fail "s")
  case go =>
    intro ts Ω PQ PX hl h
    obtain ⟨a, A, own, t1, t2, rfl, G, hl, k1, k2, q1, q2, q⟩ := h
    simp! only [N_Ground_poke]
    refine ⟨a, G.meth fun _ _ _ _ _ _ _ _ => rfl, G.place (data_kind k1) (fun hi => ⟨t2, rfl, k2, _, _, rfl, fun hw => ?_, fun hw => q2 hi hw⟩) q1⟩
    obtain ⟨p, rfl, p0, p1⟩ := inR_int hi
    obtain ⟨w, rfl, hw'⟩ := word_int hw
    have lh := G.sz.lh
    refine ⟨a, G.meth fun _ _ _ _ _ _ _ _ => rfl, G.begin (by omega) fun own1 Ω1 G1 N1 => ?_⟩
    obtain ⟨b, e1, e2⟩ := G1.holders
    obtain ⟨k, f1, f2, f3⟩ := atI_ix (ns := A.hs) (p := p) p0 (by omega)
    refine ⟨a, G1.meth fun _ _ _ _ _ _ _ _ => rfl, _, e1, _, e2, p, rfl, _, f2, G1.change (by simp) p0 (by show p < (A.ws.length : Int); omega) fun own2 Ω2 G2 N2 => ?_⟩
    refine ⟨a, G2.meth fun _ _ _ _ _ _ _ _ => rfl, G2.commit (by simp only [List.length_append, List.length_cons, List.length_nil]; omega) (fun z => by simp at z) fun s0 sw sh e => ?_⟩
    rw [show (A.hs.set p.toNat k) = A.hs from set_get f1] at G2 ⊢
    exact (q p w rfl p0 (by omega) rfl hw').ends (N1.trans N2) e
theorem ok_Ground_write (T : Tx K mg) : FnOk P w K mg base (L2.CX P w) 6 (He.ma K (He.ga K "Ground") "write") T.fd_Ground_write P_Ground_write (spD K (wa_write K) 4) := by
  refine dok T.F_Ground_write sc_Ground_write fun cdv A outer s H E hr => ?_
  refine' dokMk ((pss_cons (ps_expr (pe_meth (pv 0) T.c_Ground T.h_Ground_need_place (ok_Ground_need_place T) (hr.mono (by decide)) (b_Ground_need_place T) .nil (passR (takes_of rfl rfl rfl rfl) (fun _ _ _ _ h => h)) (pa_cons (pv 1) pa_nil))) (pss_cons (ps_expr (pe_call (ok_need T) (hr.mono (by decide)) rfl T.g_need T.F_need.kp (b_need T) .nil (passR (takes_of rfl rfl rfl rfl) (fun _ _ _ _ h => h)) (pa_cons (pe_call (ok_is_word T) (hr.mono (by decide)) rfl T.g_is_word T.F_is_word.kp (b_is_word T) .nil pass0 (pa_cons (pv 2) pa_nil)) (pa_cons (pe_str) pa_nil)))) (pss_cons (ps_expr (pe_call (ok_need T) (hr.mono (by decide)) rfl T.g_need T.F_need.kp (b_need T) .nil (passR (takes_of rfl rfl rfl rfl) (fun _ _ _ _ h => h)) (pa_cons ((pe_and (pe_call (ok_is_holder T) (hr.mono (by decide)) rfl T.g_is_holder T.F_is_holder.kp (b_is_holder T) .nil pass0 (pa_cons (pv 3) pa_nil)) (pe_one (pe_cmpR op_ne (pv 3) (pe_glob (v := .int 0) rfl T.c_NOBODY.choose_spec ⟨_, rfl⟩) (nomark _))))) (pa_cons (pe_str) pa_nil)))) (pss_cons (ps_expr (pe_meth (pv 0) T.c_Ground T.h_Ground_need_held (ok_Ground_need_held T) (hr.mono (by decide)) (b_Ground_need_held T) .nil (passR (takes_of rfl rfl rfl rfl) (fun _ _ _ _ h => h)) (pa_cons (pv 1) (pa_cons (pe_op (show OpR _ _ (LT.rAddG K) from LT.op_addG) (pv 1) (pe_int)) (pa_cons (pv 3) pa_nil))))) (pss_cons (ps_expr (pe_meth0 (pv 0) T.c_Ground T.h_Ground_begin (ok_Ground_begin T) (hr.mono (by decide)) (b_Ground_begin T) .nil pass0)) (pss_cons (ps_expr (pe_meth (pv 0) T.c_Ground T.h_Ground_change (ok_Ground_change T) (hr.mono (by decide)) (b_Ground_change T) .nil pass0 (pa_cons (pv 1) (pa_cons (pv 2) (pa_cons (pv 3) pa_nil))))) (pss_one (ps_expr (pe_meth0 (pv 0) T.c_Ground T.h_Ground_commit (ok_Ground_commit T) hr (b_Ground_commit T) .nil (passR (takes_of rfl rfl rfl rfl) (fun _ _ _ _ h => h)))))))))))) ?sim ?go
  case sim =>
    try simp only [LL.cxK0, LL.cxK1, List.map_cons, List.map_nil]
    repeat' (first | with_reducible apply sim_gLst | with_reducible apply sim_tryR0 | with_reducible apply sim_tryR | with_reducible apply SimRow.cons | with_reducible exact SimRow.nil | with_reducible apply sim_mthS (dts := []) .nil | with_reducible apply sim_makeK (gT := fun ts us => ts ++ us) (fun _ _ _ _ _ _ _ h1 h2 => vdl_app h2 h1) | with_reducible apply sim_fld T.c_Ground T.n_Ground_pages | with_reducible apply sim_fld T.c_Ground T.n_Ground_width | with_reducible apply sim_fld T.c_Ground T.n_Ground_fill | with_reducible apply sim_fld T.c_Ground T.n_Ground__budget | with_reducible apply sim_fld T.c_Ground T.n_Ground__spent | with_reducible apply sim_fld T.c_Ground T.n_Ground__words | with_reducible apply sim_fld T.c_Ground T.n_Ground__holders | with_reducible apply sim_fld T.c_Ground T.n_Ground__deeds | with_reducible apply sim_setF T.c_Ground T.n_Ground_pages | with_reducible apply sim_setF T.c_Ground T.n_Ground_width | with_reducible apply sim_setF T.c_Ground T.n_Ground_fill | with_reducible apply sim_setF T.c_Ground T.n_Ground__budget | with_reducible apply sim_setF T.c_Ground T.n_Ground__spent | with_reducible apply sim_setF T.c_Ground T.n_Ground__words | with_reducible apply sim_setF T.c_Ground T.n_Ground__holders | with_reducible apply sim_setF T.c_Ground T.n_Ground__deeds | with_reducible apply sim_forI | with_reducible apply sim_pop | with_reducible apply sim_tru | with_reducible apply sim_prop | with_reducible apply sim_make (dts := []) .nil | with_reducible apply sim_make0 (dts := []) .nil | with_reducible apply sim_meth0 (dts := []) .nil | with_reducible apply sim_meth (dts := []) .nil | fail "s")
  case go =>
    intro ts Ω PQ PX hl h
    obtain ⟨a, A, own, t1, t2, t3, rfl, G, hl, k1, k2, k3, q1, q2, q3, q⟩ := h
    simp! only [N_Ground_write]
    refine ⟨a, G.meth fun _ _ _ _ _ _ _ _ => rfl, G.place (data_kind k1) (fun hi => ⟨t2, rfl, k2, _, _, rfl, fun hw => ⟨t3, rfl, k3, _, rfl, ?_⟩, fun hw => q2 hi hw⟩) q1⟩
    obtain ⟨p, rfl, p0, p1⟩ := inR_int hi
    obtain ⟨w, rfl, hw'⟩ := word_int hw
    have lh := G.sz.lh
    refine itei (fun hh => ?_) fun hh => ⟨_, _, rfl, fun z => (by cases z), fun _ => q3 hi hw (by cases t3 <;> first | rfl | exact (Bool.eq_false_iff.mpr fun z => hh (Bool.and_eq_true_iff.mp z).1))⟩
    obtain ⟨h, rfl⟩ : ∃ h : Int, t3 = .int h := by
      cases t3 with
      | int i => exact ⟨i, rfl⟩
      | _ => cases (show false = true from hh)
    simp! only [and_true]
    refine ⟨_, _, rfl, fun hn => ?_, fun hn => q3 hi hw (by show (holdB h && !decide (h = 0)) = false; rw [show (!decide (h = 0)) = false from hn, Bool.and_false])⟩
    have hu : userB h = true := by show (holdB h && !decide (h = 0)) = true; rw [show holdB h = true from hh, show (!decide (h = 0)) = true from hn]; rfl
    obtain ⟨qa, qb⟩ := q p w h rfl p0 (by omega) rfl hw' rfl hu
    refine ⟨a, G.meth fun _ _ _ _ _ _ _ _ => rfl, G.held p0 (by omega) (by omega) (fun hd => ?_) fun p2 k h2 h3 _ hk hne => qa k (by rw [show p = p2 by omega]; exact hk) hne |> fun z => (by rw [show p = p2 by omega] at z; exact z)⟩
    have hk : A.hs[p.toNat]? = some h := hd p (by omega) (by omega)
    refine ⟨a, G.meth fun _ _ _ _ _ _ _ _ => rfl, G.begin (by omega) fun own1 Ω1 G1 N1 => ?_⟩
    refine ⟨a, G1.meth fun _ _ _ _ _ _ _ _ => rfl, G1.change (by simp) p0 (by show p < (A.ws.length : Int); omega) fun own2 Ω2 G2 N2 => ?_⟩
    refine ⟨a, G2.meth fun _ _ _ _ _ _ _ _ => rfl, G2.commit (by simp only [List.length_append, List.length_cons, List.length_nil]; omega) (fun z => by simp at z) fun s0 sw sh e => ?_⟩
    rw [show (A.hs.set p.toNat h) = A.hs from set_get hk] at G2 ⊢
    exact (qb hk).ends (N1.trans N2) e
/-! ### pass_on -/
noncomputable def setL (l : List Int) (v s : Int) : Nat → List Int
  | 0 => l
  | i + 1 => (setL l v s i).set (s + i).toNat v
theorem setL_len {l : List Int} {v s : Int} : ∀ {i : Nat}, (setL l v s i).length = l.length
  | 0 => rfl
  | i + 1 => by show ((setL l v s i).set _ v).length = _; rw [List.length_set, setL_len]
noncomputable def wsP (A : Ab) (tk s : Int) (i : Nat) : List Int := if tk = 0 then setL A.ws A.f s i else A.ws
noncomputable def pasA (A : Ab) (tk s : Int) (i : Nat) : Ab := { A with ws := wsP A tk s i, hs := setL A.hs tk s i }
noncomputable def HasG (K : PySem.W.Frag) (a : Addr) (own : List Addr) (Ω : Om) (A1 : Ab) (Ω' : Om) : Prop := ∃ own', Gd K a A1 own' Ω' ∧ Nx own Ω own' Ω'
theorem wsP_len {A : Ab} {tk s : Int} {i : Nat} : (wsP A tk s i).length = A.ws.length := by
  unfold wsP
  split
  · exact setL_len
  · rfl
noncomputable def wa_pass (K : PySem.W.Frag) : Pw := fun ts Ω PQ PX => ∃ (a : Addr) (A : Ab) (own : List Addr) (t1 t2 t3 t4 : Tr), ts = [.obj a, t1, t2, t3, t4] ∧ Gd K a A own Ω ∧ A.ss.length ≤ 900 ∧ dataT t1 = true ∧ dataT t2 = true ∧ dataT t3 = true ∧ dataT t4 = true ∧ (¬ InR 0 ((A.ws.length : Int) - 1) t1 → PX (badX (.str "start")) Ω) ∧
  ∀ s : Int, t1 = .int s → 0 ≤ s → s < A.ws.length → (¬ InR 1 ((A.ws.length : Int) - s) t2 → PX (badX (.str "size")) Ω) ∧
  ∀ z : Int, t2 = .int z → 1 ≤ z → z ≤ A.ws.length - s → (holdT t3 = false → PX (badX (.str "giver")) Ω) ∧ (holdT t3 = true → holdT t4 = false → PX (badX (.str "taker")) Ω) ∧
  ∀ gv tk : Int, t3 = .int gv → holdB gv = true → t4 = .int tk → holdB tk = true →
    (gv = 0 → ∀ p k : Int, s ≤ p → p < s + z → FillsA A.ws A.hs A.f s p → A.hs[p.toNat]? = some 0 → A.ws[p.toNat]? = some k → k ≠ A.f → PX (brokenX p k A.f) Ω) ∧
    ((gv = 0 → FillsA A.ws A.hs A.f s (s + z)) → (∀ p k : Int, s ≤ p → p < s + z → isHeld A.hs gv s p → A.hs[p.toNat]? = some k → k ≠ gv → PX (heldX p k) Ω) ∧ (isHeld A.hs gv s (s + z) → Out K a A own Ω (pasA A tk s z.toNat) (PQ .non) PX))
theorem hold_int {t : Tr} (h : holdT t = true) : ∃ w : Int, t = .int w ∧ holdB w = true := by
  cases t with
  | int i => exact ⟨i, rfl, h⟩
  | _ => cases (show false = true from h)
theorem ok_Ground_pass_on (T : Tx K mg) : FnOk P w K mg base (L2.CX P w) 6 (He.ma K (He.ga K "Ground") "pass_on") T.fd_Ground_pass_on P_Ground_pass_on (spD K (wa_pass K) 5) := by
  refine dok T.F_Ground_pass_on sc_Ground_pass_on fun cdv A outer s H E hr => ?_
  refine' dokMk ((pss_cons (ps_expr (pe_call (ok_need_whole T) (hr.mono (by decide)) rfl T.g_need_whole T.F_need_whole.kp (b_need_whole T) .nil (passR (takes_of rfl rfl rfl rfl) (fun _ _ _ _ h => h)) (pa_cons (pv 1) (pa_cons (pe_int) (pa_cons (pe_op op_sub (pe_prop (pv 0) T.c_Ground T.p_Ground_top (ok_Ground_top T) (hr.mono (by decide)) (b_Ground_top T) .nil pass0 rfl) (pe_int)) (pa_cons (pe_str) pa_nil)))))) (pss_cons (ps_expr (pe_call (ok_need_whole T) (hr.mono (by decide)) rfl T.g_need_whole T.F_need_whole.kp (b_need_whole T) .nil (passR (takes_of rfl rfl rfl rfl) (fun _ _ _ _ h => h)) (pa_cons (pv 2) (pa_cons (pe_int) (pa_cons (pe_op op_sub (pe_prop (pv 0) T.c_Ground T.p_Ground_top (ok_Ground_top T) (hr.mono (by decide)) (b_Ground_top T) .nil pass0 rfl) (pv 1)) (pa_cons (pe_str) pa_nil)))))) (pss_cons (ps_expr (pe_call (ok_need T) (hr.mono (by decide)) rfl T.g_need T.F_need.kp (b_need T) .nil (passR (takes_of rfl rfl rfl rfl) (fun _ _ _ _ h => h)) (pa_cons (pe_call (ok_is_holder T) (hr.mono (by decide)) rfl T.g_is_holder T.F_is_holder.kp (b_is_holder T) .nil pass0 (pa_cons (pv 3) pa_nil)) (pa_cons (pe_str) pa_nil)))) (pss_cons (ps_expr (pe_call (ok_need T) (hr.mono (by decide)) rfl T.g_need T.F_need.kp (b_need T) .nil (passR (takes_of rfl rfl rfl rfl) (fun _ _ _ _ h => h)) (pa_cons (pe_call (ok_is_holder T) (hr.mono (by decide)) rfl T.g_is_holder T.F_is_holder.kp (b_is_holder T) .nil pass0 (pa_cons (pv 4) pa_nil)) (pa_cons (pe_str) pa_nil)))) (pss_cons (ps_set (i := 5) sc_Ground_pass_on.nd rfl (Or.inl rfl) (pe_op (show OpR _ _ (LT.rAddG K) from LT.op_addG) (pv 1) (pv 2))) (pss_cons (ps_if (pt_cmpR op_eq (pv 3) (pe_glob (v := .int 0) rfl T.c_NOBODY.choose_spec ⟨_, rfl⟩) (nomark _)) (pss_one (ps_expr (pe_meth (pv 0) T.c_Ground T.h_Ground_need_fill (ok_Ground_need_fill T) (hr.mono (by decide)) (b_Ground_need_fill T) .nil (passR (takes_of rfl rfl rfl rfl) (fun _ _ _ _ h => h)) (pa_cons (pv 1) (pa_cons (pv 5) pa_nil))))) pss_nil) (pss_cons (ps_expr (pe_meth (pv 0) T.c_Ground T.h_Ground_need_held (ok_Ground_need_held T) (hr.mono (by decide)) (b_Ground_need_held T) .nil (passR (takes_of rfl rfl rfl rfl) (fun _ _ _ _ h => h)) (pa_cons (pv 1) (pa_cons (pv 5) (pa_cons (pv 3) pa_nil))))) (pss_cons (ps_expr (pe_meth0 (pv 0) T.c_Ground T.h_Ground_begin (ok_Ground_begin T) (hr.mono (by decide)) (b_Ground_begin T) .nil pass0)) (pss_cons (ps_for (passes_of rfl) rfl (pi_range2 rfl T.z_range (pa_cons (pv 1) (pa_cons (pv 5) pa_nil))) (pg_name (i := 6) sc_Ground_pass_on.nd rfl (Or.inl rfl)) (pss_cons (ps_set (i := 7) sc_Ground_pass_on.nd rfl (Or.inl rfl) (pe_ifExp (pt_cmpR op_eq (pv 4) (pe_glob (v := .int 0) rfl T.c_NOBODY.choose_spec ⟨_, rfl⟩) (nomark _)) (pe_fld (pv 0) rfl) (pe_ix (show IxR _ (LL.rIxA K) from LL.ix_A) (pe_fld (pv 0) rfl) (pv 6) (fun _ _ => rfl)))) (pss_one (ps_expr (pe_meth (pv 0) T.c_Ground T.h_Ground_change (ok_Ground_change T) (hr.mono (by decide)) (b_Ground_change T) .nil pass0 (pa_cons (pv 6) (pa_cons (pv 7) (pa_cons (pv 4) pa_nil)))))))) (pss_one (ps_expr (pe_meth0 (pv 0) T.c_Ground T.h_Ground_commit (ok_Ground_commit T) hr (b_Ground_commit T) .nil (passR (takes_of rfl rfl rfl rfl) (fun _ _ _ _ h => h))))))))))))))) ?sim ?go
  case sim =>
    try simp only [LL.cxK0, LL.cxK1, List.map_cons, List.map_nil]
    repeat' (first | with_reducible apply sim_gLst | with_reducible apply sim_tryR0 | with_reducible apply sim_tryR | with_reducible apply SimRow.cons | with_reducible exact SimRow.nil | with_reducible apply sim_mthS (dts := []) .nil | with_reducible apply sim_makeK (gT := fun ts us => ts ++ us) (fun _ _ _ _ _ _ _ h1 h2 => vdl_app h2 h1) | with_reducible apply sim_fld T.c_Ground T.n_Ground_pages | with_reducible apply sim_fld T.c_Ground T.n_Ground_width | with_reducible apply sim_fld T.c_Ground T.n_Ground_fill | with_reducible apply sim_fld T.c_Ground T.n_Ground__budget | with_reducible apply sim_fld T.c_Ground T.n_Ground__spent | with_reducible apply sim_fld T.c_Ground T.n_Ground__words | with_reducible apply sim_fld T.c_Ground T.n_Ground__holders | with_reducible apply sim_fld T.c_Ground T.n_Ground__deeds | with_reducible apply sim_setF T.c_Ground T.n_Ground_pages | with_reducible apply sim_setF T.c_Ground T.n_Ground_width | with_reducible apply sim_setF T.c_Ground T.n_Ground_fill | with_reducible apply sim_setF T.c_Ground T.n_Ground__budget | with_reducible apply sim_setF T.c_Ground T.n_Ground__spent | with_reducible apply sim_setF T.c_Ground T.n_Ground__words | with_reducible apply sim_setF T.c_Ground T.n_Ground__holders | with_reducible apply sim_setF T.c_Ground T.n_Ground__deeds | with_reducible apply sim_forI | with_reducible apply sim_pop | with_reducible apply sim_tru | with_reducible apply sim_prop | with_reducible apply sim_make (dts := []) .nil | with_reducible apply sim_make0 (dts := []) .nil | with_reducible apply sim_meth0 (dts := []) .nil | with_reducible apply sim_meth (dts := []) .nil | fail "s")
  case go =>
    intro ts Ω PQ PX hl h
    obtain ⟨a, A, own, t1, t2, t3, t4, rfl, G, hl, k1, k2, k3, k4, q1, q⟩ := h
    have lh := G.sz.lh
    have P := G.prop
    simp! only [N_Ground_pass_on, P]
    refine G.top ?_
    simp! only [and_true]
    refine ⟨t1, 0, _, _, rfl, data_kind k1, fun hi => ?_, q1⟩
    obtain ⟨s, rfl, s0, s1⟩ := inR_int hi
    obtain ⟨q2, q⟩ := q s rfl s0 (by omega)
    refine ⟨a, P, G.top ⟨_, rfl, s, rfl, t2, _, _, _, rfl, data_kind k2, fun hz => ?_, q2⟩⟩
    obtain ⟨z, rfl, z0, z1⟩ := inR_int hz
    obtain ⟨q3, q4, q⟩ := q z rfl z0 z1
    refine ⟨t3, rfl, k3, _, _, rfl, fun hg => ⟨t4, rfl, k4, _, _, rfl, fun ht => ?_, fun ht => q4 hg ht⟩, q3⟩
    obtain ⟨gv, rfl, hg'⟩ := hold_int hg
    obtain ⟨tk, rfl, ht'⟩ := hold_int ht
    obtain ⟨q5, q6⟩ := q gv tk rfl hg' rfl ht'
    have n := G.sz.n
    simp! only [and_true]
    refine itei (fun h0 => ⟨a, G.meth fun _ _ _ _ _ _ _ _ => rfl, G.fills s0 (by omega) (by omega) (fun hF => ?_) (q5 (by simpa using h0))⟩) fun h0 => ?_
    all_goals
      have hF' : gv = 0 → FillsA A.ws A.hs A.f s (s + z) := by first | exact fun _ => hF | exact fun e => absurd e (by simpa using h0)
      obtain ⟨q7, q8⟩ := q6 hF'
      refine ⟨a, G.meth fun _ _ _ _ _ _ _ _ => rfl, G.held s0 (by omega) (by omega) (fun hH => ?_) q7⟩
      refine ⟨a, G.meth fun _ _ _ _ _ _ _ _ => rfl, G.begin (by omega) fun own1 Ω1 G1 N1 => ?_⟩
      have e0 : pasA A tk s 0 = A := by
        unfold pasA wsP
        split <;> rfl
      refine for_R2 (a := s) (b := s + z) (Ω1 := Ω1) (fun P p => ?_) (by omega) (fun i ρ' Ω' => HasG K a own Ω { pasA A tk s i with ss := A.ss ++ [(A.ws, A.hs)] } Ω' ∧ ∃ x6 x7, ρ' = [some (.obj a), some (.int s), some (.int z), some (.int gv), some (.int tk), some (.int (s + z)), x6, x7]) ⟨⟨own1, by rw [e0]; exact G1, N1⟩, ⟨_, _, rfl⟩⟩ ?_ ?_
      · simp! only [and_true]
        exact p
      · rintro i ρ' Ω' hi ⟨⟨own2, G2, N2⟩, x6, x7, rfl⟩
        have lw := wsP_len (A := A) (tk := tk) (s := s) (i := i)
        simp! only [and_true]
        refine itei (fun h => ?_) fun h => ?_
        · refine ⟨_, G2.fill, a, G2.meth fun _ _ _ _ _ _ _ _ => rfl, G2.change (by simp) (by omega) (by show s + (i : Int) < ((wsP A tk s i).length : Int); omega) fun own3 Ω3 G3 N3 => ⟨own3, ?_, N2.trans N3⟩⟩
          have e1 : wsP A tk s (i + 1) = (wsP A tk s i).set (s + i).toNat A.f := by
            unfold wsP
            rw [if_pos (by simpa using h), if_pos (by simpa using h)]
            rfl
          show Gd K a { A with ws := wsP A tk s (i + 1), hs := setL A.hs tk s (i + 1), ss := A.ss ++ [(A.ws, A.hs)] } own3 Ω3
          rw [e1]
          exact G3
        · obtain ⟨b, e2, e3⟩ := G2.words
          obtain ⟨k, f1, f2, f3⟩ := atI_ix (ns := (wsP A tk s i)) (p := s + i) (by omega) (by omega)
          refine ⟨_, e2, _, e3, _, f2, a, G2.meth fun _ _ _ _ _ _ _ _ => rfl, G2.change (by simp) (by omega) (by show s + (i : Int) < ((wsP A tk s i).length : Int); omega) fun own3 Ω3 G3 N3 => ⟨own3, ?_, N2.trans N3⟩⟩
          have e1 : wsP A tk s (i + 1) = (wsP A tk s i).set (s + i).toNat k := by
            rw [set_get f1]
            unfold wsP
            rw [if_neg (by simpa using h), if_neg (by simpa using h)]
          show Gd K a { A with ws := wsP A tk s (i + 1), hs := setL A.hs tk s (i + 1), ss := A.ss ++ [(A.ws, A.hs)] } own3 Ω3
          rw [e1]
          exact G3
      · rintro ρ' Ω' ⟨⟨own2, G2, N2⟩, x6, x7, rfl⟩
        rw [show (s + z - s).toNat = z.toNat by congr 1; omega] at G2
        simp! only [and_true]
        refine ⟨a, G2.meth fun _ _ _ _ _ _ _ _ => rfl, G2.commit (by simp only [List.length_append, List.length_cons, List.length_nil]; omega) (fun z => by simp at z) fun s0 sw sh e => ?_⟩
        exact Out.ends (ws' := wsP A tk s z.toNat) (hs' := setL A.hs tk s z.toNat) (q8 hH) N2 e
noncomputable def budB (i : Int) : Bool := decide (0 ≤ i) && decide (i ≤ 1000000000)
noncomputable def budT : Tr → Bool
  | .non => true
  | .int i => budB i
  | _ => false
theorem ok_is_budget (T : Tx K mg) : FnOk P w K mg base CX0 2 (He.ga K "is_budget") T.fd_is_budget P_is_budget (spD K (wp_flag budT) 1) := by
  refine dok T.F_is_budget sc_is_budget fun cdv A outer s H E hr => ?_
  refine' dokMk (PSs.nox (pss_one (ps_ret ((pe_or (pe_cmpR op_isN1 (pv 0) (pe_non) (nomark _)) (pe_one ((pe_and (pe_call (ok_is_whole T) hr rfl T.g_is_whole T.F_is_whole.kp (b_is_whole T) .nil pass0 (pa_cons (pv 0) pa_nil)) (pe_one (pe_chain op_le op_le (pe_int) (pv 0) (pe_glob (v := .int 1000000000) rfl T.c_MOST_BUDGET.choose_spec ⟨_, rfl⟩))))))))))) ?sim ?go
  case sim =>
    try simp only [LL.cxK0, LL.cxK1, List.map_cons, List.map_nil]
    repeat' (first | with_reducible apply sim_gLst | with_reducible apply sim_tryR0 | with_reducible apply sim_tryR | with_reducible apply SimRow.cons | with_reducible exact SimRow.nil | with_reducible apply sim_mthS (dts := []) .nil | with_reducible apply sim_makeK (gT := fun ts us => ts ++ us) (fun _ _ _ _ _ _ _ h1 h2 => vdl_app h2 h1) | with_reducible apply sim_fld T.c_Ground T.n_Ground_pages | with_reducible apply sim_fld T.c_Ground T.n_Ground_width | with_reducible apply sim_fld T.c_Ground T.n_Ground_fill | with_reducible apply sim_fld T.c_Ground T.n_Ground__budget | with_reducible apply sim_fld T.c_Ground T.n_Ground__spent | with_reducible apply sim_fld T.c_Ground T.n_Ground__words | with_reducible apply sim_fld T.c_Ground T.n_Ground__holders | with_reducible apply sim_fld T.c_Ground T.n_Ground__deeds | with_reducible apply sim_setF T.c_Ground T.n_Ground_pages | with_reducible apply sim_setF T.c_Ground T.n_Ground_width | with_reducible apply sim_setF T.c_Ground T.n_Ground_fill | with_reducible apply sim_setF T.c_Ground T.n_Ground__budget | with_reducible apply sim_setF T.c_Ground T.n_Ground__spent | with_reducible apply sim_setF T.c_Ground T.n_Ground__words | with_reducible apply sim_setF T.c_Ground T.n_Ground__holders | with_reducible apply sim_setF T.c_Ground T.n_Ground__deeds | with_reducible apply sim_forI | with_reducible apply sim_pop | with_reducible apply sim_tru | with_reducible apply sim_prop | with_reducible apply sim_make (dts := []) .nil | with_reducible apply sim_make0 (dts := []) .nil | with_reducible apply sim_meth0 (dts := []) .nil | with_reducible apply sim_meth (dts := []) .nil | fail "s")
  case go =>
    intro ts Ω PQ PX hl h
    obtain ⟨t, rfl, hk, q⟩ := h
    simp! only [N_is_budget]
    cases t with
    | non => exact q
    | int i =>
      simp! only [and_true]
      refine ⟨_, rfl, rfl, ?_⟩
      simp! only [isInt]
      unfold budT budB at q
      by_cases h1 : 0 ≤ i <;> by_cases h2 : i ≤ 1000000000 <;> simpa [h1, h2] using q
    | _ => first | (cases (show false = true from hk); done) | (simp! only [and_true]; refine ⟨_, rfl, rfl, ?_⟩; simp! only [isInt]; exact q)
noncomputable def newA (p w f : Int) (bud : Tr) : Ab := ⟨p, w, f, bud, 0, List.replicate (p * w).toNat f, List.replicate (p * w).toNat 0, []⟩
noncomputable def wa_init (K : PySem.W.Frag) : Pw := fun ts Ω PQ PX => ∃ (a dx : Addr) (t1 t2 t3 t4 : Tr), ts = [.obj a, t1, t2, t3, t4] ∧ Ω a = some (.ins (cG K) dx [] []) ∧ dataT t1 = true ∧ dataT t2 = true ∧ dataT t3 = true ∧ dataT t4 = true ∧ (¬ InR 1 256 t1 → PX (badX (.str "pages")) Ω) ∧ (InR 1 256 t1 → widthT t2 = false → PX (badX (.str "width")) Ω) ∧ (InR 1 256 t1 → widthT t2 = true → wordT t3 = false → PX (badX (.str "fill")) Ω) ∧ (InR 1 256 t1 → widthT t2 = true → wordT t3 = true → budT t4 = false → PX (badX (.str "budget")) Ω) ∧
  ∀ p w f : Int, t1 = .int p → 1 ≤ p → p ≤ 256 → t2 = .int w → widthB w = true → t3 = .int f → wordB f = true → budT t4 = true → ∀ own Ω', Gd K a (newA p w f t4) own Ω' → Nx [a] Ω own Ω' → PQ .non Ω'
theorem ok_Ground_init (T : Tx K mg) : FnOk P w K mg base (L2.CX P w) 4 (He.ma K (He.ga K "Ground") "__init__") T.fd_Ground_init P_Ground_init (spD K (wa_init K) 5) := by
  refine dok T.F_Ground_init sc_Ground_init fun cdv A outer s H E hr => ?_
  refine' dokMk ((pss_cons (ps_expr (pe_call (ok_need_whole T) hr rfl T.g_need_whole T.F_need_whole.kp (b_need_whole T) .nil (passR (takes_of rfl rfl rfl rfl) (fun _ _ _ _ h => h)) (pa_cons (pv 1) (pa_cons (pe_int) (pa_cons (pe_glob (v := .int 256) rfl T.c_MOST_PAGES.choose_spec ⟨_, rfl⟩) (pa_cons (pe_str) pa_nil)))))) (pss_cons (ps_expr (pe_call (ok_need T) hr rfl T.g_need T.F_need.kp (b_need T) .nil (passR (takes_of rfl rfl rfl rfl) (fun _ _ _ _ h => h)) (pa_cons (pe_call (ok_is_width T) (hr.mono (by decide)) rfl T.g_is_width T.F_is_width.kp (b_is_width T) .nil pass0 (pa_cons (pv 2) pa_nil)) (pa_cons (pe_str) pa_nil)))) (pss_cons (ps_expr (pe_call (ok_need T) hr rfl T.g_need T.F_need.kp (b_need T) .nil (passR (takes_of rfl rfl rfl rfl) (fun _ _ _ _ h => h)) (pa_cons (pe_call (ok_is_word T) (hr.mono (by decide)) rfl T.g_is_word T.F_is_word.kp (b_is_word T) .nil pass0 (pa_cons (pv 3) pa_nil)) (pa_cons (pe_str) pa_nil)))) (pss_cons (ps_expr (pe_call (ok_need T) hr rfl T.g_need T.F_need.kp (b_need T) .nil (passR (takes_of rfl rfl rfl rfl) (fun _ _ _ _ h => h)) (pa_cons (pe_call (ok_is_budget T) (hr.mono (by decide)) rfl T.g_is_budget T.F_is_budget.kp (b_is_budget T) .nil pass0 (pa_cons (pv 4) pa_nil)) (pa_cons (pe_str) pa_nil)))) (pss_cons (ps_fld (pv 0) (pv 1) rfl) (pss_cons (ps_fld (pv 0) (pv 2) rfl) (pss_cons (ps_fld (pv 0) (pv 3) rfl) (pss_cons (ps_fld (pv 0) (pv 4) rfl) (pss_cons (ps_fld (pv 0) (pe_int) rfl) (pss_cons (ps_fld (pv 0) (pe_op op_rep (pe_lst (pa_cons (pv 3) pa_nil)) (pe_op op_mul (pv 1) (pv 2))) rfl) (pss_cons (ps_fld (pv 0) (pe_op op_rep (pe_lst (pa_cons (pe_glob (v := .int 0) rfl T.c_NOBODY.choose_spec ⟨_, rfl⟩) pa_nil)) (pe_op op_mul (pv 1) (pv 2))) rfl) (pss_one (ps_fld (pv 0) (pe_lst pa_nil) rfl)))))))))))))) ?sim ?go
  case sim =>
    try simp only [LL.cxK0, LL.cxK1, List.map_cons, List.map_nil]
    repeat' (first | with_reducible apply sim_gLst | with_reducible apply sim_tryR0 | with_reducible apply sim_tryR | with_reducible apply SimRow.cons | with_reducible exact SimRow.nil | with_reducible apply sim_mthS (dts := []) .nil | with_reducible apply sim_makeK (gT := fun ts us => ts ++ us) (fun _ _ _ _ _ _ _ h1 h2 => vdl_app h2 h1) | with_reducible apply sim_fld T.c_Ground T.n_Ground_pages | with_reducible apply sim_fld T.c_Ground T.n_Ground_width | with_reducible apply sim_fld T.c_Ground T.n_Ground_fill | with_reducible apply sim_fld T.c_Ground T.n_Ground__budget | with_reducible apply sim_fld T.c_Ground T.n_Ground__spent | with_reducible apply sim_fld T.c_Ground T.n_Ground__words | with_reducible apply sim_fld T.c_Ground T.n_Ground__holders | with_reducible apply sim_fld T.c_Ground T.n_Ground__deeds | with_reducible apply sim_setF T.c_Ground T.n_Ground_pages | with_reducible apply sim_setF T.c_Ground T.n_Ground_width | with_reducible apply sim_setF T.c_Ground T.n_Ground_fill | with_reducible apply sim_setF T.c_Ground T.n_Ground__budget | with_reducible apply sim_setF T.c_Ground T.n_Ground__spent | with_reducible apply sim_setF T.c_Ground T.n_Ground__words | with_reducible apply sim_setF T.c_Ground T.n_Ground__holders | with_reducible apply sim_setF T.c_Ground T.n_Ground__deeds | with_reducible apply sim_forI | with_reducible apply sim_pop | with_reducible apply sim_tru | with_reducible apply sim_prop | with_reducible apply sim_make (dts := []) .nil | with_reducible apply sim_make0 (dts := []) .nil | with_reducible apply sim_meth0 (dts := []) .nil | with_reducible apply sim_meth (dts := []) .nil | fail "s")
  case go =>
    intro ts Ω PQ PX hl h
    obtain ⟨a, dx, t1, t2, t3, t4, rfl, ha, k1, k2, k3, k4, q1, q2, q3, q4, q⟩ := h
    simp! only [N_Ground_init]
    refine ⟨t1, _, _, _, rfl, data_kind k1, fun hi => ⟨t2, rfl, k2, _, _, rfl, fun hw => ⟨t3, rfl, k3, _, _, rfl, fun hf => ⟨t4, rfl, k4, _, _, rfl, fun hb' => ?_, fun hb => q4 hi hw hf hb⟩, fun hf => q3 hi hw hf⟩, fun hw => q2 hi hw⟩, q1⟩
    obtain ⟨p, rfl, p0, p1⟩ := inR_int hi
    obtain ⟨f, rfl, hf'⟩ := word_int hf
    obtain ⟨w, rfl, hw'⟩ : ∃ w : Int, t2 = .int w ∧ widthB w = true := by
      cases t2 with
      | int i => exact ⟨i, rfl, hw⟩
      | _ => cases (show false = true from hw)
    have hw3 : w = 16 ∨ w = 32 ∨ w = 64 := by
      unfold widthB at hw'
      simpa [or_assoc] using hw'
    have hpw : 16 ≤ p * w ∧ p * w ≤ 16384 := by rcases hw3 with rfl | rfl | rfl <;> omega
    refine ⟨_, _, _, insC_obj ha, (show 0 < 1000 by decide), _, _, _, insC_obj put_same, (show 1 < 1000 by decide), _, _, _, insC_obj put_same, (show 2 < 1000 by decide), _, _, _, insC_obj put_same, (show 3 < 1000 by decide), _, _, _, insC_obj put_same, (show 4 < 1000 by decide), .inl ?_⟩
    simp! only [and_true]
    refine ⟨.inl ⟨by omega, by omega⟩, by omega, by omega, by omega, ?_⟩
    show lstNew (List.replicate (p * w).toNat [Tr.int f]).flatten (put Ω a (.ins (cG K) dx ["pages", "width", "fill", "_budget", "_spent"] [.int p, .int w, .int f, t4, .int 0])) _
    rw [flat_one]
    refine .inr fun b hb => ?_
    have hba : b ≠ a := fun z => by rw [z, put_same] at hb; cases hb
    have nb : Ω b = none := by rwa [put_ne hba] at hb
    refine ⟨dx, ["pages", "width", "fill", "_budget", "_spent"], [.int p, .int w, .int f, t4, .int 0], insC_obj (by rw [put_ne (Ne.symm hba)]; exact put_same), (show 5 < 1000 by decide), .inl ⟨.inl ⟨by omega, by omega⟩, _, rfl, by omega, by omega, by show 1 * (p * w).toNat ≤ 1000000; omega, ?_⟩⟩
    rw [flat_one]
    show lstNew (List.replicate (p * w).toNat (Tr.int 0)) (put _ a (.ins (cG K) dx ["pages", "width", "fill", "_budget", "_spent", "_words"] [.int p, .int w, .int f, t4, .int 0, .obj b])) _
    refine .inr fun h hh => ?_
    have hha : h ≠ a := fun z => by rw [z, put_same] at hh; cases hh
    rw [put_ne hha] at hh
    have hhb : h ≠ b := fun z => by rw [z, put_same] at hh; cases hh
    have nh : Ω h = none := by rwa [put_ne hhb, put_ne hha] at hh
    refine ⟨dx, ["pages", "width", "fill", "_budget", "_spent", "_words"], [.int p, .int w, .int f, t4, .int 0, .obj b], insC_obj (by rw [put_ne (Ne.symm hha)]; exact put_same), (show 6 < 1000 by decide), ?_⟩
    show lstNew [] (put _ a (.ins (cG K) dx ["pages", "width", "fill", "_budget", "_spent", "_words", "_holders"] [.int p, .int w, .int f, t4, .int 0, .obj b, .obj h])) _
    refine .inr fun d hd => ?_
    have hda : d ≠ a := fun z => by rw [z, put_same] at hd; cases hd
    rw [put_ne hda] at hd
    have hdh : d ≠ h := fun z => by rw [z, put_same] at hd; cases hd
    rw [put_ne hdh, put_ne hda] at hd
    have hdb : d ≠ b := fun z => by rw [z, put_same] at hd; cases hd
    have nd : Ω d = none := by rwa [put_ne hdb, put_ne hda] at hd
    refine ⟨dx, ["pages", "width", "fill", "_budget", "_spent", "_words", "_holders"], [.int p, .int w, .int f, t4, .int 0, .obj b, .obj h], insC_obj (by rw [put_ne (Ne.symm hda)]; exact put_same), (show 7 < 1000 by decide), ?_⟩
    show PQ .non (put _ a (.ins (cG K) dx grN [.int p, .int w, .int f, t4, .int 0, .obj b, .obj h, .obj d]))
    refine q p w f rfl p0 p1 rfl hw' rfl hf' hb' [a, b, h, d] _ ⟨⟨dx, b, h, d, [], rfl, ⟨put_same, ?_, ?_, ?_, fun _ z => (List.not_mem_nil z).elim, ?_⟩, .nil⟩, ⟨p0, p1, hw3, ?_, ?_, ?_⟩⟩ ⟨fun x hx => ?_, fun x c e hx => ?_⟩
    · show put _ a _ b = some (.lst ((List.replicate (p * w).toNat f).map Tr.int))
      rw [List.map_replicate]
      simp only [put, if_neg hba, if_neg (Ne.symm hdb), if_neg (Ne.symm hhb), if_true]
    · show put _ a _ h = some (.lst ((List.replicate (p * w).toNat 0).map Tr.int))
      rw [List.map_replicate]
      simp only [put, if_neg hha, if_neg (Ne.symm hdh), if_true]
    · show put _ a _ d = some (.lst [])
      simp only [put, if_neg hda, if_true]
    · show [a, b, h, d].Nodup
      simp [Ne.symm hba, Ne.symm hha, Ne.symm hda, Ne.symm hhb, Ne.symm hdb, Ne.symm hdh]
    · show ((List.replicate (p * w).toNat f).length : Int) = p * w
      rw [List.length_replicate]; omega
    · show (List.replicate (p * w).toNat (0 : Int)).length = (List.replicate (p * w).toNat f).length
      rw [List.length_replicate, List.length_replicate]
    · cases t4 with
      | non => exact .inl rfl
      | int i => exact .inr ⟨i, rfl⟩
      | _ => cases (show false = true from hb')
    · simp only [List.mem_cons, List.not_mem_nil, or_false] at hx ⊢
      rcases hx with rfl | rfl | rfl | rfl
      · exact .inl rfl
      · exact .inr nb
      · exact .inr nh
      · exact .inr nd
    · have hxa : x ≠ a := fun z => hx (by rw [z]; exact List.mem_cons_self)
      have hxb : x ≠ b := fun z => by rw [z, nb] at e; cases e
      have hxh : x ≠ h := fun z => by rw [z, nh] at e; cases e
      have hxd : x ≠ d := fun z => by rw [z, nd] at e; cases e
      rw [put_ne hxa, put_ne hxd, put_ne hxa, put_ne hxh, put_ne hxa, put_ne hxb, put_ne hxa]
      exact e
end
section
open PySem PySem.Spec PyProof.Rows L2 LL LT
variable {P : Program} {w : World} {K : PySem.W.Frag} {mg : Str → Option Value} {base : Heap}

noncomputable def kindsN (k : Nat) : Tr := .lst ((LL.bitsV k).map Tr.bl)
noncomputable def wp_kindsN (c : Str) (k : Nat) : Pz := fun a x ts Ω PQ _ => x.cls = c ∧ ts = [.obj a] ∧ PQ (kindsN k) Ω
theorem ok_law_kinds_Broken (T : Tx K mg) : FnZ P w K mg base 1 (He.ga K "_law_kinds") T.fd_law_kinds P_law_kinds (spZ K (wp_kindsN "Broken" 1) 1) := by
  refine dokZ T.F_law_kinds sc_law_kinds (fun a x ts Ω Q hh => hh.1) fun cdv A outer s H E p cls d hz hf hr => ?_
  refine' dokMkZ (PSs.nox (pss_one (ps_ret (pe_lst (pa_cons (pe_callB (show CallR _ _ (LL.rIsXC K p.1 (He.ga K "Broken") cls d) from LL.call_isXC (p := p) List.mem_cons_self T.v_Broken.dd hz hf) (by rfl) T.z_isinstance (by decide +kernel) (pa_cons (pv 0) (pa_cons (pe_glob (v := .ref (He.ga K "StoreError")) (u := .ref (He.ga K "StoreError")) rfl T.g_StoreError rfl) pa_nil))) (pa_cons (pe_callB (show CallR _ _ (LL.rIsXC K p.1 (He.ga K "Broken") cls d) from LL.call_isXC (p := p) List.mem_cons_self T.v_Broken.dd hz hf) (by rfl) T.z_isinstance (by decide +kernel) (pa_cons (pv 0) (pa_cons (pe_bltn (v := .ty "ValueError") (u := .type "ValueError") (by rfl) T.z_ValueError (by decide +kernel) rfl) pa_nil))) (pa_cons (pe_callB (show CallR _ _ (LL.rIsXC K p.1 (He.ga K "Broken") cls d) from LL.call_isXC (p := p) List.mem_cons_self T.v_Broken.dd hz hf) (by rfl) T.z_isinstance (by decide +kernel) (pa_cons (pv 0) (pa_cons (pe_glob (v := .ref (He.ga K "BadValue")) (u := .ref (He.ga K "BadValue")) rfl T.g_BadValue rfl) pa_nil))) (pa_cons (pe_callB (show CallR _ _ (LL.rIsXC K p.1 (He.ga K "Broken") cls d) from LL.call_isXC (p := p) List.mem_cons_self T.v_Broken.dd hz hf) (by rfl) T.z_isinstance (by decide +kernel) (pa_cons (pv 0) (pa_cons (pe_glob (v := .ref (He.ga K "Broken")) (u := .ref (He.ga K "Broken")) rfl T.g_Broken rfl) pa_nil))) (pa_cons (pe_callB (show CallR _ _ (LL.rIsXC K p.1 (He.ga K "Broken") cls d) from LL.call_isXC (p := p) List.mem_cons_self T.v_Broken.dd hz hf) (by rfl) T.z_isinstance (by decide +kernel) (pa_cons (pv 0) (pa_cons (pe_glob (v := .ref (He.ga K "Unknown")) (u := .ref (He.ga K "Unknown")) rfl T.g_Unknown rfl) pa_nil))) (pa_cons (pe_callB (show CallR _ _ (LL.rIsXC K p.1 (He.ga K "Broken") cls d) from LL.call_isXC (p := p) List.mem_cons_self T.v_Broken.dd hz hf) (by rfl) T.z_isinstance (by decide +kernel) (pa_cons (pv 0) (pa_cons (pe_glob (v := .ref (He.ga K "NotHeld")) (u := .ref (He.ga K "NotHeld")) rfl T.g_NotHeld rfl) pa_nil))) (pa_cons (pe_callB (show CallR _ _ (LL.rIsXC K p.1 (He.ga K "Broken") cls d) from LL.call_isXC (p := p) List.mem_cons_self T.v_Broken.dd hz hf) (by rfl) T.z_isinstance (by decide +kernel) (pa_cons (pv 0) (pa_cons (pe_glob (v := .ref (He.ga K "Fault")) (u := .ref (He.ga K "Fault")) rfl T.g_Fault rfl) pa_nil))) (pa_cons (pe_callB (show CallR _ _ (LL.rIsXC K p.1 (He.ga K "Broken") cls d) from LL.call_isXC (p := p) List.mem_cons_self T.v_Broken.dd hz hf) (by rfl) T.z_isinstance (by decide +kernel) (pa_cons (pv 0) (pa_cons (pe_glob (v := .ref (He.ga K "NoRoom")) (u := .ref (He.ga K "NoRoom")) rfl T.g_NoRoom rfl) pa_nil))) (pa_cons (pe_callB (show CallR _ _ (LL.rIsXC K p.1 (He.ga K "Broken") cls d) from LL.call_isXC (p := p) List.mem_cons_self T.v_Broken.dd hz hf) (by rfl) T.z_isinstance (by decide +kernel) (pa_cons (pv 0) (pa_cons (pe_glob (v := .ref (He.ga K "Cut")) (u := .ref (He.ga K "Cut")) rfl T.g_Cut rfl) pa_nil))) (pa_cons (pe_callB (show CallR _ _ (LL.rIsXC K p.1 (He.ga K "Broken") cls d) from LL.call_isXC (p := p) List.mem_cons_self T.v_Broken.dd hz hf) (by rfl) T.z_isinstance (by decide +kernel) (pa_cons (pv 0) (pa_cons (pe_glob (v := .ref (He.ga K "BadLine")) (u := .ref (He.ga K "BadLine")) rfl T.g_BadLine rfl) pa_nil))) pa_nil)))))))))))))) ?sim ?go
  case sim =>
    intro x
    try simp only [LL.cxK0, LL.cxK1, List.map_cons, List.map_nil]
    repeat' (first | fail "s")
  case go =>
    intro x ts Ω PQ hx hl h
    obtain ⟨_, rfl, q⟩ := h
    simp! only [N_law_kinds]
    rw [hx]
    exact ⟨rfl, _, rfl, _, T.v_Broken.kit (i := 0) rfl rfl, rfl, _, rfl, _, T.v_Broken.kit (i := 1) rfl rfl, rfl, _, rfl, _, T.v_Broken.kit (i := 2) rfl rfl, rfl, _, rfl, _, T.v_Broken.kit (i := 3) rfl rfl, rfl, _, rfl, _, T.v_Broken.kit (i := 4) rfl rfl, rfl, _, rfl, _, T.v_Broken.kit (i := 5) rfl rfl, rfl, _, rfl, _, T.v_Broken.kit (i := 6) rfl rfl, rfl, _, rfl, _, T.v_Broken.kit (i := 7) rfl rfl, rfl, _, rfl, _, T.v_Broken.kit (i := 8) rfl rfl, rfl, _, rfl, _, T.v_Broken.kit (i := 9) rfl rfl, .inl q⟩
theorem ok_law_kinds_Unknown (T : Tx K mg) : FnZ P w K mg base 1 (He.ga K "_law_kinds") T.fd_law_kinds P_law_kinds (spZ K (wp_kindsN "Unknown" 2) 1) := by
  refine dokZ T.F_law_kinds sc_law_kinds (fun a x ts Ω Q hh => hh.1) fun cdv A outer s H E p cls d hz hf hr => ?_
  refine' dokMkZ (PSs.nox (pss_one (ps_ret (pe_lst (pa_cons (pe_callB (show CallR _ _ (LL.rIsXC K p.1 (He.ga K "Unknown") cls d) from LL.call_isXC (p := p) List.mem_cons_self T.v_Unknown.dd hz hf) (by rfl) T.z_isinstance (by decide +kernel) (pa_cons (pv 0) (pa_cons (pe_glob (v := .ref (He.ga K "StoreError")) (u := .ref (He.ga K "StoreError")) rfl T.g_StoreError rfl) pa_nil))) (pa_cons (pe_callB (show CallR _ _ (LL.rIsXC K p.1 (He.ga K "Unknown") cls d) from LL.call_isXC (p := p) List.mem_cons_self T.v_Unknown.dd hz hf) (by rfl) T.z_isinstance (by decide +kernel) (pa_cons (pv 0) (pa_cons (pe_bltn (v := .ty "ValueError") (u := .type "ValueError") (by rfl) T.z_ValueError (by decide +kernel) rfl) pa_nil))) (pa_cons (pe_callB (show CallR _ _ (LL.rIsXC K p.1 (He.ga K "Unknown") cls d) from LL.call_isXC (p := p) List.mem_cons_self T.v_Unknown.dd hz hf) (by rfl) T.z_isinstance (by decide +kernel) (pa_cons (pv 0) (pa_cons (pe_glob (v := .ref (He.ga K "BadValue")) (u := .ref (He.ga K "BadValue")) rfl T.g_BadValue rfl) pa_nil))) (pa_cons (pe_callB (show CallR _ _ (LL.rIsXC K p.1 (He.ga K "Unknown") cls d) from LL.call_isXC (p := p) List.mem_cons_self T.v_Unknown.dd hz hf) (by rfl) T.z_isinstance (by decide +kernel) (pa_cons (pv 0) (pa_cons (pe_glob (v := .ref (He.ga K "Broken")) (u := .ref (He.ga K "Broken")) rfl T.g_Broken rfl) pa_nil))) (pa_cons (pe_callB (show CallR _ _ (LL.rIsXC K p.1 (He.ga K "Unknown") cls d) from LL.call_isXC (p := p) List.mem_cons_self T.v_Unknown.dd hz hf) (by rfl) T.z_isinstance (by decide +kernel) (pa_cons (pv 0) (pa_cons (pe_glob (v := .ref (He.ga K "Unknown")) (u := .ref (He.ga K "Unknown")) rfl T.g_Unknown rfl) pa_nil))) (pa_cons (pe_callB (show CallR _ _ (LL.rIsXC K p.1 (He.ga K "Unknown") cls d) from LL.call_isXC (p := p) List.mem_cons_self T.v_Unknown.dd hz hf) (by rfl) T.z_isinstance (by decide +kernel) (pa_cons (pv 0) (pa_cons (pe_glob (v := .ref (He.ga K "NotHeld")) (u := .ref (He.ga K "NotHeld")) rfl T.g_NotHeld rfl) pa_nil))) (pa_cons (pe_callB (show CallR _ _ (LL.rIsXC K p.1 (He.ga K "Unknown") cls d) from LL.call_isXC (p := p) List.mem_cons_self T.v_Unknown.dd hz hf) (by rfl) T.z_isinstance (by decide +kernel) (pa_cons (pv 0) (pa_cons (pe_glob (v := .ref (He.ga K "Fault")) (u := .ref (He.ga K "Fault")) rfl T.g_Fault rfl) pa_nil))) (pa_cons (pe_callB (show CallR _ _ (LL.rIsXC K p.1 (He.ga K "Unknown") cls d) from LL.call_isXC (p := p) List.mem_cons_self T.v_Unknown.dd hz hf) (by rfl) T.z_isinstance (by decide +kernel) (pa_cons (pv 0) (pa_cons (pe_glob (v := .ref (He.ga K "NoRoom")) (u := .ref (He.ga K "NoRoom")) rfl T.g_NoRoom rfl) pa_nil))) (pa_cons (pe_callB (show CallR _ _ (LL.rIsXC K p.1 (He.ga K "Unknown") cls d) from LL.call_isXC (p := p) List.mem_cons_self T.v_Unknown.dd hz hf) (by rfl) T.z_isinstance (by decide +kernel) (pa_cons (pv 0) (pa_cons (pe_glob (v := .ref (He.ga K "Cut")) (u := .ref (He.ga K "Cut")) rfl T.g_Cut rfl) pa_nil))) (pa_cons (pe_callB (show CallR _ _ (LL.rIsXC K p.1 (He.ga K "Unknown") cls d) from LL.call_isXC (p := p) List.mem_cons_self T.v_Unknown.dd hz hf) (by rfl) T.z_isinstance (by decide +kernel) (pa_cons (pv 0) (pa_cons (pe_glob (v := .ref (He.ga K "BadLine")) (u := .ref (He.ga K "BadLine")) rfl T.g_BadLine rfl) pa_nil))) pa_nil)))))))))))))) ?sim ?go
  case sim =>
    intro x
    try simp only [LL.cxK0, LL.cxK1, List.map_cons, List.map_nil]
    repeat' (first | fail "s")
  case go =>
    intro x ts Ω PQ hx hl h
    obtain ⟨_, rfl, q⟩ := h
    simp! only [N_law_kinds]
    rw [hx]
    exact ⟨rfl, _, rfl, _, T.v_Unknown.kit (i := 0) rfl rfl, rfl, _, rfl, _, T.v_Unknown.kit (i := 1) rfl rfl, rfl, _, rfl, _, T.v_Unknown.kit (i := 2) rfl rfl, rfl, _, rfl, _, T.v_Unknown.kit (i := 3) rfl rfl, rfl, _, rfl, _, T.v_Unknown.kit (i := 4) rfl rfl, rfl, _, rfl, _, T.v_Unknown.kit (i := 5) rfl rfl, rfl, _, rfl, _, T.v_Unknown.kit (i := 6) rfl rfl, rfl, _, rfl, _, T.v_Unknown.kit (i := 7) rfl rfl, rfl, _, rfl, _, T.v_Unknown.kit (i := 8) rfl rfl, rfl, _, rfl, _, T.v_Unknown.kit (i := 9) rfl rfl, .inl q⟩
theorem ok_law_kinds_NotHeld (T : Tx K mg) : FnZ P w K mg base 1 (He.ga K "_law_kinds") T.fd_law_kinds P_law_kinds (spZ K (wp_kindsN "NotHeld" 3) 1) := by
  refine dokZ T.F_law_kinds sc_law_kinds (fun a x ts Ω Q hh => hh.1) fun cdv A outer s H E p cls d hz hf hr => ?_
  refine' dokMkZ (PSs.nox (pss_one (ps_ret (pe_lst (pa_cons (pe_callB (show CallR _ _ (LL.rIsXC K p.1 (He.ga K "NotHeld") cls d) from LL.call_isXC (p := p) List.mem_cons_self T.v_NotHeld.dd hz hf) (by rfl) T.z_isinstance (by decide +kernel) (pa_cons (pv 0) (pa_cons (pe_glob (v := .ref (He.ga K "StoreError")) (u := .ref (He.ga K "StoreError")) rfl T.g_StoreError rfl) pa_nil))) (pa_cons (pe_callB (show CallR _ _ (LL.rIsXC K p.1 (He.ga K "NotHeld") cls d) from LL.call_isXC (p := p) List.mem_cons_self T.v_NotHeld.dd hz hf) (by rfl) T.z_isinstance (by decide +kernel) (pa_cons (pv 0) (pa_cons (pe_bltn (v := .ty "ValueError") (u := .type "ValueError") (by rfl) T.z_ValueError (by decide +kernel) rfl) pa_nil))) (pa_cons (pe_callB (show CallR _ _ (LL.rIsXC K p.1 (He.ga K "NotHeld") cls d) from LL.call_isXC (p := p) List.mem_cons_self T.v_NotHeld.dd hz hf) (by rfl) T.z_isinstance (by decide +kernel) (pa_cons (pv 0) (pa_cons (pe_glob (v := .ref (He.ga K "BadValue")) (u := .ref (He.ga K "BadValue")) rfl T.g_BadValue rfl) pa_nil))) (pa_cons (pe_callB (show CallR _ _ (LL.rIsXC K p.1 (He.ga K "NotHeld") cls d) from LL.call_isXC (p := p) List.mem_cons_self T.v_NotHeld.dd hz hf) (by rfl) T.z_isinstance (by decide +kernel) (pa_cons (pv 0) (pa_cons (pe_glob (v := .ref (He.ga K "Broken")) (u := .ref (He.ga K "Broken")) rfl T.g_Broken rfl) pa_nil))) (pa_cons (pe_callB (show CallR _ _ (LL.rIsXC K p.1 (He.ga K "NotHeld") cls d) from LL.call_isXC (p := p) List.mem_cons_self T.v_NotHeld.dd hz hf) (by rfl) T.z_isinstance (by decide +kernel) (pa_cons (pv 0) (pa_cons (pe_glob (v := .ref (He.ga K "Unknown")) (u := .ref (He.ga K "Unknown")) rfl T.g_Unknown rfl) pa_nil))) (pa_cons (pe_callB (show CallR _ _ (LL.rIsXC K p.1 (He.ga K "NotHeld") cls d) from LL.call_isXC (p := p) List.mem_cons_self T.v_NotHeld.dd hz hf) (by rfl) T.z_isinstance (by decide +kernel) (pa_cons (pv 0) (pa_cons (pe_glob (v := .ref (He.ga K "NotHeld")) (u := .ref (He.ga K "NotHeld")) rfl T.g_NotHeld rfl) pa_nil))) (pa_cons (pe_callB (show CallR _ _ (LL.rIsXC K p.1 (He.ga K "NotHeld") cls d) from LL.call_isXC (p := p) List.mem_cons_self T.v_NotHeld.dd hz hf) (by rfl) T.z_isinstance (by decide +kernel) (pa_cons (pv 0) (pa_cons (pe_glob (v := .ref (He.ga K "Fault")) (u := .ref (He.ga K "Fault")) rfl T.g_Fault rfl) pa_nil))) (pa_cons (pe_callB (show CallR _ _ (LL.rIsXC K p.1 (He.ga K "NotHeld") cls d) from LL.call_isXC (p := p) List.mem_cons_self T.v_NotHeld.dd hz hf) (by rfl) T.z_isinstance (by decide +kernel) (pa_cons (pv 0) (pa_cons (pe_glob (v := .ref (He.ga K "NoRoom")) (u := .ref (He.ga K "NoRoom")) rfl T.g_NoRoom rfl) pa_nil))) (pa_cons (pe_callB (show CallR _ _ (LL.rIsXC K p.1 (He.ga K "NotHeld") cls d) from LL.call_isXC (p := p) List.mem_cons_self T.v_NotHeld.dd hz hf) (by rfl) T.z_isinstance (by decide +kernel) (pa_cons (pv 0) (pa_cons (pe_glob (v := .ref (He.ga K "Cut")) (u := .ref (He.ga K "Cut")) rfl T.g_Cut rfl) pa_nil))) (pa_cons (pe_callB (show CallR _ _ (LL.rIsXC K p.1 (He.ga K "NotHeld") cls d) from LL.call_isXC (p := p) List.mem_cons_self T.v_NotHeld.dd hz hf) (by rfl) T.z_isinstance (by decide +kernel) (pa_cons (pv 0) (pa_cons (pe_glob (v := .ref (He.ga K "BadLine")) (u := .ref (He.ga K "BadLine")) rfl T.g_BadLine rfl) pa_nil))) pa_nil)))))))))))))) ?sim ?go
  case sim =>
    intro x
    try simp only [LL.cxK0, LL.cxK1, List.map_cons, List.map_nil]
    repeat' (first | fail "s")
  case go =>
    intro x ts Ω PQ hx hl h
    obtain ⟨_, rfl, q⟩ := h
    simp! only [N_law_kinds]
    rw [hx]
    exact ⟨rfl, _, rfl, _, T.v_NotHeld.kit (i := 0) rfl rfl, rfl, _, rfl, _, T.v_NotHeld.kit (i := 1) rfl rfl, rfl, _, rfl, _, T.v_NotHeld.kit (i := 2) rfl rfl, rfl, _, rfl, _, T.v_NotHeld.kit (i := 3) rfl rfl, rfl, _, rfl, _, T.v_NotHeld.kit (i := 4) rfl rfl, rfl, _, rfl, _, T.v_NotHeld.kit (i := 5) rfl rfl, rfl, _, rfl, _, T.v_NotHeld.kit (i := 6) rfl rfl, rfl, _, rfl, _, T.v_NotHeld.kit (i := 7) rfl rfl, rfl, _, rfl, _, T.v_NotHeld.kit (i := 8) rfl rfl, rfl, _, rfl, _, T.v_NotHeld.kit (i := 9) rfl rfl, .inl q⟩
end
section
open PySem PySem.Spec PyProof.Rows L2 LL LT
variable {P : Program} {w : World} {K : PySem.W.Frag} {mg : Str → Option Value} {base : Heap}

/-! ### refusals -/
noncomputable def titlesL : List Str := ["BadValue", "Broken", "Unknown", "NotHeld", "Fault", "NoRoom", "Cut", "BadLine"]
noncomputable def isTi (n : Str) : Tr → Tr
  | .str s => .bl (decide (s = n))
  | _ => .non
noncomputable def refN (n : Str) (k : Nat) (fs : List Tr) : Tr := .lst [.str "refused", .tup [.str n, .tup fs], .tup fs, kindsN k]
noncomputable def wp_refN : Pw := fun ts Ω PQ _ => ∃ n k fs, ts = [.str n, .tup fs] ∧ titlesL[k]? = some n ∧ PQ (refN n k fs) Ω
theorem ok_law_refused (T : Tx K mg) : FnOk P w K mg base CX0 1 (He.ga K "_law_refused") T.fd_law_refused P_law_refused (spD K wp_refN 2) := by
  refine dok T.F_law_refused sc_law_refused fun cdv A outer s H E hr => ?_
  refine' dokMk (PSs.nox (pss_cons (ps_set (i := 2) sc_law_refused.nd rfl (Or.inl rfl) (pe_lst (pa_cons (pe_str) (pa_cons (pe_str) (pa_cons (pe_str) (pa_cons (pe_str) (pa_cons (pe_str) (pa_cons (pe_str) (pa_cons (pe_str) (pa_cons (pe_str) pa_nil)))))))))) (pss_one (ps_ret (pe_lst (pa_cons (pe_str) (pa_cons (pe_tup (pa_cons (pv 0) (pa_cons (pv 1) pa_nil))) (pa_cons (pv 1) (pa_cons (pe_op (show OpR _ _ (LT.rAddG K) from LT.op_addG) (pe_lst (pa_cons (pe_bl) (pa_cons (pe_bl) pa_nil))) (pe_lc (own := [("_law_one", 3)]) (by rfl) sc_law_refused.nd (LT.pi_seqK (K := K) rfl (pv 2)) (blkOk_by (N := N_law_refused) (sc := defScope s_law_refused) (by decide +kernel)) (fun _ _ _ _ _ => (pg_name (i := 3) sc_law_refused.nd rfl (Or.inl rfl))) (fun _ _ _ _ _ => pts_nil) (fun _ _ _ _ _ => (pe_cmpR op_eq (pv 3) (pv 0) (nomark _))))) pa_nil))))))))) ?sim ?go
  case sim =>
    try simp only [LL.cxK0, LL.cxK1, List.map_cons, List.map_nil]
    repeat' (first | with_reducible apply sim_gLst | with_reducible apply sim_tryR0 | with_reducible apply sim_tryR | with_reducible apply SimRow.cons | with_reducible exact SimRow.nil | with_reducible apply sim_mthS (dts := []) .nil | with_reducible apply sim_makeK (gT := fun ts us => ts ++ us) (fun _ _ _ _ _ _ _ h1 h2 => vdl_app h2 h1) | with_reducible apply sim_fld T.c_Ground T.n_Ground_pages | with_reducible apply sim_fld T.c_Ground T.n_Ground_width | with_reducible apply sim_fld T.c_Ground T.n_Ground_fill | with_reducible apply sim_fld T.c_Ground T.n_Ground__budget | with_reducible apply sim_fld T.c_Ground T.n_Ground__spent | with_reducible apply sim_fld T.c_Ground T.n_Ground__words | with_reducible apply sim_fld T.c_Ground T.n_Ground__holders | with_reducible apply sim_fld T.c_Ground T.n_Ground__deeds | with_reducible apply sim_setF T.c_Ground T.n_Ground_pages | with_reducible apply sim_setF T.c_Ground T.n_Ground_width | with_reducible apply sim_setF T.c_Ground T.n_Ground_fill | with_reducible apply sim_setF T.c_Ground T.n_Ground__budget | with_reducible apply sim_setF T.c_Ground T.n_Ground__spent | with_reducible apply sim_setF T.c_Ground T.n_Ground__words | with_reducible apply sim_setF T.c_Ground T.n_Ground__holders | with_reducible apply sim_setF T.c_Ground T.n_Ground__deeds | with_reducible apply sim_forI | with_reducible apply sim_pop | with_reducible apply sim_tru | with_reducible apply sim_prop | with_reducible apply sim_make (dts := []) .nil | with_reducible apply sim_make0 (dts := []) .nil | with_reducible apply sim_meth0 (dts := []) .nil | with_reducible apply sim_meth (dts := []) .nil | fail "s")
  case go =>
    intro ts Ω PQ PX hl h
    obtain ⟨n, k, fs, rfl, hk, q⟩ := h
    simp! only [N_law_refused]
    refine .inl ?_
    simp! only [and_true]
    refine .inl ?_
    refine map_S (fun P p => ⟨_, rfl, p⟩) rfl (isTi n) mono_dName (fun x hx Q q => ?_) (.inl ?_)
    · simp only [List.mem_cons, List.not_mem_nil, or_false] at hx
      rcases hx with rfl | rfl | rfl | rfl | rfl | rfl | rfl | rfl <;> (unfold isTi at q; simp! only [and_true]; exact q)
    · have hb : [Tr.bl true, .bl true] ++ List.map (isTi n) [.str "BadValue", .str "Broken", .str "Unknown", .str "NotHeld", .str "Fault", .str "NoRoom", .str "Cut", .str "BadLine"] = (LL.bitsV k).map Tr.bl := by
        unfold titlesL at hk
        have hk8 : k < 8 := (List.getElem?_eq_some_iff.mp hk).1
        match k, hk8, hk with
        | 0, _, hk => cases hk; rfl
        | 1, _, hk => cases hk; rfl
        | 2, _, hk => cases hk; rfl
        | 3, _, hk => cases hk; rfl
        | 4, _, hk => cases hk; rfl
        | 5, _, hk => cases hk; rfl
        | 6, _, hk => cases hk; rfl
        | 7, _, hk => cases hk; rfl
      have hb' : Tr.lst [.bl true, .bl true, isTi n (.str "BadValue"), isTi n (.str "Broken"), isTi n (.str "Unknown"), isTi n (.str "NotHeld"), isTi n (.str "Fault"), isTi n (.str "NoRoom"), isTi n (.str "Cut"), isTi n (.str "BadLine")] = kindsN k := congrArg Tr.lst hb
      simp! only [and_true]
      refine .inl (.inl ?_)
      rw [hb']
      exact q
end
section
open PySem PySem.Spec PyProof.Rows L2 LL LT
variable {P : Program} {w : World} {K : PySem.W.Frag} {mg : Str → Option Value} {base : Heap}

/-! ### draws of images -/
noncomputable def holdersL : List Int := [1, 2, 3, 4, 5, 6, 7, 8, 11, 12, 13, 14, 15, 16, 17, 18, 21, 22, 23, 24, 25, 26, 27, 28]
theorem holders_ok : ∀ v ∈ holdersL, holdB v = true := by decide
theorem word_of {v : Int} (h : 0 ≤ v ∧ v ≤ 65535) : wordB v = true := by unfold wordB; rw [decide_eq_true h.1, decide_eq_true h.2]; rfl
theorem word_le {v : Int} (h : wordB v = true) : 0 ≤ v ∧ v ≤ 65535 := by unfold wordB at h; simpa using h
noncomputable def wp_holders : Pw := fun ts Ω PQ _ => ts = [] ∧ PQ (.lst (holdersL.map Tr.int)) Ω
noncomputable def wp_hold1 : Pw := fun ts Ω PQ _ => ts = [.drw] ∧ ∀ h, holdB h = true → PQ (.int h) Ω
noncomputable def wp_word1 : Pw := fun ts Ω PQ _ => ∃ b, ts = [.drw, .int b] ∧ wordB b = true ∧ ∀ v, wordB v = true → PQ (.int v) Ω
noncomputable def wp_oword : Pw := fun ts Ω PQ _ => ∃ b, ts = [.drw, .int b] ∧ wordB b = true ∧ ∀ v, wordB v = true → v ≠ b → PQ (.int v) Ω
noncomputable def wp_blank : Pw := fun ts Ω PQ _ => ts = [.drw] ∧ ∀ v, wordB v = true → PQ (.int v) Ω
theorem hd_call {Ω : Om} {P : PT'} {X : PXt} (k : ∀ h, holdB h = true → P (.int h) Ω) : wp_hold1 [.drw] Ω P X := ⟨rfl, k⟩
theorem wd_call {b : Int} {Ω : Om} {P : PT'} {X : PXt} (h : wordB b = true) (k : ∀ v, wordB v = true → P (.int v) Ω) : wp_word1 [.drw, .int b] Ω P X := ⟨b, rfl, h, k⟩
theorem ow_call {b : Int} {Ω : Om} {P : PT'} {X : PXt} (h : wordB b = true) (k : ∀ v, wordB v = true → v ≠ b → P (.int v) Ω) : wp_oword [.drw, .int b] Ω P X := ⟨b, rfl, h, k⟩
theorem bk_call {Ω : Om} {P : PT'} {X : PXt} (k : ∀ v, wordB v = true → P (.int v) Ω) : wp_blank [.drw] Ω P X := ⟨rfl, k⟩
theorem mem_set {l : List Int} {i : Nat} {v k : Int} (h : k ∈ l.set i v) : k ∈ l ∨ k = v := List.mem_or_eq_of_mem_set h
theorem ok_law_holders (T : Tx K mg) : FnOk P w K mg base CX0 1 (He.ga K "_law_holders") T.fd_law_holders P_law_holders (spD K wp_holders 0) := by
  refine dok T.F_law_holders sc_law_holders fun cdv A outer s H E hr => ?_
  refine' dokMk (PSs.nox (pss_one (ps_ret (pe_op (show OpR _ _ (LT.rAddG K) from LT.op_addG) (pe_op (show OpR _ _ (LT.rAddG K) from LT.op_addG) (pe_listRg rfl (by rfl) T.z_list (prg_2 (by rfl) T.z_range (pe_int) (pe_int))) (pe_listRg rfl (by rfl) T.z_list (prg_2 (by rfl) T.z_range (pe_int) (pe_int)))) (pe_listRg rfl (by rfl) T.z_list (prg_2 (by rfl) T.z_range (pe_int) (pe_int))))))) ?sim ?go
  case sim =>
    try simp only [LL.cxK0, LL.cxK1, List.map_cons, List.map_nil]
    repeat' (first | with_reducible apply sim_gLst | with_reducible apply sim_tryR0 | with_reducible apply sim_tryR | with_reducible apply SimRow.cons | with_reducible exact SimRow.nil | with_reducible apply sim_mthS (dts := []) .nil | with_reducible apply sim_makeK (gT := fun ts us => ts ++ us) (fun _ _ _ _ _ _ _ h1 h2 => vdl_app h2 h1) | with_reducible apply sim_fld T.c_Ground T.n_Ground_pages | with_reducible apply sim_fld T.c_Ground T.n_Ground_width | with_reducible apply sim_fld T.c_Ground T.n_Ground_fill | with_reducible apply sim_fld T.c_Ground T.n_Ground__budget | with_reducible apply sim_fld T.c_Ground T.n_Ground__spent | with_reducible apply sim_fld T.c_Ground T.n_Ground__words | with_reducible apply sim_fld T.c_Ground T.n_Ground__holders | with_reducible apply sim_fld T.c_Ground T.n_Ground__deeds | with_reducible apply sim_setF T.c_Ground T.n_Ground_pages | with_reducible apply sim_setF T.c_Ground T.n_Ground_width | with_reducible apply sim_setF T.c_Ground T.n_Ground_fill | with_reducible apply sim_setF T.c_Ground T.n_Ground__budget | with_reducible apply sim_setF T.c_Ground T.n_Ground__spent | with_reducible apply sim_setF T.c_Ground T.n_Ground__words | with_reducible apply sim_setF T.c_Ground T.n_Ground__holders | with_reducible apply sim_setF T.c_Ground T.n_Ground__deeds | with_reducible apply sim_forI | with_reducible apply sim_pop | with_reducible apply sim_tru | with_reducible apply sim_prop | with_reducible apply sim_make (dts := []) .nil | with_reducible apply sim_make0 (dts := []) .nil | with_reducible apply sim_meth0 (dts := []) .nil | with_reducible apply sim_meth (dts := []) .nil | fail "s")
  case go =>
    intro ts Ω PQ PX hl h
    obtain ⟨rfl, q⟩ := h
    simp! only [N_law_holders]
    rw [show rngT 1 8 = [1, 2, 3, 4, 5, 6, 7, 8].map Tr.int from rfl, show rngT 11 8 = [11, 12, 13, 14, 15, 16, 17, 18].map Tr.int from rfl, show rngT 21 8 = [21, 22, 23, 24, 25, 26, 27, 28].map Tr.int from rfl]
    refine .inl (.inl ?_)
    simp! only [and_true]
    refine .inl (.inl ?_)
    simp! only [and_true]
    exact .inl q
theorem ok_law_holder (T : Tx K mg) : FnOk P w K mg base CX0 4 (He.ga K "_law_holder") T.fd_law_holder P_law_holder (spD K wp_hold1 1) := by
  refine dok T.F_law_holder sc_law_holder fun cdv A outer s H E hr => ?_
  refine' dokMk (PSs.nox (pss_cons (ps_if (pt_cmpR op_eq (pe_call (okt_law_take T) (hr.mono (by decide)) rfl T.g_law_take T.F_law_take.kp (b_law_take T) .nil pass0 (pa_cons (pv 0) (pa_cons (pe_int) pa_nil))) (pe_int) (nomark _)) (pss_one (ps_ret (pe_int))) pss_nil) (pss_one (ps_ret (pe_call (ok_law_among T) hr rfl T.g_law_among T.F_law_among.kp (b_law_among T) .nil pass0 (pa_cons (pv 0) (pa_cons (pe_call0 (ok_law_holders T) (hr.mono (by decide)) rfl T.g_law_holders T.F_law_holders.kp (b_law_holders T) .nil pass0) pa_nil))))))) ?sim ?go
  case sim =>
    try simp only [LL.cxK0, LL.cxK1, List.map_cons, List.map_nil]
    repeat' (first | with_reducible apply sim_gLst | with_reducible apply sim_tryR0 | with_reducible apply sim_tryR | with_reducible apply SimRow.cons | with_reducible exact SimRow.nil | with_reducible apply sim_mthS (dts := []) .nil | with_reducible apply sim_makeK (gT := fun ts us => ts ++ us) (fun _ _ _ _ _ _ _ h1 h2 => vdl_app h2 h1) | with_reducible apply sim_fld T.c_Ground T.n_Ground_pages | with_reducible apply sim_fld T.c_Ground T.n_Ground_width | with_reducible apply sim_fld T.c_Ground T.n_Ground_fill | with_reducible apply sim_fld T.c_Ground T.n_Ground__budget | with_reducible apply sim_fld T.c_Ground T.n_Ground__spent | with_reducible apply sim_fld T.c_Ground T.n_Ground__words | with_reducible apply sim_fld T.c_Ground T.n_Ground__holders | with_reducible apply sim_fld T.c_Ground T.n_Ground__deeds | with_reducible apply sim_setF T.c_Ground T.n_Ground_pages | with_reducible apply sim_setF T.c_Ground T.n_Ground_width | with_reducible apply sim_setF T.c_Ground T.n_Ground_fill | with_reducible apply sim_setF T.c_Ground T.n_Ground__budget | with_reducible apply sim_setF T.c_Ground T.n_Ground__spent | with_reducible apply sim_setF T.c_Ground T.n_Ground__words | with_reducible apply sim_setF T.c_Ground T.n_Ground__holders | with_reducible apply sim_setF T.c_Ground T.n_Ground__deeds | with_reducible apply sim_forI | with_reducible apply sim_pop | with_reducible apply sim_tru | with_reducible apply sim_prop | with_reducible apply sim_make (dts := []) .nil | with_reducible apply sim_make0 (dts := []) .nil | with_reducible apply sim_meth0 (dts := []) .nil | with_reducible apply sim_meth (dts := []) .nil | fail "s")
  case go =>
    intro ts Ω PQ PX hl h
    obtain ⟨rfl, q⟩ := h
    simp! only [N_law_holder]
    refine tk_call (by decide) fun v h0 h1 => ?_
    simp! only [and_true]
    refine itei (fun _ => q 0 rfl) fun _ => ⟨rfl, am_call rfl (by decide) fun x hx => ?_⟩
    obtain ⟨i, hi, rfl⟩ := List.mem_map.mp hx
    exact q i (holders_ok i hi)
theorem ok_law_word (T : Tx K mg) : FnOk P w K mg base CX0 3 (He.ga K "_law_word") T.fd_law_word P_law_word (spD K wp_word1 2) := by
  refine dok T.F_law_word sc_law_word fun cdv A outer s H E hr => ?_
  refine' dokMk (PSs.nox (pss_cons (ps_set (i := 2) sc_law_word.nd rfl (Or.inl rfl) (pe_call (okt_law_take T) hr rfl T.g_law_take T.F_law_take.kp (b_law_take T) .nil pass0 (pa_cons (pv 0) (pa_cons (pe_int) pa_nil)))) (pss_cons (ps_if (pt_cmpR op_lt (pv 2) (pe_int) (nomark _)) (pss_one (ps_ret (pe_ix (show IxR _ (LL.rIxA K) from LL.ix_A) (pe_lst (pa_cons (pv 1) (pa_cons (pe_int) (pa_cons (pe_int) (pa_cons (pe_int) (pa_cons (pe_int) (pa_cons (pe_int) (pa_cons (pe_op op_mod (pe_callTy LT.call_int (by rfl) T.z_int (by decide +kernel) (pa_cons (pe_op (show OpR _ _ (LT.rAddG K) from LT.op_addG) (pv 1) (pe_int)) pa_nil)) (pe_int)) pa_nil)))))))) (pv 2) (fun _ _ => rfl)))) pss_nil) (pss_cons (ps_if (pt_cmpR op_eq (pv 2) (pe_int) (nomark _)) (pss_one (ps_ret (pe_call (okt_law_take T) hr rfl T.g_law_take T.F_law_take.kp (b_law_take T) .nil pass0 (pa_cons (pv 0) (pa_cons (pe_int) pa_nil))))) pss_nil) (pss_one (ps_ret (pe_call (okt_law_take T) hr rfl T.g_law_take T.F_law_take.kp (b_law_take T) .nil pass0 (pa_cons (pv 0) (pa_cons (pe_int) pa_nil))))))))) ?sim ?go
  case sim =>
    try simp only [LL.cxK0, LL.cxK1, List.map_cons, List.map_nil]
    repeat' (first | with_reducible apply sim_gLst | with_reducible apply sim_tryR0 | with_reducible apply sim_tryR | with_reducible apply SimRow.cons | with_reducible exact SimRow.nil | with_reducible apply sim_mthS (dts := []) .nil | with_reducible apply sim_makeK (gT := fun ts us => ts ++ us) (fun _ _ _ _ _ _ _ h1 h2 => vdl_app h2 h1) | with_reducible apply sim_fld T.c_Ground T.n_Ground_pages | with_reducible apply sim_fld T.c_Ground T.n_Ground_width | with_reducible apply sim_fld T.c_Ground T.n_Ground_fill | with_reducible apply sim_fld T.c_Ground T.n_Ground__budget | with_reducible apply sim_fld T.c_Ground T.n_Ground__spent | with_reducible apply sim_fld T.c_Ground T.n_Ground__words | with_reducible apply sim_fld T.c_Ground T.n_Ground__holders | with_reducible apply sim_fld T.c_Ground T.n_Ground__deeds | with_reducible apply sim_setF T.c_Ground T.n_Ground_pages | with_reducible apply sim_setF T.c_Ground T.n_Ground_width | with_reducible apply sim_setF T.c_Ground T.n_Ground_fill | with_reducible apply sim_setF T.c_Ground T.n_Ground__budget | with_reducible apply sim_setF T.c_Ground T.n_Ground__spent | with_reducible apply sim_setF T.c_Ground T.n_Ground__words | with_reducible apply sim_setF T.c_Ground T.n_Ground__holders | with_reducible apply sim_setF T.c_Ground T.n_Ground__deeds | with_reducible apply sim_forI | with_reducible apply sim_pop | with_reducible apply sim_tru | with_reducible apply sim_prop | with_reducible apply sim_make (dts := []) .nil | with_reducible apply sim_make0 (dts := []) .nil | with_reducible apply sim_meth0 (dts := []) .nil | with_reducible apply sim_meth (dts := []) .nil | fail "s")
  case go =>
    intro ts Ω PQ PX hl h
    obtain ⟨b, rfl, hb, q⟩ := h
    have hb' := word_le hb
    simp! only [N_law_word]
    repeat' (first | fail "r" | exact q _ hb | exact q _ (word_of ⟨by omega, by omega⟩))
theorem ok_law_blank (T : Tx K mg) : FnOk P w K mg base CX0 3 (He.ga K "_law_blank") T.fd_law_blank P_law_blank (spD K wp_blank 1) := by
  refine dok T.F_law_blank sc_law_blank fun cdv A outer s H E hr => ?_
  refine' dokMk (PSs.nox (pss_cons (ps_set (i := 1) sc_law_blank.nd rfl (Or.inl rfl) (pe_call (okt_law_take T) hr rfl T.g_law_take T.F_law_take.kp (b_law_take T) .nil pass0 (pa_cons (pv 0) (pa_cons (pe_int) pa_nil)))) (pss_cons (ps_if (pt_cmpR op_lt (pv 1) (pe_int) (nomark _)) (pss_one (ps_ret (pe_ix (show IxR _ (LL.rIxA K) from LL.ix_A) (pe_lst (pa_cons (pe_int) (pa_cons (pe_int) (pa_cons (pe_int) (pa_cons (pe_int) (pa_cons (pe_int) (pa_cons (pe_int) (pa_cons (pe_int) pa_nil)))))))) (pv 1) (fun _ _ => rfl)))) pss_nil) (pss_cons (ps_if (pt_cmpR op_eq (pv 1) (pe_int) (nomark _)) (pss_one (ps_ret (pe_call (okt_law_take T) hr rfl T.g_law_take T.F_law_take.kp (b_law_take T) .nil pass0 (pa_cons (pv 0) (pa_cons (pe_int) pa_nil))))) pss_nil) (pss_one (ps_ret (pe_call (okt_law_take T) hr rfl T.g_law_take T.F_law_take.kp (b_law_take T) .nil pass0 (pa_cons (pv 0) (pa_cons (pe_int) pa_nil))))))))) ?sim ?go
  case sim =>
    try simp only [LL.cxK0, LL.cxK1, List.map_cons, List.map_nil]
    repeat' (first | with_reducible apply sim_gLst | with_reducible apply sim_tryR0 | with_reducible apply sim_tryR | with_reducible apply SimRow.cons | with_reducible exact SimRow.nil | with_reducible apply sim_mthS (dts := []) .nil | with_reducible apply sim_makeK (gT := fun ts us => ts ++ us) (fun _ _ _ _ _ _ _ h1 h2 => vdl_app h2 h1) | with_reducible apply sim_fld T.c_Ground T.n_Ground_pages | with_reducible apply sim_fld T.c_Ground T.n_Ground_width | with_reducible apply sim_fld T.c_Ground T.n_Ground_fill | with_reducible apply sim_fld T.c_Ground T.n_Ground__budget | with_reducible apply sim_fld T.c_Ground T.n_Ground__spent | with_reducible apply sim_fld T.c_Ground T.n_Ground__words | with_reducible apply sim_fld T.c_Ground T.n_Ground__holders | with_reducible apply sim_fld T.c_Ground T.n_Ground__deeds | with_reducible apply sim_setF T.c_Ground T.n_Ground_pages | with_reducible apply sim_setF T.c_Ground T.n_Ground_width | with_reducible apply sim_setF T.c_Ground T.n_Ground_fill | with_reducible apply sim_setF T.c_Ground T.n_Ground__budget | with_reducible apply sim_setF T.c_Ground T.n_Ground__spent | with_reducible apply sim_setF T.c_Ground T.n_Ground__words | with_reducible apply sim_setF T.c_Ground T.n_Ground__holders | with_reducible apply sim_setF T.c_Ground T.n_Ground__deeds | with_reducible apply sim_forI | with_reducible apply sim_pop | with_reducible apply sim_tru | with_reducible apply sim_prop | with_reducible apply sim_make (dts := []) .nil | with_reducible apply sim_make0 (dts := []) .nil | with_reducible apply sim_meth0 (dts := []) .nil | with_reducible apply sim_meth (dts := []) .nil | fail "s")
  case go =>
    intro ts Ω PQ PX hl h
    obtain ⟨rfl, q⟩ := h
    simp! only [N_law_blank]
    repeat' (first | fail "r" | exact q _ (word_of ⟨by omega, by omega⟩))
end
section
open PySem PySem.Spec PyProof.Rows L2 LL LT
variable {P : Program} {w : World} {K : PySem.W.Frag} {mg : Str → Option Value} {base : Heap}

mutual
noncomputable def depTr2 : Tr → Nat
  | .lst ts => depTrs2 ts + 1
  | .tup ts => depTrs2 ts + 1
  | .dic _ ts => depTrs2 ts + 1
  | _ => 0
noncomputable def depTrs2 : List Tr → Nat
  | [] => 0
  | t :: ts => max (depTr2 t) (depTrs2 ts)
end
theorem depTrs2_mem : ∀ {ts : List Tr} {t : Tr}, t ∈ ts → depTr2 t ≤ depTrs2 ts
  | u :: us, t, h => by
    rcases List.mem_cons.mp h with rfl | h
    · exact Nat.le_max_left _ _
    · exact Nat.le_trans (depTrs2_mem h) (Nat.le_max_right _ _)
theorem depTrs2_of {n : Nat} : ∀ {ts : List Tr}, (∀ t ∈ ts, depTr2 t ≤ n) → depTrs2 ts ≤ n
  | [], _ => Nat.zero_le _
  | t :: ts, h => Nat.max_le.mpr ⟨h t List.mem_cons_self, depTrs2_of fun u hu => h u (List.mem_cons_of_mem _ hu)⟩
/-- _law_same of equal data -/
noncomputable def wp_same (n : Nat) : Pw := fun ts Ω PQ _ => ∃ t, ts = [t, t] ∧ dataT t = true ∧ depTr2 t < n ∧ PQ (.bl true) Ω
theorem sm_call {t : Tr} {n : Nat} {Ω : Om} {Q : PT'} {X : PXt} (h1 : dataT t = true) (h2 : depTr2 t < n) (q : Q (.bl true) Ω) : wp_same n [t, t] Ω Q X := ⟨t, rfl, h1, h2, q⟩
theorem fun_false {P : Program} {w : World} {K : PySem.W.Frag} {mg : Str → Option Value} {base : Heap} {CX : CXT} {k : Nat} {f : Addr} {fd : FuncData} {ps : List Str} {Pd : Pw} {n : Nat} (h : ∀ ts Ω Q X, ¬ Pd ts Ω Q X) (hn : n = ps.length) : FnOk P w K mg base CX k f fd ps (spD K Pd n) :=
  ⟨fun vs H Q E ⟨g, Ω, ts, PQ, PX, hl, d, _⟩ => by rw [d.len, hl, hn], fun A outer s H args us vs Q E hr he hb hv ⟨g, Ω, ts, PQ, PX, hl, d, o, p, _⟩ => absurd p (h _ _ _ _)⟩
theorem ok_law_same (T : Tx K mg) : ∀ n : Nat, FnOk P w K mg base CX0 (n + 1) (He.ga K "_law_same") T.fd_law_same P_law_same (spD K (wp_same n) 2) := by
  intro n
  induction n with
  | zero => exact fun_false (fun ts Ω Q X ⟨_, _, _, h, _⟩ => absurd h (Nat.not_lt_zero _)) rfl
  | succ n ih =>
    refine dok T.F_law_same sc_law_same fun cdv A outer s H E hr => ?_
    refine' dokMk (PSs.nox (pss_cons (ps_if (PW.pt (pw_or (pt_cmpR op_isN1 (pv 0) (pe_non) (nomark _)) (pw_or1 (pt_cmpR op_isN1 (pv 1) (pe_non) (nomark _))))) (pss_one (ps_ret ((pe_and (pe_cmpR op_isN1 (pv 0) (pe_non) (nomark _)) (pe_one (pe_cmpR op_isN1 (pv 1) (pe_non) (nomark _))))))) pss_nil) (pss_cons (ps_if (PW.pt (pw_or (pt_val (pe_callB (show CallR _ _ (rIsi K) from call_isi) (by rfl) T.z_isinstance (by decide +kernel) (pa_cons (pv 0) (pa_cons (pe_bltn (v := .ty "bool") (u := .type "bool") (by rfl) T.z_bool (by decide +kernel) rfl) pa_nil)))) (pw_or1 (pt_val (pe_callB (show CallR _ _ (rIsi K) from call_isi) (by rfl) T.z_isinstance (by decide +kernel) (pa_cons (pv 1) (pa_cons (pe_bltn (v := .ty "bool") (u := .type "bool") (by rfl) T.z_bool (by decide +kernel) rfl) pa_nil))))))) (pss_one (ps_ret ((pe_and (pe_callB (show CallR _ _ (rIsi K) from call_isi) (by rfl) T.z_isinstance (by decide +kernel) (pa_cons (pv 0) (pa_cons (pe_bltn (v := .ty "bool") (u := .type "bool") (by rfl) T.z_bool (by decide +kernel) rfl) pa_nil))) (pe_and (pe_callB (show CallR _ _ (rIsi K) from call_isi) (by rfl) T.z_isinstance (by decide +kernel) (pa_cons (pv 1) (pa_cons (pe_bltn (v := .ty "bool") (u := .type "bool") (by rfl) T.z_bool (by decide +kernel) rfl) pa_nil))) (pe_one (pe_cmpR op_eq (pv 0) (pv 1) (nomark _)))))))) pss_nil) (pss_cons (ps_if (pt_val (pe_callB (show CallR _ _ (rIsi K) from call_isi) (by rfl) T.z_isinstance (by decide +kernel) (pa_cons (pv 1) (pa_cons (pe_bltn (v := .ty "int") (u := .type "int") (by rfl) T.z_int (by decide +kernel) rfl) pa_nil)))) (pss_one (ps_ret ((pe_and (pe_callB (show CallR _ _ (rIsi K) from call_isi) (by rfl) T.z_isinstance (by decide +kernel) (pa_cons (pv 0) (pa_cons (pe_bltn (v := .ty "int") (u := .type "int") (by rfl) T.z_int (by decide +kernel) rfl) pa_nil))) (pe_one (pe_cmpR op_eq (pv 0) (pv 1) (nomark _))))))) pss_nil) (pss_cons (ps_if (pt_val (pe_callB (show CallR _ _ (rIsi K) from call_isi) (by rfl) T.z_isinstance (by decide +kernel) (pa_cons (pv 1) (pa_cons (pe_bltn (v := .ty "str") (u := .type "str") (by rfl) T.z_str (by decide +kernel) rfl) pa_nil)))) (pss_one (ps_ret ((pe_and (pe_callB (show CallR _ _ (rIsi K) from call_isi) (by rfl) T.z_isinstance (by decide +kernel) (pa_cons (pv 0) (pa_cons (pe_bltn (v := .ty "str") (u := .type "str") (by rfl) T.z_str (by decide +kernel) rfl) pa_nil))) (pe_one (pe_cmpR op_eq (pv 0) (pv 1) (nomark _))))))) pss_nil) (pss_cons (ps_if (pt_val (pe_callB (show CallR _ _ (rIsi K) from call_isi) (by rfl) T.z_isinstance (by decide +kernel) (pa_cons (pv 1) (pa_cons (pe_bltn (v := .ty "dict") (u := .type "dict") (by rfl) T.z_dict (by decide +kernel) rfl) pa_nil)))) (pss_cons (ps_if (PW.pt (pw_or (pt_not (pt_val (pe_callB (show CallR _ _ (rIsi K) from call_isi) (by rfl) T.z_isinstance (by decide +kernel) (pa_cons (pv 0) (pa_cons (pe_bltn (v := .ty "dict") (u := .type "dict") (by rfl) T.z_dict (by decide +kernel) rfl) pa_nil))))) (pw_or1 (pt_cmpR op_ne (pe_callB (show CallR _ _ (LT.rLenS K) from LT.call_lenS) (by rfl) T.z_len (by decide +kernel) (pa_cons (pv 0) pa_nil)) (pe_callB (show CallR _ _ (LT.rLenS K) from LT.call_lenS) (by rfl) T.z_len (by decide +kernel) (pa_cons (pv 1) pa_nil)) (nomark _))))) (pss_one (ps_ret (pe_bl))) pss_nil) (pss_cons (ps_for PassesOwn.never rfl (LT.pi_seqK (K := K) rfl (pe_callTy (show CallR _ _ (LT.rList K) from LT.call_list rfl) (by rfl) T.z_list (by decide +kernel) (pa_cons (pv 1) pa_nil))) (pg_name (i := 3) sc_law_same.nd rfl (Or.inl rfl)) (pss_one (ps_if (PW.pt (pw_or (pt_cmp (pc_dnotin (hu_of hr) (pv 3) (pv 0))) (pw_or1 (pt_not (pt_val (pe_call ih hr rfl T.g_law_same T.F_law_same.kp (b_law_same T) .nil pass0 (pa_cons (pe_dget (hu_of hr) (pv 0) (pv 3) (fun _ _ => rfl)) (pa_cons (pe_dget (hu_of hr) (pv 1) (pv 3) (fun _ _ => rfl)) pa_nil)))))))) (pss_one (ps_ret (pe_bl))) pss_nil))) (pss_one (ps_ret (pe_bl))))) pss_nil) (pss_cons (ps_if (pt_cmpR op_ne (pe_callB (show CallR _ _ (rIsi K) from call_isi) (by rfl) T.z_isinstance (by decide +kernel) (pa_cons (pv 1) (pa_cons (pe_bltn (v := .ty "list") (u := .type "list") (by rfl) T.z_list (by decide +kernel) rfl) pa_nil))) (pe_callB (show CallR _ _ (rIsi K) from call_isi) (by rfl) T.z_isinstance (by decide +kernel) (pa_cons (pv 0) (pa_cons (pe_bltn (v := .ty "list") (u := .type "list") (by rfl) T.z_list (by decide +kernel) rfl) pa_nil))) (nomark _)) (pss_one (ps_ret (pe_bl))) pss_nil) (pss_cons (ps_if (pt_cmpR op_ne (pe_callB (show CallR _ _ (rIsi K) from call_isi) (by rfl) T.z_isinstance (by decide +kernel) (pa_cons (pv 1) (pa_cons (pe_bltn (v := .ty "tuple") (u := .type "tuple") (by rfl) T.z_tuple (by decide +kernel) rfl) pa_nil))) (pe_callB (show CallR _ _ (rIsi K) from call_isi) (by rfl) T.z_isinstance (by decide +kernel) (pa_cons (pv 0) (pa_cons (pe_bltn (v := .ty "tuple") (u := .type "tuple") (by rfl) T.z_tuple (by decide +kernel) rfl) pa_nil))) (nomark _)) (pss_one (ps_ret (pe_bl))) pss_nil) (pss_cons (ps_if (PW.pt (pw_or (PW.pt (pw_and (pt_not (pt_val (pe_callB (show CallR _ _ (rIsi K) from call_isi) (by rfl) T.z_isinstance (by decide +kernel) (pa_cons (pv 1) (pa_cons (pe_bltn (v := .ty "list") (u := .type "list") (by rfl) T.z_list (by decide +kernel) rfl) pa_nil))))) (pw_and1 (pt_not (pt_val (pe_callB (show CallR _ _ (rIsi K) from call_isi) (by rfl) T.z_isinstance (by decide +kernel) (pa_cons (pv 1) (pa_cons (pe_bltn (v := .ty "tuple") (u := .type "tuple") (by rfl) T.z_tuple (by decide +kernel) rfl) pa_nil)))))))) (pw_or1 (pt_cmpR op_ne (pe_callB (show CallR _ _ (LT.rLenS K) from LT.call_lenS) (by rfl) T.z_len (by decide +kernel) (pa_cons (pv 0) pa_nil)) (pe_callB (show CallR _ _ (LT.rLenS K) from LT.call_lenS) (by rfl) T.z_len (by decide +kernel) (pa_cons (pv 1) pa_nil)) (nomark _))))) (pss_one (ps_ret (pe_bl))) pss_nil) (pss_cons (ps_for PassesOwn.never rfl (pi_range1 rfl T.z_range (pa_cons (pe_callB (show CallR _ _ (LT.rLenS K) from LT.call_lenS) (by rfl) T.z_len (by decide +kernel) (pa_cons (pv 1) pa_nil)) pa_nil)) (pg_name (i := 2) sc_law_same.nd rfl (Or.inl rfl)) (pss_one (ps_if (pt_not (pt_val (pe_call ih hr rfl T.g_law_same T.F_law_same.kp (b_law_same T) .nil pass0 (pa_cons (pe_ix (show IxR _ (LL.rIxA K) from LL.ix_A) (pv 0) (pv 2) (fun _ _ => rfl)) (pa_cons (pe_ix (show IxR _ (LL.rIxA K) from LL.ix_A) (pv 1) (pv 2) (fun _ _ => rfl)) pa_nil))))) (pss_one (ps_ret (pe_bl))) pss_nil))) (pss_one (ps_ret (pe_bl))))))))))))) ?sim ?go
    case sim =>
      try simp only [LL.cxK0, LL.cxK1, List.map_cons, List.map_nil]
      repeat' (first | fail "s")
    case go =>
      intro ts Ω PQ PX hl h
      obtain ⟨t, rfl, hd, hdep, q⟩ := h
      cases t with
      | lst bs =>
          simp! only [N_law_same]
          intro hz hz'
          refine for_R1 (n := (bs.length : Nat)) (Ω1 := Ω) (fun P p => ?_) (by omega) (fun i ρ' Ω' => Ω' = Ω ∧ ∃ x y, ρ' = [some (.lst bs), some (.lst bs), x, y]) ⟨rfl, _, _, rfl⟩ ?_ ?_
          · simp! only [and_true]
            exact fun _ => p
          · rintro i ρ' Ω' hi ⟨rfl, x, y, rfl⟩
            obtain ⟨u, hu⟩ : ∃ u, bs[i]? = some u := ⟨_, List.getElem?_eq_getElem (show i < bs.length by omega)⟩
            have e1 := atI_nat hu
            simp! only [e1]
            have h1 := depTrs2_mem (List.mem_of_getElem? hu)
            have h2 : depTrs2 bs + 1 < n + 1 := hdep
            refine ⟨u, rfl, dataTs_mem hd (List.mem_of_getElem? hu), by omega, ?_⟩
            simp! only [and_true]
          · rintro ρ' Ω' ⟨rfl, x, y, rfl⟩
            simp! only [and_true]
            exact q
      | tup bs =>
          simp! only [N_law_same]
          intro hz hz'
          refine for_R1 (n := (bs.length : Nat)) (Ω1 := Ω) (fun P p => ?_) (by omega) (fun i ρ' Ω' => Ω' = Ω ∧ ∃ x y, ρ' = [some (.tup bs), some (.tup bs), x, y]) ⟨rfl, _, _, rfl⟩ ?_ ?_
          · simp! only [and_true]
            exact fun _ => p
          · rintro i ρ' Ω' hi ⟨rfl, x, y, rfl⟩
            obtain ⟨u, hu⟩ : ∃ u, bs[i]? = some u := ⟨_, List.getElem?_eq_getElem (show i < bs.length by omega)⟩
            have e1 := atI_nat hu
            simp! only [e1]
            have h1 := depTrs2_mem (List.mem_of_getElem? hu)
            have h2 : depTrs2 bs + 1 < n + 1 := hdep
            refine ⟨u, rfl, dataTs_mem hd (List.mem_of_getElem? hu), by omega, ?_⟩
            simp! only [and_true]
          · rintro ρ' Ω' ⟨rfl, x, y, rfl⟩
            simp! only [and_true]
            exact q
      | dic ks us =>
          obtain ⟨nd, hkl, hdd⟩ := data_dic hd
          simp! only [N_law_same]
          intro hz hz'
          refine for_Se (t := .lst (ks.map kT)) (ts := ks.map kT) (Ω1 := Ω) (fun P p => ?_) rfl (fun i ρ' Ω' => Ω' = Ω ∧ ∃ x y, ρ' = [some (.dic ks us), some (.dic ks us), x, y]) ⟨rfl, _, _, rfl⟩ (fun _ _ _ w => trivial) ?_ ?_
          · simp! only [and_true]
            exact .inr fun _ => .inl p
          · rintro hz2 i x ρ' Ω' hx ⟨rfl, x1, y1, rfl⟩
            rw [List.getElem?_map] at hx
            obtain ⟨k, hk, rfl⟩ := Option.map_eq_some_iff.mp hx
            have hi := (List.getElem?_eq_some_iff.mp hk).1
            obtain ⟨u, hu⟩ : ∃ u, us[i]? = some u := ⟨_, List.getElem?_eq_getElem (by omega)⟩
            have ev := valT_at nd hk hu
            have ek : keyT (kT k) = some k := by cases k <;> rfl
            simp! only [ev, ek]
            have h1 := depTrs2_mem (List.mem_of_getElem? hu)
            have h2 : depTrs2 us + 1 < n + 1 := hdep
            refine ⟨u, rfl, dataTs_mem hdd (List.mem_of_getElem? hu), by omega, ?_⟩
            simp! only [and_true]
          · rintro ρ' Ω' ⟨rfl, x, y, rfl⟩
            simp! only [and_true]
            exact q
      | _ => first | (cases (show false = true from hd); done) | (simp! only [N_law_same]; exact q)
end
section
open PySem PySem.Spec PyProof.Rows L2 LL LT
variable {P : Program} {w : World} {K : PySem.W.Frag} {mg : Str → Option Value} {base : Heap}

/-! ### a deed that is asked of a ground -/
/-- how a deed is told -/
inductive DeedT (n : Nat) : Tr → Prop
  | write {at' w h : Int} : 0 ≤ at' → at' < n → wordB w = true → userB h = true → DeedT n (.tup [.str "write", .int at', .int w, .int h])
  | poke {at' w : Int} : 0 ≤ at' → at' < n → wordB w = true → DeedT n (.tup [.str "poke", .int at', .int w])
  | pass {at' z gv tk : Int} : 0 ≤ at' → 1 ≤ z → z ≤ 12 → at' + z ≤ n → holdB gv = true → holdB tk = true → DeedT n (.tup [.str "pass_on", .int at', .int z, .int gv, .int tk])
noncomputable def wl_gdeed : Pw := fun ts Ω PQ _ => ∃ (x y : Tr) (ws hs : List Int) (f : Int), ts = [.drw, x, y, .int f] ∧ asS x Ω = some (ws.map Tr.int) ∧ asS y Ω = some (hs.map Tr.int) ∧ hs.length = ws.length ∧ 1 ≤ ws.length ∧ ws.length ≤ 100000 ∧ wordB f = true ∧ (∀ h ∈ hs, holdB h = true) ∧ ∀ t, DeedT ws.length t → PQ t Ω
theorem user_of {h : Int} (h1 : holdB h = true) (h2 : h ≠ 0) : userB h = true := by
  unfold userB
  rw [h1, decide_eq_false h2]
  rfl
theorem holders_user : ∀ v ∈ holdersL, userB v = true := by decide
theorem ok_law_ground_deed (T : Tx K mg) : FnOk P w K mg base CX0 5 (He.ga K "_law_ground_deed") T.fd_law_ground_deed P_law_ground_deed (spD K wl_gdeed 4) := by
  refine dok T.F_law_ground_deed sc_law_ground_deed fun cdv A outer s H E hr => ?_
  refine' dokMk (PSs.nox (pss_cons (ps_set (i := 4) sc_law_ground_deed.nd rfl (Or.inl rfl) (pe_call (ok_law_between T) (hr.mono (by decide)) rfl T.g_law_between T.F_law_between.kp (b_law_between T) .nil pass0 (pa_cons (pv 0) (pa_cons (pe_int) (pa_cons (pe_op op_sub (pe_callB (show CallR _ _ (LT.rLenS K) from LT.call_lenS) (by rfl) T.z_len (by decide +kernel) (pa_cons (pv 1) pa_nil)) (pe_int)) pa_nil))))) (pss_cons (ps_set (i := 5) sc_law_ground_deed.nd rfl (Or.inl rfl) (pe_ix (show IxR _ (LL.rIxA K) from LL.ix_A) (pv 2) (pv 4) (fun _ _ => rfl))) (pss_cons (ps_set (i := 6) sc_law_ground_deed.nd rfl (Or.inl rfl) (pe_call (okt_law_take T) (hr.mono (by decide)) rfl T.g_law_take T.F_law_take.kp (b_law_take T) .nil pass0 (pa_cons (pv 0) (pa_cons (pe_int) pa_nil)))) (pss_cons (ps_if (pt_cmpR op_lt (pv 6) (pe_int) (nomark _)) (pss_cons (ps_if (PW.pt (pw_or (pt_cmpR op_eq (pv 5) (pe_int) (nomark _)) (pw_or1 (pt_cmpR op_eq (pe_call (okt_law_take T) (hr.mono (by decide)) rfl T.g_law_take T.F_law_take.kp (b_law_take T) .nil pass0 (pa_cons (pv 0) (pa_cons (pe_int) pa_nil))) (pe_int) (nomark _))))) (pss_one (ps_set (i := 5) sc_law_ground_deed.nd rfl (Or.inl rfl) (pe_call (ok_law_among T) (hr.mono (by decide)) rfl T.g_law_among T.F_law_among.kp (b_law_among T) .nil pass0 (pa_cons (pv 0) (pa_cons (pe_call0 (ok_law_holders T) (hr.mono (by decide)) rfl T.g_law_holders T.F_law_holders.kp (b_law_holders T) .nil pass0) pa_nil))))) pss_nil) (pss_one (ps_ret (pe_tup (pa_cons (pe_str) (pa_cons (pv 4) (pa_cons (pe_call (ok_law_word T) (hr.mono (by decide)) rfl T.g_law_word T.F_law_word.kp (b_law_word T) .nil pass0 (pa_cons (pv 0) (pa_cons (pv 3) pa_nil))) (pa_cons (pv 5) pa_nil)))))))) pss_nil) (pss_cons (ps_if (pt_cmpR op_eq (pv 6) (pe_int) (nomark _)) (pss_one (ps_ret (pe_tup (pa_cons (pe_str) (pa_cons (pv 4) (pa_cons (pe_call (ok_law_word T) (hr.mono (by decide)) rfl T.g_law_word T.F_law_word.kp (b_law_word T) .nil pass0 (pa_cons (pv 0) (pa_cons (pv 3) pa_nil))) pa_nil)))))) pss_nil) (pss_cons (ps_if (pt_cmpR op_eq (pv 6) (pe_int) (nomark _)) (pss_one (ps_set (i := 5) sc_law_ground_deed.nd rfl (Or.inl rfl) (pe_call (ok_law_holder T) hr rfl T.g_law_holder T.F_law_holder.kp (b_law_holder T) .nil pass0 (pa_cons (pv 0) pa_nil)))) pss_nil) (pss_cons (ps_set (i := 7) sc_law_ground_deed.nd rfl (Or.inl rfl) (pe_call (ok_law_between T) (hr.mono (by decide)) rfl T.g_law_between T.F_law_between.kp (b_law_between T) .nil pass0 (pa_cons (pv 0) (pa_cons (pe_int) (pa_cons (pe_callB (LL.call_mn rfl) (by rfl) T.z_min (by decide +kernel) (pa_cons (pe_int) (pa_cons (pe_op op_sub (pe_callB (show CallR _ _ (LT.rLenS K) from LT.call_lenS) (by rfl) T.z_len (by decide +kernel) (pa_cons (pv 1) pa_nil)) (pv 4)) pa_nil))) pa_nil))))) (pss_cons (ps_if (pt_cmpR op_gt (pv 6) (pe_int) (nomark _)) (pss_cons (ps_set (i := 7) sc_law_ground_deed.nd rfl (Or.inl rfl) (pe_int)) (pss_one (ps_while PassesOwn.never (PW.pt (pw_and (pt_cmpR op_lt (pv 7) (pe_int) (nomark _)) (pw_and (pt_cmpR op_lt (pe_op (show OpR _ _ (LT.rAddG K) from LT.op_addG) (pv 4) (pv 7)) (pe_callB (show CallR _ _ (LT.rLenS K) from LT.call_lenS) (by rfl) T.z_len (by decide +kernel) (pa_cons (pv 1) pa_nil)) (nomark _)) (pw_and (pt_cmpR op_eq (pe_ix (show IxR _ (LL.rIxA K) from LL.ix_A) (pv 2) (pe_op (show OpR _ _ (LT.rAddG K) from LT.op_addG) (pv 4) (pv 7)) (fun _ _ => rfl)) (pv 5) (nomark _)) (pw_and1 (pt_cmpR op_gt (pe_call (okt_law_take T) (hr.mono (by decide)) rfl T.g_law_take T.F_law_take.kp (b_law_take T) .nil pass0 (pa_cons (pv 0) (pa_cons (pe_int) pa_nil))) (pe_int) (nomark _))))))) (pss_one (ps_set (i := 7) sc_law_ground_deed.nd rfl (Or.inl rfl) (pe_op (show OpR _ _ (LT.rAddG K) from LT.op_addG) (pv 7) (pe_int))))))) pss_nil) (pss_one (ps_ret (pe_tup (pa_cons (pe_str) (pa_cons (pv 4) (pa_cons (pv 7) (pa_cons (pv 5) (pa_cons (pe_call (ok_law_among T) (hr.mono (by decide)) rfl T.g_law_among T.F_law_among.kp (b_law_among T) .nil pass0 (pa_cons (pv 0) (pa_cons (pe_lst (pa_cons (pe_int) (pa_cons (pe_int) (pa_cons (pv 5) (pa_cons (pe_int) (pa_cons (pe_int) (pa_cons (pe_call (ok_law_holder T) hr rfl T.g_law_holder T.F_law_holder.kp (b_law_holder T) .nil pass0 (pa_cons (pv 0) pa_nil)) pa_nil))))))) pa_nil))) pa_nil))))))))))))))))) ?sim ?go
  case sim =>
    try simp only [LL.cxK0, LL.cxK1, List.map_cons, List.map_nil]
    repeat' (first | with_reducible apply sim_gLst | with_reducible apply sim_tryR0 | with_reducible apply sim_tryR | with_reducible apply SimRow.cons | with_reducible exact SimRow.nil | with_reducible apply sim_mthS (dts := []) .nil | with_reducible apply sim_makeK (gT := fun ts us => ts ++ us) (fun _ _ _ _ _ _ _ h1 h2 => vdl_app h2 h1) | with_reducible apply sim_fld T.c_Ground T.n_Ground_pages | with_reducible apply sim_fld T.c_Ground T.n_Ground_width | with_reducible apply sim_fld T.c_Ground T.n_Ground_fill | with_reducible apply sim_fld T.c_Ground T.n_Ground__budget | with_reducible apply sim_fld T.c_Ground T.n_Ground__spent | with_reducible apply sim_fld T.c_Ground T.n_Ground__words | with_reducible apply sim_fld T.c_Ground T.n_Ground__holders | with_reducible apply sim_fld T.c_Ground T.n_Ground__deeds | with_reducible apply sim_setF T.c_Ground T.n_Ground_pages | with_reducible apply sim_setF T.c_Ground T.n_Ground_width | with_reducible apply sim_setF T.c_Ground T.n_Ground_fill | with_reducible apply sim_setF T.c_Ground T.n_Ground__budget | with_reducible apply sim_setF T.c_Ground T.n_Ground__spent | with_reducible apply sim_setF T.c_Ground T.n_Ground__words | with_reducible apply sim_setF T.c_Ground T.n_Ground__holders | with_reducible apply sim_setF T.c_Ground T.n_Ground__deeds | with_reducible apply sim_forI | with_reducible apply sim_pop | with_reducible apply sim_tru | with_reducible apply sim_prop | with_reducible apply sim_make (dts := []) .nil | with_reducible apply sim_make0 (dts := []) .nil | with_reducible apply sim_meth0 (dts := []) .nil | with_reducible apply sim_meth (dts := []) .nil | fail "s")
  case go =>
    intro ts Ω PQ PX hl h
    obtain ⟨x, y, ws, hs, f, rfl, hx, hy, hl, h1, h2, hf, hh, q⟩ := h
    have e1 := len_S hx
    rw [List.length_map] at e1
    have e2 := len_S hy
    rw [List.length_map] at e2
    simp! only [N_law_ground_deed, e1, e2, hx, hy]
    refine fun _ => bt_call (tk_big (by omega) (by omega)) fun at' a0 a1 => ?_
    have a2 : at' < ws.length := by omega
    obtain ⟨k, f1, f2, f3⟩ := atI_ix (ns := hs) (p := at') a0 (by omega)
    have hg : holdB k = true := hh k (List.mem_of_getElem? f1)
    refine ⟨_, hy, at', rfl, _, f2, tk_call (by decide) fun kd k0 k1 => ⟨kd, rfl, itei (fun h3 => ?_) fun h3 => ?_⟩⟩
    · have am : ∀ (P : PT') (X : PXt), (∀ w h : Int, wordB w = true → userB h = true → PQ (.tup [.str "write", .int at', .int w, .int h]) Ω) → wp_holders [] Ω (fun x Ω1 => wp_among [.drw, x] Ω1 (fun x Ω1 => wp_word1 [.drw, .int f] Ω1 (fun y Ω1 => PQ (.tup [.str "write", .int at', y, x]) Ω1) nox) nox) nox := fun P X h => by
        refine ⟨rfl, am_call rfl (by decide) fun x hx => ?_⟩
        obtain ⟨i, hi, rfl⟩ := List.mem_map.mp hx
        exact wd_call hf fun w hw => h w i hw (holders_user i hi)
      have fin : ∀ w h : Int, wordB w = true → userB h = true → PQ (.tup [.str "write", .int at', .int w, .int h]) Ω := fun w h hw hu => q _ (.write a0 a2 hw hu)
      simp! only [and_true]
      refine itei (fun hk0 => am PQ nox fin) fun hk0 => tk_call (by decide) fun v v0 v1 => ?_
      simp! only [and_true]
      exact itei (fun _ => am PQ nox fin) fun _ => wd_call hf fun w hw => fin w k hw (user_of hg (by simpa using hk0))
    · simp! only [and_true]
      refine itei (fun h4 => wd_call hf fun w hw => q _ (.poke a0 a2 hw)) fun h4 => itei (fun h5 => hd_call fun gv hg => ?_) fun h5 => ?_
      rotate_left
      obtain ⟨gv, rfl⟩ : ∃ gv, gv = k := ⟨k, rfl⟩
      rotate_left
      all_goals
        have fin : ∀ z : Int, 1 ≤ z → z ≤ 12 → at' + z ≤ ws.length → wp_hold1 [.drw] Ω (fun x Ω1 => lstNew [.int 0, .int 0, .int gv, .int 1, .int 2, x] Ω1 fun x Ω1 => wp_among [.drw, x] Ω1 (fun x Ω1 => PQ (.tup [.str "pass_on", .int at', .int z, .int gv, x]) Ω1) nox) nox := fun z z0 z1 z2 => hd_call fun g2 hg2 => lst_in (am_call rfl (by simp) fun x hx => by
          simp only [List.mem_cons, List.not_mem_nil, or_false] at hx
          rcases hx with rfl | rfl | rfl | rfl | rfl | rfl
          · exact q _ (.pass a0 z0 z1 z2 hg (by decide))
          · exact q _ (.pass a0 z0 z1 z2 hg (by decide))
          · exact q _ (.pass a0 z0 z1 z2 hg hg)
          · exact q _ (.pass a0 z0 z1 z2 hg (by decide))
          · exact q _ (.pass a0 z0 z1 z2 hg (by decide))
          · exact q _ (.pass a0 z0 z1 z2 hg hg2))
        refine ⟨_, e1, fun _ => bt_call (tk_big (by omega) (by omega)) fun z z0 z1 => ?_⟩
        simp! only [and_true]
        refine itei (fun h6 => ?_) fun h6 => fin z z0 (by omega) (by omega)
        refine ⟨fun m ρ' Ω' => Ω' = Ω ∧ ∃ z : Int, (1 ≤ z ∧ z ≤ 12 ∧ at' + z ≤ ws.length ∧ m = (12 - z).toNat) ∧ ρ' = [some .drw, some x, some y, some (.int f), some (.int at'), some (.int gv), some (.int kd), some (.int z)], ⟨_, rfl, 1, ⟨by omega, by omega, by omega, rfl⟩, rfl⟩, ?_⟩
        rintro m ρ' Ω' ⟨rfl, z, ⟨b0, b1, b2, rfl⟩, rfl⟩
        have fin' := fin z b0 b1 b2
        simp! only [e1, hy]
        refine itei (fun c1 _ => itei (fun c2 => ?_) fun c2 => fin') fun c1 => fin'
        obtain ⟨k2, g1, g2, g3⟩ := atI_ix (ns := hs) (p := at' + z) (by omega) (by omega)
        exact ⟨_, g2, rfl, rfl, itei (fun c3 => tk_call (by decide) fun v v0 v1 => ⟨v, rfl, itei (fun c4 => ⟨(12 - (z + 1)).toNat, by omega, rfl, z + 1, by omega, by omega, by omega, rfl, rfl⟩) fun c4 => fin'⟩) fun c3 => fin'⟩
/-! ### what is due of a deed -/
/-- the answer that is due: none, or a refusal -/
inductive DueT (ws hs : List Int) (f : Int) : Tr → Tr → Prop
  | okW {p w h : Int} : hs[p.toNat]? = some h → DueT ws hs f (.tup [.str "write", .int p, .int w, .int h]) .non
  | noW {p w h k : Int} : hs[p.toNat]? = some k → k ≠ h → DueT ws hs f (.tup [.str "write", .int p, .int w, .int h]) (.tup [.str "NotHeld", .tup [.int p, .int k]])
  | okP {p w : Int} : DueT ws hs f (.tup [.str "poke", .int p, .int w]) .non
  | okG {s z gv tk : Int} : (gv = 0 → FillsA ws hs f s (s + z)) → isHeld hs gv s (s + z) → DueT ws hs f (.tup [.str "pass_on", .int s, .int z, .int gv, .int tk]) .non
  | brG {s z tk p k : Int} : s ≤ p → p < s + z → FillsA ws hs f s p → hs[p.toNat]? = some 0 → ws[p.toNat]? = some k → k ≠ f → DueT ws hs f (.tup [.str "pass_on", .int s, .int z, .int 0, .int tk]) (.tup [.str "Broken", .tup [.int p, .int k, .int f]])
  | noG {s z gv tk p k : Int} : (gv = 0 → FillsA ws hs f s (s + z)) → s ≤ p → p < s + z → isHeld hs gv s p → hs[p.toNat]? = some k → k ≠ gv → DueT ws hs f (.tup [.str "pass_on", .int s, .int z, .int gv, .int tk]) (.tup [.str "NotHeld", .tup [.int p, .int k]])
noncomputable def wl_due : Pw := fun ts Ω PQ _ => ∃ (x y : Tr) (ws hs : List Int) (f : Int) (d : Tr), ts = [x, y, .int f, d] ∧ asS x Ω = some (ws.map Tr.int) ∧ asS y Ω = some (hs.map Tr.int) ∧ hs.length = ws.length ∧ ws.length ≤ 100000 ∧ DeedT ws.length d ∧ ∀ t, DueT ws hs f d t → PQ t Ω
theorem ok_law_deed_due (T : Tx K mg) : FnOk P w K mg base CX0 1 (He.ga K "_law_deed_due") T.fd_law_deed_due P_law_deed_due (spD K wl_due 4) := by
  refine dok T.F_law_deed_due sc_law_deed_due fun cdv A outer s H E hr => ?_
  refine' dokMk (PSs.nox (pss_cons (ps_set (i := 4) sc_law_deed_due.nd rfl (Or.inl rfl) (pe_ix (show IxR _ (LL.rIxA K) from LL.ix_A) (pv 3) (pe_int) (fun _ _ => rfl))) (pss_cons (ps_if (PW.pt (pw_and (pt_cmpR op_eq (pe_ix (show IxR _ (LL.rIxA K) from LL.ix_A) (pv 3) (pe_int) (fun _ _ => rfl)) (pe_str) (nomark _)) (pw_and1 (pt_cmpR op_ne (pe_ix (show IxR _ (LL.rIxA K) from LL.ix_A) (pv 1) (pv 4) (fun _ _ => rfl)) (pe_ix (show IxR _ (LL.rIxA K) from LL.ix_A) (pv 3) (pe_int) (fun _ _ => rfl)) (nomark _))))) (pss_one (ps_ret (pe_tup (pa_cons (pe_str) (pa_cons (pe_tup (pa_cons (pv 4) (pa_cons (pe_ix (show IxR _ (LL.rIxA K) from LL.ix_A) (pv 1) (pv 4) (fun _ _ => rfl)) pa_nil))) pa_nil))))) pss_nil) (pss_cons (ps_if (pt_cmpR op_ne (pe_ix (show IxR _ (LL.rIxA K) from LL.ix_A) (pv 3) (pe_int) (fun _ _ => rfl)) (pe_str) (nomark _)) (pss_one (ps_ret (pe_non))) pss_nil) (pss_cons (ps_if (pt_cmpR op_eq (pe_ix (show IxR _ (LL.rIxA K) from LL.ix_A) (pv 3) (pe_int) (fun _ _ => rfl)) (pe_int) (nomark _)) (pss_one (ps_for PassesOwn.never rfl (pi_range2 rfl T.z_range (pa_cons (pv 4) (pa_cons (pe_op (show OpR _ _ (LT.rAddG K) from LT.op_addG) (pv 4) (pe_ix (show IxR _ (LL.rIxA K) from LL.ix_A) (pv 3) (pe_int) (fun _ _ => rfl))) pa_nil))) (pg_name (i := 5) sc_law_deed_due.nd rfl (Or.inl rfl)) (pss_one (ps_if (PW.pt (pw_and (pt_cmpR op_eq (pe_ix (show IxR _ (LL.rIxA K) from LL.ix_A) (pv 1) (pv 5) (fun _ _ => rfl)) (pe_int) (nomark _)) (pw_and1 (pt_cmpR op_ne (pe_ix (show IxR _ (LL.rIxA K) from LL.ix_A) (pv 0) (pv 5) (fun _ _ => rfl)) (pv 2) (nomark _))))) (pss_one (ps_ret (pe_tup (pa_cons (pe_str) (pa_cons (pe_tup (pa_cons (pv 5) (pa_cons (pe_ix (show IxR _ (LL.rIxA K) from LL.ix_A) (pv 0) (pv 5) (fun _ _ => rfl)) (pa_cons (pv 2) pa_nil)))) pa_nil))))) pss_nil)))) pss_nil) (pss_cons (ps_for PassesOwn.never rfl (pi_range2 rfl T.z_range (pa_cons (pv 4) (pa_cons (pe_op (show OpR _ _ (LT.rAddG K) from LT.op_addG) (pv 4) (pe_ix (show IxR _ (LL.rIxA K) from LL.ix_A) (pv 3) (pe_int) (fun _ _ => rfl))) pa_nil))) (pg_name (i := 5) sc_law_deed_due.nd rfl (Or.inl rfl)) (pss_one (ps_if (pt_cmpR op_ne (pe_ix (show IxR _ (LL.rIxA K) from LL.ix_A) (pv 1) (pv 5) (fun _ _ => rfl)) (pe_ix (show IxR _ (LL.rIxA K) from LL.ix_A) (pv 3) (pe_int) (fun _ _ => rfl)) (nomark _)) (pss_one (ps_ret (pe_tup (pa_cons (pe_str) (pa_cons (pe_tup (pa_cons (pv 5) (pa_cons (pe_ix (show IxR _ (LL.rIxA K) from LL.ix_A) (pv 1) (pv 5) (fun _ _ => rfl)) pa_nil))) pa_nil))))) pss_nil))) (pss_one (ps_ret (pe_non))))))))) ?sim ?go
  case sim =>
    try simp only [LL.cxK0, LL.cxK1, List.map_cons, List.map_nil]
    repeat' (first | with_reducible apply sim_gLst | with_reducible apply sim_tryR0 | with_reducible apply sim_tryR | with_reducible apply SimRow.cons | with_reducible exact SimRow.nil | with_reducible apply sim_mthS (dts := []) .nil | with_reducible apply sim_makeK (gT := fun ts us => ts ++ us) (fun _ _ _ _ _ _ _ h1 h2 => vdl_app h2 h1) | with_reducible apply sim_fld T.c_Ground T.n_Ground_pages | with_reducible apply sim_fld T.c_Ground T.n_Ground_width | with_reducible apply sim_fld T.c_Ground T.n_Ground_fill | with_reducible apply sim_fld T.c_Ground T.n_Ground__budget | with_reducible apply sim_fld T.c_Ground T.n_Ground__spent | with_reducible apply sim_fld T.c_Ground T.n_Ground__words | with_reducible apply sim_fld T.c_Ground T.n_Ground__holders | with_reducible apply sim_fld T.c_Ground T.n_Ground__deeds | with_reducible apply sim_setF T.c_Ground T.n_Ground_pages | with_reducible apply sim_setF T.c_Ground T.n_Ground_width | with_reducible apply sim_setF T.c_Ground T.n_Ground_fill | with_reducible apply sim_setF T.c_Ground T.n_Ground__budget | with_reducible apply sim_setF T.c_Ground T.n_Ground__spent | with_reducible apply sim_setF T.c_Ground T.n_Ground__words | with_reducible apply sim_setF T.c_Ground T.n_Ground__holders | with_reducible apply sim_setF T.c_Ground T.n_Ground__deeds | with_reducible apply sim_forI | with_reducible apply sim_pop | with_reducible apply sim_tru | with_reducible apply sim_prop | with_reducible apply sim_make (dts := []) .nil | with_reducible apply sim_make0 (dts := []) .nil | with_reducible apply sim_meth0 (dts := []) .nil | with_reducible apply sim_meth (dts := []) .nil | fail "s")
  case go =>
    intro ts Ω PQ PX hl h
    obtain ⟨x, y, ws, hs, f, d, rfl, hx, hy, hl, h2, hd, q⟩ := h
    have e1 := len_S hx
    rw [List.length_map] at e1
    cases hd with
    | @write at' w h a0 a1 hw hu =>
      obtain ⟨k, f1, f2, f3⟩ := atI_ix (ns := hs) (p := at') a0 (by omega)
      simp! only [N_law_deed_due, e1, hx, hy, f2]
      refine itei (fun c => q _ (.noW f1 (by simpa using c))) fun c => q _ (.okW (by rw [f1, show k = h by simpa using c]))
    | @poke at' w a0 a1 hw =>
      simp! only [N_law_deed_due, e1, hx, hy]
      exact q _ .okP
    | @pass s z gv tk a0 z0 z1 z2 hg ht =>
      have n1 : ("pass_on" : Str) ≠ "write" := by decide
      have held : (gv = 0 → FillsA ws hs f s (s + z)) → ∀ x5 : Option Tr, dFor (diR2 (dCons (dVar 4) (dCons (dOp dAddG (dVar 4) (dOp (dIx asS) (dVar 3) (dC (.int 2)))) dNil))) (dName 5) (dIfS (dTest (dOp dNe (dOp (dIx asS) (dVar 1) (dVar 5)) (dOp (dIx asS) (dVar 3) (dC (.int 3))))) (dRet (dTup (dCons (dC (.str "NotHeld")) (dCons (dTup (dCons (dVar 5) (dCons (dOp (dIx asS) (dVar 1) (dVar 5)) dNil))) dNil)))) dNext) { nx := dRet (dC .non) { nx := fun ρ Ω' => PQ .non Ω', rt := PQ, ex := fun x => PX }, rt := PQ, ex := fun x => PX } [some x, some y, some (.int f), some (.tup [.str "pass_on", .int s, .int z, .int gv, .int tk]), some (.int s), x5] Ω := fun hF x5 => by
        refine for_R2 (a := s) (b := s + z) (Ω1 := Ω) (fun P p => ?_) (by omega) (fun i ρ' Ω' => Ω' = Ω ∧ isHeld hs gv s (s + i) ∧ ∃ x5, ρ' = [some x, some y, some (.int f), some (.tup [.str "pass_on", .int s, .int z, .int gv, .int tk]), some (.int s), x5]) ⟨rfl, fun p p0 p1 => by omega, _, rfl⟩ ?_ ?_
        · simp! only [and_true]
          exact p
        · rintro i ρ' Ω' hi ⟨rfl, hh, x5, rfl⟩
          obtain ⟨k, f1, f2, f3⟩ := atI_ix (ns := hs) (p := s + i) (by omega) (by omega)
          simp! only [hy, f2]
          refine itei (fun c => q _ (.noG hF (by omega) (by omega) hh f1 (by simpa using c))) fun c p p0 p1 => ?_
          by_cases hp : p < s + i
          · exact hh p p0 hp
          · rw [show p = s + i by omega, f1, show k = gv by simpa using c]
        · rintro ρ' Ω' ⟨rfl, hh, x5, rfl⟩
          simp! only [and_true]
          exact q _ (.okG hF fun p p0 p1 => hh p p0 (by omega))
      simp! only [N_law_deed_due, e1, hx, hy, n1]
      refine itei (fun h0 => ?_) fun h0 => held (fun e => absurd e h0) none
      subst h0
      refine for_R2 (a := s) (b := s + z) (Ω1 := Ω) (fun P p => ?_) (by omega) (fun i ρ' Ω' => Ω' = Ω ∧ FillsA ws hs f s (s + i) ∧ ∃ x5, ρ' = [some x, some y, some (.int f), some (.tup [.str "pass_on", .int s, .int z, .int 0, .int tk]), some (.int s), x5]) ⟨rfl, fun p p0 p1 => by omega, _, rfl⟩ ?_ ?_
      · simp! only [and_true]
        exact p
      · rintro i ρ' Ω' hi ⟨rfl, hh, x5, rfl⟩
        obtain ⟨k, f1, f2, f3⟩ := atI_ix (ns := hs) (p := s + i) (by omega) (by omega)
        obtain ⟨l, g1, g2, g3⟩ := atI_ix (ns := ws) (p := s + i) (by omega) (by omega)
        simp! only [hx, hy, f2, g2]
        refine itei (fun c0 => itei (fun c => q _ (.brG (by omega) (by omega) hh (by rw [f1, c0]) g1 (by simpa using c))) fun c p p0 p1 hz => ?_) fun c0 p p0 p1 hz => ?_
        · by_cases hp : p < s + i
          · exact hh p p0 hp hz
          · rw [show p = s + i by omega, g1, show l = f by simpa using c]
        · by_cases hp : p < s + i
          · exact hh p p0 hp hz
          · rw [show p = s + i by omega, f1] at hz
            exact (c0 (Option.some.inj hz)).elim
      · rintro ρ' Ω' ⟨rfl, hh, x5, rfl⟩
        have h2 := held (fun _ p p0 p1 => hh p p0 (by omega)) x5
        simp! only [and_true]
        exact h2
end
section
open PySem PySem.Spec PyProof.Rows L2 LL LT
variable {P : Program} {w : World} {K : PySem.W.Frag} {mg : Str → Option Value} {base : Heap}

/-! ### a deed that is made -/
noncomputable def madeA (A : Ab) : Tr → Ab
  | .tup [.str _, .int p, .int w, .int _] => { A with ws := A.ws.set p.toNat w }
  | .tup [.str _, .int p, .int w] => { A with ws := A.ws.set p.toNat w }
  | .tup [.str _, .int s, .int z, .int _, .int tk] => pasA A tk s z.toNat
  | _ => A
noncomputable def wl_made : Pw := fun ts Ω PQ _ => ∃ (b h : Addr) (A : Ab) (d : Tr), ts = [.obj b, .obj h, .int A.f, d] ∧ Ω b = some (.lst (A.ws.map Tr.int)) ∧ Ω h = some (.lst (A.hs.map Tr.int)) ∧ b ≠ h ∧ A.hs.length = A.ws.length ∧ A.ws.length ≤ 100000 ∧ DeedT A.ws.length d ∧ PQ .non (put (put Ω b (.lst ((madeA A d).ws.map Tr.int))) h (.lst ((madeA A d).hs.map Tr.int)))
theorem ok_law_deed_made (T : Tx K mg) : FnOk P w K mg base CX0 1 (He.ga K "_law_deed_made") T.fd_law_deed_made P_law_deed_made (spD K wl_made 4) := by
  refine dok T.F_law_deed_made sc_law_deed_made fun cdv A outer s H E hr => ?_
  refine' dokMk (PSs.nox (pss_cons (ps_set (i := 4) sc_law_deed_made.nd rfl (Or.inl rfl) (pe_ix (show IxR _ (LL.rIxA K) from LL.ix_A) (pv 3) (pe_int) (fun _ _ => rfl))) (pss_one (ps_if (pt_cmpR op_ne (pe_ix (show IxR _ (LL.rIxA K) from LL.ix_A) (pv 3) (pe_int) (fun _ _ => rfl)) (pe_str) (nomark _)) (pss_one (ps_asg (pe_ix (show IxR _ (LL.rIxA K) from LL.ix_A) (pv 3) (pe_int) (fun _ _ => rfl)) (pg_sub (pv 0) (pv 4) set_list))) (pss_one (ps_for PassesOwn.never rfl (pi_range2 rfl T.z_range (pa_cons (pv 4) (pa_cons (pe_op (show OpR _ _ (LT.rAddG K) from LT.op_addG) (pv 4) (pe_ix (show IxR _ (LL.rIxA K) from LL.ix_A) (pv 3) (pe_int) (fun _ _ => rfl))) pa_nil))) (pg_name (i := 5) sc_law_deed_made.nd rfl (Or.inl rfl)) (pss_cons (ps_asg (pe_ix (show IxR _ (LL.rIxA K) from LL.ix_A) (pv 3) (pe_int) (fun _ _ => rfl)) (pg_sub (pv 1) (pv 5) set_list)) (pss_one (ps_if (pt_cmpR op_eq (pe_ix (show IxR _ (LL.rIxA K) from LL.ix_A) (pv 3) (pe_int) (fun _ _ => rfl)) (pe_int) (nomark _)) (pss_one (ps_asg (pv 2) (pg_sub (pv 0) (pv 5) set_list))) pss_nil))))))))) ?sim ?go
  case sim =>
    try simp only [LL.cxK0, LL.cxK1, List.map_cons, List.map_nil]
    repeat' (first | with_reducible apply sim_gLst | with_reducible apply sim_tryR0 | with_reducible apply sim_tryR | with_reducible apply SimRow.cons | with_reducible exact SimRow.nil | with_reducible apply sim_mthS (dts := []) .nil | with_reducible apply sim_makeK (gT := fun ts us => ts ++ us) (fun _ _ _ _ _ _ _ h1 h2 => vdl_app h2 h1) | with_reducible apply sim_fld T.c_Ground T.n_Ground_pages | with_reducible apply sim_fld T.c_Ground T.n_Ground_width | with_reducible apply sim_fld T.c_Ground T.n_Ground_fill | with_reducible apply sim_fld T.c_Ground T.n_Ground__budget | with_reducible apply sim_fld T.c_Ground T.n_Ground__spent | with_reducible apply sim_fld T.c_Ground T.n_Ground__words | with_reducible apply sim_fld T.c_Ground T.n_Ground__holders | with_reducible apply sim_fld T.c_Ground T.n_Ground__deeds | with_reducible apply sim_setF T.c_Ground T.n_Ground_pages | with_reducible apply sim_setF T.c_Ground T.n_Ground_width | with_reducible apply sim_setF T.c_Ground T.n_Ground_fill | with_reducible apply sim_setF T.c_Ground T.n_Ground__budget | with_reducible apply sim_setF T.c_Ground T.n_Ground__spent | with_reducible apply sim_setF T.c_Ground T.n_Ground__words | with_reducible apply sim_setF T.c_Ground T.n_Ground__holders | with_reducible apply sim_setF T.c_Ground T.n_Ground__deeds | with_reducible apply sim_forI | with_reducible apply sim_pop | with_reducible apply sim_tru | with_reducible apply sim_prop | with_reducible apply sim_make (dts := []) .nil | with_reducible apply sim_make0 (dts := []) .nil | with_reducible apply sim_meth0 (dts := []) .nil | with_reducible apply sim_meth (dts := []) .nil | fail "s")
  case go =>
    intro ts Ω PQ PX hl h
    obtain ⟨b, h, A, d, rfl, hb, hh, hbh, hl, h2, hd, q⟩ := h
    have n2 : ("poke" : Str) ≠ "pass_on" := by decide
    have n3 : ("write" : Str) ≠ "pass_on" := by decide
    cases hd with
    | @write p w hd' a0 a1 hw hu =>
      obtain ⟨k, f1, f2, f3⟩ := atI_ix (ns := A.ws) (p := p) a0 (by omega)
      simp! only [N_law_deed_made, n3]
      refine ⟨_, hb, _, f3, ?_⟩
      rw [← List.map_set]
      change PQ .non (put (put Ω b (.lst ((A.ws.set p.toNat w).map Tr.int))) h (.lst (A.hs.map Tr.int))) at q
      rw [put_self (a := h) (by rw [put_ne (Ne.symm hbh)]; exact hh)] at q
      exact q
    | @poke p w a0 a1 hw =>
      obtain ⟨k, f1, f2, f3⟩ := atI_ix (ns := A.ws) (p := p) a0 (by omega)
      simp! only [N_law_deed_made, n2]
      refine ⟨_, hb, _, f3, ?_⟩
      rw [← List.map_set]
      change PQ .non (put (put Ω b (.lst ((A.ws.set p.toNat w).map Tr.int))) h (.lst (A.hs.map Tr.int))) at q
      rw [put_self (a := h) (by rw [put_ne (Ne.symm hbh)]; exact hh)] at q
      exact q
    | @pass s z gv tk a0 z0 z1 z2 hg ht =>
      simp! only [N_law_deed_made]
      refine for_R2 (a := s) (b := s + z) (Ω1 := Ω) (fun P p => ?_) (by omega) (fun i ρ' Ω' => Ω' = put (put Ω b (.lst ((wsP A tk s i).map Tr.int))) h (.lst ((setL A.hs tk s i).map Tr.int)) ∧ ∃ x5, ρ' = [some (.obj b), some (.obj h), some (.int A.f), some (.tup [.str "pass_on", .int s, .int z, .int gv, .int tk]), some (.int s), x5]) ⟨?_, _, rfl⟩ ?_ ?_
      · simp! only [and_true]
        exact p
      · have e0 : wsP A tk s 0 = A.ws := by unfold wsP; split <;> rfl
        rw [e0, put_self hb]
        exact (put_self hh).symm
      · rintro i ρ' Ω' hi ⟨rfl, x5, rfl⟩
        simp! only [and_true]
        have lw := wsP_len (A := A) (tk := tk) (s := s) (i := i)
        have lh := setL_len (l := A.hs) (v := tk) (s := s) (i := i)
        obtain ⟨k1, _, _, f3⟩ := atI_ix (ns := setL A.hs tk s i) (p := s + i) (by omega) (by omega)
        obtain ⟨k2, _, _, g3⟩ := atI_ix (ns := wsP A tk s i) (p := s + i) (by omega) (by omega)
        have eh : ((setL A.hs tk s i).map Tr.int).set (s + i).toNat (.int tk) = (setL A.hs tk s (i + 1)).map Tr.int := List.map_set.symm
        refine ⟨_, f3, itei (fun c => ⟨_, by rw [put_ne hbh, put_same], _, g3, ?_⟩) fun c => ?_⟩
        · have ew : ((wsP A tk s i).map Tr.int).set (s + i).toNat (.int A.f) = (wsP A tk s (i + 1)).map Tr.int := by
            rw [← List.map_set]
            unfold wsP
            rw [if_pos c, if_pos c]
            rfl
          rw [eh, ew, put_comm hbh, put_put, put_comm (Ne.symm hbh)]
        · have ew : wsP A tk s i = wsP A tk s (i + 1) := by
            unfold wsP
            rw [if_neg c, if_neg c]
          rw [eh, ew]
      · rintro ρ' Ω' ⟨rfl, x5, rfl⟩
        simp! only [and_true]
        rw [show (s + z - s).toNat = z.toNat by congr 1; omega]
        exact q
end
section
open PySem PySem.Spec PyProof.Rows L2 LL LT
variable {P : Program} {w : World} {K : PySem.W.Frag} {mg : Str → Option Value} {base : Heap}

/-! ### what a ground answers -/
noncomputable def doneT (t : Tr) : Tr := .lst [.str "done", t]
noncomputable def wl_ended (K : PySem.W.Frag) : Pw := fun ts Ω PQ _ => ∃ (a : Addr) (A : Ab) (own : List Addr) (ti : Str), ts = [.obj a, .str ti] ∧ Gd K a A own Ω ∧ A.ss.length ≤ 900 ∧
  ((ti = "begin" ∧ ∀ own' Ω', Gd K a { A with ss := A.ss ++ [(A.ws, A.hs)] } own' Ω' → Nx own Ω own' Ω' → PQ (doneT (.int (A.ss.length + 1))) Ω') ∨
   (ti = "commit" ∧ (A.ss = [] → PQ (refN "Unknown" 2 [.str "deed"]) Ω) ∧ ∀ s0 sw sh, A.ss = s0 ++ [(sw, sh)] → EndOk K a A own Ω s0 sw sh (fun t Ω' => PQ (doneT t) Ω') nox) ∨
   (ti = "cancel" ∧ (A.ss = [] → PQ (refN "Unknown" 2 [.str "deed"]) Ω) ∧ ∀ s0 sw sh, A.ss = s0 ++ [(sw, sh)] → ∀ own' Ω', Gd K a { A with ws := sw, hs := sh, ss := s0 } own' Ω' → Nx own Ω own' Ω' → PQ (doneT .non) Ω'))
noncomputable def wl_done (K : PySem.W.Frag) : Pw := fun ts Ω PQ _ => ∃ (a : Addr) (A : Ab) (own : List Addr) (d t : Tr), ts = [.obj a, d] ∧ Gd K a A own Ω ∧ A.ss.length ≤ 900 ∧ DeedT A.ws.length d ∧ DueT A.ws A.hs A.f d t ∧ (t = .non → Out K a A own Ω (madeA A d) (fun Ω' => PQ (doneT .non) Ω') nox) ∧ (∀ p k, t = .tup [.str "NotHeld", .tup [.int p, .int k]] → PQ (refN "NotHeld" 3 [.int p, .int k]) Ω) ∧ ∀ p k f, t = .tup [.str "Broken", .tup [.int p, .int k, .int f]] → PQ (refN "Broken" 1 [.int p, .int k, .int f]) Ω
theorem Out.mono {K : PySem.W.Frag} {a : Addr} {A A1 : Ab} {own : List Addr} {Ω : Om} {P P' : Om → Prop} {X X' : PXt} (O : Out K a A own Ω A1 P X) (h : ∀ Ω', P Ω' → P' Ω') (hx : ∀ x Ω', X x Ω' → X' x Ω') : Out K a A own Ω A1 P' X' :=
  ⟨fun e o w g n => h _ (O.inn e o w g n), fun e b o w g n => h _ (O.fre e b o w g n), fun b e hb hl o w g n => h _ (O.pay b e hb hl o w g n), fun b e hb hl o w g n => hx _ _ (O.cut b e hb hl o w g n)⟩
theorem ok_law_ended (T : Tx K mg) : FnOk P w K mg base CX0 6 (He.ga K "_law_ended") T.fd_law_ended P_law_ended (spD K (wl_ended K) 2) := by
  refine dok T.F_law_ended sc_law_ended fun cdv A outer s H E hr => ?_
  refine' dokMk (PSs.nox (pss_one (LT.ps_tryT (i := 2) rfl rfl sc_law_ended.nd rfl rfl ⟨rfl, by decide, Or.inl T.g_Unknown⟩ takes0 (fun W pn xe tk _ => (pss_cons (ps_if (pt_cmpR op_eq (pv 1) (pe_str) (nomark _)) (pss_one (ps_ret (pe_lst (pa_cons (pe_str) (pa_cons (pe_meth0 (pv 0) T.c_Ground T.h_Ground_begin (ok_Ground_begin T) (hr.mono (by decide)) (b_Ground_begin T) .nil pass0) pa_nil))))) pss_nil) (pss_cons (ps_if (pt_cmpR op_eq (pv 1) (pe_str) (nomark _)) (pss_one (ps_ret (pe_lst (pa_cons (pe_str) (pa_cons (by exact LT.pe_mthS0 (by exact (pv 0)) T.c_Ground T.h_Ground_commit (ok_Ground_commit T) hr (b_Ground_commit T) .nil (fun σ => passAt tk σ)) pa_nil))))) pss_nil) (pss_one (ps_ret (pe_lst (pa_cons (pe_str) (pa_cons (by exact LT.pe_mthS0 (by exact (pv 0)) T.c_Ground T.h_Ground_cancel (ok_Ground_cancel T) (hr.mono (by decide)) (b_Ground_cancel T) .nil (fun σ => passAt tk σ)) pa_nil)))))))) (fun a oe cls d pn hz hf => (pss_one (ps_ret (pe_lst (pa_cons (pe_str) (pa_cons (pe_xf T.v_Unknown.xf (T.v_Unknown.no "told" (by simp)) hz hf (pv 2)) (pa_cons (pe_tup (pa_cons (pe_xf T.v_Unknown.xf (T.v_Unknown.no "parameter" (by simp)) hz hf (pv 2)) pa_nil)) (pa_cons (pe_callZ (ok_law_kinds_Unknown T) (hr.mono (by decide)) hz hf rfl T.g_law_kinds T.F_law_kinds.kp (b_law_kinds T) (pa_cons (pv 2) pa_nil)) pa_nil))))))))))) ?sim ?go
  case sim =>
    try simp only [LL.cxK0, LL.cxK1, List.map_cons, List.map_nil]
    repeat' (first | with_reducible apply sim_gLst | with_reducible apply sim_tryR0 | with_reducible apply sim_tryR | with_reducible apply SimRow.cons | with_reducible exact SimRow.nil | with_reducible apply sim_mthS (dts := []) .nil | with_reducible apply sim_makeK (gT := fun ts us => ts ++ us) (fun _ _ _ _ _ _ _ h1 h2 => vdl_app h2 h1) | with_reducible apply sim_fld T.c_Ground T.n_Ground_pages | with_reducible apply sim_fld T.c_Ground T.n_Ground_width | with_reducible apply sim_fld T.c_Ground T.n_Ground_fill | with_reducible apply sim_fld T.c_Ground T.n_Ground__budget | with_reducible apply sim_fld T.c_Ground T.n_Ground__spent | with_reducible apply sim_fld T.c_Ground T.n_Ground__words | with_reducible apply sim_fld T.c_Ground T.n_Ground__holders | with_reducible apply sim_fld T.c_Ground T.n_Ground__deeds | with_reducible apply sim_setF T.c_Ground T.n_Ground_pages | with_reducible apply sim_setF T.c_Ground T.n_Ground_width | with_reducible apply sim_setF T.c_Ground T.n_Ground_fill | with_reducible apply sim_setF T.c_Ground T.n_Ground__budget | with_reducible apply sim_setF T.c_Ground T.n_Ground__spent | with_reducible apply sim_setF T.c_Ground T.n_Ground__words | with_reducible apply sim_setF T.c_Ground T.n_Ground__holders | with_reducible apply sim_setF T.c_Ground T.n_Ground__deeds | with_reducible apply sim_forI | with_reducible apply sim_pop | with_reducible apply sim_tru | with_reducible apply sim_prop | with_reducible apply sim_make (dts := []) .nil | with_reducible apply sim_make0 (dts := []) .nil | with_reducible apply sim_meth0 (dts := []) .nil | with_reducible apply sim_meth (dts := []) .nil | fail "s")
  case go =>
    intro ts Ω PQ PX hl h
    obtain ⟨a, A, own, ti, rfl, G, hl, h⟩ := h
    have n1 : ("commit" : Str) ≠ "begin" := by decide
    have n2 : ("cancel" : Str) ≠ "begin" := by decide
    have n3 : ("cancel" : Str) ≠ "commit" := by decide
    rcases h with ⟨rfl, q⟩ | ⟨rfl, q1, q2⟩ | ⟨rfl, q1, q2⟩
    · simp! only [N_law_ended]
      exact ⟨a, G.meth fun _ _ _ _ _ _ _ _ => rfl, G.begin (by omega) fun own' Ω' G' N' => lst_in (q own' Ω' G' N')⟩
    · simp! only [N_law_ended, n1]
      refine ⟨a, G.meth fun _ _ _ _ _ _ _ _ => rfl, G.commit (by omega) (fun e => ⟨T.m_Unknown_Unknown, fun a => ⟨rfl, _, rfl, rfl, _, rfl, rfl, rfl, lst_in (q1 e)⟩⟩) fun s0 sw sh e => ?_⟩
      have O := q2 s0 sw sh e
      exact ⟨fun h o w g n => lst_in (O.inn h o w g n), fun h hb o w g n => lst_in (O.fre h hb o w g n), fun b h hb hle o w g n => lst_in (O.pay b h hb hle o w g n), fun b h hb hlt o w g n => (O.cut b h hb hlt o w g n).elim⟩
    · simp! only [N_law_ended, n2, n3]
      exact ⟨a, G.meth fun _ _ _ _ _ _ _ _ => rfl, G.cancel (fun e => ⟨T.m_Unknown_Unknown, fun a => ⟨rfl, _, rfl, rfl, _, rfl, rfl, rfl, lst_in (q1 e)⟩⟩) fun s0 sw sh e own' Ω' G' N' => lst_in (q2 s0 sw sh e own' Ω' G' N')⟩
theorem ok_law_done (T : Tx K mg) : FnOk P w K mg base CX0 7 (He.ga K "_law_done") T.fd_law_done P_law_done (spD K (wl_done K) 2) := by
  refine dok T.F_law_done sc_law_done fun cdv A outer s H E hr => ?_
  refine' dokMk (PSs.nox (pss_one (LT.ps_tryRow rfl rfl sc_law_done.nd takes0 (fun W pn xe tk _ => (pss_cons (ps_if (pt_cmpR op_eq (pe_ix (show IxR _ (LL.rIxA K) from LL.ix_A) (pv 1) (pe_int) (fun _ _ => rfl)) (pe_str) (nomark _)) (pss_one (ps_ret (pe_lst (pa_cons (pe_str) (pa_cons (by exact LT.pe_mthS (by exact (pv 0)) T.c_Ground T.h_Ground_write (ok_Ground_write T) hr (b_Ground_write T) .nil (fun σ => passAt tk σ) (by exact (pa_cons (pe_ix (show IxR _ (LL.rIxA K) from LL.ix_A) (pv 1) (pe_int) (fun _ _ => rfl)) (pa_cons (pe_ix (show IxR _ (LL.rIxA K) from LL.ix_A) (pv 1) (pe_int) (fun _ _ => rfl)) (pa_cons (pe_ix (show IxR _ (LL.rIxA K) from LL.ix_A) (pv 1) (pe_int) (fun _ _ => rfl)) pa_nil))))) pa_nil))))) pss_nil) (pss_cons (ps_if (pt_cmpR op_eq (pe_ix (show IxR _ (LL.rIxA K) from LL.ix_A) (pv 1) (pe_int) (fun _ _ => rfl)) (pe_str) (nomark _)) (pss_one (ps_ret (pe_lst (pa_cons (pe_str) (pa_cons (by exact LT.pe_mthS (by exact (pv 0)) T.c_Ground T.h_Ground_poke (ok_Ground_poke T) hr (b_Ground_poke T) .nil (fun σ => passAt tk σ) (by exact (pa_cons (pe_ix (show IxR _ (LL.rIxA K) from LL.ix_A) (pv 1) (pe_int) (fun _ _ => rfl)) (pa_cons (pe_ix (show IxR _ (LL.rIxA K) from LL.ix_A) (pv 1) (pe_int) (fun _ _ => rfl)) pa_nil)))) pa_nil))))) pss_nil) (pss_one (ps_ret (pe_lst (pa_cons (pe_str) (pa_cons (by exact LT.pe_mthS (by exact (pv 0)) T.c_Ground T.h_Ground_pass_on (ok_Ground_pass_on T) hr (b_Ground_pass_on T) .nil (fun σ => passAt tk σ) (by exact (pa_cons (pe_ix (show IxR _ (LL.rIxA K) from LL.ix_A) (pv 1) (pe_int) (fun _ _ => rfl)) (pa_cons (pe_ix (show IxR _ (LL.rIxA K) from LL.ix_A) (pv 1) (pe_int) (fun _ _ => rfl)) (pa_cons (pe_ix (show IxR _ (LL.rIxA K) from LL.ix_A) (pv 1) (pe_int) (fun _ _ => rfl)) (pa_cons (pe_ix (show IxR _ (LL.rIxA K) from LL.ix_A) (pv 1) (pe_int) (fun _ _ => rfl)) pa_nil)))))) pa_nil)))))))) (LT.row_cons (i := 2) rfl rfl ⟨rfl, by decide, Or.inl T.g_Broken⟩ (fun a oe cls d pn hz hf => (pss_one (ps_ret (pe_lst (pa_cons (pe_str) (pa_cons (pe_xf T.v_Broken.xf (T.v_Broken.no "told" (by simp)) hz hf (pv 2)) (pa_cons (pe_tup (pa_cons (pe_xf T.v_Broken.xf (T.v_Broken.no "place" (by simp)) hz hf (pv 2)) (pa_cons (pe_xf T.v_Broken.xf (T.v_Broken.no "found" (by simp)) hz hf (pv 2)) (pa_cons (pe_xf T.v_Broken.xf (T.v_Broken.no "due" (by simp)) hz hf (pv 2)) pa_nil)))) (pa_cons (pe_callZ (ok_law_kinds_Broken T) (hr.mono (by decide)) hz hf rfl T.g_law_kinds T.F_law_kinds.kp (b_law_kinds T) (pa_cons (pv 2) pa_nil)) pa_nil)))))))) (LT.row_cons (i := 2) rfl rfl ⟨rfl, by decide, Or.inl T.g_NotHeld⟩ (fun a oe cls d pn hz hf => (pss_one (ps_ret (pe_lst (pa_cons (pe_str) (pa_cons (pe_xf T.v_NotHeld.xf (T.v_NotHeld.no "told" (by simp)) hz hf (pv 2)) (pa_cons (pe_tup (pa_cons (pe_xf T.v_NotHeld.xf (T.v_NotHeld.no "place" (by simp)) hz hf (pv 2)) (pa_cons (pe_xf T.v_NotHeld.xf (T.v_NotHeld.no "found" (by simp)) hz hf (pv 2)) pa_nil))) (pa_cons (pe_callZ (ok_law_kinds_NotHeld T) (hr.mono (by decide)) hz hf rfl T.g_law_kinds T.F_law_kinds.kp (b_law_kinds T) (pa_cons (pv 2) pa_nil)) pa_nil)))))))) .nil))))) ?sim ?go
  case sim =>
    try simp only [LL.cxK0, LL.cxK1, List.map_cons, List.map_nil]
    repeat' (first | with_reducible apply sim_gLst | with_reducible apply sim_tryR0 | with_reducible apply sim_tryR | with_reducible apply SimRow.cons | with_reducible exact SimRow.nil | with_reducible apply sim_mthS (dts := []) .nil | with_reducible apply sim_makeK (gT := fun ts us => ts ++ us) (fun _ _ _ _ _ _ _ h1 h2 => vdl_app h2 h1) | with_reducible apply sim_fld T.c_Ground T.n_Ground_pages | with_reducible apply sim_fld T.c_Ground T.n_Ground_width | with_reducible apply sim_fld T.c_Ground T.n_Ground_fill | with_reducible apply sim_fld T.c_Ground T.n_Ground__budget | with_reducible apply sim_fld T.c_Ground T.n_Ground__spent | with_reducible apply sim_fld T.c_Ground T.n_Ground__words | with_reducible apply sim_fld T.c_Ground T.n_Ground__holders | with_reducible apply sim_fld T.c_Ground T.n_Ground__deeds | with_reducible apply sim_setF T.c_Ground T.n_Ground_pages | with_reducible apply sim_setF T.c_Ground T.n_Ground_width | with_reducible apply sim_setF T.c_Ground T.n_Ground_fill | with_reducible apply sim_setF T.c_Ground T.n_Ground__budget | with_reducible apply sim_setF T.c_Ground T.n_Ground__spent | with_reducible apply sim_setF T.c_Ground T.n_Ground__words | with_reducible apply sim_setF T.c_Ground T.n_Ground__holders | with_reducible apply sim_setF T.c_Ground T.n_Ground__deeds | with_reducible apply sim_forI | with_reducible apply sim_pop | with_reducible apply sim_tru | with_reducible apply sim_prop | with_reducible apply sim_make (dts := []) .nil | with_reducible apply sim_make0 (dts := []) .nil | with_reducible apply sim_meth0 (dts := []) .nil | with_reducible apply sim_meth (dts := []) .nil | fail "s")
  case go =>
    intro ts Ω PQ PX hl h
    obtain ⟨a, A, own, d, t, rfl, G, hss, hd, ht, q1, q2, q3⟩ := h
    have n1 : ("poke" : Str) ≠ "write" := by decide
    have n2 : ("pass_on" : Str) ≠ "write" := by decide
    have n3 : ("pass_on" : Str) ≠ "poke" := by decide
    cases hd with
    | @write p w hd' a0 a1 hw hu =>
      simp! only [N_law_done]
      refine ⟨a, G.meth fun _ _ _ _ _ _ _ _ => rfl, a, A, own, _, _, _, rfl, G, hss, rfl, rfl, rfl, fun z => (z ⟨a0, by omega⟩).elim, fun _ z => (by rw [show wordT (.int w) = true from hw] at z; cases z), fun _ _ z => (by rw [show userT (.int hd') = true from hu] at z; cases z), fun p2 w2 h2 e1 _ _ e2 _ e3 _ => ?_⟩
      cases e1
      cases e2
      cases e3
      cases ht with
      | okW hk => exact ⟨fun k hk2 hne => (hne (by rw [hk] at hk2; exact (Option.some.inj hk2).symm)).elim, fun _ => (q1 rfl).mono (fun _ z => lst_in z) fun _ _ z => z.elim⟩
      | @noW _ _ _ k hk hne => exact ⟨fun k2 hk2 _ => (by
          obtain rfl : k = k2 := by rw [hk] at hk2; exact Option.some.inj hk2
          exact ⟨false, T.m_NotHeld_Broken, fun z => (by cases z), fun _ => ⟨true, T.m_NotHeld_NotHeld, fun _ a => ⟨rfl, _, rfl, rfl, _, rfl, rfl, _, rfl, rfl, rfl, lst_in (q2 _ _ rfl)⟩, fun z => by cases z⟩⟩), fun hk2 => (hne (by rw [hk] at hk2; exact Option.some.inj hk2)).elim⟩
    | @poke p w a0 a1 hw =>
      simp! only [N_law_done, n1]
      refine ⟨a, G.meth fun _ _ _ _ _ _ _ _ => rfl, a, A, own, _, _, rfl, G, hss, rfl, rfl, fun z => (z ⟨a0, by omega⟩).elim, fun _ z => (by rw [show wordT (.int w) = true from hw] at z; cases z), fun p2 w2 e1 _ _ e2 _ => ?_⟩
      cases e1
      cases e2
      cases ht
      exact (q1 rfl).mono (fun _ z => lst_in z) fun _ _ z => z.elim
    | @pass s z gv tk a0 z0 z1 z2 hg htk =>
      simp! only [N_law_done, n2, n3]
      refine ⟨a, G.meth fun _ _ _ _ _ _ _ _ => rfl, a, A, own, _, _, _, _, rfl, G, hss, rfl, rfl, rfl, rfl, fun z => (z ⟨a0, by omega⟩).elim, fun s2 e1 _ _ => ⟨fun y => (y ⟨z0, by cases e1; omega⟩).elim, fun z2 e2 _ _ => ⟨fun z => (by rw [show holdT (.int gv) = true from hg] at z; cases z), fun _ z => (by rw [show holdT (.int tk) = true from htk] at z; cases z), fun gv2 tk2 e3 _ e4 _ => ?_⟩⟩⟩
      cases e1
      cases e2
      cases e3
      cases e4
      cases ht with
      | okG hF hH => exact ⟨fun h0 p k p0 p1 _ h1 h2 hne => (hne (by have := hF h0 p p0 p1 h1; rw [h2] at this; exact Option.some.inj this)).elim, fun _ => ⟨fun p k p0 p1 _ hk hne => (hne (by have := hH p p0 p1; rw [hk] at this; exact Option.some.inj this)).elim, fun _ => (q1 rfl).mono (fun _ z => lst_in z) fun _ _ z => z.elim⟩⟩
      | @brG _ _ _ p k p0 p1 hF h1 h2 hne =>
        have uniq : ∀ (p' k' : Int), s ≤ p' → p' < s + z → FillsA A.ws A.hs A.f s p' → A.hs[p'.toNat]? = some 0 → A.ws[p'.toNat]? = some k' → k' ≠ A.f → p' = p ∧ k' = k := fun p' k' c0 c1 cF c2 c3 c4 => by
          have e : p' = p := by
            rcases Int.lt_trichotomy p' p with h | h | h
            · exact (c4 (by have := hF p' c0 h c2; rw [c3] at this; exact Option.some.inj this)).elim
            · exact h
            · exact (hne (by have := cF p p0 h h1; rw [h2] at this; exact Option.some.inj this)).elim
          subst e
          exact ⟨rfl, by rw [c3] at h2; exact Option.some.inj h2⟩
        refine ⟨fun _ p' k' c0 c1 cF c2 c3 c4 => ?_, fun hF2 => (hne (by have := hF2 rfl p p0 p1 h1; rw [h2] at this; exact Option.some.inj this)).elim⟩
        obtain ⟨rfl, rfl⟩ := uniq p' k' c0 c1 cF c2 c3 c4
        exact ⟨true, T.m_Broken_Broken, fun _ a => ⟨rfl, _, rfl, rfl, _, rfl, rfl, _, rfl, rfl, _, rfl, rfl, rfl, lst_in (q3 _ _ _ rfl)⟩, fun z => by cases z⟩
      | @noG _ _ _ _ p k hF p0 p1 hH h2 hne =>
        refine ⟨fun h0 p' k' c0 c1 _ c2 c3 c4 => (c4 (by have := hF h0 p' c0 c1 c2; rw [c3] at this; exact Option.some.inj this)).elim, fun _ => ⟨fun p' k' c0 c1 cH c2 c3 => ?_, fun cH => (hne (by have := cH p p0 p1; rw [h2] at this; exact Option.some.inj this)).elim⟩⟩
        have e : p' = p := by
          rcases Int.lt_trichotomy p' p with h | h | h
          · exact (c3 (by have := hH p' c0 h; rw [c2] at this; exact Option.some.inj this)).elim
          · exact h
          · exact (hne (by have := cH p p0 h; rw [h2] at this; exact Option.some.inj this)).elim
        subst e
        obtain rfl : k = k' := by rw [h2] at c2; exact Option.some.inj c2
        exact ⟨false, T.m_NotHeld_Broken, fun z => (by cases z), fun _ => ⟨true, T.m_NotHeld_NotHeld, fun _ a => ⟨rfl, _, rfl, rfl, _, rfl, rfl, _, rfl, rfl, rfl, lst_in (q2 _ _ rfl)⟩, fun z => by cases z⟩⟩
end
section
open PySem PySem.Spec PyProof.Rows L2 LL LT
variable {P : Program} {w : World} {K : PySem.W.Frag} {mg : Str → Option Value} {base : Heap}

/-! ### cells apart -/
noncomputable abbrev Hl := List (Addr × Cell)
structure Hs (L : Hl) (Ω : Om) : Prop where
  nd : (L.map (·.1)).Nodup
  at' : ∀ p ∈ L, Ω p.1 = some p.2
section
variable {L L' l1 l2 : Hl} {Ω Ω' : Om} {a : Addr} {c c' : Cell} {o o' : List Addr}
theorem Hs.get (h : Hs (l1 ++ (a, c) :: l2) Ω) : Ω a = some c := h.at' (a, c) (List.mem_append_right _ List.mem_cons_self)
theorem Hs.put (h : Hs (l1 ++ (a, c) :: l2) Ω) : Hs (l1 ++ (a, c') :: l2) (put Ω a c') := by
  have nd := h.nd
  rw [List.map_append, List.map_cons] at nd
  refine ⟨by rw [List.map_append, List.map_cons]; exact nd, fun p hp => ?_⟩
  have nd2 := List.nodup_append.mp nd
  have nd3 := List.nodup_cons.mp nd2.2.1
  rcases List.mem_append.mp hp with hp | hp
  · rw [put_ne (fun z => nd2.2.2 p.1 (List.mem_map.mpr ⟨p, hp, rfl⟩) a List.mem_cons_self z)]
    exact h.at' p (List.mem_append_left _ hp)
  · rcases List.mem_cons.mp hp with rfl | hp
    · exact put_same
    · rw [put_ne (fun (z : p.1 = a) => nd3.1 (by show a ∈ _; rw [← z]; exact List.mem_map.mpr ⟨p, hp, rfl⟩))]
      exact h.at' p (List.mem_append_right _ (List.mem_cons_of_mem _ hp))
theorem Hs.new (h : Hs L Ω) (n : Ω a = none) : Hs ((a, c) :: L) (LT.put Ω a c) := by
  have ne : ∀ p ∈ L, p.1 ≠ a := fun p hp z => by have := h.at' p hp; rw [z, n] at this; cases this
  refine ⟨?_, fun p hp => ?_⟩
  · rw [List.map_cons, List.nodup_cons]
    refine ⟨fun hm => ?_, h.nd⟩
    obtain ⟨p, hp, e⟩ := List.mem_map.mp hm
    exact ne p hp e
  · rcases List.mem_cons.mp hp with rfl | hp
    · exact put_same
    · rw [put_ne (ne p hp)]; exact h.at' p hp
theorem Hs.sub (s : L'.Sublist L) (h : Hs L Ω) : Hs L' Ω := ⟨List.Nodup.sublist (s.map _) h.nd, fun p hp => h.at' p (s.subset hp)⟩
theorem Hs.perm (s : L'.Perm L) (h : Hs L Ω) : Hs L' Ω := ⟨((s.map _).nodup_iff).mpr h.nd, fun p hp => h.at' p (s.mem_iff.mp hp)⟩
theorem Hs.keep (h : Hs L Ω) (k : ∀ p ∈ L, Ω' p.1 = Ω p.1) : Hs L Ω' := ⟨h.nd, fun p hp => by rw [k p hp]; exact h.at' p hp⟩
theorem Hs.frame (h : Hs L Ω) (N : Nx o Ω o' Ω') (d : ∀ p ∈ L, p.1 ∉ o) : Hs L Ω' ∧ ∀ p ∈ L, p.1 ∉ o' :=
  ⟨⟨h.nd, fun p hp => N.2 _ _ (h.at' p hp) (d p hp)⟩, fun p hp hm => (N.1 _ hm).elim (d p hp) fun e => by rw [h.at' p hp] at e; cases e⟩
theorem Nx.put (h : a ∈ o) : Nx o Ω o (LT.put Ω a c) := ⟨fun _ h => .inl h, fun x d e hx => by rw [put_ne fun (z : x = a) => hx (by rw [z]; exact h)]; exact e⟩
theorem Nx.new (h : Ω a = none) : Nx o Ω (a :: o) (LT.put Ω a c) := ⟨fun x hx => (List.mem_cons.mp hx).elim (fun e => .inr (e ▸ h)) .inl, fun x d e hx => by rw [put_ne fun (z : x = a) => by rw [z, h] at e; cases e]; exact e⟩
theorem Nx.out (h : Ω a = none) : Nx o Ω o (LT.put Ω a c) := ⟨fun x hx => .inl hx, fun x d e hx => by rw [put_ne fun (z : x = a) => by rw [z, h] at e; cases e]; exact e⟩
theorem Nx.less {p q : List Addr} (N : Nx o Ω o' Ω') (h1 : ∀ x ∈ o, x ∈ p) (h2 : ∀ x ∈ q, x ∈ o' ∨ x ∈ p) : Nx p Ω q Ω' := ⟨fun x hx => (h2 x hx).elim (fun h => (N.1 x h).imp (h1 x) id) .inl, fun x c e hx => N.2 x c e fun z => hx (h1 x z)⟩
end
theorem Gd.other {K : PySem.W.Frag} {a : Addr} {A : Ab} {own : List Addr} {Ω Ω' : Om} (G : Gd K a A own Ω) (h : ∀ y ∈ own, Ω' y = Ω y) : Gd K a A own Ω' := by
  obtain ⟨dx, b, hh, d, ds, eo, At1, C⟩ := G.ex
  exact ⟨⟨dx, b, hh, d, ds, eo, At1.other fun y hy => h y (by rw [eo]; exact hy), C⟩, G.sz⟩
theorem Gd.some {K : PySem.W.Frag} {a : Addr} {A : Ab} {own : List Addr} {Ω : Om} (G : Gd K a A own Ω) {y : Addr} (h : y ∈ own) : Ω y ≠ none := by
  obtain ⟨dx, b, hh, d, ds, eo, At1, C⟩ := G.ex
  exact At1.ne (by rw [← eo]; exact h)
theorem Gd.put {K : PySem.W.Frag} {a : Addr} {A : Ab} {own : List Addr} {Ω : Om} {y : Addr} {c : Cell} (G : Gd K a A own Ω) (h : y ∉ own) : Gd K a A own (LT.put Ω y c) := G.other fun z hz => put_ne fun e => h (e ▸ hz)
theorem Gd.puts {K : PySem.W.Frag} {a : Addr} {A : Ab} {own : List Addr} {Ω : Om} {y : Addr} {c : Cell} (G : Gd K a A own Ω) (h : Ω y = none) : Gd K a A own (LT.put Ω y c) := G.put fun z => G.some z h
end
section
open PySem PySem.Spec PyProof.Rows L2 LL LT
variable {P : Program} {w : World} {K : PySem.W.Frag} {mg : Str → Option Value} {base : Heap}

/-! ### a world: a ground, and what is due of it -/
structure Ent where
  e : Addr
  bw : Addr
  bh : Addr
  ws : List Int
  hs : List Int
noncomputable def Ent.sn (x : Ent) : Snap := (x.ws, x.hs)
noncomputable def entL (x : Ent) : Hl := [(x.e, .lst [.obj x.bw, .obj x.bh]), (x.bw, .lst (x.ws.map Tr.int)), (x.bh, .lst (x.hs.map Tr.int))]
noncomputable def entsL (es : List Ent) : Hl := es.flatMap entL
structure Wa where
  v : Addr
  a : Addr
  b : Addr
  h : Addr
  s : Addr
  m : Addr
noncomputable def wdC (x : Wa) (B : Ab) : Cell := .lst [.obj x.a, .obj x.b, .obj x.h, .int B.f, .int B.w, .obj x.s, .obj x.m]
noncomputable def wL (x : Wa) (B : Ab) (es : List Ent) : Hl := (x.v, wdC x B) :: (x.b, .lst (B.ws.map Tr.int)) :: (x.h, .lst (B.hs.map Tr.int)) :: (x.s, .lst (es.map fun e => .obj e.e)) :: (x.m, .lst [B.bud, .int B.sp]) :: entsL es
noncomputable def wA (x : Wa) (es : List Ent) : List Addr := x.v :: x.b :: x.h :: x.s :: x.m :: (entsL es).map (·.1)
theorem wA_mem {x : Wa} {B : Ab} {es : List Ent} {p : Addr × Cell} (h : p ∈ wL x B es) : p.1 ∈ wA x es := (List.mem_map (f := fun p : Addr × Cell => p.1)).mpr ⟨p, h, rfl⟩
theorem wA_cell {x : Wa} {B : Ab} {es : List Ent} {y : Addr} (h : y ∈ wA x es) : ∃ c, (y, c) ∈ wL x B es := by
  obtain ⟨p, hp, e⟩ := (List.mem_map (f := fun p : Addr × Cell => p.1) (l := wL x B es)).mp h
  exact ⟨p.2, by rw [← e]; exact hp⟩
structure W2 (K : PySem.W.Frag) (x : Wa) (A B : Ab) (es : List Ent) (own o : List Addr) (Ω : Om) : Prop where
  g : Gd K x.a A own Ω
  l : Hs (wL x B es) Ω
  ap : ∀ y ∈ wA x es, y ∉ own
  so : ∀ y ∈ own, y ∈ o
  sl : ∀ y ∈ wA x es, y ∈ o
section
variable {K : PySem.W.Frag} {x : Wa} {A B : Ab} {es : List Ent} {own o own' : List Addr} {Ω Ω' : Om}
theorem W2.v (W : W2 K x A B es own o Ω) : Ω x.v = some (wdC x B) := Hs.get (l1 := []) W.l
theorem W2.b (W : W2 K x A B es own o Ω) : Ω x.b = some (.lst (B.ws.map Tr.int)) := Hs.get (l1 := [_]) W.l
theorem W2.h (W : W2 K x A B es own o Ω) : Ω x.h = some (.lst (B.hs.map Tr.int)) := Hs.get (l1 := [_, _]) W.l
theorem W2.s (W : W2 K x A B es own o Ω) : Ω x.s = some (.lst (es.map fun e => .obj e.e)) := Hs.get (l1 := [_, _, _]) W.l
theorem W2.m (W : W2 K x A B es own o Ω) : Ω x.m = some (.lst [B.bud, .int B.sp]) := Hs.get (l1 := [_, _, _, _]) W.l
theorem W2.bh (W : W2 K x A B es own o Ω) : x.b ≠ x.h := fun z => by
  have := W.l.nd
  simp only [wL, List.map_cons, List.nodup_cons, List.mem_cons, not_or] at this
  exact this.2.1.1 z
theorem W2.some (W : W2 K x A B es own o Ω) {y : Addr} (h : y ∈ wA x es) : Ω y ≠ none := by
  obtain ⟨c, hc⟩ := wA_cell (B := B) h
  have := W.l.at' _ hc
  intro z
  rw [z] at this
  cases this
/-- the ground alone changes -/
theorem W2.ground {A' : Ab} (W : W2 K x A B es own o Ω) (G : Gd K x.a A' own' Ω') (N : Nx own Ω own' Ω') : W2 K x A' B es own' (o ++ own') Ω' ∧ Nx o Ω (o ++ own') Ω' := by
  obtain ⟨l, _⟩ := W.l.frame N fun p hp => W.ap _ (wA_mem hp)
  refine ⟨⟨G, l, fun y hy hm => ?_, fun y hy => List.mem_append_right _ hy, fun p hp => List.mem_append_left _ (W.sl p hp)⟩, N.less W.so fun z hz => (List.mem_append.mp hz).elim .inr .inl⟩
  exact (N.1 y hm).elim (W.ap y hy) (W.some hy)
/-- a new list beside it -/
theorem W2.out {y : Addr} {c : Cell} (W : W2 K x A B es own o Ω) (h : Ω y = none) : W2 K x A B es own o (put Ω y c) := ⟨W.g.puts h, W.l.keep fun p hp => put_ne fun (z : p.1 = y) => (by have := W.l.at' p hp; rw [z, h] at this; cases this), W.ap, W.so, W.sl⟩
theorem W2.setWH (W : W2 K x A B es own o Ω) (ws hs : List Int) : W2 K x A { B with ws := ws, hs := hs } es own o (put (put Ω x.b (.lst (ws.map Tr.int))) x.h (.lst (hs.map Tr.int))) ∧ Nx o Ω o (put (put Ω x.b (.lst (ws.map Tr.int))) x.h (.lst (hs.map Tr.int))) := by
  have mb : x.b ∈ wA x es := by simp [wA]
  have mh : x.h ∈ wA x es := by simp [wA]
  have L1 : Hs (wL x { B with ws := ws } es) (put Ω x.b (.lst (ws.map Tr.int))) := Hs.put (l1 := [_]) W.l
  have L2 : Hs (wL x { B with ws := ws, hs := hs } es) (put (put Ω x.b (.lst (ws.map Tr.int))) x.h (.lst (hs.map Tr.int))) := Hs.put (l1 := [_, _]) L1
  exact ⟨⟨(W.g.put (W.ap _ mb)).put (W.ap _ mh), L2, W.ap, W.so, W.sl⟩, (Nx.put (W.sl _ mb)).trans (Nx.put (W.sl _ mh))⟩
theorem W2.setM (W : W2 K x A B es own o Ω) (bud : Tr) (sp : Int) : W2 K x A { B with bud := bud, sp := sp } es own o (put Ω x.m (.lst [bud, .int sp])) ∧ Nx o Ω o (put Ω x.m (.lst [bud, .int sp])) := by
  have mm : x.m ∈ wA x es := by simp [wA]
  have L1 : Hs (wL x { B with bud := bud, sp := sp } es) (put Ω x.m (.lst [bud, .int sp])) := Hs.put (l1 := [_, _, _, _]) W.l
  exact ⟨⟨W.g.put (W.ap _ mm), L1, W.ap, W.so, W.sl⟩, Nx.put (W.sl _ mm)⟩
/-- the stack's list is shortened; what its last entry holds is free -/
theorem entsL_app {es fs : List Ent} : entsL (es ++ fs) = entsL es ++ entsL fs := by unfold entsL; rw [List.flatMap_append]
theorem W2.pop {e : Ent} (W : W2 K x A B (es ++ [e]) own o Ω) : W2 K x A B es own o (put Ω x.s (.lst (es.map fun e => .obj e.e))) ∧ Nx o Ω o (put Ω x.s (.lst (es.map fun e => .obj e.e))) := by
  have ms : x.s ∈ wA x (es ++ [e]) := by simp [wA]
  have sub : ∀ y ∈ wA x es, y ∈ wA x (es ++ [e]) := fun y hy => by
    simp only [wA, entsL_app, List.map_append, List.mem_cons, List.mem_append] at hy ⊢
    rcases hy with h | h | h | h | h | h
    · exact .inl h
    · exact .inr (.inl h)
    · exact .inr (.inr (.inl h))
    · exact .inr (.inr (.inr (.inl h)))
    · exact .inr (.inr (.inr (.inr (.inl h))))
    · exact .inr (.inr (.inr (.inr (.inr (.inl h)))))
  have L1 := Hs.put (l1 := [(x.v, wdC x B), (x.b, .lst (B.ws.map Tr.int)), (x.h, .lst (B.hs.map Tr.int))]) (c' := .lst (es.map fun e => .obj e.e)) W.l
  have L2 : Hs (wL x B es) (put Ω x.s (.lst (es.map fun e => .obj e.e))) := by
    refine Hs.sub ?_ L1
    refine .cons₂ _ (.cons₂ _ (.cons₂ _ (.cons₂ _ (.cons₂ _ ?_))))
    rw [entsL_app]
    exact List.sublist_append_left _ _
  exact ⟨⟨W.g.put (W.ap _ ms), L2, fun y hy => W.ap y (sub y hy), W.so, fun y hy => W.sl y (sub y hy)⟩, Nx.put (W.sl _ ms)⟩
/-- the last entry's lists become the world's own -/
theorem W2.back {e : Ent} (W : W2 K x A B (es ++ [e]) own o Ω) : W2 K { x with b := e.bw, h := e.bh } A { B with ws := e.ws, hs := e.hs } es own o (put (put Ω x.s (.lst (es.map fun e => .obj e.e))) x.v (wdC { x with b := e.bw, h := e.bh } B)) ∧ Nx o Ω o (put (put Ω x.s (.lst (es.map fun e => .obj e.e))) x.v (wdC { x with b := e.bw, h := e.bh } B)) := by
  have ms : x.s ∈ wA x (es ++ [e]) := by simp [wA]
  have mv : x.v ∈ wA x (es ++ [e]) := by simp [wA]
  have sub : ∀ y ∈ wA { x with b := e.bw, h := e.bh } es, y ∈ wA x (es ++ [e]) := fun y hy => by
    simp only [wA, entsL_app, List.map_append, List.mem_cons, List.mem_append] at hy ⊢
    have me : ∀ z ∈ [e.e, e.bw, e.bh], z ∈ (entsL [e]).map (·.1) := fun z hz => hz
    rcases hy with h | h | h | h | h | h
    · exact .inl h
    · exact .inr (.inr (.inr (.inr (.inr (.inr (me _ (by rw [h]; simp)))))))
    · exact .inr (.inr (.inr (.inr (.inr (.inr (me _ (by rw [h]; simp)))))))
    · exact .inr (.inr (.inr (.inl h)))
    · exact .inr (.inr (.inr (.inr (.inl h))))
    · exact .inr (.inr (.inr (.inr (.inr (.inl h)))))
  have L1 := Hs.put (l1 := [(x.v, wdC x B), (x.b, .lst (B.ws.map Tr.int)), (x.h, .lst (B.hs.map Tr.int))]) (c' := .lst (es.map fun e => .obj e.e)) W.l
  have L2 := Hs.put (l1 := []) (c' := wdC { x with b := e.bw, h := e.bh } B) L1
  have L3 : Hs (wL { x with b := e.bw, h := e.bh } { B with ws := e.ws, hs := e.hs } es) (put (put Ω x.s (.lst (es.map fun e => .obj e.e))) x.v (wdC { x with b := e.bw, h := e.bh } B)) := by
    refine Hs.perm (L := (x.v, wdC { x with b := e.bw, h := e.bh } B) :: ((x.s, .lst (es.map fun e => .obj e.e)) :: (x.m, .lst [B.bud, .int B.sp]) :: entsL es ++ [(e.bw, .lst (e.ws.map Tr.int)), (e.bh, .lst (e.hs.map Tr.int))])) (.cons _ ?_) (Hs.sub (.cons₂ _ (.cons _ (.cons _ ?_))) L2)
    · exact List.perm_append_comm (l₁ := [(e.bw, Cell.lst (e.ws.map Tr.int)), (e.bh, .lst (e.hs.map Tr.int))])
    · refine .cons₂ _ (.cons₂ _ ?_)
      rw [entsL_app]
      exact List.Sublist.append_left (.cons _ (List.Sublist.refl _)) _
  exact ⟨⟨(W.g.put (W.ap _ ms)).put (W.ap _ mv), L3, fun y hy => W.ap y (sub y hy), W.so, fun y hy => W.sl y (sub y hy)⟩, (Nx.put (W.sl _ ms)).trans (Nx.put (W.sl _ mv))⟩
/-- a new entry -/
theorem W2.push {y1 y2 y3 : Addr} (W : W2 K x A B es own o Ω) (h1 : Ω y1 = none) (h2 : put Ω y1 (.lst (B.ws.map Tr.int)) y2 = none) (h3 : put (put Ω y1 (.lst (B.ws.map Tr.int))) y2 (.lst (B.hs.map Tr.int)) y3 = none) : W2 K x A B (es ++ [Ent.mk y3 y1 y2 B.ws B.hs]) own (y3 :: y2 :: y1 :: o) (put (put (put (put Ω y1 (.lst (B.ws.map Tr.int))) y2 (.lst (B.hs.map Tr.int))) y3 (.lst [.obj y1, .obj y2])) x.s (.lst ((es ++ [Ent.mk y3 y1 y2 B.ws B.hs]).map fun e => .obj e.e))) ∧ Nx o Ω (y3 :: y2 :: y1 :: o) (put (put (put (put Ω y1 (.lst (B.ws.map Tr.int))) y2 (.lst (B.hs.map Tr.int))) y3 (.lst [.obj y1, .obj y2])) x.s (.lst ((es ++ [Ent.mk y3 y1 y2 B.ws B.hs]).map fun e => .obj e.e))) := by
  have ms : x.s ∈ wA x es := by simp [wA]
  have L1 := ((W.l.new (c := .lst (B.ws.map Tr.int)) h1).new (c := .lst (B.hs.map Tr.int)) h2).new (c := .lst [.obj y1, .obj y2]) h3
  have L2 := Hs.put (l1 := [(y3, .lst [.obj y1, .obj y2]), (y2, .lst (B.hs.map Tr.int)), (y1, .lst (B.ws.map Tr.int)), (x.v, wdC x B), (x.b, .lst (B.ws.map Tr.int)), (x.h, .lst (B.hs.map Tr.int))]) (c' := .lst ((es ++ [Ent.mk y3 y1 y2 B.ws B.hs]).map fun e => .obj e.e)) L1
  have g3 := ((W.g.puts (c := .lst (B.ws.map Tr.int)) h1).puts (c := .lst (B.hs.map Tr.int)) h2).puts (c := .lst [.obj y1, .obj y2]) h3
  have n1 : y1 ∉ own := fun z => W.g.some z h1
  have n2 : y2 ∉ own := fun z => (W.g.puts (c := .lst (B.ws.map Tr.int)) h1).some z h2
  have n3 : y3 ∉ own := fun z => ((W.g.puts (c := .lst (B.ws.map Tr.int)) h1).puts (c := .lst (B.hs.map Tr.int)) h2).some z h3
  have sub : ∀ y ∈ wA x (es ++ [Ent.mk y3 y1 y2 B.ws B.hs]), y ∈ wA x es ∨ y = y1 ∨ y = y2 ∨ y = y3 := fun y hy => by
    simp only [wA, entsL_app, List.map_append, List.mem_cons, List.mem_append] at hy ⊢
    rcases hy with h | h | h | h | h | h | h
    · exact .inl (.inl h)
    · exact .inl (.inr (.inl h))
    · exact .inl (.inr (.inr (.inl h)))
    · exact .inl (.inr (.inr (.inr (.inl h))))
    · exact .inl (.inr (.inr (.inr (.inr (.inl h)))))
    · exact .inl (.inr (.inr (.inr (.inr (.inr h)))))
    · have h' : y ∈ [y3, y1, y2] := h
      simp only [List.mem_cons, List.not_mem_nil, or_false] at h'
      rcases h' with h | h | h
      · exact .inr (.inr (.inr h))
      · exact .inr (.inl h)
      · exact .inr (.inr (.inl h))
  have L3 : Hs (wL x B (es ++ [Ent.mk y3 y1 y2 B.ws B.hs])) (put (put (put (put Ω y1 (.lst (B.ws.map Tr.int))) y2 (.lst (B.hs.map Tr.int))) y3 (.lst [.obj y1, .obj y2])) x.s (.lst ((es ++ [Ent.mk y3 y1 y2 B.ws B.hs]).map fun e => .obj e.e))) := by
    refine Hs.perm ?_ L2
    rw [show wL x B (es ++ [Ent.mk y3 y1 y2 B.ws B.hs]) = (x.v, wdC x B) :: (x.b, .lst (B.ws.map Tr.int)) :: (x.h, .lst (B.hs.map Tr.int)) :: (x.s, .lst ((es ++ [Ent.mk y3 y1 y2 B.ws B.hs]).map fun e => .obj e.e)) :: (x.m, .lst [B.bud, .int B.sp]) :: entsL es ++ [(y3, .lst [.obj y1, .obj y2]), (y1, .lst (B.ws.map Tr.int)), (y2, .lst (B.hs.map Tr.int))] by unfold wL; rw [entsL_app]; rfl]
    refine List.perm_append_comm.trans ?_
    exact .cons _ (.swap _ _ _)
  exact ⟨⟨g3.put (W.ap _ ms), L3, fun y hy => (sub y hy).elim (W.ap y) fun h => (by rcases h with rfl | rfl | rfl <;> assumption), fun y hy => by simp [W.so y hy], fun y hy => (sub y hy).elim (fun h => by simp [W.sl y h]) fun h => (by rcases h with rfl | rfl | rfl <;> simp)⟩, ((Nx.new h1).trans (Nx.new h2)).trans (Nx.new h3) |>.trans (Nx.put (by simp [W.sl _ ms]))⟩
structure EntAt (x : Wa) (e : Ent) (Ω : Om) : Prop where
  c : Ω e.e = Option.some (.lst [.obj e.bw, .obj e.bh])
  w : Ω e.bw = Option.some (.lst (e.ws.map Tr.int))
  h : Ω e.bh = Option.some (.lst (e.hs.map Tr.int))
  es : e.e ≠ x.s
  ev : e.e ≠ x.v
  ws : e.bw ≠ x.s
  hs : e.bh ≠ x.s
  vs : x.v ≠ x.s
theorem W2.ent {e : Ent} (W : W2 K x A B (es ++ [e]) own o Ω) : EntAt x e Ω := by
  have m : ∀ p ∈ entL e, p ∈ wL x B (es ++ [e]) := fun p hp => by
    simp only [wL, entsL_app, List.mem_cons, List.mem_append]
    refine .inr (.inr (.inr (.inr (.inr (.inr ?_)))))
    show p ∈ entsL [e]
    unfold entsL
    simpa using hp
  have nd := W.l.nd
  have me : ∀ z ∈ [e.e, e.bw, e.bh], z ∈ (entsL (es ++ [e])).map (·.1) := fun z hz => by
    rw [entsL_app, List.map_append]
    exact List.mem_append_right _ (show z ∈ (entsL [e]).map (·.1) from hz)
  simp only [wL, List.map_cons, List.nodup_cons, List.mem_cons, not_or] at nd
  refine ⟨W.l.at' _ (m (e.e, .lst [.obj e.bw, .obj e.bh]) (by simp [entL])), W.l.at' _ (m (e.bw, .lst (e.ws.map Tr.int)) (by simp [entL])), W.l.at' _ (m (e.bh, .lst (e.hs.map Tr.int)) (by simp [entL])), fun z => ?_, fun z => ?_, fun z => ?_, fun z => ?_, fun z => nd.1.2.2.1 z⟩
  · exact nd.2.2.2.1.2 (by rw [← z]; exact me _ (by simp))
  · exact nd.1.2.2.2.2 (by rw [← z]; exact me _ (by simp))
  · exact nd.2.2.2.1.2 (by rw [← z]; exact me _ (by simp))
  · exact nd.2.2.2.1.2 (by rw [← z]; exact me _ (by simp))
end
end
section
open PySem PySem.Spec PyProof.Rows L2 LL LT
variable {P : Program} {w : World} {K : PySem.W.Frag} {mg : Str → Option Value} {base : Heap}

/-! ### what a deed costs, what is charged -/
noncomputable def wl_cost : Pw := fun ts Ω PQ _ => ∃ (x : Wa) (B : Ab) (ot p q : Tr) (sw sh : List Int), ts = [.obj x.v, ot] ∧ Ω x.v = some (wdC x B) ∧ Ω x.b = some (.lst (B.ws.map Tr.int)) ∧ Ω x.h = some (.lst (B.hs.map Tr.int)) ∧ asS ot Ω = some [p, q] ∧ asS p Ω = some (sw.map Tr.int) ∧ asS q Ω = some (sh.map Tr.int) ∧ B.hs.length = B.ws.length ∧ sw.length = B.ws.length ∧ sh.length = B.ws.length ∧ B.ws.length ≤ 100000 ∧ PQ (.int (diffC B.ws B.hs sw sh)) Ω
noncomputable def payB (B : Ab) (c : Int) : Ab := { B with sp := B.sp + c, bud := match B.bud with | .int b => .int (b - c) | t => t }
noncomputable def wl_charged : Pw := fun ts Ω PQ _ => ∃ (x : Wa) (B : Ab) (us : List Tr) (c : Int), ts = [.obj x.v, .int c] ∧ Ω x.v = some (wdC x B) ∧ Ω x.s = some (.lst us) ∧ Ω x.m = some (.lst [B.bud, .int B.sp]) ∧ (B.bud = .non ∨ ∃ b : Int, B.bud = .int b) ∧ (us ≠ [] → PQ .non Ω) ∧ (us = [] → PQ .non (put Ω x.m (.lst [(payB B c).bud, .int (payB B c).sp])))
theorem ok_law_cost_since (T : Tx K mg) : FnOk P w K mg base CX0 1 (He.ga K "_law_cost_since") T.fd_law_cost_since P_law_cost_since (spD K wl_cost 2) := by
  refine dok T.F_law_cost_since sc_law_cost_since fun cdv A outer s H E hr => ?_
  refine' dokMk (PSs.nox (pss_one (ps_ret (pe_callB (show CallR _ _ (LT.rLenS K) from LT.call_lenS) (by rfl) T.z_len (by decide +kernel) (pa_cons (pe_lc (own := [("_law_k", 2)]) (by rfl) sc_law_cost_since.nd (pi_range1 rfl T.z_range (pa_cons (pe_callB (show CallR _ _ (LT.rLenS K) from LT.call_lenS) (by rfl) T.z_len (by decide +kernel) (pa_cons (pe_ix (show IxR _ (LL.rIxA K) from LL.ix_A) (pv 0) (pe_int) (fun _ _ => rfl)) pa_nil)) pa_nil)) (blkOk_by (N := N_law_cost_since) (sc := defScope s_law_cost_since) (by decide +kernel)) (fun _ _ _ _ _ => (pg_name (i := 2) sc_law_cost_since.nd rfl (Or.inl rfl))) (fun _ _ _ _ _ => pts_one (pt_cmpR (show OpR _ _ (rNeD K) from op_neD hr.units) (pe_tup (pa_cons (pe_ix (show IxR _ (LL.rIxA K) from LL.ix_A) (pe_ix (show IxR _ (LL.rIxA K) from LL.ix_A) (pv 0) (pe_int) (fun _ _ => rfl)) (pv 2) (fun _ _ => rfl)) (pa_cons (pe_ix (show IxR _ (LL.rIxA K) from LL.ix_A) (pe_ix (show IxR _ (LL.rIxA K) from LL.ix_A) (pv 0) (pe_int) (fun _ _ => rfl)) (pv 2) (fun _ _ => rfl)) pa_nil))) (pe_tup (pa_cons (pe_ix (show IxR _ (LL.rIxA K) from LL.ix_A) (pe_ix (show IxR _ (LL.rIxA K) from LL.ix_A) (pv 1) (pe_int) (fun _ _ => rfl)) (pv 2) (fun _ _ => rfl)) (pa_cons (pe_ix (show IxR _ (LL.rIxA K) from LL.ix_A) (pe_ix (show IxR _ (LL.rIxA K) from LL.ix_A) (pv 1) (pe_int) (fun _ _ => rfl)) (pv 2) (fun _ _ => rfl)) pa_nil))) (nomark _))) (fun _ _ _ _ _ => (pv 2))) pa_nil))))) ?sim ?go
  case sim =>
    try simp only [LL.cxK0, LL.cxK1, List.map_cons, List.map_nil]
    repeat' (first | with_reducible apply sim_gLst | with_reducible apply sim_tryR0 | with_reducible apply sim_tryR | with_reducible apply SimRow.cons | with_reducible exact SimRow.nil | with_reducible apply sim_mthS (dts := []) .nil | with_reducible apply sim_makeK (gT := fun ts us => ts ++ us) (fun _ _ _ _ _ _ _ h1 h2 => vdl_app h2 h1) | with_reducible apply sim_fld T.c_Ground T.n_Ground_pages | with_reducible apply sim_fld T.c_Ground T.n_Ground_width | with_reducible apply sim_fld T.c_Ground T.n_Ground_fill | with_reducible apply sim_fld T.c_Ground T.n_Ground__budget | with_reducible apply sim_fld T.c_Ground T.n_Ground__spent | with_reducible apply sim_fld T.c_Ground T.n_Ground__words | with_reducible apply sim_fld T.c_Ground T.n_Ground__holders | with_reducible apply sim_fld T.c_Ground T.n_Ground__deeds | with_reducible apply sim_setF T.c_Ground T.n_Ground_pages | with_reducible apply sim_setF T.c_Ground T.n_Ground_width | with_reducible apply sim_setF T.c_Ground T.n_Ground_fill | with_reducible apply sim_setF T.c_Ground T.n_Ground__budget | with_reducible apply sim_setF T.c_Ground T.n_Ground__spent | with_reducible apply sim_setF T.c_Ground T.n_Ground__words | with_reducible apply sim_setF T.c_Ground T.n_Ground__holders | with_reducible apply sim_setF T.c_Ground T.n_Ground__deeds | with_reducible apply sim_forI | with_reducible apply sim_pop | with_reducible apply sim_tru | with_reducible apply sim_prop | with_reducible apply sim_make (dts := []) .nil | with_reducible apply sim_make0 (dts := []) .nil | with_reducible apply sim_meth0 (dts := []) .nil | with_reducible apply sim_meth (dts := []) .nil | fail "s")
  case go =>
    intro ts Ω PQ PX hl h
    obtain ⟨x, B, ot, p, q', sw, sh, rfl, hv, hb, hh, ho, hp, hq, l1, l2, l3, l4, q⟩ := h
    have e0 := asS_obj hv
    have e1 := asS_obj hb
    have e2 := asS_obj hh
    have e3 := lenT_obj hb
    rw [List.length_map] at e3
    unfold wdC at e0
    simp! only [N_law_cost_since, e0, e1, e2, e3, ho, hp, hq]
    refine lc_I (items := rngT 0 B.ws.length) (st := fun _ => True) (fun R r => ?_) trivial (fun t => t) (fun t => difB B.ws B.hs sw sh (intOf t).toNat) (fun t ht Q N q1 q2 => ?_) (fun hz => .inl ?_)
    · simp! only [e0, e3]
      refine fun _ => ⟨by omega, by omega, ?_⟩
      exact r (by rw [rngT_len]; omega)
    · obtain ⟨i, hi, rfl⟩ : ∃ i : Nat, i < B.ws.length ∧ t = .int (i : Int) := by
        obtain ⟨j, hj⟩ := List.mem_iff_getElem?.mp ht
        have h1 := (List.getElem?_eq_some_iff.mp hj).1
        rw [rngT_len] at h1
        rw [rngT_get h1, Int.zero_add] at hj
        exact ⟨j, h1, (Option.some.inj hj).symm⟩
      obtain ⟨a1, f1, f2, _⟩ := atI_ix (ns := B.ws) (p := (i : Int)) (by omega) (by omega)
      obtain ⟨a2, g1, g2, _⟩ := atI_ix (ns := B.hs) (p := (i : Int)) (by omega) (by omega)
      obtain ⟨a3, h1, h2, _⟩ := atI_ix (ns := sw) (p := (i : Int)) (by omega) (by omega)
      obtain ⟨a4, k1, k2, _⟩ := atI_ix (ns := sh) (p := (i : Int)) (by omega) (by omega)
      rw [Int.toNat_natCast] at f1 g1 h1 k1
      have d : difB B.ws B.hs sw sh (intOf (.int (i : Int))).toNat = !(decide (a1 = a3) && decide (a2 = a4)) := by
        show difB B.ws B.hs sw sh ((i : Int)).toNat = _
        rw [Int.toNat_natCast]
        unfold difB
        rw [f1, g1, h1, k1]
        simp only [Option.some.injEq]
      rw [d] at q1 q2
      simp! only [e0, e1, e2, ho, hp, hq, f2, g2, h2, k2]
      refine ⟨ok_pair, ok_pair, ?_⟩
      rw [eq_pair]
      cases hc : (!(decide (a1 = a3) && decide (a2 = a4))) with
      | true => exact q1 hc
      | false => exact q2 hc
    · have e : ((List.filter (fun t => difB B.ws B.hs sw sh (intOf t).toNat) (rngT 0 B.ws.length)).map fun t => t).length = diffC B.ws B.hs sw sh := by
        unfold rngT diffC
        rw [List.length_map, List.filter_map, List.length_map]
        congr 1
        refine List.filter_congr fun i _ => ?_
        show difB B.ws B.hs sw sh ((0 + (i : Int))).toNat = _
        rw [Int.zero_add, Int.toNat_natCast]
      simp! only [and_true]
      rw [e]
      exact fun _ => q
theorem ok_law_charged (T : Tx K mg) : FnOk P w K mg base CX0 1 (He.ga K "_law_charged") T.fd_law_charged P_law_charged (spD K wl_charged 2) := by
  refine dok T.F_law_charged sc_law_charged fun cdv A outer s H E hr => ?_
  refine' dokMk (PSs.nox (pss_cons (ps_set (i := 2) sc_law_charged.nd rfl (Or.inl rfl) (pe_ix (show IxR _ (LL.rIxA K) from LL.ix_A) (pv 0) (pe_int) (fun _ _ => rfl))) (pss_one (ps_if (pt_cmpR op_eq (pe_callB (show CallR _ _ (LT.rLenS K) from LT.call_lenS) (by rfl) T.z_len (by decide +kernel) (pa_cons (pe_ix (show IxR _ (LL.rIxA K) from LL.ix_A) (pv 0) (pe_int) (fun _ _ => rfl)) pa_nil)) (pe_int) (nomark _)) (pss_cons (ps_asg (pe_op (show OpR _ _ (LT.rAddG K) from LT.op_addG) (pe_ix (show IxR _ (LL.rIxA K) from LL.ix_A) (pv 2) (pe_int) (fun _ _ => rfl)) (pv 1)) (pg_sub (pv 2) (pe_int) set_list)) (pss_one (ps_if (pt_cmpR op_notN1 (pe_ix (show IxR _ (LL.rIxA K) from LL.ix_A) (pv 2) (pe_int) (fun _ _ => rfl)) (pe_non) (nomark _)) (pss_one (ps_asg (pe_op op_sub (pe_ix (show IxR _ (LL.rIxA K) from LL.ix_A) (pv 2) (pe_int) (fun _ _ => rfl)) (pv 1)) (pg_sub (pv 2) (pe_int) set_list))) pss_nil))) pss_nil)))) ?sim ?go
  case sim =>
    try simp only [LL.cxK0, LL.cxK1, List.map_cons, List.map_nil]
    repeat' (first | with_reducible apply sim_gLst | with_reducible apply sim_tryR0 | with_reducible apply sim_tryR | with_reducible apply SimRow.cons | with_reducible exact SimRow.nil | with_reducible apply sim_mthS (dts := []) .nil | with_reducible apply sim_makeK (gT := fun ts us => ts ++ us) (fun _ _ _ _ _ _ _ h1 h2 => vdl_app h2 h1) | with_reducible apply sim_fld T.c_Ground T.n_Ground_pages | with_reducible apply sim_fld T.c_Ground T.n_Ground_width | with_reducible apply sim_fld T.c_Ground T.n_Ground_fill | with_reducible apply sim_fld T.c_Ground T.n_Ground__budget | with_reducible apply sim_fld T.c_Ground T.n_Ground__spent | with_reducible apply sim_fld T.c_Ground T.n_Ground__words | with_reducible apply sim_fld T.c_Ground T.n_Ground__holders | with_reducible apply sim_fld T.c_Ground T.n_Ground__deeds | with_reducible apply sim_setF T.c_Ground T.n_Ground_pages | with_reducible apply sim_setF T.c_Ground T.n_Ground_width | with_reducible apply sim_setF T.c_Ground T.n_Ground_fill | with_reducible apply sim_setF T.c_Ground T.n_Ground__budget | with_reducible apply sim_setF T.c_Ground T.n_Ground__spent | with_reducible apply sim_setF T.c_Ground T.n_Ground__words | with_reducible apply sim_setF T.c_Ground T.n_Ground__holders | with_reducible apply sim_setF T.c_Ground T.n_Ground__deeds | with_reducible apply sim_forI | with_reducible apply sim_pop | with_reducible apply sim_tru | with_reducible apply sim_prop | with_reducible apply sim_make (dts := []) .nil | with_reducible apply sim_make0 (dts := []) .nil | with_reducible apply sim_meth0 (dts := []) .nil | with_reducible apply sim_meth (dts := []) .nil | fail "s")
  case go =>
    intro ts Ω PQ PX hl h
    obtain ⟨x, B, us, c, rfl, hv, hs, hm, hb, q1, q2⟩ := h
    have e0 := asS_obj hv
    have e1 := asL_obj hm
    have e3 := lenT_obj hs
    unfold wdC at e0
    have e4 : asS (.obj x.m) Ω = some [B.bud, .int B.sp] := asS_obj hm
    simp! only [N_law_charged, e0, e1, e3]
    refine fun _ => itei (fun h0 => ?_) fun h0 => q1 (fun z => h0 (by rw [z]; rfl))
    have q := q2 (List.eq_nil_of_length_eq_zero (by omega))
    refine ⟨_, e4, _, rfl, ?_⟩
    simp! only [and_true]
    refine ⟨_, hm, 1, rfl, _, asS_obj put_same, _, rfl, ?_⟩
    rcases hb with hb | ⟨b, hb⟩
    · rw [hb]
      simp! only [and_true]
      rw [show (payB B c).bud = .non by unfold payB; rw [hb]] at q
      exact q
    · rw [hb]
      simp! only [and_true]
      refine ⟨_, asS_obj put_same, _, rfl, b, rfl, 0, rfl, ?_⟩
      rw [show (payB B c).bud = .int (b - c) by unfold payB; rw [hb]] at q
      exact q
/-! ### the world as a whole -/
structure Wd (K : PySem.W.Frag) (v : Addr) (A : Ab) (o : List Addr) (Ω : Om) : Prop where
  ex : ∃ (x : Wa) (es : List Ent) (own : List Addr), x.v = v ∧ A.ss = es.map Ent.sn ∧ W2 K x A A es own o Ω
/-- what holds of A after n steps -/
structure Inv (A : Ab) (n : Nat) : Prop where
  l : A.ws.length ≤ 192
  h : ∀ k ∈ A.hs, holdB k = true
  s : ∀ p ∈ A.ss, p.1.length = A.ws.length ∧ p.2.length = A.ws.length ∧ ∀ k ∈ p.2, holdB k = true
  f : wordB A.f = true
  b : A.bud = .non ∨ ∃ b : Int, A.bud = .int b ∧ 1000000000 - 192 * n ≤ b
  d : A.ss.length ≤ 60
noncomputable def wl_gmade (K : PySem.W.Frag) : Pw := fun ts Ω PQ _ => ts = [.drw] ∧ ∀ (v : Addr) (A : Ab) (o : List Addr) (Ω' : Om), Wd K v A o Ω' → Inv A 0 → A.ss = [] → Nx [] Ω o Ω' → PQ (.obj v) Ω'
theorem ok_law_ground_made (T : Tx K mg) : FnOk P w K mg base CX0 6 (He.ga K "_law_ground_made") T.fd_law_ground_made P_law_ground_made (spD K (wl_gmade K) 1) := by
  refine dok T.F_law_ground_made sc_law_ground_made fun cdv A outer s H E hr => ?_
  refine' dokMk (PSs.nox (pss_cons (ps_set (i := 1) sc_law_ground_made.nd rfl (Or.inl rfl) (pe_call (ok_law_among T) (hr.mono (by decide)) rfl T.g_law_among T.F_law_among.kp (b_law_among T) .nil pass0 (pa_cons (pv 0) (pa_cons (pe_lst (pa_cons (pe_int) (pa_cons (pe_int) (pa_cons (pe_int) (pa_cons (pe_int) pa_nil))))) pa_nil)))) (pss_cons (ps_set (i := 2) sc_law_ground_made.nd rfl (Or.inl rfl) (pe_call (ok_law_between T) (hr.mono (by decide)) rfl T.g_law_between T.F_law_between.kp (b_law_between T) .nil pass0 (pa_cons (pv 0) (pa_cons (pe_int) (pa_cons (pe_int) pa_nil))))) (pss_cons (ps_set (i := 3) sc_law_ground_made.nd rfl (Or.inl rfl) (pe_call (ok_law_blank T) (hr.mono (by decide)) rfl T.g_law_blank T.F_law_blank.kp (b_law_blank T) .nil pass0 (pa_cons (pv 0) pa_nil))) (pss_cons (ps_set (i := 4) sc_law_ground_made.nd rfl (Or.inl rfl) (pe_op op_mul (pv 2) (pv 1))) (pss_cons (ps_set (i := 5) sc_law_ground_made.nd rfl (Or.inl rfl) (pe_call (ok_law_among T) (hr.mono (by decide)) rfl T.g_law_among T.F_law_among.kp (b_law_among T) .nil pass0 (pa_cons (pv 0) (pa_cons (pe_lst (pa_cons (pe_non) (pa_cons (pe_op op_pow (pe_int) (pe_int)) pa_nil))) pa_nil)))) (pss_cons (ps_set (i := 6) sc_law_ground_made.nd rfl (Or.inl rfl) (pe_makeK T.k_Ground (ok_Ground_init T) hr rfl T.g_Ground (bk_Ground_init_fill_budget T) passE0 (pa_cons (pv 2) (pa_cons (pv 1) pa_nil)) (pk_cons (pv 3) (pk_cons (pv 5) pk_nil)))) (pss_one (ps_ret (pe_lst (pa_cons (pv 6) (pa_cons (pe_op op_rep (pe_lst (pa_cons (pv 3) pa_nil)) (pv 4)) (pa_cons (pe_op op_rep (pe_lst (pa_cons (pe_int) pa_nil)) (pv 4)) (pa_cons (pv 3) (pa_cons (pv 1) (pa_cons (pe_lst pa_nil) (pa_cons (pe_lst (pa_cons (pv 5) (pa_cons (pe_int) pa_nil))) pa_nil))))))))))))))))) ?sim ?go
  case sim =>
    try simp only [LL.cxK0, LL.cxK1, List.map_cons, List.map_nil]
    repeat' (first | with_reducible apply sim_gLst | with_reducible apply sim_tryR0 | with_reducible apply sim_tryR | with_reducible apply SimRow.cons | with_reducible exact SimRow.nil | with_reducible apply sim_mthS (dts := []) .nil | with_reducible apply sim_makeK (gT := fun ts us => ts ++ us) (fun _ _ _ _ _ _ _ h1 h2 => vdl_app h2 h1) | with_reducible apply sim_fld T.c_Ground T.n_Ground_pages | with_reducible apply sim_fld T.c_Ground T.n_Ground_width | with_reducible apply sim_fld T.c_Ground T.n_Ground_fill | with_reducible apply sim_fld T.c_Ground T.n_Ground__budget | with_reducible apply sim_fld T.c_Ground T.n_Ground__spent | with_reducible apply sim_fld T.c_Ground T.n_Ground__words | with_reducible apply sim_fld T.c_Ground T.n_Ground__holders | with_reducible apply sim_fld T.c_Ground T.n_Ground__deeds | with_reducible apply sim_setF T.c_Ground T.n_Ground_pages | with_reducible apply sim_setF T.c_Ground T.n_Ground_width | with_reducible apply sim_setF T.c_Ground T.n_Ground_fill | with_reducible apply sim_setF T.c_Ground T.n_Ground__budget | with_reducible apply sim_setF T.c_Ground T.n_Ground__spent | with_reducible apply sim_setF T.c_Ground T.n_Ground__words | with_reducible apply sim_setF T.c_Ground T.n_Ground__holders | with_reducible apply sim_setF T.c_Ground T.n_Ground__deeds | with_reducible apply sim_forI | with_reducible apply sim_pop | with_reducible apply sim_tru | with_reducible apply sim_prop | with_reducible apply sim_make (dts := []) .nil | with_reducible apply sim_make0 (dts := []) .nil | with_reducible apply sim_meth0 (dts := []) .nil | with_reducible apply sim_meth (dts := []) .nil | fail "s")
  case go =>
    intro ts Ω PQ PX hl h
    obtain ⟨rfl, q⟩ := h
    simp! only [N_law_ground_made]
    refine lst_in (am_call rfl (by simp) fun wt hw => bt_call (by decide) fun p p0 p1 => bk_call fun f hf => ?_)
    obtain ⟨w, rfl, hw3⟩ : ∃ w : Int, wt = .int w ∧ (w = 16 ∨ w = 32 ∨ w = 64) := by
      simp only [List.mem_cons, List.not_mem_nil, or_false] at hw
      rcases hw with rfl | rfl | rfl | rfl
      · exact ⟨16, rfl, .inl rfl⟩
      · exact ⟨16, rfl, .inl rfl⟩
      · exact ⟨32, rfl, .inr (.inl rfl)⟩
      · exact ⟨64, rfl, .inr (.inr rfl)⟩
    have p3 : p ≤ 3 := by omega
    have hpw : 16 ≤ p * w ∧ p * w ≤ 192 := by rcases hw3 with rfl | rfl | rfl <;> omega
    have hwB : widthB w = true := by
      unfold widthB
      rcases hw3 with rfl | rfl | rfl <;> decide
    refine ⟨p, rfl, w, rfl, .inl ⟨by omega, by omega⟩, by unfold CPow; decide, lst_in (am_call rfl (by simp) fun bt hb => ?_)⟩
    have hbt : bt = .non ∨ bt = .int 1000000000 := by simpa using hb
    have hbd : dataT bt = true ∧ budT bt = true := by rcases hbt with rfl | rfl <;> exact ⟨rfl, rfl⟩
    refine fun a dx ha => ⟨a, dx, _, _, _, _, rfl, put_same, rfl, rfl, rfl, hbd.1, fun z => (z ⟨p0, by omega⟩).elim, fun _ z => (by rw [show widthT (.int w) = true from hwB] at z; cases z), fun _ _ z => (by rw [show wordT (.int f) = true from hf] at z; cases z), fun _ _ _ z => (by rw [hbd.2] at z; cases z), fun p2 w2 f2 e1 _ _ e2 _ e3 _ _ own Ω1 G N => ⟨rfl, ?_⟩⟩
    cases e1
    cases e2
    cases e3
    refine lst_in ⟨_, rfl, by omega, by omega, by show 1 * (p * w).toNat ≤ 1000000; omega, ?_⟩
    rw [flat_one]
    refine .inr fun y1 h1 => lst_in ⟨_, rfl, by omega, by omega, by show 1 * (p * w).toNat ≤ 1000000; omega, ?_⟩
    rw [flat_one]
    refine .inr fun y2 h2 => .inr fun y3 h3 => .inr fun y4 h4 => .inr fun y5 h5 => ?_
    have nil : Hs [] Ω1 := ⟨List.nodup_nil, fun _ z => (List.not_mem_nil z).elim⟩
    have L1 := nil.new (c := .lst (List.replicate (p * w).toNat (Tr.int f))) h1
    have L2 := L1.new (c := .lst (List.replicate (p * w).toNat (Tr.int 0))) h2
    have L3 := L2.new (c := .lst []) h3
    have L4 := L3.new (c := .lst [bt, .int 0]) h4
    have L5 := L4.new (c := .lst [.obj a, .obj y1, .obj y2, .int f, .int w, .obj y3, .obj y4]) h5
    have G1 := G.puts (c := .lst (List.replicate (p * w).toNat (Tr.int f))) h1
    have G2 := G1.puts (c := .lst (List.replicate (p * w).toNat (Tr.int 0))) h2
    have G3 := G2.puts (c := .lst []) h3
    have G4 := G3.puts (c := .lst [bt, .int 0]) h4
    have G5 := G4.puts (c := .lst [.obj a, .obj y1, .obj y2, .int f, .int w, .obj y3, .obj y4]) h5
    have N5 := (((((Nx.new (o := []) (c := .ins (He.ga K "Ground") dx [] []) ha).trans N).trans (Nx.new (c := .lst (List.replicate (p * w).toNat (Tr.int f))) h1)).trans (Nx.new (c := .lst (List.replicate (p * w).toNat (Tr.int 0))) h2)).trans (Nx.new (c := .lst []) h3)).trans (Nx.new (c := .lst [bt, .int 0]) h4) |>.trans (Nx.new (c := .lst [.obj a, .obj y1, .obj y2, .int f, .int w, .obj y3, .obj y4]) h5)
    refine q y5 (newA p w f bt) _ _ ⟨⟨y5, a, y1, y2, y3, y4⟩, [], own, rfl, rfl, G5, ?_, fun y hy => ?_, fun y hy => ?_, fun y hy => ?_⟩ ⟨?_, fun k hk => ?_, fun p hp => (List.not_mem_nil hp).elim, hf, ?_, Nat.zero_le _⟩ rfl N5
    · have e : wL ⟨y5, a, y1, y2, y3, y4⟩ (newA p w f bt) [] = (y5, .lst [.obj a, .obj y1, .obj y2, .int f, .int w, .obj y3, .obj y4]) :: [(y4, .lst [bt, .int 0]), (y3, .lst []), (y2, .lst (List.replicate (p * w).toNat (Tr.int 0))), (y1, .lst (List.replicate (p * w).toNat (Tr.int f)))].reverse := by
        show _ :: (y1, Cell.lst ((List.replicate (p * w).toNat f).map Tr.int)) :: (y2, Cell.lst ((List.replicate (p * w).toNat 0).map Tr.int)) :: _ = _
        rw [List.map_replicate, List.map_replicate]
        rfl
      rw [e]
      exact Hs.perm (.cons _ (List.reverse_perm _)) L5
    · have hy' : y ∈ [y5, y1, y2, y3, y4] := hy
      simp only [List.mem_cons, List.not_mem_nil, or_false] at hy'
      rcases hy' with rfl | rfl | rfl | rfl | rfl
      · exact fun z => G4.some z h5
      · exact fun z => G.some z h1
      · exact fun z => G1.some z h2
      · exact fun z => G2.some z h3
      · exact fun z => G3.some z h4
    · simp [hy]
    · have hy' : y ∈ [y5, y1, y2, y3, y4] := hy
      simp only [List.mem_cons, List.not_mem_nil, or_false] at hy'
      rcases hy' with rfl | rfl | rfl | rfl | rfl <;> simp
    · show (List.replicate (p * w).toNat f).length ≤ 192
      rw [List.length_replicate]; omega
    · rw [(List.mem_replicate.mp hk).2]; rfl
    · rcases hbt with rfl | rfl
      · exact .inl rfl
      · exact .inr ⟨1000000000, rfl, by omega⟩
end
section
open PySem PySem.Spec PyProof.Rows L2 LL LT
variable {P : Program} {w : World} {K : PySem.W.Frag} {mg : Str → Option Value} {base : Heap}

/-! ### a deed ends, rightly -/
inductive EndR (A : Ab) : Str → Ab → Prop
  | begin : EndR A "begin" { A with ss := A.ss ++ [(A.ws, A.hs)] }
  | none {ti : Str} : ti ≠ "begin" → A.ss = [] → EndR A ti A
  | cancel {s0 : List Snap} {sw sh : List Int} : A.ss = s0 ++ [(sw, sh)] → EndR A "cancel" { A with ws := sw, hs := sh, ss := s0 }
  | inner {s0 : List Snap} {sw sh : List Int} : A.ss = s0 ++ [(sw, sh)] → s0 ≠ [] → EndR A "commit" { A with ss := s0 }
  | outer {sw sh : List Int} : A.ss = [(sw, sh)] → EndR A "commit" (payB { A with ss := [] } (diffC A.ws A.hs sw sh))
noncomputable def wl_endr (K : PySem.W.Frag) : Pw := fun ts Ω PQ _ => ∃ (v : Addr) (A : Ab) (o : List Addr) (ti : Str) (n : Nat), ts = [.obj v, .str ti] ∧ Wd K v A o Ω ∧ Inv A n ∧ n ≤ 10000 ∧ (ti = "begin" ∨ ti = "cancel" ∨ ti = "commit") ∧ ∀ A' o' Ω', EndR A ti A' → Wd K v A' o' Ω' → Nx o Ω o' Ω' → PQ (.bl true) Ω'
theorem ok_law_end_right (T : Tx K mg) : FnOk P w K mg base CX0 10 (He.ga K "_law_end_right") T.fd_law_end_right P_law_end_right (spD K (wl_endr K) 2) := by
  refine dok T.F_law_end_right sc_law_end_right fun cdv A outer s H E hr => ?_
  refine' dokMk (PSs.nox (pss_cons (ps_set (i := 2) sc_law_end_right.nd rfl (Or.inl rfl) (pe_ix (show IxR _ (LL.rIxA K) from LL.ix_A) (pv 0) (pe_int) (fun _ _ => rfl))) (pss_cons (ps_if (pt_cmpR op_eq (pv 1) (pe_str) (nomark _)) (pss_cons (ps_expr (pe_bm PySem.F.plainAttrs_list PySem.F.slot_list_append PySem.F.type_list_append mt_append (pv 2) (pa_cons (pe_lst (pa_cons (pe_callTy (show CallR _ _ (LT.rList K) from LT.call_list rfl) (by rfl) T.z_list (by decide +kernel) (pa_cons (pe_ix (show IxR _ (LL.rIxA K) from LL.ix_A) (pv 0) (pe_int) (fun _ _ => rfl)) pa_nil)) (pa_cons (pe_callTy (show CallR _ _ (LT.rList K) from LT.call_list rfl) (by rfl) T.z_list (by decide +kernel) (pa_cons (pe_ix (show IxR _ (LL.rIxA K) from LL.ix_A) (pv 0) (pe_int) (fun _ _ => rfl)) pa_nil)) pa_nil))) pa_nil))) (pss_one (ps_ret (pe_call (ok_law_same T 8) hr rfl T.g_law_same T.F_law_same.kp (b_law_same T) .nil pass0 (pa_cons (pe_call (ok_law_ended T) (hr.mono (by decide)) rfl T.g_law_ended T.F_law_ended.kp (b_law_ended T) .nil pass0 (pa_cons (pe_ix (show IxR _ (LL.rIxA K) from LL.ix_A) (pv 0) (pe_int) (fun _ _ => rfl)) (pa_cons (pe_str) pa_nil))) (pa_cons (pe_lst (pa_cons (pe_str) (pa_cons (pe_callB (show CallR _ _ (LT.rLenS K) from LT.call_lenS) (by rfl) T.z_len (by decide +kernel) (pa_cons (pv 2) pa_nil)) pa_nil))) pa_nil)))))) pss_nil) (pss_cons (ps_if (pt_cmpR op_eq (pe_callB (show CallR _ _ (LT.rLenS K) from LT.call_lenS) (by rfl) T.z_len (by decide +kernel) (pa_cons (pv 2) pa_nil)) (pe_int) (nomark _)) (pss_one (ps_ret (pe_call (ok_law_same T 8) hr rfl T.g_law_same T.F_law_same.kp (b_law_same T) .nil pass0 (pa_cons (pe_call (ok_law_ended T) (hr.mono (by decide)) rfl T.g_law_ended T.F_law_ended.kp (b_law_ended T) .nil pass0 (pa_cons (pe_ix (show IxR _ (LL.rIxA K) from LL.ix_A) (pv 0) (pe_int) (fun _ _ => rfl)) (pa_cons (pv 1) pa_nil))) (pa_cons (pe_call (ok_law_refused T) (hr.mono (by decide)) rfl T.g_law_refused T.F_law_refused.kp (b_law_refused T) .nil pass0 (pa_cons (pe_str) (pa_cons (pe_tup (pa_cons (pe_str) pa_nil)) pa_nil))) pa_nil))))) pss_nil) (pss_cons (ps_set (i := 3) sc_law_end_right.nd rfl (Or.inl rfl) (pe_bm0 PySem.F.plainAttrs_list PySem.F.slot_list_pop PySem.F.type_list_pop mt_pop (pv 2))) (pss_cons (ps_if (pt_cmpR op_eq (pv 1) (pe_str) (nomark _)) (pss_cons (ps_asg (pe_ix (show IxR _ (LL.rIxA K) from LL.ix_A) (pv 3) (pe_int) (fun _ _ => rfl)) (pg_sub (pv 0) (pe_int) set_list)) (pss_cons (ps_asg (pe_ix (show IxR _ (LL.rIxA K) from LL.ix_A) (pv 3) (pe_int) (fun _ _ => rfl)) (pg_sub (pv 0) (pe_int) set_list)) (pss_one (ps_ret (pe_call (ok_law_same T 8) hr rfl T.g_law_same T.F_law_same.kp (b_law_same T) .nil pass0 (pa_cons (pe_call (ok_law_ended T) (hr.mono (by decide)) rfl T.g_law_ended T.F_law_ended.kp (b_law_ended T) .nil pass0 (pa_cons (pe_ix (show IxR _ (LL.rIxA K) from LL.ix_A) (pv 0) (pe_int) (fun _ _ => rfl)) (pa_cons (pe_str) pa_nil))) (pa_cons (pe_lst (pa_cons (pe_str) (pa_cons (pe_non) pa_nil))) pa_nil))))))) pss_nil) (pss_cons (ps_set (i := 4) sc_law_end_right.nd rfl (Or.inl rfl) (pe_call (ok_law_cost_since T) (hr.mono (by decide)) rfl T.g_law_cost_since T.F_law_cost_since.kp (b_law_cost_since T) .nil pass0 (pa_cons (pv 0) (pa_cons (pv 3) pa_nil)))) (pss_cons (ps_expr (pe_call (ok_law_charged T) (hr.mono (by decide)) rfl T.g_law_charged T.F_law_charged.kp (b_law_charged T) .nil pass0 (pa_cons (pv 0) (pa_cons (pv 4) pa_nil)))) (pss_one (ps_ret (pe_call (ok_law_same T 8) hr rfl T.g_law_same T.F_law_same.kp (b_law_same T) .nil pass0 (pa_cons (pe_call (ok_law_ended T) (hr.mono (by decide)) rfl T.g_law_ended T.F_law_ended.kp (b_law_ended T) .nil pass0 (pa_cons (pe_ix (show IxR _ (LL.rIxA K) from LL.ix_A) (pv 0) (pe_int) (fun _ _ => rfl)) (pa_cons (pe_str) pa_nil))) (pa_cons (pe_lst (pa_cons (pe_str) (pa_cons (pv 4) pa_nil))) pa_nil))))))))))))) ?sim ?go
  case sim =>
    try simp only [LL.cxK0, LL.cxK1, List.map_cons, List.map_nil]
    repeat' (first | with_reducible apply sim_gLst | with_reducible apply sim_tryR0 | with_reducible apply sim_tryR | with_reducible apply SimRow.cons | with_reducible exact SimRow.nil | with_reducible apply sim_mthS (dts := []) .nil | with_reducible apply sim_makeK (gT := fun ts us => ts ++ us) (fun _ _ _ _ _ _ _ h1 h2 => vdl_app h2 h1) | with_reducible apply sim_fld T.c_Ground T.n_Ground_pages | with_reducible apply sim_fld T.c_Ground T.n_Ground_width | with_reducible apply sim_fld T.c_Ground T.n_Ground_fill | with_reducible apply sim_fld T.c_Ground T.n_Ground__budget | with_reducible apply sim_fld T.c_Ground T.n_Ground__spent | with_reducible apply sim_fld T.c_Ground T.n_Ground__words | with_reducible apply sim_fld T.c_Ground T.n_Ground__holders | with_reducible apply sim_fld T.c_Ground T.n_Ground__deeds | with_reducible apply sim_setF T.c_Ground T.n_Ground_pages | with_reducible apply sim_setF T.c_Ground T.n_Ground_width | with_reducible apply sim_setF T.c_Ground T.n_Ground_fill | with_reducible apply sim_setF T.c_Ground T.n_Ground__budget | with_reducible apply sim_setF T.c_Ground T.n_Ground__spent | with_reducible apply sim_setF T.c_Ground T.n_Ground__words | with_reducible apply sim_setF T.c_Ground T.n_Ground__holders | with_reducible apply sim_setF T.c_Ground T.n_Ground__deeds | with_reducible apply sim_forI | with_reducible apply sim_pop | with_reducible apply sim_tru | with_reducible apply sim_prop | with_reducible apply sim_make (dts := []) .nil | with_reducible apply sim_make0 (dts := []) .nil | with_reducible apply sim_meth0 (dts := []) .nil | with_reducible apply sim_meth (dts := []) .nil | fail "s")
  case go =>
    intro ts Ω PQ PX hl h
    obtain ⟨v, A, o, ti, n, rfl, ⟨x, es, own, rfl, ess, W⟩, I, hn, hti, q⟩ := h
    have e0 := asS_obj W.v
    have e5 := lenT_obj W.s
    have e6 := asL_obj W.s
    have hss := I.d
    rw [List.length_map] at e5
    unfold wdC at e0
    have n2 : ("cancel" : Str) ≠ "begin" := by decide
    have n1 : ("commit" : Str) ≠ "begin" := by decide
    have n3 : ("commit" : Str) ≠ "cancel" := by decide
    have hlen : A.ss.length = es.length := by rw [ess, List.length_map]
    have empty : ∀ ti : Str, ti ≠ "begin" → (ti = "cancel" ∨ ti = "commit") → (∀ A' o' Ω', EndR A ti A' → Wd K x.v A' o' Ω' → Nx o Ω o' Ω' → PQ (.bl true) Ω') → es.length = 0 → wl_ended K [.obj x.a, .str ti] Ω (fun y Ω1 => wp_refN [.str "Unknown", .tup [.str "deed"]] Ω1 (fun z Ω1 => wp_same 8 [y, z] Ω1 PQ nox) nox) nox := fun ti hb hti q h0 => by
      have hnil : A.ss = [] := List.eq_nil_of_length_eq_zero (by omega)
      have r : wp_refN [.str "Unknown", .tup [.str "deed"]] Ω (fun z Ω1 => wp_same 8 [refN "Unknown" 2 [.str "deed"], z] Ω1 PQ nox) nox := ⟨"Unknown", 2, [.str "deed"], rfl, rfl, sm_call rfl (show 3 < 8 by decide) (q A o Ω (.none hb hnil) ⟨x, es, own, rfl, ess, W⟩ .refl)⟩
      refine ⟨x.a, A, own, ti, rfl, W.g, by omega, ?_⟩
      rcases hti with rfl | rfl
      · exact .inr (.inr ⟨rfl, fun _ => r, fun s0 sw sh e => (by rw [hnil] at e; simp at e)⟩)
      · exact .inr (.inl ⟨rfl, fun _ => r, fun s0 sw sh e => (by rw [hnil] at e; simp at e)⟩)
    have lasts : es.length ≠ 0 → ∃ es0 e, es = es0 ++ [e] := fun h => snoc_of fun z => h (by rw [z]; rfl)
    rcases hti with rfl | rfl | rfl
    · simp! only [N_law_end_right, e0, e6]
      refine .inl ⟨_, asS_obj W.b, fun _ => .inr fun y1 h1 => ⟨_, asS_obj (W.out h1).v, _, rfl, .inl ⟨_, asS_obj (W.out h1).h, fun _ => .inr fun y2 h2 => .inr fun y3 h3 => ?_⟩⟩⟩
      have W3 := ((W.out (c := .lst (A.ws.map Tr.int)) h1).out (c := .lst (A.hs.map Tr.int)) h2).out (c := .lst [.obj y1, .obj y2]) h3
      obtain ⟨W4, N4⟩ := W.push h1 h2 h3
      refine ⟨_, W3.s, by rw [List.length_map]; omega, ?_⟩
      rw [show (es.map fun e => Tr.obj e.e) ++ [.obj y3] = (es ++ [Ent.mk y3 y1 y2 A.ws A.hs]).map (fun e => Tr.obj e.e) by rw [List.map_append]; rfl]
      refine ⟨_, asS_obj W4.v, _, rfl, x.a, A, own, _, rfl, W4.g, by omega, .inl ⟨rfl, fun own' Ω' G N => ?_⟩⟩
      obtain ⟨W5, N5⟩ := W4.ground G N
      refine ⟨_, lenT_obj W5.s, fun _ => lst_in ?_⟩
      rw [show (((es ++ [Ent.mk y3 y1 y2 A.ws A.hs]).map fun e => Tr.obj e.e).length : Int) = (A.ss.length : Int) + 1 by rw [List.length_map, List.length_append, hlen]; rfl]
      refine sm_call rfl (show 1 < 8 by decide) (q _ _ _ .begin ⟨x, es ++ [Ent.mk y3 y1 y2 A.ws A.hs], own', rfl, ?_, ⟨W5.g, W5.l, W5.ap, W5.so, W5.sl⟩⟩ (N4.trans N5))
      show A.ss ++ [(A.ws, A.hs)] = _
      rw [List.map_append, ess]
      rfl
    · simp! only [N_law_end_right, e0, e5, n2]
      refine fun _ => itei (fun h0 => empty _ n2 (.inl rfl) q (by omega)) fun h0 => ?_
      obtain ⟨es0, e, rfl⟩ := lasts (by omega)
      have E := W.ent
      have el : ((es0 ++ [e]).map fun e => Tr.obj e.e).getLast? = some (.obj e.e) := by simp
      have ed : ((es0 ++ [e]).map fun e => Tr.obj e.e).dropLast = es0.map fun e => Tr.obj e.e := by simp
      refine ⟨_, e6, .obj e.e, el, ?_⟩
      rw [ed]
      obtain ⟨W3, N3⟩ := W.back
      have c1 : asS (.obj e.e) (put Ω x.s (.lst (es0.map fun e => .obj e.e))) = some [.obj e.bw, .obj e.bh] := asS_obj (by rw [put_ne E.es]; exact E.c)
      have c2 : ∀ c, asS (.obj e.e) (put (put Ω x.s (.lst (es0.map fun e => .obj e.e))) x.v c) = some [.obj e.bw, .obj e.bh] := fun c => asS_obj (by rw [put_ne E.ev, put_ne E.es]; exact E.c)
      refine ⟨_, c1, _, rfl, [.obj x.a, .obj x.b, .obj x.h, .int A.f, .int A.w, .obj x.s, .obj x.m], (by rw [put_ne E.vs]; exact W.v), 1, rfl, _, c2 _, _, rfl, 2, rfl, _, asS_obj W3.v, _, rfl, ?_⟩
      refine ⟨x.a, A, own, _, rfl, W3.g, by omega, .inr (.inr ⟨rfl, fun z => (by rw [ess] at z; simp at z), fun s0 sw sh es' own' Ω' G N => ?_⟩)⟩
      obtain ⟨W4, N4⟩ := W3.ground G N
      rw [ess, List.map_append] at es'
      obtain ⟨rfl, e2⟩ := List.append_inj' es' rfl
      cases e2
      refine lst_in (sm_call rfl (show 1 < 8 by decide) (q _ _ _ (.cancel (by rw [ess, List.map_append]; rfl)) ⟨{ x with b := e.bw, h := e.bh }, es0, own', rfl, rfl, ⟨W4.g, W4.l, W4.ap, W4.so, W4.sl⟩⟩ (N3.trans N4)))
    · simp! only [N_law_end_right, e0, e5, n1, n3]
      refine fun _ => itei (fun h0 => empty _ n1 (.inr rfl) q (by omega)) fun h0 => ?_
      obtain ⟨es0, e, rfl⟩ := lasts (by omega)
      have E := W.ent
      have el : ((es0 ++ [e]).map fun e => Tr.obj e.e).getLast? = some (.obj e.e) := by simp
      have ed : ((es0 ++ [e]).map fun e => Tr.obj e.e).dropLast = es0.map fun e => Tr.obj e.e := by simp
      refine ⟨_, e6, .obj e.e, el, ?_⟩
      rw [ed]
      obtain ⟨W3, N3⟩ := W.pop
      obtain ⟨s1, s2, _⟩ := I.s e.sn (by rw [ess]; simp)
      have hl192 := I.l
      have hc := diffC_le (ws := A.ws) (hs := A.hs) (sw := e.ws) (sh := e.hs)
      refine ⟨x, A, .obj e.e, .obj e.bw, .obj e.bh, e.ws, e.hs, rfl, W3.v, W3.b, W3.h, asS_obj (by rw [put_ne E.es]; exact E.c), asS_obj (by rw [put_ne E.ws]; exact E.w), asS_obj (by rw [put_ne E.hs]; exact E.h), W.g.sz.lh, s1, s2, by omega, ?_⟩
      refine ⟨x, A, _, _, rfl, W3.v, W3.s, W3.m, W.g.sz.b, fun hne => ?_, fun he => ?_⟩
      · have hne0 : es0 ≠ [] := fun z => hne (by rw [z]; rfl)
        refine ⟨_, asS_obj W3.v, _, rfl, x.a, A, own, _, rfl, W3.g, by omega, .inr (.inl ⟨rfl, fun z => (by rw [ess] at z; simp at z), fun s0 sw sh es' => ?_⟩)⟩
        rw [ess, List.map_append] at es'
        obtain ⟨rfl, e2⟩ := List.append_inj' es' rfl
        cases e2
        have nn : es0.map Ent.sn ≠ [] := fun z => hne0 (List.map_eq_nil_iff.mp z)
        refine ⟨fun _ own' Ω' G N => ?_, fun z => (nn z).elim, fun _ z => (nn z).elim, fun _ z => (nn z).elim⟩
        obtain ⟨W4, N4⟩ := W3.ground G N
        exact lst_in (sm_call rfl (show 1 < 8 by decide) (q _ _ _ (.inner (by rw [ess, List.map_append]; rfl) nn) ⟨x, es0, own', rfl, rfl, ⟨W4.g, W4.l, W4.ap, W4.so, W4.sl⟩⟩ (N3.trans N4)))
      · obtain rfl : es0 = [] := List.map_eq_nil_iff.mp he
        obtain ⟨W4, N4⟩ := W3.setM (payB A (diffC A.ws A.hs e.ws e.hs)).bud (payB A (diffC A.ws A.hs e.ws e.hs)).sp
        refine ⟨_, asS_obj W4.v, _, rfl, x.a, A, own, _, rfl, W4.g, by omega, .inr (.inl ⟨rfl, fun z => (by rw [ess] at z; simp at z), fun s0 sw sh es' => ?_⟩)⟩
        rw [ess, List.map_append] at es'
        obtain ⟨rfl, e2⟩ := List.append_inj' es' rfl
        cases e2
        refine ⟨fun z => (z rfl).elim, fun _ hb own' Ω' G N => ?_, fun b _ hb hle own' Ω' G N => ?_, fun b _ hb hlt => ?_⟩
        · obtain ⟨W5, N5⟩ := W4.ground G N
          have e3 : payB { A with ss := [] } (diffC A.ws A.hs e.ws e.hs) = { A with ss := [], sp := A.sp + (diffC A.ws A.hs e.ws e.hs : Nat) } := by
            unfold payB
            simp only [hb]
          exact lst_in (sm_call rfl (show 1 < 8 by decide) (q _ _ _ (.outer (sw := e.ws) (sh := e.hs) (by rw [ess]; rfl)) ⟨x, [], own', rfl, rfl, ⟨by rw [e3]; exact W5.g, W5.l, W5.ap, W5.so, W5.sl⟩⟩ ((N3.trans N4).trans N5)))
        · obtain ⟨W5, N5⟩ := W4.ground G N
          have e3 : payB { A with ss := [] } (diffC A.ws A.hs e.ws e.hs) = { A with ss := [], sp := A.sp + (diffC A.ws A.hs e.ws e.hs : Nat), bud := .int (b - (diffC A.ws A.hs e.ws e.hs : Nat)) } := by
            unfold payB
            simp only [hb]
          exact lst_in (sm_call rfl (show 1 < 8 by decide) (q _ _ _ (.outer (sw := e.ws) (sh := e.hs) (by rw [ess]; rfl)) ⟨x, [], own', rfl, rfl, ⟨by rw [e3]; exact W5.g, W5.l, W5.ap, W5.so, W5.sl⟩⟩ ((N3.trans N4).trans N5)))
        · exfalso
          rcases I.b with z | ⟨b2, z, h2⟩
          · rw [hb] at z; cases z
          · rw [hb] at z
            cases z
            omega
end
section
open PySem PySem.Spec PyProof.Rows L2 LL LT
variable {P : Program} {w : World} {K : PySem.W.Frag} {mg : Str → Option Value} {base : Heap}

/-! ### a deed is done, rightly -/
inductive DeedR (A : Ab) : Ab → Prop
  | none : DeedR A A
  | inn {d : Tr} : DeedT A.ws.length d → A.ss ≠ [] → DeedR A (madeA A d)
  | out {d : Tr} : DeedT A.ws.length d → A.ss = [] → DeedR A (payB (madeA A d) (diffC (madeA A d).ws (madeA A d).hs A.ws A.hs))
noncomputable def wl_deedr (K : PySem.W.Frag) : Pw := fun ts Ω PQ _ => ∃ (v : Addr) (A : Ab) (o : List Addr) (n : Nat), ts = [.drw, .obj v] ∧ Wd K v A o Ω ∧ Inv A n ∧ n ≤ 10000 ∧ ∀ A' o' Ω', DeedR A A' → Wd K v A' o' Ω' → Nx o Ω o' Ω' → PQ (.bl true) Ω'
theorem made_len {A : Ab} {n : Nat} {d : Tr} (h : DeedT n d) : (madeA A d).ws.length = A.ws.length ∧ (madeA A d).hs.length = A.hs.length := by
  cases h with
  | write _ _ _ _ => exact ⟨List.length_set, rfl⟩
  | poke _ _ _ => exact ⟨List.length_set, rfl⟩
  | pass _ _ _ _ _ _ => exact ⟨wsP_len, setL_len⟩
theorem made_rest {A : Ab} {n : Nat} {d : Tr} (h : DeedT n d) : madeA A d = { A with ws := (madeA A d).ws, hs := (madeA A d).hs } := by
  cases h with
  | write _ _ _ _ => rfl
  | poke _ _ _ => rfl
  | pass _ _ _ _ _ _ => rfl
theorem Out.all {K : PySem.W.Frag} {a : Addr} {A A' : Ab} {own : List Addr} {Ω : Om} {P : Om → Prop} {X : PXt} (h1 : A'.bud = A.bud) (h2 : A'.sp = A.sp) (hb : ∀ b : Int, A.bud = .int b → diffC A'.ws A'.hs A.ws A.hs ≤ b)
    (t : ∀ A1 own' Ω', Gd K a A1 own' Ω' → Nx own Ω own' Ω' → ((A.ss ≠ [] ∧ A1 = A') ∨ (A.ss = [] ∧ A1 = payB A' (diffC A'.ws A'.hs A.ws A.hs))) → P Ω') : Out K a A own Ω A' P X := by
  refine ⟨fun e o w g n => t _ o w g n (.inl ⟨e, rfl⟩), fun e b o w g n => t _ o w g n (.inr ⟨e, ?_⟩), fun b e hb' hl o w g n => t _ o w g n (.inr ⟨e, ?_⟩), fun b e hb' hl => ?_⟩
  · unfold payB
    rw [h2, h1, b]
  · unfold payB
    rw [h2, h1, hb']
  · have := hb b hb'
    omega
theorem ok_law_deed_right (T : Tx K mg) : FnOk P w K mg base CX0 10 (He.ga K "_law_deed_right") T.fd_law_deed_right P_law_deed_right (spD K (wl_deedr K) 2) := by
  refine dok T.F_law_deed_right sc_law_deed_right fun cdv A outer s H E hr => ?_
  refine' dokMk (PSs.nox (pss_cons (ps_set (i := 2) sc_law_deed_right.nd rfl (Or.inl rfl) (pe_call (ok_law_ground_deed T) (hr.mono (by decide)) rfl T.g_law_ground_deed T.F_law_ground_deed.kp (b_law_ground_deed T) .nil pass0 (pa_cons (pv 0) (pa_cons (pe_ix (show IxR _ (LL.rIxA K) from LL.ix_A) (pv 1) (pe_int) (fun _ _ => rfl)) (pa_cons (pe_ix (show IxR _ (LL.rIxA K) from LL.ix_A) (pv 1) (pe_int) (fun _ _ => rfl)) (pa_cons (pe_ix (show IxR _ (LL.rIxA K) from LL.ix_A) (pv 1) (pe_int) (fun _ _ => rfl)) pa_nil)))))) (pss_cons (ps_set (i := 3) sc_law_deed_right.nd rfl (Or.inl rfl) (pe_call (ok_law_deed_due T) (hr.mono (by decide)) rfl T.g_law_deed_due T.F_law_deed_due.kp (b_law_deed_due T) .nil pass0 (pa_cons (pe_ix (show IxR _ (LL.rIxA K) from LL.ix_A) (pv 1) (pe_int) (fun _ _ => rfl)) (pa_cons (pe_ix (show IxR _ (LL.rIxA K) from LL.ix_A) (pv 1) (pe_int) (fun _ _ => rfl)) (pa_cons (pe_ix (show IxR _ (LL.rIxA K) from LL.ix_A) (pv 1) (pe_int) (fun _ _ => rfl)) (pa_cons (pv 2) pa_nil)))))) (pss_cons (ps_set (i := 4) sc_law_deed_right.nd rfl (Or.inl rfl) (pe_call (ok_law_done T) (hr.mono (by decide)) rfl T.g_law_done T.F_law_done.kp (b_law_done T) .nil pass0 (pa_cons (pe_ix (show IxR _ (LL.rIxA K) from LL.ix_A) (pv 1) (pe_int) (fun _ _ => rfl)) (pa_cons (pv 2) pa_nil)))) (pss_cons (ps_if (pt_cmpR op_notN1 (pv 3) (pe_non) (nomark _)) (pss_one (ps_ret (pe_call (ok_law_same T 8) hr rfl T.g_law_same T.F_law_same.kp (b_law_same T) .nil pass0 (pa_cons (pv 4) (pa_cons (pe_call (ok_law_refused T) (hr.mono (by decide)) rfl T.g_law_refused T.F_law_refused.kp (b_law_refused T) .nil pass0 (pa_cons (pe_ix (show IxR _ (LL.rIxA K) from LL.ix_A) (pv 3) (pe_int) (fun _ _ => rfl)) (pa_cons (pe_ix (show IxR _ (LL.rIxA K) from LL.ix_A) (pv 3) (pe_int) (fun _ _ => rfl)) pa_nil))) pa_nil))))) pss_nil) (pss_cons (ps_set (i := 5) sc_law_deed_right.nd rfl (Or.inl rfl) (pe_lst (pa_cons (pe_callTy (show CallR _ _ (LT.rList K) from LT.call_list rfl) (by rfl) T.z_list (by decide +kernel) (pa_cons (pe_ix (show IxR _ (LL.rIxA K) from LL.ix_A) (pv 1) (pe_int) (fun _ _ => rfl)) pa_nil)) (pa_cons (pe_callTy (show CallR _ _ (LT.rList K) from LT.call_list rfl) (by rfl) T.z_list (by decide +kernel) (pa_cons (pe_ix (show IxR _ (LL.rIxA K) from LL.ix_A) (pv 1) (pe_int) (fun _ _ => rfl)) pa_nil)) pa_nil)))) (pss_cons (ps_expr (pe_call (ok_law_deed_made T) (hr.mono (by decide)) rfl T.g_law_deed_made T.F_law_deed_made.kp (b_law_deed_made T) .nil pass0 (pa_cons (pe_ix (show IxR _ (LL.rIxA K) from LL.ix_A) (pv 1) (pe_int) (fun _ _ => rfl)) (pa_cons (pe_ix (show IxR _ (LL.rIxA K) from LL.ix_A) (pv 1) (pe_int) (fun _ _ => rfl)) (pa_cons (pe_ix (show IxR _ (LL.rIxA K) from LL.ix_A) (pv 1) (pe_int) (fun _ _ => rfl)) (pa_cons (pv 2) pa_nil)))))) (pss_cons (ps_expr (pe_call (ok_law_charged T) (hr.mono (by decide)) rfl T.g_law_charged T.F_law_charged.kp (b_law_charged T) .nil pass0 (pa_cons (pv 1) (pa_cons (pe_call (ok_law_cost_since T) (hr.mono (by decide)) rfl T.g_law_cost_since T.F_law_cost_since.kp (b_law_cost_since T) .nil pass0 (pa_cons (pv 1) (pa_cons (pv 5) pa_nil))) pa_nil)))) (pss_one (ps_ret (pe_call (ok_law_same T 8) hr rfl T.g_law_same T.F_law_same.kp (b_law_same T) .nil pass0 (pa_cons (pv 4) (pa_cons (pe_lst (pa_cons (pe_str) (pa_cons (pe_non) pa_nil))) pa_nil))))))))))))) ?sim ?go
  case sim =>
    try simp only [LL.cxK0, LL.cxK1, List.map_cons, List.map_nil]
    repeat' (first | with_reducible apply sim_gLst | with_reducible apply sim_tryR0 | with_reducible apply sim_tryR | with_reducible apply SimRow.cons | with_reducible exact SimRow.nil | with_reducible apply sim_mthS (dts := []) .nil | with_reducible apply sim_makeK (gT := fun ts us => ts ++ us) (fun _ _ _ _ _ _ _ h1 h2 => vdl_app h2 h1) | with_reducible apply sim_fld T.c_Ground T.n_Ground_pages | with_reducible apply sim_fld T.c_Ground T.n_Ground_width | with_reducible apply sim_fld T.c_Ground T.n_Ground_fill | with_reducible apply sim_fld T.c_Ground T.n_Ground__budget | with_reducible apply sim_fld T.c_Ground T.n_Ground__spent | with_reducible apply sim_fld T.c_Ground T.n_Ground__words | with_reducible apply sim_fld T.c_Ground T.n_Ground__holders | with_reducible apply sim_fld T.c_Ground T.n_Ground__deeds | with_reducible apply sim_setF T.c_Ground T.n_Ground_pages | with_reducible apply sim_setF T.c_Ground T.n_Ground_width | with_reducible apply sim_setF T.c_Ground T.n_Ground_fill | with_reducible apply sim_setF T.c_Ground T.n_Ground__budget | with_reducible apply sim_setF T.c_Ground T.n_Ground__spent | with_reducible apply sim_setF T.c_Ground T.n_Ground__words | with_reducible apply sim_setF T.c_Ground T.n_Ground__holders | with_reducible apply sim_setF T.c_Ground T.n_Ground__deeds | with_reducible apply sim_forI | with_reducible apply sim_pop | with_reducible apply sim_tru | with_reducible apply sim_prop | with_reducible apply sim_make (dts := []) .nil | with_reducible apply sim_make0 (dts := []) .nil | with_reducible apply sim_meth0 (dts := []) .nil | with_reducible apply sim_meth (dts := []) .nil | fail "s")
  case go =>
    intro ts Ω PQ PX hl h
    obtain ⟨v, A, o, n, rfl, ⟨x, es, own, rfl, ess, W⟩, I, hn, q⟩ := h
    have e0 := asS_obj W.v
    have hl192 := I.l
    have hss := I.d
    have n16 := W.g.sz.n
    have lh := W.g.sz.lh
    have hlen : A.ss.length = es.length := by rw [ess, List.length_map]
    unfold wdC at e0
    simp! only [N_law_deed_right, e0]
    refine ⟨.obj x.b, .obj x.h, A.ws, A.hs, A.f, rfl, asS_obj W.b, asS_obj W.h, lh, by omega, by omega, I.f, I.h, fun d hd => ?_⟩
    simp! only [e0]
    refine ⟨.obj x.b, .obj x.h, A.ws, A.hs, A.f, d, rfl, asS_obj W.b, asS_obj W.h, lh, by omega, hd, fun t ht => ?_⟩
    simp! only [e0]
    refine ⟨x.a, A, own, d, t, rfl, W.g, by omega, hd, ht, fun hnon => ?_, fun p k e => ?_, fun p k f e => ?_⟩
    · subst hnon
      simp! only [and_true]
      obtain ⟨ml, mh⟩ := made_len (A := A) hd
      have mr := made_rest (A := A) hd
      have hc := diffC_le (ws := (madeA A d).ws) (hs := (madeA A d).hs) (sw := A.ws) (sh := A.hs)
      have dt : dataTs (A.ws.map Tr.int) = true := data_ints
      refine Out.all (by rw [mr]) (by rw [mr]) (fun b hb => ?_) fun A1 own' Ω' G N hA => ?_
      · rcases I.b with z | ⟨b2, z, h2⟩
        · rw [hb] at z; cases z
        · rw [hb] at z
          cases z
          omega
      obtain ⟨W1, N1⟩ := W.ground G N
      refine ⟨_, asS_obj W1.v, _, rfl, .inl ⟨_, asS_obj W1.b, fun _ => .inl ⟨_, asS_obj W1.v, _, rfl, .inl ⟨_, asS_obj W1.h, fun _ => .inl (.inl ⟨_, asS_obj W1.v, _, rfl, _, asS_obj W1.v, _, rfl, _, asS_obj W1.v, _, rfl, ?_⟩)⟩⟩⟩⟩
      obtain ⟨W3, N3⟩ := W1.setWH (madeA A d).ws (madeA A d).hs
      refine ⟨x.b, x.h, A, d, rfl, W1.b, W1.h, W1.bh, lh, by omega, hd, ?_⟩
      refine ⟨x, { A with ws := (madeA A d).ws, hs := (madeA A d).hs }, .lst [.lst (A.ws.map Tr.int), .lst (A.hs.map Tr.int)], .lst (A.ws.map Tr.int), .lst (A.hs.map Tr.int), A.ws, A.hs, rfl, W3.v, W3.b, W3.h, rfl, rfl, rfl, ?_, ?_, ?_, ?_, ?_⟩
      · show (madeA A d).hs.length = (madeA A d).ws.length
        omega
      · show A.ws.length = (madeA A d).ws.length
        omega
      · show A.hs.length = (madeA A d).ws.length
        omega
      · show (madeA A d).ws.length ≤ 100000
        omega
      refine ⟨x, { A with ws := (madeA A d).ws, hs := (madeA A d).hs }, _, _, rfl, W3.v, W3.s, W3.m, W.g.sz.b, fun hne => ?_, fun he => ?_⟩
      · have hne0 : A.ss ≠ [] := fun z => hne (List.map_eq_nil_iff.mpr (List.eq_nil_of_length_eq_zero (by rw [← hlen, z]; rfl)))
        have e1 : A1 = madeA A d := (hA.resolve_right fun z => hne0 z.1).2
        refine lst_in (sm_call rfl (show 1 < 8 by decide) (q A1 _ _ (by rw [e1]; exact .inn hd hne0) ⟨x, es, own', rfl, ?_, ⟨W3.g, ?_, W3.ap, W3.so, W3.sl⟩⟩ (N1.trans N3)))
        · rw [e1, mr]; exact ess
        · rw [e1, mr]; exact W3.l
      · have he0 : A.ss = [] := List.eq_nil_of_length_eq_zero (by rw [hlen, List.map_eq_nil_iff.mp he]; rfl)
        have e1 : A1 = payB (madeA A d) (diffC (madeA A d).ws (madeA A d).hs A.ws A.hs) := (hA.resolve_left fun z => z.1 he0).2
        obtain ⟨W4, N4⟩ := W3.setM (payB { A with ws := (madeA A d).ws, hs := (madeA A d).hs } (diffC (madeA A d).ws (madeA A d).hs A.ws A.hs)).bud (payB { A with ws := (madeA A d).ws, hs := (madeA A d).hs } (diffC (madeA A d).ws (madeA A d).hs A.ws A.hs)).sp
        refine lst_in (sm_call rfl (show 1 < 8 by decide) (q A1 _ _ (by rw [e1]; exact .out hd he0) ⟨x, es, own', rfl, ?_, ⟨W4.g, ?_, W4.ap, W4.so, W4.sl⟩⟩ ((N1.trans N3).trans N4)))
        · rw [e1, mr]; exact ess
        · rw [e1, mr]; exact W4.l
    · subst e
      simp! only [and_true]
      exact ⟨"NotHeld", 3, [.int p, .int k], rfl, rfl, sm_call rfl (show 3 < 8 by decide) (q A o Ω .none ⟨x, es, own, rfl, ess, W⟩ .refl)⟩
    · subst e
      simp! only [and_true]
      exact ⟨"Broken", 1, [.int p, .int k, .int f], rfl, rfl, sm_call rfl (show 3 < 8 by decide) (q A o Ω .none ⟨x, es, own, rfl, ess, W⟩ .refl)⟩
end
section
open PySem PySem.Spec PyProof.Rows L2 LL LT
variable {P : Program} {w : World} {K : PySem.W.Frag} {mg : Str → Option Value} {base : Heap}

/-! ### a turn -/
noncomputable def wl_sound (K : PySem.W.Frag) : Pw := fun ts Ω PQ _ => ∃ (v : Addr) (A : Ab) (o : List Addr) (n : Nat), ts = [.obj v] ∧ Wd K v A o Ω ∧ Inv A n ∧ PQ (.bl true) Ω
theorem set_mem {l : List Int} {i : Nat} {v k : Int} (h : k ∈ l.set i v) : k ∈ l ∨ k = v := List.mem_or_eq_of_mem_set h
theorem setL_mem {l : List Int} {v s k : Int} : ∀ {i : Nat}, k ∈ setL l v s i → k ∈ l ∨ k = v
  | 0, h => .inl h
  | i + 1, h => by
    rcases set_mem (show k ∈ (setL l v s i).set (s + i).toNat v from h) with h | h
    · exact setL_mem h
    · exact .inr h
theorem Inv.endR {A A' : Ab} {n : Nat} {ti : Str} (I : Inv A n) (lh : A.hs.length = A.ws.length) (h : EndR A ti A') (hb : ti = "begin" → A.ss.length ≤ 59) : Inv A' (n + 1) := by
  have bud : A.bud = .non ∨ ∃ b : Int, A.bud = .int b ∧ 1000000000 - 192 * ((n + 1 : Nat) : Int) ≤ b := I.b.imp id fun ⟨b, e, h⟩ => ⟨b, e, by omega⟩
  cases h with
  | begin => exact ⟨I.l, I.h, fun p hp => (List.mem_append.mp hp).elim (I.s p) fun e => by rw [List.mem_singleton.mp e]; exact ⟨rfl, lh, I.h⟩, I.f, bud, by have := hb rfl; show (A.ss ++ [(A.ws, A.hs)]).length ≤ 60; rw [List.length_append]; simp only [List.length_cons, List.length_nil]; omega⟩
  | none _ _ => exact ⟨I.l, I.h, I.s, I.f, bud, I.d⟩
  | @cancel s0 sw sh e =>
    have m : (sw, sh) ∈ A.ss := by rw [e]; simp
    obtain ⟨l1, l2, l3⟩ := I.s _ m
    simp only at l1 l2 l3
    have hd := I.d
    rw [e, List.length_append] at hd
    refine ⟨by show sw.length ≤ 192; rw [l1]; exact I.l, l3, fun p hp => ?_, I.f, bud, by show s0.length ≤ 60; omega⟩
    obtain ⟨k1, k2, k3⟩ := I.s p (by rw [e]; exact List.mem_append_left _ hp)
    exact ⟨by show _ = sw.length; rw [l1]; exact k1, by show _ = sw.length; rw [l1]; exact k2, k3⟩
  | @inner s0 sw sh e _ =>
    have hd := I.d
    rw [e, List.length_append] at hd
    exact ⟨I.l, I.h, fun p hp => I.s p (by rw [e]; exact List.mem_append_left _ hp), I.f, bud, by show s0.length ≤ 60; omega⟩
  | @outer sw sh e =>
    refine ⟨I.l, I.h, fun p hp => (List.not_mem_nil hp).elim, I.f, ?_, Nat.zero_le _⟩
    have hc := diffC_le (ws := A.ws) (hs := A.hs) (sw := sw) (sh := sh)
    have hl := I.l
    rcases I.b with z | ⟨b, z, h2⟩
    · exact .inl (by unfold payB; simp only [z])
    · exact .inr ⟨b - diffC A.ws A.hs sw sh, by unfold payB; simp only [z], by omega⟩
theorem made_hs {A : Ab} {n : Nat} {d : Tr} (h : DeedT n d) (hh : ∀ k ∈ A.hs, holdB k = true) : ∀ k ∈ (madeA A d).hs, holdB k = true := by
  cases h with
  | write _ _ _ _ => exact hh
  | poke _ _ _ => exact hh
  | pass _ _ _ _ _ ht => exact fun k hk => (setL_mem hk).elim (hh k) fun e => by rw [e]; exact ht
theorem Inv.deedR {A A' : Ab} {n : Nat} (I : Inv A n) (h : DeedR A A') : Inv A' (n + 1) := by
  have bud : A.bud = .non ∨ ∃ b : Int, A.bud = .int b ∧ 1000000000 - 192 * ((n + 1 : Nat) : Int) ≤ b := I.b.imp id fun ⟨b, e, h⟩ => ⟨b, e, by omega⟩
  have hl := I.l
  cases h with
  | none => exact ⟨I.l, I.h, I.s, I.f, bud, I.d⟩
  | @inn d hd hs =>
    obtain ⟨l1, l2⟩ := made_len (A := A) hd
    have mh := made_hs hd I.h
    have mr := made_rest (A := A) hd
    refine ⟨by rw [l1]; exact I.l, mh, fun p hp => ?_, by rw [mr]; exact I.f, by rw [mr]; exact bud, by rw [mr]; exact I.d⟩
    rw [mr] at hp
    obtain ⟨k1, k2, k3⟩ := I.s p hp
    exact ⟨by rw [l1]; exact k1, by rw [l1]; exact k2, k3⟩
  | @out d hd hs =>
    obtain ⟨l1, l2⟩ := made_len (A := A) hd
    have mh := made_hs hd I.h
    have mr := made_rest (A := A) hd
    have hc := diffC_le (ws := (madeA A d).ws) (hs := (madeA A d).hs) (sw := A.ws) (sh := A.hs)
    refine ⟨by show (madeA A d).ws.length ≤ 192; rw [l1]; exact I.l, mh, fun p hp => ?_, by show wordB (madeA A d).f = true; rw [mr]; exact I.f, ?_, by show (madeA A d).ss.length ≤ 60; rw [mr]; exact I.d⟩
    · rw [show (payB (madeA A d) (diffC (madeA A d).ws (madeA A d).hs A.ws A.hs)).ss = A.ss by rw [mr]; rfl, hs] at hp
      exact (List.not_mem_nil hp).elim
    · have eb : (madeA A d).bud = A.bud := by rw [mr]
      rcases I.b with z | ⟨b, z, h2⟩
      · exact .inl (by unfold payB; simp only [eb, z])
      · exact .inr ⟨b - diffC (madeA A d).ws (madeA A d).hs A.ws A.hs, by unfold payB; simp only [eb, z], by omega⟩
theorem Wd.lh {K : PySem.W.Frag} {v : Addr} {A : Ab} {o : List Addr} {Ω : Om} (W : Wd K v A o Ω) : A.hs.length = A.ws.length := by
  obtain ⟨x, es, own, rfl, ess, W⟩ := W.ex
  exact W.g.sz.lh
theorem EndR.down {A A' : Ab} {ti : Str} (h : EndR A ti A') (hb : ti ≠ "begin") : A'.ss.length = A.ss.length - 1 := by
  cases h with
  | begin => exact (hb rfl).elim
  | none _ e => rw [e]; rfl
  | cancel e => rw [e, List.length_append]; simp
  | inner e _ => rw [e, List.length_append]; simp
  | outer e => rw [e]; rfl
theorem EndR.up {A A' : Ab} (h : EndR A "begin" A') : A'.ss.length = A.ss.length + 1 := by
  cases h with
  | begin => simp
  | none hb _ => exact (hb rfl).elim
theorem DeedR.same {A A' : Ab} (h : DeedR A A') : A'.ss.length = A.ss.length := by
  cases h with
  | none => rfl
  | @inn d hd hs => rw [made_rest hd]
  | @out d hd hs => show (madeA A d).ss.length = _; rw [made_rest hd]
theorem ok_law_is_sound (T : Tx K mg) : FnOk P w K mg base CX0 10 (He.ga K "_law_is_sound") T.fd_law_is_sound P_law_is_sound (spD K (wl_sound K) 1) := by
  refine dok T.F_law_is_sound sc_law_is_sound fun cdv A outer s H E hr => ?_
  refine' dokMk (PSs.nox (pss_cons (ps_asg (pv 0) (LT.pg_lstK (K := K) (n := 7) rfl rfl (pgs_cons (pg_name (i := 1) sc_law_is_sound.nd rfl (Or.inl rfl)) (pgs_cons (pg_name (i := 2) sc_law_is_sound.nd rfl (Or.inl rfl)) (pgs_cons (pg_name (i := 3) sc_law_is_sound.nd rfl (Or.inl rfl)) (pgs_cons (pg_name (i := 4) sc_law_is_sound.nd rfl (Or.inl rfl)) (pgs_cons (pg_name (i := 5) sc_law_is_sound.nd rfl (Or.inl rfl)) (pgs_cons (pg_name (i := 6) sc_law_is_sound.nd rfl (Or.inl rfl)) (pgs_cons (pg_name (i := 7) sc_law_is_sound.nd rfl (Or.inl rfl)) pgs_nil))))))))) (pss_cons (ps_if (pt_not (pt_val (pe_call (ok_law_same T 8) hr rfl T.g_law_same T.F_law_same.kp (b_law_same T) .nil pass0 (pa_cons (pe_lst (pa_cons (pe_prop (pv 1) T.c_Ground T.p_Ground_depth (ok_Ground_depth T) (hr.mono (by decide)) (b_Ground_depth T) .nil pass0 rfl) (pa_cons (pe_prop (pv 1) T.c_Ground T.p_Ground_budget (ok_Ground_budget T) (hr.mono (by decide)) (b_Ground_budget T) .nil pass0 rfl) (pa_cons (pe_prop (pv 1) T.c_Ground T.p_Ground_spent (ok_Ground_spent T) (hr.mono (by decide)) (b_Ground_spent T) .nil pass0 rfl) pa_nil)))) (pa_cons (pe_lst (pa_cons (pe_callB (show CallR _ _ (LT.rLenS K) from LT.call_lenS) (by rfl) T.z_len (by decide +kernel) (pa_cons (pv 6) pa_nil)) (pa_cons (pe_ix (show IxR _ (LL.rIxA K) from LL.ix_A) (pv 7) (pe_int) (fun _ _ => rfl)) (pa_cons (pe_ix (show IxR _ (LL.rIxA K) from LL.ix_A) (pv 7) (pe_int) (fun _ _ => rfl)) pa_nil)))) pa_nil))))) (pss_one (ps_ret (pe_bl))) pss_nil) (pss_one (ps_ret (pe_call (ok_law_same T 8) hr rfl T.g_law_same T.F_law_same.kp (b_law_same T) .nil pass0 (pa_cons (pe_meth0 (pv 1) T.c_Ground T.h_Ground_image (ok_Ground_image T) (hr.mono (by decide)) (b_Ground_image T) .nil pass0) (pa_cons (pe_tup (pa_cons (pv 5) (pa_cons (pv 4) (pa_cons (pe_callTy (show CallR _ _ (LT.rTuple K) from LT.call_tuple) (by rfl) T.z_tuple (by decide +kernel) (pa_cons (pv 2) pa_nil)) (pa_cons (pe_callTy (show CallR _ _ (LT.rTuple K) from LT.call_tuple) (by rfl) T.z_tuple (by decide +kernel) (pa_cons (pv 3) pa_nil)) pa_nil))))) pa_nil)))))))) ?sim ?go
  case sim =>
    try simp only [LL.cxK0, LL.cxK1, List.map_cons, List.map_nil]
    repeat' (first | with_reducible apply sim_gLst | with_reducible apply sim_tryR0 | with_reducible apply sim_tryR | with_reducible apply SimRow.cons | with_reducible exact SimRow.nil | with_reducible apply sim_mthS (dts := []) .nil | with_reducible apply sim_makeK (gT := fun ts us => ts ++ us) (fun _ _ _ _ _ _ _ h1 h2 => vdl_app h2 h1) | with_reducible apply sim_fld T.c_Ground T.n_Ground_pages | with_reducible apply sim_fld T.c_Ground T.n_Ground_width | with_reducible apply sim_fld T.c_Ground T.n_Ground_fill | with_reducible apply sim_fld T.c_Ground T.n_Ground__budget | with_reducible apply sim_fld T.c_Ground T.n_Ground__spent | with_reducible apply sim_fld T.c_Ground T.n_Ground__words | with_reducible apply sim_fld T.c_Ground T.n_Ground__holders | with_reducible apply sim_fld T.c_Ground T.n_Ground__deeds | with_reducible apply sim_setF T.c_Ground T.n_Ground_pages | with_reducible apply sim_setF T.c_Ground T.n_Ground_width | with_reducible apply sim_setF T.c_Ground T.n_Ground_fill | with_reducible apply sim_setF T.c_Ground T.n_Ground__budget | with_reducible apply sim_setF T.c_Ground T.n_Ground__spent | with_reducible apply sim_setF T.c_Ground T.n_Ground__words | with_reducible apply sim_setF T.c_Ground T.n_Ground__holders | with_reducible apply sim_setF T.c_Ground T.n_Ground__deeds | with_reducible apply sim_forI | with_reducible apply sim_pop | with_reducible apply sim_tru | with_reducible apply sim_prop | with_reducible apply sim_make (dts := []) .nil | with_reducible apply sim_make0 (dts := []) .nil | with_reducible apply sim_meth0 (dts := []) .nil | with_reducible apply sim_meth (dts := []) .nil | fail "s")
  case go =>
    intro ts Ω PQ PX hl h
    obtain ⟨v, A, o, n, rfl, ⟨x, es, own, rfl, ess, W⟩, I, q⟩ := h
    have e0 := asL_obj W.v
    have e5 := lenT_obj W.s
    have e6 := asS_obj W.m
    have e1 := asS_obj W.b
    have e2 := asS_obj W.h
    have hlen : A.ss.length = es.length := by rw [ess, List.length_map]
    rw [List.length_map, ← hlen] at e5
    unfold wdC at e0
    simp! only [N_law_is_sound, e0]
    have d1 : dataT (.lst [.int A.ss.length, A.bud, .int A.sp]) = true ∧ depTr2 (.lst [.int A.ss.length, A.bud, .int A.sp]) < 8 := by
      rcases W.g.sz.b with z | ⟨b, z⟩ <;> rw [z] <;> exact ⟨rfl, (show 1 < 8 by decide)⟩
    have d2 : dataT (imgOf A) = true ∧ depTr2 (imgOf A) < 8 := by
      have dep : ∀ ns : List Int, depTrs2 (ns.map Tr.int) ≤ 0 := fun ns => depTrs2_of fun t ht => by
        obtain ⟨k, _, rfl⟩ := List.mem_map.mp ht
        exact Nat.le_refl _
      refine ⟨?_, ?_⟩
      · show (true && (true && (dataTs (A.ws.map Tr.int) && (dataTs (A.hs.map Tr.int) && true)))) = true
        rw [data_ints, data_ints]; rfl
      · have k1 := dep A.ws
        have k2 := dep A.hs
        show max 0 (max 0 (max (depTrs2 (A.ws.map Tr.int) + 1) (max (depTrs2 (A.hs.map Tr.int) + 1) 0))) + 1 < 8
        omega
    refine ⟨x.a, W.g.prop, W.g.depth ⟨x.a, W.g.prop, W.g.budget ⟨x.a, W.g.prop, W.g.spent (lst_in ⟨_, e5, fun _ => ⟨_, e6, _, rfl, _, e6, _, rfl, lst_in (sm_call d1.1 d1.2 ⟨true, rfl, ?_⟩)⟩⟩)⟩⟩⟩
    simp! only [and_true]
    refine ⟨x.a, W.g.meth fun _ _ _ _ _ _ _ _ => rfl, W.g.image ⟨_, e1, fun _ => ⟨_, e2, fun _ => ?_⟩⟩⟩
    exact sm_call (t := imgOf A) d2.1 d2.2 q
noncomputable def wl_turn (K : PySem.W.Frag) : Pw := fun ts Ω PQ _ => ∃ (v : Addr) (A : Ab) (o : List Addr) (n : Nat), ts = [.drw, .obj v] ∧ Wd K v A o Ω ∧ Inv A n ∧ n ≤ 9000 ∧ ∀ A' o' Ω', Wd K v A' o' Ω' → Inv A' (n + 1) → Nx o Ω o' Ω' → PQ (.bl true) Ω'
theorem er_call {K : PySem.W.Frag} {v : Addr} {A : Ab} {o : List Addr} {ti : Str} {n : Nat} {Ω : Om} {P : PT'} {X : PXt} (W : Wd K v A o Ω) (I : Inv A n) (hn : n ≤ 10000) (hti : ti = "begin" ∨ ti = "cancel" ∨ ti = "commit") (hb : ti = "begin" → A.ss.length ≤ 59) (q : ∀ A' o' Ω', EndR A ti A' → Wd K v A' o' Ω' → Inv A' (n + 1) → Nx o Ω o' Ω' → P (.bl true) Ω') : wl_endr K [.obj v, .str ti] Ω P X :=
  ⟨v, A, o, ti, n, rfl, W, I, hn, hti, fun A' o' Ω' e W' N => q A' o' Ω' e W' (I.endR W.lh e hb) N⟩
theorem dr_call {K : PySem.W.Frag} {v : Addr} {A : Ab} {o : List Addr} {n : Nat} {Ω : Om} {P : PT'} {X : PXt} (W : Wd K v A o Ω) (I : Inv A n) (hn : n ≤ 10000) (q : ∀ A' o' Ω', DeedR A A' → Wd K v A' o' Ω' → Inv A' (n + 1) → Nx o Ω o' Ω' → P (.bl true) Ω') : wl_deedr K [.drw, .obj v] Ω P X :=
  ⟨v, A, o, n, rfl, W, I, hn, fun A' o' Ω' e W' N => q A' o' Ω' e W' (I.deedR e) N⟩
theorem so_call {K : PySem.W.Frag} {v : Addr} {A : Ab} {o : List Addr} {n : Nat} {Ω : Om} {P : PT'} {X : PXt} (W : Wd K v A o Ω) (I : Inv A n) (q : P (.bl true) Ω) : wl_sound K [.obj v] Ω P X := ⟨v, A, o, n, rfl, W, I, q⟩
theorem Wd.len {K : PySem.W.Frag} {v : Addr} {A : Ab} {o : List Addr} {Ω : Om} (W : Wd K v A o Ω) : ∃ c s us, Ω v = some (.lst c) ∧ c[5]? = some (.obj s) ∧ Ω s = some (.lst us) ∧ us.length = A.ss.length ∧ L2.atI c 5 = some (.obj s) := by
  obtain ⟨x, es, own, rfl, ess, W⟩ := W.ex
  exact ⟨_, x.s, _, W.v, rfl, W.s, by rw [List.length_map, ess, List.length_map], rfl⟩
theorem ok_law_turn_right (T : Tx K mg) : FnOk P w K mg base CX0 11 (He.ga K "_law_turn_right") T.fd_law_turn_right P_law_turn_right (spD K (wl_turn K) 2) := by
  refine dok T.F_law_turn_right sc_law_turn_right fun cdv A outer s H E hr => ?_
  refine' dokMk (PSs.nox (pss_cons (ps_set (i := 2) sc_law_turn_right.nd rfl (Or.inl rfl) (pe_ix (show IxR _ (LL.rIxA K) from LL.ix_A) (pe_lst (pa_cons (pe_str) (pa_cons (pe_str) (pa_cons (pe_str) (pa_cons (pe_str) (pa_cons (pe_str) (pa_cons (pe_str) (pa_cons (pe_str) (pa_cons (pe_str) (pa_cons (pe_str) pa_nil)))))))))) (pe_call (okt_law_take T) (hr.mono (by decide)) rfl T.g_law_take T.F_law_take.kp (b_law_take T) .nil pass0 (pa_cons (pv 0) (pa_cons (pe_int) pa_nil))) (fun _ _ => rfl))) (pss_cons (ps_if (PW.pt (pw_or (pt_cmpR op_eq (pv 2) (pe_str) (nomark _)) (pw_or1 (PW.pt (pw_and (pt_cmpR op_eq (pv 2) (pe_str) (nomark _)) (pw_and1 (pt_cmpR op_gt (pe_callB (show CallR _ _ (LT.rLenS K) from LT.call_lenS) (by rfl) T.z_len (by decide +kernel) (pa_cons (pe_ix (show IxR _ (LL.rIxA K) from LL.ix_A) (pv 1) (pe_int) (fun _ _ => rfl)) pa_nil)) (pe_int) (nomark _)))))))) (pss_one (ps_ret ((pe_and (pe_call (ok_law_deed_right T) hr rfl T.g_law_deed_right T.F_law_deed_right.kp (b_law_deed_right T) .nil pass0 (pa_cons (pv 0) (pa_cons (pv 1) pa_nil))) (pe_one (pe_call (ok_law_is_sound T) hr rfl T.g_law_is_sound T.F_law_is_sound.kp (b_law_is_sound T) .nil pass0 (pa_cons (pv 1) pa_nil))))))) pss_nil) (pss_one (ps_ret ((pe_and (pe_call (ok_law_end_right T) hr rfl T.g_law_end_right T.F_law_end_right.kp (b_law_end_right T) .nil pass0 (pa_cons (pv 1) (pa_cons (pv 2) pa_nil))) (pe_one (pe_call (ok_law_is_sound T) hr rfl T.g_law_is_sound T.F_law_is_sound.kp (b_law_is_sound T) .nil pass0 (pa_cons (pv 1) pa_nil)))))))))) ?sim ?go
  case sim =>
    try simp only [LL.cxK0, LL.cxK1, List.map_cons, List.map_nil]
    repeat' (first | with_reducible apply sim_gLst | with_reducible apply sim_tryR0 | with_reducible apply sim_tryR | with_reducible apply SimRow.cons | with_reducible exact SimRow.nil | with_reducible apply sim_mthS (dts := []) .nil | with_reducible apply sim_makeK (gT := fun ts us => ts ++ us) (fun _ _ _ _ _ _ _ h1 h2 => vdl_app h2 h1) | with_reducible apply sim_fld T.c_Ground T.n_Ground_pages | with_reducible apply sim_fld T.c_Ground T.n_Ground_width | with_reducible apply sim_fld T.c_Ground T.n_Ground_fill | with_reducible apply sim_fld T.c_Ground T.n_Ground__budget | with_reducible apply sim_fld T.c_Ground T.n_Ground__spent | with_reducible apply sim_fld T.c_Ground T.n_Ground__words | with_reducible apply sim_fld T.c_Ground T.n_Ground__holders | with_reducible apply sim_fld T.c_Ground T.n_Ground__deeds | with_reducible apply sim_setF T.c_Ground T.n_Ground_pages | with_reducible apply sim_setF T.c_Ground T.n_Ground_width | with_reducible apply sim_setF T.c_Ground T.n_Ground_fill | with_reducible apply sim_setF T.c_Ground T.n_Ground__budget | with_reducible apply sim_setF T.c_Ground T.n_Ground__spent | with_reducible apply sim_setF T.c_Ground T.n_Ground__words | with_reducible apply sim_setF T.c_Ground T.n_Ground__holders | with_reducible apply sim_setF T.c_Ground T.n_Ground__deeds | with_reducible apply sim_forI | with_reducible apply sim_pop | with_reducible apply sim_tru | with_reducible apply sim_prop | with_reducible apply sim_make (dts := []) .nil | with_reducible apply sim_make0 (dts := []) .nil | with_reducible apply sim_meth0 (dts := []) .nil | with_reducible apply sim_meth (dts := []) .nil | fail "s")
  case go =>
    intro ts Ω PQ PX hl h
    obtain ⟨v, A, o, n, rfl, W, I, hn, q⟩ := h
    obtain ⟨c, s, us, hc, hc5, hs, hl, hc6⟩ := W.len
    have e0 := asS_obj hc
    have e5 := lenT_obj hs
    have n1 : ("begin" : Str) ≠ "deed" := by decide
    have n2 : ("commit" : Str) ≠ "deed" := by decide
    have n3 : ("commit" : Str) ≠ "begin" := by decide
    have n4 : ("cancel" : Str) ≠ "deed" := by decide
    have n5 : ("cancel" : Str) ≠ "begin" := by decide
    have deed : wl_deedr K [.drw, .obj v] Ω (fun x Ω1 => ∃ c, x = .bl c ∧ if c = true then wl_sound K [.obj v] Ω1 PQ nox else PQ (.bl false) Ω1) nox := dr_call W I (by omega) fun A' o' Ω' e W' I' N => ⟨true, rfl, by rw [if_pos rfl]; exact so_call W' I' (q A' o' Ω' W' I' N)⟩
    have endt : ∀ ti : Str, (ti = "begin" ∨ ti = "cancel" ∨ ti = "commit") → (ti = "begin" → A.ss.length ≤ 59) → wl_endr K [.obj v, .str ti] Ω (fun x Ω1 => ∃ c, x = .bl c ∧ if c = true then wl_sound K [.obj v] Ω1 PQ nox else PQ (.bl false) Ω1) nox := fun ti h1 h2 => er_call W I (by omega) h1 h2 fun A' o' Ω' e W' I' N => ⟨true, rfl, by rw [if_pos rfl]; exact so_call W' I' (q A' o' Ω' W' I' N)⟩
    simp! only [N_law_turn_right, e0, e5]
    refine lst_in (tk_call (by decide) fun i i0 i1 => ⟨_, rfl, i, rfl, pickP i0 (by simp only [List.length_cons, List.length_nil]; omega) fun y hy => ?_⟩)
    simp only [List.mem_cons, List.not_mem_nil, or_false] at hy
    rcases hy with rfl | rfl | rfl | rfl | rfl | rfl | rfl | rfl | rfl
    · simp! only [n1, e0, e5]
      exact ⟨_, hc6, _, e5, fun _ => itei (fun _ => deed) fun h => endt _ (.inl rfl) fun _ => by omega⟩
    · simp! only [n1, e0, e5]
      exact ⟨_, hc6, _, e5, fun _ => itei (fun _ => deed) fun h => endt _ (.inl rfl) fun _ => by omega⟩
    · simp! only [n2, n3]
      exact endt _ (.inr (.inr rfl)) fun z => (n3 z).elim
    · simp! only [n4, n5]
      exact endt _ (.inr (.inl rfl)) fun z => (n5 z).elim
    · simp! only [and_true]
      exact deed
    · simp! only [and_true]
      exact deed
    · simp! only [and_true]
      exact deed
    · simp! only [and_true]
      exact deed
    · simp! only [and_true]
      exact deed
noncomputable def wl_alle (K : PySem.W.Frag) : Pw := fun ts Ω PQ _ => ∃ (v : Addr) (A : Ab) (o : List Addr) (n : Nat), ts = [.drw, .obj v] ∧ Wd K v A o Ω ∧ Inv A n ∧ n ≤ 5000 ∧ ∀ A' o' Ω', Wd K v A' o' Ω' → Nx o Ω o' Ω' → PQ (.bl true) Ω'
structure Along (K : PySem.W.Frag) (v : Addr) (A : Ab) (n i : Nat) (o : List Addr) (Ω Ω' : Om) : Prop where
  ex : ∃ A' o', Wd K v A' o' Ω' ∧ Inv A' (n + i) ∧ Nx o Ω o' Ω' ∧ A'.ss.length = A.ss.length - i
theorem ok_law_all_ended (T : Tx K mg) : FnOk P w K mg base CX0 11 (He.ga K "_law_all_ended") T.fd_law_all_ended P_law_all_ended (spD K (wl_alle K) 2) := by
  refine dok T.F_law_all_ended sc_law_all_ended fun cdv A outer s H E hr => ?_
  refine' dokMk (PSs.nox (pss_cons (ps_for PassesOwn.never rfl (pi_range1 rfl T.z_range (pa_cons (pe_int) pa_nil)) (pg_name (i := 2) sc_law_all_ended.nd rfl (Or.inl rfl)) (pss_one (ps_if (PW.pt (pw_and (pt_cmpR op_gt (pe_callB (show CallR _ _ (LT.rLenS K) from LT.call_lenS) (by rfl) T.z_len (by decide +kernel) (pa_cons (pe_ix (show IxR _ (LL.rIxA K) from LL.ix_A) (pv 1) (pe_int) (fun _ _ => rfl)) pa_nil)) (pe_int) (nomark _)) (pw_and1 (pt_not (pt_val (pe_call (ok_law_end_right T) hr rfl T.g_law_end_right T.F_law_end_right.kp (b_law_end_right T) .nil pass0 (pa_cons (pv 1) (pa_cons (pe_ix (show IxR _ (LL.rIxA K) from LL.ix_A) (pe_lst (pa_cons (pe_str) (pa_cons (pe_str) (pa_cons (pe_str) pa_nil)))) (pe_call (okt_law_take T) (hr.mono (by decide)) rfl T.g_law_take T.F_law_take.kp (b_law_take T) .nil pass0 (pa_cons (pv 0) (pa_cons (pe_int) pa_nil))) (fun _ _ => rfl)) pa_nil)))))))) (pss_one (ps_ret (pe_bl))) pss_nil))) (pss_cons (ps_if (PW.pt (pw_or (pt_not (pt_val (pe_call (ok_law_end_right T) hr rfl T.g_law_end_right T.F_law_end_right.kp (b_law_end_right T) .nil pass0 (pa_cons (pv 1) (pa_cons (pe_str) pa_nil))))) (pw_or1 (pt_not (pt_val (pe_call (ok_law_end_right T) hr rfl T.g_law_end_right T.F_law_end_right.kp (b_law_end_right T) .nil pass0 (pa_cons (pv 1) (pa_cons (pe_str) pa_nil)))))))) (pss_one (ps_ret (pe_bl))) pss_nil) (pss_one (ps_ret ((pe_and (pe_call (ok_law_is_sound T) hr rfl T.g_law_is_sound T.F_law_is_sound.kp (b_law_is_sound T) .nil pass0 (pa_cons (pv 1) pa_nil)) (pe_and (pe_call (ok_law_deed_right T) hr rfl T.g_law_deed_right T.F_law_deed_right.kp (b_law_deed_right T) .nil pass0 (pa_cons (pv 0) (pa_cons (pv 1) pa_nil))) (pe_one (pe_call (ok_law_is_sound T) hr rfl T.g_law_is_sound T.F_law_is_sound.kp (b_law_is_sound T) .nil pass0 (pa_cons (pv 1) pa_nil))))))))))) ?sim ?go
  case sim =>
    try simp only [LL.cxK0, LL.cxK1, List.map_cons, List.map_nil]
    repeat' (first | with_reducible apply sim_gLst | with_reducible apply sim_tryR0 | with_reducible apply sim_tryR | with_reducible apply SimRow.cons | with_reducible exact SimRow.nil | with_reducible apply sim_mthS (dts := []) .nil | with_reducible apply sim_makeK (gT := fun ts us => ts ++ us) (fun _ _ _ _ _ _ _ h1 h2 => vdl_app h2 h1) | with_reducible apply sim_fld T.c_Ground T.n_Ground_pages | with_reducible apply sim_fld T.c_Ground T.n_Ground_width | with_reducible apply sim_fld T.c_Ground T.n_Ground_fill | with_reducible apply sim_fld T.c_Ground T.n_Ground__budget | with_reducible apply sim_fld T.c_Ground T.n_Ground__spent | with_reducible apply sim_fld T.c_Ground T.n_Ground__words | with_reducible apply sim_fld T.c_Ground T.n_Ground__holders | with_reducible apply sim_fld T.c_Ground T.n_Ground__deeds | with_reducible apply sim_setF T.c_Ground T.n_Ground_pages | with_reducible apply sim_setF T.c_Ground T.n_Ground_width | with_reducible apply sim_setF T.c_Ground T.n_Ground_fill | with_reducible apply sim_setF T.c_Ground T.n_Ground__budget | with_reducible apply sim_setF T.c_Ground T.n_Ground__spent | with_reducible apply sim_setF T.c_Ground T.n_Ground__words | with_reducible apply sim_setF T.c_Ground T.n_Ground__holders | with_reducible apply sim_setF T.c_Ground T.n_Ground__deeds | with_reducible apply sim_forI | with_reducible apply sim_pop | with_reducible apply sim_tru | with_reducible apply sim_prop | with_reducible apply sim_make (dts := []) .nil | with_reducible apply sim_make0 (dts := []) .nil | with_reducible apply sim_meth0 (dts := []) .nil | with_reducible apply sim_meth (dts := []) .nil | fail "s")
  case go =>
    intro ts Ω PQ PX hl h
    obtain ⟨v, A, o, n, rfl, W, I, hn, q⟩ := h
    simp! only [N_law_all_ended]
    refine for_R1 (n := 60) (Ω1 := Ω) (fun P p => ?_) (by omega) (fun i ρ' Ω' => Along K v A n i o Ω Ω' ∧ ∃ x2, ρ' = [some .drw, some (.obj v), x2]) ⟨⟨A, o, W, I, .refl, rfl⟩, _, rfl⟩ ?_ ?_
    · simp! only [and_true]
      exact p
    · rintro i ρ' Ω' hi ⟨⟨A1, o1, W1, I1, N1, L1⟩, x2, rfl⟩
      obtain ⟨c, s, us, hc, hc5, hs, hl, hc6⟩ := W1.len
      have e0 := asS_obj hc
      have e5 := lenT_obj hs
      simp! only [e0, e5]
      refine ⟨_, hc6, _, e5, fun _ => itei (fun h => ?_) fun h => ⟨A1, o1, W1, I1.deedR .none, N1, by omega⟩⟩
      refine lst_in (tk_call (by decide) fun j j0 j1 => ⟨_, rfl, j, rfl, pickP j0 (by simp only [List.length_cons, List.length_nil]; omega) fun y hy => ?_⟩)
      have step : ∀ ti : Str, (ti = "begin" ∨ ti = "cancel" ∨ ti = "commit") → ti ≠ "begin" → wl_endr K [.obj v, .str ti] Ω' (fun x Ω1 => ∃ k, x = .bl k ∧ if (!k) = true then PQ (.bl false) Ω1 else Along K v A n (i + 1) o Ω Ω1) nox := fun ti h1 h2 => er_call W1 I1 (by omega) h1 (fun z => (h2 z).elim) fun A' o' Ω2 e W' I' N => ⟨true, rfl, by
        rw [if_neg (by decide)]
        exact ⟨A', o', W', I', N1.trans N, by rw [e.down h2]; omega⟩⟩
      simp only [List.mem_cons, List.not_mem_nil, or_false] at hy
      rcases hy with rfl | rfl | rfl
      · exact step _ (.inr (.inr rfl)) (by decide)
      · exact step _ (.inr (.inl rfl)) (by decide)
      · exact step _ (.inr (.inr rfl)) (by decide)
    · rintro ρ' Ω' ⟨⟨A1, o1, W1, I1, N1, L1⟩, x2, rfl⟩
      have I1' : Inv A1 (n + 60) := I1
      simp! only [and_true]
      refine er_call W1 I1' (by omega) (.inr (.inr rfl)) (fun z => by cases z) fun A2 o2 Ω2 e2 W2 I2 N2 => ⟨true, rfl, ?_⟩
      simp! only [and_true]
      refine er_call W2 I2 (by omega) (.inr (.inl rfl)) (fun z => by cases z) fun A3 o3 Ω3 e3 W3 I3 N3 => ⟨true, rfl, ?_⟩
      simp! only [and_true]
      refine so_call W3 I3 ⟨true, rfl, ?_⟩
      simp! only [and_true]
      refine dr_call W3 I3 (by omega) fun A4 o4 Ω4 e4 W4 I4 N4 => ⟨true, rfl, ?_⟩
      simp! only [and_true]
      exact so_call W4 I4 (q A4 o4 Ω4 W4 (((N1.trans N2).trans N3).trans N4))
end
section
open PySem PySem.Spec PyProof.Rows L2 LL LT
variable {P : Program} {w : World} {K : PySem.W.Frag} {mg : Str → Option Value} {base : Heap}

/-! ### two worlds -/
theorem Inv.mono {A : Ab} {n m : Nat} (I : Inv A n) (h : n ≤ m) : Inv A m := ⟨I.l, I.h, I.s, I.f, I.b.imp id fun ⟨b, e, k⟩ => ⟨b, e, by omega⟩, I.d⟩
theorem Wd.frame {K : PySem.W.Frag} {v : Addr} {A : Ab} {o p p' : List Addr} {Ω Ω' : Om} (W : Wd K v A o Ω) (N : Nx p Ω p' Ω') (d : ∀ y ∈ o, y ∉ p) : ∃ o', Wd K v A o' Ω' ∧ ∀ y ∈ o', y ∉ p' := by
  obtain ⟨x, es, own, rfl, ess, W⟩ := W.ex
  have sm : ∀ y, y ∈ own ++ wA x es → y ∈ o ∧ Ω y ≠ none := fun y hy => (List.mem_append.mp hy).elim (fun h => ⟨W.so y h, W.g.some h⟩) fun h => ⟨W.sl y h, W.some h⟩
  have keep : ∀ y, y ∈ own ++ wA x es → Ω' y = Ω y := fun y hy => by
    obtain ⟨h1, h2⟩ := sm y hy
    cases e : Ω y with
    | none => exact (h2 e).elim
    | some c => exact N.2 y c e (d y h1)
  refine ⟨own ++ wA x es, ⟨x, es, own, rfl, ess, ⟨W.g.other fun y hy => keep y (List.mem_append_left _ hy), W.l.keep fun q hq => keep q.1 (List.mem_append_right _ (wA_mem hq)), W.ap, fun y hy => List.mem_append_left _ hy, fun y hy => List.mem_append_right _ hy⟩⟩, fun y hy hm => ?_⟩
  obtain ⟨h1, h2⟩ := sm y hy
  exact (N.1 y hm).elim (d y h1) h2
structure Both (K : PySem.W.Frag) (v0 v1 : Addr) (n : Nat) (A0 A1 : Ab) (Ω : Om) : Prop where
  ex : ∃ o0 o1, Wd K v0 A0 o0 Ω ∧ Wd K v1 A1 o1 Ω ∧ ∀ y ∈ o0, y ∉ o1
  i0 : Inv A0 n
  i1 : Inv A1 n
theorem Both.swap {K : PySem.W.Frag} {v0 v1 : Addr} {n : Nat} {A0 A1 : Ab} {Ω : Om} (B : Both K v0 v1 n A0 A1 Ω) : Both K v1 v0 n A1 A0 Ω := by
  obtain ⟨o0, o1, W0, W1, d⟩ := B.ex
  exact ⟨⟨o1, o0, W1, W0, fun y h1 h0 => d y h0 h1⟩, B.i1, B.i0⟩
theorem Both.run {K : PySem.W.Frag} {v0 v1 : Addr} {n : Nat} {A0 A1 : Ab} {Ω : Om} (B : Both K v0 v1 n A0 A1 Ω) : ∃ o0, Wd K v0 A0 o0 Ω ∧ ∀ (m : Nat) A' o' Ω', n ≤ m → Wd K v0 A' o' Ω' → Inv A' m → Nx o0 Ω o' Ω' → Both K v0 v1 m A' A1 Ω' := by
  obtain ⟨o0, o1, W0, W1, d⟩ := B.ex
  refine ⟨o0, W0, fun m A' o' Ω' hm W' I' N => ?_⟩
  obtain ⟨o2, W2, d2⟩ := W1.frame N fun y h1 h0 => d y h0 h1
  exact ⟨⟨o', o2, W', W2, fun y h1 h2 => d2 y h2 h1⟩, I', B.i1.mono hm⟩
structure Opened (K : PySem.W.Frag) (v0 v1 : Addr) (i : Nat) (Ω : Om) : Prop where
  ex : ∃ A0 A1, Both K v0 v1 (2 * i) A0 A1 Ω ∧ A0.ss.length = i
structure Some2 (K : PySem.W.Frag) (v0 v1 : Addr) (n : Nat) (Ω : Om) : Prop where
  ex : ∃ A0 A1, Both K v0 v1 n A0 A1 Ω
theorem for_R1N {dg : DG} {db : DS} {D : DN} {ρ : En} {Ω : Om} {da : DA} {R : Int → Prop} {Ω1 : Om} (he : ∀ P : List Tr → Om → Prop, (∀ n : Int, R n → P [.int n] Ω1) → da ρ Ω P (fun y Ω' => D.ex ρ y Ω')) (hb : ∀ n, R n → -(2 ^ 62) ≤ n ∧ n < 2 ^ 62) (W : Nat → En → Om → Prop) (w0 : W 0 ρ Ω1)
    (step : ∀ n, R n → ∀ (i : Nat) ρ' Ω', (i : Int) < n → W i ρ' Ω' → dg (.int i) ρ' Ω' (fun ρ2 Ω2 => db { D with nx := W (i + 1), ct := W (i + 1), bk := D.nx } ρ2 Ω2) nox) (fin : ∀ n, R n → ∀ ρ' Ω', W n.toNat ρ' Ω' → D.nx ρ' Ω') : dFor (diR1 da) dg db D ρ Ω :=
  he _ fun n hn => ⟨n, rfl, (hb n hn).1, (hb n hn).2, W, w0, fun _ _ _ _ => trivial, fun i t ρ' Ω' e w => by
    have hi : i < n.toNat := by have := (List.getElem?_eq_some_iff.mp e).1; rwa [rngT_len] at this
    rw [rngT_get hi, Int.zero_add] at e
    cases e
    exact step n hn _ ρ' Ω' (by omega) w, fun ρ' Ω' w => fin n hn ρ' Ω' (by rw [rngT_len] at w; exact w)⟩
noncomputable def sp_law (K : PySem.W.Frag) : Sp := fun vs H Q _ => ∃ (a : Addr) (ns : List Int), vs = [.ref a] ∧ SqL K H a (ns.map V.int) ∧ ns.length ≤ 100000 ∧ ∀ H', Q (.bl true) H'
theorem ok_law (T : Tx K mg) : FnOk P w K mg base CX0 12 (He.ga K "law") T.fd_law P_law (sp_law K) := by
  refine T.F_law.ok sc_law (fun vs H Q E h => by obtain ⟨_, _, rfl, _⟩ := h; rfl) (fun cdv A outer s H vs Q E hr h => ?_)
  obtain ⟨a, ns, rfl, hs, hn, q⟩ := h
  refine ⟨_, PSs.nox (pss_cons (ps_set (i := 1) sc_law.nd rfl (Or.inl rfl) (pe_call (ok_law_draws T) (hr.mono (by decide)) rfl T.g_law_draws T.F_law_draws.kp (b_law_draws T) .nil pass0 (pa_cons (pv 0) pa_nil))) (pss_cons (ps_set (i := 2) sc_law.nd rfl (Or.inl rfl) (pe_lst (pa_cons (pe_call (ok_law_ground_made T) (hr.mono (by decide)) rfl T.g_law_ground_made T.F_law_ground_made.kp (b_law_ground_made T) .nil pass0 (pa_cons (pv 1) pa_nil)) (pa_cons (pe_call (ok_law_ground_made T) (hr.mono (by decide)) rfl T.g_law_ground_made T.F_law_ground_made.kp (b_law_ground_made T) .nil pass0 (pa_cons (pv 1) pa_nil)) pa_nil)))) (pss_cons (ps_for PassesOwn.never rfl (pi_range1 rfl T.z_range (pa_cons (pe_ix (show IxR _ (LL.rIxA K) from LL.ix_A) (pe_lst (pa_cons (pe_int) (pa_cons (pe_call (ok_law_between T) (hr.mono (by decide)) rfl T.g_law_between T.F_law_between.kp (b_law_between T) .nil pass0 (pa_cons (pv 1) (pa_cons (pe_int) (pa_cons (pe_int) pa_nil)))) pa_nil))) (pe_op op_fdiv (pe_call (okt_law_take T) (hr.mono (by decide)) rfl T.g_law_take T.F_law_take.kp (b_law_take T) .nil pass0 (pa_cons (pv 1) (pa_cons (pe_int) pa_nil))) (pe_int)) (fun _ _ => rfl)) pa_nil)) (pg_name (i := 3) sc_law.nd rfl (Or.inl rfl)) (pss_cons (ps_if (pt_not (pt_val (pe_call (ok_law_end_right T) (hr.mono (by decide)) rfl T.g_law_end_right T.F_law_end_right.kp (b_law_end_right T) .nil pass0 (pa_cons (pe_ix (show IxR _ (LL.rIxA K) from LL.ix_A) (pv 2) (pe_int) (fun _ _ => rfl)) (pa_cons (pe_str) pa_nil))))) (pss_one (ps_ret (pe_bl))) pss_nil) (pss_one (ps_if (PW.pt (pw_and (pt_cmpR op_lt (pv 3) (pe_int) (nomark _)) (pw_and1 (pt_not (pt_val (pe_call (ok_law_deed_right T) (hr.mono (by decide)) rfl T.g_law_deed_right T.F_law_deed_right.kp (b_law_deed_right T) .nil pass0 (pa_cons (pv 1) (pa_cons (pe_ix (show IxR _ (LL.rIxA K) from LL.ix_A) (pv 2) (pe_int) (fun _ _ => rfl)) pa_nil)))))))) (pss_one (ps_ret (pe_bl))) pss_nil)))) (pss_cons (ps_for PassesOwn.never rfl (pi_range1 rfl T.z_range (pa_cons (pe_op (show OpR _ _ (LT.rAddG K) from LT.op_addG) (pe_int) (pe_call (ok_law_count T) (hr.mono (by decide)) rfl T.g_law_count T.F_law_count.kp (b_law_count T) .nil pass0 (pa_cons (pv 1) (pa_cons (pe_int) (pa_cons (pe_int) pa_nil))))) pa_nil)) (pg_name (i := 3) sc_law.nd rfl (Or.inl rfl)) (pss_one (ps_if (pt_not (pt_val (pe_call (ok_law_turn_right T) hr rfl T.g_law_turn_right T.F_law_turn_right.kp (b_law_turn_right T) .nil pass0 (pa_cons (pv 1) (pa_cons (pe_ix (show IxR _ (LL.rIxA K) from LL.ix_A) (pv 2) (pe_call (okt_law_take T) (hr.mono (by decide)) rfl T.g_law_take T.F_law_take.kp (b_law_take T) .nil pass0 (pa_cons (pv 1) (pa_cons (pe_int) pa_nil))) (fun _ _ => rfl)) pa_nil))))) (pss_one (ps_ret (pe_bl))) pss_nil))) (pss_one (ps_ret ((pe_and (pe_call (ok_law_all_ended T) hr rfl T.g_law_all_ended T.F_law_all_ended.kp (b_law_all_ended T) .nil pass0 (pa_cons (pv 1) (pa_cons (pe_ix (show IxR _ (LL.rIxA K) from LL.ix_A) (pv 2) (pe_int) (fun _ _ => rfl)) pa_nil))) (pe_one (pe_call (ok_law_all_ended T) hr rfl T.g_law_all_ended T.F_law_all_ended.kp (b_law_all_ended T) .nil pass0 (pa_cons (pv 1) (pa_cons (pe_ix (show IxR _ (LL.rIxA K) from LL.ix_A) (pv 2) (pe_int) (fun _ _ => rfl)) pa_nil)))))))))))), ?_⟩
  refine law_cut (fun σ' H' => ∃ d s, σ' = some (.ref a) :: some (.ref d) :: List.replicate 2 none ∧ Drw d s H') ?_ ?_
  · intro N hN
    simp only [tSeq, tAsg, tRet, tRetN, tDrop, tNext, tVar, tC, gName, tOp, tUn, rI, rI0, rU, tIfS, tTest, tB, tIf, tAnd, tOr, tNot, tAndV, tOrV, tNotV, tCall, tCons, tNil, tCB, tLst, tTup, tChain, CMul, CDiv, CPow, rEq, rNe, gSub, L2.start, LL.cxK0, LL.cxK1, List.map_cons, List.map_nil, List.length_cons, List.length_nil, List.replicate_succ, List.replicate_zero, List.cons_append, List.nil_append, List.append_nil, List.getElem?_cons_zero, List.getElem?_cons_succ, List.set_cons_zero, List.set_cons_succ, Nat.add_sub_cancel, Nat.reduceAdd, Nat.reduceSub, Option.some.injEq, V.int.injEq, V.bl.injEq, V.ref.injEq, V.str.injEq, List.cons.injEq, and_true, true_and, and_false, false_and, exists_eq_left, exists_eq_left', exists_and_left, exists_and_right, exists_eq, exists_eq', LL.if_dec, reduceCtorEq, exists_false, exists_const, or_false, false_or, if_true, if_false, LL.rInt1, LL.rMx, LL.rMn, and_assoc, Int.reduceNeg, Int.reduceLT, Int.reduceLE, Int.reduceMul, Int.reduceAdd, Int.reduceSub, Int.reducePow, Int.reduceToNat, Nat.reducePow, Nat.reduceLT, true_or, or_true, Bool.not_true, Bool.not_false, Bool.false_eq_true, Bool.or_false, Bool.or_true, Bool.true_or, Bool.false_or, decide_true, decide_false, not_true_eq_false, not_false_eq_true, LL.scal_int, LL.scal_bl, LL.scal_str, LL.isInt, LL.isBl, LL.isStr, LL.isLst, LL.isTup, LL.isDic, N_law]
    exact ⟨a, ns, rfl, hs, hn, fun d s H1 s1 D1 nd ns' => hN _ _ ⟨d, s, rfl, D1⟩⟩
  · rintro σ' H' ⟨d, s', rfl, D1⟩
    refine' law_sim (K := K) (E := fun _ => E) (n := 2) ?sim rfl D1 q _ ?go
    case sim =>
      try simp only [LL.cxK0, LL.cxK1, List.map_cons, List.map_nil]
      repeat' (first | with_reducible apply sim_gLst | with_reducible apply sim_tryR0 | with_reducible apply sim_tryR | with_reducible apply SimRow.cons | with_reducible exact SimRow.nil | with_reducible apply sim_mthS (dts := []) .nil | with_reducible apply sim_makeK (gT := fun ts us => ts ++ us) (fun _ _ _ _ _ _ _ h1 h2 => vdl_app h2 h1) | with_reducible apply sim_fld T.c_Ground T.n_Ground_pages | with_reducible apply sim_fld T.c_Ground T.n_Ground_width | with_reducible apply sim_fld T.c_Ground T.n_Ground_fill | with_reducible apply sim_fld T.c_Ground T.n_Ground__budget | with_reducible apply sim_fld T.c_Ground T.n_Ground__spent | with_reducible apply sim_fld T.c_Ground T.n_Ground__words | with_reducible apply sim_fld T.c_Ground T.n_Ground__holders | with_reducible apply sim_fld T.c_Ground T.n_Ground__deeds | with_reducible apply sim_setF T.c_Ground T.n_Ground_pages | with_reducible apply sim_setF T.c_Ground T.n_Ground_width | with_reducible apply sim_setF T.c_Ground T.n_Ground_fill | with_reducible apply sim_setF T.c_Ground T.n_Ground__budget | with_reducible apply sim_setF T.c_Ground T.n_Ground__spent | with_reducible apply sim_setF T.c_Ground T.n_Ground__words | with_reducible apply sim_setF T.c_Ground T.n_Ground__holders | with_reducible apply sim_setF T.c_Ground T.n_Ground__deeds | with_reducible apply sim_forI | with_reducible apply sim_pop | with_reducible apply sim_tru | with_reducible apply sim_prop | with_reducible apply sim_make (dts := []) .nil | with_reducible apply sim_make0 (dts := []) .nil | with_reducible apply sim_meth0 (dts := []) .nil | with_reducible apply sim_meth (dts := []) .nil | fail "s")
    case go =>
      generalize (fun _ => none : Om) = Ω
      simp! only [N_law]
      refine ⟨rfl, fun v0 A0 o0 Ω0 W0 I0 s0 N0 => ⟨rfl, fun v1 A1 o1 Ω1 W1 I1 s1 N1 => lst_in ?_⟩⟩
      have B0 : Both K v0 v1 0 A0 A1 Ω1 := by
        obtain ⟨o2, W2, d2⟩ := W0.frame N1 fun y _ z => (List.not_mem_nil z).elim
        exact ⟨⟨o2, o1, W2, W1, d2⟩, I0, I1⟩
      refine for_R1N (R := fun n => 0 ≤ n ∧ n ≤ 60) (Ω1 := Ω1) (fun P p => ?_) (fun n hn => by omega) (fun i ρ' Ω' => Opened K v0 v1 i Ω' ∧ ∃ x3, ρ' = [none, some .drw, some (.lst [Tr.obj v0, .obj v1]), x3]) ⟨⟨A0, A1, B0, by rw [s0]; rfl⟩, _, rfl⟩ ?_ ?_
      · simp! only [and_true]
        refine bt_call (by decide) fun b b0 b1 => lst_in (tk_call (by decide) fun t t0 t1 => ?_)
        simp! only [and_true]
        refine ⟨by unfold CDiv; omega, pickP (by omega) (by simp only [List.length_cons, List.length_nil]; omega) fun x hx => ?_⟩
        simp only [List.mem_cons, List.not_mem_nil, or_false] at hx
        rcases hx with rfl | rfl
        · exact p 0 ⟨by omega, by omega⟩
        · exact p b ⟨by omega, by omega⟩
      · rintro n hn i ρ' Ω' hi ⟨⟨A2, A3, B, hl⟩, x3, rfl⟩
        obtain ⟨p0, W2, run⟩ := B.run
        simp! only [and_true]
        refine er_call W2 B.i0 (by omega) (.inl rfl) (fun _ => by omega) fun A4 p4 Ω4 e4 W4 I4 N4 => ⟨true, rfl, ?_⟩
        have B4 := run _ A4 p4 Ω4 (Nat.le_succ _) W4 I4 N4
        simp! only [and_true]
        refine itei (fun h => ?_) fun h => ⟨A4, A3, ⟨B4.ex, B4.i0.mono (by omega), B4.i1.mono (by omega)⟩, by rw [e4.up, hl]⟩
        obtain ⟨p5, W5, run5⟩ := B4.run
        refine dr_call W5 B4.i0 (by omega) fun A6 p6 Ω6 e6 W6 I6 N6 => ⟨true, rfl, ?_⟩
        have B6 := run5 _ A6 p6 Ω6 (Nat.le_succ _) W6 I6 N6
        simp! only [and_true]
        exact ⟨A6, A3, ⟨B6.ex, B6.i0.mono (by omega), B6.i1.mono (by omega)⟩, by rw [e6.same, e4.up, hl]⟩
      · rintro n hn ρ' Ω' ⟨⟨A2, A3, B, hl⟩, x3, rfl⟩
        simp! only [and_true]
        refine for_R1N (R := fun n => 0 ≤ n ∧ n ≤ 46) (Ω1 := Ω') (fun P p => ?_) (fun n hn => by omega) (fun i ρ' Ω' => Some2 K v0 v1 (120 + i) Ω' ∧ ∃ x3, ρ' = [none, some .drw, some (.lst [Tr.obj v0, .obj v1]), x3]) ⟨⟨A2, A3, B.ex, B.i0.mono (by omega), B.i1.mono (by omega)⟩, _, rfl⟩ ?_ ?_
        · simp! only [and_true]
          exact ct_call (by decide) fun v a0 a1 => p _ ⟨by omega, by omega⟩
        · rintro m hm i ρ' Ω2 hi ⟨⟨A4, A5, B4⟩, x3, rfl⟩
          simp! only [and_true]
          refine tk_call (by decide) fun t t0 t1 => ⟨t, rfl, pickP t0 (by simp only [List.length_cons, List.length_nil]; omega) fun y hy => ?_⟩
          simp only [List.mem_cons, List.not_mem_nil, or_false] at hy
          rcases hy with rfl | rfl
          · obtain ⟨p5, W5, run5⟩ := B4.run
            refine ⟨v0, A4, p5, _, rfl, W5, B4.i0, by omega, fun A6 p6 Ω6 W6 I6 N6 => ⟨true, rfl, ?_⟩⟩
            have B6 := run5 _ A6 p6 Ω6 (Nat.le_succ _) W6 I6 N6
            simp! only [and_true]
            exact ⟨A6, A5, B6⟩
          · obtain ⟨p5, W5, run5⟩ := B4.swap.run
            refine ⟨v1, A5, p5, _, rfl, W5, B4.i1, by omega, fun A6 p6 Ω6 W6 I6 N6 => ⟨true, rfl, ?_⟩⟩
            have B6 := (run5 _ A6 p6 Ω6 (Nat.le_succ _) W6 I6 N6).swap
            simp! only [and_true]
            exact ⟨A4, A6, B6⟩
        · rintro m hm ρ' Ω2 ⟨⟨A4, A5, B4⟩, x3, rfl⟩
          obtain ⟨q0, q1, X0, X1, dj⟩ := B4.ex
          simp! only [and_true]
          refine ⟨v0, A4, q0, _, rfl, X0, B4.i0, by omega, fun A6 p6 Ω6 W6 N6 => ⟨true, rfl, ?_⟩⟩
          obtain ⟨o7, X7, _⟩ := X1.frame N6 fun y h1 h0 => dj y h0 h1
          simp! only [and_true]
          exact ⟨v1, A5, o7, _, rfl, X7, B4.i1, by omega, fun _ _ _ _ _ => rfl⟩
end
section
open PySem PySem.Spec PyProof.Rows L2 LL LT
variable {P : Program} {w : World} {K : PySem.W.Frag} {mg : Str → Option Value} {base : Heap}

theorem tx_of {K : PySem.W.Frag} {h : Heap} {mg : Str → Option Value} (X : K.In h) (G : h.Ns mainGlobals mg) (c : SaysP fa fn prs (fun K => exs.all fun e => e K) K) : Nonempty (Tx K mg) := by
  obtain ⟨fd_wall, F_wall⟩ := c.d.def_ 0 (d := dd_wall) rfl
  obtain ⟨fd_is_whole, F_is_whole⟩ := c.d.def_ 1 (d := dd_is_whole) rfl
  obtain ⟨fd_is_holder, F_is_holder⟩ := c.d.def_ 2 (d := dd_is_holder) rfl
  obtain ⟨fd_need, F_need⟩ := c.d.def_ 3 (d := dd_need) rfl
  obtain ⟨fd_need_whole, F_need_whole⟩ := c.d.def_ 4 (d := dd_need_whole) rfl
  obtain ⟨fd_is_word, F_is_word⟩ := c.d.def_ 5 (d := dd_is_word) rfl
  obtain ⟨fd_is_width, F_is_width⟩ := c.d.def_ 6 (d := dd_is_width) rfl
  obtain ⟨fd_is_budget, F_is_budget⟩ := c.d.def_ 7 (d := dd_is_budget) rfl
  obtain ⟨fd_law_draws, F_law_draws⟩ := c.d.def_ 8 (d := dd_law_draws) rfl
  obtain ⟨fd_law_next_cell, F_law_next_cell⟩ := c.d.def_ 9 (d := dd_law_next_cell) rfl
  obtain ⟨fd_law_mixed, F_law_mixed⟩ := c.d.def_ 10 (d := dd_law_mixed) rfl
  obtain ⟨fd_law_take, F_law_take⟩ := c.d.def_ 11 (d := dd_law_take) rfl
  obtain ⟨fd_law_among, F_law_among⟩ := c.d.def_ 12 (d := dd_law_among) rfl
  obtain ⟨fd_law_between, F_law_between⟩ := c.d.def_ 13 (d := dd_law_between) rfl
  obtain ⟨fd_law_count, F_law_count⟩ := c.d.def_ 14 (d := dd_law_count) rfl
  obtain ⟨fd_law_same, F_law_same⟩ := c.d.def_ 15 (d := dd_law_same) rfl
  obtain ⟨fd_law_holders, F_law_holders⟩ := c.d.def_ 16 (d := dd_law_holders) rfl
  obtain ⟨fd_law_holder, F_law_holder⟩ := c.d.def_ 17 (d := dd_law_holder) rfl
  obtain ⟨fd_law_word, F_law_word⟩ := c.d.def_ 18 (d := dd_law_word) rfl
  obtain ⟨fd_law_blank, F_law_blank⟩ := c.d.def_ 19 (d := dd_law_blank) rfl
  obtain ⟨fd_law_ground_deed, F_law_ground_deed⟩ := c.d.def_ 20 (d := dd_law_ground_deed) rfl
  obtain ⟨fd_law_deed_due, F_law_deed_due⟩ := c.d.def_ 21 (d := dd_law_deed_due) rfl
  obtain ⟨fd_law_deed_made, F_law_deed_made⟩ := c.d.def_ 22 (d := dd_law_deed_made) rfl
  obtain ⟨fd_law_kinds, F_law_kinds⟩ := c.d.def_ 23 (d := dd_law_kinds) rfl
  obtain ⟨fd_law_refused, F_law_refused⟩ := c.d.def_ 24 (d := dd_law_refused) rfl
  obtain ⟨fd_law_ended, F_law_ended⟩ := c.d.def_ 25 (d := dd_law_ended) rfl
  obtain ⟨fd_law_done, F_law_done⟩ := c.d.def_ 26 (d := dd_law_done) rfl
  obtain ⟨fd_law_ground_made, F_law_ground_made⟩ := c.d.def_ 27 (d := dd_law_ground_made) rfl
  obtain ⟨fd_law_cost_since, F_law_cost_since⟩ := c.d.def_ 28 (d := dd_law_cost_since) rfl
  obtain ⟨fd_law_charged, F_law_charged⟩ := c.d.def_ 29 (d := dd_law_charged) rfl
  obtain ⟨fd_law_end_right, F_law_end_right⟩ := c.d.def_ 30 (d := dd_law_end_right) rfl
  obtain ⟨fd_law_deed_right, F_law_deed_right⟩ := c.d.def_ 31 (d := dd_law_deed_right) rfl
  obtain ⟨fd_law_is_sound, F_law_is_sound⟩ := c.d.def_ 32 (d := dd_law_is_sound) rfl
  obtain ⟨fd_law_turn_right, F_law_turn_right⟩ := c.d.def_ 33 (d := dd_law_turn_right) rfl
  obtain ⟨fd_law_all_ended, F_law_all_ended⟩ := c.d.def_ 34 (d := dd_law_all_ended) rfl
  obtain ⟨fd_law, F_law⟩ := c.d.def_ 35 (d := dd_law) rfl
  obtain ⟨fd_BadValue, F_BadValue⟩ := c.d.def_ 36 (d := dd_BadValue) rfl
  obtain ⟨fd_Broken, F_Broken⟩ := c.d.def_ 37 (d := dd_Broken) rfl
  obtain ⟨fd_Unknown, F_Unknown⟩ := c.d.def_ 38 (d := dd_Unknown) rfl
  obtain ⟨fd_NotHeld, F_NotHeld⟩ := c.d.def_ 39 (d := dd_NotHeld) rfl
  obtain ⟨fd_Cut, F_Cut⟩ := c.d.def_ 40 (d := dd_Cut) rfl
  obtain ⟨fd_Ground_init, F_Ground_init⟩ := c.d.def_ 41 (d := dd_Ground_init) rfl
  obtain ⟨fd_Ground_need_place, F_Ground_need_place⟩ := c.d.def_ 42 (d := dd_Ground_need_place) rfl
  obtain ⟨fd_Ground_read, F_Ground_read⟩ := c.d.def_ 43 (d := dd_Ground_read) rfl
  obtain ⟨fd_Ground_write, F_Ground_write⟩ := c.d.def_ 44 (d := dd_Ground_write) rfl
  obtain ⟨fd_Ground_poke, F_Ground_poke⟩ := c.d.def_ 45 (d := dd_Ground_poke) rfl
  obtain ⟨fd_Ground_pass_on, F_Ground_pass_on⟩ := c.d.def_ 46 (d := dd_Ground_pass_on) rfl
  obtain ⟨fd_Ground_need_fill, F_Ground_need_fill⟩ := c.d.def_ 47 (d := dd_Ground_need_fill) rfl
  obtain ⟨fd_Ground_need_held, F_Ground_need_held⟩ := c.d.def_ 48 (d := dd_Ground_need_held) rfl
  obtain ⟨fd_Ground_image, F_Ground_image⟩ := c.d.def_ 49 (d := dd_Ground_image) rfl
  obtain ⟨fd_Ground_begin, F_Ground_begin⟩ := c.d.def_ 50 (d := dd_Ground_begin) rfl
  obtain ⟨fd_Ground_commit, F_Ground_commit⟩ := c.d.def_ 51 (d := dd_Ground_commit) rfl
  obtain ⟨fd_Ground_cancel, F_Ground_cancel⟩ := c.d.def_ 52 (d := dd_Ground_cancel) rfl
  obtain ⟨fd_Ground_change, F_Ground_change⟩ := c.d.def_ 53 (d := dd_Ground_change) rfl
  obtain ⟨fd_Ground_cost, F_Ground_cost⟩ := c.d.def_ 54 (d := dd_Ground_cost) rfl
  obtain ⟨fd_Ground_pass_out, F_Ground_pass_out⟩ := c.d.def_ 55 (d := dd_Ground_pass_out) rfl
  obtain ⟨fd_Ground_charge, F_Ground_charge⟩ := c.d.def_ 56 (d := dd_Ground_charge) rfl
  obtain ⟨⟨fd_Ground_top, F_Ground_top⟩, P_Ground_top⟩ := c.pr 0 (d := pp_Ground_top) rfl
  obtain ⟨⟨fd_Ground_spent, F_Ground_spent⟩, P_Ground_spent⟩ := c.pr 1 (d := pp_Ground_spent) rfl
  obtain ⟨⟨fd_Ground_depth, F_Ground_depth⟩, P_Ground_depth⟩ := c.pr 2 (d := pp_Ground_depth) rfl
  obtain ⟨⟨fd_Ground_budget, F_Ground_budget⟩, P_Ground_budget⟩ := c.pr 3 (d := pp_Ground_budget) rfl
  exact ⟨{ fd_wall := fd_wall, F_wall := F_wall, g_wall := He.glo_ok X G (c.d.fact 0 (f := .glo "_wall") rfl), fd_is_whole := fd_is_whole, F_is_whole := F_is_whole, g_is_whole := He.glo_ok X G (c.d.fact 1 (f := .glo "is_whole") rfl), fd_is_holder := fd_is_holder, F_is_holder := F_is_holder, g_is_holder := He.glo_ok X G (c.d.fact 2 (f := .glo "is_holder") rfl), fd_need := fd_need, F_need := F_need, g_need := He.glo_ok X G (c.d.fact 3 (f := .glo "need") rfl), fd_need_whole := fd_need_whole, F_need_whole := F_need_whole, g_need_whole := He.glo_ok X G (c.d.fact 4 (f := .glo "need_whole") rfl), fd_is_word := fd_is_word, F_is_word := F_is_word, g_is_word := He.glo_ok X G (c.d.fact 5 (f := .glo "is_word") rfl), fd_is_width := fd_is_width, F_is_width := F_is_width, g_is_width := He.glo_ok X G (c.d.fact 6 (f := .glo "is_width") rfl), fd_is_budget := fd_is_budget, F_is_budget := F_is_budget, g_is_budget := He.glo_ok X G (c.d.fact 7 (f := .glo "is_budget") rfl), fd_law_draws := fd_law_draws, F_law_draws := F_law_draws, g_law_draws := He.glo_ok X G (c.d.fact 8 (f := .glo "_law_draws") rfl), fd_law_next_cell := fd_law_next_cell, F_law_next_cell := F_law_next_cell, g_law_next_cell := He.glo_ok X G (c.d.fact 9 (f := .glo "_law_next_cell") rfl), fd_law_mixed := fd_law_mixed, F_law_mixed := F_law_mixed, g_law_mixed := He.glo_ok X G (c.d.fact 10 (f := .glo "_law_mixed") rfl), fd_law_take := fd_law_take, F_law_take := F_law_take, g_law_take := He.glo_ok X G (c.d.fact 11 (f := .glo "_law_take") rfl), fd_law_among := fd_law_among, F_law_among := F_law_among, g_law_among := He.glo_ok X G (c.d.fact 12 (f := .glo "_law_among") rfl), fd_law_between := fd_law_between, F_law_between := F_law_between, g_law_between := He.glo_ok X G (c.d.fact 13 (f := .glo "_law_between") rfl), fd_law_count := fd_law_count, F_law_count := F_law_count, g_law_count := He.glo_ok X G (c.d.fact 14 (f := .glo "_law_count") rfl), fd_law_same := fd_law_same, F_law_same := F_law_same, g_law_same := He.glo_ok X G (c.d.fact 15 (f := .glo "_law_same") rfl), fd_law_holders := fd_law_holders, F_law_holders := F_law_holders, g_law_holders := He.glo_ok X G (c.d.fact 16 (f := .glo "_law_holders") rfl), fd_law_holder := fd_law_holder, F_law_holder := F_law_holder, g_law_holder := He.glo_ok X G (c.d.fact 17 (f := .glo "_law_holder") rfl), fd_law_word := fd_law_word, F_law_word := F_law_word, g_law_word := He.glo_ok X G (c.d.fact 18 (f := .glo "_law_word") rfl), fd_law_blank := fd_law_blank, F_law_blank := F_law_blank, g_law_blank := He.glo_ok X G (c.d.fact 19 (f := .glo "_law_blank") rfl), fd_law_ground_deed := fd_law_ground_deed, F_law_ground_deed := F_law_ground_deed, g_law_ground_deed := He.glo_ok X G (c.d.fact 20 (f := .glo "_law_ground_deed") rfl), fd_law_deed_due := fd_law_deed_due, F_law_deed_due := F_law_deed_due, g_law_deed_due := He.glo_ok X G (c.d.fact 21 (f := .glo "_law_deed_due") rfl), fd_law_deed_made := fd_law_deed_made, F_law_deed_made := F_law_deed_made, g_law_deed_made := He.glo_ok X G (c.d.fact 22 (f := .glo "_law_deed_made") rfl), fd_law_kinds := fd_law_kinds, F_law_kinds := F_law_kinds, g_law_kinds := He.glo_ok X G (c.d.fact 23 (f := .glo "_law_kinds") rfl), fd_law_refused := fd_law_refused, F_law_refused := F_law_refused, g_law_refused := He.glo_ok X G (c.d.fact 24 (f := .glo "_law_refused") rfl), fd_law_ended := fd_law_ended, F_law_ended := F_law_ended, g_law_ended := He.glo_ok X G (c.d.fact 25 (f := .glo "_law_ended") rfl), fd_law_done := fd_law_done, F_law_done := F_law_done, g_law_done := He.glo_ok X G (c.d.fact 26 (f := .glo "_law_done") rfl), fd_law_ground_made := fd_law_ground_made, F_law_ground_made := F_law_ground_made, g_law_ground_made := He.glo_ok X G (c.d.fact 27 (f := .glo "_law_ground_made") rfl), fd_law_cost_since := fd_law_cost_since, F_law_cost_since := F_law_cost_since, g_law_cost_since := He.glo_ok X G (c.d.fact 28 (f := .glo "_law_cost_since") rfl), fd_law_charged := fd_law_charged, F_law_charged := F_law_charged, g_law_charged := He.glo_ok X G (c.d.fact 29 (f := .glo "_law_charged") rfl), fd_law_end_right := fd_law_end_right, F_law_end_right := F_law_end_right, g_law_end_right := He.glo_ok X G (c.d.fact 30 (f := .glo "_law_end_right") rfl), fd_law_deed_right := fd_law_deed_right, F_law_deed_right := F_law_deed_right, g_law_deed_right := He.glo_ok X G (c.d.fact 31 (f := .glo "_law_deed_right") rfl), fd_law_is_sound := fd_law_is_sound, F_law_is_sound := F_law_is_sound, g_law_is_sound := He.glo_ok X G (c.d.fact 32 (f := .glo "_law_is_sound") rfl), fd_law_turn_right := fd_law_turn_right, F_law_turn_right := F_law_turn_right, g_law_turn_right := He.glo_ok X G (c.d.fact 33 (f := .glo "_law_turn_right") rfl), fd_law_all_ended := fd_law_all_ended, F_law_all_ended := F_law_all_ended, g_law_all_ended := He.glo_ok X G (c.d.fact 34 (f := .glo "_law_all_ended") rfl), fd_law := fd_law, F_law := F_law, g_law := He.glo_ok X G (c.d.fact 35 (f := .glo "law") rfl), c_MAP := He.int_ok X G (c.d.fact 36 (f := .int "MAP" 21) rfl), c_MOST_BUDGET := He.int_ok X G (c.d.fact 37 (f := .int "MOST_BUDGET" 1000000000) rfl), c_MOST_PAGES := He.int_ok X G (c.d.fact 38 (f := .int "MOST_PAGES" 256) rfl), c_MOST_WORD := He.int_ok X G (c.d.fact 39 (f := .int "MOST_WORD" 65535) rfl), c_NOBODY := He.int_ok X G (c.d.fact 40 (f := .int "NOBODY" 0) rfl), c_NODE := He.int_ok X G (c.d.fact 41 (f := .int "NODE" 28) rfl), g_WIDTHS := He.glo_ok X G (c.d.fact 42 (f := .glo "WIDTHS") rfl), g_BadLine := He.glo_ok X G (c.d.fact 43 (f := .glo "BadLine") rfl), g_BadValue := He.glo_ok X G (c.d.fact 44 (f := .glo "BadValue") rfl), g_Broken := He.glo_ok X G (c.d.fact 45 (f := .glo "Broken") rfl), g_Cut := He.glo_ok X G (c.d.fact 46 (f := .glo "Cut") rfl), g_Fault := He.glo_ok X G (c.d.fact 47 (f := .glo "Fault") rfl), g_Ground := He.glo_ok X G (c.d.fact 48 (f := .glo "Ground") rfl), g_NoRoom := He.glo_ok X G (c.d.fact 49 (f := .glo "NoRoom") rfl), g_NotHeld := He.glo_ok X G (c.d.fact 50 (f := .glo "NotHeld") rfl), g_StoreError := He.glo_ok X G (c.d.fact 51 (f := .glo "StoreError") rfl), g_Unknown := He.glo_ok X G (c.d.fact 52 (f := .glo "Unknown") rfl), z_ValueError := He.free_ok X G (c.d.fact 53 (f := .free "ValueError") rfl), z_bool := He.free_ok X G (c.d.fact 54 (f := .free "bool") rfl), z_dict := He.free_ok X G (c.d.fact 55 (f := .free "dict") rfl), z_int := He.free_ok X G (c.d.fact 56 (f := .free "int") rfl), z_isinstance := He.free_ok X G (c.d.fact 57 (f := .free "isinstance") rfl), z_len := He.free_ok X G (c.d.fact 58 (f := .free "len") rfl), z_list := He.free_ok X G (c.d.fact 59 (f := .free "list") rfl), z_min := He.free_ok X G (c.d.fact 60 (f := .free "min") rfl), z_range := He.free_ok X G (c.d.fact 61 (f := .free "range") rfl), z_str := He.free_ok X G (c.d.fact 62 (f := .free "str") rfl), z_tuple := He.free_ok X G (c.d.fact 63 (f := .free "tuple") rfl), fd_BadValue := fd_BadValue, F_BadValue := F_BadValue, fd_Broken := fd_Broken, F_Broken := F_Broken, fd_Unknown := fd_Unknown, F_Unknown := F_Unknown, fd_NotHeld := fd_NotHeld, F_NotHeld := F_NotHeld, fd_Cut := fd_Cut, F_Cut := F_Cut, fd_Ground_init := fd_Ground_init, F_Ground_init := F_Ground_init, fd_Ground_need_place := fd_Ground_need_place, F_Ground_need_place := F_Ground_need_place, fd_Ground_read := fd_Ground_read, F_Ground_read := F_Ground_read, fd_Ground_write := fd_Ground_write, F_Ground_write := F_Ground_write, fd_Ground_poke := fd_Ground_poke, F_Ground_poke := F_Ground_poke, fd_Ground_pass_on := fd_Ground_pass_on, F_Ground_pass_on := F_Ground_pass_on, fd_Ground_need_fill := fd_Ground_need_fill, F_Ground_need_fill := F_Ground_need_fill, fd_Ground_need_held := fd_Ground_need_held, F_Ground_need_held := F_Ground_need_held, fd_Ground_image := fd_Ground_image, F_Ground_image := F_Ground_image, fd_Ground_begin := fd_Ground_begin, F_Ground_begin := F_Ground_begin, fd_Ground_commit := fd_Ground_commit, F_Ground_commit := F_Ground_commit, fd_Ground_cancel := fd_Ground_cancel, F_Ground_cancel := F_Ground_cancel, fd_Ground_change := fd_Ground_change, F_Ground_change := F_Ground_change, fd_Ground_cost := fd_Ground_cost, F_Ground_cost := F_Ground_cost, fd_Ground_pass_out := fd_Ground_pass_out, F_Ground_pass_out := F_Ground_pass_out, fd_Ground_charge := fd_Ground_charge, F_Ground_charge := F_Ground_charge, fd_Ground_top := fd_Ground_top, F_Ground_top := F_Ground_top, fd_Ground_spent := fd_Ground_spent, F_Ground_spent := F_Ground_spent, fd_Ground_depth := fd_Ground_depth, F_Ground_depth := F_Ground_depth, fd_Ground_budget := fd_Ground_budget, F_Ground_budget := F_Ground_budget, p_Ground_top := P_Ground_top, p_Ground_spent := P_Ground_spent, p_Ground_depth := P_Ground_depth, p_Ground_budget := P_Ground_budget, k_Ground := He.mkr_ok (c.d.fact 64 (f := .mkr "Ground") rfl), h_Ground_need_place := He.meth_ok (c.d.fact 65 (f := .meth "Ground" "_need_place") rfl), h_Ground_read := He.meth_ok (c.d.fact 66 (f := .meth "Ground" "read") rfl), h_Ground_write := He.meth_ok (c.d.fact 67 (f := .meth "Ground" "write") rfl), h_Ground_poke := He.meth_ok (c.d.fact 68 (f := .meth "Ground" "poke") rfl), h_Ground_pass_on := He.meth_ok (c.d.fact 69 (f := .meth "Ground" "pass_on") rfl), h_Ground_need_fill := He.meth_ok (c.d.fact 70 (f := .meth "Ground" "_need_fill") rfl), h_Ground_need_held := He.meth_ok (c.d.fact 71 (f := .meth "Ground" "_need_held") rfl), h_Ground_image := He.meth_ok (c.d.fact 72 (f := .meth "Ground" "image") rfl), h_Ground_begin := He.meth_ok (c.d.fact 73 (f := .meth "Ground" "begin") rfl), h_Ground_commit := He.meth_ok (c.d.fact 74 (f := .meth "Ground" "commit") rfl), h_Ground_cancel := He.meth_ok (c.d.fact 75 (f := .meth "Ground" "cancel") rfl), h_Ground_change := He.meth_ok (c.d.fact 76 (f := .meth "Ground" "_change") rfl), h_Ground_cost := He.meth_ok (c.d.fact 77 (f := .meth "Ground" "_cost") rfl), h_Ground_pass_out := He.meth_ok (c.d.fact 78 (f := .meth "Ground" "_pass_out") rfl), h_Ground_charge := He.meth_ok (c.d.fact 79 (f := .meth "Ground" "_charge") rfl), c_Ground := He.cls_ok (c.d.fact 80 (f := .cls "Ground") rfl), n_Ground_pages := He.noat_ok (c.d.fact 81 (f := .noat "Ground" "pages") rfl), n_Ground_width := He.noat_ok (c.d.fact 82 (f := .noat "Ground" "width") rfl), n_Ground_fill := He.noat_ok (c.d.fact 83 (f := .noat "Ground" "fill") rfl), n_Ground__budget := He.noat_ok (c.d.fact 84 (f := .noat "Ground" "_budget") rfl), n_Ground__spent := He.noat_ok (c.d.fact 85 (f := .noat "Ground" "_spent") rfl), n_Ground__words := He.noat_ok (c.d.fact 86 (f := .noat "Ground" "_words") rfl), n_Ground__holders := He.noat_ok (c.d.fact 87 (f := .noat "Ground" "_holders") rfl), n_Ground__deeds := He.noat_ok (c.d.fact 88 (f := .noat "Ground" "_deeds") rfl), x_BadValue := oexB_ok (c.y.ex 0 (e := fun K => oexB K (He.ga K "BadValue")) rfl), i_BadValue := of_decide_eq_true (c.y.ex 1 (e := fun K => decide (PySem.W.findIn K (.ref (He.ga K "BadValue")) "__init__" = some (some (.ref (He.ma K (He.ga K "BadValue") "__init__"))))) rfl), t_BadValue := of_decide_eq_true (c.y.ex 2 (e := fun K => decide (PySem.W.typeIn K (.ref (He.ma K (He.ga K "BadValue") "__init__")) = some (.type "function"))) rfl), n_BadValue_parameter := of_decide_eq_true (c.y.ex 3 (e := fun K => decide (PySem.W.findIn K (.ref (He.ga K "BadValue")) "parameter" = some none)) rfl), n_BadValue_told := of_decide_eq_true (c.y.ex 4 (e := fun K => decide (PySem.W.findIn K (.ref (He.ga K "BadValue")) "told" = some none)) rfl), f_BadValue := xfB_ok (c.y.ex 5 (e := fun K => xfB K (He.ga K "BadValue")) rfl), d_BadValue := excdB_ok (c.y.ex 6 (e := fun K => excdB K (He.ga K "BadValue")) rfl), m_BadValue := of_decide_eq_true (c.y.ex 7 (e := fun K => decide (PySem.W.exmOne K (.ref (He.ga K "BadValue")) (.ref (He.ga K "BadValue")) = some true)) rfl), k_ValueError := of_decide_eq_true (c.y.ex 8 (e := fun K => decide (PySem.W.kitOne K (.ref (He.ga K "BadValue")) (.type "ValueError") = some true)) rfl), k_StoreError := of_decide_eq_true (c.y.ex 9 (e := fun K => decide (PySem.W.kitOne K (.ref (He.ga K "BadValue")) (.ref (He.ga K "StoreError")) = some true)) rfl), k_BadValue := of_decide_eq_true (c.y.ex 10 (e := fun K => decide (PySem.W.kitOne K (.ref (He.ga K "BadValue")) (.ref (He.ga K "BadValue")) = some true)) rfl), k_Broken := of_decide_eq_true (c.y.ex 11 (e := fun K => decide (PySem.W.kitOne K (.ref (He.ga K "BadValue")) (.ref (He.ga K "Broken")) = some false)) rfl), k_Unknown := of_decide_eq_true (c.y.ex 12 (e := fun K => decide (PySem.W.kitOne K (.ref (He.ga K "BadValue")) (.ref (He.ga K "Unknown")) = some false)) rfl), k_NotHeld := of_decide_eq_true (c.y.ex 13 (e := fun K => decide (PySem.W.kitOne K (.ref (He.ga K "BadValue")) (.ref (He.ga K "NotHeld")) = some false)) rfl), k_Fault := of_decide_eq_true (c.y.ex 14 (e := fun K => decide (PySem.W.kitOne K (.ref (He.ga K "BadValue")) (.ref (He.ga K "Fault")) = some false)) rfl), k_NoRoom := of_decide_eq_true (c.y.ex 15 (e := fun K => decide (PySem.W.kitOne K (.ref (He.ga K "BadValue")) (.ref (He.ga K "NoRoom")) = some false)) rfl), k_Cut := of_decide_eq_true (c.y.ex 16 (e := fun K => decide (PySem.W.kitOne K (.ref (He.ga K "BadValue")) (.ref (He.ga K "Cut")) = some false)) rfl), k_BadLine := of_decide_eq_true (c.y.ex 17 (e := fun K => decide (PySem.W.kitOne K (.ref (He.ga K "BadValue")) (.ref (He.ga K "BadLine")) = some false)) rfl), m_Broken_Broken := of_decide_eq_true (c.y.ex 18 (e := fun K => decide (PySem.W.exmOne K (.ref (He.ga K "Broken")) (.ref (He.ga K "Broken")) = some true)) rfl), m_Broken_NotHeld := of_decide_eq_true (c.y.ex 19 (e := fun K => decide (PySem.W.exmOne K (.ref (He.ga K "Broken")) (.ref (He.ga K "NotHeld")) = some false)) rfl), m_Broken_Unknown := of_decide_eq_true (c.y.ex 20 (e := fun K => decide (PySem.W.exmOne K (.ref (He.ga K "Broken")) (.ref (He.ga K "Unknown")) = some false)) rfl), m_Unknown_Broken := of_decide_eq_true (c.y.ex 21 (e := fun K => decide (PySem.W.exmOne K (.ref (He.ga K "Unknown")) (.ref (He.ga K "Broken")) = some false)) rfl), m_Unknown_NotHeld := of_decide_eq_true (c.y.ex 22 (e := fun K => decide (PySem.W.exmOne K (.ref (He.ga K "Unknown")) (.ref (He.ga K "NotHeld")) = some false)) rfl), m_Unknown_Unknown := of_decide_eq_true (c.y.ex 23 (e := fun K => decide (PySem.W.exmOne K (.ref (He.ga K "Unknown")) (.ref (He.ga K "Unknown")) = some true)) rfl), m_NotHeld_Broken := of_decide_eq_true (c.y.ex 24 (e := fun K => decide (PySem.W.exmOne K (.ref (He.ga K "NotHeld")) (.ref (He.ga K "Broken")) = some false)) rfl), m_NotHeld_NotHeld := of_decide_eq_true (c.y.ex 25 (e := fun K => decide (PySem.W.exmOne K (.ref (He.ga K "NotHeld")) (.ref (He.ga K "NotHeld")) = some true)) rfl), m_NotHeld_Unknown := of_decide_eq_true (c.y.ex 26 (e := fun K => decide (PySem.W.exmOne K (.ref (He.ga K "NotHeld")) (.ref (He.ga K "Unknown")) = some false)) rfl), m_Cut_Broken := of_decide_eq_true (c.y.ex 27 (e := fun K => decide (PySem.W.exmOne K (.ref (He.ga K "Cut")) (.ref (He.ga K "Broken")) = some false)) rfl), m_Cut_NotHeld := of_decide_eq_true (c.y.ex 28 (e := fun K => decide (PySem.W.exmOne K (.ref (He.ga K "Cut")) (.ref (He.ga K "NotHeld")) = some false)) rfl), m_Cut_Unknown := of_decide_eq_true (c.y.ex 29 (e := fun K => decide (PySem.W.exmOne K (.ref (He.ga K "Cut")) (.ref (He.ga K "Unknown")) = some false)) rfl), v_Broken := exvB_ok (c.y.ex 30 (e := fun K => exvB K "Broken" ["place", "found", "due"] 1) rfl), v_Unknown := exvB_ok (c.y.ex 31 (e := fun K => exvB K "Unknown" ["parameter"] 2) rfl), v_NotHeld := exvB_ok (c.y.ex 32 (e := fun K => exvB K "NotHeld" ["place", "found"] 3) rfl), v_Cut := exvB_ok (c.y.ex 33 (e := fun K => exvB K "Cut" ["needed", "left"] 6) rfl), w_WIDTHS := fun H => He.tupB_ok (c.y.ex 34 (e := fun K => He.tupB K "WIDTHS" [.int 16, .int 32, .int 64]) rfl) H }⟩
theorem facts {P : Program} {w : World} {K : PySem.W.Frag} {h : Heap} {mg : Str → Option Value} {f : Addr} (X : K.In h) (G : h.Ns mainGlobals mg) (hfa : mg ("law" : Str) = some (.ref f)) (c : SaysP fa fn prs (fun K => exs.all fun e => e K) K) :
    ∃ fd : FuncData, (∀ (s : Shared) (v : Value), BindsTo s fd ⟨[v], []⟩ [("_law_script", v)]) ∧ ∀ base : Heap, K.In base → base.Ns mainGlobals mg → FnOk P w K mg base CX0 12 f fd ["_law_script"] (sp_law K) := by
  obtain ⟨T⟩ := tx_of X G c
  have e := hfa.symm.trans T.g_law
  cases e
  have b := FunD.bindsA (ps := ["_law_script"]) T.F_law fun _ _ _ _ _ _ us hl => match us, hl with | [_], _ => rfl
  exact ⟨T.fd_law, fun s v => b s [v] rfl, fun base _ _ => ok_law T⟩
end
end K12
open PySem PySem.W PySem.Calls PyProof.Rows
set_option maxHeartbeats 0 in
theorem PySem.Challenge.cw_allgivenback_k12_nested_cancel_holds : PySem.Challenge.rw_allgivenback_k12_nested_cancel.Holds := by
  w_on; o_law
  refine HandSHeadRun.head_any (r := OpenLaw.row PySem.Challenge.rw_allgivenback_k12_nested_cancel) (q := view (OpenLaw.row PySem.Challenge.rw_allgivenback_k12_nested_cancel).prog [57]) (H := K12.hk) (ob := K12.ob) (M := 40000) (loose := K12.names) (d := HandSHeadRun.topDef (OpenLaw.row PySem.Challenge.rw_allgivenback_k12_nested_cancel).prog 57) (kwd := []) K12.ob_eq
    (by kernel_rfl) (fun s => by kernel_rfl) K12.run (by kernel_rfl) (by kernel_rfl) (by kernel_rfl) (by rfl) (by first | assumption | decide +kernel) (by decide +kernel) ⟨rfl, rfl, rfl, rfl, rfl, by decide +kernel⟩ ?hw ?hc
  case hw => w_witness2
  case hc =>
    refine L2.walk_ofE (l := PySem.Challenge.rw_allgivenback_k12_nested_cancel) (n := 63) (k := 12) (x := "_law_script") (CX := L2.CX0) rfl (by decide) (by kernel_rfl) ⟨rfl, by decide, by decide⟩ ?F (fun _ _ _ _ z => z)
    intro w mg fa h Y G hmg0
    obtain ⟨K, KX, c⟩ := Y
    have hmg : mg ("law" : PySem.Str) = some (.ref fa) := by
      have e : (HandSHeadRun.topDef (OpenLaw.row PySem.Challenge.rw_allgivenback_k12_nested_cancel).prog 57).name = ("law" : PySem.Str) := by kernel_rfl
      rw [← e]
      exact hmg0
    obtain ⟨fd, hb, hF⟩ := K12.facts (P := (PySem.Challenge.rw_allgivenback_k12_nested_cancel).prog) (w := w) KX G hmg c
    exact ⟨K, fd, K12.sp_law K, KX, hb, fun H a ns hl _ hS => ⟨a, ns, rfl, hS, Nat.le_trans hl (by decide), fun _ => rfl⟩, hF⟩

