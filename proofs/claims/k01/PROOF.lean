import PyProof.Rows.All
import Wide.All
import OpenK.AllK
import Wide.FinOn
import HandS.ForExc
import HandS.Defaults
import HandS.Dict
import HandS.Comp
import HandS.Wide
import HandS.WideBits
import HandS.IsInst
import HandS.More
import HandS.WordsDict
import HandS.Text
import HandS.HeadHook1
import HandS.HeadHook2
import KE.KExcIs
import HandS.ExcInit
import HandS.ExcField
import HandS.HotCalls
import KE.KStateDown
import Lean
import HandS.Head0
import HandS.Head1
import HandS.Head2
import HandS.HeadEnd
import PySem.Challenge.RW_allgivenback_k01_span_meet
set_option Elab.async false
set_option linter.all false
set_option maxRecDepth 100000
set_option maxHeartbeats 4000000
namespace LL
open PySem PySem.Spec PyProof.Rows L2
section
variable {CX : CXT} {P : Program} {w : World} {K : PySem.W.Frag} {mg : Str → Option Value} {base : Heap} {N : List Str} {q : Str} {sc : Scope} {f : Addr} {cd : Value} {A : Around} {outer : List Env} {s : Shared} {H : Hp} {E : XK}
theorem cxK0 : (cxOf CX P w K mg base N q sc f cd A outer s H E).nox.K = K := rfl
theorem cxK1 : (cxOf CX P w K mg base N q sc f cd A outer s H E).K = K := rfl
end
theorem dec_eq {p : Prop} [Decidable p] : (decide p = true) = p := by simp
theorem bl_inj {a b : Bool} : (V.bl a = V.bl b) = (a = b) := by simp
theorem if_dec {p A B : Prop} [Decidable p] : (if decide p = true then A else B) = (if p then A else B) := by by_cases h : p <;> simp [h]
/-- what is told of a value that is written next to ∃ -/
theorem ex_eq {α : Sort _} {p : α → Prop} {a : α} : (∃ x, a = x ∧ p x) = p a := by simp
theorem ex_eq' {α : Sort _} {p : α → Prop} {a : α} : (∃ x, x = a ∧ p x) = p a := by simp

/-! ### heaps: all but s is kept -/
def Kp (s : Addr) (H H' : Hp) : Prop := ∀ b o, b ≠ s → H b = some o → H' b = some o
theorem Kp.refl {s : Addr} {H : Hp} : Kp s H H := fun _ _ _ h => h
theorem Kp.trans {s : Addr} {H H1 H2 : Hp} (a : Kp s H H1) (b : Kp s H1 H2) : Kp s H H2 := fun c o n h => b c o n (a c o n h)
theorem Kp.same {s : Addr} {H H' : Hp} (h : Same H H') : Kp s H H' := fun b o _ e => h b o e
theorem Kp.new {s : Addr} {H H1 : Hp} {p : Addr} {o : HO} (a : Kp s H H1) (n : H1 p = none) : Kp s H (upd H1 p o) := fun b u hb e => by
  have e1 := a b u hb e
  rw [upd_ne (ne_of_none e1 n)]
  exact e1
theorem Kp.at_ {s : Addr} {H H1 : Hp} {o : HO} (a : Kp s H H1) : Kp s H (upd H1 s o) := fun b u hb e => by
  rw [upd_ne hb]
  exact a b u hb e
/-- a thing that was not there at the start is changed -/
theorem Kp.own {s : Addr} {H H1 : Hp} {p : Addr} {o : HO} (a : Kp s H H1) (n : H p = none) : Kp s H (upd H1 p o) := fun b u hb e => by
  rw [upd_ne (ne_of_none e n)]
  exact a b u hb e
theorem Same.new {H H1 : Hp} {p : Addr} {o : HO} (a : Same H H1) (n : H1 p = none) : Same H (upd H1 p o) := fun b u e => by
  have e1 := a b u e
  rw [upd_ne (ne_of_none e1 n)]
  exact e1
theorem Same.own {H H1 : Hp} {p : Addr} {o : HO} (a : Same H H1) (n : H p = none) : Same H (upd H1 p o) := fun b u e => by
  rw [upd_ne (ne_of_none e n)]
  exact a b u e
theorem Kp.free {s : Addr} {H H' : Hp} (a : Kp s H H') {p : Addr} (hp : p ≠ s) (n : H' p = none) : H p = none := by
  cases e : H p with
  | none => rfl
  | some o =>
    rw [a p o hp e] at n
    cases n

/-! ### the draws -/
/-- the five numbers of the draws' state -/
def StAt (s : Addr) (H : Hp) : Prop := ∃ i v k t g : Int, 0 ≤ i ∧ H s = some (.lst [.int i, .int v, .int k, .int t, .int g])
structure Drw (d s : Addr) (H : Hp) : Prop where
  cs : ∃ c, H d = some (.lst [.ref c, .ref s]) ∧ c ≠ s ∧ ∃ ns : List Int, H c = some (.lst (ns.map V.int))
  st : StAt s H
  ds : d ≠ s
theorem Drw.kp {d s : Addr} {H H' : Hp} (D : Drw d s H) (k : Kp s H H') (st : StAt s H') : Drw d s H' := by
  obtain ⟨c, h1, h2, ns, h3⟩ := D.cs
  exact ⟨⟨c, k _ _ D.ds h1, h2, ns, k _ _ h2 h3⟩, st, D.ds⟩
/-- what a def that draws leaves: the draws are drawn on, all else is kept -/
structure Aft (d s : Addr) (H H' : Hp) : Prop where
  kp : Kp s H H'
  dr : Drw d s H'
theorem Aft.trans {d s : Addr} {H H1 H2 : Hp} (a : Aft d s H H1) (b : Aft d s H1 H2) : Aft d s H H2 := ⟨a.kp.trans b.kp, b.dr⟩
theorem Aft.refl {d s : Addr} {H : Hp} (D : Drw d s H) : Aft d s H H := ⟨.refl, D⟩
theorem Drw.same {d s : Addr} {H H' : Hp} (D : Drw d s H) (k : Same H H') : Drw d s H' := by
  obtain ⟨i, v, kk, t, g, h0, h1⟩ := D.st
  exact D.kp (.same k) ⟨i, v, kk, t, g, h0, k _ _ h1⟩
theorem Aft.new {d s : Addr} {H H1 : Hp} {p : Addr} {o : HO} (a : Aft d s H H1) (n : H1 p = none) : Aft d s H (upd H1 p o) :=
  ⟨a.kp.new n, a.dr.same (Same.new (Same.refl _) n)⟩

/-! ### small readings -/
theorem use_ixL {K : PySem.W.Frag} {p : Addr} {xs : List V} {i : Int} {v : V} {H : Hp} {Q : VK} (h : H p = some (.lst xs)) (e : atI xs i = some v) (q : Q v H) : rIxL K (.ref p) (.int i) H Q := ⟨p, xs, i, v, rfl, rfl, SqL.of h, e, q⟩
theorem use_ixT {K : PySem.W.Frag} {p : Addr} {xs : List V} {i : Int} {v : V} {H : Hp} {Q : VK} (h : H p = some (.tup xs)) (e : atI xs i = some v) (q : Q v H) : rIxT K (.ref p) (.int i) H Q := ⟨p, xs, i, v, rfl, rfl, SqT.of h, e, q⟩
theorem use_setL {p : Addr} {xs : List V} {k : Int} {j : Nat} {v : V} {H : Hp} {Q : Hp → Prop} (h : H p = some (.lst xs)) (e : ixN xs.length k = some j) (q : Q (upd H p (.lst (xs.set j v)))) : rSetL (.ref p) (.int k) v H Q := ⟨p, xs, k, j, rfl, rfl, h, e, q⟩
theorem Aft.st {d s : Addr} {H : Hp} (D : Drw d s H) {i v k t g : Int} (h0 : 0 ≤ i) : Aft d s H (upd H s (.lst [.int i, .int v, .int k, .int t, .int g])) :=
  have k1 : Kp s H (upd H s (.lst [.int i, .int v, .int k, .int t, .int g])) := Kp.refl.at_
  ⟨k1, D.kp k1 ⟨i, v, k, t, g, h0, upd_same⟩⟩
theorem Aft.st2 {d s : Addr} {H H1 : Hp} (a : Aft d s H H1) {i v k t g : Int} (h0 : 0 ≤ i) : Aft d s H (upd H1 s (.lst [.int i, .int v, .int k, .int t, .int g])) := a.trans (Aft.st a.dr h0)
theorem atI_cons0 {α : Type} {x : α} {xs : List α} : atI (x :: xs) 0 = some x := atI_nat (j := 0) rfl
theorem atI_int {xs : List Int} {i : Int} (h0 : 0 ≤ i) (h : i < (xs.map V.int).length) : ∃ n, atI (xs.map V.int) i = some (V.int n) := by
  obtain ⟨j, rfl⟩ := Int.eq_ofNat_of_zero_le h0
  have hj : j < (xs.map V.int).length := by omega
  have hj2 : j < xs.length := by rw [List.length_map] at hj; exact hj
  refine ⟨xs[j], atI_nat ?_⟩
  rw [List.getElem?_map, List.getElem?_eq_getElem hj2]
  rfl
/-! ### calls of built-ins, by ints and lists alone -/
section
variable {X : Cx}
def rInt1 : List V → Hp → VK → Prop := fun xs H Q => ∃ i, xs = [.int i] ∧ Q (.int i) H
theorem call_intI : CallR X (.type "int") rInt1 := fun pins s σ H xs us Q I r h => call_int1 pins s σ H xs us Q I r (.inl h)
def rLenL : List V → Hp → VK → Prop := fun vs H Q => ∃ p xs, vs = [.ref p] ∧ H p = some (.lst xs) ∧ Q (.int xs.length) H
theorem call_lenL : CallR X (.builtin "len") rLenL := fun pins s σ H vs us Q I r h => by
  obtain ⟨p, xs, rfl, e, q⟩ := h
  exact call_len_seq pins s σ H _ us Q I r ⟨p, xs, rfl, .inl (SqL.of e), q⟩
def rLenT : List V → Hp → VK → Prop := fun vs H Q => ∃ p xs, vs = [.ref p] ∧ H p = some (.tup xs) ∧ Q (.int xs.length) H
theorem call_lenT : CallR X (.builtin "len") rLenT := fun pins s σ H vs us Q I r h => by
  obtain ⟨p, xs, rfl, e, q⟩ := h
  exact call_len_seq pins s σ H _ us Q I r ⟨p, xs, rfl, .inr (SqT.of e), q⟩
end
theorem use_lenL {p : Addr} {xs : List V} {H : Hp} {Q : VK} (h : H p = some (.lst xs)) (q : Q (.int xs.length) H) : rLenL [.ref p] H Q := ⟨p, xs, rfl, h, q⟩
theorem use_lenT {p : Addr} {xs : List V} {H : Hp} {Q : VK} (h : H p = some (.tup xs)) (q : Q (.int xs.length) H) : rLenT [.ref p] H Q := ⟨p, xs, rfl, h, q⟩
/-! ### loops -/
theorem use_forL {K : PySem.W.Frag} {te : TE} {a : Addr} {xs : List V} {g : TG} {tb : TS} {D : Ends} {σ : L2.St} {H : Hp} (ht : ∀ Q : VK, Q (.ref a) H → te σ H Q) (Pv : Nat → L2.St → Hp → Prop) (h0 : Pv 0 σ H) (hl : ∀ i σ H, i ≤ xs.length → Pv i σ H → SqL K H a xs)
    (hs : ∀ i x σ H, xs[i]? = some x → Pv i σ H → g x σ H fun σ2 H2 => tb { D with nx := Pv (i + 1), ct := Pv (i + 1), bk := D.nx } σ2 H2) (hd : ∀ σ H, Pv xs.length σ H → D.nx σ H) : tFor (iList K te) g tb D σ H :=
  ht _ ⟨a, rfl, ⟨xs, hl 0 σ H (Nat.zero_le _) h0⟩, for_list Pv h0 hl hs hd⟩
theorem use_forR {te : TE} {j : Int} {g : TG} {tb : TS} {D : Ends} {σ : L2.St} {H : Hp} (ht : ∀ Q : VK, Q (.int j) H → te σ H Q) (h1 : j < 2 ^ 62) (h2 : -(2 ^ 62) ≤ j) (Pv : Nat → L2.St → Hp → Prop) (h0 : Pv 0 σ H)
    (hs : ∀ i σ H, i < j.toNat → Pv i σ H → g (.int (0 + (i : Int))) σ H fun σ2 H2 => tb { D with nx := Pv (i + 1), ct := Pv (i + 1), bk := D.nx } σ2 H2) (hd : ∀ σ H, Pv j.toNat σ H → D.nx σ H) : tFor (iRng1 (tCons te tNil)) g tb D σ H :=
  ht _ ⟨j, rfl, h2, h1, for_range Pv h0 hs hd⟩
theorem use_while {c : TT} {tb : TS} {D : Ends} {σ : L2.St} {H : Hp} (Pv : Nat → L2.St → Hp → Prop) (m0 : Nat) (h0 : Pv m0 σ H)
    (hs : ∀ m σ H, Pv m σ H → c σ H fun b H1 => if b = true then ∃ N : L2.St → Hp → Prop, (∀ σ' H', N σ' H' → ∃ m', m' < m ∧ Pv m' σ' H') ∧ tb { D with nx := N, ct := N, bk := D.nx } σ H1 else D.nx σ H1) : tWhile c tb D σ H := ⟨Pv, ⟨m0, h0⟩, hs⟩
theorem use_forRX {te : TE} {g : TG} {tb : TS} {D : Ends} {σ : L2.St} {H : Hp} {R : Int → Hp → Prop} (ht : ∀ Q : VK, (∀ j H', R j H' → Q (.int j) H') → te σ H Q) (hb : ∀ j H', R j H' → -(2 ^ 62) ≤ j ∧ j < 2 ^ 62) (Pv : Int → Nat → L2.St → Hp → Prop) (h0 : ∀ j H', R j H' → Pv j 0 σ H')
    (hs : ∀ j i σ H, i < j.toNat → Pv j i σ H → g (.int (0 + (i : Int))) σ H fun σ2 H2 => tb { D with nx := Pv j (i + 1), ct := Pv j (i + 1), bk := D.nx } σ2 H2) (hd : ∀ j σ H, Pv j j.toNat σ H → D.nx σ H) : tFor (iRng1 (tCons te tNil)) g tb D σ H :=
  ht _ fun j H' r => ⟨j, rfl, (hb j H' r).1, (hb j H' r).2, for_range (Pv j) (h0 j H' r) (hs j) (hd j)⟩
theorem use_forLX {K : PySem.W.Frag} {te : TE} {g : TG} {tb : TS} {D : Ends} {σ : L2.St} {H : Hp} {R : Addr → List V → Hp → Prop} (ht : ∀ Q : VK, (∀ a xs H', R a xs H' → Q (.ref a) H') → te σ H Q) (Pv : Addr → List V → Nat → L2.St → Hp → Prop) (h0 : ∀ a xs H', R a xs H' → Pv a xs 0 σ H')
    (hl : ∀ a xs i σ H, i ≤ xs.length → Pv a xs i σ H → SqL K H a xs)
    (hs : ∀ a xs i x σ H, xs[i]? = some x → Pv a xs i σ H → g x σ H fun σ2 H2 => tb { D with nx := Pv a xs (i + 1), ct := Pv a xs (i + 1), bk := D.nx } σ2 H2) (hd : ∀ a xs σ H, Pv a xs xs.length σ H → D.nx σ H) : tFor (iList K te) g tb D σ H :=
  ht _ fun a xs H' r => ⟨a, rfl, ⟨xs, hl a xs 0 σ H' (Nat.zero_le _) (h0 a xs H' r)⟩, for_list (Pv a xs) (h0 a xs H' r) (hl a xs) (hs a xs) (hd a xs)⟩
/-! ### plain data -/
inductive T where
  | non | bl (b : Bool) | int (i : Int) | str (x : Str) | lst (ts : List T) | tup (ts : List T) | dic (t : T)
/-! v is the data t, every object of which is at an address of F -/
mutual
def Dt (F : Addr → Prop) (H : Hp) : V → T → Prop
  | v, .non => v = .non
  | v, .bl b => v = .bl b
  | v, .int i => v = .int i
  | v, .str x => v = .str x
  | v, .lst ts => ∃ a xs, v = .ref a ∧ F a ∧ H a = some (.lst xs) ∧ DtL F H xs ts ∧ ts.length ≤ 100000
  | v, .tup ts => ∃ a xs, v = .ref a ∧ F a ∧ H a = some (.tup xs) ∧ DtL F H xs ts ∧ ts.length ≤ 100000
  | v, .dic t => ∃ a x, v = .ref a ∧ F a ∧ H a = some (.dK [(Sum.inr "a", x)]) ∧ Dt F H x t
def DtL (F : Addr → Prop) (H : Hp) : List V → List T → Prop
  | xs, [] => xs = []
  | xs, t :: ts => ∃ v vs, xs = v :: vs ∧ Dt F H v t ∧ DtL F H vs ts
end
mutual
def dep : T → Nat
  | .lst ts => depL ts + 1
  | .tup ts => depL ts + 1
  | .dic t => dep t + 1
  | _ => 0
def depL : List T → Nat
  | [] => 0
  | t :: ts => max (dep t) (depL ts)
end
section
variable {F G : Addr → Prop} {H H' : Hp}
mutual
theorem Dt.imp (hF : ∀ a o, F a → H a = some o → G a ∧ H' a = some o) : ∀ {v : V} (t : T), Dt F H v t → Dt G H' v t
  | _, .non, h => h
  | _, .bl _, h => h
  | _, .int _, h => h
  | _, .str _, h => h
  | _, .lst ts, h => by
    obtain ⟨a, xs, e, f, ha, hx, hz⟩ := h
    exact ⟨a, xs, e, (hF a _ f ha).1, (hF a _ f ha).2, DtL.imp hF ts hx, hz⟩
  | _, .tup ts, h => by
    obtain ⟨a, xs, e, f, ha, hx, hz⟩ := h
    exact ⟨a, xs, e, (hF a _ f ha).1, (hF a _ f ha).2, DtL.imp hF ts hx, hz⟩
  | _, .dic t, h => by
    obtain ⟨a, x, e, f, ha, hx⟩ := h
    exact ⟨a, x, e, (hF a _ f ha).1, (hF a _ f ha).2, Dt.imp hF t hx⟩
theorem DtL.imp (hF : ∀ a o, F a → H a = some o → G a ∧ H' a = some o) : ∀ {xs : List V} (ts : List T), DtL F H xs ts → DtL G H' xs ts
  | _, [], h => h
  | _, t :: ts, h => by
    obtain ⟨v, vs, e, h1, h2⟩ := h
    exact ⟨v, vs, e, Dt.imp hF t h1, DtL.imp hF ts h2⟩
end
theorem Dt.same {v : V} {t : T} (h : Dt F H v t) (k : Same H H') : Dt F H' v t := Dt.imp (fun a o f e => ⟨f, k a o e⟩) t h
theorem DtL.same {v : List V} {t : List T} (h : DtL F H v t) (k : Same H H') : DtL F H' v t := DtL.imp (fun a o f e => ⟨f, k a o e⟩) t h
theorem Dt.kp {s : Addr} {v : V} {t : T} (h : Dt F H v t) (hs : ∀ a, F a → a ≠ s) (k : Kp s H H') : Dt F H' v t := Dt.imp (fun a o f e => ⟨f, k a o (hs a f) e⟩) t h
theorem DtL.kp {s : Addr} {v : List V} {t : List T} (h : DtL F H v t) (hs : ∀ a, F a → a ≠ s) (k : Kp s H H') : DtL F H' v t := DtL.imp (fun a o f e => ⟨f, k a o (hs a f) e⟩) t h
theorem Dt.to {v : V} {t : T} (h : Dt F H v t) (hs : ∀ a, F a → G a) : Dt G H v t := Dt.imp (fun a o f e => ⟨hs a f, e⟩) t h
theorem DtL.to {v : List V} {t : List T} (h : DtL F H v t) (hs : ∀ a, F a → G a) : DtL G H v t := DtL.imp (fun a o f e => ⟨hs a f, e⟩) t h
theorem DtL.len : ∀ {xs : List V} (ts : List T), DtL F H xs ts → xs.length = ts.length
  | _, [], h => by rw [show _ = [] from h]; rfl
  | _, t :: ts, h => by
    obtain ⟨v, vs, rfl, h1, h2⟩ := h
    rw [List.length_cons, List.length_cons, DtL.len ts h2]
theorem DtL.get : ∀ {xs : List V} (ts : List T) {i : Nat} {x : V}, DtL F H xs ts → xs[i]? = some x → ∃ t, ts[i]? = some t ∧ Dt F H x t
  | _, [], _, _, h, e => by rw [show _ = [] from h] at e; cases e
  | _, t :: ts, 0, x, h, e => by
    obtain ⟨v, vs, rfl, h1, h2⟩ := h
    cases e
    exact ⟨t, rfl, h1⟩
  | _, t :: ts, i + 1, x, h, e => by
    obtain ⟨v, vs, rfl, h1, h2⟩ := h
    exact DtL.get ts (i := i) h2 e
theorem DtL.get' {xs : List V} {ts : List T} {i : Nat} {t : T} (h : DtL F H xs ts) (e : ts[i]? = some t) : ∃ x, xs[i]? = some x ∧ Dt F H x t := by
  have hi := (List.getElem?_eq_some_iff.mp e).1
  have hx : i < xs.length := by rw [DtL.len ts h]; exact hi
  obtain ⟨t', e', d⟩ := DtL.get ts h (List.getElem?_eq_getElem hx)
  rw [e] at e'
  cases e'
  exact ⟨_, List.getElem?_eq_getElem hx, d⟩
theorem DtL.app : ∀ {xs ys : List V} (ts : List T) {us : List T}, DtL F H xs ts → DtL F H ys us → DtL F H (xs ++ ys) (ts ++ us)
  | _, _, [], _, h, k => by rw [show _ = [] from h]; exact k
  | _, _, t :: ts, _, h, k => by
    obtain ⟨v, vs, rfl, h1, h2⟩ := h
    exact ⟨v, vs ++ _, rfl, h1, DtL.app ts h2 k⟩
theorem DtL.one {v : V} {t : T} (h : Dt F H v t) : DtL F H [v] [t] := ⟨v, [], rfl, h, rfl⟩
theorem DtL.cons {v : V} {t : T} {vs : List V} {ts : List T} (h : Dt F H v t) (k : DtL F H vs ts) : DtL F H (v :: vs) (t :: ts) := ⟨v, vs, rfl, h, k⟩
theorem depL_mem : ∀ {ts : List T} {i : Nat} {t : T}, ts[i]? = some t → dep t ≤ depL ts
  | [], _, _, e => by cases e
  | u :: ts, 0, t, e => by
    cases e
    exact Nat.le_max_left _ _
  | u :: ts, i + 1, t, e => Nat.le_trans (depL_mem (ts := ts) (i := i) e) (Nat.le_max_right _ _)
end
/-! ### what kind of data it is -/
def tyN : T → String
  | .non => "NoneType"
  | .bl _ => "bool"
  | .int _ => "int"
  | .str _ => "str"
  | .lst _ => "list"
  | .tup _ => "tuple"
  | .dic _ => "dict"
theorem tyx {K : PySem.W.Frag} {F : Addr → Prop} {H : Hp} {v : V} {t : T} (h : Dt F H v t) : TyX K H v (.type (tyN t)) := by
  cases t with
  | non => rw [show v = _ from h]; exact .base .non
  | bl b => rw [show v = _ from h]; exact .base (.bl b)
  | int i => rw [show v = _ from h]; exact .base (.int i)
  | str x => rw [show v = _ from h]; exact .base (.str x)
  | lst ts =>
    obtain ⟨a, xs, rfl, _, e, _⟩ := h
    exact .base (.lst e)
  | tup ts =>
    obtain ⟨a, xs, rfl, _, e, _⟩ := h
    exact .base (.tup e)
  | dic t =>
    obtain ⟨a, x, rfl, _, e, _⟩ := h
    exact .base (.dK e)
theorem use_isi {K : PySem.W.Frag} {F : Addr → Prop} {H : Hp} {v : V} {t : T} {n : String} {b : Bool} {Q : VK} (h : Dt F H v t) (k : kitB (tyN t) n = some b) (q : Q (.bl b) H) : rIsi K [v, .ty n] H Q :=
  ⟨v, .ty n, _, _, b, rfl, .ty n, tyx h, kit_ty k, q⟩
def isInt : T → Bool
  | .int _ => true
  | _ => false
def isBl : T → Bool
  | .bl _ => true
  | _ => false
def isStr : T → Bool
  | .str _ => true
  | _ => false
def isLst : T → Bool
  | .lst _ => true
  | _ => false
def isTup : T → Bool
  | .tup _ => true
  | _ => false
def isDic : T → Bool
  | .dic _ => true
  | _ => false
theorem kit_int (t : T) : kitB (tyN t) "int" = some (isInt t || isBl t) := by
  cases t <;> simp only [tyN, isInt, isBl, isStr, isLst, isTup, isDic] <;> decide +kernel
theorem kit_bool (t : T) : kitB (tyN t) "bool" = some (isBl t) := by
  cases t <;> simp only [tyN, isInt, isBl, isStr, isLst, isTup, isDic] <;> decide +kernel
theorem kit_str (t : T) : kitB (tyN t) "str" = some (isStr t) := by
  cases t <;> simp only [tyN, isInt, isBl, isStr, isLst, isTup, isDic] <;> decide +kernel
theorem kit_list (t : T) : kitB (tyN t) "list" = some (isLst t) := by
  cases t <;> simp only [tyN, isInt, isBl, isStr, isLst, isTup, isDic] <;> decide +kernel
theorem kit_tuple (t : T) : kitB (tyN t) "tuple" = some (isTup t) := by
  cases t <;> simp only [tyN, isInt, isBl, isStr, isLst, isTup, isDic] <;> decide +kernel
theorem kit_dict (t : T) : kitB (tyN t) "dict" = some (isDic t) := by
  cases t <;> simp only [tyN, isInt, isBl, isStr, isLst, isTup, isDic] <;> decide +kernel
section
variable {X : Cx}
/-- len of a list, a tuple, a dict -/
def rLenD : List V → Hp → VK → Prop := fun vs H Q => ∃ p kvs, vs = [.ref p] ∧ H p = some (.dK kvs) ∧ Q (.int kvs.length) H
def rLenA : List V → Hp → VK → Prop := fun vs H Q => rLenL vs H Q ∨ rLenT vs H Q ∨ rLenD vs H Q
theorem call_lenA : CallR X (.builtin "len") rLenA := fun pins s σ H vs us Q I r h => by
  rcases h with h | h | h
  · exact call_lenL pins s σ H vs us Q I r h
  · exact call_lenT pins s σ H vs us Q I r h
  · obtain ⟨p, kvs, rfl, e, q⟩ := h
    exact call_lenD pins s σ H _ us Q I r ⟨p, kvs, rfl, e, q⟩
/-- list(d), a dict -/
def rLstD : List V → Hp → VK → Prop := fun vs H Q => ∃ p kvs, vs = [.ref p] ∧ H p = some (.dK kvs) ∧ ∀ l, H l = none → Q (.ref l) (upd H l (.lst (kvs.map fun kv => kV kv.1)))
theorem call_lstD (hc : X.calm = true) : CallR X (.type "list") rLstD := fun pins s σ H vs us Q I r h => by
  obtain ⟨p, kvs, rfl, e, q⟩ := h
  exact call_listD hc pins s σ H _ us Q I r ⟨p, kvs, rfl, .inl e, q⟩
/-- tuple(list) -/
def rTupL : List V → Hp → VK → Prop := fun vs H Q => ∃ p ys, vs = [.ref p] ∧ H p = some (.lst ys) ∧ ∀ l, H l = none → Q (.ref l) (upd H l (.tup ys))
theorem call_tupL : CallR X (.type "tuple") rTupL := fun pins s σ H vs us Q I r h => by
  obtain ⟨p, ys, rfl, e, q⟩ := h
  exact call_tuple_of pins s σ H _ us Q I r ⟨p, ys, rfl, .inl ⟨SqL.of e, q⟩⟩
/-- xs[i], a list or a tuple -/
def rIxA (K : PySem.W.Frag) : R2 := fun x y H Q => rIxL K x y H Q ∨ rIxT K x y H Q
theorem ix_A : IxR X (rIxA X.K) := ix_list.or ix_tup
end
theorem use_pick {K : PySem.W.Frag} {p : Addr} {xs : List V} {i : Int} {H : Hp} {Q : VK} (h : H p = some (.lst xs)) (h0 : 0 ≤ i) (h1 : i < xs.length) (q : ∀ x ∈ xs, Q x H) : rIxL K (.ref p) (.int i) H Q := by
  obtain ⟨j, rfl⟩ := Int.eq_ofNat_of_zero_le h0
  have hj : j < xs.length := by omega
  exact use_ixL h (atI_nat (List.getElem?_eq_getElem hj)) (q _ (List.getElem_mem hj))
section
variable {X : Cx}
def rMx : List V → Hp → VK → Prop := fun vs H Q => ∃ i j, vs = [.int i, .int j] ∧ Q (.int (max i j)) H
def rMn : List V → Hp → VK → Prop := fun vs H Q => ∃ i j, vs = [.int i, .int j] ∧ Q (.int (min i j)) H
theorem call_mx (hc : X.calm = true) : CallR X (.builtin "max") rMx := fun pins s σ H vs us Q I r h => by
  obtain ⟨i, j, rfl, q⟩ := h
  refine call_max2 hc pins s σ H _ us Q I r ⟨i, j, rfl, ?_⟩
  have e : (if j > i then j else i) = max i j := by omega
  rw [e]
  exact q
theorem call_mn (hc : X.calm = true) : CallR X (.builtin "min") rMn := fun pins s σ H vs us Q I r h => by
  obtain ⟨i, j, rfl, q⟩ := h
  refine call_min2 hc pins s σ H _ us Q I r ⟨i, j, rfl, ?_⟩
  have e : (if j < i then j else i) = min i j := by omega
  rw [e]
  exact q
end
theorem freshS {s : Addr} {H : Hp} {o : HO} (h : H s = some o) : ∀ a, H a = none → a ≠ s := fun a e z => by
  rw [z, h] at e
  cases e
theorem StAt.ne {s : Addr} {H : Hp} (h : StAt s H) : ∀ a, H a = none → a ≠ s := by
  obtain ⟨_, _, _, _, _, _, e⟩ := h
  exact freshS e
theorem Drw.ne {d s : Addr} {H : Hp} (h : Drw d s H) : ∀ a, H a = none → a ≠ s := h.st.ne
theorem Aft.free {d s : Addr} {H H' : Hp} (a : Aft d s H H') {b : Addr} (n : H' b = none) : H b = none := a.kp.free (a.dr.ne b n) n
theorem use_forT {K : PySem.W.Frag} {te : TE} {a : Addr} {xs : List V} {g : TG} {tb : TS} {D : Ends} {σ : L2.St} {H : Hp} (ht : ∀ Q : VK, Q (.ref a) H → te σ H Q) (Pv : Nat → L2.St → Hp → Prop) (h0 : Pv 0 σ H) (hl : ∀ i σ H, i ≤ xs.length → Pv i σ H → SqT K H a xs)
    (hs : ∀ i x σ H, xs[i]? = some x → Pv i σ H → g x σ H fun σ2 H2 => tb { D with nx := Pv (i + 1), ct := Pv (i + 1), bk := D.nx } σ2 H2) (hd : ∀ σ H, Pv xs.length σ H → D.nx σ H) : tFor (iTup K te) g tb D σ H :=
  ht _ ⟨a, rfl, ⟨xs, hl 0 σ H (Nat.zero_le _) h0⟩, for_tup Pv h0 hl hs hd⟩
theorem scal_int {a b : Int} : (scal (V.int a) (V.int b) = true) = True := by simp [scal]
theorem scal_bl {a b : Bool} : (scal (V.bl a) (V.bl b) = true) = True := by simp [scal]
theorem scal_str {a b : Str} : (scal (V.str a) (V.str b) = true) = True := by simp [scal]
theorem scal_is {a : Int} {b : Str} : (scal (V.str b) (V.int a) = true) = True := by simp [scal]
theorem ty_list {K : PySem.W.Frag} {p : Addr} {xs : List V} {H : Hp} (h : H p = some (.lst xs)) : tyV K "list" (.ref p) H := Or.inl ⟨rfl, _, Or.inl (Or.inl h)⟩
theorem use_append {l : Addr} {xs : List V} {y : V} {H : Hp} {Q : VK} (h : H l = some (.lst xs)) (n : xs.length < sizeLine) (q : Q .non (upd H l (.lst (xs ++ [y])))) : rAppend (.ref l) [y] H Q := ⟨l, xs, y, rfl, rfl, h, n, q⟩
theorem small_sz {n : Nat} (h : n ≤ 200000) : n < sizeLine := Nat.lt_of_le_of_lt h (by decide)
/-- a list at D that is being made gets one more datum -/
theorem grow {G : Addr → Prop} {H H' H4 : Hp} {D : Addr} {acc : List V} {us : List T} {r : V} {t : T} (hD : H D = none) (s1 : Same H H') (s4 : Same H' H4) (hacc : DtL (fun a => H a = none ∧ a ≠ D) H' acc us) (hG : ∀ a, G a → H a = none ∧ a ≠ D) (dr : Dt G H4 r t) :
    Same H (upd H4 D (.lst (acc ++ [r]))) ∧ DtL (fun a => H a = none ∧ a ≠ D) (upd H4 D (.lst (acc ++ [r]))) (acc ++ [r]) (us ++ [t]) := by
  refine ⟨Same.own (s1.trans s4) hD, DtL.app _ (DtL.imp (fun a o fa ea => ⟨fa, ?_⟩) _ hacc) (.one (Dt.imp (fun a o fa ea => ⟨hG a fa, ?_⟩) _ dr))⟩
  · rw [upd_ne fa.2]
    exact s4 _ _ ea
  · rw [upd_ne (hG a fa).2]
    exact ea
theorem new_of {H H' : Hp} {D : Addr} {o : HO} (s1 : Same H H') (eD : H' D = some o) : ∀ a, H' a = none → H a = none ∧ a ≠ D := fun a n => ⟨s1.free n, fun z => by rw [z, eD] at n; cases n⟩
theorem take_one {α : Type} {l : List α} {i : Nat} {x : α} (h : l[i]? = some x) : l.take (i + 1) = l.take i ++ [x] := by
  rw [List.take_add_one, h]
  rfl
theorem use_lcR {te tel : TE} {g : TG} {vs : List Nat} {σ : L2.St} {H : Hp} {Q : VK} {R : Int → Hp → Prop} (ht : ∀ Q : VK, (∀ j H', R j H' → Q (.int j) H') → te σ H Q) (hb : ∀ j H', R j H' → -(2 ^ 62) ≤ j ∧ j < 2 ^ 62) (Pv : Int → Addr → Nat → Hp → Prop)
    (h0 : ∀ j H' D, R j H' → H' D = none → Pv j D 0 (upd H' D (.lst [])))
    (hs : ∀ j D i H', i < j.toNat → Pv j D i H' → g (.int (0 + (i : Int))) (wipe σ vs) H' fun σ2 H2 => wipe σ2 vs = wipe σ vs ∧ tYes σ2 H2 fun b H3 => if b = true then tel σ2 H3 fun y H4 => ∃ acc, H4 D = some (.lst acc) ∧ acc.length < sizeLine ∧ Pv j D (i + 1) (upd H4 D (.lst (acc ++ [y]))) else Pv j D (i + 1) H3)
    (hd : ∀ j D H', Pv j D j.toNat H' → Q (.ref D) H') : tLc (iRng1 (tCons te tNil)) g tYes tel vs σ H Q :=
  ht _ fun j H' r => ⟨j, rfl, (hb j H' r).1, (hb j H' r).2, fun D hD => lc_range (Pv j D) (h0 j H' D r hD) (hs j D) (hd j D)⟩
theorem Aft.own {d s : Addr} {H H4 : Hp} {D : Addr} {o : HO} (D0 : Drw d s H) (a : Aft d s H H4) (hD : H D = none) : Aft d s H (upd H4 D o) := by
  have k : Kp s H (upd H4 D o) := a.kp.own hD
  obtain ⟨i, v, kk, t, g, h0, e⟩ := a.dr.st
  exact ⟨k, D0.kp k ⟨i, v, kk, t, g, h0, by rw [upd_ne (D0.ne D hD).symm]; exact e⟩⟩
/-- a list at D that is being made while something is drawn gets one more datum -/
theorem growA {G : Addr → Prop} {d s : Addr} {H H' H4 : Hp} {D : Addr} {acc : List V} {us : List T} {r : V} {t : T} (D0 : Drw d s H) (hD : H D = none) (a1 : Aft d s H H') (a4 : Aft d s H' H4) (hacc : DtL (fun a => H a = none ∧ a ≠ D) H' acc us) (hG : ∀ a, G a → H a = none ∧ a ≠ D) (dr : Dt G H4 r t) :
    Aft d s H (upd H4 D (.lst (acc ++ [r]))) ∧ DtL (fun a => H a = none ∧ a ≠ D) (upd H4 D (.lst (acc ++ [r]))) (acc ++ [r]) (us ++ [t]) := by
  refine ⟨Aft.own D0 (a1.trans a4) hD, DtL.app _ (DtL.imp (fun a o fa ea => ⟨fa, ?_⟩) _ hacc) (.one (Dt.imp (fun a o fa ea => ⟨hG a fa, ?_⟩) _ dr))⟩
  · rw [upd_ne fa.2]
    exact a4.kp _ _ (D0.ne a fa.1) ea
  · rw [upd_ne (hG a fa).2]
    exact ea
theorem new_ofA {d s : Addr} {H H' : Hp} {D : Addr} {o : HO} (a : Aft d s H H') (eD : H' D = some o) : ∀ b, H' b = none → H b = none ∧ b ≠ D := fun b n => ⟨a.free n, fun z => by rw [z, eD] at n; cases n⟩
theorem depL_app : ∀ (ts us : List T), depL (ts ++ us) = max (depL ts) (depL us)
  | [], us => by simp [depL]
  | t :: ts, us => by
    show max (dep t) (depL (ts ++ us)) = max (max (dep t) (depL ts)) (depL us)
    rw [depL_app ts us]
    omega
end LL

namespace LL
open PySem PySem.Spec PyProof.Rows L2 L2H
/-! ### defs that are called within an except suite, on the exception that it holds -/
/-- a: the exception, D its class, dd its dict -/
structure FnZ (P : Program) (w : World) (K : PySem.W.Frag) (mg : Str → Option Value) (base : Heap) (k : Nat) (f : Addr) (fd : FuncData) (ps : List Str) (sp : Addr → Addr → Addr → Sp) : Prop where
  len : ∀ a D dd vs H Q E, sp a D dd vs H Q E → vs.length = ps.length
  run : ∀ (A : Around) (outer : List Env) (s : Shared) (H : Hp) (args : Args) (us : List Value) (vs : List V) (Q : VK) (E : XK) (p : Addr × Obj) (D dd : Addr),
    RoomH k A → Zc (.ref D) (some dd) p.2 → (∃ fs, p.2.data = .fields fs) → PinOk outer H s p → Env0 P w K mg base A outer s H → BindsTo s fd args (ps.zip us) → Vals vs us → sp p.1 D dd vs H Q E →
    codeAny (model P w) A (.call (.ref f) args) (CR CX0 outer P w H s Q E) s
section
variable {P : Program} {w : World} {K : PySem.W.Frag} {mg : Str → Option Value} {base : Heap} {k : Nat} {f : Addr} {fd : FuncData} {N ps : List Str} {sp : Addr → Addr → Addr → Sp} {x qual : Str} {pa : Arguments} {bd : List Stmt} {sc : Scope} {kws : List (Str × V)}
theorem okZ (F : FunD K x qual pa bd sc [] kws f fd) (S : FnScope N ps sc) (len : ∀ a D dd vs H Q E, sp a D dd vs H Q E → vs.length = ps.length)
    (hb : ∀ (cdv : Value) (A : Around) (outer : List Env) (s : Shared) (H : Hp) (vs : List V) (Q : VK) (E : XK) (p : Addr × Obj) (D dd : Addr), RoomH k (A.deeper (envOfC qual sc s.heap.objs.size f cdv)) →
      Zc (.ref D) (some dd) p.2 → (∃ fs, p.2.data = .fields fs) → sp p.1 D dd vs H Q E →
      ∃ t, PSs (cxH CX0 P w K mg base N qual sc f cdv A outer s H E p) bd t ∧ t { nx := fun _ H' => Q .non H', rt := Q } (L2.start N vs) H) : FnZ P w K mg base (k + 1) f fd ps sp := by
  obtain ⟨oc, od, dV, kV, doc, pm, an, cdv, ct, osl, rfl, lk, hcd, _, _⟩ := F.ex
  constructor
  · exact len
  · intro A outer s H args us vs Q E p D dd hr hz hf hpin e0 hbi r hsp
    have KX : K.In s.heap := e0.mod.kin.keeps (fun b o e => (e0.bs b o e).1)
    have lim : s.heap.NoLimit := e0.mod.nolimit.keeps (fun b o e => (e0.bs b o e).1)
    have hl : vs.length = ps.length := len _ _ _ _ _ _ _ hsp
    refine codeAny_call_function hr.depth (KX _ _ lk) rfl S.co S.gen rfl (PySem.W.codeRec_of KX hcd) (hbi _ _ _ _ (wpAny_newFunctionEnv_cells S.kind ?_ ?_))
    · rintro ⟨n, v⟩ hy
      cases S.par n (List.of_mem_zip hy).1 with
      | inl q => exact Or.inl q
      | inr q => exact Or.inr ⟨q, PySem.W.cellsFrom_some _ _ _ (Or.inl q)⟩
    · rintro env he s1 xx
      subst he
      obtain ⟨t, ht, hq⟩ := hb cdv A outer s H vs Q E p D dd (hr.deeper _) hz hf hsp
      have I := inv_startH (CX := CX0) (E := E) S hpin e0 hl r xx
      refine ⟨lim.keeps xx.toInCall.keep, codeAny_func (wpAny_mono (ht.run [] s1 _ H _ I hq) ?_ (fun e s' hs => hs))⟩
      intro fl s' hs
      cases fl with
      | ret u =>
        obtain ⟨v, σ', H', J, rv, q⟩ := hs
        exact ⟨v, H', J.os, J.bare, J.base, J.hok, rv, q⟩
      | next =>
        obtain ⟨σ', H', J, q⟩ := hs
        exact ⟨.non, H', J.os, J.bare, J.base, J.hok, rfl, q⟩
      | brk =>
        obtain ⟨_, _, _, q⟩ := hs
        exact q.elim
      | cont =>
        obtain ⟨_, _, _, q⟩ := hs
        exact q.elim
end
/-- f(e, ..) within the suite that holds the exception a -/
def tCallZ (cls : Value) (d : Option Addr) (a : Addr) (sp : Addr → Addr → Addr → Sp) (t : TA) : TE := fun σ H Q => t σ H fun vs H1 => ∃ D dd : Addr, cls = .ref D ∧ d = some dd ∧ sp a D dd vs H1 Q E0
theorem pe_callZ {X : Cx} {k : Nat} {f a : Addr} {fd : FuncData} {ps : List Str} {sp : Addr → Addr → Addr → Sp} {x : Str} {q pos : Pos} {e : Expr} {es : List Expr} {t : TA} {oe : Obj} {cls : Value} {d : Option Addr} {pn : List (Addr × Obj)}
    (F : FnZ X.prog X.w X.K X.mg X.base k f fd ps sp) (hr : Room k X.A) (hz : Zc cls d oe) (hf : ∃ fs, oe.data = .fields fs) (hg : Gl X x) (hm : X.mg x = some (.ref f)) (hk : PySem.W.keepIn X.K (.ref f) = true) (hb : Binds X.K fd ps [])
    (ha : PA (X.suite a ((a, oe) :: pn)) (e :: es) t) (hdb : (x == ("__debug__" : Str)) = false := by decide) (he : starEach (e :: es) X.env = (false, eval e X.env) :: starEach es X.env := by rfl) (hpl : (backTo pos (starEach es X.env)).any (·.1) = false := by rfl) :
    PE (X.suite a ((a, oe) :: pn)) (.Call (.Name x q) (e :: es) [] pos) (tCallZ cls d a sp t) := by
  refine ⟨fun pins s σ H Q I h => ?_⟩
  refine wpAny_Call_Name_kw (ld_glob (X := X.suite a ((a, oe) :: pn)) I hg hm ?_ hdb)
  refine PySem.W.callWith_K (h₀ := X.base) I.ok.mod.kin hk (thn (ha.run pos pins s σ H _ I h) ?_) he hpl
  rintro us s1 ⟨vs, H1, I1, r, D, dd, e1, e2, q1⟩
  subst e1 e2
  refine ⟨I1.kIn, ?_⟩
  have hl : us.length = ps.length := r.length.symm.trans (F.len _ _ _ _ _ _ _ q1)
  have b := hb s1 us I1.kIn (by rw [List.append_nil]; exact hl)
  rw [List.append_nil] at b
  obtain ⟨g1, g2, g3, g4, g5⟩ := I1.pin (a, oe) (List.mem_append.mpr (.inl List.mem_cons_self))
  have hpin : PinOk X.stack H1 s1 (a, oe) := ⟨g1, g2, fun hm => (List.mem_cons.mp (I1.stkSub a hm)).elim g3 g4, g5⟩
  refine wpAny_call (codeAny_mono (F.run (X.A.mark (some (.ref a))) X.stack s1 H1 ⟨us, []⟩ us vs Q E0 (a, oe) D dd ⟨hr.dp, hr.un⟩ hz hf hpin I1.env0 b r q1) ?_)
  intro r2 s2 hq
  cases r2 with
  | error e3 => exact hq.elim
  | ok fl =>
    cases fl with
    | ret u => exact I1.after hq
    | next => exact hq.elim
    | brk => exact hq.elim
    | cont => exact hq.elim
/-- what an exception class must say, that isinstance asks its instances rightly -/
structure ExcD (K : PySem.W.Frag) (D : Addr) : Prop where
  hc : (PySem.W.clsIn K D).isSome = true
  hg : PySem.W.findIn K (.ref D) "__getattribute__" = some (some (.builtin "BaseException.__getattribute__"))
  hk : PySem.W.findIn K (.ref D) "__getattr__" = some none
  hs : PySem.W.subIn K (.ref D) (.type "BaseException") = some true
  ha : PySem.W.findIn K (.ref D) "__class__" = some (some (.builtin "object.__class__"))
  hn : PySem.W.specialIn K (.builtin "object.__class__") "__get__" = some (some (.builtin "getset_descriptor.__get__"))
  ht : PySem.W.takesIn K (.builtin "object.__class__") = some true
  hm : PySem.W.mroIn K D (.type "object") = some true
def excdB (K : PySem.W.Frag) (D : Addr) : Bool := (PySem.W.clsIn K D).isSome && (decide (PySem.W.findIn K (.ref D) "__getattribute__" = some (some (.builtin "BaseException.__getattribute__"))) && (decide (PySem.W.findIn K (.ref D) "__getattr__" = some none) &&
  (decide (PySem.W.subIn K (.ref D) (.type "BaseException") = some true) && (decide (PySem.W.findIn K (.ref D) "__class__" = some (some (.builtin "object.__class__"))) && (decide (PySem.W.specialIn K (.builtin "object.__class__") "__get__" = some (some (.builtin "getset_descriptor.__get__"))) &&
  (decide (PySem.W.takesIn K (.builtin "object.__class__") = some true) && decide (PySem.W.mroIn K D (.type "object") = some true)))))))
theorem excdB_ok {K : PySem.W.Frag} {D : Addr} (h : excdB K D = true) : ExcD K D := by
  obtain ⟨h1, h⟩ := Bool.and_eq_true_iff.mp h
  obtain ⟨h2, h⟩ := Bool.and_eq_true_iff.mp h
  obtain ⟨h3, h⟩ := Bool.and_eq_true_iff.mp h
  obtain ⟨h4, h⟩ := Bool.and_eq_true_iff.mp h
  obtain ⟨h5, h⟩ := Bool.and_eq_true_iff.mp h
  obtain ⟨h6, h⟩ := Bool.and_eq_true_iff.mp h
  obtain ⟨h7, h8⟩ := Bool.and_eq_true_iff.mp h
  exact ⟨h1, of_decide_eq_true h2, of_decide_eq_true h3, of_decide_eq_true h4, of_decide_eq_true h5, of_decide_eq_true h6, of_decide_eq_true h7, of_decide_eq_true h8⟩
/-- isinstance(e, c), e the exception -/
def rIsX (K : PySem.W.Frag) (a D dd : Addr) : List V → Hp → VK → Prop := fun xs H Q => ∃ (c : V) (cv : Value) (b : Bool) (fs : List (Str × V)), xs = [.ref a, c] ∧ ClsV c cv ∧ PySem.W.kitOne K (.ref D) cv = some b ∧ H dd = some (.xd fs) ∧ Q (.bl b) H
theorem call_isX {X : Cx} {p : Addr × Obj} {D dd : Addr} (hp : p ∈ X.pn) (C : ExcD X.K D) (hz : Zc (.ref D) (some dd) p.2) (hf : ∃ fs, p.2.data = .fields fs) : CallR X (.builtin "isinstance") (rIsX X.K p.1 D dd) := by
  intro pins s σ H xs us Q I r h
  obtain ⟨c, cv, b, fs, rfl, hcv, e, hd, q⟩ := h
  obtain ⟨u1, u2, rfl, r1, r2⟩ := vals2 r
  cases (show u1 = Value.ref p.1 from r1)
  have e2 := hcv.eq r2
  subst e2
  obtain ⟨hget, _⟩ := I.pin p (List.mem_append_left _ hp)
  have hx : ObjOk X.prog X.w H s.heap dd (.xd fs) := I.hok dd _ hd
  obtain ⟨mA, ⟨od, es, ep, ho, hr⟩, _⟩ := hx
  obtain ⟨vs, hv⟩ := hf
  have J : PySem.W.InstAt s.heap p.1 p.2 D (some od) := ⟨hget, hz.1, by unfold PySem.W.notCls; rw [hv] <;> rfl, by rw [hz.2]; exact ho⟩
  exact PySem.W.kia_one (PySem.W.kitx_exc C.hc C.hg C.hk C.hs C.ha C.hn C.ht C.hm) I.kIn J e (fun z => nomatch z) fun tk => ⟨.bl b, H, I.tok tk, rfl, q⟩
/-- what the written part says of an exception class with its own __init__, as a Bool -/
def oexB (K : PySem.W.Frag) (C : Addr) : Bool := (match K.lookup C with
    | some ⟨.type "type", _, .cls cd, sl⟩ => (match cd.mro, sl.toList with
      | .ref C' :: bm, [_, _, _, _, some (.builtin n), _] => decide (C' = C) && (decide (n = "ValueError.__new__") && (!cd.hasDel && (cd.hasDict && PySem.HandSPX.refsVE bm)))
      | _, _ => false)
    | _ => false) && (decide (PySem.W.findIn K (.ref C) "__setattr__" = some (some (.builtin "object.__setattr__"))) && (decide (PySem.W.subIn K (.ref C) (.type "BaseException") = some true) &&
  (decide (PySem.W.typeIn K (.ref C) = some (.type "type")) && PySem.W.keepIn K (.ref C))))
theorem oexB_ok {K : PySem.W.Frag} {C : Addr} (h : oexB K C = true) : OexC K C := by
  obtain ⟨h1, h⟩ := Bool.and_eq_true_iff.mp h
  obtain ⟨h2, h⟩ := Bool.and_eq_true_iff.mp h
  obtain ⟨h3, h⟩ := Bool.and_eq_true_iff.mp h
  obtain ⟨h4, h5⟩ := Bool.and_eq_true_iff.mp h
  refine ⟨?_, of_decide_eq_true h2, of_decide_eq_true h3, of_decide_eq_true h4, h5⟩
  split at h1
  · rename_i dd cd sl ho
    split at h1
    · rename_i C' bm k0 k1 k2 k3 n k5 hm hs
      simp only [Bool.and_eq_true, decide_eq_true_eq, Bool.not_eq_true'] at h1
      obtain ⟨rfl, rfl, hdel, hdct, hr⟩ := h1
      obtain ⟨nm, bs, mro, ns, qn, hd, sn, sub, ab, col, del⟩ := cd
      dsimp only at hm hdel hdct
      subst hm hdel hdct
      have hsl : sl = #[k0, k1, k2, k3, some (.builtin "ValueError.__new__"), k5] := by
        obtain ⟨l⟩ := sl
        dsimp only at hs
        rw [hs]
      subst hsl
      exact ⟨nm, qn, ns, bs, bm, sn, sub, ab, col, dd, k0, k1, k2, k3, k5, ho, hr⟩
    · cases h1
  · cases h1
theorem passR {X : Cx} {W : WX} {E : XK} (tk : Takes X W) (hW : ∀ cls d σ H, E cls d H → W cls d σ H) : Passes (L2.CX X.prog X.w) X E := passes_call tk hW
end LL

namespace LL
open PySem PySem.Spec PyProof.Rows L2
/-! ### the head's facts, and one more Bool of the written part -/
abbrev AlY : Type := He.AlD × Bool
def obsY (n : Nat) (fa : List He.Fa) (fn : List He.DefD) (ex : PySem.W.Frag → Bool) (g : Addr → Option Obj) : AlY := (He.obsD fa fn (He.frG g (He.asD g n)), ex (He.frG g (He.asD g n)))
structure SaysY (fa : List He.Fa) (fn : List He.DefD) (ex : PySem.W.Frag → Bool) (K : PySem.W.Frag) : Prop where
  d : He.SaysD fa fn K
  x : ex K = true
def hookY (n : Nat) (fa : List He.Fa) (fn : List He.DefD) (ex : PySem.W.Frag → Bool) : PySem.W.Hook where
  α := AlY
  obs := fun s => obsY n fa fn ex s.heap.get?
  val := fun _ => (He.valD fn, true)
  says := fun _ h => ∃ K : PySem.W.Frag, K.In h ∧ SaysY fa fn ex K
  of := fun _ _ e => ⟨_, He.frG_in, ⟨congrArg (fun z : AlY => z.1) e, congrArg (fun z : AlY => z.2) e⟩⟩
  keeps := fun _ _ _ ⟨K, hK, c⟩ k => ⟨K, PySem.W.Frag.In.keeps hK k, c⟩
theorem obsY_eq {n : Nat} {fa : List He.Fa} {fn : List He.DefD} {ex : PySem.W.Frag → Bool} {g : Addr → Option Obj} {s : Shared} (h : ∀ a, g a = s.heap.get? a) : obsY n fa fn ex g = (hookY n fa fn ex).obs s := by
  have e : g = s.heap.get? := funext h
  rw [e]
  rfl
theorem SaysY.ex {fa : List He.Fa} {fn : List He.DefD} {exs : List (PySem.W.Frag → Bool)} {K : PySem.W.Frag} (c : SaysY fa fn (fun K => exs.all fun e => e K) K) (i : Nat) {e : PySem.W.Frag → Bool} (h : exs[i]? = some e := by rfl) : e K = true :=
  List.all_eq_true.mp c.x e (List.mem_of_getElem? h)
end LL

namespace K01
open PySem PySem.Spec PyProof.Rows L2 LL
def top (i : Nat) : Stmt := PySem.Challenge.pw_allgivenback_k01_span_meet.main.body.getD i (.Pass ⟨0, 0, 0, 0⟩)
abbrev FnP (K : PySem.W.Frag) (x : Str) (st : Stmt) (f : Addr) (fd : FuncData) : Prop := FunD K x x (defArgs st) (defBody st) (defScope st) [] [] f fd
def p_BadValue : { s : Stmt // inClass (top 2) 0 = s } := by
  refine ⟨?s, ?h⟩
  case h => conv => lhs; whnf
abbrev s_BadValue : Stmt := p_BadValue.1
abbrev P_BadValue : List Str := ["self", "parameter"]
theorem sc_BadValue : FnScope P_BadValue P_BadValue (defScope s_BadValue) := ⟨rfl, rfl, rfl, by decide +kernel, rfl, by decide +kernel, by decide +kernel⟩
abbrev aBV (K : PySem.W.Frag) : Addr := He.ga K "BadValue"
abbrev iBV (K : PySem.W.Frag) : Addr := He.ma K (He.ga K "BadValue") "__init__"
def p_is_whole : { s : Stmt // top 10 = s } := by
  refine ⟨?s, ?h⟩
  case h => conv => lhs; whnf
abbrev s_is_whole : Stmt := p_is_whole.1
abbrev N_is_whole : List Str := ["value"]
abbrev P_is_whole : List Str := ["value"]
theorem sc_is_whole : FnScope N_is_whole P_is_whole (defScope s_is_whole) := ⟨rfl, rfl, rfl, by decide +kernel, rfl, by decide +kernel, by decide +kernel⟩
def p_need : { s : Stmt // top 12 = s } := by
  refine ⟨?s, ?h⟩
  case h => conv => lhs; whnf
abbrev s_need : Stmt := p_need.1
abbrev N_need : List Str := ["holds", "parameter"]
abbrev P_need : List Str := ["holds", "parameter"]
theorem sc_need : FnScope N_need P_need (defScope s_need) := ⟨rfl, rfl, rfl, by decide +kernel, rfl, by decide +kernel, by decide +kernel⟩
def p_is_span : { s : Stmt // top 15 = s } := by
  refine ⟨?s, ?h⟩
  case h => conv => lhs; whnf
abbrev s_is_span : Stmt := p_is_span.1
abbrev N_is_span : List Str := ["value", "start", "size"]
abbrev P_is_span : List Str := ["value"]
theorem sc_is_span : FnScope N_is_span P_is_span (defScope s_is_span) := ⟨rfl, rfl, rfl, by decide +kernel, rfl, by decide +kernel, by decide +kernel⟩
def p_end_of : { s : Stmt // top 16 = s } := by
  refine ⟨?s, ?h⟩
  case h => conv => lhs; whnf
abbrev s_end_of : Stmt := p_end_of.1
abbrev N_end_of : List Str := ["span"]
abbrev P_end_of : List Str := ["span"]
theorem sc_end_of : FnScope N_end_of P_end_of (defScope s_end_of) := ⟨rfl, rfl, rfl, by decide +kernel, rfl, by decide +kernel, by decide +kernel⟩
def p_meet : { s : Stmt // top 17 = s } := by
  refine ⟨?s, ?h⟩
  case h => conv => lhs; whnf
abbrev s_meet : Stmt := p_meet.1
abbrev N_meet : List Str := ["first", "second", "low", "high"]
abbrev P_meet : List Str := ["first", "second"]
theorem sc_meet : FnScope N_meet P_meet (defScope s_meet) := ⟨rfl, rfl, rfl, by decide +kernel, rfl, by decide +kernel, by decide +kernel⟩
def p_overlap : { s : Stmt // top 18 = s } := by
  refine ⟨?s, ?h⟩
  case h => conv => lhs; whnf
abbrev s_overlap : Stmt := p_overlap.1
abbrev N_overlap : List Str := ["first", "second"]
abbrev P_overlap : List Str := ["first", "second"]
theorem sc_overlap : FnScope N_overlap P_overlap (defScope s_overlap) := ⟨rfl, rfl, rfl, by decide +kernel, rfl, by decide +kernel, by decide +kernel⟩
def p_law_draws : { s : Stmt // top 20 = s } := by
  refine ⟨?s, ?h⟩
  case h => conv => lhs; whnf
abbrev s_law_draws : Stmt := p_law_draws.1
abbrev N_law_draws : List Str := ["_law_script", "_law_cell"]
abbrev P_law_draws : List Str := ["_law_script"]
theorem sc_law_draws : FnScope N_law_draws P_law_draws (defScope s_law_draws) := ⟨rfl, rfl, rfl, by decide +kernel, rfl, by decide +kernel, by decide +kernel⟩
def p_law_next_cell : { s : Stmt // top 21 = s } := by
  refine ⟨?s, ?h⟩
  case h => conv => lhs; whnf
abbrev s_law_next_cell : Stmt := p_law_next_cell.1
abbrev N_law_next_cell : List Str := ["_law_draws_here", "_law_cells", "_law_state", "_law_cell"]
abbrev P_law_next_cell : List Str := ["_law_draws_here"]
theorem sc_law_next_cell : FnScope N_law_next_cell P_law_next_cell (defScope s_law_next_cell) := ⟨rfl, rfl, rfl, by decide +kernel, rfl, by decide +kernel, by decide +kernel⟩
def p_law_mixed : { s : Stmt // top 22 = s } := by
  refine ⟨?s, ?h⟩
  case h => conv => lhs; whnf
abbrev s_law_mixed : Stmt := p_law_mixed.1
abbrev N_law_mixed : List Str := ["_law_seed", "_law_turn", "_law_many", "_law_value", "_law_k", "_law_first", "_law_second"]
abbrev P_law_mixed : List Str := ["_law_seed", "_law_turn", "_law_many"]
theorem sc_law_mixed : FnScope N_law_mixed P_law_mixed (defScope s_law_mixed) := ⟨rfl, rfl, rfl, by decide +kernel, rfl, by decide +kernel, by decide +kernel⟩
def p_law_take : { s : Stmt // top 23 = s } := by
  refine ⟨?s, ?h⟩
  case h => conv => lhs; whnf
abbrev s_law_take : Stmt := p_law_take.1
abbrev N_law_take : List Str := ["_law_draws_here", "_law_many", "_law_state", "_law_value"]
abbrev P_law_take : List Str := ["_law_draws_here", "_law_many"]
theorem sc_law_take : FnScope N_law_take P_law_take (defScope s_law_take) := ⟨rfl, rfl, rfl, by decide +kernel, rfl, by decide +kernel, by decide +kernel⟩
def p_law_between : { s : Stmt // top 24 = s } := by
  refine ⟨?s, ?h⟩
  case h => conv => lhs; whnf
abbrev s_law_between : Stmt := p_law_between.1
abbrev N_law_between : List Str := ["_law_draws_here", "_law_low", "_law_high", "_law_kind"]
abbrev P_law_between : List Str := ["_law_draws_here", "_law_low", "_law_high"]
theorem sc_law_between : FnScope N_law_between P_law_between (defScope s_law_between) := ⟨rfl, rfl, rfl, by decide +kernel, rfl, by decide +kernel, by decide +kernel⟩
def p_law_number : { s : Stmt // top 25 = s } := by
  refine ⟨?s, ?h⟩
  case h => conv => lhs; whnf
abbrev s_law_number : Stmt := p_law_number.1
abbrev N_law_number : List Str := ["_law_draws_here", "_law_low", "_law_high", "_law_kind"]
abbrev P_law_number : List Str := ["_law_draws_here", "_law_low", "_law_high"]
theorem sc_law_number : FnScope N_law_number P_law_number (defScope s_law_number) := ⟨rfl, rfl, rfl, by decide +kernel, rfl, by decide +kernel, by decide +kernel⟩
def p_law_alignment : { s : Stmt // top 26 = s } := by
  refine ⟨?s, ?h⟩
  case h => conv => lhs; whnf
abbrev s_law_alignment : Stmt := p_law_alignment.1
abbrev N_law_alignment : List Str := ["_law_draws_here", "_law_most", "_law_value", "_law_k"]
abbrev P_law_alignment : List Str := ["_law_draws_here", "_law_most"]
theorem sc_law_alignment : FnScope N_law_alignment P_law_alignment (defScope s_law_alignment) := ⟨rfl, rfl, rfl, by decide +kernel, rfl, by decide +kernel, by decide +kernel⟩
def p_law_long : { s : Stmt // top 27 = s } := by
  refine ⟨?s, ?h⟩
  case h => conv => lhs; whnf
abbrev s_law_long : Stmt := p_law_long.1
abbrev N_law_long : List Str := ["_law_value", "_law_k"]
abbrev P_law_long : List Str := []
theorem sc_law_long : FnScope N_law_long P_law_long (defScope s_law_long) := ⟨rfl, rfl, rfl, by decide +kernel, rfl, by decide +kernel, by decide +kernel⟩
def p_law_integer : { s : Stmt // top 28 = s } := by
  refine ⟨?s, ?h⟩
  case h => conv => lhs; whnf
abbrev s_law_integer : Stmt := p_law_integer.1
abbrev N_law_integer : List Str := ["_law_draws_here", "_law_kind", "_law_value"]
abbrev P_law_integer : List Str := ["_law_draws_here"]
theorem sc_law_integer : FnScope N_law_integer P_law_integer (defScope s_law_integer) := ⟨rfl, rfl, rfl, by decide +kernel, rfl, by decide +kernel, by decide +kernel⟩
def p_law_chars : { s : Stmt // top 29 = s } := by
  refine ⟨?s, ?h⟩
  case h => conv => lhs; whnf
abbrev s_law_chars : Stmt := p_law_chars.1
abbrev N_law_chars : List Str := ["_law_chars_here"]
abbrev P_law_chars : List Str := []
theorem sc_law_chars : FnScope N_law_chars P_law_chars (defScope s_law_chars) := ⟨rfl, rfl, rfl, by decide +kernel, rfl, by decide +kernel, by decide +kernel⟩
def p_law_text : { s : Stmt // top 30 = s } := by
  refine ⟨?s, ?h⟩
  case h => conv => lhs; whnf
abbrev s_law_text : Stmt := p_law_text.1
abbrev N_law_text : List Str := ["_law_draws_here", "_law_most", "_law_chars_here", "_law_k"]
abbrev P_law_text : List Str := ["_law_draws_here", "_law_most"]
theorem sc_law_text : FnScope N_law_text P_law_text (defScope s_law_text) := ⟨rfl, rfl, rfl, by decide +kernel, rfl, by decide +kernel, by decide +kernel⟩
def p_law_plain : { s : Stmt // top 31 = s } := by
  refine ⟨?s, ?h⟩
  case h => conv => lhs; whnf
abbrev s_law_plain : Stmt := p_law_plain.1
abbrev N_law_plain : List Str := ["_law_draws_here", "_law_deep", "_law_kind", "_law_parts", "_law_k"]
abbrev P_law_plain : List Str := ["_law_draws_here", "_law_deep"]
theorem sc_law_plain : FnScope N_law_plain P_law_plain (defScope s_law_plain) := ⟨rfl, rfl, rfl, by decide +kernel, rfl, by decide +kernel, by decide +kernel⟩
def p_law_not_integer : { s : Stmt // top 32 = s } := by
  refine ⟨?s, ?h⟩
  case h => conv => lhs; whnf
abbrev s_law_not_integer : Stmt := p_law_not_integer.1
abbrev N_law_not_integer : List Str := ["_law_draws_here"]
abbrev P_law_not_integer : List Str := ["_law_draws_here"]
theorem sc_law_not_integer : FnScope N_law_not_integer P_law_not_integer (defScope s_law_not_integer) := ⟨rfl, rfl, rfl, by decide +kernel, rfl, by decide +kernel, by decide +kernel⟩
def p_law_is_int : { s : Stmt // top 33 = s } := by
  refine ⟨?s, ?h⟩
  case h => conv => lhs; whnf
abbrev s_law_is_int : Stmt := p_law_is_int.1
abbrev N_law_is_int : List Str := ["_law_value"]
abbrev P_law_is_int : List Str := ["_law_value"]
theorem sc_law_is_int : FnScope N_law_is_int P_law_is_int (defScope s_law_is_int) := ⟨rfl, rfl, rfl, by decide +kernel, rfl, by decide +kernel, by decide +kernel⟩
def p_law_is_ints : { s : Stmt // top 34 = s } := by
  refine ⟨?s, ?h⟩
  case h => conv => lhs; whnf
abbrev s_law_is_ints : Stmt := p_law_is_ints.1
abbrev N_law_is_ints : List Str := ["_law_value", "_law_listed", "_law_many", "_law_one"]
abbrev P_law_is_ints : List Str := ["_law_value", "_law_listed", "_law_many"]
theorem sc_law_is_ints : FnScope N_law_is_ints P_law_is_ints (defScope s_law_is_ints) := ⟨rfl, rfl, rfl, by decide +kernel, rfl, by decide +kernel, by decide +kernel⟩
def p_law_same : { s : Stmt // top 35 = s } := by
  refine ⟨?s, ?h⟩
  case h => conv => lhs; whnf
abbrev s_law_same : Stmt := p_law_same.1
abbrev N_law_same : List Str := ["_law_actual", "_law_expected", "_law_k", "_law_key"]
abbrev P_law_same : List Str := ["_law_actual", "_law_expected"]
theorem sc_law_same : FnScope N_law_same P_law_same (defScope s_law_same) := ⟨rfl, rfl, rfl, by decide +kernel, rfl, by decide +kernel, by decide +kernel⟩
def p_law_copy : { s : Stmt // top 36 = s } := by
  refine ⟨?s, ?h⟩
  case h => conv => lhs; whnf
abbrev s_law_copy : Stmt := p_law_copy.1
abbrev N_law_copy : List Str := ["_law_value", "_law_twin", "_law_key", "_law_one"]
abbrev P_law_copy : List Str := ["_law_value"]
theorem sc_law_copy : FnScope N_law_copy P_law_copy (defScope s_law_copy) := ⟨rfl, rfl, rfl, by decide +kernel, rfl, by decide +kernel, by decide +kernel⟩
def p_law_is_span : { s : Stmt // top 37 = s } := by
  refine ⟨?s, ?h⟩
  case h => conv => lhs; whnf
abbrev s_law_is_span : Stmt := p_law_is_span.1
abbrev N_law_is_span : List Str := ["_law_value"]
abbrev P_law_is_span : List Str := ["_law_value"]
theorem sc_law_is_span : FnScope N_law_is_span P_law_is_span (defScope s_law_is_span) := ⟨rfl, rfl, rfl, by decide +kernel, rfl, by decide +kernel, by decide +kernel⟩
def p_law_span : { s : Stmt // top 38 = s } := by
  refine ⟨?s, ?h⟩
  case h => conv => lhs; whnf
abbrev s_law_span : Stmt := p_law_span.1
abbrev N_law_span : List Str := ["_law_draws_here", "_law_most", "_law_size"]
abbrev P_law_span : List Str := ["_law_draws_here", "_law_most"]
theorem sc_law_span : FnScope N_law_span P_law_span (defScope s_law_span) := ⟨rfl, rfl, rfl, by decide +kernel, rfl, by decide +kernel, by decide +kernel⟩
def p_law_span_pair : { s : Stmt // top 39 = s } := by
  refine ⟨?s, ?h⟩
  case h => conv => lhs; whnf
abbrev s_law_span_pair : Stmt := p_law_span_pair.1
abbrev N_law_span_pair : List Str := ["_law_draws_here", "_law_most", "_law_one", "_law_behind", "_law_kind", "_law_size", "_law_skip"]
abbrev P_law_span_pair : List Str := ["_law_draws_here"]
theorem sc_law_span_pair : FnScope N_law_span_pair P_law_span_pair (defScope s_law_span_pair) := ⟨rfl, rfl, rfl, by decide +kernel, rfl, by decide +kernel, by decide +kernel⟩
def p_law_no_span : { s : Stmt // top 40 = s } := by
  refine ⟨?s, ?h⟩
  case h => conv => lhs; whnf
abbrev s_law_no_span : Stmt := p_law_no_span.1
abbrev N_law_no_span : List Str := ["_law_draws_here", "_law_one", "_law_kind", "_law_value"]
abbrev P_law_no_span : List Str := ["_law_draws_here", "_law_one"]
theorem sc_law_no_span : FnScope N_law_no_span P_law_no_span (defScope s_law_no_span) := ⟨rfl, rfl, rfl, by decide +kernel, rfl, by decide +kernel, by decide +kernel⟩
def p_law_kinds : { s : Stmt // top 41 = s } := by
  refine ⟨?s, ?h⟩
  case h => conv => lhs; whnf
abbrev s_law_kinds : Stmt := p_law_kinds.1
abbrev N_law_kinds : List Str := ["_law_error"]
abbrev P_law_kinds : List Str := ["_law_error"]
theorem sc_law_kinds : FnScope N_law_kinds P_law_kinds (defScope s_law_kinds) := ⟨rfl, rfl, rfl, by decide +kernel, rfl, by decide +kernel, by decide +kernel⟩
def p_law_refused : { s : Stmt // top 42 = s } := by
  refine ⟨?s, ?h⟩
  case h => conv => lhs; whnf
abbrev s_law_refused : Stmt := p_law_refused.1
abbrev N_law_refused : List Str := ["_law_title", "_law_fields", "_law_titles", "_law_one"]
abbrev P_law_refused : List Str := ["_law_title", "_law_fields"]
theorem sc_law_refused : FnScope N_law_refused P_law_refused (defScope s_law_refused) := ⟨rfl, rfl, rfl, by decide +kernel, rfl, by decide +kernel, by decide +kernel⟩
def p_law_asked : { s : Stmt // top 43 = s } := by
  refine ⟨?s, ?h⟩
  case h => conv => lhs; whnf
abbrev s_law_asked : Stmt := p_law_asked.1
abbrev N_law_asked : List Str := ["_law_title", "_law_first", "_law_second", "e"]
abbrev P_law_asked : List Str := ["_law_title", "_law_first", "_law_second"]
theorem sc_law_asked : FnScope N_law_asked P_law_asked (defScope s_law_asked) := ⟨rfl, rfl, rfl, by decide +kernel, rfl, by decide +kernel, by decide +kernel⟩
def p_law_lies_in : { s : Stmt // top 44 = s } := by
  refine ⟨?s, ?h⟩
  case h => conv => lhs; whnf
abbrev s_law_lies_in : Stmt := p_law_lies_in.1
abbrev N_law_lies_in : List Str := ["_law_place", "_law_span_here"]
abbrev P_law_lies_in : List Str := ["_law_place", "_law_span_here"]
theorem sc_law_lies_in : FnScope N_law_lies_in P_law_lies_in (defScope s_law_lies_in) := ⟨rfl, rfl, rfl, by decide +kernel, rfl, by decide +kernel, by decide +kernel⟩
def p_law_meet_right : { s : Stmt // top 45 = s } := by
  refine ⟨?s, ?h⟩
  case h => conv => lhs; whnf
abbrev s_law_meet_right : Stmt := p_law_meet_right.1
abbrev N_law_meet_right : List Str := ["_law_one", "_law_two", "_law_answer", "_law_last", "_law_place"]
abbrev P_law_meet_right : List Str := ["_law_one", "_law_two", "_law_answer"]
theorem sc_law_meet_right : FnScope N_law_meet_right P_law_meet_right (defScope s_law_meet_right) := ⟨rfl, rfl, rfl, by decide +kernel, rfl, by decide +kernel, by decide +kernel⟩
def p_law_pair_right : { s : Stmt // top 46 = s } := by
  refine ⟨?s, ?h⟩
  case h => conv => lhs; whnf
abbrev s_law_pair_right : Stmt := p_law_pair_right.1
abbrev N_law_pair_right : List Str := ["_law_pair", "_law_one", "_law_two", "_law_shared", "_law_met", "_law_turned", "_law_behind"]
abbrev P_law_pair_right : List Str := ["_law_pair"]
theorem sc_law_pair_right : FnScope N_law_pair_right P_law_pair_right (defScope s_law_pair_right) := ⟨rfl, rfl, rfl, by decide +kernel, rfl, by decide +kernel, by decide +kernel⟩
def p_law_refused_right : { s : Stmt // top 47 = s } := by
  refine ⟨?s, ?h⟩
  case h => conv => lhs; whnf
abbrev s_law_refused_right : Stmt := p_law_refused_right.1
abbrev N_law_refused_right : List Str := ["_law_one", "_law_wrong", "_law_other", "_law_kept", "_law_title"]
abbrev P_law_refused_right : List Str := ["_law_one", "_law_wrong", "_law_other"]
theorem sc_law_refused_right : FnScope N_law_refused_right P_law_refused_right (defScope s_law_refused_right) := ⟨rfl, rfl, rfl, by decide +kernel, rfl, by decide +kernel, by decide +kernel⟩
def p_law_judged_right : { s : Stmt // top 48 = s } := by
  refine ⟨?s, ?h⟩
  case h => conv => lhs; whnf
abbrev s_law_judged_right : Stmt := p_law_judged_right.1
abbrev N_law_judged_right : List Str := ["_law_values", "_law_value", "_law_kept"]
abbrev P_law_judged_right : List Str := ["_law_values"]
theorem sc_law_judged_right : FnScope N_law_judged_right P_law_judged_right (defScope s_law_judged_right) := ⟨rfl, rfl, rfl, by decide +kernel, rfl, by decide +kernel, by decide +kernel⟩
def p_law : { s : Stmt // top 49 = s } := by
  refine ⟨?s, ?h⟩
  case h => conv => lhs; whnf
abbrev s_law : Stmt := p_law.1
abbrev N_law : List Str := ["_law_script", "_law_draws_here", "_law_pair", "_law_other", "_law_wrong", "_law_values", "_law_k"]
abbrev P_law : List Str := ["_law_script"]
theorem sc_law : FnScope N_law P_law (defScope s_law) := ⟨rfl, rfl, rfl, by decide +kernel, rfl, by decide +kernel, by decide +kernel⟩
structure Tx (K : PySem.W.Frag) (mg : Str → Option Value) where
  fd_is_whole : FuncData
  F_is_whole : FnP K "is_whole" s_is_whole (He.ga K "is_whole") fd_is_whole
  g_is_whole : mg "is_whole" = some (.ref (He.ga K "is_whole"))
  fd_need : FuncData
  F_need : FnP K "need" s_need (He.ga K "need") fd_need
  g_need : mg "need" = some (.ref (He.ga K "need"))
  fd_is_span : FuncData
  F_is_span : FnP K "is_span" s_is_span (He.ga K "is_span") fd_is_span
  g_is_span : mg "is_span" = some (.ref (He.ga K "is_span"))
  fd_end_of : FuncData
  F_end_of : FnP K "end_of" s_end_of (He.ga K "end_of") fd_end_of
  g_end_of : mg "end_of" = some (.ref (He.ga K "end_of"))
  fd_meet : FuncData
  F_meet : FnP K "meet" s_meet (He.ga K "meet") fd_meet
  g_meet : mg "meet" = some (.ref (He.ga K "meet"))
  fd_overlap : FuncData
  F_overlap : FnP K "overlap" s_overlap (He.ga K "overlap") fd_overlap
  g_overlap : mg "overlap" = some (.ref (He.ga K "overlap"))
  fd_law_draws : FuncData
  F_law_draws : FnP K "_law_draws" s_law_draws (He.ga K "_law_draws") fd_law_draws
  g_law_draws : mg "_law_draws" = some (.ref (He.ga K "_law_draws"))
  fd_law_next_cell : FuncData
  F_law_next_cell : FnP K "_law_next_cell" s_law_next_cell (He.ga K "_law_next_cell") fd_law_next_cell
  g_law_next_cell : mg "_law_next_cell" = some (.ref (He.ga K "_law_next_cell"))
  fd_law_mixed : FuncData
  F_law_mixed : FnP K "_law_mixed" s_law_mixed (He.ga K "_law_mixed") fd_law_mixed
  g_law_mixed : mg "_law_mixed" = some (.ref (He.ga K "_law_mixed"))
  fd_law_take : FuncData
  F_law_take : FnP K "_law_take" s_law_take (He.ga K "_law_take") fd_law_take
  g_law_take : mg "_law_take" = some (.ref (He.ga K "_law_take"))
  fd_law_between : FuncData
  F_law_between : FnP K "_law_between" s_law_between (He.ga K "_law_between") fd_law_between
  g_law_between : mg "_law_between" = some (.ref (He.ga K "_law_between"))
  fd_law_number : FuncData
  F_law_number : FnP K "_law_number" s_law_number (He.ga K "_law_number") fd_law_number
  g_law_number : mg "_law_number" = some (.ref (He.ga K "_law_number"))
  fd_law_alignment : FuncData
  F_law_alignment : FnP K "_law_alignment" s_law_alignment (He.ga K "_law_alignment") fd_law_alignment
  g_law_alignment : mg "_law_alignment" = some (.ref (He.ga K "_law_alignment"))
  fd_law_long : FuncData
  F_law_long : FnP K "_law_long" s_law_long (He.ga K "_law_long") fd_law_long
  g_law_long : mg "_law_long" = some (.ref (He.ga K "_law_long"))
  fd_law_integer : FuncData
  F_law_integer : FnP K "_law_integer" s_law_integer (He.ga K "_law_integer") fd_law_integer
  g_law_integer : mg "_law_integer" = some (.ref (He.ga K "_law_integer"))
  fd_law_chars : FuncData
  F_law_chars : FnP K "_law_chars" s_law_chars (He.ga K "_law_chars") fd_law_chars
  g_law_chars : mg "_law_chars" = some (.ref (He.ga K "_law_chars"))
  fd_law_text : FuncData
  F_law_text : FnP K "_law_text" s_law_text (He.ga K "_law_text") fd_law_text
  g_law_text : mg "_law_text" = some (.ref (He.ga K "_law_text"))
  fd_law_plain : FuncData
  F_law_plain : FnP K "_law_plain" s_law_plain (He.ga K "_law_plain") fd_law_plain
  g_law_plain : mg "_law_plain" = some (.ref (He.ga K "_law_plain"))
  fd_law_not_integer : FuncData
  F_law_not_integer : FnP K "_law_not_integer" s_law_not_integer (He.ga K "_law_not_integer") fd_law_not_integer
  g_law_not_integer : mg "_law_not_integer" = some (.ref (He.ga K "_law_not_integer"))
  fd_law_is_int : FuncData
  F_law_is_int : FnP K "_law_is_int" s_law_is_int (He.ga K "_law_is_int") fd_law_is_int
  g_law_is_int : mg "_law_is_int" = some (.ref (He.ga K "_law_is_int"))
  fd_law_is_ints : FuncData
  F_law_is_ints : FnP K "_law_is_ints" s_law_is_ints (He.ga K "_law_is_ints") fd_law_is_ints
  g_law_is_ints : mg "_law_is_ints" = some (.ref (He.ga K "_law_is_ints"))
  fd_law_same : FuncData
  F_law_same : FnP K "_law_same" s_law_same (He.ga K "_law_same") fd_law_same
  g_law_same : mg "_law_same" = some (.ref (He.ga K "_law_same"))
  fd_law_copy : FuncData
  F_law_copy : FnP K "_law_copy" s_law_copy (He.ga K "_law_copy") fd_law_copy
  g_law_copy : mg "_law_copy" = some (.ref (He.ga K "_law_copy"))
  fd_law_is_span : FuncData
  F_law_is_span : FnP K "_law_is_span" s_law_is_span (He.ga K "_law_is_span") fd_law_is_span
  g_law_is_span : mg "_law_is_span" = some (.ref (He.ga K "_law_is_span"))
  fd_law_span : FuncData
  F_law_span : FnP K "_law_span" s_law_span (He.ga K "_law_span") fd_law_span
  g_law_span : mg "_law_span" = some (.ref (He.ga K "_law_span"))
  fd_law_span_pair : FuncData
  F_law_span_pair : FnP K "_law_span_pair" s_law_span_pair (He.ga K "_law_span_pair") fd_law_span_pair
  g_law_span_pair : mg "_law_span_pair" = some (.ref (He.ga K "_law_span_pair"))
  fd_law_no_span : FuncData
  F_law_no_span : FnP K "_law_no_span" s_law_no_span (He.ga K "_law_no_span") fd_law_no_span
  g_law_no_span : mg "_law_no_span" = some (.ref (He.ga K "_law_no_span"))
  fd_law_kinds : FuncData
  F_law_kinds : FnP K "_law_kinds" s_law_kinds (He.ga K "_law_kinds") fd_law_kinds
  g_law_kinds : mg "_law_kinds" = some (.ref (He.ga K "_law_kinds"))
  fd_law_refused : FuncData
  F_law_refused : FnP K "_law_refused" s_law_refused (He.ga K "_law_refused") fd_law_refused
  g_law_refused : mg "_law_refused" = some (.ref (He.ga K "_law_refused"))
  fd_law_asked : FuncData
  F_law_asked : FnP K "_law_asked" s_law_asked (He.ga K "_law_asked") fd_law_asked
  g_law_asked : mg "_law_asked" = some (.ref (He.ga K "_law_asked"))
  fd_law_lies_in : FuncData
  F_law_lies_in : FnP K "_law_lies_in" s_law_lies_in (He.ga K "_law_lies_in") fd_law_lies_in
  g_law_lies_in : mg "_law_lies_in" = some (.ref (He.ga K "_law_lies_in"))
  fd_law_meet_right : FuncData
  F_law_meet_right : FnP K "_law_meet_right" s_law_meet_right (He.ga K "_law_meet_right") fd_law_meet_right
  g_law_meet_right : mg "_law_meet_right" = some (.ref (He.ga K "_law_meet_right"))
  fd_law_pair_right : FuncData
  F_law_pair_right : FnP K "_law_pair_right" s_law_pair_right (He.ga K "_law_pair_right") fd_law_pair_right
  g_law_pair_right : mg "_law_pair_right" = some (.ref (He.ga K "_law_pair_right"))
  fd_law_refused_right : FuncData
  F_law_refused_right : FnP K "_law_refused_right" s_law_refused_right (He.ga K "_law_refused_right") fd_law_refused_right
  g_law_refused_right : mg "_law_refused_right" = some (.ref (He.ga K "_law_refused_right"))
  fd_law_judged_right : FuncData
  F_law_judged_right : FnP K "_law_judged_right" s_law_judged_right (He.ga K "_law_judged_right") fd_law_judged_right
  g_law_judged_right : mg "_law_judged_right" = some (.ref (He.ga K "_law_judged_right"))
  fd_law : FuncData
  F_law : FnP K "law" s_law (He.ga K "law") fd_law
  g_law : mg "law" = some (.ref (He.ga K "law"))
  c_MOST_PLACE : ∃ t, mg "MOST_PLACE" = some (.int 1000000000 t)
  g_BadLine : mg "BadLine" = some (.ref (He.ga K "BadLine"))
  g_BadValue : mg "BadValue" = some (.ref (He.ga K "BadValue"))
  g_Broken : mg "Broken" = some (.ref (He.ga K "Broken"))
  g_Cut : mg "Cut" = some (.ref (He.ga K "Cut"))
  g_Fault : mg "Fault" = some (.ref (He.ga K "Fault"))
  g_NoRoom : mg "NoRoom" = some (.ref (He.ga K "NoRoom"))
  g_NotHeld : mg "NotHeld" = some (.ref (He.ga K "NotHeld"))
  g_StoreError : mg "StoreError" = some (.ref (He.ga K "StoreError"))
  g_Unknown : mg "Unknown" = some (.ref (He.ga K "Unknown"))
  z_ValueError : mg "ValueError" = none
  z_bool : mg "bool" = none
  z_dict : mg "dict" = none
  z_int : mg "int" = none
  z_isinstance : mg "isinstance" = none
  z_len : mg "len" = none
  z_list : mg "list" = none
  z_max : mg "max" = none
  z_min : mg "min" = none
  z_range : mg "range" = none
  z_str : mg "str" = none
  z_tuple : mg "tuple" = none
  fd_BadValue : FuncData
  F_BadValue : FunD K "__init__" "BadValue.__init__" (defArgs s_BadValue) (defBody s_BadValue) (defScope s_BadValue) [] [] (iBV K) fd_BadValue
  x_BadValue : OexC K (aBV K)
  i_BadValue : PySem.W.findIn K (.ref (aBV K)) "__init__" = some (some (.ref (iBV K)))
  t_BadValue : PySem.W.typeIn K (.ref (iBV K)) = some (.type "function")
  n_BadValue_parameter : PySem.W.findIn K (.ref (aBV K)) "parameter" = some none
  n_BadValue_told : PySem.W.findIn K (.ref (aBV K)) "told" = some none
  f_BadValue : XfC K (aBV K)
  d_BadValue : ExcD K (aBV K)
  m_BadValue : PySem.W.exmOne K (.ref (aBV K)) (.ref (aBV K)) = some true
  k_ValueError : PySem.W.kitOne K (.ref (aBV K)) (.type "ValueError") = some true
  k_StoreError : PySem.W.kitOne K (.ref (aBV K)) (.ref (He.ga K "StoreError")) = some true
  k_BadValue : PySem.W.kitOne K (.ref (aBV K)) (.ref (He.ga K "BadValue")) = some true
  k_Broken : PySem.W.kitOne K (.ref (aBV K)) (.ref (He.ga K "Broken")) = some false
  k_Unknown : PySem.W.kitOne K (.ref (aBV K)) (.ref (He.ga K "Unknown")) = some false
  k_NotHeld : PySem.W.kitOne K (.ref (aBV K)) (.ref (He.ga K "NotHeld")) = some false
  k_Fault : PySem.W.kitOne K (.ref (aBV K)) (.ref (He.ga K "Fault")) = some false
  k_NoRoom : PySem.W.kitOne K (.ref (aBV K)) (.ref (He.ga K "NoRoom")) = some false
  k_Cut : PySem.W.kitOne K (.ref (aBV K)) (.ref (He.ga K "Cut")) = some false
  k_BadLine : PySem.W.kitOne K (.ref (aBV K)) (.ref (He.ga K "BadLine")) = some false
variable {P : Program} {w : World} {K : PySem.W.Frag} {mg : Str → Option Value} {base : Heap}
theorem b_is_whole (T : Tx K mg) : Binds K T.fd_is_whole P_is_whole [] := T.F_is_whole.bindsN fun _ _ _ _ _ _ us hl => match us, hl with | [_], _ => rfl
theorem b_need (T : Tx K mg) : Binds K T.fd_need P_need [] := T.F_need.bindsN fun _ _ _ _ _ _ us hl => match us, hl with | [_, _], _ => rfl
theorem b_is_span (T : Tx K mg) : Binds K T.fd_is_span P_is_span [] := T.F_is_span.bindsN fun _ _ _ _ _ _ us hl => match us, hl with | [_], _ => rfl
theorem b_end_of (T : Tx K mg) : Binds K T.fd_end_of P_end_of [] := T.F_end_of.bindsN fun _ _ _ _ _ _ us hl => match us, hl with | [_], _ => rfl
theorem b_meet (T : Tx K mg) : Binds K T.fd_meet P_meet [] := T.F_meet.bindsN fun _ _ _ _ _ _ us hl => match us, hl with | [_, _], _ => rfl
theorem b_overlap (T : Tx K mg) : Binds K T.fd_overlap P_overlap [] := T.F_overlap.bindsN fun _ _ _ _ _ _ us hl => match us, hl with | [_, _], _ => rfl
theorem b_law_draws (T : Tx K mg) : Binds K T.fd_law_draws P_law_draws [] := T.F_law_draws.bindsN fun _ _ _ _ _ _ us hl => match us, hl with | [_], _ => rfl
theorem b_law_next_cell (T : Tx K mg) : Binds K T.fd_law_next_cell P_law_next_cell [] := T.F_law_next_cell.bindsN fun _ _ _ _ _ _ us hl => match us, hl with | [_], _ => rfl
theorem b_law_mixed (T : Tx K mg) : Binds K T.fd_law_mixed P_law_mixed [] := T.F_law_mixed.bindsN fun _ _ _ _ _ _ us hl => match us, hl with | [_, _, _], _ => rfl
theorem b_law_take (T : Tx K mg) : Binds K T.fd_law_take P_law_take [] := T.F_law_take.bindsN fun _ _ _ _ _ _ us hl => match us, hl with | [_, _], _ => rfl
theorem b_law_between (T : Tx K mg) : Binds K T.fd_law_between P_law_between [] := T.F_law_between.bindsN fun _ _ _ _ _ _ us hl => match us, hl with | [_, _, _], _ => rfl
theorem b_law_number (T : Tx K mg) : Binds K T.fd_law_number P_law_number [] := T.F_law_number.bindsN fun _ _ _ _ _ _ us hl => match us, hl with | [_, _, _], _ => rfl
theorem b_law_alignment (T : Tx K mg) : Binds K T.fd_law_alignment P_law_alignment [] := T.F_law_alignment.bindsN fun _ _ _ _ _ _ us hl => match us, hl with | [_, _], _ => rfl
theorem b_law_long (T : Tx K mg) : Binds K T.fd_law_long P_law_long [] := T.F_law_long.bindsN fun _ _ _ _ _ _ us hl => match us, hl with | [], _ => rfl
theorem b_law_integer (T : Tx K mg) : Binds K T.fd_law_integer P_law_integer [] := T.F_law_integer.bindsN fun _ _ _ _ _ _ us hl => match us, hl with | [_], _ => rfl
theorem b_law_chars (T : Tx K mg) : Binds K T.fd_law_chars P_law_chars [] := T.F_law_chars.bindsN fun _ _ _ _ _ _ us hl => match us, hl with | [], _ => rfl
theorem b_law_text (T : Tx K mg) : Binds K T.fd_law_text P_law_text [] := T.F_law_text.bindsN fun _ _ _ _ _ _ us hl => match us, hl with | [_, _], _ => rfl
theorem b_law_plain (T : Tx K mg) : Binds K T.fd_law_plain P_law_plain [] := T.F_law_plain.bindsN fun _ _ _ _ _ _ us hl => match us, hl with | [_, _], _ => rfl
theorem b_law_not_integer (T : Tx K mg) : Binds K T.fd_law_not_integer P_law_not_integer [] := T.F_law_not_integer.bindsN fun _ _ _ _ _ _ us hl => match us, hl with | [_], _ => rfl
theorem b_law_is_int (T : Tx K mg) : Binds K T.fd_law_is_int P_law_is_int [] := T.F_law_is_int.bindsN fun _ _ _ _ _ _ us hl => match us, hl with | [_], _ => rfl
theorem b_law_is_ints (T : Tx K mg) : Binds K T.fd_law_is_ints P_law_is_ints [] := T.F_law_is_ints.bindsN fun _ _ _ _ _ _ us hl => match us, hl with | [_, _, _], _ => rfl
theorem b_law_same (T : Tx K mg) : Binds K T.fd_law_same P_law_same [] := T.F_law_same.bindsN fun _ _ _ _ _ _ us hl => match us, hl with | [_, _], _ => rfl
theorem b_law_copy (T : Tx K mg) : Binds K T.fd_law_copy P_law_copy [] := T.F_law_copy.bindsN fun _ _ _ _ _ _ us hl => match us, hl with | [_], _ => rfl
theorem b_law_is_span (T : Tx K mg) : Binds K T.fd_law_is_span P_law_is_span [] := T.F_law_is_span.bindsN fun _ _ _ _ _ _ us hl => match us, hl with | [_], _ => rfl
theorem b_law_span (T : Tx K mg) : Binds K T.fd_law_span P_law_span [] := T.F_law_span.bindsN fun _ _ _ _ _ _ us hl => match us, hl with | [_, _], _ => rfl
theorem b_law_span_pair (T : Tx K mg) : Binds K T.fd_law_span_pair P_law_span_pair [] := T.F_law_span_pair.bindsN fun _ _ _ _ _ _ us hl => match us, hl with | [_], _ => rfl
theorem b_law_no_span (T : Tx K mg) : Binds K T.fd_law_no_span P_law_no_span [] := T.F_law_no_span.bindsN fun _ _ _ _ _ _ us hl => match us, hl with | [_, _], _ => rfl
theorem b_law_kinds (T : Tx K mg) : Binds K T.fd_law_kinds P_law_kinds [] := T.F_law_kinds.bindsN fun _ _ _ _ _ _ us hl => match us, hl with | [_], _ => rfl
theorem b_law_refused (T : Tx K mg) : Binds K T.fd_law_refused P_law_refused [] := T.F_law_refused.bindsN fun _ _ _ _ _ _ us hl => match us, hl with | [_, _], _ => rfl
theorem b_law_asked (T : Tx K mg) : Binds K T.fd_law_asked P_law_asked [] := T.F_law_asked.bindsN fun _ _ _ _ _ _ us hl => match us, hl with | [_, _, _], _ => rfl
theorem b_law_lies_in (T : Tx K mg) : Binds K T.fd_law_lies_in P_law_lies_in [] := T.F_law_lies_in.bindsN fun _ _ _ _ _ _ us hl => match us, hl with | [_, _], _ => rfl
theorem b_law_meet_right (T : Tx K mg) : Binds K T.fd_law_meet_right P_law_meet_right [] := T.F_law_meet_right.bindsN fun _ _ _ _ _ _ us hl => match us, hl with | [_, _, _], _ => rfl
theorem b_law_pair_right (T : Tx K mg) : Binds K T.fd_law_pair_right P_law_pair_right [] := T.F_law_pair_right.bindsN fun _ _ _ _ _ _ us hl => match us, hl with | [_], _ => rfl
theorem b_law_refused_right (T : Tx K mg) : Binds K T.fd_law_refused_right P_law_refused_right [] := T.F_law_refused_right.bindsN fun _ _ _ _ _ _ us hl => match us, hl with | [_, _, _], _ => rfl
theorem b_law_judged_right (T : Tx K mg) : Binds K T.fd_law_judged_right P_law_judged_right [] := T.F_law_judged_right.bindsN fun _ _ _ _ _ _ us hl => match us, hl with | [_], _ => rfl
theorem b_law (T : Tx K mg) : Binds K T.fd_law P_law [] := T.F_law.bindsN fun _ _ _ _ _ _ us hl => match us, hl with | [_], _ => rfl
theorem b_BadValue (T : Tx K mg) : Binds K T.fd_BadValue P_BadValue [] := T.F_BadValue.bindsN fun _ _ _ _ _ _ us hl => match us, hl with | [_, _], _ => rfl
end K01

namespace K01
open PySem PySem.Spec PyProof.Rows L2 LL
variable {P : Program} {w : World} {K : PySem.W.Frag} {mg : Str → Option Value} {base : Heap}

/-- 0 < many: a number of 0 .. many - 1 -/
def sp_law_mixed : Sp := fun vs H Q _ => ∃ a b m : Int, vs = [.int a, .int b, .int m] ∧ 0 < m ∧ ∀ v : Int, 0 ≤ v → v < m → Q (.int v) H
def sp_law_next_cell : Sp := fun vs H Q _ => ∃ d s, vs = [.ref d] ∧ Drw d s H ∧ ∀ H', Aft d s H H' → Q .non H'
def sp_law_take : Sp := fun vs H Q _ => ∃ d s m, vs = [.ref d, .int m] ∧ Drw d s H ∧ m.natAbs < 2 ^ 4000 ∧ ∀ v H', Aft d s H H' → 0 ≤ v → (v < m ∨ v = 0) → Q (.int v) H'
theorem use_take {d s : Addr} {m : Int} {H : Hp} {Q : VK} {E : XK} (D : Drw d s H) (hm : m.natAbs < 2 ^ 4000) (q : ∀ v H', Aft d s H H' → Drw d s H' → 0 ≤ v → (v < m ∨ v = 0) → Q (.int v) H') : sp_law_take [.ref d, .int m] H Q E :=
  ⟨d, s, m, rfl, D, hm, fun v H' a => q v H' a a.dr⟩

theorem ok_law_mixed (T : Tx K mg) : FnOk P w K mg base CX0 1 (He.ga K "_law_mixed") T.fd_law_mixed P_law_mixed sp_law_mixed := by
  refine T.F_law_mixed.ok sc_law_mixed (fun vs H Q E h => ?_) (fun cdv A outer s H vs Q E hr h => ⟨_, PSs.nox (pss_cons (ps_set (i := 3) sc_law_mixed.nd rfl (Or.inl rfl) (pe_int)) (pss_cons (ps_for PassesOwn.never rfl (pi_range1 rfl T.z_range (pa_cons (pe_int) pa_nil)) (pg_name (i := 4) sc_law_mixed.nd rfl (Or.inl rfl)) (pss_cons (ps_set (i := 5) sc_law_mixed.nd rfl (Or.inl rfl) (pe_op op_mod (pe_callTy LL.call_intI (by rfl) T.z_int (by decide +kernel) (pa_cons (pe_op op_mul (pe_op op_add (pe_op op_add (pv 0) (pe_int)) (pe_op op_mul (pe_op op_add (pe_op op_mul (pe_int) (pv 1)) (pv 4)) (pe_int))) (pe_int)) pa_nil)) (pe_int))) (pss_cons (ps_set (i := 6) sc_law_mixed.nd rfl (Or.inl rfl) (pe_op op_mod (pe_callTy LL.call_intI (by rfl) T.z_int (by decide +kernel) (pa_cons (pe_op op_add (pe_op op_add (pe_op op_mul (pv 5) (pv 5)) (pe_op op_mul (pe_op op_fdiv (pv 5) (pe_int)) (pe_int))) (pv 1)) pa_nil)) (pe_int))) (pss_one (ps_set (i := 3) sc_law_mixed.nd rfl (Or.inl rfl) (pe_op op_add (pe_op op_mul (pv 3) (pe_int)) (pe_op op_fdiv (pv 6) (pe_int)))))))) (pss_one (ps_ret (pe_op op_mod (pe_callTy LL.call_intI (by rfl) T.z_int (by decide +kernel) (pa_cons (pv 3) pa_nil)) (pv 2)))))), ?_⟩)
  · obtain ⟨_, _, _, rfl, _⟩ := h
    rfl
  · obtain ⟨a, b, m, rfl, hm, q⟩ := h
    simp only [tSeq, tAsg, tRet, tRetN, tDrop, tNext, tVar, tC, gName, tOp, tUn, rI, rI0, rU, tIfS, tTest, tB, tIf, tAnd, tOr, tNot, tAndV, tOrV, tNotV, tCall, tCons, tNil, tCB, tLst, tTup, tChain, CMul, CDiv, CPow, rEq, rNe, gSub, L2.start, LL.cxK0, LL.cxK1, List.map_cons, List.map_nil, List.length_cons, List.length_nil, List.replicate_succ, List.replicate_zero, List.cons_append, List.nil_append, List.append_nil, List.getElem?_cons_zero, List.getElem?_cons_succ, List.set_cons_zero, List.set_cons_succ, Nat.add_sub_cancel, Nat.reduceAdd, Nat.reduceSub, Option.some.injEq, V.int.injEq, V.bl.injEq, V.ref.injEq, V.str.injEq, List.cons.injEq, and_true, true_and, and_false, false_and, exists_eq_left, exists_eq_left', exists_and_left, exists_and_right, exists_eq, exists_eq', LL.if_dec, reduceCtorEq, exists_false, exists_const, or_false, false_or, if_true, if_false, LL.rInt1, LL.rMx, LL.rMn, and_assoc, Int.reduceNeg, Int.reduceLT, Int.reduceLE, Int.reduceMul, Int.reduceAdd, Int.reduceSub, Int.reducePow, Int.reduceToNat, Nat.reducePow, Nat.reduceLT, true_or, or_true, Bool.not_true, Bool.not_false, Bool.false_eq_true, Bool.or_false, Bool.or_true, Bool.true_or, Bool.false_or, decide_true, decide_false, not_true_eq_false, not_false_eq_true, LL.scal_int, LL.scal_bl, LL.scal_str, LL.isInt, LL.isBl, LL.isStr, LL.isLst, LL.isTup, LL.isDic, N_law_mixed]
    refine use_forR (j := 2) (fun Q q => q) (by decide) (by decide) (fun i σ' H' => H' = H ∧ ∃ (v : Int) (x1 x2 x3 : Option V), σ' = [some (.int a), some (.int b), some (.int m), some (.int v), x1, x2, x3]) ⟨rfl, _, _, _, _, rfl⟩ ?_ ?_
    · rintro i σ' H' hi ⟨rfl, v, x1, x2, x3, rfl⟩
      simp only [tSeq, tAsg, tRet, tRetN, tDrop, tNext, tVar, tC, gName, tOp, tUn, rI, rI0, rU, tIfS, tTest, tB, tIf, tAnd, tOr, tNot, tAndV, tOrV, tNotV, tCall, tCons, tNil, tCB, tLst, tTup, tChain, CMul, CDiv, CPow, rEq, rNe, gSub, L2.start, LL.cxK0, LL.cxK1, List.map_cons, List.map_nil, List.length_cons, List.length_nil, List.replicate_succ, List.replicate_zero, List.cons_append, List.nil_append, List.append_nil, List.getElem?_cons_zero, List.getElem?_cons_succ, List.set_cons_zero, List.set_cons_succ, Nat.add_sub_cancel, Nat.reduceAdd, Nat.reduceSub, Option.some.injEq, V.int.injEq, V.bl.injEq, V.ref.injEq, V.str.injEq, List.cons.injEq, and_true, true_and, and_false, false_and, exists_eq_left, exists_eq_left', exists_and_left, exists_and_right, exists_eq, exists_eq', LL.if_dec, reduceCtorEq, exists_false, exists_const, or_false, false_or, if_true, if_false, LL.rInt1, LL.rMx, LL.rMn, and_assoc, Int.reduceNeg, Int.reduceLT, Int.reduceLE, Int.reduceMul, Int.reduceAdd, Int.reduceSub, Int.reducePow, Int.reduceToNat, Nat.reducePow, Nat.reduceLT, true_or, or_true, Bool.not_true, Bool.not_false, Bool.false_eq_true, Bool.or_false, Bool.or_true, Bool.true_or, Bool.false_or, decide_true, decide_false, not_true_eq_false, not_false_eq_true, LL.scal_int, LL.scal_bl, LL.scal_str, LL.isInt, LL.isBl, LL.isStr, LL.isLst, LL.isTup, LL.isDic]
      have h1 := Int.emod_nonneg ((a + 7 + (2 * b + (0 + (i : Int))) * 1000003) * 48271) (show (2147483647 : Int) ≠ 0 by decide)
      have h2 := Int.emod_lt_of_pos ((a + 7 + (2 * b + (0 + (i : Int))) * 1000003) * 48271) (show (0 : Int) < 2147483647 by decide)
      exact Or.inl ⟨by omega, by omega⟩
    · rintro σ' H' ⟨rfl, v, x1, x2, x3, rfl⟩
      simp only [tSeq, tAsg, tRet, tRetN, tDrop, tNext, tVar, tC, gName, tOp, tUn, rI, rI0, rU, tIfS, tTest, tB, tIf, tAnd, tOr, tNot, tAndV, tOrV, tNotV, tCall, tCons, tNil, tCB, tLst, tTup, tChain, CMul, CDiv, CPow, rEq, rNe, gSub, L2.start, LL.cxK0, LL.cxK1, List.map_cons, List.map_nil, List.length_cons, List.length_nil, List.replicate_succ, List.replicate_zero, List.cons_append, List.nil_append, List.append_nil, List.getElem?_cons_zero, List.getElem?_cons_succ, List.set_cons_zero, List.set_cons_succ, Nat.add_sub_cancel, Nat.reduceAdd, Nat.reduceSub, Option.some.injEq, V.int.injEq, V.bl.injEq, V.ref.injEq, V.str.injEq, List.cons.injEq, and_true, true_and, and_false, false_and, exists_eq_left, exists_eq_left', exists_and_left, exists_and_right, exists_eq, exists_eq', LL.if_dec, reduceCtorEq, exists_false, exists_const, or_false, false_or, if_true, if_false, LL.rInt1, LL.rMx, LL.rMn, and_assoc, Int.reduceNeg, Int.reduceLT, Int.reduceLE, Int.reduceMul, Int.reduceAdd, Int.reduceSub, Int.reducePow, Int.reduceToNat, Nat.reducePow, Nat.reduceLT, true_or, or_true, Bool.not_true, Bool.not_false, Bool.false_eq_true, Bool.or_false, Bool.or_true, Bool.true_or, Bool.false_or, decide_true, decide_false, not_true_eq_false, not_false_eq_true, LL.scal_int, LL.scal_bl, LL.scal_str, LL.isInt, LL.isBl, LL.isStr, LL.isLst, LL.isTup, LL.isDic]
      exact ⟨hm, q _ (Int.emod_nonneg _ (by omega)) (Int.emod_lt_of_pos _ hm)⟩
theorem ok_law_next_cell (T : Tx K mg) : FnOk P w K mg base CX0 1 (He.ga K "_law_next_cell") T.fd_law_next_cell P_law_next_cell sp_law_next_cell := by
  refine T.F_law_next_cell.ok sc_law_next_cell (fun vs H Q E h => ?_) (fun cdv A outer s H vs Q E hr h => ⟨_, PSs.nox (pss_cons (ps_set (i := 1) sc_law_next_cell.nd rfl (Or.inl rfl) (pe_ix ix_list (pv 0) (pe_int) (fun _ _ => rfl))) (pss_cons (ps_set (i := 2) sc_law_next_cell.nd rfl (Or.inl rfl) (pe_ix ix_list (pv 0) (pe_int) (fun _ _ => rfl))) (pss_one (ps_if (pt_cmpR op_lt (pe_ix ix_list (pv 2) (pe_int) (fun _ _ => rfl)) (pe_callB LL.call_lenL (by rfl) T.z_len (by decide +kernel) (pa_cons (pv 1) pa_nil)) (nomark _)) (pss_cons (ps_set (i := 3) sc_law_next_cell.nd rfl (Or.inl rfl) (pe_callTy LL.call_intI (by rfl) T.z_int (by decide +kernel) (pa_cons (pe_ix ix_list (pv 1) (pe_ix ix_list (pv 2) (pe_int) (fun _ _ => rfl)) (fun _ _ => rfl)) pa_nil))) (pss_cons (ps_asg (pe_op op_add (pe_ix ix_list (pv 2) (pe_int) (fun _ _ => rfl)) (pe_int)) (pg_sub (pv 2) (pe_int) set_list)) (pss_cons (ps_asg (pe_op op_mod (pe_callTy LL.call_intI (by rfl) T.z_int (by decide +kernel) (pa_cons (pe_op op_add (pe_op op_add (pe_op op_mul (pe_ix ix_list (pv 2) (pe_int) (fun _ _ => rfl)) (pe_int)) (pe_op op_mod (pv 3) (pe_int))) (pe_int)) pa_nil)) (pe_int)) (pg_sub (pv 2) (pe_int) set_list)) (pss_one (ps_if (pt_cmpR op_ge (pv 3) (pe_op op_pow (pe_int) (pe_int)) (nomark _)) (pss_one (ps_asg (pv 3) (pg_sub (pv 2) (pe_int) set_list))) (pss_one (ps_asg (pe_int) (pg_sub (pv 2) (pe_int) set_list)))))))) pss_nil)))), ?_⟩)
  · obtain ⟨_, _, rfl, _⟩ := h
    rfl
  · obtain ⟨d, s, rfl, D, q⟩ := h
    obtain ⟨⟨c, hd, hcs, ns, hc⟩, ⟨i, v, k, t, gg, hi, hs⟩, hds⟩ := _root_.id D
    simp only [tSeq, tAsg, tRet, tRetN, tDrop, tNext, tVar, tC, gName, tOp, tUn, rI, rI0, rU, tIfS, tTest, tB, tIf, tAnd, tOr, tNot, tAndV, tOrV, tNotV, tCall, tCons, tNil, tCB, tLst, tTup, tChain, CMul, CDiv, CPow, rEq, rNe, gSub, L2.start, LL.cxK0, LL.cxK1, List.map_cons, List.map_nil, List.length_cons, List.length_nil, List.replicate_succ, List.replicate_zero, List.cons_append, List.nil_append, List.append_nil, List.getElem?_cons_zero, List.getElem?_cons_succ, List.set_cons_zero, List.set_cons_succ, Nat.add_sub_cancel, Nat.reduceAdd, Nat.reduceSub, Option.some.injEq, V.int.injEq, V.bl.injEq, V.ref.injEq, V.str.injEq, List.cons.injEq, and_true, true_and, and_false, false_and, exists_eq_left, exists_eq_left', exists_and_left, exists_and_right, exists_eq, exists_eq', LL.if_dec, reduceCtorEq, exists_false, exists_const, or_false, false_or, if_true, if_false, LL.rInt1, LL.rMx, LL.rMn, and_assoc, Int.reduceNeg, Int.reduceLT, Int.reduceLE, Int.reduceMul, Int.reduceAdd, Int.reduceSub, Int.reducePow, Int.reduceToNat, Nat.reducePow, Nat.reduceLT, true_or, or_true, Bool.not_true, Bool.not_false, Bool.false_eq_true, Bool.or_false, Bool.or_true, Bool.true_or, Bool.false_or, decide_true, decide_false, not_true_eq_false, not_false_eq_true, LL.scal_int, LL.scal_bl, LL.scal_str, LL.isInt, LL.isBl, LL.isStr, LL.isLst, LL.isTup, LL.isDic, N_law_next_cell]
    refine use_ixL hd rfl (use_ixL hd rfl (use_ixL hs rfl ?_))
    refine use_lenL hc ?_
    simp only [tSeq, tAsg, tRet, tRetN, tDrop, tNext, tVar, tC, gName, tOp, tUn, rI, rI0, rU, tIfS, tTest, tB, tIf, tAnd, tOr, tNot, tAndV, tOrV, tNotV, tCall, tCons, tNil, tCB, tLst, tTup, tChain, CMul, CDiv, CPow, rEq, rNe, gSub, L2.start, LL.cxK0, LL.cxK1, List.map_cons, List.map_nil, List.length_cons, List.length_nil, List.replicate_succ, List.replicate_zero, List.cons_append, List.nil_append, List.append_nil, List.getElem?_cons_zero, List.getElem?_cons_succ, List.set_cons_zero, List.set_cons_succ, Nat.add_sub_cancel, Nat.reduceAdd, Nat.reduceSub, Option.some.injEq, V.int.injEq, V.bl.injEq, V.ref.injEq, V.str.injEq, List.cons.injEq, and_true, true_and, and_false, false_and, exists_eq_left, exists_eq_left', exists_and_left, exists_and_right, exists_eq, exists_eq', LL.if_dec, reduceCtorEq, exists_false, exists_const, or_false, false_or, if_true, if_false, LL.rInt1, LL.rMx, LL.rMn, and_assoc, Int.reduceNeg, Int.reduceLT, Int.reduceLE, Int.reduceMul, Int.reduceAdd, Int.reduceSub, Int.reducePow, Int.reduceToNat, Nat.reducePow, Nat.reduceLT, true_or, or_true, Bool.not_true, Bool.not_false, Bool.false_eq_true, Bool.or_false, Bool.or_true, Bool.true_or, Bool.false_or, decide_true, decide_false, not_true_eq_false, not_false_eq_true, LL.scal_int, LL.scal_bl, LL.scal_str, LL.isInt, LL.isBl, LL.isStr, LL.isLst, LL.isTup, LL.isDic]
    split
    · rename_i hlt
      obtain ⟨n, hn⟩ := atI_int hi (by simpa using hlt)
      refine use_ixL hs rfl (use_ixL hc hn ?_)
      simp only [tSeq, tAsg, tRet, tRetN, tDrop, tNext, tVar, tC, gName, tOp, tUn, rI, rI0, rU, tIfS, tTest, tB, tIf, tAnd, tOr, tNot, tAndV, tOrV, tNotV, tCall, tCons, tNil, tCB, tLst, tTup, tChain, CMul, CDiv, CPow, rEq, rNe, gSub, L2.start, LL.cxK0, LL.cxK1, List.map_cons, List.map_nil, List.length_cons, List.length_nil, List.replicate_succ, List.replicate_zero, List.cons_append, List.nil_append, List.append_nil, List.getElem?_cons_zero, List.getElem?_cons_succ, List.set_cons_zero, List.set_cons_succ, Nat.add_sub_cancel, Nat.reduceAdd, Nat.reduceSub, Option.some.injEq, V.int.injEq, V.bl.injEq, V.ref.injEq, V.str.injEq, List.cons.injEq, and_true, true_and, and_false, false_and, exists_eq_left, exists_eq_left', exists_and_left, exists_and_right, exists_eq, exists_eq', LL.if_dec, reduceCtorEq, exists_false, exists_const, or_false, false_or, if_true, if_false, LL.rInt1, LL.rMx, LL.rMn, and_assoc, Int.reduceNeg, Int.reduceLT, Int.reduceLE, Int.reduceMul, Int.reduceAdd, Int.reduceSub, Int.reducePow, Int.reduceToNat, Nat.reducePow, Nat.reduceLT, true_or, or_true, Bool.not_true, Bool.not_false, Bool.false_eq_true, Bool.or_false, Bool.or_true, Bool.true_or, Bool.false_or, decide_true, decide_false, not_true_eq_false, not_false_eq_true, LL.scal_int, LL.scal_bl, LL.scal_str, LL.isInt, LL.isBl, LL.isStr, LL.isLst, LL.isTup, LL.isDic]
      refine use_ixL hs rfl ?_
      simp only [tSeq, tAsg, tRet, tRetN, tDrop, tNext, tVar, tC, gName, tOp, tUn, rI, rI0, rU, tIfS, tTest, tB, tIf, tAnd, tOr, tNot, tAndV, tOrV, tNotV, tCall, tCons, tNil, tCB, tLst, tTup, tChain, CMul, CDiv, CPow, rEq, rNe, gSub, L2.start, LL.cxK0, LL.cxK1, List.map_cons, List.map_nil, List.length_cons, List.length_nil, List.replicate_succ, List.replicate_zero, List.cons_append, List.nil_append, List.append_nil, List.getElem?_cons_zero, List.getElem?_cons_succ, List.set_cons_zero, List.set_cons_succ, Nat.add_sub_cancel, Nat.reduceAdd, Nat.reduceSub, Option.some.injEq, V.int.injEq, V.bl.injEq, V.ref.injEq, V.str.injEq, List.cons.injEq, and_true, true_and, and_false, false_and, exists_eq_left, exists_eq_left', exists_and_left, exists_and_right, exists_eq, exists_eq', LL.if_dec, reduceCtorEq, exists_false, exists_const, or_false, false_or, if_true, if_false, LL.rInt1, LL.rMx, LL.rMn, and_assoc, Int.reduceNeg, Int.reduceLT, Int.reduceLE, Int.reduceMul, Int.reduceAdd, Int.reduceSub, Int.reducePow, Int.reduceToNat, Nat.reducePow, Nat.reduceLT, true_or, or_true, Bool.not_true, Bool.not_false, Bool.false_eq_true, Bool.or_false, Bool.or_true, Bool.true_or, Bool.false_or, decide_true, decide_false, not_true_eq_false, not_false_eq_true, LL.scal_int, LL.scal_bl, LL.scal_str, LL.isInt, LL.isBl, LL.isStr, LL.isLst, LL.isTup, LL.isDic]
      refine use_setL hs rfl ?_
      refine use_ixL upd_same rfl ?_
      simp only [tSeq, tAsg, tRet, tRetN, tDrop, tNext, tVar, tC, gName, tOp, tUn, rI, rI0, rU, tIfS, tTest, tB, tIf, tAnd, tOr, tNot, tAndV, tOrV, tNotV, tCall, tCons, tNil, tCB, tLst, tTup, tChain, CMul, CDiv, CPow, rEq, rNe, gSub, L2.start, LL.cxK0, LL.cxK1, List.map_cons, List.map_nil, List.length_cons, List.length_nil, List.replicate_succ, List.replicate_zero, List.cons_append, List.nil_append, List.append_nil, List.getElem?_cons_zero, List.getElem?_cons_succ, List.set_cons_zero, List.set_cons_succ, Nat.add_sub_cancel, Nat.reduceAdd, Nat.reduceSub, Option.some.injEq, V.int.injEq, V.bl.injEq, V.ref.injEq, V.str.injEq, List.cons.injEq, and_true, true_and, and_false, false_and, exists_eq_left, exists_eq_left', exists_and_left, exists_and_right, exists_eq, exists_eq', LL.if_dec, reduceCtorEq, exists_false, exists_const, or_false, false_or, if_true, if_false, LL.rInt1, LL.rMx, LL.rMn, and_assoc, Int.reduceNeg, Int.reduceLT, Int.reduceLE, Int.reduceMul, Int.reduceAdd, Int.reduceSub, Int.reducePow, Int.reduceToNat, Nat.reducePow, Nat.reduceLT, true_or, or_true, Bool.not_true, Bool.not_false, Bool.false_eq_true, Bool.or_false, Bool.or_true, Bool.true_or, Bool.false_or, decide_true, decide_false, not_true_eq_false, not_false_eq_true, LL.scal_int, LL.scal_bl, LL.scal_str, LL.isInt, LL.isBl, LL.isStr, LL.isLst, LL.isTup, LL.isDic]
      refine use_setL upd_same rfl ?_
      rw [upd_upd]
      refine ⟨by decide, ?_⟩
      split
      · exact use_setL upd_same rfl (by rw [upd_upd]; exact q _ (Aft.st D (by omega)))
      · exact use_setL upd_same rfl (by rw [upd_upd]; exact q _ (Aft.st D (by omega)))
    · exact q _ (Aft.refl D)
theorem ok_law_take (T : Tx K mg) : FnOk P w K mg base CX0 2 (He.ga K "_law_take") T.fd_law_take P_law_take sp_law_take := by
  refine T.F_law_take.ok sc_law_take (fun vs H Q E h => ?_) (fun cdv A outer s H vs Q E hr h => ⟨_, PSs.nox (pss_cons (ps_if (pt_cmpR op_lt (pv 1) (pe_int) (nomark _)) (pss_one (ps_ret (pe_int))) pss_nil) (pss_cons (ps_set (i := 2) sc_law_take.nd rfl (Or.inl rfl) (pe_ix ix_list (pv 0) (pe_int) (fun _ _ => rfl))) (pss_cons (ps_asg (pe_op op_add (pe_ix ix_list (pv 2) (pe_int) (fun _ _ => rfl)) (pe_int)) (pg_sub (pv 2) (pe_int) set_list)) (pss_cons (ps_if (PW.pt (pw_and (pt_cmpR op_lt (pe_ix ix_list (pv 2) (pe_int) (fun _ _ => rfl)) (pe_int) (nomark _)) (pw_and1 (pt_cmpR op_lt (pe_ix ix_list (pv 2) (pe_int) (fun _ _ => rfl)) (pe_int) (nomark _))))) (pss_one (ps_expr (pe_call (ok_law_next_cell T) hr rfl T.g_law_next_cell T.F_law_next_cell.kp (b_law_next_cell T) .nil pass0 (pa_cons (pv 0) pa_nil)))) pss_nil) (pss_cons (ps_if (pt_cmpR op_gt (pe_ix ix_list (pv 2) (pe_int) (fun _ _ => rfl)) (pe_int) (nomark _)) (pss_cons (ps_set (i := 3) sc_law_take.nd rfl (Or.inl rfl) (pe_op op_mod (pe_callTy LL.call_intI (by rfl) T.z_int (by decide +kernel) (pa_cons (pe_ix ix_list (pv 2) (pe_int) (fun _ _ => rfl)) pa_nil)) (pv 1))) (pss_cons (ps_asg (pe_op op_fdivW (pe_ix ix_list (pv 2) (pe_int) (fun _ _ => rfl)) (pv 1)) (pg_sub (pv 2) (pe_int) set_list)) (pss_one (ps_ret (pv 3))))) pss_nil) (pss_cons (ps_if (pt_cmpR op_gt (pe_ix ix_list (pv 2) (pe_int) (fun _ _ => rfl)) (pe_int) (nomark _)) (pss_one (ps_asg (pe_op op_sub (pe_ix ix_list (pv 2) (pe_int) (fun _ _ => rfl)) (pe_int)) (pg_sub (pv 2) (pe_int) set_list))) pss_nil) (pss_one (ps_ret (pe_call (ok_law_mixed T) hr rfl T.g_law_mixed T.F_law_mixed.kp (b_law_mixed T) .nil pass0 (pa_cons (pe_ix ix_list (pv 2) (pe_int) (fun _ _ => rfl)) (pa_cons (pe_ix ix_list (pv 2) (pe_int) (fun _ _ => rfl)) (pa_cons (pv 1) pa_nil)))))))))))), ?_⟩)
  · obtain ⟨_, _, _, rfl, _⟩ := h
    rfl
  · obtain ⟨d, s, m, rfl, D, hmb, q⟩ := h
    obtain ⟨⟨c, hd, hcs, ns, hc⟩, ⟨i, v, k, t, gg, hi, hs⟩, hds⟩ := _root_.id D
    simp only [tSeq, tAsg, tRet, tRetN, tDrop, tNext, tVar, tC, gName, tOp, tUn, rI, rI0, rU, tIfS, tTest, tB, tIf, tAnd, tOr, tNot, tAndV, tOrV, tNotV, tCall, tCons, tNil, tCB, tLst, tTup, tChain, CMul, CDiv, CPow, rEq, rNe, gSub, L2.start, LL.cxK0, LL.cxK1, List.map_cons, List.map_nil, List.length_cons, List.length_nil, List.replicate_succ, List.replicate_zero, List.cons_append, List.nil_append, List.append_nil, List.getElem?_cons_zero, List.getElem?_cons_succ, List.set_cons_zero, List.set_cons_succ, Nat.add_sub_cancel, Nat.reduceAdd, Nat.reduceSub, Option.some.injEq, V.int.injEq, V.bl.injEq, V.ref.injEq, V.str.injEq, List.cons.injEq, and_true, true_and, and_false, false_and, exists_eq_left, exists_eq_left', exists_and_left, exists_and_right, exists_eq, exists_eq', LL.if_dec, reduceCtorEq, exists_false, exists_const, or_false, false_or, if_true, if_false, LL.rInt1, LL.rMx, LL.rMn, and_assoc, Int.reduceNeg, Int.reduceLT, Int.reduceLE, Int.reduceMul, Int.reduceAdd, Int.reduceSub, Int.reducePow, Int.reduceToNat, Nat.reducePow, Nat.reduceLT, true_or, or_true, Bool.not_true, Bool.not_false, Bool.false_eq_true, Bool.or_false, Bool.or_true, Bool.true_or, Bool.false_or, decide_true, decide_false, not_true_eq_false, not_false_eq_true, LL.scal_int, LL.scal_bl, LL.scal_str, LL.isInt, LL.isBl, LL.isStr, LL.isLst, LL.isTup, LL.isDic, N_law_take]
    split
    · exact q _ _ (Aft.refl D) (by decide) (.inr rfl)
    · rename_i hm
      have hm0 : 0 < m := by omega
      refine use_ixL hd rfl (use_ixL hs rfl ?_)
      simp only [tSeq, tAsg, tRet, tRetN, tDrop, tNext, tVar, tC, gName, tOp, tUn, rI, rI0, rU, tIfS, tTest, tB, tIf, tAnd, tOr, tNot, tAndV, tOrV, tNotV, tCall, tCons, tNil, tCB, tLst, tTup, tChain, CMul, CDiv, CPow, rEq, rNe, gSub, L2.start, LL.cxK0, LL.cxK1, List.map_cons, List.map_nil, List.length_cons, List.length_nil, List.replicate_succ, List.replicate_zero, List.cons_append, List.nil_append, List.append_nil, List.getElem?_cons_zero, List.getElem?_cons_succ, List.set_cons_zero, List.set_cons_succ, Nat.add_sub_cancel, Nat.reduceAdd, Nat.reduceSub, Option.some.injEq, V.int.injEq, V.bl.injEq, V.ref.injEq, V.str.injEq, List.cons.injEq, and_true, true_and, and_false, false_and, exists_eq_left, exists_eq_left', exists_and_left, exists_and_right, exists_eq, exists_eq', LL.if_dec, reduceCtorEq, exists_false, exists_const, or_false, false_or, if_true, if_false, LL.rInt1, LL.rMx, LL.rMn, and_assoc, Int.reduceNeg, Int.reduceLT, Int.reduceLE, Int.reduceMul, Int.reduceAdd, Int.reduceSub, Int.reducePow, Int.reduceToNat, Nat.reducePow, Nat.reduceLT, true_or, or_true, Bool.not_true, Bool.not_false, Bool.false_eq_true, Bool.or_false, Bool.or_true, Bool.true_or, Bool.false_or, decide_true, decide_false, not_true_eq_false, not_false_eq_true, LL.scal_int, LL.scal_bl, LL.scal_str, LL.isInt, LL.isBl, LL.isStr, LL.isLst, LL.isTup, LL.isDic]
      refine use_setL hs rfl (use_ixL upd_same rfl ?_)
      simp only [tSeq, tAsg, tRet, tRetN, tDrop, tNext, tVar, tC, gName, tOp, tUn, rI, rI0, rU, tIfS, tTest, tB, tIf, tAnd, tOr, tNot, tAndV, tOrV, tNotV, tCall, tCons, tNil, tCB, tLst, tTup, tChain, CMul, CDiv, CPow, rEq, rNe, gSub, L2.start, LL.cxK0, LL.cxK1, List.map_cons, List.map_nil, List.length_cons, List.length_nil, List.replicate_succ, List.replicate_zero, List.cons_append, List.nil_append, List.append_nil, List.getElem?_cons_zero, List.getElem?_cons_succ, List.set_cons_zero, List.set_cons_succ, Nat.add_sub_cancel, Nat.reduceAdd, Nat.reduceSub, Option.some.injEq, V.int.injEq, V.bl.injEq, V.ref.injEq, V.str.injEq, List.cons.injEq, and_true, true_and, and_false, false_and, exists_eq_left, exists_eq_left', exists_and_left, exists_and_right, exists_eq, exists_eq', LL.if_dec, reduceCtorEq, exists_false, exists_const, or_false, false_or, if_true, if_false, LL.rInt1, LL.rMx, LL.rMn, and_assoc, Int.reduceNeg, Int.reduceLT, Int.reduceLE, Int.reduceMul, Int.reduceAdd, Int.reduceSub, Int.reducePow, Int.reduceToNat, Nat.reducePow, Nat.reduceLT, true_or, or_true, Bool.not_true, Bool.not_false, Bool.false_eq_true, Bool.or_false, Bool.or_true, Bool.true_or, Bool.false_or, decide_true, decide_false, not_true_eq_false, not_false_eq_true, LL.scal_int, LL.scal_bl, LL.scal_str, LL.isInt, LL.isBl, LL.isStr, LL.isLst, LL.isTup, LL.isDic]
      have a1 : Aft d s H (upd H s (.lst [.int i, .int v, .int k, .int (t + 1), .int gg])) := Aft.st D hi
      show (if v < 2 then rIxL K (V.ref s) (V.int 2) (upd H s (.lst [.int i, .int v, .int k, .int (t + 1), .int gg])) _ else rIxL K (V.ref s) (V.int 1) (upd H s (.lst [.int i, .int v, .int k, .int (t + 1), .int gg])) _)
      generalize upd H s (.lst [.int i, .int v, .int k, .int (t + 1), .int gg]) = H1 at a1 ⊢
      clear hs
      have tail : ∀ H1, Aft d s H H1 → rIxL K (V.ref s) (V.int 1) H1 (fun x H1 => ∃ i, x = V.int i ∧ if 1 < i then rIxL K (V.ref s) (V.int 1) H1 (fun x H1 => ∃ i, x = V.int i ∧ 0 < m ∧ rIxL K (V.ref s) (V.int 1) H1 (fun x H1 => ∃ i_1, x = V.int i_1 ∧ CDivW i_1 m ∧ rSetL (V.ref s) (V.int 1) (V.int (i_1 / m)) H1 fun H3 => Q (V.int (i % m)) H3))
          else rIxL K (V.ref s) (V.int 2) H1 (fun x H1 => ∃ i, x = V.int i ∧ if 0 < i then rIxL K (V.ref s) (V.int 2) H1 (fun x H1 => ∃ i, x = V.int i ∧ rSetL (V.ref s) (V.int 2) (V.int (i - 1)) H1 fun H3 => rIxL K (V.ref s) (V.int 4) H3 fun x H1 => rIxL K (V.ref s) (V.int 3) H1 fun x_1 H1 => sp_law_mixed [x, x_1, V.int m] H1 Q E0)
            else rIxL K (V.ref s) (V.int 4) H1 fun x H1 => rIxL K (V.ref s) (V.int 3) H1 fun x_1 H1 => sp_law_mixed [x, x_1, V.int m] H1 Q E0)) := by
        intro H2 a2
        obtain ⟨⟨c2, hd2, hcs2, ns2, hc2⟩, ⟨i2, v2, k2, t2, gg2, hi2, hs2⟩, _⟩ := _root_.id a2.dr
        refine use_ixL hs2 rfl ⟨_, rfl, ?_⟩
        split
        · refine use_ixL hs2 rfl ⟨_, rfl, hm0, use_ixL hs2 rfl ⟨_, rfl, wide_div hm0 hmb (by decide) (by decide), ?_⟩⟩
          exact use_setL hs2 rfl (q _ _ (a2.st2 hi2) (Int.emod_nonneg _ (by omega)) (.inl (Int.emod_lt_of_pos _ hm0)))
        · refine use_ixL hs2 rfl ⟨_, rfl, ?_⟩
          split
          · refine use_ixL hs2 rfl ⟨_, rfl, use_setL hs2 rfl (use_ixL upd_same rfl (use_ixL upd_same rfl ?_))⟩
            exact ⟨_, _, _, rfl, hm0, fun v h0 h1 => q _ _ (a2.st2 hi2) h0 (.inl h1)⟩
          · refine use_ixL hs2 rfl (use_ixL hs2 rfl ?_)
            exact ⟨_, _, _, rfl, hm0, fun v h0 h1 => q _ _ a2 h0 (.inl h1)⟩
      split
      · obtain ⟨_, ⟨i3, v3, k3, t3, gg3, hi3, hs3⟩, _⟩ := _root_.id a1.dr
        refine use_ixL hs3 rfl ⟨_, rfl, ?_⟩
        split
        · exact ⟨d, s, rfl, a1.dr, fun H' a2 => tail _ (a1.trans a2)⟩
        · exact tail _ a1
      · exact tail _ a1
def sp_law_between : Sp := fun vs H Q _ => ∃ (d s : Addr) (lo hi : Int), vs = [.ref d, .int lo, .int hi] ∧ Drw d s H ∧ (hi - lo + 1).natAbs < 2 ^ 4000 ∧ ∀ v H', Aft d s H H' → Drw d s H' → lo ≤ v → (v ≤ hi ∨ v = lo) → Q (.int v) H'
theorem use_between {d s : Addr} {lo hi : Int} {H : Hp} {Q : VK} {E : XK} (D : Drw d s H) (hm : (hi - lo + 1).natAbs < 2 ^ 4000) (q : ∀ v H', Aft d s H H' → Drw d s H' → lo ≤ v → (v ≤ hi ∨ v = lo) → Q (.int v) H') : sp_law_between [.ref d, .int lo, .int hi] H Q E :=
  ⟨d, s, lo, hi, rfl, D, hm, q⟩
theorem big_of {n : Int} (h0 : -1000000000000 ≤ n) (h : n ≤ 1000000000000) : n.natAbs < 2 ^ 4000 := Nat.lt_of_le_of_lt (show n.natAbs ≤ 1000000000000 by omega) (by decide +kernel)

theorem ok_law_between (T : Tx K mg) : FnOk P w K mg base CX0 3 (He.ga K "_law_between") T.fd_law_between P_law_between sp_law_between := by
  refine T.F_law_between.ok sc_law_between (fun vs H Q E h => ?_) (fun cdv A outer s H vs Q E hr h => ⟨_, PSs.nox (pss_cons (ps_if (pt_cmpR op_le (pv 2) (pv 1) (nomark _)) (pss_one (ps_ret (pv 1))) pss_nil) (pss_cons (ps_set (i := 3) sc_law_between.nd rfl (Or.inl rfl) (pe_call (ok_law_take T) hr rfl T.g_law_take T.F_law_take.kp (b_law_take T) .nil pass0 (pa_cons (pv 0) (pa_cons (pe_int) pa_nil)))) (pss_cons (ps_if (pt_cmpR op_eq (pv 3) (pe_int) (nomark _)) (pss_one (ps_ret (pv 1))) pss_nil) (pss_cons (ps_if (pt_cmpR op_eq (pv 3) (pe_int) (nomark _)) (pss_one (ps_ret (pv 2))) pss_nil) (pss_one (ps_ret (pe_op op_add (pv 1) (pe_call (ok_law_take T) hr rfl T.g_law_take T.F_law_take.kp (b_law_take T) .nil pass0 (pa_cons (pv 0) (pa_cons (pe_op op_add (pe_op op_sub (pv 2) (pv 1)) (pe_int)) pa_nil)))))))))), ?_⟩)
  · obtain ⟨_, _, _, _, rfl, _⟩ := h
    rfl
  · obtain ⟨d, s, lo, hi, rfl, D, hb, q⟩ := h
    simp only [tSeq, tAsg, tRet, tRetN, tDrop, tNext, tVar, tC, gName, tOp, tUn, rI, rI0, rU, tIfS, tTest, tB, tIf, tAnd, tOr, tNot, tAndV, tOrV, tNotV, tCall, tCons, tNil, tCB, tLst, tTup, tChain, CMul, CDiv, CPow, rEq, rNe, gSub, L2.start, LL.cxK0, LL.cxK1, List.map_cons, List.map_nil, List.length_cons, List.length_nil, List.replicate_succ, List.replicate_zero, List.cons_append, List.nil_append, List.append_nil, List.getElem?_cons_zero, List.getElem?_cons_succ, List.set_cons_zero, List.set_cons_succ, Nat.add_sub_cancel, Nat.reduceAdd, Nat.reduceSub, Option.some.injEq, V.int.injEq, V.bl.injEq, V.ref.injEq, V.str.injEq, List.cons.injEq, and_true, true_and, and_false, false_and, exists_eq_left, exists_eq_left', exists_and_left, exists_and_right, exists_eq, exists_eq', LL.if_dec, reduceCtorEq, exists_false, exists_const, or_false, false_or, if_true, if_false, LL.rInt1, LL.rMx, LL.rMn, and_assoc, Int.reduceNeg, Int.reduceLT, Int.reduceLE, Int.reduceMul, Int.reduceAdd, Int.reduceSub, Int.reducePow, Int.reduceToNat, Nat.reducePow, Nat.reduceLT, true_or, or_true, Bool.not_true, Bool.not_false, Bool.false_eq_true, Bool.or_false, Bool.or_true, Bool.true_or, Bool.false_or, decide_true, decide_false, not_true_eq_false, not_false_eq_true, LL.scal_int, LL.scal_bl, LL.scal_str, LL.isInt, LL.isBl, LL.isStr, LL.isLst, LL.isTup, LL.isDic, N_law_between]
    split
    · exact q _ _ (Aft.refl D) D (by omega) (.inr rfl)
    · rename_i hlt
      refine use_take D (by decide +kernel) fun v H' a D' h0 h1 => ?_
      simp only [tSeq, tAsg, tRet, tRetN, tDrop, tNext, tVar, tC, gName, tOp, tUn, rI, rI0, rU, tIfS, tTest, tB, tIf, tAnd, tOr, tNot, tAndV, tOrV, tNotV, tCall, tCons, tNil, tCB, tLst, tTup, tChain, CMul, CDiv, CPow, rEq, rNe, gSub, L2.start, LL.cxK0, LL.cxK1, List.map_cons, List.map_nil, List.length_cons, List.length_nil, List.replicate_succ, List.replicate_zero, List.cons_append, List.nil_append, List.append_nil, List.getElem?_cons_zero, List.getElem?_cons_succ, List.set_cons_zero, List.set_cons_succ, Nat.add_sub_cancel, Nat.reduceAdd, Nat.reduceSub, Option.some.injEq, V.int.injEq, V.bl.injEq, V.ref.injEq, V.str.injEq, List.cons.injEq, and_true, true_and, and_false, false_and, exists_eq_left, exists_eq_left', exists_and_left, exists_and_right, exists_eq, exists_eq', LL.if_dec, reduceCtorEq, exists_false, exists_const, or_false, false_or, if_true, if_false, LL.rInt1, LL.rMx, LL.rMn, and_assoc, Int.reduceNeg, Int.reduceLT, Int.reduceLE, Int.reduceMul, Int.reduceAdd, Int.reduceSub, Int.reducePow, Int.reduceToNat, Nat.reducePow, Nat.reduceLT, true_or, or_true, Bool.not_true, Bool.not_false, Bool.false_eq_true, Bool.or_false, Bool.or_true, Bool.true_or, Bool.false_or, decide_true, decide_false, not_true_eq_false, not_false_eq_true, LL.scal_int, LL.scal_bl, LL.scal_str, LL.isInt, LL.isBl, LL.isStr, LL.isLst, LL.isTup, LL.isDic]
      split
      · exact q _ _ a D' (by omega) (.inr rfl)
      · split
        · exact q _ _ a D' (by omega) (.inl (by omega))
        · refine use_take D' hb fun v2 H2 a2 D2 h2 h3 => ?_
          simp only [tSeq, tAsg, tRet, tRetN, tDrop, tNext, tVar, tC, gName, tOp, tUn, rI, rI0, rU, tIfS, tTest, tB, tIf, tAnd, tOr, tNot, tAndV, tOrV, tNotV, tCall, tCons, tNil, tCB, tLst, tTup, tChain, CMul, CDiv, CPow, rEq, rNe, gSub, L2.start, LL.cxK0, LL.cxK1, List.map_cons, List.map_nil, List.length_cons, List.length_nil, List.replicate_succ, List.replicate_zero, List.cons_append, List.nil_append, List.append_nil, List.getElem?_cons_zero, List.getElem?_cons_succ, List.set_cons_zero, List.set_cons_succ, Nat.add_sub_cancel, Nat.reduceAdd, Nat.reduceSub, Option.some.injEq, V.int.injEq, V.bl.injEq, V.ref.injEq, V.str.injEq, List.cons.injEq, and_true, true_and, and_false, false_and, exists_eq_left, exists_eq_left', exists_and_left, exists_and_right, exists_eq, exists_eq', LL.if_dec, reduceCtorEq, exists_false, exists_const, or_false, false_or, if_true, if_false, LL.rInt1, LL.rMx, LL.rMn, and_assoc, Int.reduceNeg, Int.reduceLT, Int.reduceLE, Int.reduceMul, Int.reduceAdd, Int.reduceSub, Int.reducePow, Int.reduceToNat, Nat.reducePow, Nat.reduceLT, true_or, or_true, Bool.not_true, Bool.not_false, Bool.false_eq_true, Bool.or_false, Bool.or_true, Bool.true_or, Bool.false_or, decide_true, decide_false, not_true_eq_false, not_false_eq_true, LL.scal_int, LL.scal_bl, LL.scal_str, LL.isInt, LL.isBl, LL.isStr, LL.isLst, LL.isTup, LL.isDic]
          exact q _ _ (a.trans a2) D2 (by omega) (by omega)
def sp_law_number : Sp := fun vs H Q _ => ∃ (d s : Addr) (lo hi : Int), vs = [.ref d, .int lo, .int hi] ∧ Drw d s H ∧ -1000000000000 ≤ lo ∧ lo ≤ hi ∧ hi ≤ 100000000000 ∧ hi - lo ≤ 100000000000 ∧ ∀ v H', Aft d s H H' → Drw d s H' → lo ≤ v → v ≤ hi → Q (.int v) H'
theorem use_number {d s : Addr} {lo hi : Int} {H : Hp} {Q : VK} {E : XK} (D : Drw d s H) (h0 : -1000000000000 ≤ lo) (h1 : lo ≤ hi) (h2 : hi ≤ 100000000000) (h3 : hi - lo ≤ 100000000000) (q : ∀ v H', Aft d s H H' → Drw d s H' → lo ≤ v → v ≤ hi → Q (.int v) H') : sp_law_number [.ref d, .int lo, .int hi] H Q E :=
  ⟨d, s, lo, hi, rfl, D, h0, h1, h2, h3, q⟩
def sp_law_count : Sp := fun vs H Q _ => ∃ (d s : Addr) (lo hi : Int), vs = [.ref d, .int lo, .int hi] ∧ Drw d s H ∧ 0 ≤ lo ∧ lo ≤ hi ∧ hi ≤ 100000000000 ∧ ∀ v H', Aft d s H H' → Drw d s H' → 0 ≤ v → v ≤ hi → Q (.int v) H'
def sp_law_alignment : Sp := fun vs H Q _ => ∃ (d s : Addr) (m : Int), vs = [.ref d, .int m] ∧ Drw d s H ∧ 0 ≤ m ∧ m ≤ 64 ∧ ∀ (j : Nat) H', Aft d s H H' → Drw d s H' → (j : Int) ≤ m → Q (.int (2 ^ j)) H'
theorem use_alignment {d s : Addr} {m : Int} {H : Hp} {Q : VK} {E : XK} (D : Drw d s H) (h0 : 0 ≤ m) (h1 : m ≤ 64) (q : ∀ (j : Nat) H', Aft d s H H' → Drw d s H' → (j : Int) ≤ m → Q (.int (2 ^ j)) H') : sp_law_alignment [.ref d, .int m] H Q E :=
  ⟨d, s, m, rfl, D, h0, h1, q⟩
def sp_law_power : Sp := fun vs H Q _ => ∃ n : Nat, vs = [.int n] ∧ n ≤ 60 ∧ Q (.int (2 ^ n)) H
theorem pow_lt {j n : Nat} (h : j ≤ n) (hn : n ≤ 63) : (2 : Int) ^ j < 2 ^ 64 := by
  have h1 : (2 : Nat) ^ j < 2 ^ 64 := Nat.pow_lt_pow_right (by decide) (by omega)
  have h2 : ((2 ^ j : Nat) : Int) = (2 : Int) ^ j := by simp
  omega
theorem pow_pos' (j : Nat) : (0 : Int) < 2 ^ j := Int.pow_pos (by decide)

theorem ok_law_alignment (T : Tx K mg) : FnOk P w K mg base CX0 4 (He.ga K "_law_alignment") T.fd_law_alignment P_law_alignment sp_law_alignment := by
  refine T.F_law_alignment.ok sc_law_alignment (fun vs H Q E h => ?_) (fun cdv A outer s H vs Q E hr h => ⟨_, PSs.nox (pss_cons (ps_set (i := 2) sc_law_alignment.nd rfl (Or.inl rfl) (pe_int)) (pss_cons (ps_for PassesOwn.never rfl (pi_range1 rfl T.z_range (pa_cons (pe_call (ok_law_between T) hr rfl T.g_law_between T.F_law_between.kp (b_law_between T) .nil pass0 (pa_cons (pv 0) (pa_cons (pe_int) (pa_cons (pv 1) pa_nil)))) pa_nil)) (pg_name (i := 3) sc_law_alignment.nd rfl (Or.inl rfl)) (pss_one (ps_set (i := 2) sc_law_alignment.nd rfl (Or.inl rfl) (pe_op op_mul (pv 2) (pe_int))))) (pss_one (ps_ret (pv 2))))), ?_⟩)
  · obtain ⟨_, _, _, rfl, _⟩ := h
    rfl
  · obtain ⟨d, s, m, rfl, D, h0, h1, q⟩ := h
    simp only [tSeq, tAsg, tRet, tRetN, tDrop, tNext, tVar, tC, gName, tOp, tUn, rI, rI0, rU, tIfS, tTest, tB, tIf, tAnd, tOr, tNot, tAndV, tOrV, tNotV, tCall, tCons, tNil, tCB, tLst, tTup, tChain, CMul, CDiv, CPow, rEq, rNe, gSub, L2.start, LL.cxK0, LL.cxK1, List.map_cons, List.map_nil, List.length_cons, List.length_nil, List.replicate_succ, List.replicate_zero, List.cons_append, List.nil_append, List.append_nil, List.getElem?_cons_zero, List.getElem?_cons_succ, List.set_cons_zero, List.set_cons_succ, Nat.add_sub_cancel, Nat.reduceAdd, Nat.reduceSub, Option.some.injEq, V.int.injEq, V.bl.injEq, V.ref.injEq, V.str.injEq, List.cons.injEq, and_true, true_and, and_false, false_and, exists_eq_left, exists_eq_left', exists_and_left, exists_and_right, exists_eq, exists_eq', LL.if_dec, reduceCtorEq, exists_false, exists_const, or_false, false_or, if_true, if_false, LL.rInt1, LL.rMx, LL.rMn, and_assoc, Int.reduceNeg, Int.reduceLT, Int.reduceLE, Int.reduceMul, Int.reduceAdd, Int.reduceSub, Int.reducePow, Int.reduceToNat, Nat.reducePow, Nat.reduceLT, true_or, or_true, Bool.not_true, Bool.not_false, Bool.false_eq_true, Bool.or_false, Bool.or_true, Bool.true_or, Bool.false_or, decide_true, decide_false, not_true_eq_false, not_false_eq_true, LL.scal_int, LL.scal_bl, LL.scal_str, LL.isInt, LL.isBl, LL.isStr, LL.isLst, LL.isTup, LL.isDic, N_law_alignment]
    refine use_forRX (R := fun j H' => Aft d s H H' ∧ Drw d s H' ∧ 0 ≤ j ∧ j ≤ m) (fun Q hQ => ?_) (fun z H' h => ⟨by omega, by omega⟩)
      (fun j i σ' H' => Aft d s H H' ∧ Drw d s H' ∧ 0 ≤ j ∧ j ≤ m ∧ i ≤ j.toNat ∧ ∃ x : Option V, σ' = [some (.ref d), some (.int m), some (.int (2 ^ i)), x]) (fun j H' ⟨a, D1, hz, hm⟩ => ⟨a, D1, hz, hm, Nat.zero_le _, _, rfl⟩) ?_ ?_
    · simp only [tSeq, tAsg, tRet, tRetN, tDrop, tNext, tVar, tC, gName, tOp, tUn, rI, rI0, rU, tIfS, tTest, tB, tIf, tAnd, tOr, tNot, tAndV, tOrV, tNotV, tCall, tCons, tNil, tCB, tLst, tTup, tChain, CMul, CDiv, CPow, rEq, rNe, gSub, L2.start, LL.cxK0, LL.cxK1, List.map_cons, List.map_nil, List.length_cons, List.length_nil, List.replicate_succ, List.replicate_zero, List.cons_append, List.nil_append, List.append_nil, List.getElem?_cons_zero, List.getElem?_cons_succ, List.set_cons_zero, List.set_cons_succ, Nat.add_sub_cancel, Nat.reduceAdd, Nat.reduceSub, Option.some.injEq, V.int.injEq, V.bl.injEq, V.ref.injEq, V.str.injEq, List.cons.injEq, and_true, true_and, and_false, false_and, exists_eq_left, exists_eq_left', exists_and_left, exists_and_right, exists_eq, exists_eq', LL.if_dec, reduceCtorEq, exists_false, exists_const, or_false, false_or, if_true, if_false, LL.rInt1, LL.rMx, LL.rMn, and_assoc, Int.reduceNeg, Int.reduceLT, Int.reduceLE, Int.reduceMul, Int.reduceAdd, Int.reduceSub, Int.reducePow, Int.reduceToNat, Nat.reducePow, Nat.reduceLT, true_or, or_true, Bool.not_true, Bool.not_false, Bool.false_eq_true, Bool.or_false, Bool.or_true, Bool.true_or, Bool.false_or, decide_true, decide_false, not_true_eq_false, not_false_eq_true, LL.scal_int, LL.scal_bl, LL.scal_str, LL.isInt, LL.isBl, LL.isStr, LL.isLst, LL.isTup, LL.isDic]
      exact use_between D (big_of (by omega) (by omega)) fun v H' a D' h2 h3 => hQ _ _ ⟨a, D', h2, by omega⟩
    · rintro j i σ' H' hi ⟨a, D1, hz, hm, hi2, x, rfl⟩
      simp only [tSeq, tAsg, tRet, tRetN, tDrop, tNext, tVar, tC, gName, tOp, tUn, rI, rI0, rU, tIfS, tTest, tB, tIf, tAnd, tOr, tNot, tAndV, tOrV, tNotV, tCall, tCons, tNil, tCB, tLst, tTup, tChain, CMul, CDiv, CPow, rEq, rNe, gSub, L2.start, LL.cxK0, LL.cxK1, List.map_cons, List.map_nil, List.length_cons, List.length_nil, List.replicate_succ, List.replicate_zero, List.cons_append, List.nil_append, List.append_nil, List.getElem?_cons_zero, List.getElem?_cons_succ, List.set_cons_zero, List.set_cons_succ, Nat.add_sub_cancel, Nat.reduceAdd, Nat.reduceSub, Option.some.injEq, V.int.injEq, V.bl.injEq, V.ref.injEq, V.str.injEq, List.cons.injEq, and_true, true_and, and_false, false_and, exists_eq_left, exists_eq_left', exists_and_left, exists_and_right, exists_eq, exists_eq', LL.if_dec, reduceCtorEq, exists_false, exists_const, or_false, false_or, if_true, if_false, LL.rInt1, LL.rMx, LL.rMn, and_assoc, Int.reduceNeg, Int.reduceLT, Int.reduceLE, Int.reduceMul, Int.reduceAdd, Int.reduceSub, Int.reducePow, Int.reduceToNat, Nat.reducePow, Nat.reduceLT, true_or, or_true, Bool.not_true, Bool.not_false, Bool.false_eq_true, Bool.or_false, Bool.or_true, Bool.true_or, Bool.false_or, decide_true, decide_false, not_true_eq_false, not_false_eq_true, LL.scal_int, LL.scal_bl, LL.scal_str, LL.isInt, LL.isBl, LL.isStr, LL.isLst, LL.isTup, LL.isDic]
      have := pow_lt (j := i) (n := 63) (by omega) (by decide)
      have := pow_pos' i
      exact ⟨a, D1, hz, hm, hi, by rw [Int.pow_succ]⟩
    · rintro j σ' H' ⟨a, D1, hz, hm, hi2, x, rfl⟩
      simp only [tSeq, tAsg, tRet, tRetN, tDrop, tNext, tVar, tC, gName, tOp, tUn, rI, rI0, rU, tIfS, tTest, tB, tIf, tAnd, tOr, tNot, tAndV, tOrV, tNotV, tCall, tCons, tNil, tCB, tLst, tTup, tChain, CMul, CDiv, CPow, rEq, rNe, gSub, L2.start, LL.cxK0, LL.cxK1, List.map_cons, List.map_nil, List.length_cons, List.length_nil, List.replicate_succ, List.replicate_zero, List.cons_append, List.nil_append, List.append_nil, List.getElem?_cons_zero, List.getElem?_cons_succ, List.set_cons_zero, List.set_cons_succ, Nat.add_sub_cancel, Nat.reduceAdd, Nat.reduceSub, Option.some.injEq, V.int.injEq, V.bl.injEq, V.ref.injEq, V.str.injEq, List.cons.injEq, and_true, true_and, and_false, false_and, exists_eq_left, exists_eq_left', exists_and_left, exists_and_right, exists_eq, exists_eq', LL.if_dec, reduceCtorEq, exists_false, exists_const, or_false, false_or, if_true, if_false, LL.rInt1, LL.rMx, LL.rMn, and_assoc, Int.reduceNeg, Int.reduceLT, Int.reduceLE, Int.reduceMul, Int.reduceAdd, Int.reduceSub, Int.reducePow, Int.reduceToNat, Nat.reducePow, Nat.reduceLT, true_or, or_true, Bool.not_true, Bool.not_false, Bool.false_eq_true, Bool.or_false, Bool.or_true, Bool.true_or, Bool.false_or, decide_true, decide_false, not_true_eq_false, not_false_eq_true, LL.scal_int, LL.scal_bl, LL.scal_str, LL.isInt, LL.isBl, LL.isStr, LL.isLst, LL.isTup, LL.isDic]
      exact q _ _ a D1 (by omega)
theorem ok_law_number (T : Tx K mg) : FnOk P w K mg base CX0 5 (He.ga K "_law_number") T.fd_law_number P_law_number sp_law_number := by
  refine T.F_law_number.ok sc_law_number (fun vs H Q E h => ?_) (fun cdv A outer s H vs Q E hr h => ⟨_, PSs.nox (pss_cons (ps_if (pt_cmpR op_lt (pe_op op_sub (pv 2) (pv 1)) (pe_int) (nomark _)) (pss_one (ps_ret (pe_call (ok_law_between T) (hr.mono (by decide)) rfl T.g_law_between T.F_law_between.kp (b_law_between T) .nil pass0 (pa_cons (pv 0) (pa_cons (pv 1) (pa_cons (pv 2) pa_nil)))))) pss_nil) (pss_cons (ps_set (i := 3) sc_law_number.nd rfl (Or.inl rfl) (pe_call (ok_law_take T) (hr.mono (by decide)) rfl T.g_law_take T.F_law_take.kp (b_law_take T) .nil pass0 (pa_cons (pv 0) (pa_cons (pe_int) pa_nil)))) (pss_cons (ps_if (pt_cmpR op_lt (pv 3) (pe_int) (nomark _)) (pss_one (ps_ret (pe_ix ix_list (pe_lst (pa_cons (pv 1) (pa_cons (pv 2) (pa_cons (pe_op op_add (pv 1) (pe_int)) (pa_cons (pe_op op_sub (pv 2) (pe_int)) pa_nil))))) (pv 3) (fun _ _ => rfl)))) pss_nil) (pss_cons (ps_if (pt_cmpR op_lt (pv 3) (pe_int) (nomark _)) (pss_one (ps_ret (pe_op op_add (pv 1) (pe_call (ok_law_take T) (hr.mono (by decide)) rfl T.g_law_take T.F_law_take.kp (b_law_take T) .nil pass0 (pa_cons (pv 0) (pa_cons (pe_op op_add (pe_callB (LL.call_mn rfl) (by rfl) T.z_min (by decide +kernel) (pa_cons (pe_op op_sub (pv 2) (pv 1)) (pa_cons (pe_int) pa_nil))) (pe_int)) pa_nil)))))) pss_nil) (pss_cons (ps_if (pt_cmpR op_eq (pv 3) (pe_int) (nomark _)) (pss_one (ps_ret (pe_callB (LL.call_mx rfl) (by rfl) T.z_max (by decide +kernel) (pa_cons (pv 1) (pa_cons (pe_callB (LL.call_mn rfl) (by rfl) T.z_min (by decide +kernel) (pa_cons (pv 2) (pa_cons (pe_op op_sub (pe_op op_add (pe_call (ok_law_alignment T) hr rfl T.g_law_alignment T.F_law_alignment.kp (b_law_alignment T) .nil pass0 (pa_cons (pv 0) (pa_cons (pe_int) pa_nil))) (pe_call (ok_law_take T) (hr.mono (by decide)) rfl T.g_law_take T.F_law_take.kp (b_law_take T) .nil pass0 (pa_cons (pv 0) (pa_cons (pe_int) pa_nil)))) (pe_int)) pa_nil))) pa_nil))))) pss_nil) (pss_one (ps_ret (pe_op op_add (pv 1) (pe_call (ok_law_take T) (hr.mono (by decide)) rfl T.g_law_take T.F_law_take.kp (b_law_take T) .nil pass0 (pa_cons (pv 0) (pa_cons (pe_op op_add (pe_op op_sub (pv 2) (pv 1)) (pe_int)) pa_nil))))))))))), ?_⟩)
  · obtain ⟨_, _, _, _, rfl, _⟩ := h
    rfl
  · obtain ⟨d, s, lo, hi, rfl, D, h0, h1, h2, h3, q⟩ := h
    simp only [tSeq, tAsg, tRet, tRetN, tDrop, tNext, tVar, tC, gName, tOp, tUn, rI, rI0, rU, tIfS, tTest, tB, tIf, tAnd, tOr, tNot, tAndV, tOrV, tNotV, tCall, tCons, tNil, tCB, tLst, tTup, tChain, CMul, CDiv, CPow, rEq, rNe, gSub, L2.start, LL.cxK0, LL.cxK1, List.map_cons, List.map_nil, List.length_cons, List.length_nil, List.replicate_succ, List.replicate_zero, List.cons_append, List.nil_append, List.append_nil, List.getElem?_cons_zero, List.getElem?_cons_succ, List.set_cons_zero, List.set_cons_succ, Nat.add_sub_cancel, Nat.reduceAdd, Nat.reduceSub, Option.some.injEq, V.int.injEq, V.bl.injEq, V.ref.injEq, V.str.injEq, List.cons.injEq, and_true, true_and, and_false, false_and, exists_eq_left, exists_eq_left', exists_and_left, exists_and_right, exists_eq, exists_eq', LL.if_dec, reduceCtorEq, exists_false, exists_const, or_false, false_or, if_true, if_false, LL.rInt1, LL.rMx, LL.rMn, and_assoc, Int.reduceNeg, Int.reduceLT, Int.reduceLE, Int.reduceMul, Int.reduceAdd, Int.reduceSub, Int.reducePow, Int.reduceToNat, Nat.reducePow, Nat.reduceLT, true_or, or_true, Bool.not_true, Bool.not_false, Bool.false_eq_true, Bool.or_false, Bool.or_true, Bool.true_or, Bool.false_or, decide_true, decide_false, not_true_eq_false, not_false_eq_true, LL.scal_int, LL.scal_bl, LL.scal_str, LL.isInt, LL.isBl, LL.isStr, LL.isLst, LL.isTup, LL.isDic, N_law_number]
    split
    · exact use_between D (big_of (by omega) (by omega)) fun v H' a D' h2 h3 => q _ _ a D' h2 (by omega)
    · refine use_take D (by decide +kernel) fun v H' a D' v0 v1 => ?_
      simp only [tSeq, tAsg, tRet, tRetN, tDrop, tNext, tVar, tC, gName, tOp, tUn, rI, rI0, rU, tIfS, tTest, tB, tIf, tAnd, tOr, tNot, tAndV, tOrV, tNotV, tCall, tCons, tNil, tCB, tLst, tTup, tChain, CMul, CDiv, CPow, rEq, rNe, gSub, L2.start, LL.cxK0, LL.cxK1, List.map_cons, List.map_nil, List.length_cons, List.length_nil, List.replicate_succ, List.replicate_zero, List.cons_append, List.nil_append, List.append_nil, List.getElem?_cons_zero, List.getElem?_cons_succ, List.set_cons_zero, List.set_cons_succ, Nat.add_sub_cancel, Nat.reduceAdd, Nat.reduceSub, Option.some.injEq, V.int.injEq, V.bl.injEq, V.ref.injEq, V.str.injEq, List.cons.injEq, and_true, true_and, and_false, false_and, exists_eq_left, exists_eq_left', exists_and_left, exists_and_right, exists_eq, exists_eq', LL.if_dec, reduceCtorEq, exists_false, exists_const, or_false, false_or, if_true, if_false, LL.rInt1, LL.rMx, LL.rMn, and_assoc, Int.reduceNeg, Int.reduceLT, Int.reduceLE, Int.reduceMul, Int.reduceAdd, Int.reduceSub, Int.reducePow, Int.reduceToNat, Nat.reducePow, Nat.reduceLT, true_or, or_true, Bool.not_true, Bool.not_false, Bool.false_eq_true, Bool.or_false, Bool.or_true, Bool.true_or, Bool.false_or, decide_true, decide_false, not_true_eq_false, not_false_eq_true, LL.scal_int, LL.scal_bl, LL.scal_str, LL.isInt, LL.isBl, LL.isStr, LL.isLst, LL.isTup, LL.isDic]
      split
      · refine ⟨by decide, fun p hp => ?_⟩
        refine use_pick upd_same v0 (by simp only [List.length_cons, List.length_nil]; omega) ?_
        have a2 := a.new (o := .lst [.int lo, .int hi, .int (lo + 1), .int (hi - 1)]) hp
        intro x hx
        simp only [List.mem_cons, List.not_mem_nil, or_false] at hx
        rcases hx with rfl | rfl | rfl | rfl <;> exact q _ _ a2 a2.dr (by omega) (by omega)
      · split
        · refine use_take D' (big_of (by omega) (by omega)) fun v2 H2 a2 D2 h4 h5 => ?_
          simp only [tSeq, tAsg, tRet, tRetN, tDrop, tNext, tVar, tC, gName, tOp, tUn, rI, rI0, rU, tIfS, tTest, tB, tIf, tAnd, tOr, tNot, tAndV, tOrV, tNotV, tCall, tCons, tNil, tCB, tLst, tTup, tChain, CMul, CDiv, CPow, rEq, rNe, gSub, L2.start, LL.cxK0, LL.cxK1, List.map_cons, List.map_nil, List.length_cons, List.length_nil, List.replicate_succ, List.replicate_zero, List.cons_append, List.nil_append, List.append_nil, List.getElem?_cons_zero, List.getElem?_cons_succ, List.set_cons_zero, List.set_cons_succ, Nat.add_sub_cancel, Nat.reduceAdd, Nat.reduceSub, Option.some.injEq, V.int.injEq, V.bl.injEq, V.ref.injEq, V.str.injEq, List.cons.injEq, and_true, true_and, and_false, false_and, exists_eq_left, exists_eq_left', exists_and_left, exists_and_right, exists_eq, exists_eq', LL.if_dec, reduceCtorEq, exists_false, exists_const, or_false, false_or, if_true, if_false, LL.rInt1, LL.rMx, LL.rMn, and_assoc, Int.reduceNeg, Int.reduceLT, Int.reduceLE, Int.reduceMul, Int.reduceAdd, Int.reduceSub, Int.reducePow, Int.reduceToNat, Nat.reducePow, Nat.reduceLT, true_or, or_true, Bool.not_true, Bool.not_false, Bool.false_eq_true, Bool.or_false, Bool.or_true, Bool.true_or, Bool.false_or, decide_true, decide_false, not_true_eq_false, not_false_eq_true, LL.scal_int, LL.scal_bl, LL.scal_str, LL.isInt, LL.isBl, LL.isStr, LL.isLst, LL.isTup, LL.isDic]
          exact q _ _ (a.trans a2) D2 (by omega) (by omega)
        · split
          · refine use_alignment D' (by decide) (by decide) fun j H2 a2 D2 hj => ?_
            simp only [tSeq, tAsg, tRet, tRetN, tDrop, tNext, tVar, tC, gName, tOp, tUn, rI, rI0, rU, tIfS, tTest, tB, tIf, tAnd, tOr, tNot, tAndV, tOrV, tNotV, tCall, tCons, tNil, tCB, tLst, tTup, tChain, CMul, CDiv, CPow, rEq, rNe, gSub, L2.start, LL.cxK0, LL.cxK1, List.map_cons, List.map_nil, List.length_cons, List.length_nil, List.replicate_succ, List.replicate_zero, List.cons_append, List.nil_append, List.append_nil, List.getElem?_cons_zero, List.getElem?_cons_succ, List.set_cons_zero, List.set_cons_succ, Nat.add_sub_cancel, Nat.reduceAdd, Nat.reduceSub, Option.some.injEq, V.int.injEq, V.bl.injEq, V.ref.injEq, V.str.injEq, List.cons.injEq, and_true, true_and, and_false, false_and, exists_eq_left, exists_eq_left', exists_and_left, exists_and_right, exists_eq, exists_eq', LL.if_dec, reduceCtorEq, exists_false, exists_const, or_false, false_or, if_true, if_false, LL.rInt1, LL.rMx, LL.rMn, and_assoc, Int.reduceNeg, Int.reduceLT, Int.reduceLE, Int.reduceMul, Int.reduceAdd, Int.reduceSub, Int.reducePow, Int.reduceToNat, Nat.reducePow, Nat.reduceLT, true_or, or_true, Bool.not_true, Bool.not_false, Bool.false_eq_true, Bool.or_false, Bool.or_true, Bool.true_or, Bool.false_or, decide_true, decide_false, not_true_eq_false, not_false_eq_true, LL.scal_int, LL.scal_bl, LL.scal_str, LL.isInt, LL.isBl, LL.isStr, LL.isLst, LL.isTup, LL.isDic]
            refine use_take D2 (by decide +kernel) fun v3 H3 a3 D3 h4 h5 => ?_
            simp only [tSeq, tAsg, tRet, tRetN, tDrop, tNext, tVar, tC, gName, tOp, tUn, rI, rI0, rU, tIfS, tTest, tB, tIf, tAnd, tOr, tNot, tAndV, tOrV, tNotV, tCall, tCons, tNil, tCB, tLst, tTup, tChain, CMul, CDiv, CPow, rEq, rNe, gSub, L2.start, LL.cxK0, LL.cxK1, List.map_cons, List.map_nil, List.length_cons, List.length_nil, List.replicate_succ, List.replicate_zero, List.cons_append, List.nil_append, List.append_nil, List.getElem?_cons_zero, List.getElem?_cons_succ, List.set_cons_zero, List.set_cons_succ, Nat.add_sub_cancel, Nat.reduceAdd, Nat.reduceSub, Option.some.injEq, V.int.injEq, V.bl.injEq, V.ref.injEq, V.str.injEq, List.cons.injEq, and_true, true_and, and_false, false_and, exists_eq_left, exists_eq_left', exists_and_left, exists_and_right, exists_eq, exists_eq', LL.if_dec, reduceCtorEq, exists_false, exists_const, or_false, false_or, if_true, if_false, LL.rInt1, LL.rMx, LL.rMn, and_assoc, Int.reduceNeg, Int.reduceLT, Int.reduceLE, Int.reduceMul, Int.reduceAdd, Int.reduceSub, Int.reducePow, Int.reduceToNat, Nat.reducePow, Nat.reduceLT, true_or, or_true, Bool.not_true, Bool.not_false, Bool.false_eq_true, Bool.or_false, Bool.or_true, Bool.true_or, Bool.false_or, decide_true, decide_false, not_true_eq_false, not_false_eq_true, LL.scal_int, LL.scal_bl, LL.scal_str, LL.isInt, LL.isBl, LL.isStr, LL.isLst, LL.isTup, LL.isDic]
            exact q _ _ ((a.trans a2).trans a3) D3 (by omega) (by omega)
          · refine use_take D' (big_of (by omega) (by omega)) fun v2 H2 a2 D2 h4 h5 => ?_
            simp only [tSeq, tAsg, tRet, tRetN, tDrop, tNext, tVar, tC, gName, tOp, tUn, rI, rI0, rU, tIfS, tTest, tB, tIf, tAnd, tOr, tNot, tAndV, tOrV, tNotV, tCall, tCons, tNil, tCB, tLst, tTup, tChain, CMul, CDiv, CPow, rEq, rNe, gSub, L2.start, LL.cxK0, LL.cxK1, List.map_cons, List.map_nil, List.length_cons, List.length_nil, List.replicate_succ, List.replicate_zero, List.cons_append, List.nil_append, List.append_nil, List.getElem?_cons_zero, List.getElem?_cons_succ, List.set_cons_zero, List.set_cons_succ, Nat.add_sub_cancel, Nat.reduceAdd, Nat.reduceSub, Option.some.injEq, V.int.injEq, V.bl.injEq, V.ref.injEq, V.str.injEq, List.cons.injEq, and_true, true_and, and_false, false_and, exists_eq_left, exists_eq_left', exists_and_left, exists_and_right, exists_eq, exists_eq', LL.if_dec, reduceCtorEq, exists_false, exists_const, or_false, false_or, if_true, if_false, LL.rInt1, LL.rMx, LL.rMn, and_assoc, Int.reduceNeg, Int.reduceLT, Int.reduceLE, Int.reduceMul, Int.reduceAdd, Int.reduceSub, Int.reducePow, Int.reduceToNat, Nat.reducePow, Nat.reduceLT, true_or, or_true, Bool.not_true, Bool.not_false, Bool.false_eq_true, Bool.or_false, Bool.or_true, Bool.true_or, Bool.false_or, decide_true, decide_false, not_true_eq_false, not_false_eq_true, LL.scal_int, LL.scal_bl, LL.scal_str, LL.isInt, LL.isBl, LL.isStr, LL.isLst, LL.isTup, LL.isDic]
            exact q _ _ (a.trans a2) D2 (by omega) (by omega)
def sp_law_long : Sp := fun vs H Q _ => vs = [] ∧ Q (.int (10 ^ 999)) H
theorem long_b (n : Nat) (h : n ≤ 15) : ((10 : Int) ^ (39 + 64 * n)).natAbs < 2 ^ 3400 := by
  have e : ((10 : Int) ^ (39 + 64 * n)).natAbs = 10 ^ (39 + 64 * n) := by rw [Int.natAbs_pow]; rfl
  rw [e]
  exact Nat.lt_of_le_of_lt (Nat.pow_le_pow_right (by decide) (by omega : 39 + 64 * n ≤ 999)) (by decide +kernel)

theorem ok_law_long (T : Tx K mg) : FnOk P w K mg base CX0 1 (He.ga K "_law_long") T.fd_law_long P_law_long sp_law_long := by
  refine T.F_law_long.ok sc_law_long (fun vs H Q E h => ?_) (fun cdv A outer s H vs Q E hr h => ⟨_, PSs.nox (pss_cons (ps_set (i := 0) sc_law_long.nd rfl (Or.inl rfl) (pe_op op_pow (pe_int) (pe_int))) (pss_cons (ps_for PassesOwn.never rfl (pi_range1 rfl T.z_range (pa_cons (pe_int) pa_nil)) (pg_name (i := 1) sc_law_long.nd rfl (Or.inl rfl)) (pss_one (ps_set (i := 0) sc_law_long.nd rfl (Or.inl rfl) (pe_op op_mulW (pv 0) (pe_op op_pow (pe_int) (pe_int)))))) (pss_one (ps_ret (pv 0))))), ?_⟩)
  · obtain ⟨rfl, _⟩ := h
    rfl
  · obtain ⟨rfl, q⟩ := h
    simp only [tSeq, tAsg, tRet, tRetN, tDrop, tNext, tVar, tC, gName, tOp, tUn, rI, rI0, rU, tIfS, tTest, tB, tIf, tAnd, tOr, tNot, tAndV, tOrV, tNotV, tCall, tCons, tNil, tCB, tLst, tTup, tChain, CMul, CDiv, CPow, rEq, rNe, gSub, L2.start, LL.cxK0, LL.cxK1, List.map_cons, List.map_nil, List.length_cons, List.length_nil, List.replicate_succ, List.replicate_zero, List.cons_append, List.nil_append, List.append_nil, List.getElem?_cons_zero, List.getElem?_cons_succ, List.set_cons_zero, List.set_cons_succ, Nat.add_sub_cancel, Nat.reduceAdd, Nat.reduceSub, Option.some.injEq, V.int.injEq, V.bl.injEq, V.ref.injEq, V.str.injEq, List.cons.injEq, and_true, true_and, and_false, false_and, exists_eq_left, exists_eq_left', exists_and_left, exists_and_right, exists_eq, exists_eq', LL.if_dec, reduceCtorEq, exists_false, exists_const, or_false, false_or, if_true, if_false, LL.rInt1, LL.rMx, LL.rMn, and_assoc, Int.reduceNeg, Int.reduceLT, Int.reduceLE, Int.reduceMul, Int.reduceAdd, Int.reduceSub, Int.reducePow, Int.reduceToNat, Nat.reducePow, Nat.reduceLT, true_or, or_true, Bool.not_true, Bool.not_false, Bool.false_eq_true, Bool.or_false, Bool.or_true, Bool.true_or, Bool.false_or, decide_true, decide_false, not_true_eq_false, not_false_eq_true, LL.scal_int, LL.scal_bl, LL.scal_str, LL.isInt, LL.isBl, LL.isStr, LL.isLst, LL.isTup, LL.isDic, N_law_long]
    refine ⟨by decide, use_forR (j := 15) (fun Q q => q) (by decide) (by decide) (fun i σ' H' => H' = H ∧ i ≤ 15 ∧ ∃ x : Option V, σ' = [some (.int (10 ^ (39 + 64 * i))), x]) ⟨rfl, by decide, _, rfl⟩ ?_ ?_⟩
    · rintro i σ' H' hi ⟨rfl, h1, x, rfl⟩
      simp only [tSeq, tAsg, tRet, tRetN, tDrop, tNext, tVar, tC, gName, tOp, tUn, rI, rI0, rU, tIfS, tTest, tB, tIf, tAnd, tOr, tNot, tAndV, tOrV, tNotV, tCall, tCons, tNil, tCB, tLst, tTup, tChain, CMul, CDiv, CPow, rEq, rNe, gSub, L2.start, LL.cxK0, LL.cxK1, List.map_cons, List.map_nil, List.length_cons, List.length_nil, List.replicate_succ, List.replicate_zero, List.cons_append, List.nil_append, List.append_nil, List.getElem?_cons_zero, List.getElem?_cons_succ, List.set_cons_zero, List.set_cons_succ, Nat.add_sub_cancel, Nat.reduceAdd, Nat.reduceSub, Option.some.injEq, V.int.injEq, V.bl.injEq, V.ref.injEq, V.str.injEq, List.cons.injEq, and_true, true_and, and_false, false_and, exists_eq_left, exists_eq_left', exists_and_left, exists_and_right, exists_eq, exists_eq', LL.if_dec, reduceCtorEq, exists_false, exists_const, or_false, false_or, if_true, if_false, LL.rInt1, LL.rMx, LL.rMn, and_assoc, Int.reduceNeg, Int.reduceLT, Int.reduceLE, Int.reduceMul, Int.reduceAdd, Int.reduceSub, Int.reducePow, Int.reduceToNat, Nat.reducePow, Nat.reduceLT, true_or, or_true, Bool.not_true, Bool.not_false, Bool.false_eq_true, Bool.or_false, Bool.or_true, Bool.true_or, Bool.false_or, decide_true, decide_false, not_true_eq_false, not_false_eq_true, LL.scal_int, LL.scal_bl, LL.scal_str, LL.isInt, LL.isBl, LL.isStr, LL.isLst, LL.isTup, LL.isDic]
      have e : (10 : Int) ^ (39 + 64 * i) * 10 ^ 64 = 10 ^ (39 + 64 * (i + 1)) := by
        rw [← Int.pow_add, show 39 + 64 * i + 64 = 39 + 64 * (i + 1) by omega]
      refine ⟨by decide, wide_mul (a := 3400) (b := 220) (long_b i h1) (by decide +kernel) (by decide) (by decide) (by decide), by omega, ?_⟩
      exact e
    · rintro σ' H' ⟨rfl, h1, x, rfl⟩
      simp only [tSeq, tAsg, tRet, tRetN, tDrop, tNext, tVar, tC, gName, tOp, tUn, rI, rI0, rU, tIfS, tTest, tB, tIf, tAnd, tOr, tNot, tAndV, tOrV, tNotV, tCall, tCons, tNil, tCB, tLst, tTup, tChain, CMul, CDiv, CPow, rEq, rNe, gSub, L2.start, LL.cxK0, LL.cxK1, List.map_cons, List.map_nil, List.length_cons, List.length_nil, List.replicate_succ, List.replicate_zero, List.cons_append, List.nil_append, List.append_nil, List.getElem?_cons_zero, List.getElem?_cons_succ, List.set_cons_zero, List.set_cons_succ, Nat.add_sub_cancel, Nat.reduceAdd, Nat.reduceSub, Option.some.injEq, V.int.injEq, V.bl.injEq, V.ref.injEq, V.str.injEq, List.cons.injEq, and_true, true_and, and_false, false_and, exists_eq_left, exists_eq_left', exists_and_left, exists_and_right, exists_eq, exists_eq', LL.if_dec, reduceCtorEq, exists_false, exists_const, or_false, false_or, if_true, if_false, LL.rInt1, LL.rMx, LL.rMn, and_assoc, Int.reduceNeg, Int.reduceLT, Int.reduceLE, Int.reduceMul, Int.reduceAdd, Int.reduceSub, Int.reducePow, Int.reduceToNat, Nat.reducePow, Nat.reduceLT, true_or, or_true, Bool.not_true, Bool.not_false, Bool.false_eq_true, Bool.or_false, Bool.or_true, Bool.true_or, Bool.false_or, decide_true, decide_false, not_true_eq_false, not_false_eq_true, LL.scal_int, LL.scal_bl, LL.scal_str, LL.isInt, LL.isBl, LL.isStr, LL.isLst, LL.isTup, LL.isDic]
      exact q
/-- data that is no integer -/
def sp_law_not_integer : Sp := fun vs H Q _ => ∃ (d s : Addr), vs = [.ref d] ∧ Drw d s H ∧ ∀ v t H', Aft d s H H' → Drw d s H' → Dt (fun a => H a = none) H' v t → dep t ≤ 1 → isInt t = false → Q v H'

theorem ok_law_not_integer (T : Tx K mg) : FnOk P w K mg base CX0 3 (He.ga K "_law_not_integer") T.fd_law_not_integer P_law_not_integer sp_law_not_integer := by
  refine T.F_law_not_integer.ok sc_law_not_integer (fun vs H Q E h => ?_) (fun cdv A outer s H vs Q E hr h => ⟨_, PSs.nox (pss_one (ps_ret (pe_ix ix_list (pe_lst (pa_cons (pe_bl) (pa_cons (pe_bl) (pa_cons (pe_non) (pa_cons (pe_str) (pa_cons (pe_str) (pa_cons (pe_str) (pa_cons (pe_lst pa_nil) (pa_cons (pe_tup pa_nil) (pa_cons (pe_lst (pa_cons (pe_int) pa_nil)) (pa_cons (pe_tup (pa_cons (pe_int) pa_nil)) (pa_cons (pe_disp (pps_cons (pe_str) (pe_int) pps_nil) (by rfl) (by rfl) (fun z => by cases z) (by decide)) pa_nil)))))))))))) (pe_call (ok_law_take T) hr rfl T.g_law_take T.F_law_take.kp (b_law_take T) .nil pass0 (pa_cons (pv 0) (pa_cons (pe_int) pa_nil))) (fun _ _ => rfl)))), ?_⟩)
  · obtain ⟨_, _, rfl, _⟩ := h
    rfl
  · obtain ⟨d, s, rfl, D, q⟩ := h
    simp only [tSeq, tAsg, tRet, tRetN, tDrop, tNext, tVar, tC, gName, tOp, tUn, rI, rI0, rU, tIfS, tTest, tB, tIf, tAnd, tOr, tNot, tAndV, tOrV, tNotV, tCall, tCons, tNil, tCB, tLst, tTup, tChain, CMul, CDiv, CPow, rEq, rNe, gSub, L2.start, LL.cxK0, LL.cxK1, List.map_cons, List.map_nil, List.length_cons, List.length_nil, List.replicate_succ, List.replicate_zero, List.cons_append, List.nil_append, List.append_nil, List.getElem?_cons_zero, List.getElem?_cons_succ, List.set_cons_zero, List.set_cons_succ, Nat.add_sub_cancel, Nat.reduceAdd, Nat.reduceSub, Option.some.injEq, V.int.injEq, V.bl.injEq, V.ref.injEq, V.str.injEq, List.cons.injEq, and_true, true_and, and_false, false_and, exists_eq_left, exists_eq_left', exists_and_left, exists_and_right, exists_eq, exists_eq', LL.if_dec, reduceCtorEq, exists_false, exists_const, or_false, false_or, if_true, if_false, LL.rInt1, LL.rMx, LL.rMn, and_assoc, Int.reduceNeg, Int.reduceLT, Int.reduceLE, Int.reduceMul, Int.reduceAdd, Int.reduceSub, Int.reducePow, Int.reduceToNat, Nat.reducePow, Nat.reduceLT, true_or, or_true, Bool.not_true, Bool.not_false, Bool.false_eq_true, Bool.or_false, Bool.or_true, Bool.true_or, Bool.false_or, decide_true, decide_false, not_true_eq_false, not_false_eq_true, LL.scal_int, LL.scal_bl, LL.scal_str, LL.isInt, LL.isBl, LL.isStr, LL.isLst, LL.isTup, LL.isDic, N_law_not_integer]
    refine ⟨by decide, ?_⟩
    intro p1 np1
    generalize hq : upd H p1 _ = H1
    have sH1 : Same H H1 := hq ▸ Same.new (Same.refl _) np1
    have ep1 := hq ▸ (upd_same (H := H) (a := p1))
    clear hq
    refine ⟨by decide, ?_⟩
    intro p2 np2
    generalize hq : upd H1 p2 _ = H2
    have sH2 : Same H1 H2 := hq ▸ Same.new (Same.refl _) np2
    have ep2 := hq ▸ (upd_same (H := H1) (a := p2))
    clear hq
    replace ep1 := sH2 _ _ ep1
    refine ⟨by decide, ?_⟩
    intro p3 np3
    generalize hq : upd H2 p3 _ = H3
    have sH3 : Same H2 H3 := hq ▸ Same.new (Same.refl _) np3
    have ep3 := hq ▸ (upd_same (H := H2) (a := p3))
    clear hq
    replace ep1 := sH3 _ _ ep1
    replace ep2 := sH3 _ _ ep2
    refine ⟨by decide, ?_⟩
    intro p4 np4
    generalize hq : upd H3 p4 _ = H4
    have sH4 : Same H3 H4 := hq ▸ Same.new (Same.refl _) np4
    have ep4 := hq ▸ (upd_same (H := H3) (a := p4))
    clear hq
    replace ep1 := sH4 _ _ ep1
    replace ep2 := sH4 _ _ ep2
    replace ep3 := sH4 _ _ ep3
    unfold tDisp
    intro p5 np5
    generalize hq : upd H4 p5 _ = H5
    have sH5 : Same H4 H5 := hq ▸ Same.new (Same.refl _) np5
    have ep5 := hq ▸ (upd_same (H := H4) (a := p5))
    clear hq
    simp only [tPairs, tC]
    refine ⟨ep5, [(Sum.inr "a", .int 1)], rfl, by decide, ?_⟩
    have n5 : H4 p5 = none := np5
    generalize hq : upd H5 p5 _ = H6
    have e5 : H6 p5 = some (.dK [(Sum.inr "a", .int 1)]) := hq ▸ upd_same
    have s6 : Same H4 H6 := hq ▸ Same.own sH5 n5
    clear hq
    replace ep1 := s6 _ _ ep1
    replace ep2 := s6 _ _ ep2
    replace ep3 := s6 _ _ ep3
    replace ep4 := s6 _ _ ep4
    refine ⟨by decide, ?_⟩
    have g6 : Same H H6 := (((sH1.trans sH2).trans sH3).trans sH4).trans s6
    intro p6 np6
    generalize hq : upd H6 p6 _ = H7
    have sH7 : Same H6 H7 := hq ▸ Same.new (Same.refl _) np6
    have ep6 := hq ▸ (upd_same (H := H6) (a := p6))
    clear hq
    replace ep1 := sH7 _ _ ep1
    replace ep2 := sH7 _ _ ep2
    replace ep3 := sH7 _ _ ep3
    replace ep4 := sH7 _ _ ep4
    replace e5 := sH7 _ _ e5
    have g7 := g6.trans sH7
    refine use_take (D.same g7) (by decide +kernel) fun v H' a D' v0 v1 => ?_
    refine use_pick (a.kp _ _ ((D.same g6).ne _ np6) ep6) v0 (by simp only [List.length_cons, List.length_nil]; omega) ?_
    have A : Aft d s H H' := ⟨(Kp.same g7).trans a.kp, D'⟩
    have f1 : H p1 = none := np1
    have f2 : H p2 = none := sH1.free np2
    have f3 : H p3 = none := (sH1.trans sH2).free np3
    have f4 : H p4 = none := ((sH1.trans sH2).trans sH3).free np4
    have f5 : H p5 = none := (((sH1.trans sH2).trans sH3).trans sH4).free n5
    replace ep1 := a.kp _ _ (D.ne _ f1) ep1
    replace ep2 := a.kp _ _ (D.ne _ f2) ep2
    replace ep3 := a.kp _ _ (D.ne _ f3) ep3
    replace ep4 := a.kp _ _ (D.ne _ f4) ep4
    replace e5 := a.kp _ _ (D.ne _ f5) e5
    intro x hx
    simp only [List.mem_cons, List.not_mem_nil, or_false] at hx
    rcases hx with rfl | rfl | rfl | rfl | rfl | rfl | rfl | rfl | rfl | rfl | rfl
    · exact q _ (.bl true) _ A D' rfl (by decide) rfl
    · exact q _ (.bl false) _ A D' rfl (by decide) rfl
    · exact q _ .non _ A D' rfl (by decide) rfl
    · exact q _ (.str _) _ A D' rfl (by simp [dep]) rfl
    · exact q _ (.str _) _ A D' rfl (by simp [dep]) rfl
    · exact q _ (.str _) _ A D' rfl (by simp [dep]) rfl
    · exact q _ (.lst []) _ A D' ⟨_, _, rfl, f1, ep1, rfl, by decide⟩ (by decide) rfl
    · exact q _ (.tup []) _ A D' ⟨_, _, rfl, f2, ep2, rfl, by decide⟩ (by decide) rfl
    · exact q _ (.lst [.int 1]) _ A D' ⟨_, _, rfl, f3, ep3, .one rfl, by simp⟩ (by decide) rfl
    · exact q _ (.tup [.int 0]) _ A D' ⟨_, _, rfl, f4, ep4, .one rfl, by simp⟩ (by decide) rfl
    · exact q _ (.dic (.int 1)) _ A D' ⟨_, _, rfl, f5, e5, rfl⟩ (by decide) rfl
/-- an integer out of the range, or data that is none -/
def Out (lo hi : Int) : T → Prop
  | .int i => i < lo ∨ hi < i
  | _ => True
theorem out_of {lo hi : Int} {t : T} (h : isInt t = false) : Out lo hi t := by cases t <;> first | trivial | cases h
def sp_law_not_within : Sp := fun vs H Q _ => ∃ (d s : Addr) (lo hi : Int), vs = [.ref d, .int lo, .int hi] ∧ Drw d s H ∧ -1000000000000 ≤ lo ∧ lo ≤ 1000000000000 ∧ -1000000000000 ≤ hi ∧ hi ≤ 1000000000000 ∧
  ∀ v t H', Aft d s H H' → Drw d s H' → Dt (fun a => H a = none) H' v t → dep t ≤ 1 → Out lo hi t → Q v H'
theorem use_not_within {d s : Addr} {lo hi : Int} {H : Hp} {Q : VK} {E : XK} (D : Drw d s H) (h0 : -1000000000000 ≤ lo) (h1 : lo ≤ 1000000000000) (h2 : -1000000000000 ≤ hi) (h3 : hi ≤ 1000000000000)
    (q : ∀ v t H', Aft d s H H' → Drw d s H' → Dt (fun a => H a = none) H' v t → dep t ≤ 1 → Out lo hi t → Q v H') : sp_law_not_within [.ref d, .int lo, .int hi] H Q E := ⟨d, s, lo, hi, rfl, D, h0, h1, h2, h3, q⟩
theorem ten30 : ((1000000000000000000000000000000 : Int)).natAbs < 2 ^ 4000 := by decide +kernel
theorem ten999 : (1000000000001 : Int) ≤ 10 ^ 999 := by decide +kernel

end K01

namespace K01
open PySem PySem.Spec PyProof.Rows L2 LL
variable {P : Program} {w : World} {K : PySem.W.Frag} {mg : Str → Option Value} {base : Heap}

def sp_isint : Sp := fun vs H Q _ => ∃ (F : Addr → Prop) (v : V) (t : LL.T), vs = [v] ∧ Dt F H v t ∧ Q (.bl (LL.isInt t)) H
theorem use_isint {F : Addr → Prop} {v : V} {t : LL.T} {H : Hp} {Q : VK} {E : XK} (h : Dt F H v t) (q : Q (.bl (LL.isInt t)) H) : sp_isint [v] H Q E := ⟨F, v, t, rfl, h, q⟩

theorem ok_law_is_int (T : Tx K mg) : FnOk P w K mg base CX0 1 (He.ga K "_law_is_int") T.fd_law_is_int P_law_is_int sp_isint := by
  refine T.F_law_is_int.ok sc_law_is_int (fun vs H Q E h => ?_) (fun cdv A outer s H vs Q E hr h => ⟨_, PSs.nox (pss_one (ps_ret ((pe_and (pe_callB call_isi (by rfl) T.z_isinstance (by decide +kernel) (pa_cons (pv 0) (pa_cons (pe_bltn (v := .ty "int") (u := .type "int") (by rfl) T.z_int (by decide +kernel) rfl) pa_nil))) (pe_one (pe_not (pe_callB call_isi (by rfl) T.z_isinstance (by decide +kernel) (pa_cons (pv 0) (pa_cons (pe_bltn (v := .ty "bool") (u := .type "bool") (by rfl) T.z_bool (by decide +kernel) rfl) pa_nil))))))))), ?_⟩)
  · obtain ⟨_, _, _, rfl, _⟩ := h
    rfl
  · obtain ⟨F, v, t, rfl, hd, q⟩ := h
    simp only [tSeq, tAsg, tRet, tRetN, tDrop, tNext, tVar, tC, gName, tOp, tUn, rI, rI0, rU, tIfS, tTest, tB, tIf, tAnd, tOr, tNot, tAndV, tOrV, tNotV, tCall, tCons, tNil, tCB, tLst, tTup, tChain, CMul, CDiv, CPow, rEq, rNe, gSub, L2.start, LL.cxK0, LL.cxK1, List.map_cons, List.map_nil, List.length_cons, List.length_nil, List.replicate_succ, List.replicate_zero, List.cons_append, List.nil_append, List.append_nil, List.getElem?_cons_zero, List.getElem?_cons_succ, List.set_cons_zero, List.set_cons_succ, Nat.add_sub_cancel, Nat.reduceAdd, Nat.reduceSub, Option.some.injEq, V.int.injEq, V.bl.injEq, V.ref.injEq, V.str.injEq, List.cons.injEq, and_true, true_and, and_false, false_and, exists_eq_left, exists_eq_left', exists_and_left, exists_and_right, exists_eq, exists_eq', LL.if_dec, reduceCtorEq, exists_false, exists_const, or_false, false_or, if_true, if_false, LL.rInt1, LL.rMx, LL.rMn, and_assoc, Int.reduceNeg, Int.reduceLT, Int.reduceLE, Int.reduceMul, Int.reduceAdd, Int.reduceSub, Int.reducePow, Int.reduceToNat, Nat.reducePow, Nat.reduceLT, true_or, or_true, Bool.not_true, Bool.not_false, Bool.false_eq_true, Bool.or_false, Bool.or_true, Bool.true_or, Bool.false_or, decide_true, decide_false, not_true_eq_false, not_false_eq_true, LL.scal_int, LL.scal_bl, LL.scal_str, LL.isInt, LL.isBl, LL.isStr, LL.isLst, LL.isTup, LL.isDic, N_law_is_int]
    cases t
    all_goals
      repeat (first | refine use_isi hd (kit_int _) ?_ | refine use_isi hd (kit_bool _) ?_ | refine use_isi hd (kit_str _) ?_ | refine use_isi hd (kit_list _) ?_ | refine use_isi hd (kit_tuple _) ?_ | refine use_isi hd (kit_dict _) ?_ | refine And.intro (show scal _ _ = true from rfl) ?_ | simp only [tSeq, tAsg, tRet, tRetN, tDrop, tNext, tVar, tC, gName, tOp, tUn, rI, rI0, rU, tIfS, tTest, tB, tIf, tAnd, tOr, tNot, tAndV, tOrV, tNotV, tCall, tCons, tNil, tCB, tLst, tTup, tChain, CMul, CDiv, CPow, rEq, rNe, gSub, L2.start, LL.cxK0, LL.cxK1, List.map_cons, List.map_nil, List.length_cons, List.length_nil, List.replicate_succ, List.replicate_zero, List.cons_append, List.nil_append, List.append_nil, List.getElem?_cons_zero, List.getElem?_cons_succ, List.set_cons_zero, List.set_cons_succ, Nat.add_sub_cancel, Nat.reduceAdd, Nat.reduceSub, Option.some.injEq, V.int.injEq, V.bl.injEq, V.ref.injEq, V.str.injEq, List.cons.injEq, and_true, true_and, and_false, false_and, exists_eq_left, exists_eq_left', exists_and_left, exists_and_right, exists_eq, exists_eq', LL.if_dec, reduceCtorEq, exists_false, exists_const, or_false, false_or, if_true, if_false, LL.rInt1, LL.rMx, LL.rMn, and_assoc, Int.reduceNeg, Int.reduceLT, Int.reduceLE, Int.reduceMul, Int.reduceAdd, Int.reduceSub, Int.reducePow, Int.reduceToNat, Nat.reducePow, Nat.reduceLT, true_or, or_true, Bool.not_true, Bool.not_false, Bool.false_eq_true, Bool.or_false, Bool.or_true, Bool.true_or, Bool.false_or, decide_true, decide_false, not_true_eq_false, not_false_eq_true, LL.scal_int, LL.scal_bl, LL.scal_str, LL.isInt, LL.isBl, LL.isStr, LL.isLst, LL.isTup, LL.isDic])
      exact q
theorem ok_is_whole (T : Tx K mg) : FnOk P w K mg base CX0 1 (He.ga K "is_whole") T.fd_is_whole P_is_whole sp_isint := by
  refine T.F_is_whole.ok sc_is_whole (fun vs H Q E h => ?_) (fun cdv A outer s H vs Q E hr h => ⟨_, PSs.nox (pss_one (ps_ret ((pe_and (pe_callB call_isi (by rfl) T.z_isinstance (by decide +kernel) (pa_cons (pv 0) (pa_cons (pe_bltn (v := .ty "int") (u := .type "int") (by rfl) T.z_int (by decide +kernel) rfl) pa_nil))) (pe_one (pe_not (pe_callB call_isi (by rfl) T.z_isinstance (by decide +kernel) (pa_cons (pv 0) (pa_cons (pe_bltn (v := .ty "bool") (u := .type "bool") (by rfl) T.z_bool (by decide +kernel) rfl) pa_nil))))))))), ?_⟩)
  · obtain ⟨_, _, _, rfl, _⟩ := h
    rfl
  · obtain ⟨F, v, t, rfl, hd, q⟩ := h
    simp only [tSeq, tAsg, tRet, tRetN, tDrop, tNext, tVar, tC, gName, tOp, tUn, rI, rI0, rU, tIfS, tTest, tB, tIf, tAnd, tOr, tNot, tAndV, tOrV, tNotV, tCall, tCons, tNil, tCB, tLst, tTup, tChain, CMul, CDiv, CPow, rEq, rNe, gSub, L2.start, LL.cxK0, LL.cxK1, List.map_cons, List.map_nil, List.length_cons, List.length_nil, List.replicate_succ, List.replicate_zero, List.cons_append, List.nil_append, List.append_nil, List.getElem?_cons_zero, List.getElem?_cons_succ, List.set_cons_zero, List.set_cons_succ, Nat.add_sub_cancel, Nat.reduceAdd, Nat.reduceSub, Option.some.injEq, V.int.injEq, V.bl.injEq, V.ref.injEq, V.str.injEq, List.cons.injEq, and_true, true_and, and_false, false_and, exists_eq_left, exists_eq_left', exists_and_left, exists_and_right, exists_eq, exists_eq', LL.if_dec, reduceCtorEq, exists_false, exists_const, or_false, false_or, if_true, if_false, LL.rInt1, LL.rMx, LL.rMn, and_assoc, Int.reduceNeg, Int.reduceLT, Int.reduceLE, Int.reduceMul, Int.reduceAdd, Int.reduceSub, Int.reducePow, Int.reduceToNat, Nat.reducePow, Nat.reduceLT, true_or, or_true, Bool.not_true, Bool.not_false, Bool.false_eq_true, Bool.or_false, Bool.or_true, Bool.true_or, Bool.false_or, decide_true, decide_false, not_true_eq_false, not_false_eq_true, LL.scal_int, LL.scal_bl, LL.scal_str, LL.isInt, LL.isBl, LL.isStr, LL.isLst, LL.isTup, LL.isDic, N_is_whole]
    cases t
    all_goals
      repeat (first | refine use_isi hd (kit_int _) ?_ | refine use_isi hd (kit_bool _) ?_ | refine use_isi hd (kit_str _) ?_ | refine use_isi hd (kit_list _) ?_ | refine use_isi hd (kit_tuple _) ?_ | refine use_isi hd (kit_dict _) ?_ | refine And.intro (show scal _ _ = true from rfl) ?_ | simp only [tSeq, tAsg, tRet, tRetN, tDrop, tNext, tVar, tC, gName, tOp, tUn, rI, rI0, rU, tIfS, tTest, tB, tIf, tAnd, tOr, tNot, tAndV, tOrV, tNotV, tCall, tCons, tNil, tCB, tLst, tTup, tChain, CMul, CDiv, CPow, rEq, rNe, gSub, L2.start, LL.cxK0, LL.cxK1, List.map_cons, List.map_nil, List.length_cons, List.length_nil, List.replicate_succ, List.replicate_zero, List.cons_append, List.nil_append, List.append_nil, List.getElem?_cons_zero, List.getElem?_cons_succ, List.set_cons_zero, List.set_cons_succ, Nat.add_sub_cancel, Nat.reduceAdd, Nat.reduceSub, Option.some.injEq, V.int.injEq, V.bl.injEq, V.ref.injEq, V.str.injEq, List.cons.injEq, and_true, true_and, and_false, false_and, exists_eq_left, exists_eq_left', exists_and_left, exists_and_right, exists_eq, exists_eq', LL.if_dec, reduceCtorEq, exists_false, exists_const, or_false, false_or, if_true, if_false, LL.rInt1, LL.rMx, LL.rMn, and_assoc, Int.reduceNeg, Int.reduceLT, Int.reduceLE, Int.reduceMul, Int.reduceAdd, Int.reduceSub, Int.reducePow, Int.reduceToNat, Nat.reducePow, Nat.reduceLT, true_or, or_true, Bool.not_true, Bool.not_false, Bool.false_eq_true, Bool.or_false, Bool.or_true, Bool.true_or, Bool.false_or, decide_true, decide_false, not_true_eq_false, not_false_eq_true, LL.scal_int, LL.scal_bl, LL.scal_str, LL.isInt, LL.isBl, LL.isStr, LL.isLst, LL.isTup, LL.isDic])
      exact q
/-- a tuple of two integers -/
def pairB : LL.T → Bool
  | .tup [.int _, .int _] => true
  | _ => false
theorem pair_all {us : List LL.T} (h : us.length = 2) : pairB (.tup us) = us.all LL.isInt := by
  match us, h with
  | [x, y], _ => cases x <;> cases y <;> rfl
theorem pair_len {us : List LL.T} (h : ¬ us.length = 2) : pairB (.tup us) = false := by
  match us, h with
  | [], _ => rfl
  | [x], _ => cases x <;> rfl
  | [x, y], h => exact absurd rfl h
  | x :: y :: z :: r, _ => cases x <;> cases y <;> rfl
def sp_law_is_ints : Sp := fun vs H Q _ => ∃ (F : Addr → Prop) (v : V) (t : LL.T), vs = [v, .bl false, .int 2] ∧ Dt F H v t ∧ Q (.bl (pairB t)) H
theorem use_pairB {F : Addr → Prop} {v : V} {t : LL.T} {H : Hp} {Q : VK} {E : XK} (h : Dt F H v t) (q : Q (.bl (pairB t)) H) : sp_law_is_ints [v, .bl false, .int 2] H Q E := ⟨F, v, t, rfl, h, q⟩
theorem use_ints {F : Addr → Prop} {v : V} {a b : Int} {H : Hp} {Q : VK} {E : XK} (h : Dt F H v (.tup [.int a, .int b])) (q : Q (.bl true) H) : sp_law_is_ints [v, .bl false, .int 2] H Q E := ⟨F, v, _, rfl, h, q⟩

theorem ok_law_is_ints (T : Tx K mg) : FnOk P w K mg base CX0 2 (He.ga K "_law_is_ints") T.fd_law_is_ints P_law_is_ints sp_law_is_ints := by
  refine T.F_law_is_ints.ok sc_law_is_ints (fun vs H Q E h => ?_) (fun cdv A outer s H vs Q E hr h => ⟨_, PSs.nox (pss_cons (ps_if (PW.pt (pw_or (PW.pt (pw_and (pt_val (pv 1)) (pw_and1 (pt_not (pt_val (pe_callB call_isi (by rfl) T.z_isinstance (by decide +kernel) (pa_cons (pv 0) (pa_cons (pe_bltn (v := .ty "list") (u := .type "list") (by rfl) T.z_list (by decide +kernel) rfl) pa_nil)))))))) (pw_or1 (PW.pt (pw_and (pt_not (pt_val (pv 1))) (pw_and1 (pt_not (pt_val (pe_callB call_isi (by rfl) T.z_isinstance (by decide +kernel) (pa_cons (pv 0) (pa_cons (pe_bltn (v := .ty "tuple") (u := .type "tuple") (by rfl) T.z_tuple (by decide +kernel) rfl) pa_nil))))))))))) (pss_one (ps_ret (pe_bl))) pss_nil) (pss_cons (ps_if (PW.pt (pw_and (pt_cmpR op_ge (pv 2) (pe_int) (nomark _)) (pw_and1 (pt_cmpR op_ne (pe_callB LL.call_lenT (by rfl) T.z_len (by decide +kernel) (pa_cons (pv 0) pa_nil)) (pv 2) (nomark _))))) (pss_one (ps_ret (pe_bl))) pss_nil) (pss_cons (ps_for PassesOwn.never rfl (pi_tup (pv 0)) (pg_name (i := 3) sc_law_is_ints.nd rfl (Or.inl rfl)) (pss_one (ps_if (pt_not (pt_val (pe_call (ok_law_is_int T) hr rfl T.g_law_is_int T.F_law_is_int.kp (b_law_is_int T) .nil pass0 (pa_cons (pv 3) pa_nil)))) (pss_one (ps_ret (pe_bl))) pss_nil))) (pss_one (ps_ret (pe_bl)))))), ?_⟩)
  · obtain ⟨_, _, _, rfl, _⟩ := h
    rfl
  · obtain ⟨F, v, t, rfl, hd, q⟩ := h
    simp only [tSeq, tAsg, tRet, tRetN, tDrop, tNext, tVar, tC, gName, tOp, tUn, rI, rI0, rU, tIfS, tTest, tB, tIf, tAnd, tOr, tNot, tAndV, tOrV, tNotV, tCall, tCons, tNil, tCB, tLst, tTup, tChain, CMul, CDiv, CPow, rEq, rNe, gSub, L2.start, LL.cxK0, LL.cxK1, List.map_cons, List.map_nil, List.length_cons, List.length_nil, List.replicate_succ, List.replicate_zero, List.cons_append, List.nil_append, List.append_nil, List.getElem?_cons_zero, List.getElem?_cons_succ, List.set_cons_zero, List.set_cons_succ, Nat.add_sub_cancel, Nat.reduceAdd, Nat.reduceSub, Option.some.injEq, V.int.injEq, V.bl.injEq, V.ref.injEq, V.str.injEq, List.cons.injEq, and_true, true_and, and_false, false_and, exists_eq_left, exists_eq_left', exists_and_left, exists_and_right, exists_eq, exists_eq', LL.if_dec, reduceCtorEq, exists_false, exists_const, or_false, false_or, if_true, if_false, LL.rInt1, LL.rMx, LL.rMn, and_assoc, Int.reduceNeg, Int.reduceLT, Int.reduceLE, Int.reduceMul, Int.reduceAdd, Int.reduceSub, Int.reducePow, Int.reduceToNat, Nat.reducePow, Nat.reduceLT, true_or, or_true, Bool.not_true, Bool.not_false, Bool.false_eq_true, Bool.or_false, Bool.or_true, Bool.true_or, Bool.false_or, decide_true, decide_false, not_true_eq_false, not_false_eq_true, LL.scal_int, LL.scal_bl, LL.scal_str, LL.isInt, LL.isBl, LL.isStr, LL.isLst, LL.isTup, LL.isDic, N_law_is_ints]
    cases t with
    | tup us =>
      obtain ⟨p, xs, rfl, fp, ep, hx, hz⟩ := _root_.id hd
      repeat (first | refine use_isi hd (kit_int _) ?_ | refine use_isi hd (kit_bool _) ?_ | refine use_isi hd (kit_str _) ?_ | refine use_isi hd (kit_list _) ?_ | refine use_isi hd (kit_tuple _) ?_ | refine use_isi hd (kit_dict _) ?_ | refine And.intro (show scal _ _ = true from rfl) ?_ | simp only [tSeq, tAsg, tRet, tRetN, tDrop, tNext, tVar, tC, gName, tOp, tUn, rI, rI0, rU, tIfS, tTest, tB, tIf, tAnd, tOr, tNot, tAndV, tOrV, tNotV, tCall, tCons, tNil, tCB, tLst, tTup, tChain, CMul, CDiv, CPow, rEq, rNe, gSub, L2.start, LL.cxK0, LL.cxK1, List.map_cons, List.map_nil, List.length_cons, List.length_nil, List.replicate_succ, List.replicate_zero, List.cons_append, List.nil_append, List.append_nil, List.getElem?_cons_zero, List.getElem?_cons_succ, List.set_cons_zero, List.set_cons_succ, Nat.add_sub_cancel, Nat.reduceAdd, Nat.reduceSub, Option.some.injEq, V.int.injEq, V.bl.injEq, V.ref.injEq, V.str.injEq, List.cons.injEq, and_true, true_and, and_false, false_and, exists_eq_left, exists_eq_left', exists_and_left, exists_and_right, exists_eq, exists_eq', LL.if_dec, reduceCtorEq, exists_false, exists_const, or_false, false_or, if_true, if_false, LL.rInt1, LL.rMx, LL.rMn, and_assoc, Int.reduceNeg, Int.reduceLT, Int.reduceLE, Int.reduceMul, Int.reduceAdd, Int.reduceSub, Int.reducePow, Int.reduceToNat, Nat.reducePow, Nat.reduceLT, true_or, or_true, Bool.not_true, Bool.not_false, Bool.false_eq_true, Bool.or_false, Bool.or_true, Bool.true_or, Bool.false_or, decide_true, decide_false, not_true_eq_false, not_false_eq_true, LL.scal_int, LL.scal_bl, LL.scal_str, LL.isInt, LL.isBl, LL.isStr, LL.isLst, LL.isTup, LL.isDic])
      refine use_lenT ep ⟨scal_int.mpr trivial, ?_⟩
      by_cases hl : xs.length = 2
      · rw [if_neg (by simp [hl])]
        have hu : us.length = 2 := by rw [← hx.len, hl]
        refine use_forT (a := p) (xs := xs) (fun Q q => ⟨_, rfl, q⟩) (fun i σ' H' => H' = H ∧ (∀ t ∈ us.take i, LL.isInt t = true) ∧ ∃ z : Option V, σ' = [some (.ref p), some (.bl false), some (.int 2), z]) ⟨rfl, by simp, _, rfl⟩ (fun i σ' H' _ ⟨e, _⟩ => e ▸ SqT.of ep) ?_ ?_
        · rintro i z σ' H' hz ⟨rfl, hall, zz, rfl⟩
          obtain ⟨t, et, dt⟩ := hx.get _ hz
          simp only [tSeq, tAsg, tRet, tRetN, tDrop, tNext, tVar, tC, gName, tOp, tUn, rI, rI0, rU, tIfS, tTest, tB, tIf, tAnd, tOr, tNot, tAndV, tOrV, tNotV, tCall, tCons, tNil, tCB, tLst, tTup, tChain, CMul, CDiv, CPow, rEq, rNe, gSub, L2.start, LL.cxK0, LL.cxK1, List.map_cons, List.map_nil, List.length_cons, List.length_nil, List.replicate_succ, List.replicate_zero, List.cons_append, List.nil_append, List.append_nil, List.getElem?_cons_zero, List.getElem?_cons_succ, List.set_cons_zero, List.set_cons_succ, Nat.add_sub_cancel, Nat.reduceAdd, Nat.reduceSub, Option.some.injEq, V.int.injEq, V.bl.injEq, V.ref.injEq, V.str.injEq, List.cons.injEq, and_true, true_and, and_false, false_and, exists_eq_left, exists_eq_left', exists_and_left, exists_and_right, exists_eq, exists_eq', LL.if_dec, reduceCtorEq, exists_false, exists_const, or_false, false_or, if_true, if_false, LL.rInt1, LL.rMx, LL.rMn, and_assoc, Int.reduceNeg, Int.reduceLT, Int.reduceLE, Int.reduceMul, Int.reduceAdd, Int.reduceSub, Int.reducePow, Int.reduceToNat, Nat.reducePow, Nat.reduceLT, true_or, or_true, Bool.not_true, Bool.not_false, Bool.false_eq_true, Bool.or_false, Bool.or_true, Bool.true_or, Bool.false_or, decide_true, decide_false, not_true_eq_false, not_false_eq_true, LL.scal_int, LL.scal_bl, LL.scal_str, LL.isInt, LL.isBl, LL.isStr, LL.isLst, LL.isTup, LL.isDic]
          refine use_isint dt ⟨_, rfl, ?_⟩
          cases hi : LL.isInt t with
          | true =>
            simp only [tSeq, tAsg, tRet, tRetN, tDrop, tNext, tVar, tC, gName, tOp, tUn, rI, rI0, rU, tIfS, tTest, tB, tIf, tAnd, tOr, tNot, tAndV, tOrV, tNotV, tCall, tCons, tNil, tCB, tLst, tTup, tChain, CMul, CDiv, CPow, rEq, rNe, gSub, L2.start, LL.cxK0, LL.cxK1, List.map_cons, List.map_nil, List.length_cons, List.length_nil, List.replicate_succ, List.replicate_zero, List.cons_append, List.nil_append, List.append_nil, List.getElem?_cons_zero, List.getElem?_cons_succ, List.set_cons_zero, List.set_cons_succ, Nat.add_sub_cancel, Nat.reduceAdd, Nat.reduceSub, Option.some.injEq, V.int.injEq, V.bl.injEq, V.ref.injEq, V.str.injEq, List.cons.injEq, and_true, true_and, and_false, false_and, exists_eq_left, exists_eq_left', exists_and_left, exists_and_right, exists_eq, exists_eq', LL.if_dec, reduceCtorEq, exists_false, exists_const, or_false, false_or, if_true, if_false, LL.rInt1, LL.rMx, LL.rMn, and_assoc, Int.reduceNeg, Int.reduceLT, Int.reduceLE, Int.reduceMul, Int.reduceAdd, Int.reduceSub, Int.reducePow, Int.reduceToNat, Nat.reducePow, Nat.reduceLT, true_or, or_true, Bool.not_true, Bool.not_false, Bool.false_eq_true, Bool.or_false, Bool.or_true, Bool.true_or, Bool.false_or, decide_true, decide_false, not_true_eq_false, not_false_eq_true, LL.scal_int, LL.scal_bl, LL.scal_str, LL.isInt, LL.isBl, LL.isStr, LL.isLst, LL.isTup, LL.isDic]
            rw [take_one et]
            intro u hu
            rcases List.mem_append.mp hu with h | h
            · exact hall u h
            · rw [List.mem_singleton.mp h]; exact hi
          | false =>
            simp only [tSeq, tAsg, tRet, tRetN, tDrop, tNext, tVar, tC, gName, tOp, tUn, rI, rI0, rU, tIfS, tTest, tB, tIf, tAnd, tOr, tNot, tAndV, tOrV, tNotV, tCall, tCons, tNil, tCB, tLst, tTup, tChain, CMul, CDiv, CPow, rEq, rNe, gSub, L2.start, LL.cxK0, LL.cxK1, List.map_cons, List.map_nil, List.length_cons, List.length_nil, List.replicate_succ, List.replicate_zero, List.cons_append, List.nil_append, List.append_nil, List.getElem?_cons_zero, List.getElem?_cons_succ, List.set_cons_zero, List.set_cons_succ, Nat.add_sub_cancel, Nat.reduceAdd, Nat.reduceSub, Option.some.injEq, V.int.injEq, V.bl.injEq, V.ref.injEq, V.str.injEq, List.cons.injEq, and_true, true_and, and_false, false_and, exists_eq_left, exists_eq_left', exists_and_left, exists_and_right, exists_eq, exists_eq', LL.if_dec, reduceCtorEq, exists_false, exists_const, or_false, false_or, if_true, if_false, LL.rInt1, LL.rMx, LL.rMn, and_assoc, Int.reduceNeg, Int.reduceLT, Int.reduceLE, Int.reduceMul, Int.reduceAdd, Int.reduceSub, Int.reducePow, Int.reduceToNat, Nat.reducePow, Nat.reduceLT, true_or, or_true, Bool.not_true, Bool.not_false, Bool.false_eq_true, Bool.or_false, Bool.or_true, Bool.true_or, Bool.false_or, decide_true, decide_false, not_true_eq_false, not_false_eq_true, LL.scal_int, LL.scal_bl, LL.scal_str, LL.isInt, LL.isBl, LL.isStr, LL.isLst, LL.isTup, LL.isDic]
            have : pairB (.tup us) = false := by
              rw [pair_all hu]
              cases h : us.all LL.isInt with
              | false => rfl
              | true =>
                have := List.all_eq_true.mp h t (List.mem_of_getElem? et)
                rw [hi] at this
                cases this
            rw [this] at q
            exact q
        · rintro σ' H' ⟨rfl, hall, zz, rfl⟩
          simp only [tSeq, tAsg, tRet, tRetN, tDrop, tNext, tVar, tC, gName, tOp, tUn, rI, rI0, rU, tIfS, tTest, tB, tIf, tAnd, tOr, tNot, tAndV, tOrV, tNotV, tCall, tCons, tNil, tCB, tLst, tTup, tChain, CMul, CDiv, CPow, rEq, rNe, gSub, L2.start, LL.cxK0, LL.cxK1, List.map_cons, List.map_nil, List.length_cons, List.length_nil, List.replicate_succ, List.replicate_zero, List.cons_append, List.nil_append, List.append_nil, List.getElem?_cons_zero, List.getElem?_cons_succ, List.set_cons_zero, List.set_cons_succ, Nat.add_sub_cancel, Nat.reduceAdd, Nat.reduceSub, Option.some.injEq, V.int.injEq, V.bl.injEq, V.ref.injEq, V.str.injEq, List.cons.injEq, and_true, true_and, and_false, false_and, exists_eq_left, exists_eq_left', exists_and_left, exists_and_right, exists_eq, exists_eq', LL.if_dec, reduceCtorEq, exists_false, exists_const, or_false, false_or, if_true, if_false, LL.rInt1, LL.rMx, LL.rMn, and_assoc, Int.reduceNeg, Int.reduceLT, Int.reduceLE, Int.reduceMul, Int.reduceAdd, Int.reduceSub, Int.reducePow, Int.reduceToNat, Nat.reducePow, Nat.reduceLT, true_or, or_true, Bool.not_true, Bool.not_false, Bool.false_eq_true, Bool.or_false, Bool.or_true, Bool.true_or, Bool.false_or, decide_true, decide_false, not_true_eq_false, not_false_eq_true, LL.scal_int, LL.scal_bl, LL.scal_str, LL.isInt, LL.isBl, LL.isStr, LL.isLst, LL.isTup, LL.isDic]
          rw [hx.len, List.take_length] at hall
          rw [pair_all hu, List.all_eq_true.mpr hall] at q
          exact q
      · rw [if_pos (by simp; omega)]
        rw [pair_len (by rw [← hx.len]; exact hl)] at q
        exact q
    | _ =>
      repeat (first | refine use_isi hd (kit_int _) ?_ | refine use_isi hd (kit_bool _) ?_ | refine use_isi hd (kit_str _) ?_ | refine use_isi hd (kit_list _) ?_ | refine use_isi hd (kit_tuple _) ?_ | refine use_isi hd (kit_dict _) ?_ | refine And.intro (show scal _ _ = true from rfl) ?_ | simp only [tSeq, tAsg, tRet, tRetN, tDrop, tNext, tVar, tC, gName, tOp, tUn, rI, rI0, rU, tIfS, tTest, tB, tIf, tAnd, tOr, tNot, tAndV, tOrV, tNotV, tCall, tCons, tNil, tCB, tLst, tTup, tChain, CMul, CDiv, CPow, rEq, rNe, gSub, L2.start, LL.cxK0, LL.cxK1, List.map_cons, List.map_nil, List.length_cons, List.length_nil, List.replicate_succ, List.replicate_zero, List.cons_append, List.nil_append, List.append_nil, List.getElem?_cons_zero, List.getElem?_cons_succ, List.set_cons_zero, List.set_cons_succ, Nat.add_sub_cancel, Nat.reduceAdd, Nat.reduceSub, Option.some.injEq, V.int.injEq, V.bl.injEq, V.ref.injEq, V.str.injEq, List.cons.injEq, and_true, true_and, and_false, false_and, exists_eq_left, exists_eq_left', exists_and_left, exists_and_right, exists_eq, exists_eq', LL.if_dec, reduceCtorEq, exists_false, exists_const, or_false, false_or, if_true, if_false, LL.rInt1, LL.rMx, LL.rMn, and_assoc, Int.reduceNeg, Int.reduceLT, Int.reduceLE, Int.reduceMul, Int.reduceAdd, Int.reduceSub, Int.reducePow, Int.reduceToNat, Nat.reducePow, Nat.reduceLT, true_or, or_true, Bool.not_true, Bool.not_false, Bool.false_eq_true, Bool.or_false, Bool.or_true, Bool.true_or, Bool.false_or, decide_true, decide_false, not_true_eq_false, not_false_eq_true, LL.scal_int, LL.scal_bl, LL.scal_str, LL.isInt, LL.isBl, LL.isStr, LL.isLst, LL.isTup, LL.isDic])
      exact q
/-- the same data gives True -/
def sp_law_same (n : Nat) : Sp := fun vs H Q _ => ∃ (F G : Addr → Prop) (v x : V) (t : LL.T), vs = [v, x] ∧ Dt F H v t ∧ Dt G H x t ∧ dep t < n ∧ ∀ H', Same H H' → Q (.bl true) H'
theorem use_same {n : Nat} {F G : Addr → Prop} {v x : V} {t : LL.T} {H : Hp} {Q : VK} {E : XK} (h1 : Dt F H v t) (h2 : Dt G H x t) (hn : dep t < n) (q : ∀ H', Same H H' → Q (.bl true) H') : sp_law_same n [v, x] H Q E := ⟨F, G, v, x, t, rfl, h1, h2, hn, q⟩

theorem ok_law_same (T : Tx K mg) : ∀ n : Nat, FnOk P w K mg base CX0 (n + 1) (He.ga K "_law_same") T.fd_law_same P_law_same (sp_law_same n) := by
  intro n
  induction n with
  | zero => exact ⟨fun vs H Q E h => by obtain ⟨_, _, _, _, _, _, _, _, h, _⟩ := h; exact absurd h (Nat.not_lt_zero _), fun A outer s H args us vs Q E hr he hb hv h => by obtain ⟨_, _, _, _, _, _, _, _, h, _⟩ := h; exact absurd h (Nat.not_lt_zero _)⟩
  | succ n ih =>
    refine T.F_law_same.ok sc_law_same (fun vs H Q E h => ?_) (fun cdv A outer s H vs Q E hr h => ⟨_, PSs.nox (pss_cons (ps_if (PW.pt (pw_or (pt_cmpR op_isN (pv 0) (pe_non) (nomark _)) (pw_or1 (pt_cmpR op_isN (pv 1) (pe_non) (nomark _))))) (pss_one (ps_ret ((pe_and (pe_cmpR op_isN (pv 0) (pe_non) (nomark _)) (pe_one (pe_cmpR op_isN (pv 1) (pe_non) (nomark _))))))) pss_nil) (pss_cons (ps_if (PW.pt (pw_or (pt_val (pe_callB call_isi (by rfl) T.z_isinstance (by decide +kernel) (pa_cons (pv 0) (pa_cons (pe_bltn (v := .ty "bool") (u := .type "bool") (by rfl) T.z_bool (by decide +kernel) rfl) pa_nil)))) (pw_or1 (pt_val (pe_callB call_isi (by rfl) T.z_isinstance (by decide +kernel) (pa_cons (pv 1) (pa_cons (pe_bltn (v := .ty "bool") (u := .type "bool") (by rfl) T.z_bool (by decide +kernel) rfl) pa_nil))))))) (pss_one (ps_ret ((pe_and (pe_callB call_isi (by rfl) T.z_isinstance (by decide +kernel) (pa_cons (pv 0) (pa_cons (pe_bltn (v := .ty "bool") (u := .type "bool") (by rfl) T.z_bool (by decide +kernel) rfl) pa_nil))) (pe_and (pe_callB call_isi (by rfl) T.z_isinstance (by decide +kernel) (pa_cons (pv 1) (pa_cons (pe_bltn (v := .ty "bool") (u := .type "bool") (by rfl) T.z_bool (by decide +kernel) rfl) pa_nil))) (pe_one (pe_cmpR op_eq (pv 0) (pv 1) (nomark _)))))))) pss_nil) (pss_cons (ps_if (pt_val (pe_callB call_isi (by rfl) T.z_isinstance (by decide +kernel) (pa_cons (pv 1) (pa_cons (pe_bltn (v := .ty "int") (u := .type "int") (by rfl) T.z_int (by decide +kernel) rfl) pa_nil)))) (pss_one (ps_ret ((pe_and (pe_callB call_isi (by rfl) T.z_isinstance (by decide +kernel) (pa_cons (pv 0) (pa_cons (pe_bltn (v := .ty "int") (u := .type "int") (by rfl) T.z_int (by decide +kernel) rfl) pa_nil))) (pe_one (pe_cmpR op_eq (pv 0) (pv 1) (nomark _))))))) pss_nil) (pss_cons (ps_if (pt_val (pe_callB call_isi (by rfl) T.z_isinstance (by decide +kernel) (pa_cons (pv 1) (pa_cons (pe_bltn (v := .ty "str") (u := .type "str") (by rfl) T.z_str (by decide +kernel) rfl) pa_nil)))) (pss_one (ps_ret ((pe_and (pe_callB call_isi (by rfl) T.z_isinstance (by decide +kernel) (pa_cons (pv 0) (pa_cons (pe_bltn (v := .ty "str") (u := .type "str") (by rfl) T.z_str (by decide +kernel) rfl) pa_nil))) (pe_one (pe_cmpR op_eq (pv 0) (pv 1) (nomark _))))))) pss_nil) (pss_cons (ps_if (pt_val (pe_callB call_isi (by rfl) T.z_isinstance (by decide +kernel) (pa_cons (pv 1) (pa_cons (pe_bltn (v := .ty "dict") (u := .type "dict") (by rfl) T.z_dict (by decide +kernel) rfl) pa_nil)))) (pss_cons (ps_if (PW.pt (pw_or (pt_not (pt_val (pe_callB call_isi (by rfl) T.z_isinstance (by decide +kernel) (pa_cons (pv 0) (pa_cons (pe_bltn (v := .ty "dict") (u := .type "dict") (by rfl) T.z_dict (by decide +kernel) rfl) pa_nil))))) (pw_or1 (pt_cmpR op_ne (pe_callB LL.call_lenA (by rfl) T.z_len (by decide +kernel) (pa_cons (pv 0) pa_nil)) (pe_callB LL.call_lenA (by rfl) T.z_len (by decide +kernel) (pa_cons (pv 1) pa_nil)) (nomark _))))) (pss_one (ps_ret (pe_bl))) pss_nil) (pss_cons (ps_for PassesOwn.never rfl (pi_list (pe_callTy (LL.call_lstD rfl) (by rfl) T.z_list (by decide +kernel) (pa_cons (pv 1) pa_nil))) (pg_name (i := 3) sc_law_same.nd rfl (Or.inl rfl)) (pss_one (ps_if (PW.pt (pw_or (pt_cmp (pc_dnotin (hu_of hr) (pv 3) (pv 0))) (pw_or1 (pt_not (pt_val (pe_call ih hr rfl T.g_law_same T.F_law_same.kp (b_law_same T) .nil pass0 (pa_cons (pe_dget (hu_of hr) (pv 0) (pv 3) (fun _ _ => rfl)) (pa_cons (pe_dget (hu_of hr) (pv 1) (pv 3) (fun _ _ => rfl)) pa_nil)))))))) (pss_one (ps_ret (pe_bl))) pss_nil))) (pss_one (ps_ret (pe_bl))))) pss_nil) (pss_cons (ps_if (pt_cmpR op_ne (pe_callB call_isi (by rfl) T.z_isinstance (by decide +kernel) (pa_cons (pv 1) (pa_cons (pe_bltn (v := .ty "list") (u := .type "list") (by rfl) T.z_list (by decide +kernel) rfl) pa_nil))) (pe_callB call_isi (by rfl) T.z_isinstance (by decide +kernel) (pa_cons (pv 0) (pa_cons (pe_bltn (v := .ty "list") (u := .type "list") (by rfl) T.z_list (by decide +kernel) rfl) pa_nil))) (nomark _)) (pss_one (ps_ret (pe_bl))) pss_nil) (pss_cons (ps_if (pt_cmpR op_ne (pe_callB call_isi (by rfl) T.z_isinstance (by decide +kernel) (pa_cons (pv 1) (pa_cons (pe_bltn (v := .ty "tuple") (u := .type "tuple") (by rfl) T.z_tuple (by decide +kernel) rfl) pa_nil))) (pe_callB call_isi (by rfl) T.z_isinstance (by decide +kernel) (pa_cons (pv 0) (pa_cons (pe_bltn (v := .ty "tuple") (u := .type "tuple") (by rfl) T.z_tuple (by decide +kernel) rfl) pa_nil))) (nomark _)) (pss_one (ps_ret (pe_bl))) pss_nil) (pss_cons (ps_if (PW.pt (pw_or (PW.pt (pw_and (pt_not (pt_val (pe_callB call_isi (by rfl) T.z_isinstance (by decide +kernel) (pa_cons (pv 1) (pa_cons (pe_bltn (v := .ty "list") (u := .type "list") (by rfl) T.z_list (by decide +kernel) rfl) pa_nil))))) (pw_and1 (pt_not (pt_val (pe_callB call_isi (by rfl) T.z_isinstance (by decide +kernel) (pa_cons (pv 1) (pa_cons (pe_bltn (v := .ty "tuple") (u := .type "tuple") (by rfl) T.z_tuple (by decide +kernel) rfl) pa_nil)))))))) (pw_or1 (pt_cmpR op_ne (pe_callB LL.call_lenA (by rfl) T.z_len (by decide +kernel) (pa_cons (pv 0) pa_nil)) (pe_callB LL.call_lenA (by rfl) T.z_len (by decide +kernel) (pa_cons (pv 1) pa_nil)) (nomark _))))) (pss_one (ps_ret (pe_bl))) pss_nil) (pss_cons (ps_for PassesOwn.never rfl (pi_range1 rfl T.z_range (pa_cons (pe_callB LL.call_lenA (by rfl) T.z_len (by decide +kernel) (pa_cons (pv 1) pa_nil)) pa_nil)) (pg_name (i := 2) sc_law_same.nd rfl (Or.inl rfl)) (pss_one (ps_if (pt_not (pt_val (pe_call ih hr rfl T.g_law_same T.F_law_same.kp (b_law_same T) .nil pass0 (pa_cons (pe_ix LL.ix_A (pv 0) (pv 2) (fun _ _ => rfl)) (pa_cons (pe_ix LL.ix_A (pv 1) (pv 2) (fun _ _ => rfl)) pa_nil))))) (pss_one (ps_ret (pe_bl))) pss_nil))) (pss_one (ps_ret (pe_bl)))))))))))), ?_⟩)
    · obtain ⟨_, _, _, _, _, rfl, _⟩ := h
      rfl
    · obtain ⟨F, G, v, x, t, rfl, h1, h2, hn, q⟩ := h
      cases t with
      | non =>
        obtain rfl : v = .non := h1
        obtain rfl : x = .non := h2
        simp only [tSeq, tAsg, tRet, tRetN, tDrop, tNext, tVar, tC, gName, tOp, tUn, rI, rI0, rU, tIfS, tTest, tB, tIf, tAnd, tOr, tNot, tAndV, tOrV, tNotV, tCall, tCons, tNil, tCB, tLst, tTup, tChain, CMul, CDiv, CPow, rEq, rNe, gSub, L2.start, LL.cxK0, LL.cxK1, List.map_cons, List.map_nil, List.length_cons, List.length_nil, List.replicate_succ, List.replicate_zero, List.cons_append, List.nil_append, List.append_nil, List.getElem?_cons_zero, List.getElem?_cons_succ, List.set_cons_zero, List.set_cons_succ, Nat.add_sub_cancel, Nat.reduceAdd, Nat.reduceSub, Option.some.injEq, V.int.injEq, V.bl.injEq, V.ref.injEq, V.str.injEq, List.cons.injEq, and_true, true_and, and_false, false_and, exists_eq_left, exists_eq_left', exists_and_left, exists_and_right, exists_eq, exists_eq', LL.if_dec, reduceCtorEq, exists_false, exists_const, or_false, false_or, if_true, if_false, LL.rInt1, LL.rMx, LL.rMn, and_assoc, Int.reduceNeg, Int.reduceLT, Int.reduceLE, Int.reduceMul, Int.reduceAdd, Int.reduceSub, Int.reducePow, Int.reduceToNat, Nat.reducePow, Nat.reduceLT, true_or, or_true, Bool.not_true, Bool.not_false, Bool.false_eq_true, Bool.or_false, Bool.or_true, Bool.true_or, Bool.false_or, decide_true, decide_false, not_true_eq_false, not_false_eq_true, LL.scal_int, LL.scal_bl, LL.scal_str, LL.isInt, LL.isBl, LL.isStr, LL.isLst, LL.isTup, LL.isDic, N_law_same]
        exact q _ (Same.refl _)
      | bl b =>
        obtain rfl : v = .bl b := h1
        obtain rfl : x = .bl b := h2
        have h1 : Dt F H (.bl b) (.bl b) := rfl
        simp only [tSeq, tAsg, tRet, tRetN, tDrop, tNext, tVar, tC, gName, tOp, tUn, rI, rI0, rU, tIfS, tTest, tB, tIf, tAnd, tOr, tNot, tAndV, tOrV, tNotV, tCall, tCons, tNil, tCB, tLst, tTup, tChain, CMul, CDiv, CPow, rEq, rNe, gSub, L2.start, LL.cxK0, LL.cxK1, List.map_cons, List.map_nil, List.length_cons, List.length_nil, List.replicate_succ, List.replicate_zero, List.cons_append, List.nil_append, List.append_nil, List.getElem?_cons_zero, List.getElem?_cons_succ, List.set_cons_zero, List.set_cons_succ, Nat.add_sub_cancel, Nat.reduceAdd, Nat.reduceSub, Option.some.injEq, V.int.injEq, V.bl.injEq, V.ref.injEq, V.str.injEq, List.cons.injEq, and_true, true_and, and_false, false_and, exists_eq_left, exists_eq_left', exists_and_left, exists_and_right, exists_eq, exists_eq', LL.if_dec, reduceCtorEq, exists_false, exists_const, or_false, false_or, if_true, if_false, LL.rInt1, LL.rMx, LL.rMn, and_assoc, Int.reduceNeg, Int.reduceLT, Int.reduceLE, Int.reduceMul, Int.reduceAdd, Int.reduceSub, Int.reducePow, Int.reduceToNat, Nat.reducePow, Nat.reduceLT, true_or, or_true, Bool.not_true, Bool.not_false, Bool.false_eq_true, Bool.or_false, Bool.or_true, Bool.true_or, Bool.false_or, decide_true, decide_false, not_true_eq_false, not_false_eq_true, LL.scal_int, LL.scal_bl, LL.scal_str, LL.isInt, LL.isBl, LL.isStr, LL.isLst, LL.isTup, LL.isDic, N_law_same]
        repeat (first | refine use_isi h1 (kit_int _) ?_ | refine use_isi h1 (kit_bool _) ?_ | refine use_isi h1 (kit_str _) ?_ | refine use_isi h1 (kit_list _) ?_ | refine use_isi h1 (kit_tuple _) ?_ | refine use_isi h1 (kit_dict _) ?_ | refine And.intro (show scal _ _ = true from rfl) ?_ | simp only [tSeq, tAsg, tRet, tRetN, tDrop, tNext, tVar, tC, gName, tOp, tUn, rI, rI0, rU, tIfS, tTest, tB, tIf, tAnd, tOr, tNot, tAndV, tOrV, tNotV, tCall, tCons, tNil, tCB, tLst, tTup, tChain, CMul, CDiv, CPow, rEq, rNe, gSub, L2.start, LL.cxK0, LL.cxK1, List.map_cons, List.map_nil, List.length_cons, List.length_nil, List.replicate_succ, List.replicate_zero, List.cons_append, List.nil_append, List.append_nil, List.getElem?_cons_zero, List.getElem?_cons_succ, List.set_cons_zero, List.set_cons_succ, Nat.add_sub_cancel, Nat.reduceAdd, Nat.reduceSub, Option.some.injEq, V.int.injEq, V.bl.injEq, V.ref.injEq, V.str.injEq, List.cons.injEq, and_true, true_and, and_false, false_and, exists_eq_left, exists_eq_left', exists_and_left, exists_and_right, exists_eq, exists_eq', LL.if_dec, reduceCtorEq, exists_false, exists_const, or_false, false_or, if_true, if_false, LL.rInt1, LL.rMx, LL.rMn, and_assoc, Int.reduceNeg, Int.reduceLT, Int.reduceLE, Int.reduceMul, Int.reduceAdd, Int.reduceSub, Int.reducePow, Int.reduceToNat, Nat.reducePow, Nat.reduceLT, true_or, or_true, Bool.not_true, Bool.not_false, Bool.false_eq_true, Bool.or_false, Bool.or_true, Bool.true_or, Bool.false_or, decide_true, decide_false, not_true_eq_false, not_false_eq_true, LL.scal_int, LL.scal_bl, LL.scal_str, LL.isInt, LL.isBl, LL.isStr, LL.isLst, LL.isTup, LL.isDic])
        exact q _ (Same.refl _)
      | int i =>
        obtain rfl : v = .int i := h1
        obtain rfl : x = .int i := h2
        have h1 : Dt F H (.int i) (.int i) := rfl
        simp only [tSeq, tAsg, tRet, tRetN, tDrop, tNext, tVar, tC, gName, tOp, tUn, rI, rI0, rU, tIfS, tTest, tB, tIf, tAnd, tOr, tNot, tAndV, tOrV, tNotV, tCall, tCons, tNil, tCB, tLst, tTup, tChain, CMul, CDiv, CPow, rEq, rNe, gSub, L2.start, LL.cxK0, LL.cxK1, List.map_cons, List.map_nil, List.length_cons, List.length_nil, List.replicate_succ, List.replicate_zero, List.cons_append, List.nil_append, List.append_nil, List.getElem?_cons_zero, List.getElem?_cons_succ, List.set_cons_zero, List.set_cons_succ, Nat.add_sub_cancel, Nat.reduceAdd, Nat.reduceSub, Option.some.injEq, V.int.injEq, V.bl.injEq, V.ref.injEq, V.str.injEq, List.cons.injEq, and_true, true_and, and_false, false_and, exists_eq_left, exists_eq_left', exists_and_left, exists_and_right, exists_eq, exists_eq', LL.if_dec, reduceCtorEq, exists_false, exists_const, or_false, false_or, if_true, if_false, LL.rInt1, LL.rMx, LL.rMn, and_assoc, Int.reduceNeg, Int.reduceLT, Int.reduceLE, Int.reduceMul, Int.reduceAdd, Int.reduceSub, Int.reducePow, Int.reduceToNat, Nat.reducePow, Nat.reduceLT, true_or, or_true, Bool.not_true, Bool.not_false, Bool.false_eq_true, Bool.or_false, Bool.or_true, Bool.true_or, Bool.false_or, decide_true, decide_false, not_true_eq_false, not_false_eq_true, LL.scal_int, LL.scal_bl, LL.scal_str, LL.isInt, LL.isBl, LL.isStr, LL.isLst, LL.isTup, LL.isDic, N_law_same]
        repeat (first | refine use_isi h1 (kit_int _) ?_ | refine use_isi h1 (kit_bool _) ?_ | refine use_isi h1 (kit_str _) ?_ | refine use_isi h1 (kit_list _) ?_ | refine use_isi h1 (kit_tuple _) ?_ | refine use_isi h1 (kit_dict _) ?_ | refine And.intro (show scal _ _ = true from rfl) ?_ | simp only [tSeq, tAsg, tRet, tRetN, tDrop, tNext, tVar, tC, gName, tOp, tUn, rI, rI0, rU, tIfS, tTest, tB, tIf, tAnd, tOr, tNot, tAndV, tOrV, tNotV, tCall, tCons, tNil, tCB, tLst, tTup, tChain, CMul, CDiv, CPow, rEq, rNe, gSub, L2.start, LL.cxK0, LL.cxK1, List.map_cons, List.map_nil, List.length_cons, List.length_nil, List.replicate_succ, List.replicate_zero, List.cons_append, List.nil_append, List.append_nil, List.getElem?_cons_zero, List.getElem?_cons_succ, List.set_cons_zero, List.set_cons_succ, Nat.add_sub_cancel, Nat.reduceAdd, Nat.reduceSub, Option.some.injEq, V.int.injEq, V.bl.injEq, V.ref.injEq, V.str.injEq, List.cons.injEq, and_true, true_and, and_false, false_and, exists_eq_left, exists_eq_left', exists_and_left, exists_and_right, exists_eq, exists_eq', LL.if_dec, reduceCtorEq, exists_false, exists_const, or_false, false_or, if_true, if_false, LL.rInt1, LL.rMx, LL.rMn, and_assoc, Int.reduceNeg, Int.reduceLT, Int.reduceLE, Int.reduceMul, Int.reduceAdd, Int.reduceSub, Int.reducePow, Int.reduceToNat, Nat.reducePow, Nat.reduceLT, true_or, or_true, Bool.not_true, Bool.not_false, Bool.false_eq_true, Bool.or_false, Bool.or_true, Bool.true_or, Bool.false_or, decide_true, decide_false, not_true_eq_false, not_false_eq_true, LL.scal_int, LL.scal_bl, LL.scal_str, LL.isInt, LL.isBl, LL.isStr, LL.isLst, LL.isTup, LL.isDic])
        exact q _ (Same.refl _)
      | str z =>
        obtain rfl : v = .str z := h1
        obtain rfl : x = .str z := h2
        have h1 : Dt F H (.str z) (.str z) := rfl
        simp only [tSeq, tAsg, tRet, tRetN, tDrop, tNext, tVar, tC, gName, tOp, tUn, rI, rI0, rU, tIfS, tTest, tB, tIf, tAnd, tOr, tNot, tAndV, tOrV, tNotV, tCall, tCons, tNil, tCB, tLst, tTup, tChain, CMul, CDiv, CPow, rEq, rNe, gSub, L2.start, LL.cxK0, LL.cxK1, List.map_cons, List.map_nil, List.length_cons, List.length_nil, List.replicate_succ, List.replicate_zero, List.cons_append, List.nil_append, List.append_nil, List.getElem?_cons_zero, List.getElem?_cons_succ, List.set_cons_zero, List.set_cons_succ, Nat.add_sub_cancel, Nat.reduceAdd, Nat.reduceSub, Option.some.injEq, V.int.injEq, V.bl.injEq, V.ref.injEq, V.str.injEq, List.cons.injEq, and_true, true_and, and_false, false_and, exists_eq_left, exists_eq_left', exists_and_left, exists_and_right, exists_eq, exists_eq', LL.if_dec, reduceCtorEq, exists_false, exists_const, or_false, false_or, if_true, if_false, LL.rInt1, LL.rMx, LL.rMn, and_assoc, Int.reduceNeg, Int.reduceLT, Int.reduceLE, Int.reduceMul, Int.reduceAdd, Int.reduceSub, Int.reducePow, Int.reduceToNat, Nat.reducePow, Nat.reduceLT, true_or, or_true, Bool.not_true, Bool.not_false, Bool.false_eq_true, Bool.or_false, Bool.or_true, Bool.true_or, Bool.false_or, decide_true, decide_false, not_true_eq_false, not_false_eq_true, LL.scal_int, LL.scal_bl, LL.scal_str, LL.isInt, LL.isBl, LL.isStr, LL.isLst, LL.isTup, LL.isDic, N_law_same]
        repeat (first | refine use_isi h1 (kit_int _) ?_ | refine use_isi h1 (kit_bool _) ?_ | refine use_isi h1 (kit_str _) ?_ | refine use_isi h1 (kit_list _) ?_ | refine use_isi h1 (kit_tuple _) ?_ | refine use_isi h1 (kit_dict _) ?_ | refine And.intro (show scal _ _ = true from rfl) ?_ | simp only [tSeq, tAsg, tRet, tRetN, tDrop, tNext, tVar, tC, gName, tOp, tUn, rI, rI0, rU, tIfS, tTest, tB, tIf, tAnd, tOr, tNot, tAndV, tOrV, tNotV, tCall, tCons, tNil, tCB, tLst, tTup, tChain, CMul, CDiv, CPow, rEq, rNe, gSub, L2.start, LL.cxK0, LL.cxK1, List.map_cons, List.map_nil, List.length_cons, List.length_nil, List.replicate_succ, List.replicate_zero, List.cons_append, List.nil_append, List.append_nil, List.getElem?_cons_zero, List.getElem?_cons_succ, List.set_cons_zero, List.set_cons_succ, Nat.add_sub_cancel, Nat.reduceAdd, Nat.reduceSub, Option.some.injEq, V.int.injEq, V.bl.injEq, V.ref.injEq, V.str.injEq, List.cons.injEq, and_true, true_and, and_false, false_and, exists_eq_left, exists_eq_left', exists_and_left, exists_and_right, exists_eq, exists_eq', LL.if_dec, reduceCtorEq, exists_false, exists_const, or_false, false_or, if_true, if_false, LL.rInt1, LL.rMx, LL.rMn, and_assoc, Int.reduceNeg, Int.reduceLT, Int.reduceLE, Int.reduceMul, Int.reduceAdd, Int.reduceSub, Int.reducePow, Int.reduceToNat, Nat.reducePow, Nat.reduceLT, true_or, or_true, Bool.not_true, Bool.not_false, Bool.false_eq_true, Bool.or_false, Bool.or_true, Bool.true_or, Bool.false_or, decide_true, decide_false, not_true_eq_false, not_false_eq_true, LL.scal_int, LL.scal_bl, LL.scal_str, LL.isInt, LL.isBl, LL.isStr, LL.isLst, LL.isTup, LL.isDic])
        exact q _ (Same.refl _)
      | lst ts =>
        obtain ⟨p, xs, rfl, fp, ep, hx, hz⟩ := _root_.id h1
        obtain ⟨p2, ys, rfl, fp2, ep2, hy, _⟩ := _root_.id h2
        have lx := hx.len
        have ly := hy.len
        simp only [tSeq, tAsg, tRet, tRetN, tDrop, tNext, tVar, tC, gName, tOp, tUn, rI, rI0, rU, tIfS, tTest, tB, tIf, tAnd, tOr, tNot, tAndV, tOrV, tNotV, tCall, tCons, tNil, tCB, tLst, tTup, tChain, CMul, CDiv, CPow, rEq, rNe, gSub, L2.start, LL.cxK0, LL.cxK1, List.map_cons, List.map_nil, List.length_cons, List.length_nil, List.replicate_succ, List.replicate_zero, List.cons_append, List.nil_append, List.append_nil, List.getElem?_cons_zero, List.getElem?_cons_succ, List.set_cons_zero, List.set_cons_succ, Nat.add_sub_cancel, Nat.reduceAdd, Nat.reduceSub, Option.some.injEq, V.int.injEq, V.bl.injEq, V.ref.injEq, V.str.injEq, List.cons.injEq, and_true, true_and, and_false, false_and, exists_eq_left, exists_eq_left', exists_and_left, exists_and_right, exists_eq, exists_eq', LL.if_dec, reduceCtorEq, exists_false, exists_const, or_false, false_or, if_true, if_false, LL.rInt1, LL.rMx, LL.rMn, and_assoc, Int.reduceNeg, Int.reduceLT, Int.reduceLE, Int.reduceMul, Int.reduceAdd, Int.reduceSub, Int.reducePow, Int.reduceToNat, Nat.reducePow, Nat.reduceLT, true_or, or_true, Bool.not_true, Bool.not_false, Bool.false_eq_true, Bool.or_false, Bool.or_true, Bool.true_or, Bool.false_or, decide_true, decide_false, not_true_eq_false, not_false_eq_true, LL.scal_int, LL.scal_bl, LL.scal_str, LL.isInt, LL.isBl, LL.isStr, LL.isLst, LL.isTup, LL.isDic, N_law_same]
        repeat (first | refine use_isi h1 (kit_int _) ?_ | refine use_isi h1 (kit_bool _) ?_ | refine use_isi h1 (kit_str _) ?_ | refine use_isi h1 (kit_list _) ?_ | refine use_isi h1 (kit_tuple _) ?_ | refine use_isi h1 (kit_dict _) ?_ | refine use_isi h2 (kit_int _) ?_ | refine use_isi h2 (kit_bool _) ?_ | refine use_isi h2 (kit_str _) ?_ | refine use_isi h2 (kit_list _) ?_ | refine use_isi h2 (kit_tuple _) ?_ | refine use_isi h2 (kit_dict _) ?_ | refine And.intro (show scal _ _ = true from rfl) ?_ | simp only [tSeq, tAsg, tRet, tRetN, tDrop, tNext, tVar, tC, gName, tOp, tUn, rI, rI0, rU, tIfS, tTest, tB, tIf, tAnd, tOr, tNot, tAndV, tOrV, tNotV, tCall, tCons, tNil, tCB, tLst, tTup, tChain, CMul, CDiv, CPow, rEq, rNe, gSub, L2.start, LL.cxK0, LL.cxK1, List.map_cons, List.map_nil, List.length_cons, List.length_nil, List.replicate_succ, List.replicate_zero, List.cons_append, List.nil_append, List.append_nil, List.getElem?_cons_zero, List.getElem?_cons_succ, List.set_cons_zero, List.set_cons_succ, Nat.add_sub_cancel, Nat.reduceAdd, Nat.reduceSub, Option.some.injEq, V.int.injEq, V.bl.injEq, V.ref.injEq, V.str.injEq, List.cons.injEq, and_true, true_and, and_false, false_and, exists_eq_left, exists_eq_left', exists_and_left, exists_and_right, exists_eq, exists_eq', LL.if_dec, reduceCtorEq, exists_false, exists_const, or_false, false_or, if_true, if_false, LL.rInt1, LL.rMx, LL.rMn, and_assoc, Int.reduceNeg, Int.reduceLT, Int.reduceLE, Int.reduceMul, Int.reduceAdd, Int.reduceSub, Int.reducePow, Int.reduceToNat, Nat.reducePow, Nat.reduceLT, true_or, or_true, Bool.not_true, Bool.not_false, Bool.false_eq_true, Bool.or_false, Bool.or_true, Bool.true_or, Bool.false_or, decide_true, decide_false, not_true_eq_false, not_false_eq_true, LL.scal_int, LL.scal_bl, LL.scal_str, LL.isInt, LL.isBl, LL.isStr, LL.isLst, LL.isTup, LL.isDic])
        refine .inl (use_lenL ep ?_)
        refine .inl (use_lenL ep2 (And.intro (show scal _ _ = true from rfl) ?_))
        rw [if_neg (by rw [lx, ly]; simp)]
        refine use_forR (j := ys.length) (fun Q q => ⟨_, rfl, .inl (use_lenL ep2 q)⟩) (by omega) (by omega) (fun i σ' H' => Same H H' ∧ i ≤ ys.length ∧ ∃ z : Option V, σ' = [some (.ref p), some (.ref p2), z, none]) ⟨Same.refl _, Nat.zero_le _, _, rfl⟩ ?_ ?_
        · rintro i σ' H' hi ⟨s1, _, zz, rfl⟩
          have hi2 : i < ts.length := by omega
          obtain ⟨x1, e1, d1⟩ := hx.get' (List.getElem?_eq_getElem hi2)
          obtain ⟨x2, e2, d2⟩ := hy.get' (List.getElem?_eq_getElem hi2)
          simp only [tSeq, tAsg, tRet, tRetN, tDrop, tNext, tVar, tC, gName, tOp, tUn, rI, rI0, rU, tIfS, tTest, tB, tIf, tAnd, tOr, tNot, tAndV, tOrV, tNotV, tCall, tCons, tNil, tCB, tLst, tTup, tChain, CMul, CDiv, CPow, rEq, rNe, gSub, L2.start, LL.cxK0, LL.cxK1, List.map_cons, List.map_nil, List.length_cons, List.length_nil, List.replicate_succ, List.replicate_zero, List.cons_append, List.nil_append, List.append_nil, List.getElem?_cons_zero, List.getElem?_cons_succ, List.set_cons_zero, List.set_cons_succ, Nat.add_sub_cancel, Nat.reduceAdd, Nat.reduceSub, Option.some.injEq, V.int.injEq, V.bl.injEq, V.ref.injEq, V.str.injEq, List.cons.injEq, and_true, true_and, and_false, false_and, exists_eq_left, exists_eq_left', exists_and_left, exists_and_right, exists_eq, exists_eq', LL.if_dec, reduceCtorEq, exists_false, exists_const, or_false, false_or, if_true, if_false, LL.rInt1, LL.rMx, LL.rMn, and_assoc, Int.reduceNeg, Int.reduceLT, Int.reduceLE, Int.reduceMul, Int.reduceAdd, Int.reduceSub, Int.reducePow, Int.reduceToNat, Nat.reducePow, Nat.reduceLT, true_or, or_true, Bool.not_true, Bool.not_false, Bool.false_eq_true, Bool.or_false, Bool.or_true, Bool.true_or, Bool.false_or, decide_true, decide_false, not_true_eq_false, not_false_eq_true, LL.scal_int, LL.scal_bl, LL.scal_str, LL.isInt, LL.isBl, LL.isStr, LL.isLst, LL.isTup, LL.isDic]
          rw [Int.zero_add]
          refine .inl (use_ixL (s1 _ _ ep) (atI_nat e1) (.inl (use_ixL (s1 _ _ ep2) (atI_nat e2) ?_)))
          refine use_same (d1.same s1) (d2.same s1) (by have := depL_mem (List.getElem?_eq_getElem hi2); simp only [dep] at hn; omega) fun H2 s2 => ?_
          simp only [tSeq, tAsg, tRet, tRetN, tDrop, tNext, tVar, tC, gName, tOp, tUn, rI, rI0, rU, tIfS, tTest, tB, tIf, tAnd, tOr, tNot, tAndV, tOrV, tNotV, tCall, tCons, tNil, tCB, tLst, tTup, tChain, CMul, CDiv, CPow, rEq, rNe, gSub, L2.start, LL.cxK0, LL.cxK1, List.map_cons, List.map_nil, List.length_cons, List.length_nil, List.replicate_succ, List.replicate_zero, List.cons_append, List.nil_append, List.append_nil, List.getElem?_cons_zero, List.getElem?_cons_succ, List.set_cons_zero, List.set_cons_succ, Nat.add_sub_cancel, Nat.reduceAdd, Nat.reduceSub, Option.some.injEq, V.int.injEq, V.bl.injEq, V.ref.injEq, V.str.injEq, List.cons.injEq, and_true, true_and, and_false, false_and, exists_eq_left, exists_eq_left', exists_and_left, exists_and_right, exists_eq, exists_eq', LL.if_dec, reduceCtorEq, exists_false, exists_const, or_false, false_or, if_true, if_false, LL.rInt1, LL.rMx, LL.rMn, and_assoc, Int.reduceNeg, Int.reduceLT, Int.reduceLE, Int.reduceMul, Int.reduceAdd, Int.reduceSub, Int.reducePow, Int.reduceToNat, Nat.reducePow, Nat.reduceLT, true_or, or_true, Bool.not_true, Bool.not_false, Bool.false_eq_true, Bool.or_false, Bool.or_true, Bool.true_or, Bool.false_or, decide_true, decide_false, not_true_eq_false, not_false_eq_true, LL.scal_int, LL.scal_bl, LL.scal_str, LL.isInt, LL.isBl, LL.isStr, LL.isLst, LL.isTup, LL.isDic]
          exact ⟨s1.trans s2, by omega⟩
        · rintro σ' H' ⟨s1, _, zz, rfl⟩
          simp only [tSeq, tAsg, tRet, tRetN, tDrop, tNext, tVar, tC, gName, tOp, tUn, rI, rI0, rU, tIfS, tTest, tB, tIf, tAnd, tOr, tNot, tAndV, tOrV, tNotV, tCall, tCons, tNil, tCB, tLst, tTup, tChain, CMul, CDiv, CPow, rEq, rNe, gSub, L2.start, LL.cxK0, LL.cxK1, List.map_cons, List.map_nil, List.length_cons, List.length_nil, List.replicate_succ, List.replicate_zero, List.cons_append, List.nil_append, List.append_nil, List.getElem?_cons_zero, List.getElem?_cons_succ, List.set_cons_zero, List.set_cons_succ, Nat.add_sub_cancel, Nat.reduceAdd, Nat.reduceSub, Option.some.injEq, V.int.injEq, V.bl.injEq, V.ref.injEq, V.str.injEq, List.cons.injEq, and_true, true_and, and_false, false_and, exists_eq_left, exists_eq_left', exists_and_left, exists_and_right, exists_eq, exists_eq', LL.if_dec, reduceCtorEq, exists_false, exists_const, or_false, false_or, if_true, if_false, LL.rInt1, LL.rMx, LL.rMn, and_assoc, Int.reduceNeg, Int.reduceLT, Int.reduceLE, Int.reduceMul, Int.reduceAdd, Int.reduceSub, Int.reducePow, Int.reduceToNat, Nat.reducePow, Nat.reduceLT, true_or, or_true, Bool.not_true, Bool.not_false, Bool.false_eq_true, Bool.or_false, Bool.or_true, Bool.true_or, Bool.false_or, decide_true, decide_false, not_true_eq_false, not_false_eq_true, LL.scal_int, LL.scal_bl, LL.scal_str, LL.isInt, LL.isBl, LL.isStr, LL.isLst, LL.isTup, LL.isDic]
          exact q _ s1
      | tup ts =>
        obtain ⟨p, xs, rfl, fp, ep, hx, hz⟩ := _root_.id h1
        obtain ⟨p2, ys, rfl, fp2, ep2, hy, _⟩ := _root_.id h2
        have lx := hx.len
        have ly := hy.len
        simp only [tSeq, tAsg, tRet, tRetN, tDrop, tNext, tVar, tC, gName, tOp, tUn, rI, rI0, rU, tIfS, tTest, tB, tIf, tAnd, tOr, tNot, tAndV, tOrV, tNotV, tCall, tCons, tNil, tCB, tLst, tTup, tChain, CMul, CDiv, CPow, rEq, rNe, gSub, L2.start, LL.cxK0, LL.cxK1, List.map_cons, List.map_nil, List.length_cons, List.length_nil, List.replicate_succ, List.replicate_zero, List.cons_append, List.nil_append, List.append_nil, List.getElem?_cons_zero, List.getElem?_cons_succ, List.set_cons_zero, List.set_cons_succ, Nat.add_sub_cancel, Nat.reduceAdd, Nat.reduceSub, Option.some.injEq, V.int.injEq, V.bl.injEq, V.ref.injEq, V.str.injEq, List.cons.injEq, and_true, true_and, and_false, false_and, exists_eq_left, exists_eq_left', exists_and_left, exists_and_right, exists_eq, exists_eq', LL.if_dec, reduceCtorEq, exists_false, exists_const, or_false, false_or, if_true, if_false, LL.rInt1, LL.rMx, LL.rMn, and_assoc, Int.reduceNeg, Int.reduceLT, Int.reduceLE, Int.reduceMul, Int.reduceAdd, Int.reduceSub, Int.reducePow, Int.reduceToNat, Nat.reducePow, Nat.reduceLT, true_or, or_true, Bool.not_true, Bool.not_false, Bool.false_eq_true, Bool.or_false, Bool.or_true, Bool.true_or, Bool.false_or, decide_true, decide_false, not_true_eq_false, not_false_eq_true, LL.scal_int, LL.scal_bl, LL.scal_str, LL.isInt, LL.isBl, LL.isStr, LL.isLst, LL.isTup, LL.isDic, N_law_same]
        repeat (first | refine use_isi h1 (kit_int _) ?_ | refine use_isi h1 (kit_bool _) ?_ | refine use_isi h1 (kit_str _) ?_ | refine use_isi h1 (kit_list _) ?_ | refine use_isi h1 (kit_tuple _) ?_ | refine use_isi h1 (kit_dict _) ?_ | refine use_isi h2 (kit_int _) ?_ | refine use_isi h2 (kit_bool _) ?_ | refine use_isi h2 (kit_str _) ?_ | refine use_isi h2 (kit_list _) ?_ | refine use_isi h2 (kit_tuple _) ?_ | refine use_isi h2 (kit_dict _) ?_ | refine And.intro (show scal _ _ = true from rfl) ?_ | simp only [tSeq, tAsg, tRet, tRetN, tDrop, tNext, tVar, tC, gName, tOp, tUn, rI, rI0, rU, tIfS, tTest, tB, tIf, tAnd, tOr, tNot, tAndV, tOrV, tNotV, tCall, tCons, tNil, tCB, tLst, tTup, tChain, CMul, CDiv, CPow, rEq, rNe, gSub, L2.start, LL.cxK0, LL.cxK1, List.map_cons, List.map_nil, List.length_cons, List.length_nil, List.replicate_succ, List.replicate_zero, List.cons_append, List.nil_append, List.append_nil, List.getElem?_cons_zero, List.getElem?_cons_succ, List.set_cons_zero, List.set_cons_succ, Nat.add_sub_cancel, Nat.reduceAdd, Nat.reduceSub, Option.some.injEq, V.int.injEq, V.bl.injEq, V.ref.injEq, V.str.injEq, List.cons.injEq, and_true, true_and, and_false, false_and, exists_eq_left, exists_eq_left', exists_and_left, exists_and_right, exists_eq, exists_eq', LL.if_dec, reduceCtorEq, exists_false, exists_const, or_false, false_or, if_true, if_false, LL.rInt1, LL.rMx, LL.rMn, and_assoc, Int.reduceNeg, Int.reduceLT, Int.reduceLE, Int.reduceMul, Int.reduceAdd, Int.reduceSub, Int.reducePow, Int.reduceToNat, Nat.reducePow, Nat.reduceLT, true_or, or_true, Bool.not_true, Bool.not_false, Bool.false_eq_true, Bool.or_false, Bool.or_true, Bool.true_or, Bool.false_or, decide_true, decide_false, not_true_eq_false, not_false_eq_true, LL.scal_int, LL.scal_bl, LL.scal_str, LL.isInt, LL.isBl, LL.isStr, LL.isLst, LL.isTup, LL.isDic])
        refine .inr (.inl (use_lenT ep ?_))
        refine .inr (.inl (use_lenT ep2 (And.intro (show scal _ _ = true from rfl) ?_)))
        rw [if_neg (by rw [lx, ly]; simp)]
        refine use_forR (j := ys.length) (fun Q q => ⟨_, rfl, .inr (.inl (use_lenT ep2 q))⟩) (by omega) (by omega) (fun i σ' H' => Same H H' ∧ i ≤ ys.length ∧ ∃ z : Option V, σ' = [some (.ref p), some (.ref p2), z, none]) ⟨Same.refl _, Nat.zero_le _, _, rfl⟩ ?_ ?_
        · rintro i σ' H' hi ⟨s1, _, zz, rfl⟩
          have hi2 : i < ts.length := by omega
          obtain ⟨x1, e1, d1⟩ := hx.get' (List.getElem?_eq_getElem hi2)
          obtain ⟨x2, e2, d2⟩ := hy.get' (List.getElem?_eq_getElem hi2)
          simp only [tSeq, tAsg, tRet, tRetN, tDrop, tNext, tVar, tC, gName, tOp, tUn, rI, rI0, rU, tIfS, tTest, tB, tIf, tAnd, tOr, tNot, tAndV, tOrV, tNotV, tCall, tCons, tNil, tCB, tLst, tTup, tChain, CMul, CDiv, CPow, rEq, rNe, gSub, L2.start, LL.cxK0, LL.cxK1, List.map_cons, List.map_nil, List.length_cons, List.length_nil, List.replicate_succ, List.replicate_zero, List.cons_append, List.nil_append, List.append_nil, List.getElem?_cons_zero, List.getElem?_cons_succ, List.set_cons_zero, List.set_cons_succ, Nat.add_sub_cancel, Nat.reduceAdd, Nat.reduceSub, Option.some.injEq, V.int.injEq, V.bl.injEq, V.ref.injEq, V.str.injEq, List.cons.injEq, and_true, true_and, and_false, false_and, exists_eq_left, exists_eq_left', exists_and_left, exists_and_right, exists_eq, exists_eq', LL.if_dec, reduceCtorEq, exists_false, exists_const, or_false, false_or, if_true, if_false, LL.rInt1, LL.rMx, LL.rMn, and_assoc, Int.reduceNeg, Int.reduceLT, Int.reduceLE, Int.reduceMul, Int.reduceAdd, Int.reduceSub, Int.reducePow, Int.reduceToNat, Nat.reducePow, Nat.reduceLT, true_or, or_true, Bool.not_true, Bool.not_false, Bool.false_eq_true, Bool.or_false, Bool.or_true, Bool.true_or, Bool.false_or, decide_true, decide_false, not_true_eq_false, not_false_eq_true, LL.scal_int, LL.scal_bl, LL.scal_str, LL.isInt, LL.isBl, LL.isStr, LL.isLst, LL.isTup, LL.isDic]
          rw [Int.zero_add]
          refine .inr (use_ixT (s1 _ _ ep) (atI_nat e1) (.inr (use_ixT (s1 _ _ ep2) (atI_nat e2) ?_)))
          refine use_same (d1.same s1) (d2.same s1) (by have := depL_mem (List.getElem?_eq_getElem hi2); simp only [dep] at hn; omega) fun H2 s2 => ?_
          simp only [tSeq, tAsg, tRet, tRetN, tDrop, tNext, tVar, tC, gName, tOp, tUn, rI, rI0, rU, tIfS, tTest, tB, tIf, tAnd, tOr, tNot, tAndV, tOrV, tNotV, tCall, tCons, tNil, tCB, tLst, tTup, tChain, CMul, CDiv, CPow, rEq, rNe, gSub, L2.start, LL.cxK0, LL.cxK1, List.map_cons, List.map_nil, List.length_cons, List.length_nil, List.replicate_succ, List.replicate_zero, List.cons_append, List.nil_append, List.append_nil, List.getElem?_cons_zero, List.getElem?_cons_succ, List.set_cons_zero, List.set_cons_succ, Nat.add_sub_cancel, Nat.reduceAdd, Nat.reduceSub, Option.some.injEq, V.int.injEq, V.bl.injEq, V.ref.injEq, V.str.injEq, List.cons.injEq, and_true, true_and, and_false, false_and, exists_eq_left, exists_eq_left', exists_and_left, exists_and_right, exists_eq, exists_eq', LL.if_dec, reduceCtorEq, exists_false, exists_const, or_false, false_or, if_true, if_false, LL.rInt1, LL.rMx, LL.rMn, and_assoc, Int.reduceNeg, Int.reduceLT, Int.reduceLE, Int.reduceMul, Int.reduceAdd, Int.reduceSub, Int.reducePow, Int.reduceToNat, Nat.reducePow, Nat.reduceLT, true_or, or_true, Bool.not_true, Bool.not_false, Bool.false_eq_true, Bool.or_false, Bool.or_true, Bool.true_or, Bool.false_or, decide_true, decide_false, not_true_eq_false, not_false_eq_true, LL.scal_int, LL.scal_bl, LL.scal_str, LL.isInt, LL.isBl, LL.isStr, LL.isLst, LL.isTup, LL.isDic]
          exact ⟨s1.trans s2, by omega⟩
        · rintro σ' H' ⟨s1, _, zz, rfl⟩
          simp only [tSeq, tAsg, tRet, tRetN, tDrop, tNext, tVar, tC, gName, tOp, tUn, rI, rI0, rU, tIfS, tTest, tB, tIf, tAnd, tOr, tNot, tAndV, tOrV, tNotV, tCall, tCons, tNil, tCB, tLst, tTup, tChain, CMul, CDiv, CPow, rEq, rNe, gSub, L2.start, LL.cxK0, LL.cxK1, List.map_cons, List.map_nil, List.length_cons, List.length_nil, List.replicate_succ, List.replicate_zero, List.cons_append, List.nil_append, List.append_nil, List.getElem?_cons_zero, List.getElem?_cons_succ, List.set_cons_zero, List.set_cons_succ, Nat.add_sub_cancel, Nat.reduceAdd, Nat.reduceSub, Option.some.injEq, V.int.injEq, V.bl.injEq, V.ref.injEq, V.str.injEq, List.cons.injEq, and_true, true_and, and_false, false_and, exists_eq_left, exists_eq_left', exists_and_left, exists_and_right, exists_eq, exists_eq', LL.if_dec, reduceCtorEq, exists_false, exists_const, or_false, false_or, if_true, if_false, LL.rInt1, LL.rMx, LL.rMn, and_assoc, Int.reduceNeg, Int.reduceLT, Int.reduceLE, Int.reduceMul, Int.reduceAdd, Int.reduceSub, Int.reducePow, Int.reduceToNat, Nat.reducePow, Nat.reduceLT, true_or, or_true, Bool.not_true, Bool.not_false, Bool.false_eq_true, Bool.or_false, Bool.or_true, Bool.true_or, Bool.false_or, decide_true, decide_false, not_true_eq_false, not_false_eq_true, LL.scal_int, LL.scal_bl, LL.scal_str, LL.isInt, LL.isBl, LL.isStr, LL.isLst, LL.isTup, LL.isDic]
          exact q _ s1
      | dic u =>
        obtain ⟨p, z, rfl, fp, ep, hz⟩ := _root_.id h1
        obtain ⟨p2, z2, rfl, fp2, ep2, hz2⟩ := _root_.id h2
        simp only [tSeq, tAsg, tRet, tRetN, tDrop, tNext, tVar, tC, gName, tOp, tUn, rI, rI0, rU, tIfS, tTest, tB, tIf, tAnd, tOr, tNot, tAndV, tOrV, tNotV, tCall, tCons, tNil, tCB, tLst, tTup, tChain, CMul, CDiv, CPow, rEq, rNe, gSub, L2.start, LL.cxK0, LL.cxK1, List.map_cons, List.map_nil, List.length_cons, List.length_nil, List.replicate_succ, List.replicate_zero, List.cons_append, List.nil_append, List.append_nil, List.getElem?_cons_zero, List.getElem?_cons_succ, List.set_cons_zero, List.set_cons_succ, Nat.add_sub_cancel, Nat.reduceAdd, Nat.reduceSub, Option.some.injEq, V.int.injEq, V.bl.injEq, V.ref.injEq, V.str.injEq, List.cons.injEq, and_true, true_and, and_false, false_and, exists_eq_left, exists_eq_left', exists_and_left, exists_and_right, exists_eq, exists_eq', LL.if_dec, reduceCtorEq, exists_false, exists_const, or_false, false_or, if_true, if_false, LL.rInt1, LL.rMx, LL.rMn, and_assoc, Int.reduceNeg, Int.reduceLT, Int.reduceLE, Int.reduceMul, Int.reduceAdd, Int.reduceSub, Int.reducePow, Int.reduceToNat, Nat.reducePow, Nat.reduceLT, true_or, or_true, Bool.not_true, Bool.not_false, Bool.false_eq_true, Bool.or_false, Bool.or_true, Bool.true_or, Bool.false_or, decide_true, decide_false, not_true_eq_false, not_false_eq_true, LL.scal_int, LL.scal_bl, LL.scal_str, LL.isInt, LL.isBl, LL.isStr, LL.isLst, LL.isTup, LL.isDic, N_law_same]
        repeat (first | refine use_isi h1 (kit_int _) ?_ | refine use_isi h1 (kit_bool _) ?_ | refine use_isi h1 (kit_str _) ?_ | refine use_isi h1 (kit_list _) ?_ | refine use_isi h1 (kit_tuple _) ?_ | refine use_isi h1 (kit_dict _) ?_ | refine use_isi h2 (kit_int _) ?_ | refine use_isi h2 (kit_bool _) ?_ | refine use_isi h2 (kit_str _) ?_ | refine use_isi h2 (kit_list _) ?_ | refine use_isi h2 (kit_tuple _) ?_ | refine use_isi h2 (kit_dict _) ?_ | refine And.intro (show scal _ _ = true from rfl) ?_ | simp only [tSeq, tAsg, tRet, tRetN, tDrop, tNext, tVar, tC, gName, tOp, tUn, rI, rI0, rU, tIfS, tTest, tB, tIf, tAnd, tOr, tNot, tAndV, tOrV, tNotV, tCall, tCons, tNil, tCB, tLst, tTup, tChain, CMul, CDiv, CPow, rEq, rNe, gSub, L2.start, LL.cxK0, LL.cxK1, List.map_cons, List.map_nil, List.length_cons, List.length_nil, List.replicate_succ, List.replicate_zero, List.cons_append, List.nil_append, List.append_nil, List.getElem?_cons_zero, List.getElem?_cons_succ, List.set_cons_zero, List.set_cons_succ, Nat.add_sub_cancel, Nat.reduceAdd, Nat.reduceSub, Option.some.injEq, V.int.injEq, V.bl.injEq, V.ref.injEq, V.str.injEq, List.cons.injEq, and_true, true_and, and_false, false_and, exists_eq_left, exists_eq_left', exists_and_left, exists_and_right, exists_eq, exists_eq', LL.if_dec, reduceCtorEq, exists_false, exists_const, or_false, false_or, if_true, if_false, LL.rInt1, LL.rMx, LL.rMn, and_assoc, Int.reduceNeg, Int.reduceLT, Int.reduceLE, Int.reduceMul, Int.reduceAdd, Int.reduceSub, Int.reducePow, Int.reduceToNat, Nat.reducePow, Nat.reduceLT, true_or, or_true, Bool.not_true, Bool.not_false, Bool.false_eq_true, Bool.or_false, Bool.or_true, Bool.true_or, Bool.false_or, decide_true, decide_false, not_true_eq_false, not_false_eq_true, LL.scal_int, LL.scal_bl, LL.scal_str, LL.isInt, LL.isBl, LL.isStr, LL.isLst, LL.isTup, LL.isDic])
        refine .inr (.inr ⟨_, _, rfl, ep, ?_⟩)
        refine .inr (.inr ⟨_, _, rfl, ep2, And.intro (show scal _ _ = true from rfl) ?_⟩)
        rw [if_neg (by simp)]
        refine use_forLX (R := fun a xs H' => Same H H' ∧ H' a = some (.lst xs) ∧ xs = [.str "a"]) (fun Q hQ => ⟨_, rfl, _, _, rfl, ep2, ?_⟩) (fun a xs i σ' H' => Same H H' ∧ H' a = some (.lst xs) ∧ xs = [.str "a"] ∧ ∃ z1 z2 : Option V, σ' = [some (.ref p), some (.ref p2), z1, z2]) (fun a xs H' ⟨s1, e1, e2⟩ => ⟨s1, e1, e2, _, _, rfl⟩) (fun a xs i σ' H' _ ⟨_, e1, _⟩ => SqL.of e1) ?_ ?_
        · show ∀ l, H l = none → Q (V.ref l) _
          intro l nl
          generalize hq : upd H l _ = H1
          have sH1 : Same H H1 := hq ▸ Same.new (Same.refl _) nl
          have el := hq ▸ (upd_same (H := H) (a := l))
          clear hq
          exact hQ _ _ _ ⟨sH1, el, rfl⟩
        · rintro a xs i y σ' H' hy ⟨s1, e1, rfl, z3, z4, rfl⟩
          obtain rfl : y = V.str "a" := by
            rcases i with _ | i
            · exact (Option.some.inj hy).symm
            · cases hy
          simp only [tSeq, tAsg, tRet, tRetN, tDrop, tNext, tVar, tC, gName, tOp, tUn, rI, rI0, rU, tIfS, tTest, tB, tIf, tAnd, tOr, tNot, tAndV, tOrV, tNotV, tCall, tCons, tNil, tCB, tLst, tTup, tChain, CMul, CDiv, CPow, rEq, rNe, gSub, L2.start, LL.cxK0, LL.cxK1, List.map_cons, List.map_nil, List.length_cons, List.length_nil, List.replicate_succ, List.replicate_zero, List.cons_append, List.nil_append, List.append_nil, List.getElem?_cons_zero, List.getElem?_cons_succ, List.set_cons_zero, List.set_cons_succ, Nat.add_sub_cancel, Nat.reduceAdd, Nat.reduceSub, Option.some.injEq, V.int.injEq, V.bl.injEq, V.ref.injEq, V.str.injEq, List.cons.injEq, and_true, true_and, and_false, false_and, exists_eq_left, exists_eq_left', exists_and_left, exists_and_right, exists_eq, exists_eq', LL.if_dec, reduceCtorEq, exists_false, exists_const, or_false, false_or, if_true, if_false, LL.rInt1, LL.rMx, LL.rMn, and_assoc, Int.reduceNeg, Int.reduceLT, Int.reduceLE, Int.reduceMul, Int.reduceAdd, Int.reduceSub, Int.reducePow, Int.reduceToNat, Nat.reducePow, Nat.reduceLT, true_or, or_true, Bool.not_true, Bool.not_false, Bool.false_eq_true, Bool.or_false, Bool.or_true, Bool.true_or, Bool.false_or, decide_true, decide_false, not_true_eq_false, not_false_eq_true, LL.scal_int, LL.scal_bl, LL.scal_str, LL.isInt, LL.isBl, LL.isStr, LL.isLst, LL.isTup, LL.isDic, tDNotIn, tDGet]
          have ev : ∀ (q : Addr) (zz : V), H' q = some (.dK [(Sum.inr "a", zz)]) → DGet H' q (.str "a") (some zz) := fun q zz e => by
            have g := DGet.k (k := Sum.inr "a") e
            have e2 : valV [((Sum.inr "a" : Key), zz)] (Sum.inr "a") = some zz := by simp [valV]
            rw [e2] at g
            exact g
          refine ⟨_, ev _ _ (s1 _ _ ep), ?_⟩
          simp only [tSeq, tAsg, tRet, tRetN, tDrop, tNext, tVar, tC, gName, tOp, tUn, rI, rI0, rU, tIfS, tTest, tB, tIf, tAnd, tOr, tNot, tAndV, tOrV, tNotV, tCall, tCons, tNil, tCB, tLst, tTup, tChain, CMul, CDiv, CPow, rEq, rNe, gSub, L2.start, LL.cxK0, LL.cxK1, List.map_cons, List.map_nil, List.length_cons, List.length_nil, List.replicate_succ, List.replicate_zero, List.cons_append, List.nil_append, List.append_nil, List.getElem?_cons_zero, List.getElem?_cons_succ, List.set_cons_zero, List.set_cons_succ, Nat.add_sub_cancel, Nat.reduceAdd, Nat.reduceSub, Option.some.injEq, V.int.injEq, V.bl.injEq, V.ref.injEq, V.str.injEq, List.cons.injEq, and_true, true_and, and_false, false_and, exists_eq_left, exists_eq_left', exists_and_left, exists_and_right, exists_eq, exists_eq', LL.if_dec, reduceCtorEq, exists_false, exists_const, or_false, false_or, if_true, if_false, LL.rInt1, LL.rMx, LL.rMn, and_assoc, Int.reduceNeg, Int.reduceLT, Int.reduceLE, Int.reduceMul, Int.reduceAdd, Int.reduceSub, Int.reducePow, Int.reduceToNat, Nat.reducePow, Nat.reduceLT, true_or, or_true, Bool.not_true, Bool.not_false, Bool.false_eq_true, Bool.or_false, Bool.or_true, Bool.true_or, Bool.false_or, decide_true, decide_false, not_true_eq_false, not_false_eq_true, LL.scal_int, LL.scal_bl, LL.scal_str, LL.isInt, LL.isBl, LL.isStr, LL.isLst, LL.isTup, LL.isDic, Option.isSome_some]
          refine ⟨_, ev _ _ (s1 _ _ ep), ?_⟩
          refine ⟨_, ev _ _ (s1 _ _ ep2), ?_⟩
          refine use_same (hz.same s1) (hz2.same s1) (by simp only [dep] at hn; omega) fun H2 s2 => ?_
          simp only [tSeq, tAsg, tRet, tRetN, tDrop, tNext, tVar, tC, gName, tOp, tUn, rI, rI0, rU, tIfS, tTest, tB, tIf, tAnd, tOr, tNot, tAndV, tOrV, tNotV, tCall, tCons, tNil, tCB, tLst, tTup, tChain, CMul, CDiv, CPow, rEq, rNe, gSub, L2.start, LL.cxK0, LL.cxK1, List.map_cons, List.map_nil, List.length_cons, List.length_nil, List.replicate_succ, List.replicate_zero, List.cons_append, List.nil_append, List.append_nil, List.getElem?_cons_zero, List.getElem?_cons_succ, List.set_cons_zero, List.set_cons_succ, Nat.add_sub_cancel, Nat.reduceAdd, Nat.reduceSub, Option.some.injEq, V.int.injEq, V.bl.injEq, V.ref.injEq, V.str.injEq, List.cons.injEq, and_true, true_and, and_false, false_and, exists_eq_left, exists_eq_left', exists_and_left, exists_and_right, exists_eq, exists_eq', LL.if_dec, reduceCtorEq, exists_false, exists_const, or_false, false_or, if_true, if_false, LL.rInt1, LL.rMx, LL.rMn, and_assoc, Int.reduceNeg, Int.reduceLT, Int.reduceLE, Int.reduceMul, Int.reduceAdd, Int.reduceSub, Int.reducePow, Int.reduceToNat, Nat.reducePow, Nat.reduceLT, true_or, or_true, Bool.not_true, Bool.not_false, Bool.false_eq_true, Bool.or_false, Bool.or_true, Bool.true_or, Bool.false_or, decide_true, decide_false, not_true_eq_false, not_false_eq_true, LL.scal_int, LL.scal_bl, LL.scal_str, LL.isInt, LL.isBl, LL.isStr, LL.isLst, LL.isTup, LL.isDic]
          exact ⟨s1.trans s2, s2 _ _ e1⟩
        · rintro a xs σ' H' ⟨s1, e1, rfl, z3, z4, rfl⟩
          simp only [tSeq, tAsg, tRet, tRetN, tDrop, tNext, tVar, tC, gName, tOp, tUn, rI, rI0, rU, tIfS, tTest, tB, tIf, tAnd, tOr, tNot, tAndV, tOrV, tNotV, tCall, tCons, tNil, tCB, tLst, tTup, tChain, CMul, CDiv, CPow, rEq, rNe, gSub, L2.start, LL.cxK0, LL.cxK1, List.map_cons, List.map_nil, List.length_cons, List.length_nil, List.replicate_succ, List.replicate_zero, List.cons_append, List.nil_append, List.append_nil, List.getElem?_cons_zero, List.getElem?_cons_succ, List.set_cons_zero, List.set_cons_succ, Nat.add_sub_cancel, Nat.reduceAdd, Nat.reduceSub, Option.some.injEq, V.int.injEq, V.bl.injEq, V.ref.injEq, V.str.injEq, List.cons.injEq, and_true, true_and, and_false, false_and, exists_eq_left, exists_eq_left', exists_and_left, exists_and_right, exists_eq, exists_eq', LL.if_dec, reduceCtorEq, exists_false, exists_const, or_false, false_or, if_true, if_false, LL.rInt1, LL.rMx, LL.rMn, and_assoc, Int.reduceNeg, Int.reduceLT, Int.reduceLE, Int.reduceMul, Int.reduceAdd, Int.reduceSub, Int.reducePow, Int.reduceToNat, Nat.reducePow, Nat.reduceLT, true_or, or_true, Bool.not_true, Bool.not_false, Bool.false_eq_true, Bool.or_false, Bool.or_true, Bool.true_or, Bool.false_or, decide_true, decide_false, not_true_eq_false, not_false_eq_true, LL.scal_int, LL.scal_bl, LL.scal_str, LL.isInt, LL.isBl, LL.isStr, LL.isLst, LL.isTup, LL.isDic]
          exact q _ s1
/-- the same data, made anew -/
def sp_law_copy (n : Nat) : Sp := fun vs H Q _ => ∃ (F : Addr → Prop) (v : V) (t : LL.T), vs = [v] ∧ Dt F H v t ∧ dep t < n ∧ ∀ r H', Same H H' → Dt (fun a => H a = none) H' r t → Q r H'
theorem use_copy {n : Nat} {F : Addr → Prop} {v : V} {t : LL.T} {H : Hp} {Q : VK} {E : XK} (h1 : Dt F H v t) (hn : dep t < n) (q : ∀ r H', Same H H' → Dt (fun a => H a = none) H' r t → Q r H') : sp_law_copy n [v] H Q E := ⟨F, v, t, rfl, h1, hn, q⟩

theorem ok_law_copy (T : Tx K mg) : ∀ n : Nat, FnOk P w K mg base CX0 (n + 1) (He.ga K "_law_copy") T.fd_law_copy P_law_copy (sp_law_copy n) := by
  intro n
  induction n with
  | zero => exact ⟨fun vs H Q E h => by obtain ⟨_, _, _, _, _, h, _⟩ := h; exact absurd h (Nat.not_lt_zero _), fun A outer s H args us vs Q E hr he hb hv h => by obtain ⟨_, _, _, _, _, h, _⟩ := h; exact absurd h (Nat.not_lt_zero _)⟩
  | succ n ih =>
    refine T.F_law_copy.ok sc_law_copy (fun vs H Q E h => ?_) (fun cdv A outer s H vs Q E hr h => ⟨_, PSs.nox (pss_cons (ps_if (pt_val (pe_callB call_isi (by rfl) T.z_isinstance (by decide +kernel) (pa_cons (pv 0) (pa_cons (pe_bltn (v := .ty "list") (u := .type "list") (by rfl) T.z_list (by decide +kernel) rfl) pa_nil)))) (pss_one (ps_ret (pe_lc (own := [("_law_one", 3)]) (by rfl) sc_law_copy.nd (pi_list (pv 0)) (blkOk_by (N := N_law_copy) (sc := defScope s_law_copy) (by decide +kernel)) (fun _ _ _ _ _ => (pg_name (i := 3) sc_law_copy.nd rfl (Or.inl rfl))) (fun _ _ _ _ _ => pts_nil) (fun _ _ _ _ _ => (pe_call ih hr rfl T.g_law_copy T.F_law_copy.kp (b_law_copy T) .nil pass0 (pa_cons (pv 3) pa_nil)))))) pss_nil) (pss_cons (ps_if (pt_val (pe_callB call_isi (by rfl) T.z_isinstance (by decide +kernel) (pa_cons (pv 0) (pa_cons (pe_bltn (v := .ty "tuple") (u := .type "tuple") (by rfl) T.z_tuple (by decide +kernel) rfl) pa_nil)))) (pss_one (ps_ret (pe_callTy LL.call_tupL (by rfl) T.z_tuple (by decide +kernel) (pa_cons (pe_lc (own := [("_law_one", 3)]) (by rfl) sc_law_copy.nd (pi_tup (pv 0)) (blkOk_by (N := N_law_copy) (sc := defScope s_law_copy) (by decide +kernel)) (fun _ _ _ _ _ => (pg_name (i := 3) sc_law_copy.nd rfl (Or.inl rfl))) (fun _ _ _ _ _ => pts_nil) (fun _ _ _ _ _ => (pe_call ih hr rfl T.g_law_copy T.F_law_copy.kp (b_law_copy T) .nil pass0 (pa_cons (pv 3) pa_nil)))) pa_nil)))) pss_nil) (pss_cons (ps_if (pt_val (pe_callB call_isi (by rfl) T.z_isinstance (by decide +kernel) (pa_cons (pv 0) (pa_cons (pe_bltn (v := .ty "dict") (u := .type "dict") (by rfl) T.z_dict (by decide +kernel) rfl) pa_nil)))) (pss_cons (ps_set (i := 1) sc_law_copy.nd rfl (Or.inl rfl) (pe_dnewK)) (pss_cons (ps_for PassesOwn.never rfl (pi_list (pe_callTy (LL.call_lstD rfl) (by rfl) T.z_list (by decide +kernel) (pa_cons (pv 0) pa_nil))) (pg_name (i := 2) sc_law_copy.nd rfl (Or.inl rfl)) (pss_one (ps_dput (hu_of hr) (pv 1) (pv 2) (pe_call ih hr rfl T.g_law_copy T.F_law_copy.kp (b_law_copy T) .nil pass0 (pa_cons (pe_dget (hu_of hr) (pv 0) (pv 2) (fun _ _ => rfl)) pa_nil)) rfl))) (pss_one (ps_ret (pv 1))))) pss_nil) (pss_one (ps_ret (pv 0)))))), ?_⟩)
    · obtain ⟨_, _, _, rfl, _⟩ := h
      rfl
    · obtain ⟨F, v, t, rfl, h1, hn, q⟩ := h
      cases t with
      | non =>
        obtain rfl : v = .non := h1
        have h1 : Dt F H .non .non := rfl
        simp only [tSeq, tAsg, tRet, tRetN, tDrop, tNext, tVar, tC, gName, tOp, tUn, rI, rI0, rU, tIfS, tTest, tB, tIf, tAnd, tOr, tNot, tAndV, tOrV, tNotV, tCall, tCons, tNil, tCB, tLst, tTup, tChain, CMul, CDiv, CPow, rEq, rNe, gSub, L2.start, LL.cxK0, LL.cxK1, List.map_cons, List.map_nil, List.length_cons, List.length_nil, List.replicate_succ, List.replicate_zero, List.cons_append, List.nil_append, List.append_nil, List.getElem?_cons_zero, List.getElem?_cons_succ, List.set_cons_zero, List.set_cons_succ, Nat.add_sub_cancel, Nat.reduceAdd, Nat.reduceSub, Option.some.injEq, V.int.injEq, V.bl.injEq, V.ref.injEq, V.str.injEq, List.cons.injEq, and_true, true_and, and_false, false_and, exists_eq_left, exists_eq_left', exists_and_left, exists_and_right, exists_eq, exists_eq', LL.if_dec, reduceCtorEq, exists_false, exists_const, or_false, false_or, if_true, if_false, LL.rInt1, LL.rMx, LL.rMn, and_assoc, Int.reduceNeg, Int.reduceLT, Int.reduceLE, Int.reduceMul, Int.reduceAdd, Int.reduceSub, Int.reducePow, Int.reduceToNat, Nat.reducePow, Nat.reduceLT, true_or, or_true, Bool.not_true, Bool.not_false, Bool.false_eq_true, Bool.or_false, Bool.or_true, Bool.true_or, Bool.false_or, decide_true, decide_false, not_true_eq_false, not_false_eq_true, LL.scal_int, LL.scal_bl, LL.scal_str, LL.isInt, LL.isBl, LL.isStr, LL.isLst, LL.isTup, LL.isDic, N_law_copy]
        repeat (first | refine use_isi h1 (kit_int _) ?_ | refine use_isi h1 (kit_bool _) ?_ | refine use_isi h1 (kit_str _) ?_ | refine use_isi h1 (kit_list _) ?_ | refine use_isi h1 (kit_tuple _) ?_ | refine use_isi h1 (kit_dict _) ?_ | refine And.intro (show scal _ _ = true from rfl) ?_ | simp only [tSeq, tAsg, tRet, tRetN, tDrop, tNext, tVar, tC, gName, tOp, tUn, rI, rI0, rU, tIfS, tTest, tB, tIf, tAnd, tOr, tNot, tAndV, tOrV, tNotV, tCall, tCons, tNil, tCB, tLst, tTup, tChain, CMul, CDiv, CPow, rEq, rNe, gSub, L2.start, LL.cxK0, LL.cxK1, List.map_cons, List.map_nil, List.length_cons, List.length_nil, List.replicate_succ, List.replicate_zero, List.cons_append, List.nil_append, List.append_nil, List.getElem?_cons_zero, List.getElem?_cons_succ, List.set_cons_zero, List.set_cons_succ, Nat.add_sub_cancel, Nat.reduceAdd, Nat.reduceSub, Option.some.injEq, V.int.injEq, V.bl.injEq, V.ref.injEq, V.str.injEq, List.cons.injEq, and_true, true_and, and_false, false_and, exists_eq_left, exists_eq_left', exists_and_left, exists_and_right, exists_eq, exists_eq', LL.if_dec, reduceCtorEq, exists_false, exists_const, or_false, false_or, if_true, if_false, LL.rInt1, LL.rMx, LL.rMn, and_assoc, Int.reduceNeg, Int.reduceLT, Int.reduceLE, Int.reduceMul, Int.reduceAdd, Int.reduceSub, Int.reducePow, Int.reduceToNat, Nat.reducePow, Nat.reduceLT, true_or, or_true, Bool.not_true, Bool.not_false, Bool.false_eq_true, Bool.or_false, Bool.or_true, Bool.true_or, Bool.false_or, decide_true, decide_false, not_true_eq_false, not_false_eq_true, LL.scal_int, LL.scal_bl, LL.scal_str, LL.isInt, LL.isBl, LL.isStr, LL.isLst, LL.isTup, LL.isDic])
        exact q _ _ (Same.refl _) rfl
      | bl b =>
        obtain rfl : v = .bl b := h1
        have h1 : Dt F H (.bl b) (.bl b) := rfl
        simp only [tSeq, tAsg, tRet, tRetN, tDrop, tNext, tVar, tC, gName, tOp, tUn, rI, rI0, rU, tIfS, tTest, tB, tIf, tAnd, tOr, tNot, tAndV, tOrV, tNotV, tCall, tCons, tNil, tCB, tLst, tTup, tChain, CMul, CDiv, CPow, rEq, rNe, gSub, L2.start, LL.cxK0, LL.cxK1, List.map_cons, List.map_nil, List.length_cons, List.length_nil, List.replicate_succ, List.replicate_zero, List.cons_append, List.nil_append, List.append_nil, List.getElem?_cons_zero, List.getElem?_cons_succ, List.set_cons_zero, List.set_cons_succ, Nat.add_sub_cancel, Nat.reduceAdd, Nat.reduceSub, Option.some.injEq, V.int.injEq, V.bl.injEq, V.ref.injEq, V.str.injEq, List.cons.injEq, and_true, true_and, and_false, false_and, exists_eq_left, exists_eq_left', exists_and_left, exists_and_right, exists_eq, exists_eq', LL.if_dec, reduceCtorEq, exists_false, exists_const, or_false, false_or, if_true, if_false, LL.rInt1, LL.rMx, LL.rMn, and_assoc, Int.reduceNeg, Int.reduceLT, Int.reduceLE, Int.reduceMul, Int.reduceAdd, Int.reduceSub, Int.reducePow, Int.reduceToNat, Nat.reducePow, Nat.reduceLT, true_or, or_true, Bool.not_true, Bool.not_false, Bool.false_eq_true, Bool.or_false, Bool.or_true, Bool.true_or, Bool.false_or, decide_true, decide_false, not_true_eq_false, not_false_eq_true, LL.scal_int, LL.scal_bl, LL.scal_str, LL.isInt, LL.isBl, LL.isStr, LL.isLst, LL.isTup, LL.isDic, N_law_copy]
        repeat (first | refine use_isi h1 (kit_int _) ?_ | refine use_isi h1 (kit_bool _) ?_ | refine use_isi h1 (kit_str _) ?_ | refine use_isi h1 (kit_list _) ?_ | refine use_isi h1 (kit_tuple _) ?_ | refine use_isi h1 (kit_dict _) ?_ | refine And.intro (show scal _ _ = true from rfl) ?_ | simp only [tSeq, tAsg, tRet, tRetN, tDrop, tNext, tVar, tC, gName, tOp, tUn, rI, rI0, rU, tIfS, tTest, tB, tIf, tAnd, tOr, tNot, tAndV, tOrV, tNotV, tCall, tCons, tNil, tCB, tLst, tTup, tChain, CMul, CDiv, CPow, rEq, rNe, gSub, L2.start, LL.cxK0, LL.cxK1, List.map_cons, List.map_nil, List.length_cons, List.length_nil, List.replicate_succ, List.replicate_zero, List.cons_append, List.nil_append, List.append_nil, List.getElem?_cons_zero, List.getElem?_cons_succ, List.set_cons_zero, List.set_cons_succ, Nat.add_sub_cancel, Nat.reduceAdd, Nat.reduceSub, Option.some.injEq, V.int.injEq, V.bl.injEq, V.ref.injEq, V.str.injEq, List.cons.injEq, and_true, true_and, and_false, false_and, exists_eq_left, exists_eq_left', exists_and_left, exists_and_right, exists_eq, exists_eq', LL.if_dec, reduceCtorEq, exists_false, exists_const, or_false, false_or, if_true, if_false, LL.rInt1, LL.rMx, LL.rMn, and_assoc, Int.reduceNeg, Int.reduceLT, Int.reduceLE, Int.reduceMul, Int.reduceAdd, Int.reduceSub, Int.reducePow, Int.reduceToNat, Nat.reducePow, Nat.reduceLT, true_or, or_true, Bool.not_true, Bool.not_false, Bool.false_eq_true, Bool.or_false, Bool.or_true, Bool.true_or, Bool.false_or, decide_true, decide_false, not_true_eq_false, not_false_eq_true, LL.scal_int, LL.scal_bl, LL.scal_str, LL.isInt, LL.isBl, LL.isStr, LL.isLst, LL.isTup, LL.isDic])
        exact q _ _ (Same.refl _) rfl
      | int i =>
        obtain rfl : v = .int i := h1
        have h1 : Dt F H (.int i) (.int i) := rfl
        simp only [tSeq, tAsg, tRet, tRetN, tDrop, tNext, tVar, tC, gName, tOp, tUn, rI, rI0, rU, tIfS, tTest, tB, tIf, tAnd, tOr, tNot, tAndV, tOrV, tNotV, tCall, tCons, tNil, tCB, tLst, tTup, tChain, CMul, CDiv, CPow, rEq, rNe, gSub, L2.start, LL.cxK0, LL.cxK1, List.map_cons, List.map_nil, List.length_cons, List.length_nil, List.replicate_succ, List.replicate_zero, List.cons_append, List.nil_append, List.append_nil, List.getElem?_cons_zero, List.getElem?_cons_succ, List.set_cons_zero, List.set_cons_succ, Nat.add_sub_cancel, Nat.reduceAdd, Nat.reduceSub, Option.some.injEq, V.int.injEq, V.bl.injEq, V.ref.injEq, V.str.injEq, List.cons.injEq, and_true, true_and, and_false, false_and, exists_eq_left, exists_eq_left', exists_and_left, exists_and_right, exists_eq, exists_eq', LL.if_dec, reduceCtorEq, exists_false, exists_const, or_false, false_or, if_true, if_false, LL.rInt1, LL.rMx, LL.rMn, and_assoc, Int.reduceNeg, Int.reduceLT, Int.reduceLE, Int.reduceMul, Int.reduceAdd, Int.reduceSub, Int.reducePow, Int.reduceToNat, Nat.reducePow, Nat.reduceLT, true_or, or_true, Bool.not_true, Bool.not_false, Bool.false_eq_true, Bool.or_false, Bool.or_true, Bool.true_or, Bool.false_or, decide_true, decide_false, not_true_eq_false, not_false_eq_true, LL.scal_int, LL.scal_bl, LL.scal_str, LL.isInt, LL.isBl, LL.isStr, LL.isLst, LL.isTup, LL.isDic, N_law_copy]
        repeat (first | refine use_isi h1 (kit_int _) ?_ | refine use_isi h1 (kit_bool _) ?_ | refine use_isi h1 (kit_str _) ?_ | refine use_isi h1 (kit_list _) ?_ | refine use_isi h1 (kit_tuple _) ?_ | refine use_isi h1 (kit_dict _) ?_ | refine And.intro (show scal _ _ = true from rfl) ?_ | simp only [tSeq, tAsg, tRet, tRetN, tDrop, tNext, tVar, tC, gName, tOp, tUn, rI, rI0, rU, tIfS, tTest, tB, tIf, tAnd, tOr, tNot, tAndV, tOrV, tNotV, tCall, tCons, tNil, tCB, tLst, tTup, tChain, CMul, CDiv, CPow, rEq, rNe, gSub, L2.start, LL.cxK0, LL.cxK1, List.map_cons, List.map_nil, List.length_cons, List.length_nil, List.replicate_succ, List.replicate_zero, List.cons_append, List.nil_append, List.append_nil, List.getElem?_cons_zero, List.getElem?_cons_succ, List.set_cons_zero, List.set_cons_succ, Nat.add_sub_cancel, Nat.reduceAdd, Nat.reduceSub, Option.some.injEq, V.int.injEq, V.bl.injEq, V.ref.injEq, V.str.injEq, List.cons.injEq, and_true, true_and, and_false, false_and, exists_eq_left, exists_eq_left', exists_and_left, exists_and_right, exists_eq, exists_eq', LL.if_dec, reduceCtorEq, exists_false, exists_const, or_false, false_or, if_true, if_false, LL.rInt1, LL.rMx, LL.rMn, and_assoc, Int.reduceNeg, Int.reduceLT, Int.reduceLE, Int.reduceMul, Int.reduceAdd, Int.reduceSub, Int.reducePow, Int.reduceToNat, Nat.reducePow, Nat.reduceLT, true_or, or_true, Bool.not_true, Bool.not_false, Bool.false_eq_true, Bool.or_false, Bool.or_true, Bool.true_or, Bool.false_or, decide_true, decide_false, not_true_eq_false, not_false_eq_true, LL.scal_int, LL.scal_bl, LL.scal_str, LL.isInt, LL.isBl, LL.isStr, LL.isLst, LL.isTup, LL.isDic])
        exact q _ _ (Same.refl _) rfl
      | str z =>
        obtain rfl : v = .str z := h1
        have h1 : Dt F H (.str z) (.str z) := rfl
        simp only [tSeq, tAsg, tRet, tRetN, tDrop, tNext, tVar, tC, gName, tOp, tUn, rI, rI0, rU, tIfS, tTest, tB, tIf, tAnd, tOr, tNot, tAndV, tOrV, tNotV, tCall, tCons, tNil, tCB, tLst, tTup, tChain, CMul, CDiv, CPow, rEq, rNe, gSub, L2.start, LL.cxK0, LL.cxK1, List.map_cons, List.map_nil, List.length_cons, List.length_nil, List.replicate_succ, List.replicate_zero, List.cons_append, List.nil_append, List.append_nil, List.getElem?_cons_zero, List.getElem?_cons_succ, List.set_cons_zero, List.set_cons_succ, Nat.add_sub_cancel, Nat.reduceAdd, Nat.reduceSub, Option.some.injEq, V.int.injEq, V.bl.injEq, V.ref.injEq, V.str.injEq, List.cons.injEq, and_true, true_and, and_false, false_and, exists_eq_left, exists_eq_left', exists_and_left, exists_and_right, exists_eq, exists_eq', LL.if_dec, reduceCtorEq, exists_false, exists_const, or_false, false_or, if_true, if_false, LL.rInt1, LL.rMx, LL.rMn, and_assoc, Int.reduceNeg, Int.reduceLT, Int.reduceLE, Int.reduceMul, Int.reduceAdd, Int.reduceSub, Int.reducePow, Int.reduceToNat, Nat.reducePow, Nat.reduceLT, true_or, or_true, Bool.not_true, Bool.not_false, Bool.false_eq_true, Bool.or_false, Bool.or_true, Bool.true_or, Bool.false_or, decide_true, decide_false, not_true_eq_false, not_false_eq_true, LL.scal_int, LL.scal_bl, LL.scal_str, LL.isInt, LL.isBl, LL.isStr, LL.isLst, LL.isTup, LL.isDic, N_law_copy]
        repeat (first | refine use_isi h1 (kit_int _) ?_ | refine use_isi h1 (kit_bool _) ?_ | refine use_isi h1 (kit_str _) ?_ | refine use_isi h1 (kit_list _) ?_ | refine use_isi h1 (kit_tuple _) ?_ | refine use_isi h1 (kit_dict _) ?_ | refine And.intro (show scal _ _ = true from rfl) ?_ | simp only [tSeq, tAsg, tRet, tRetN, tDrop, tNext, tVar, tC, gName, tOp, tUn, rI, rI0, rU, tIfS, tTest, tB, tIf, tAnd, tOr, tNot, tAndV, tOrV, tNotV, tCall, tCons, tNil, tCB, tLst, tTup, tChain, CMul, CDiv, CPow, rEq, rNe, gSub, L2.start, LL.cxK0, LL.cxK1, List.map_cons, List.map_nil, List.length_cons, List.length_nil, List.replicate_succ, List.replicate_zero, List.cons_append, List.nil_append, List.append_nil, List.getElem?_cons_zero, List.getElem?_cons_succ, List.set_cons_zero, List.set_cons_succ, Nat.add_sub_cancel, Nat.reduceAdd, Nat.reduceSub, Option.some.injEq, V.int.injEq, V.bl.injEq, V.ref.injEq, V.str.injEq, List.cons.injEq, and_true, true_and, and_false, false_and, exists_eq_left, exists_eq_left', exists_and_left, exists_and_right, exists_eq, exists_eq', LL.if_dec, reduceCtorEq, exists_false, exists_const, or_false, false_or, if_true, if_false, LL.rInt1, LL.rMx, LL.rMn, and_assoc, Int.reduceNeg, Int.reduceLT, Int.reduceLE, Int.reduceMul, Int.reduceAdd, Int.reduceSub, Int.reducePow, Int.reduceToNat, Nat.reducePow, Nat.reduceLT, true_or, or_true, Bool.not_true, Bool.not_false, Bool.false_eq_true, Bool.or_false, Bool.or_true, Bool.true_or, Bool.false_or, decide_true, decide_false, not_true_eq_false, not_false_eq_true, LL.scal_int, LL.scal_bl, LL.scal_str, LL.isInt, LL.isBl, LL.isStr, LL.isLst, LL.isTup, LL.isDic])
        exact q _ _ (Same.refl _) rfl
      | lst ts =>
        obtain ⟨p, xs, rfl, fp, ep, hx, hz⟩ := _root_.id h1
        simp only [tSeq, tAsg, tRet, tRetN, tDrop, tNext, tVar, tC, gName, tOp, tUn, rI, rI0, rU, tIfS, tTest, tB, tIf, tAnd, tOr, tNot, tAndV, tOrV, tNotV, tCall, tCons, tNil, tCB, tLst, tTup, tChain, CMul, CDiv, CPow, rEq, rNe, gSub, L2.start, LL.cxK0, LL.cxK1, List.map_cons, List.map_nil, List.length_cons, List.length_nil, List.replicate_succ, List.replicate_zero, List.cons_append, List.nil_append, List.append_nil, List.getElem?_cons_zero, List.getElem?_cons_succ, List.set_cons_zero, List.set_cons_succ, Nat.add_sub_cancel, Nat.reduceAdd, Nat.reduceSub, Option.some.injEq, V.int.injEq, V.bl.injEq, V.ref.injEq, V.str.injEq, List.cons.injEq, and_true, true_and, and_false, false_and, exists_eq_left, exists_eq_left', exists_and_left, exists_and_right, exists_eq, exists_eq', LL.if_dec, reduceCtorEq, exists_false, exists_const, or_false, false_or, if_true, if_false, LL.rInt1, LL.rMx, LL.rMn, and_assoc, Int.reduceNeg, Int.reduceLT, Int.reduceLE, Int.reduceMul, Int.reduceAdd, Int.reduceSub, Int.reducePow, Int.reduceToNat, Nat.reducePow, Nat.reduceLT, true_or, or_true, Bool.not_true, Bool.not_false, Bool.false_eq_true, Bool.or_false, Bool.or_true, Bool.true_or, Bool.false_or, decide_true, decide_false, not_true_eq_false, not_false_eq_true, LL.scal_int, LL.scal_bl, LL.scal_str, LL.isInt, LL.isBl, LL.isStr, LL.isLst, LL.isTup, LL.isDic, N_law_copy]
        repeat (first | refine use_isi h1 (kit_int _) ?_ | refine use_isi h1 (kit_bool _) ?_ | refine use_isi h1 (kit_str _) ?_ | refine use_isi h1 (kit_list _) ?_ | refine use_isi h1 (kit_tuple _) ?_ | refine use_isi h1 (kit_dict _) ?_ | refine And.intro (show scal _ _ = true from rfl) ?_ | simp only [tSeq, tAsg, tRet, tRetN, tDrop, tNext, tVar, tC, gName, tOp, tUn, rI, rI0, rU, tIfS, tTest, tB, tIf, tAnd, tOr, tNot, tAndV, tOrV, tNotV, tCall, tCons, tNil, tCB, tLst, tTup, tChain, CMul, CDiv, CPow, rEq, rNe, gSub, L2.start, LL.cxK0, LL.cxK1, List.map_cons, List.map_nil, List.length_cons, List.length_nil, List.replicate_succ, List.replicate_zero, List.cons_append, List.nil_append, List.append_nil, List.getElem?_cons_zero, List.getElem?_cons_succ, List.set_cons_zero, List.set_cons_succ, Nat.add_sub_cancel, Nat.reduceAdd, Nat.reduceSub, Option.some.injEq, V.int.injEq, V.bl.injEq, V.ref.injEq, V.str.injEq, List.cons.injEq, and_true, true_and, and_false, false_and, exists_eq_left, exists_eq_left', exists_and_left, exists_and_right, exists_eq, exists_eq', LL.if_dec, reduceCtorEq, exists_false, exists_const, or_false, false_or, if_true, if_false, LL.rInt1, LL.rMx, LL.rMn, and_assoc, Int.reduceNeg, Int.reduceLT, Int.reduceLE, Int.reduceMul, Int.reduceAdd, Int.reduceSub, Int.reducePow, Int.reduceToNat, Nat.reducePow, Nat.reduceLT, true_or, or_true, Bool.not_true, Bool.not_false, Bool.false_eq_true, Bool.or_false, Bool.or_true, Bool.true_or, Bool.false_or, decide_true, decide_false, not_true_eq_false, not_false_eq_true, LL.scal_int, LL.scal_bl, LL.scal_str, LL.isInt, LL.isBl, LL.isStr, LL.isLst, LL.isTup, LL.isDic])
        refine ⟨_, rfl, p, rfl, ⟨xs, SqL.of ep⟩, fun D hD => ?_⟩
        refine lc_list (K := K) (a := p) (xs := xs) (fun i H' => Same H H' ∧ ∃ acc, H' D = some (.lst acc) ∧ DtL (fun a => H a = none ∧ a ≠ D) H' acc (ts.take i)) ⟨Same.new (Same.refl _) hD, [], upd_same, rfl⟩ (fun i H' _ ⟨s1, _⟩ => SqL.of (s1 _ _ ep)) ?_ ?_
        · rintro i x H' hi ⟨s1, acc, eD, hacc⟩
          obtain ⟨t, et, dt⟩ := hx.get _ hi
          simp only [tSeq, tAsg, tRet, tRetN, tDrop, tNext, tVar, tC, gName, tOp, tUn, rI, rI0, rU, tIfS, tTest, tB, tIf, tAnd, tOr, tNot, tAndV, tOrV, tNotV, tCall, tCons, tNil, tCB, tLst, tTup, tChain, CMul, CDiv, CPow, rEq, rNe, gSub, L2.start, LL.cxK0, LL.cxK1, List.map_cons, List.map_nil, List.length_cons, List.length_nil, List.replicate_succ, List.replicate_zero, List.cons_append, List.nil_append, List.append_nil, List.getElem?_cons_zero, List.getElem?_cons_succ, List.set_cons_zero, List.set_cons_succ, Nat.add_sub_cancel, Nat.reduceAdd, Nat.reduceSub, Option.some.injEq, V.int.injEq, V.bl.injEq, V.ref.injEq, V.str.injEq, List.cons.injEq, and_true, true_and, and_false, false_and, exists_eq_left, exists_eq_left', exists_and_left, exists_and_right, exists_eq, exists_eq', LL.if_dec, reduceCtorEq, exists_false, exists_const, or_false, false_or, if_true, if_false, LL.rInt1, LL.rMx, LL.rMn, and_assoc, Int.reduceNeg, Int.reduceLT, Int.reduceLE, Int.reduceMul, Int.reduceAdd, Int.reduceSub, Int.reducePow, Int.reduceToNat, Nat.reducePow, Nat.reduceLT, true_or, or_true, Bool.not_true, Bool.not_false, Bool.false_eq_true, Bool.or_false, Bool.or_true, Bool.true_or, Bool.false_or, decide_true, decide_false, not_true_eq_false, not_false_eq_true, LL.scal_int, LL.scal_bl, LL.scal_str, LL.isInt, LL.isBl, LL.isStr, LL.isLst, LL.isTup, LL.isDic, tYes, wipe, List.foldl_cons, List.foldl_nil]
          refine use_copy (dt.same s1) (by have := depL_mem et; simp only [dep] at hn; omega) fun r H4 s4 dr => ?_
          have ha : acc.length ≤ 100000 := by rw [hacc.len, List.length_take]; omega
          obtain ⟨g1, g2⟩ := grow hD s1 s4 hacc (new_of s1 eD) dr
          exact ⟨acc, s4 _ _ eD, small_sz (by omega), g1, _, upd_same, by rw [take_one et]; exact g2⟩
        · rintro H' ⟨s1, acc, eD, hacc⟩
          rw [hx.len, List.take_length] at hacc
          exact q _ _ s1 ⟨D, acc, rfl, hD, eD, hacc.to (fun a h => h.1), hz⟩
      | tup ts =>
        obtain ⟨p, xs, rfl, fp, ep, hx, hz⟩ := _root_.id h1
        simp only [tSeq, tAsg, tRet, tRetN, tDrop, tNext, tVar, tC, gName, tOp, tUn, rI, rI0, rU, tIfS, tTest, tB, tIf, tAnd, tOr, tNot, tAndV, tOrV, tNotV, tCall, tCons, tNil, tCB, tLst, tTup, tChain, CMul, CDiv, CPow, rEq, rNe, gSub, L2.start, LL.cxK0, LL.cxK1, List.map_cons, List.map_nil, List.length_cons, List.length_nil, List.replicate_succ, List.replicate_zero, List.cons_append, List.nil_append, List.append_nil, List.getElem?_cons_zero, List.getElem?_cons_succ, List.set_cons_zero, List.set_cons_succ, Nat.add_sub_cancel, Nat.reduceAdd, Nat.reduceSub, Option.some.injEq, V.int.injEq, V.bl.injEq, V.ref.injEq, V.str.injEq, List.cons.injEq, and_true, true_and, and_false, false_and, exists_eq_left, exists_eq_left', exists_and_left, exists_and_right, exists_eq, exists_eq', LL.if_dec, reduceCtorEq, exists_false, exists_const, or_false, false_or, if_true, if_false, LL.rInt1, LL.rMx, LL.rMn, and_assoc, Int.reduceNeg, Int.reduceLT, Int.reduceLE, Int.reduceMul, Int.reduceAdd, Int.reduceSub, Int.reducePow, Int.reduceToNat, Nat.reducePow, Nat.reduceLT, true_or, or_true, Bool.not_true, Bool.not_false, Bool.false_eq_true, Bool.or_false, Bool.or_true, Bool.true_or, Bool.false_or, decide_true, decide_false, not_true_eq_false, not_false_eq_true, LL.scal_int, LL.scal_bl, LL.scal_str, LL.isInt, LL.isBl, LL.isStr, LL.isLst, LL.isTup, LL.isDic, N_law_copy]
        repeat (first | refine use_isi h1 (kit_int _) ?_ | refine use_isi h1 (kit_bool _) ?_ | refine use_isi h1 (kit_str _) ?_ | refine use_isi h1 (kit_list _) ?_ | refine use_isi h1 (kit_tuple _) ?_ | refine use_isi h1 (kit_dict _) ?_ | refine And.intro (show scal _ _ = true from rfl) ?_ | simp only [tSeq, tAsg, tRet, tRetN, tDrop, tNext, tVar, tC, gName, tOp, tUn, rI, rI0, rU, tIfS, tTest, tB, tIf, tAnd, tOr, tNot, tAndV, tOrV, tNotV, tCall, tCons, tNil, tCB, tLst, tTup, tChain, CMul, CDiv, CPow, rEq, rNe, gSub, L2.start, LL.cxK0, LL.cxK1, List.map_cons, List.map_nil, List.length_cons, List.length_nil, List.replicate_succ, List.replicate_zero, List.cons_append, List.nil_append, List.append_nil, List.getElem?_cons_zero, List.getElem?_cons_succ, List.set_cons_zero, List.set_cons_succ, Nat.add_sub_cancel, Nat.reduceAdd, Nat.reduceSub, Option.some.injEq, V.int.injEq, V.bl.injEq, V.ref.injEq, V.str.injEq, List.cons.injEq, and_true, true_and, and_false, false_and, exists_eq_left, exists_eq_left', exists_and_left, exists_and_right, exists_eq, exists_eq', LL.if_dec, reduceCtorEq, exists_false, exists_const, or_false, false_or, if_true, if_false, LL.rInt1, LL.rMx, LL.rMn, and_assoc, Int.reduceNeg, Int.reduceLT, Int.reduceLE, Int.reduceMul, Int.reduceAdd, Int.reduceSub, Int.reducePow, Int.reduceToNat, Nat.reducePow, Nat.reduceLT, true_or, or_true, Bool.not_true, Bool.not_false, Bool.false_eq_true, Bool.or_false, Bool.or_true, Bool.true_or, Bool.false_or, decide_true, decide_false, not_true_eq_false, not_false_eq_true, LL.scal_int, LL.scal_bl, LL.scal_str, LL.isInt, LL.isBl, LL.isStr, LL.isLst, LL.isTup, LL.isDic])
        refine ⟨_, rfl, p, rfl, ⟨xs, SqT.of ep⟩, fun D hD => ?_⟩
        refine lc_tup (K := K) (a := p) (xs := xs) (fun i H' => Same H H' ∧ ∃ acc, H' D = some (.lst acc) ∧ DtL (fun a => H a = none ∧ a ≠ D) H' acc (ts.take i)) ⟨Same.new (Same.refl _) hD, [], upd_same, rfl⟩ (fun i H' _ ⟨s1, _⟩ => SqT.of (s1 _ _ ep)) ?_ ?_
        · rintro i x H' hi ⟨s1, acc, eD, hacc⟩
          obtain ⟨t, et, dt⟩ := hx.get _ hi
          simp only [tSeq, tAsg, tRet, tRetN, tDrop, tNext, tVar, tC, gName, tOp, tUn, rI, rI0, rU, tIfS, tTest, tB, tIf, tAnd, tOr, tNot, tAndV, tOrV, tNotV, tCall, tCons, tNil, tCB, tLst, tTup, tChain, CMul, CDiv, CPow, rEq, rNe, gSub, L2.start, LL.cxK0, LL.cxK1, List.map_cons, List.map_nil, List.length_cons, List.length_nil, List.replicate_succ, List.replicate_zero, List.cons_append, List.nil_append, List.append_nil, List.getElem?_cons_zero, List.getElem?_cons_succ, List.set_cons_zero, List.set_cons_succ, Nat.add_sub_cancel, Nat.reduceAdd, Nat.reduceSub, Option.some.injEq, V.int.injEq, V.bl.injEq, V.ref.injEq, V.str.injEq, List.cons.injEq, and_true, true_and, and_false, false_and, exists_eq_left, exists_eq_left', exists_and_left, exists_and_right, exists_eq, exists_eq', LL.if_dec, reduceCtorEq, exists_false, exists_const, or_false, false_or, if_true, if_false, LL.rInt1, LL.rMx, LL.rMn, and_assoc, Int.reduceNeg, Int.reduceLT, Int.reduceLE, Int.reduceMul, Int.reduceAdd, Int.reduceSub, Int.reducePow, Int.reduceToNat, Nat.reducePow, Nat.reduceLT, true_or, or_true, Bool.not_true, Bool.not_false, Bool.false_eq_true, Bool.or_false, Bool.or_true, Bool.true_or, Bool.false_or, decide_true, decide_false, not_true_eq_false, not_false_eq_true, LL.scal_int, LL.scal_bl, LL.scal_str, LL.isInt, LL.isBl, LL.isStr, LL.isLst, LL.isTup, LL.isDic, tYes, wipe, List.foldl_cons, List.foldl_nil]
          refine use_copy (dt.same s1) (by have := depL_mem et; simp only [dep] at hn; omega) fun r H4 s4 dr => ?_
          have ha : acc.length ≤ 100000 := by rw [hacc.len, List.length_take]; omega
          obtain ⟨g1, g2⟩ := grow hD s1 s4 hacc (new_of s1 eD) dr
          exact ⟨acc, s4 _ _ eD, small_sz (by omega), g1, _, upd_same, by rw [take_one et]; exact g2⟩
        · rintro H' ⟨s1, acc, eD, hacc⟩
          rw [hx.len, List.take_length] at hacc
          refine ⟨D, acc, rfl, eD, fun l hl => ?_⟩
          exact q _ _ (Same.new s1 hl) ⟨l, acc, rfl, s1.free hl, upd_same, (DtL.same hacc (Same.new (Same.refl _) hl)).to (fun a h => h.1), hz⟩
      | dic u =>
        obtain ⟨p, z, rfl, fp, ep, hz⟩ := _root_.id h1
        simp only [tSeq, tAsg, tRet, tRetN, tDrop, tNext, tVar, tC, gName, tOp, tUn, rI, rI0, rU, tIfS, tTest, tB, tIf, tAnd, tOr, tNot, tAndV, tOrV, tNotV, tCall, tCons, tNil, tCB, tLst, tTup, tChain, CMul, CDiv, CPow, rEq, rNe, gSub, L2.start, LL.cxK0, LL.cxK1, List.map_cons, List.map_nil, List.length_cons, List.length_nil, List.replicate_succ, List.replicate_zero, List.cons_append, List.nil_append, List.append_nil, List.getElem?_cons_zero, List.getElem?_cons_succ, List.set_cons_zero, List.set_cons_succ, Nat.add_sub_cancel, Nat.reduceAdd, Nat.reduceSub, Option.some.injEq, V.int.injEq, V.bl.injEq, V.ref.injEq, V.str.injEq, List.cons.injEq, and_true, true_and, and_false, false_and, exists_eq_left, exists_eq_left', exists_and_left, exists_and_right, exists_eq, exists_eq', LL.if_dec, reduceCtorEq, exists_false, exists_const, or_false, false_or, if_true, if_false, LL.rInt1, LL.rMx, LL.rMn, and_assoc, Int.reduceNeg, Int.reduceLT, Int.reduceLE, Int.reduceMul, Int.reduceAdd, Int.reduceSub, Int.reducePow, Int.reduceToNat, Nat.reducePow, Nat.reduceLT, true_or, or_true, Bool.not_true, Bool.not_false, Bool.false_eq_true, Bool.or_false, Bool.or_true, Bool.true_or, Bool.false_or, decide_true, decide_false, not_true_eq_false, not_false_eq_true, LL.scal_int, LL.scal_bl, LL.scal_str, LL.isInt, LL.isBl, LL.isStr, LL.isLst, LL.isTup, LL.isDic, N_law_copy]
        repeat (first | refine use_isi h1 (kit_int _) ?_ | refine use_isi h1 (kit_bool _) ?_ | refine use_isi h1 (kit_str _) ?_ | refine use_isi h1 (kit_list _) ?_ | refine use_isi h1 (kit_tuple _) ?_ | refine use_isi h1 (kit_dict _) ?_ | refine And.intro (show scal _ _ = true from rfl) ?_ | simp only [tSeq, tAsg, tRet, tRetN, tDrop, tNext, tVar, tC, gName, tOp, tUn, rI, rI0, rU, tIfS, tTest, tB, tIf, tAnd, tOr, tNot, tAndV, tOrV, tNotV, tCall, tCons, tNil, tCB, tLst, tTup, tChain, CMul, CDiv, CPow, rEq, rNe, gSub, L2.start, LL.cxK0, LL.cxK1, List.map_cons, List.map_nil, List.length_cons, List.length_nil, List.replicate_succ, List.replicate_zero, List.cons_append, List.nil_append, List.append_nil, List.getElem?_cons_zero, List.getElem?_cons_succ, List.set_cons_zero, List.set_cons_succ, Nat.add_sub_cancel, Nat.reduceAdd, Nat.reduceSub, Option.some.injEq, V.int.injEq, V.bl.injEq, V.ref.injEq, V.str.injEq, List.cons.injEq, and_true, true_and, and_false, false_and, exists_eq_left, exists_eq_left', exists_and_left, exists_and_right, exists_eq, exists_eq', LL.if_dec, reduceCtorEq, exists_false, exists_const, or_false, false_or, if_true, if_false, LL.rInt1, LL.rMx, LL.rMn, and_assoc, Int.reduceNeg, Int.reduceLT, Int.reduceLE, Int.reduceMul, Int.reduceAdd, Int.reduceSub, Int.reducePow, Int.reduceToNat, Nat.reducePow, Nat.reduceLT, true_or, or_true, Bool.not_true, Bool.not_false, Bool.false_eq_true, Bool.or_false, Bool.or_true, Bool.true_or, Bool.false_or, decide_true, decide_false, not_true_eq_false, not_false_eq_true, LL.scal_int, LL.scal_bl, LL.scal_str, LL.isInt, LL.isBl, LL.isStr, LL.isLst, LL.isTup, LL.isDic])
        unfold tDNewK
        intro D hD
        have s1 : Same H (upd H D (.dK [])) := Same.new (Same.refl _) hD
        have eD : upd H D (.dK []) D = some (.dK []) := upd_same
        generalize upd H D (.dK []) = H1 at s1 eD ⊢
        refine use_forLX (R := fun a xs H' => Same H H' ∧ H' D = some (.dK []) ∧ H' a = some (.lst xs) ∧ a ≠ D ∧ H a = none ∧ xs = [.str "a"]) (fun Q hQ => ⟨_, rfl, _, _, rfl, s1 _ _ ep, ?_⟩)
          (fun a xs i σ' H' => Same H H' ∧ a ≠ D ∧ H' a = some (.lst xs) ∧ xs = [.str "a"] ∧ (∃ z1 z2 : Option V, σ' = [some (.ref p), some (.ref D), z1, z2]) ∧ (i = 0 → H' D = some (.dK [])) ∧ (i = 1 → ∃ x, H' D = some (.dK [(Sum.inr "a", x)]) ∧ Dt (fun a => H a = none ∧ a ≠ D) H' x u))
          (fun a xs H' ⟨s2, e1, e2, e3, _, e4⟩ => ⟨s2, e3, e2, e4, ⟨_, _, rfl⟩, fun _ => e1, fun z => by cases z⟩) (fun a xs i σ' H' _ ⟨_, _, e1, _⟩ => SqL.of e1) ?_ ?_
        · show ∀ l, H1 l = none → Q (V.ref l) _
          intro l nl
          generalize hq : upd H1 l _ = H2
          have sH2 : Same H1 H2 := hq ▸ Same.new (Same.refl _) nl
          have el := hq ▸ (upd_same (H := H1) (a := l))
          clear hq
          exact hQ _ _ _ ⟨s1.trans sH2, sH2 _ _ eD, el, (fun z => by rw [z, eD] at nl; cases nl), s1.free nl, rfl⟩
        · rintro a xs i y σ' H' hy ⟨s2, ne, e1, rfl, ⟨z3, z4, rfl⟩, k0, _⟩
          obtain ⟨rfl, rfl⟩ : y = V.str "a" ∧ i = 0 := by
            rcases i with _ | i
            · exact ⟨(Option.some.inj hy).symm, rfl⟩
            · cases hy
          have eD2 := k0 rfl
          have ev : DGet H' p (.str "a") (some z) := by
            have g := DGet.k (k := Sum.inr "a") (s2 _ _ ep)
            have e2 : valV [((Sum.inr "a" : Key), z)] (Sum.inr "a") = some z := by simp [valV]
            rw [e2] at g
            exact g
          simp only [tSeq, tAsg, tRet, tRetN, tDrop, tNext, tVar, tC, gName, tOp, tUn, rI, rI0, rU, tIfS, tTest, tB, tIf, tAnd, tOr, tNot, tAndV, tOrV, tNotV, tCall, tCons, tNil, tCB, tLst, tTup, tChain, CMul, CDiv, CPow, rEq, rNe, gSub, L2.start, LL.cxK0, LL.cxK1, List.map_cons, List.map_nil, List.length_cons, List.length_nil, List.replicate_succ, List.replicate_zero, List.cons_append, List.nil_append, List.append_nil, List.getElem?_cons_zero, List.getElem?_cons_succ, List.set_cons_zero, List.set_cons_succ, Nat.add_sub_cancel, Nat.reduceAdd, Nat.reduceSub, Option.some.injEq, V.int.injEq, V.bl.injEq, V.ref.injEq, V.str.injEq, List.cons.injEq, and_true, true_and, and_false, false_and, exists_eq_left, exists_eq_left', exists_and_left, exists_and_right, exists_eq, exists_eq', LL.if_dec, reduceCtorEq, exists_false, exists_const, or_false, false_or, if_true, if_false, LL.rInt1, LL.rMx, LL.rMn, and_assoc, Int.reduceNeg, Int.reduceLT, Int.reduceLE, Int.reduceMul, Int.reduceAdd, Int.reduceSub, Int.reducePow, Int.reduceToNat, Nat.reducePow, Nat.reduceLT, true_or, or_true, Bool.not_true, Bool.not_false, Bool.false_eq_true, Bool.or_false, Bool.or_true, Bool.true_or, Bool.false_or, decide_true, decide_false, not_true_eq_false, not_false_eq_true, LL.scal_int, LL.scal_bl, LL.scal_str, LL.isInt, LL.isBl, LL.isStr, LL.isLst, LL.isTup, LL.isDic, sDPut, tDGet]
          refine ⟨_, ev, ?_⟩
          refine use_copy (hz.same s2) (by simp only [dep] at hn; omega) fun r H4 s4 dr => ?_
          refine ⟨_, DPut.k (k := Sum.inr "a") (s4 _ _ eD2) (by decide), ?_⟩
          have epk : putK ([] : List (Key × V)) (Sum.inr "a" : Key) r = [((Sum.inr "a" : Key), r)] := by simp [putK]
          rw [epk]
          refine ⟨Same.own (s2.trans s4) hD, ne, by rw [upd_ne ne]; exact s4 _ _ e1, (fun z => z.elim), fun _ => ⟨r, upd_same, Dt.imp (fun b o fb eb => ?_) _ dr⟩⟩
          have nf := new_of s2 eD2 b fb
          exact ⟨nf, by rw [upd_ne nf.2]; exact eb⟩
        · rintro a xs σ' H' ⟨s2, ne, e1, rfl, ⟨z3, z4, rfl⟩, _, k1⟩
          obtain ⟨x, ex, dx⟩ := k1 rfl
          simp only [tSeq, tAsg, tRet, tRetN, tDrop, tNext, tVar, tC, gName, tOp, tUn, rI, rI0, rU, tIfS, tTest, tB, tIf, tAnd, tOr, tNot, tAndV, tOrV, tNotV, tCall, tCons, tNil, tCB, tLst, tTup, tChain, CMul, CDiv, CPow, rEq, rNe, gSub, L2.start, LL.cxK0, LL.cxK1, List.map_cons, List.map_nil, List.length_cons, List.length_nil, List.replicate_succ, List.replicate_zero, List.cons_append, List.nil_append, List.append_nil, List.getElem?_cons_zero, List.getElem?_cons_succ, List.set_cons_zero, List.set_cons_succ, Nat.add_sub_cancel, Nat.reduceAdd, Nat.reduceSub, Option.some.injEq, V.int.injEq, V.bl.injEq, V.ref.injEq, V.str.injEq, List.cons.injEq, and_true, true_and, and_false, false_and, exists_eq_left, exists_eq_left', exists_and_left, exists_and_right, exists_eq, exists_eq', LL.if_dec, reduceCtorEq, exists_false, exists_const, or_false, false_or, if_true, if_false, LL.rInt1, LL.rMx, LL.rMn, and_assoc, Int.reduceNeg, Int.reduceLT, Int.reduceLE, Int.reduceMul, Int.reduceAdd, Int.reduceSub, Int.reducePow, Int.reduceToNat, Nat.reducePow, Nat.reduceLT, true_or, or_true, Bool.not_true, Bool.not_false, Bool.false_eq_true, Bool.or_false, Bool.or_true, Bool.true_or, Bool.false_or, decide_true, decide_false, not_true_eq_false, not_false_eq_true, LL.scal_int, LL.scal_bl, LL.scal_str, LL.isInt, LL.isBl, LL.isStr, LL.isLst, LL.isTup, LL.isDic]
          exact q _ _ s2 ⟨D, x, rfl, hD, ex, dx.to (fun a h => h.1)⟩
/-- what is told of a BadValue with that name -/
def refT (n : Str) : LL.T := .lst [.str "refused", .tup [.str "BadValue", .tup [.str n]], .tup [.str n], .lst [.bl true, .bl true, .bl true, .bl false, .bl false, .bl false, .bl false, .bl false, .bl false, .bl false]]
def sp_law_refused : Sp := fun vs H Q _ => ∃ (F : Addr → Prop) (f : V) (n : Str), vs = [.str "BadValue", f] ∧ Dt F H f (.tup [.str n]) ∧ ∀ r H', Same H H' → Dt (fun _ => True) H' r (refT n) → Q r H'
theorem use_refused {F : Addr → Prop} {f : V} {n : Str} {H : Hp} {Q : VK} {E : XK} (hf : Dt F H f (.tup [.str n])) (q : ∀ r H', Same H H' → Dt (fun _ => True) H' r (refT n) → Q r H') : sp_law_refused [.str "BadValue", f] H Q E := ⟨F, f, n, rfl, hf, q⟩
def titles : List V := [.str "BadValue", .str "Broken", .str "Unknown", .str "NotHeld", .str "Fault", .str "NoRoom", .str "Cut", .str "BadLine"]
theorem titles_eq : titles.map (fun x => V.bl (decide (x = V.str "BadValue"))) = [.bl true, .bl false, .bl false, .bl false, .bl false, .bl false, .bl false, .bl false] := by decide +kernel
theorem titles_s : ∀ x ∈ titles, scal x (.str "BadValue") = true := by decide +kernel

theorem ok_law_refused (T : Tx K mg) : FnOk P w K mg base CX0 1 (He.ga K "_law_refused") T.fd_law_refused P_law_refused sp_law_refused := by
  refine T.F_law_refused.ok sc_law_refused (fun vs H Q E h => ?_) (fun cdv A outer s H vs Q E hr h => ⟨_, PSs.nox (pss_cons (ps_set (i := 2) sc_law_refused.nd rfl (Or.inl rfl) (pe_lst (pa_cons (pe_str) (pa_cons (pe_str) (pa_cons (pe_str) (pa_cons (pe_str) (pa_cons (pe_str) (pa_cons (pe_str) (pa_cons (pe_str) (pa_cons (pe_str) pa_nil)))))))))) (pss_one (ps_ret (pe_lst (pa_cons (pe_str) (pa_cons (pe_tup (pa_cons (pv 0) (pa_cons (pv 1) pa_nil))) (pa_cons (pv 1) (pa_cons (pe_op op_cat (pe_lst (pa_cons (pe_bl) (pa_cons (pe_bl) pa_nil))) (pe_lc (own := [("_law_one", 3)]) (by rfl) sc_law_refused.nd (pi_list (pv 2)) (blkOk_by (N := N_law_refused) (sc := defScope s_law_refused) (by decide +kernel)) (fun _ _ _ _ _ => (pg_name (i := 3) sc_law_refused.nd rfl (Or.inl rfl))) (fun _ _ _ _ _ => pts_nil) (fun _ _ _ _ _ => (pe_cmpR op_eq (pv 3) (pv 0) (nomark _))))) pa_nil)))))))), ?_⟩)
  · obtain ⟨_, _, _, rfl, _⟩ := h
    rfl
  · obtain ⟨F, f, n, rfl, hf, q⟩ := h
    simp only [tSeq, tAsg, tRet, tRetN, tDrop, tNext, tVar, tC, gName, tOp, tUn, rI, rI0, rU, tIfS, tTest, tB, tIf, tAnd, tOr, tNot, tAndV, tOrV, tNotV, tCall, tCons, tNil, tCB, tLst, tTup, tChain, CMul, CDiv, CPow, rEq, rNe, gSub, L2.start, LL.cxK0, LL.cxK1, List.map_cons, List.map_nil, List.length_cons, List.length_nil, List.replicate_succ, List.replicate_zero, List.cons_append, List.nil_append, List.append_nil, List.getElem?_cons_zero, List.getElem?_cons_succ, List.set_cons_zero, List.set_cons_succ, Nat.add_sub_cancel, Nat.reduceAdd, Nat.reduceSub, Option.some.injEq, V.int.injEq, V.bl.injEq, V.ref.injEq, V.str.injEq, List.cons.injEq, and_true, true_and, and_false, false_and, exists_eq_left, exists_eq_left', exists_and_left, exists_and_right, exists_eq, exists_eq', LL.if_dec, reduceCtorEq, exists_false, exists_const, or_false, false_or, if_true, if_false, LL.rInt1, LL.rMx, LL.rMn, and_assoc, Int.reduceNeg, Int.reduceLT, Int.reduceLE, Int.reduceMul, Int.reduceAdd, Int.reduceSub, Int.reducePow, Int.reduceToNat, Nat.reducePow, Nat.reduceLT, true_or, or_true, Bool.not_true, Bool.not_false, Bool.false_eq_true, Bool.or_false, Bool.or_true, Bool.true_or, Bool.false_or, decide_true, decide_false, not_true_eq_false, not_false_eq_true, LL.scal_int, LL.scal_bl, LL.scal_str, LL.isInt, LL.isBl, LL.isStr, LL.isLst, LL.isTup, LL.isDic, N_law_refused]
    refine ⟨by decide, ?_⟩
    intro p1 np1
    generalize hq : upd H p1 _ = H1
    have sH1 : Same H H1 := hq ▸ Same.new (Same.refl _) np1
    have ep1 := hq ▸ (upd_same (H := H) (a := p1))
    clear hq
    refine ⟨by decide, ?_⟩
    intro p2 np2
    generalize hq : upd H1 p2 _ = H2
    have sH2 : Same H1 H2 := hq ▸ Same.new (Same.refl _) np2
    have ep2 := hq ▸ (upd_same (H := H1) (a := p2))
    clear hq
    replace ep1 := sH2 _ _ ep1
    refine ⟨by decide, ?_⟩
    intro p3 np3
    generalize hq : upd H2 p3 _ = H3
    have sH3 : Same H2 H3 := hq ▸ Same.new (Same.refl _) np3
    have ep3 := hq ▸ (upd_same (H := H2) (a := p3))
    clear hq
    replace ep1 := sH3 _ _ ep1
    replace ep2 := sH3 _ _ ep2
    refine ⟨_, rfl, p1, rfl, ⟨_, SqL.of ep1⟩, fun D hD => ?_⟩
    refine lc_list (K := K) (a := p1) (xs := titles) (fun i H' => Same H3 H' ∧ H' D = some (.lst ((titles.take i).map fun x => V.bl (decide (x = V.str "BadValue"))))) ⟨Same.new (Same.refl _) hD, upd_same⟩ (fun i H' _ ⟨s1, _⟩ => SqL.of (s1 _ _ ep1)) ?_ ?_
    · rintro i x H' hi ⟨s1, eD⟩
      simp only [tSeq, tAsg, tRet, tRetN, tDrop, tNext, tVar, tC, gName, tOp, tUn, rI, rI0, rU, tIfS, tTest, tB, tIf, tAnd, tOr, tNot, tAndV, tOrV, tNotV, tCall, tCons, tNil, tCB, tLst, tTup, tChain, CMul, CDiv, CPow, rEq, rNe, gSub, L2.start, LL.cxK0, LL.cxK1, List.map_cons, List.map_nil, List.length_cons, List.length_nil, List.replicate_succ, List.replicate_zero, List.cons_append, List.nil_append, List.append_nil, List.getElem?_cons_zero, List.getElem?_cons_succ, List.set_cons_zero, List.set_cons_succ, Nat.add_sub_cancel, Nat.reduceAdd, Nat.reduceSub, Option.some.injEq, V.int.injEq, V.bl.injEq, V.ref.injEq, V.str.injEq, List.cons.injEq, and_true, true_and, and_false, false_and, exists_eq_left, exists_eq_left', exists_and_left, exists_and_right, exists_eq, exists_eq', LL.if_dec, reduceCtorEq, exists_false, exists_const, or_false, false_or, if_true, if_false, LL.rInt1, LL.rMx, LL.rMn, and_assoc, Int.reduceNeg, Int.reduceLT, Int.reduceLE, Int.reduceMul, Int.reduceAdd, Int.reduceSub, Int.reducePow, Int.reduceToNat, Nat.reducePow, Nat.reduceLT, true_or, or_true, Bool.not_true, Bool.not_false, Bool.false_eq_true, Bool.or_false, Bool.or_true, Bool.true_or, Bool.false_or, decide_true, decide_false, not_true_eq_false, not_false_eq_true, LL.scal_int, LL.scal_bl, LL.scal_str, LL.isInt, LL.isBl, LL.isStr, LL.isLst, LL.isTup, LL.isDic, tYes, wipe, List.foldl_cons, List.foldl_nil]
      refine ⟨titles_s _ (List.mem_of_getElem? hi), _, eD, small_sz (by rw [List.length_map, List.length_take, show titles.length = 8 from rfl]; omega), Same.own s1 hD, ?_⟩
      rw [upd_same, take_one hi, List.map_append]
      rfl
    · rintro H' ⟨s1, eD⟩
      rw [List.take_length, titles_eq] at eD
      refine ⟨p3, D, _, _, rfl, rfl, s1 _ _ ep3, eD, by decide, ?_⟩
      replace ep2 := s1 _ _ ep2
      intro p4 np4
      generalize hq : upd H' p4 _ = H4
      have sH4 : Same H' H4 := hq ▸ Same.new (Same.refl _) np4
      have ep4 := hq ▸ (upd_same (H := H') (a := p4))
      clear hq
      replace ep2 := sH4 _ _ ep2
      refine ⟨by decide, ?_⟩
      intro p5 np5
      generalize hq : upd H4 p5 _ = H5
      have sH5 : Same H4 H5 := hq ▸ Same.new (Same.refl _) np5
      have ep5 := hq ▸ (upd_same (H := H4) (a := p5))
      clear hq
      replace ep2 := sH5 _ _ ep2
      replace ep4 := sH5 _ _ ep4
      have g : Same H H5 := ((((sH1.trans sH2).trans sH3).trans s1).trans sH4).trans sH5
      have hf5 : Dt (fun _ => True) H5 f (.tup [.str n]) := (hf.same g).to (fun _ _ => trivial)
      have st : ∀ z : Str, Dt (fun _ => True) H5 (.str z) (.str z) := fun z => rfl
      have bt : ∀ z : Bool, Dt (fun _ => True) H5 (.bl z) (.bl z) := fun z => rfl
      refine q _ _ g ⟨p5, _, rfl, trivial, ep5, .cons (st _) (.cons ⟨p2, _, rfl, trivial, ep2, .cons (st _) (.one hf5), by simp⟩ (.cons hf5 (.one ⟨p4, _, rfl, trivial, ep4, ?_, by simp⟩))), by simp⟩
      exact .cons (bt _) (.cons (bt _) (.cons (bt _) (.cons (bt _) (.cons (bt _) (.cons (bt _) (.cons (bt _) (.cons (bt _) (.cons (bt _) (.one (bt _))))))))))
def sp_law_draws (K : PySem.W.Frag) : Sp := fun vs H Q _ => ∃ (a : Addr) (ns : List Int), vs = [.ref a] ∧ SqL K H a (ns.map V.int) ∧ ns.length ≤ 100000 ∧ ∀ d s H', Same H H' → Drw d s H' → H d = none → H s = none → Q (.ref d) H'

theorem ok_law_draws (T : Tx K mg) : FnOk P w K mg base CX0 1 (He.ga K "_law_draws") T.fd_law_draws P_law_draws (sp_law_draws K) := by
  refine T.F_law_draws.ok sc_law_draws (fun vs H Q E h => ?_) (fun cdv A outer s H vs Q E hr h => ⟨_, PSs.nox (pss_one (ps_ret (pe_lst (pa_cons (pe_lc (own := [("_law_cell", 1)]) (by rfl) sc_law_draws.nd (pi_list (pv 0)) (blkOk_by (N := N_law_draws) (sc := defScope s_law_draws) (by decide +kernel)) (fun _ _ _ _ _ => (pg_name (i := 1) sc_law_draws.nd rfl (Or.inl rfl))) (fun _ _ _ _ _ => pts_nil) (fun _ _ _ _ _ => (pe_callTy LL.call_intI (by rfl) T.z_int (by decide +kernel) (pa_cons (pv 1) pa_nil)))) (pa_cons (pe_lst (pa_cons (pe_int) (pa_cons (pe_int) (pa_cons (pe_int) (pa_cons (pe_int) (pa_cons (pe_int) pa_nil)))))) pa_nil))))), ?_⟩)
  · obtain ⟨_, _, rfl, _⟩ := h
    rfl
  · obtain ⟨a, ns, rfl, hs, hn, q⟩ := h
    simp only [tSeq, tAsg, tRet, tRetN, tDrop, tNext, tVar, tC, gName, tOp, tUn, rI, rI0, rU, tIfS, tTest, tB, tIf, tAnd, tOr, tNot, tAndV, tOrV, tNotV, tCall, tCons, tNil, tCB, tLst, tTup, tChain, CMul, CDiv, CPow, rEq, rNe, gSub, L2.start, LL.cxK0, LL.cxK1, List.map_cons, List.map_nil, List.length_cons, List.length_nil, List.replicate_succ, List.replicate_zero, List.cons_append, List.nil_append, List.append_nil, List.getElem?_cons_zero, List.getElem?_cons_succ, List.set_cons_zero, List.set_cons_succ, Nat.add_sub_cancel, Nat.reduceAdd, Nat.reduceSub, Option.some.injEq, V.int.injEq, V.bl.injEq, V.ref.injEq, V.str.injEq, List.cons.injEq, and_true, true_and, and_false, false_and, exists_eq_left, exists_eq_left', exists_and_left, exists_and_right, exists_eq, exists_eq', LL.if_dec, reduceCtorEq, exists_false, exists_const, or_false, false_or, if_true, if_false, LL.rInt1, LL.rMx, LL.rMn, and_assoc, Int.reduceNeg, Int.reduceLT, Int.reduceLE, Int.reduceMul, Int.reduceAdd, Int.reduceSub, Int.reducePow, Int.reduceToNat, Nat.reducePow, Nat.reduceLT, true_or, or_true, Bool.not_true, Bool.not_false, Bool.false_eq_true, Bool.or_false, Bool.or_true, Bool.true_or, Bool.false_or, decide_true, decide_false, not_true_eq_false, not_false_eq_true, LL.scal_int, LL.scal_bl, LL.scal_str, LL.isInt, LL.isBl, LL.isStr, LL.isLst, LL.isTup, LL.isDic, N_law_draws]
    refine ⟨_, rfl, a, rfl, ⟨_, hs⟩, fun D hD => ?_⟩
    refine lc_list (K := K) (a := a) (xs := ns.map V.int) (fun i H' => Same H H' ∧ H' D = some (.lst ((ns.take i).map V.int))) ⟨Same.new (Same.refl _) hD, upd_same⟩ (fun i H' _ ⟨s1, _⟩ => s1.seq hs) ?_ ?_
    · rintro i x H' hi ⟨s1, eD⟩
      rw [List.getElem?_map] at hi
      obtain ⟨n, hn2, rfl⟩ := Option.map_eq_some_iff.mp hi
      simp only [tSeq, tAsg, tRet, tRetN, tDrop, tNext, tVar, tC, gName, tOp, tUn, rI, rI0, rU, tIfS, tTest, tB, tIf, tAnd, tOr, tNot, tAndV, tOrV, tNotV, tCall, tCons, tNil, tCB, tLst, tTup, tChain, CMul, CDiv, CPow, rEq, rNe, gSub, L2.start, LL.cxK0, LL.cxK1, List.map_cons, List.map_nil, List.length_cons, List.length_nil, List.replicate_succ, List.replicate_zero, List.cons_append, List.nil_append, List.append_nil, List.getElem?_cons_zero, List.getElem?_cons_succ, List.set_cons_zero, List.set_cons_succ, Nat.add_sub_cancel, Nat.reduceAdd, Nat.reduceSub, Option.some.injEq, V.int.injEq, V.bl.injEq, V.ref.injEq, V.str.injEq, List.cons.injEq, and_true, true_and, and_false, false_and, exists_eq_left, exists_eq_left', exists_and_left, exists_and_right, exists_eq, exists_eq', LL.if_dec, reduceCtorEq, exists_false, exists_const, or_false, false_or, if_true, if_false, LL.rInt1, LL.rMx, LL.rMn, and_assoc, Int.reduceNeg, Int.reduceLT, Int.reduceLE, Int.reduceMul, Int.reduceAdd, Int.reduceSub, Int.reducePow, Int.reduceToNat, Nat.reducePow, Nat.reduceLT, true_or, or_true, Bool.not_true, Bool.not_false, Bool.false_eq_true, Bool.or_false, Bool.or_true, Bool.true_or, Bool.false_or, decide_true, decide_false, not_true_eq_false, not_false_eq_true, LL.scal_int, LL.scal_bl, LL.scal_str, LL.isInt, LL.isBl, LL.isStr, LL.isLst, LL.isTup, LL.isDic, tYes, wipe, List.foldl_cons, List.foldl_nil]
      refine ⟨_, eD, small_sz (by rw [List.length_map, List.length_take]; omega), Same.own s1 hD, ?_⟩
      rw [upd_same, take_one hn2, List.map_append]
      rfl
    · rintro H' ⟨s1, eD⟩
      rw [List.length_map, List.take_length] at eD
      refine ⟨by decide, ?_⟩
      have nD : ∀ b, H' b = none → b ≠ D := fun b nb z => by rw [z, eD] at nb; cases nb
      intro p2 np2
      generalize hq : upd H' p2 _ = H2
      have sH2 : Same H' H2 := hq ▸ Same.new (Same.refl _) np2
      have ep2 := hq ▸ (upd_same (H := H') (a := p2))
      clear hq
      replace eD := sH2 _ _ eD
      refine ⟨by decide, ?_⟩
      intro p3 np3
      generalize hq : upd H2 p3 _ = H3
      have sH3 : Same H2 H3 := hq ▸ Same.new (Same.refl _) np3
      have ep3 := hq ▸ (upd_same (H := H2) (a := p3))
      clear hq
      replace eD := sH3 _ _ eD
      replace ep2 := sH3 _ _ ep2
      refine q p3 p2 H3 ((s1.trans sH2).trans sH3) ⟨⟨D, ep3, (nD _ np2).symm, ns, eD⟩, ⟨0, 0, 0, 0, 11, by decide, ep2⟩, fun z => by rw [z] at np3; rw [z] at ep3; rw [ep3] at ep2; cases ep2⟩ ((s1.trans sH2).free np3) (s1.free np2)
end K01

namespace K01
open PySem PySem.Spec PyProof.Rows L2 LL
variable {P : Program} {w : World} {K : PySem.W.Frag} {mg : Str → Option Value} {base : Heap}

/-- behind a raised BadValue: its own dict d, new, holds what it tells -/
structure BadH (H H' : Hp) (d : Addr) (n : V) : Prop where
  ex : ∃ p1 p2, H' d = some (.xd [("told", .ref p2), ("parameter", n)]) ∧ H' p1 = some (.tup [n]) ∧ H' p2 = some (.tup [.str "BadValue", .ref p1]) ∧ H p1 = none ∧ H p2 = none
  same : Same H H'
  new : H d = none
/-- BadValue.__init__ -/
def sp_BadValue (K : PySem.W.Frag) : Sp := fun vs H Q _ => ∃ (a : Addr) (n : V), vs = [.ref a, n] ∧ H a = some (exo a (aBV K) none) ∧
  ∀ d p1 p2 H', H d = none → d ≠ a → H' a = some (exo a (aBV K) (some d)) → H' d = some (exd d [("told", .ref p2), ("parameter", n)]) → H' p1 = some (.tup [n]) → H' p2 = some (.tup [.str "BadValue", .ref p1]) → H p1 = none → H p2 = none → (∀ b o, b ≠ a → H b = some o → H' b = some o) → Q .non H'
theorem ok_BadValue (T : Tx K mg) : FnOk P w K mg base CX0 1 (iBV K) T.fd_BadValue P_BadValue (sp_BadValue K) := by
  refine T.F_BadValue.ok sc_BadValue (fun vs H Q E h => ?_) (fun cdv A outer s H vs Q E hr h => ⟨_, PSs.nox (pss_cons (ps_ost (pv 0) (pv 1)) (pss_one (ps_ost (pv 0) (pe_tup (pa_cons pe_str (pa_cons (pe_tup (pa_cons (pv 1) pa_nil)) pa_nil)))))), ?_⟩)
  · obtain ⟨_, _, rfl, _⟩ := h
    rfl
  · obtain ⟨a, n, rfl, ha, q⟩ := h
    simp only [tSeq, tAsg, tRet, tRetN, tDrop, tNext, tVar, tC, gName, tOp, tUn, rI, rI0, rU, tIfS, tTest, tB, tIf, tAnd, tOr, tNot, tAndV, tOrV, tNotV, tCall, tCons, tNil, tCB, tLst, tTup, tChain, CMul, CDiv, CPow, rEq, rNe, gSub, L2.start, LL.cxK0, LL.cxK1, List.map_cons, List.map_nil, List.length_cons, List.length_nil, List.replicate_succ, List.replicate_zero, List.cons_append, List.nil_append, List.append_nil, List.getElem?_cons_zero, List.getElem?_cons_succ, List.set_cons_zero, List.set_cons_succ, Nat.add_sub_cancel, Nat.reduceAdd, Nat.reduceSub, Option.some.injEq, V.int.injEq, V.bl.injEq, V.ref.injEq, V.str.injEq, List.cons.injEq, and_true, true_and, and_false, false_and, exists_eq_left, exists_eq_left', exists_and_left, exists_and_right, exists_eq, exists_eq', LL.if_dec, reduceCtorEq, exists_false, exists_const, or_false, false_or, if_true, if_false, LL.rInt1, LL.rMx, LL.rMn, and_assoc, Int.reduceNeg, Int.reduceLT, Int.reduceLE, Int.reduceMul, Int.reduceAdd, Int.reduceSub, Int.reducePow, Int.reduceToNat, Nat.reducePow, Nat.reduceLT, true_or, or_true, Bool.not_true, Bool.not_false, Bool.false_eq_true, Bool.or_false, Bool.or_true, Bool.true_or, Bool.false_or, decide_true, decide_false, not_true_eq_false, not_false_eq_true, LL.scal_int, LL.scal_bl, LL.scal_str, LL.isInt, LL.isBl, LL.isStr, LL.isLst, LL.isTup, LL.isDic, P_BadValue, tOst]
    refine ⟨_, T.x_BadValue, T.n_BadValue_parameter, .inl ⟨ha, fun dx hdx hne => ?_⟩⟩
    have e1 : upd (upd H dx (exd dx [("parameter", n)])) a (exo a (aBV K) (some dx)) a = some (exo a (aBV K) (some dx)) := upd_same
    have e2 : upd (upd H dx (exd dx [("parameter", n)])) a (exo a (aBV K) (some dx)) dx = some (exd dx [("parameter", n)]) := by rw [upd_ne hne, upd_same]
    have e3 : ∀ b o, b ≠ a → H b = some o → upd (upd H dx (exd dx [("parameter", n)])) a (exo a (aBV K) (some dx)) b = some o := fun b o hb e => by rw [upd_ne hb, upd_ne (ne_of_none e hdx)]; exact e
    have e4 : ∀ b, upd (upd H dx (exd dx [("parameter", n)])) a (exo a (aBV K) (some dx)) b = none → H b = none := fun b hb => by
      by_cases c : b = a
      · rw [c, upd_same] at hb; cases hb
      · rw [upd_ne c] at hb
        by_cases c2 : b = dx
        · rw [c2]; exact hdx
        · rw [upd_ne c2] at hb; exact hb
    generalize upd (upd H dx (exd dx [("parameter", n)])) a (exo a (aBV K) (some dx)) = H1 at e1 e2 e3 e4 ⊢
    refine ⟨by decide, ?_⟩
    intro p1 np1
    generalize hq : upd H1 p1 _ = H2
    have sH2 : Same H1 H2 := hq ▸ Same.new (Same.refl _) np1
    have ep1 := hq ▸ (upd_same (H := H1) (a := p1))
    clear hq
    replace e1 := sH2 _ _ e1
    replace e2 := sH2 _ _ e2
    refine ⟨by decide, ?_⟩
    intro p2 np2
    generalize hq : upd H2 p2 _ = H3
    have sH3 : Same H2 H3 := hq ▸ Same.new (Same.refl _) np2
    have ep2 := hq ▸ (upd_same (H := H2) (a := p2))
    clear hq
    replace e1 := sH3 _ _ e1
    replace e2 := sH3 _ _ e2
    replace ep1 := sH3 _ _ ep1
    refine ⟨_, T.x_BadValue, T.n_BadValue_told, .inr ⟨dx, e1, _, e2, by simp, ?_⟩⟩
    have f1 := e4 _ np1
    have f2 := e4 _ (sH2.free np2)
    have x1 : p1 ≠ dx := fun z => by rw [z, e2] at ep1; exact (show ¬ exd dx [("parameter", n)] = .tup [n] from exd_tup) (Option.some.inj ep1)
    have x2 : p2 ≠ dx := fun z => by rw [z, e2] at ep2; exact (show ¬ exd dx [("parameter", n)] = .tup [.str "BadValue", .ref p1] from exd_tup) (Option.some.inj ep2)
    refine q dx p1 p2 _ hdx hne (by rw [upd_ne hne.symm]; exact e1) upd_same (by rw [upd_ne x1]; exact ep1) (by rw [upd_ne x2]; exact ep2) f1 f2 (fun b o hb e => ?_)
    rw [upd_ne (ne_of_none e hdx)]
    exact sH3 _ _ (sH2 _ _ (e3 _ _ hb e))
/-- t is an integer within the range -/
def InR (lo hi : Int) : LL.T → Prop
  | .int i => lo ≤ i ∧ i ≤ hi
  | _ => False
instance (lo hi : Int) (t : LL.T) : Decidable (InR lo hi t) := by
  cases t <;> unfold InR <;> infer_instance
def sp_need_whole (K : PySem.W.Frag) : Sp := fun vs H Q E => ∃ (F : Addr → Prop) (v n : V) (t : LL.T) (lo hi : Int), vs = [v, .int lo, .int hi, n] ∧ Dt F H v t ∧ (InR lo hi t → Q .non H) ∧ (¬ InR lo hi t → ∀ d H', BadH H H' d n → E (.ref (aBV K)) (some d) H')

def kindsT : LL.T := .lst [.bl true, .bl true, .bl true, .bl false, .bl false, .bl false, .bl false, .bl false, .bl false, .bl false]
def sp_law_kinds (K : PySem.W.Frag) : Addr → Addr → Addr → Sp := fun a D dd vs H Q _ => vs = [.ref a] ∧ D = aBV K ∧ (∃ fs, H dd = some (.xd fs)) ∧ ∀ r H', Same H H' → Dt (fun b => H b = none) H' r kindsT → Q r H'
theorem use_isX {K : PySem.W.Frag} {a D dd : Addr} {c : V} {cv : Value} {b : Bool} {fs : List (Str × V)} {H : Hp} {Q : VK} (hc : ClsV c cv) (hk : PySem.W.kitOne K (.ref D) cv = some b) (hd : H dd = some (.xd fs)) (q : Q (.bl b) H) : rIsX K a D dd [.ref a, c] H Q := ⟨c, cv, b, fs, rfl, hc, hk, hd, q⟩

theorem ok_law_kinds (T : Tx K mg) : FnZ P w K mg base 1 (He.ga K "_law_kinds") T.fd_law_kinds P_law_kinds (sp_law_kinds K) := by
  refine okZ T.F_law_kinds sc_law_kinds (fun a D dd vs H Q E h => ?_) (fun cdv A outer s H vs Q E p D dd hr hz hf h => ?_)
  · obtain ⟨rfl, _⟩ := h
    rfl
  obtain ⟨rfl, rfl, ⟨fs, hd⟩, q⟩ := h
  refine ⟨_, (pss_one (ps_ret (pe_lst (pa_cons (pe_callB (call_isX (p := p) (D := aBV K) (dd := dd) List.mem_cons_self T.d_BadValue hz hf) (by rfl) T.z_isinstance (by decide +kernel) (pa_cons (pv 0) (pa_cons (pe_glob (v := .ref (He.ga K "StoreError")) (u := .ref (He.ga K "StoreError")) rfl T.g_StoreError rfl) pa_nil))) (pa_cons (pe_callB (call_isX (p := p) (D := aBV K) (dd := dd) List.mem_cons_self T.d_BadValue hz hf) (by rfl) T.z_isinstance (by decide +kernel) (pa_cons (pv 0) (pa_cons (pe_bltn (v := .ty "ValueError") (u := .type "ValueError") (by rfl) T.z_ValueError (by decide +kernel) rfl) pa_nil))) (pa_cons (pe_callB (call_isX (p := p) (D := aBV K) (dd := dd) List.mem_cons_self T.d_BadValue hz hf) (by rfl) T.z_isinstance (by decide +kernel) (pa_cons (pv 0) (pa_cons (pe_glob (v := .ref (He.ga K "BadValue")) (u := .ref (He.ga K "BadValue")) rfl T.g_BadValue rfl) pa_nil))) (pa_cons (pe_callB (call_isX (p := p) (D := aBV K) (dd := dd) List.mem_cons_self T.d_BadValue hz hf) (by rfl) T.z_isinstance (by decide +kernel) (pa_cons (pv 0) (pa_cons (pe_glob (v := .ref (He.ga K "Broken")) (u := .ref (He.ga K "Broken")) rfl T.g_Broken rfl) pa_nil))) (pa_cons (pe_callB (call_isX (p := p) (D := aBV K) (dd := dd) List.mem_cons_self T.d_BadValue hz hf) (by rfl) T.z_isinstance (by decide +kernel) (pa_cons (pv 0) (pa_cons (pe_glob (v := .ref (He.ga K "Unknown")) (u := .ref (He.ga K "Unknown")) rfl T.g_Unknown rfl) pa_nil))) (pa_cons (pe_callB (call_isX (p := p) (D := aBV K) (dd := dd) List.mem_cons_self T.d_BadValue hz hf) (by rfl) T.z_isinstance (by decide +kernel) (pa_cons (pv 0) (pa_cons (pe_glob (v := .ref (He.ga K "NotHeld")) (u := .ref (He.ga K "NotHeld")) rfl T.g_NotHeld rfl) pa_nil))) (pa_cons (pe_callB (call_isX (p := p) (D := aBV K) (dd := dd) List.mem_cons_self T.d_BadValue hz hf) (by rfl) T.z_isinstance (by decide +kernel) (pa_cons (pv 0) (pa_cons (pe_glob (v := .ref (He.ga K "Fault")) (u := .ref (He.ga K "Fault")) rfl T.g_Fault rfl) pa_nil))) (pa_cons (pe_callB (call_isX (p := p) (D := aBV K) (dd := dd) List.mem_cons_self T.d_BadValue hz hf) (by rfl) T.z_isinstance (by decide +kernel) (pa_cons (pv 0) (pa_cons (pe_glob (v := .ref (He.ga K "NoRoom")) (u := .ref (He.ga K "NoRoom")) rfl T.g_NoRoom rfl) pa_nil))) (pa_cons (pe_callB (call_isX (p := p) (D := aBV K) (dd := dd) List.mem_cons_self T.d_BadValue hz hf) (by rfl) T.z_isinstance (by decide +kernel) (pa_cons (pv 0) (pa_cons (pe_glob (v := .ref (He.ga K "Cut")) (u := .ref (He.ga K "Cut")) rfl T.g_Cut rfl) pa_nil))) (pa_cons (pe_callB (call_isX (p := p) (D := aBV K) (dd := dd) List.mem_cons_self T.d_BadValue hz hf) (by rfl) T.z_isinstance (by decide +kernel) (pa_cons (pv 0) (pa_cons (pe_glob (v := .ref (He.ga K "BadLine")) (u := .ref (He.ga K "BadLine")) rfl T.g_BadLine rfl) pa_nil))) pa_nil))))))))))))), ?_⟩
  simp only [tSeq, tAsg, tRet, tRetN, tDrop, tNext, tVar, tC, gName, tOp, tUn, rI, rI0, rU, tIfS, tTest, tB, tIf, tAnd, tOr, tNot, tAndV, tOrV, tNotV, tCall, tCons, tNil, tCB, tLst, tTup, tChain, CMul, CDiv, CPow, rEq, rNe, gSub, L2.start, LL.cxK0, LL.cxK1, List.map_cons, List.map_nil, List.length_cons, List.length_nil, List.replicate_succ, List.replicate_zero, List.cons_append, List.nil_append, List.append_nil, List.getElem?_cons_zero, List.getElem?_cons_succ, List.set_cons_zero, List.set_cons_succ, Nat.add_sub_cancel, Nat.reduceAdd, Nat.reduceSub, Option.some.injEq, V.int.injEq, V.bl.injEq, V.ref.injEq, V.str.injEq, List.cons.injEq, and_true, true_and, and_false, false_and, exists_eq_left, exists_eq_left', exists_and_left, exists_and_right, exists_eq, exists_eq', LL.if_dec, reduceCtorEq, exists_false, exists_const, or_false, false_or, if_true, if_false, LL.rInt1, LL.rMx, LL.rMn, and_assoc, Int.reduceNeg, Int.reduceLT, Int.reduceLE, Int.reduceMul, Int.reduceAdd, Int.reduceSub, Int.reducePow, Int.reduceToNat, Nat.reducePow, Nat.reduceLT, true_or, or_true, Bool.not_true, Bool.not_false, Bool.false_eq_true, Bool.or_false, Bool.or_true, Bool.true_or, Bool.false_or, decide_true, decide_false, not_true_eq_false, not_false_eq_true, LL.scal_int, LL.scal_bl, LL.scal_str, LL.isInt, LL.isBl, LL.isStr, LL.isLst, LL.isTup, LL.isDic, N_law_kinds]
  refine use_isX (.own _) T.k_StoreError hd (use_isX (.ty _) T.k_ValueError hd (use_isX (.own _) T.k_BadValue hd (use_isX (.own _) T.k_Broken hd (use_isX (.own _) T.k_Unknown hd (use_isX (.own _) T.k_NotHeld hd (use_isX (.own _) T.k_Fault hd (use_isX (.own _) T.k_NoRoom hd (use_isX (.own _) T.k_Cut hd (use_isX (.own _) T.k_BadLine hd ?_)))))))))
  refine ⟨by decide, ?_⟩
  intro p5 np5
  generalize hq : upd H p5 _ = H5
  have sH5 : Same H H5 := hq ▸ Same.new (Same.refl _) np5
  have ep5 := hq ▸ (upd_same (H := H) (a := p5))
  clear hq
  have bt : ∀ z : Bool, Dt (fun b => H b = none) H5 (.bl z) (.bl z) := fun z => rfl
  exact q _ _ sH5 ⟨p5, _, rfl, np5, ep5, .cons (bt _) (.cons (bt _) (.cons (bt _) (.cons (bt _) (.cons (bt _) (.cons (bt _) (.cons (bt _) (.cons (bt _) (.cons (bt _) (.one (bt _)))))))))), by simp⟩
end K01

namespace K01
open PySem PySem.Spec PyProof.Rows L2 LL
variable {P : Program} {w : World} {K : PySem.W.Frag} {mg : Str → Option Value} {base : Heap}

def sp_law_integer : Sp := fun vs H Q _ => ∃ (d s : Addr), vs = [.ref d] ∧ Drw d s H ∧ ∀ (i : Int) H', Aft d s H H' → Drw d s H' → Q (.int i) H'

theorem ok_law_integer (T : Tx K mg) : FnOk P w K mg base CX0 3 (He.ga K "_law_integer") T.fd_law_integer P_law_integer sp_law_integer := by
  refine T.F_law_integer.ok sc_law_integer (fun vs H Q E h => ?_) (fun cdv A outer s H vs Q E hr h => ⟨_, PSs.nox (pss_cons (ps_set (i := 1) sc_law_integer.nd rfl (Or.inl rfl) (pe_call (ok_law_take T) hr rfl T.g_law_take T.F_law_take.kp (b_law_take T) .nil pass0 (pa_cons (pv 0) (pa_cons (pe_int) pa_nil)))) (pss_cons (ps_if (pt_cmpR op_lt (pv 1) (pe_int) (nomark _)) (pss_one (ps_ret (pe_op op_sub (pe_call (ok_law_take T) hr rfl T.g_law_take T.F_law_take.kp (b_law_take T) .nil pass0 (pa_cons (pv 0) (pa_cons (pe_int) pa_nil))) (pe_int)))) pss_nil) (pss_cons (ps_if (pt_cmpR op_eq (pv 1) (pe_int) (nomark _)) (pss_one (ps_ret (pe_call (ok_law_take T) hr rfl T.g_law_take T.F_law_take.kp (b_law_take T) .nil pass0 (pa_cons (pv 0) (pa_cons (pe_int) pa_nil))))) pss_nil) (pss_cons (ps_if (pt_cmpR op_eq (pv 1) (pe_int) (nomark _)) (pss_one (ps_ret (pe_call (ok_law_take T) hr rfl T.g_law_take T.F_law_take.kp (b_law_take T) .nil pass0 (pa_cons (pv 0) (pa_cons (pe_op op_add (pe_op op_pow (pe_int) (pe_int)) (pe_int)) pa_nil))))) pss_nil) (pss_cons (ps_set (i := 2) sc_law_integer.nd rfl (Or.inl rfl) (pe_op op_add (pe_op op_pow (pe_int) (pe_int)) (pe_call (ok_law_take T) hr rfl T.g_law_take T.F_law_take.kp (b_law_take T) .nil pass0 (pa_cons (pv 0) (pa_cons (pe_op op_pow (pe_int) (pe_int)) pa_nil))))) (pss_cons (ps_if (pt_cmpR op_eq (pv 1) (pe_int) (nomark _)) (pss_one (ps_set (i := 2) sc_law_integer.nd rfl (Or.inl rfl) (pe_op op_add (pe_call0 (ok_law_long T) (hr.mono (by decide)) rfl T.g_law_long T.F_law_long.kp (b_law_long T) .nil pass0) (pe_call (ok_law_take T) hr rfl T.g_law_take T.F_law_take.kp (b_law_take T) .nil pass0 (pa_cons (pv 0) (pa_cons (pe_op op_pow (pe_int) (pe_int)) pa_nil)))))) pss_nil) (pss_cons (ps_if (pt_cmpR op_eq (pe_call (ok_law_take T) hr rfl T.g_law_take T.F_law_take.kp (b_law_take T) .nil pass0 (pa_cons (pv 0) (pa_cons (pe_int) pa_nil))) (pe_int) (nomark _)) (pss_one (ps_ret (pe_un un_neg (pv 2)))) pss_nil) (pss_one (ps_ret (pv 2)))))))))), ?_⟩)
  · obtain ⟨_, _, rfl, _⟩ := h
    rfl
  · obtain ⟨d, s, rfl, D, q⟩ := h
    simp only [tSeq, tAsg, tRet, tRetN, tDrop, tNext, tVar, tC, gName, tOp, tUn, rI, rI0, rU, tIfS, tTest, tB, tIf, tAnd, tOr, tNot, tAndV, tOrV, tNotV, tCall, tCons, tNil, tCB, tLst, tTup, tChain, CMul, CDiv, CPow, rEq, rNe, gSub, L2.start, LL.cxK0, LL.cxK1, List.map_cons, List.map_nil, List.length_cons, List.length_nil, List.replicate_succ, List.replicate_zero, List.cons_append, List.nil_append, List.append_nil, List.getElem?_cons_zero, List.getElem?_cons_succ, List.set_cons_zero, List.set_cons_succ, Nat.add_sub_cancel, Nat.reduceAdd, Nat.reduceSub, Option.some.injEq, V.int.injEq, V.bl.injEq, V.ref.injEq, V.str.injEq, List.cons.injEq, and_true, true_and, and_false, false_and, exists_eq_left, exists_eq_left', exists_and_left, exists_and_right, exists_eq, exists_eq', LL.if_dec, reduceCtorEq, exists_false, exists_const, or_false, false_or, if_true, if_false, LL.rInt1, LL.rMx, LL.rMn, and_assoc, Int.reduceNeg, Int.reduceLT, Int.reduceLE, Int.reduceMul, Int.reduceAdd, Int.reduceSub, Int.reducePow, Int.reduceToNat, Nat.reducePow, Nat.reduceLT, true_or, or_true, Bool.not_true, Bool.not_false, Bool.false_eq_true, Bool.or_false, Bool.or_true, Bool.true_or, Bool.false_or, decide_true, decide_false, not_true_eq_false, not_false_eq_true, LL.scal_int, LL.scal_bl, LL.scal_str, LL.isInt, LL.isBl, LL.isStr, LL.isLst, LL.isTup, LL.isDic, N_law_integer]
    refine use_take D (by decide +kernel) fun v H' a D' v0 v1 => ?_
    simp only [tSeq, tAsg, tRet, tRetN, tDrop, tNext, tVar, tC, gName, tOp, tUn, rI, rI0, rU, tIfS, tTest, tB, tIf, tAnd, tOr, tNot, tAndV, tOrV, tNotV, tCall, tCons, tNil, tCB, tLst, tTup, tChain, CMul, CDiv, CPow, rEq, rNe, gSub, L2.start, LL.cxK0, LL.cxK1, List.map_cons, List.map_nil, List.length_cons, List.length_nil, List.replicate_succ, List.replicate_zero, List.cons_append, List.nil_append, List.append_nil, List.getElem?_cons_zero, List.getElem?_cons_succ, List.set_cons_zero, List.set_cons_succ, Nat.add_sub_cancel, Nat.reduceAdd, Nat.reduceSub, Option.some.injEq, V.int.injEq, V.bl.injEq, V.ref.injEq, V.str.injEq, List.cons.injEq, and_true, true_and, and_false, false_and, exists_eq_left, exists_eq_left', exists_and_left, exists_and_right, exists_eq, exists_eq', LL.if_dec, reduceCtorEq, exists_false, exists_const, or_false, false_or, if_true, if_false, LL.rInt1, LL.rMx, LL.rMn, and_assoc, Int.reduceNeg, Int.reduceLT, Int.reduceLE, Int.reduceMul, Int.reduceAdd, Int.reduceSub, Int.reducePow, Int.reduceToNat, Nat.reducePow, Nat.reduceLT, true_or, or_true, Bool.not_true, Bool.not_false, Bool.false_eq_true, Bool.or_false, Bool.or_true, Bool.true_or, Bool.false_or, decide_true, decide_false, not_true_eq_false, not_false_eq_true, LL.scal_int, LL.scal_bl, LL.scal_str, LL.isInt, LL.isBl, LL.isStr, LL.isLst, LL.isTup, LL.isDic]
    split
    · refine use_take D' (by decide +kernel) fun v2 H2 a2 D2 h4 h5 => ?_
      simp only [tSeq, tAsg, tRet, tRetN, tDrop, tNext, tVar, tC, gName, tOp, tUn, rI, rI0, rU, tIfS, tTest, tB, tIf, tAnd, tOr, tNot, tAndV, tOrV, tNotV, tCall, tCons, tNil, tCB, tLst, tTup, tChain, CMul, CDiv, CPow, rEq, rNe, gSub, L2.start, LL.cxK0, LL.cxK1, List.map_cons, List.map_nil, List.length_cons, List.length_nil, List.replicate_succ, List.replicate_zero, List.cons_append, List.nil_append, List.append_nil, List.getElem?_cons_zero, List.getElem?_cons_succ, List.set_cons_zero, List.set_cons_succ, Nat.add_sub_cancel, Nat.reduceAdd, Nat.reduceSub, Option.some.injEq, V.int.injEq, V.bl.injEq, V.ref.injEq, V.str.injEq, List.cons.injEq, and_true, true_and, and_false, false_and, exists_eq_left, exists_eq_left', exists_and_left, exists_and_right, exists_eq, exists_eq', LL.if_dec, reduceCtorEq, exists_false, exists_const, or_false, false_or, if_true, if_false, LL.rInt1, LL.rMx, LL.rMn, and_assoc, Int.reduceNeg, Int.reduceLT, Int.reduceLE, Int.reduceMul, Int.reduceAdd, Int.reduceSub, Int.reducePow, Int.reduceToNat, Nat.reducePow, Nat.reduceLT, true_or, or_true, Bool.not_true, Bool.not_false, Bool.false_eq_true, Bool.or_false, Bool.or_true, Bool.true_or, Bool.false_or, decide_true, decide_false, not_true_eq_false, not_false_eq_true, LL.scal_int, LL.scal_bl, LL.scal_str, LL.isInt, LL.isBl, LL.isStr, LL.isLst, LL.isTup, LL.isDic]
      exact q _ _ (a.trans a2) D2
    · split
      · exact use_take D' (by decide +kernel) fun v2 H2 a2 D2 h4 h5 => q _ _ (a.trans a2) D2
      · split
        · exact ⟨by decide, use_take D' (by decide +kernel) fun v2 H2 a2 D2 h4 h5 => q _ _ (a.trans a2) D2⟩
        · refine ⟨by decide, by decide, use_take D' (by decide +kernel) fun v2 H2 a2 D2 h4 h5 => ⟨_, rfl, ?_⟩⟩
          have A2 := a.trans a2
          split
          · refine ⟨rfl, by decide, use_take D2 (by decide +kernel) fun v3 H3 a3 D3 h6 h7 => ⟨_, rfl, _, rfl, use_take D3 (by decide +kernel) fun v4 H4 a4 D4 h8 h9 => ⟨scal_int.mpr trivial, ?_⟩⟩⟩
            split
            · exact q _ _ ((A2.trans a3).trans a4) D4
            · exact q _ _ ((A2.trans a3).trans a4) D4
          · refine use_take D2 (by decide +kernel) fun v3 H3 a3 D3 h6 h7 => ⟨scal_int.mpr trivial, ?_⟩
            split
            · exact q _ _ (A2.trans a3) D3
            · exact q _ _ (A2.trans a3) D3
def sp_law_chars : Sp := fun vs H Q _ => vs = [] ∧ ∀ z : Str, z.length = 95 → Q (.str z) H
def sp_law_text : Sp := fun vs H Q _ => ∃ (d s : Addr), vs = [.ref d, .int 4] ∧ Drw d s H ∧ ∀ (z : Str) H', Aft d s H H' → Drw d s H' → Q (.str z) H'

theorem ok_law_chars (T : Tx K mg) : FnOk P w K mg base CX0 1 (He.ga K "_law_chars") T.fd_law_chars P_law_chars sp_law_chars := by
  refine T.F_law_chars.ok sc_law_chars (fun vs H Q E h => ?_) (fun cdv A outer s H vs Q E hr h => ⟨_, PSs.nox (pss_cons (ps_set (i := 0) sc_law_chars.nd rfl (Or.inl rfl) (pe_str)) (pss_one (ps_ret (pe_op op_add_str (pv 0) (pe_str))))), ?_⟩)
  · obtain ⟨rfl, _⟩ := h
    rfl
  · obtain ⟨rfl, q⟩ := h
    simp only [tSeq, tAsg, tRet, tRetN, tDrop, tNext, tVar, tC, gName, tOp, tUn, rI, rI0, rU, tIfS, tTest, tB, tIf, tAnd, tOr, tNot, tAndV, tOrV, tNotV, tCall, tCons, tNil, tCB, tLst, tTup, tChain, CMul, CDiv, CPow, rEq, rNe, gSub, L2.start, LL.cxK0, LL.cxK1, List.map_cons, List.map_nil, List.length_cons, List.length_nil, List.replicate_succ, List.replicate_zero, List.cons_append, List.nil_append, List.append_nil, List.getElem?_cons_zero, List.getElem?_cons_succ, List.set_cons_zero, List.set_cons_succ, Nat.add_sub_cancel, Nat.reduceAdd, Nat.reduceSub, Option.some.injEq, V.int.injEq, V.bl.injEq, V.ref.injEq, V.str.injEq, List.cons.injEq, and_true, true_and, and_false, false_and, exists_eq_left, exists_eq_left', exists_and_left, exists_and_right, exists_eq, exists_eq', LL.if_dec, reduceCtorEq, exists_false, exists_const, or_false, false_or, if_true, if_false, LL.rInt1, LL.rMx, LL.rMn, and_assoc, Int.reduceNeg, Int.reduceLT, Int.reduceLE, Int.reduceMul, Int.reduceAdd, Int.reduceSub, Int.reducePow, Int.reduceToNat, Nat.reducePow, Nat.reduceLT, true_or, or_true, Bool.not_true, Bool.not_false, Bool.false_eq_true, Bool.or_false, Bool.or_true, Bool.true_or, Bool.false_or, decide_true, decide_false, not_true_eq_false, not_false_eq_true, LL.scal_int, LL.scal_bl, LL.scal_str, LL.isInt, LL.isBl, LL.isStr, LL.isLst, LL.isTup, LL.isDic, N_law_chars]
    refine ⟨by decide +kernel, q _ (by decide +kernel)⟩
theorem ok_law_text (T : Tx K mg) : FnOk P w K mg base CX0 4 (He.ga K "_law_text") T.fd_law_text P_law_text sp_law_text := by
  refine T.F_law_text.ok sc_law_text (fun vs H Q E h => ?_) (fun cdv A outer s H vs Q E hr h => ⟨_, PSs.nox (pss_cons (ps_set (i := 2) sc_law_text.nd rfl (Or.inr rfl) (pe_call0 (ok_law_chars T) (hr.mono (by decide)) rfl T.g_law_chars T.F_law_chars.kp (b_law_chars T) .nil pass0)) (pss_one (ps_ret (pe_join (pe_str) (pe_lc (own := [("_law_k", 3)]) (by rfl) sc_law_text.nd (pi_range1 rfl T.z_range (pa_cons (pe_call (ok_law_between T) hr rfl T.g_law_between T.F_law_between.kp (b_law_between T) .nil pass0 (pa_cons (pv 0) (pa_cons (pe_int) (pa_cons (pv 1) pa_nil)))) pa_nil)) (blkOk_by (N := N_law_text) (sc := defScope s_law_text) (by decide +kernel)) (fun _ _ _ _ _ => (pg_name (i := 3) sc_law_text.nd rfl (Or.inl rfl))) (fun _ _ _ _ _ => pts_nil) (fun _ _ _ _ _ => (pe_ix ix_str (pv 2) (pe_call (ok_law_take T) (hr.mono (by decide)) rfl T.g_law_take T.F_law_take.kp (b_law_take T) .nil pass0 (pa_cons (pv 0) (pa_cons (pe_int) pa_nil))) (fun _ _ => rfl)))))))), ?_⟩)
  · obtain ⟨_, _, rfl, _⟩ := h
    rfl
  · obtain ⟨d, s, rfl, D, q⟩ := h
    simp only [tSeq, tAsg, tRet, tRetN, tDrop, tNext, tVar, tC, gName, tOp, tUn, rI, rI0, rU, tIfS, tTest, tB, tIf, tAnd, tOr, tNot, tAndV, tOrV, tNotV, tCall, tCons, tNil, tCB, tLst, tTup, tChain, CMul, CDiv, CPow, rEq, rNe, gSub, L2.start, LL.cxK0, LL.cxK1, List.map_cons, List.map_nil, List.length_cons, List.length_nil, List.replicate_succ, List.replicate_zero, List.cons_append, List.nil_append, List.append_nil, List.getElem?_cons_zero, List.getElem?_cons_succ, List.set_cons_zero, List.set_cons_succ, Nat.add_sub_cancel, Nat.reduceAdd, Nat.reduceSub, Option.some.injEq, V.int.injEq, V.bl.injEq, V.ref.injEq, V.str.injEq, List.cons.injEq, and_true, true_and, and_false, false_and, exists_eq_left, exists_eq_left', exists_and_left, exists_and_right, exists_eq, exists_eq', LL.if_dec, reduceCtorEq, exists_false, exists_const, or_false, false_or, if_true, if_false, LL.rInt1, LL.rMx, LL.rMn, and_assoc, Int.reduceNeg, Int.reduceLT, Int.reduceLE, Int.reduceMul, Int.reduceAdd, Int.reduceSub, Int.reducePow, Int.reduceToNat, Nat.reducePow, Nat.reduceLT, true_or, or_true, Bool.not_true, Bool.not_false, Bool.false_eq_true, Bool.or_false, Bool.or_true, Bool.true_or, Bool.false_or, decide_true, decide_false, not_true_eq_false, not_false_eq_true, LL.scal_int, LL.scal_bl, LL.scal_str, LL.isInt, LL.isBl, LL.isStr, LL.isLst, LL.isTup, LL.isDic, N_law_text]
    refine ⟨rfl, fun z hz => ?_⟩
    simp only [tM1]
    simp only [tSeq, tAsg, tRet, tRetN, tDrop, tNext, tVar, tC, gName, tOp, tUn, rI, rI0, rU, tIfS, tTest, tB, tIf, tAnd, tOr, tNot, tAndV, tOrV, tNotV, tCall, tCons, tNil, tCB, tLst, tTup, tChain, CMul, CDiv, CPow, rEq, rNe, gSub, L2.start, LL.cxK0, LL.cxK1, List.map_cons, List.map_nil, List.length_cons, List.length_nil, List.replicate_succ, List.replicate_zero, List.cons_append, List.nil_append, List.append_nil, List.getElem?_cons_zero, List.getElem?_cons_succ, List.set_cons_zero, List.set_cons_succ, Nat.add_sub_cancel, Nat.reduceAdd, Nat.reduceSub, Option.some.injEq, V.int.injEq, V.bl.injEq, V.ref.injEq, V.str.injEq, List.cons.injEq, and_true, true_and, and_false, false_and, exists_eq_left, exists_eq_left', exists_and_left, exists_and_right, exists_eq, exists_eq', LL.if_dec, reduceCtorEq, exists_false, exists_const, or_false, false_or, if_true, if_false, LL.rInt1, LL.rMx, LL.rMn, and_assoc, Int.reduceNeg, Int.reduceLT, Int.reduceLE, Int.reduceMul, Int.reduceAdd, Int.reduceSub, Int.reducePow, Int.reduceToNat, Nat.reducePow, Nat.reduceLT, true_or, or_true, Bool.not_true, Bool.not_false, Bool.false_eq_true, Bool.or_false, Bool.or_true, Bool.true_or, Bool.false_or, decide_true, decide_false, not_true_eq_false, not_false_eq_true, LL.scal_int, LL.scal_bl, LL.scal_str, LL.isInt, LL.isBl, LL.isStr, LL.isLst, LL.isTup, LL.isDic]
    refine use_lcR (R := fun j H' => Aft d s H H' ∧ Drw d s H' ∧ 0 ≤ j ∧ j ≤ 4) (fun Q hQ => ?_) (fun j H' h => ⟨by omega, by omega⟩)
      (fun j D i H' => Aft d s H H' ∧ j ≤ 4 ∧ 0 ≤ j ∧ i ≤ j.toNat ∧ H D = none ∧ ∃ ys : List Str, H' D = some (.lst (ys.map V.str)) ∧ ys.length = i ∧ (ys.map (·.length)).sum = i) ?_ ?_ ?_
    · simp only [tSeq, tAsg, tRet, tRetN, tDrop, tNext, tVar, tC, gName, tOp, tUn, rI, rI0, rU, tIfS, tTest, tB, tIf, tAnd, tOr, tNot, tAndV, tOrV, tNotV, tCall, tCons, tNil, tCB, tLst, tTup, tChain, CMul, CDiv, CPow, rEq, rNe, gSub, L2.start, LL.cxK0, LL.cxK1, List.map_cons, List.map_nil, List.length_cons, List.length_nil, List.replicate_succ, List.replicate_zero, List.cons_append, List.nil_append, List.append_nil, List.getElem?_cons_zero, List.getElem?_cons_succ, List.set_cons_zero, List.set_cons_succ, Nat.add_sub_cancel, Nat.reduceAdd, Nat.reduceSub, Option.some.injEq, V.int.injEq, V.bl.injEq, V.ref.injEq, V.str.injEq, List.cons.injEq, and_true, true_and, and_false, false_and, exists_eq_left, exists_eq_left', exists_and_left, exists_and_right, exists_eq, exists_eq', LL.if_dec, reduceCtorEq, exists_false, exists_const, or_false, false_or, if_true, if_false, LL.rInt1, LL.rMx, LL.rMn, and_assoc, Int.reduceNeg, Int.reduceLT, Int.reduceLE, Int.reduceMul, Int.reduceAdd, Int.reduceSub, Int.reducePow, Int.reduceToNat, Nat.reducePow, Nat.reduceLT, true_or, or_true, Bool.not_true, Bool.not_false, Bool.false_eq_true, Bool.or_false, Bool.or_true, Bool.true_or, Bool.false_or, decide_true, decide_false, not_true_eq_false, not_false_eq_true, LL.scal_int, LL.scal_bl, LL.scal_str, LL.isInt, LL.isBl, LL.isStr, LL.isLst, LL.isTup, LL.isDic]
      exact use_between D (big_of (by omega) (by omega)) fun v H' a D' h2 h3 => hQ _ _ ⟨a, D', h2, by omega⟩
    · rintro j H' L ⟨a, D', j0, j4⟩ hL
      exact ⟨a.new hL, j4, j0, Nat.zero_le _, a.free hL, [], upd_same, rfl, rfl⟩
    · rintro j L i H' hi ⟨a, j4, j0, hij, hL, ys, eL, hy1, hy2⟩
      simp only [tSeq, tAsg, tRet, tRetN, tDrop, tNext, tVar, tC, gName, tOp, tUn, rI, rI0, rU, tIfS, tTest, tB, tIf, tAnd, tOr, tNot, tAndV, tOrV, tNotV, tCall, tCons, tNil, tCB, tLst, tTup, tChain, CMul, CDiv, CPow, rEq, rNe, gSub, L2.start, LL.cxK0, LL.cxK1, List.map_cons, List.map_nil, List.length_cons, List.length_nil, List.replicate_succ, List.replicate_zero, List.cons_append, List.nil_append, List.append_nil, List.getElem?_cons_zero, List.getElem?_cons_succ, List.set_cons_zero, List.set_cons_succ, Nat.add_sub_cancel, Nat.reduceAdd, Nat.reduceSub, Option.some.injEq, V.int.injEq, V.bl.injEq, V.ref.injEq, V.str.injEq, List.cons.injEq, and_true, true_and, and_false, false_and, exists_eq_left, exists_eq_left', exists_and_left, exists_and_right, exists_eq, exists_eq', LL.if_dec, reduceCtorEq, exists_false, exists_const, or_false, false_or, if_true, if_false, LL.rInt1, LL.rMx, LL.rMn, and_assoc, Int.reduceNeg, Int.reduceLT, Int.reduceLE, Int.reduceMul, Int.reduceAdd, Int.reduceSub, Int.reducePow, Int.reduceToNat, Nat.reducePow, Nat.reduceLT, true_or, or_true, Bool.not_true, Bool.not_false, Bool.false_eq_true, Bool.or_false, Bool.or_true, Bool.true_or, Bool.false_or, decide_true, decide_false, not_true_eq_false, not_false_eq_true, LL.scal_int, LL.scal_bl, LL.scal_str, LL.isInt, LL.isBl, LL.isStr, LL.isLst, LL.isTup, LL.isDic, tYes, wipe, List.foldl_cons, List.foldl_nil]
      refine use_take a.dr (by decide +kernel) fun v H2 a2 D2 h4 h5 => ?_
      have hv : v.toNat < z.cps.toList.length := by
        have : z.cps.toList.length = 95 := by rw [← hz]; simp [Str.length]
        omega
      have ev : atI z.cps.toList v = some z.cps.toList[v.toNat] := by
        have h := atI_nat (List.getElem?_eq_getElem hv)
        rw [Int.toNat_of_nonneg h4] at h
        exact h
      refine ⟨z, v, _, rfl, rfl, by rw [hz]; decide, ev, ?_⟩
      have eL2 := a2.kp _ _ (D.ne _ hL) eL
      refine ⟨_, eL2, small_sz (by rw [List.length_map]; omega), Aft.own D (a.trans a2) hL, j4, j0, by omega, hL, ys ++ [⟨#[z.cps.toList[v.toNat]]⟩], ?_, ?_, ?_⟩
      · rw [upd_same, List.map_append]
        rfl
      · rw [List.length_append, hy1]
        rfl
      · rw [List.map_append, List.sum_append, hy2]
        rfl
    · rintro j L H' ⟨a, j4, j0, hij, hL, ys, eL, hy1, hy2⟩
      refine ⟨_, rfl, ys, .inl (SqL.of eL), ?_, q _ _ a a.dr⟩
      rw [hy2, hy1]
      rw [show (Str.ofString "").length = 0 by decide +kernel, Nat.mul_zero]
      omega
/-- any plain data, deep turns deep at most -/
def sp_law_plain (n : Nat) : Sp := fun vs H Q _ => ∃ (d s : Addr) (m : Nat), vs = [.ref d, .int m] ∧ Drw d s H ∧ m < n ∧ n ≤ 3 ∧ ∀ v t H', Aft d s H H' → Drw d s H' → Dt (fun a => H a = none) H' v t → dep t ≤ 2 * m + 2 → Q v H'
theorem use_plain {n m : Nat} {d s : Addr} {H : Hp} {Q : VK} {E : XK} (D : Drw d s H) (hm : m < n) (hn : n ≤ 3) (q : ∀ v t H', Aft d s H H' → Drw d s H' → Dt (fun a => H a = none) H' v t → dep t ≤ 2 * m + 2 → Q v H') : sp_law_plain n [.ref d, .int m] H Q E := ⟨d, s, m, rfl, D, hm, hn, q⟩

theorem ok_law_plain (T : Tx K mg) : ∀ n : Nat, FnOk P w K mg base CX0 (n + 8) (He.ga K "_law_plain") T.fd_law_plain P_law_plain (sp_law_plain n) := by
  intro n
  induction n with
  | zero => exact ⟨fun vs H Q E h => by obtain ⟨_, _, _, _, _, h, _⟩ := h; exact absurd h (Nat.not_lt_zero _), fun A outer s H args us vs Q E hr he hb hv h => by obtain ⟨_, _, _, _, _, h, _⟩ := h; exact absurd h (Nat.not_lt_zero _)⟩
  | succ n ih =>
    refine T.F_law_plain.ok sc_law_plain (fun vs H Q E h => ?_) (fun cdv A outer s H vs Q E hr h => ⟨_, PSs.nox (pss_cons (ps_set (i := 2) sc_law_plain.nd rfl (Or.inl rfl) (pe_call (ok_law_take T) (hr.mono (by omega)) rfl T.g_law_take T.F_law_take.kp (b_law_take T) .nil pass0 (pa_cons (pv 0) (pa_cons (pe_int) pa_nil)))) (pss_cons (ps_if (pt_cmpR op_eq (pv 2) (pe_int) (nomark _)) (pss_one (ps_ret (pe_non))) pss_nil) (pss_cons (ps_if (pt_cmpR op_eq (pv 2) (pe_int) (nomark _)) (pss_one (ps_ret (pe_cmpR op_eq (pe_call (ok_law_take T) (hr.mono (by omega)) rfl T.g_law_take T.F_law_take.kp (b_law_take T) .nil pass0 (pa_cons (pv 0) (pa_cons (pe_int) pa_nil))) (pe_int) (nomark _)))) pss_nil) (pss_cons (ps_if (pt_cmpR op_lt (pv 2) (pe_int) (nomark _)) (pss_one (ps_ret (pe_call (ok_law_integer T) (hr.mono (by omega)) rfl T.g_law_integer T.F_law_integer.kp (b_law_integer T) .nil pass0 (pa_cons (pv 0) pa_nil)))) pss_nil) (pss_cons (ps_if (pt_cmpR op_eq (pv 2) (pe_int) (nomark _)) (pss_one (ps_ret (pe_call (ok_law_text T) (hr.mono (by omega)) rfl T.g_law_text T.F_law_text.kp (b_law_text T) .nil pass0 (pa_cons (pv 0) (pa_cons (pe_int) pa_nil))))) pss_nil) (pss_cons (ps_set (i := 3) sc_law_plain.nd rfl (Or.inl rfl) (pe_lst pa_nil)) (pss_cons (ps_if (pt_cmpR op_gt (pv 1) (pe_int) (nomark _)) (pss_one (ps_setLc (i := 3) (own := [("_law_k", 4)]) rfl sc_law_plain.nd rfl rfl (sw_true rfl rfl rfl (by decide +kernel)) (pi_range1 rfl T.z_range (pa_cons (pe_call (ok_law_take T) (hr.mono (by omega)) rfl T.g_law_take T.F_law_take.kp (b_law_take T) .nil pass0 (pa_cons (pv 0) (pa_cons (pe_int) pa_nil))) pa_nil)) (blkOk_by (N := N_law_plain) (sc := defScope s_law_plain) (by decide +kernel)) (fun _ _ _ _ _ => (pg_name (i := 4) sc_law_plain.nd rfl (Or.inl rfl))) (fun _ _ _ _ _ => pts_nil) (fun _ _ _ _ _ => (pe_call ih hr rfl T.g_law_plain T.F_law_plain.kp (b_law_plain T) .nil pass0 (pa_cons (pv 0) (pa_cons (pe_op op_sub (pv 1) (pe_int)) pa_nil)))))) pss_nil) (pss_cons (ps_if (pt_cmpR op_lt (pv 2) (pe_int) (nomark _)) (pss_one (ps_ret (pe_callTy LL.call_tupL (by rfl) T.z_tuple (by decide +kernel) (pa_cons (pv 3) pa_nil)))) pss_nil) (pss_cons (ps_if (pt_cmpR op_eq (pv 2) (pe_int) (nomark _)) (pss_one (ps_ret (pv 3))) pss_nil) (pss_one (ps_ret (pe_disp (pps_cons (pe_str) (pv 3) pps_nil) (by rfl) (by rfl) (fun z => by cases z) (by decide))))))))))))), ?_⟩)
    · obtain ⟨_, _, _, rfl, _⟩ := h
      rfl
    · obtain ⟨d, s, m, rfl, D, hm, hn, q⟩ := h
      simp only [tSeq, tAsg, tRet, tRetN, tDrop, tNext, tVar, tC, gName, tOp, tUn, rI, rI0, rU, tIfS, tTest, tB, tIf, tAnd, tOr, tNot, tAndV, tOrV, tNotV, tCall, tCons, tNil, tCB, tLst, tTup, tChain, CMul, CDiv, CPow, rEq, rNe, gSub, L2.start, LL.cxK0, LL.cxK1, List.map_cons, List.map_nil, List.length_cons, List.length_nil, List.replicate_succ, List.replicate_zero, List.cons_append, List.nil_append, List.append_nil, List.getElem?_cons_zero, List.getElem?_cons_succ, List.set_cons_zero, List.set_cons_succ, Nat.add_sub_cancel, Nat.reduceAdd, Nat.reduceSub, Option.some.injEq, V.int.injEq, V.bl.injEq, V.ref.injEq, V.str.injEq, List.cons.injEq, and_true, true_and, and_false, false_and, exists_eq_left, exists_eq_left', exists_and_left, exists_and_right, exists_eq, exists_eq', LL.if_dec, reduceCtorEq, exists_false, exists_const, or_false, false_or, if_true, if_false, LL.rInt1, LL.rMx, LL.rMn, and_assoc, Int.reduceNeg, Int.reduceLT, Int.reduceLE, Int.reduceMul, Int.reduceAdd, Int.reduceSub, Int.reducePow, Int.reduceToNat, Nat.reducePow, Nat.reduceLT, true_or, or_true, Bool.not_true, Bool.not_false, Bool.false_eq_true, Bool.or_false, Bool.or_true, Bool.true_or, Bool.false_or, decide_true, decide_false, not_true_eq_false, not_false_eq_true, LL.scal_int, LL.scal_bl, LL.scal_str, LL.isInt, LL.isBl, LL.isStr, LL.isLst, LL.isTup, LL.isDic, N_law_plain]
      refine use_take D (by decide +kernel) fun v H' a D' v0 v1 => ?_
      simp only [tSeq, tAsg, tRet, tRetN, tDrop, tNext, tVar, tC, gName, tOp, tUn, rI, rI0, rU, tIfS, tTest, tB, tIf, tAnd, tOr, tNot, tAndV, tOrV, tNotV, tCall, tCons, tNil, tCB, tLst, tTup, tChain, CMul, CDiv, CPow, rEq, rNe, gSub, L2.start, LL.cxK0, LL.cxK1, List.map_cons, List.map_nil, List.length_cons, List.length_nil, List.replicate_succ, List.replicate_zero, List.cons_append, List.nil_append, List.append_nil, List.getElem?_cons_zero, List.getElem?_cons_succ, List.set_cons_zero, List.set_cons_succ, Nat.add_sub_cancel, Nat.reduceAdd, Nat.reduceSub, Option.some.injEq, V.int.injEq, V.bl.injEq, V.ref.injEq, V.str.injEq, List.cons.injEq, and_true, true_and, and_false, false_and, exists_eq_left, exists_eq_left', exists_and_left, exists_and_right, exists_eq, exists_eq', LL.if_dec, reduceCtorEq, exists_false, exists_const, or_false, false_or, if_true, if_false, LL.rInt1, LL.rMx, LL.rMn, and_assoc, Int.reduceNeg, Int.reduceLT, Int.reduceLE, Int.reduceMul, Int.reduceAdd, Int.reduceSub, Int.reducePow, Int.reduceToNat, Nat.reducePow, Nat.reduceLT, true_or, or_true, Bool.not_true, Bool.not_false, Bool.false_eq_true, Bool.or_false, Bool.or_true, Bool.true_or, Bool.false_or, decide_true, decide_false, not_true_eq_false, not_false_eq_true, LL.scal_int, LL.scal_bl, LL.scal_str, LL.isInt, LL.isBl, LL.isStr, LL.isLst, LL.isTup, LL.isDic]
      by_cases v0' : v = 0
      · rw [if_pos v0']
        exact q _ .non _ a D' rfl (by simp [dep])
      rw [if_neg v0']
      by_cases v1' : v = 1
      · rw [if_pos v1']
        refine use_take D' (by decide +kernel) fun v2 H2 a2 D2 h4 h5 => ⟨scal_int.mpr trivial, ?_⟩
        exact q _ (.bl _) _ (a.trans a2) D2 rfl (by simp [dep])
      rw [if_neg v1']
      by_cases v5 : v < 5
      · rw [if_pos v5]
        exact ⟨d, s, rfl, D', fun i H2 a2 D2 => q _ (.int i) _ (a.trans a2) D2 rfl (by simp [dep])⟩
      rw [if_neg v5]
      by_cases v5' : v = 5
      · rw [if_pos v5']
        exact ⟨d, s, rfl, D', fun z H2 a2 D2 => q _ (.str z) _ (a.trans a2) D2 rfl (by simp [dep])⟩
      rw [if_neg v5']
      have tail : ∀ (L : Addr) (acc : List V) (us : List LL.T) (H1 : Hp), Aft d s H H1 → H L = none → H1 L = some (.lst acc) → DtL (fun b => H b = none ∧ b ≠ L) H1 acc us → us.length ≤ 3 → depL us ≤ 2 * m →
          (if v < 8 then rTupL [V.ref L] H1 Q else if v = 8 then Q (V.ref L) H1 else tDisp [(tC (V.str "a"), tVar 3)] [some (V.ref d), some (V.int m), some (V.int v), some (V.ref L), none] H1 Q) := by
        intro L acc us H1 a1 hL eL hacc hu hd
        split
        · refine ⟨L, acc, rfl, eL, fun l hl => ?_⟩
          exact q _ (.tup us) _ (a1.new hl) (a1.new hl).dr ⟨l, acc, rfl, a1.free hl, upd_same, (hacc.same (Same.new (Same.refl _) hl)).to (fun b h => h.1), by omega⟩ (by show depL us + 1 ≤ _; omega)
        · split
          · exact q _ (.lst us) _ a1 a1.dr ⟨L, acc, rfl, hL, eL, hacc.to (fun b h => h.1), by omega⟩ (by show depL us + 1 ≤ _; omega)
          · unfold tDisp
            intro pd hpd
            simp only [tPairs, tC, tVar]
            simp only [tSeq, tAsg, tRet, tRetN, tDrop, tNext, tVar, tC, gName, tOp, tUn, rI, rI0, rU, tIfS, tTest, tB, tIf, tAnd, tOr, tNot, tAndV, tOrV, tNotV, tCall, tCons, tNil, tCB, tLst, tTup, tChain, CMul, CDiv, CPow, rEq, rNe, gSub, L2.start, LL.cxK0, LL.cxK1, List.map_cons, List.map_nil, List.length_cons, List.length_nil, List.replicate_succ, List.replicate_zero, List.cons_append, List.nil_append, List.append_nil, List.getElem?_cons_zero, List.getElem?_cons_succ, List.set_cons_zero, List.set_cons_succ, Nat.add_sub_cancel, Nat.reduceAdd, Nat.reduceSub, Option.some.injEq, V.int.injEq, V.bl.injEq, V.ref.injEq, V.str.injEq, List.cons.injEq, and_true, true_and, and_false, false_and, exists_eq_left, exists_eq_left', exists_and_left, exists_and_right, exists_eq, exists_eq', LL.if_dec, reduceCtorEq, exists_false, exists_const, or_false, false_or, if_true, if_false, LL.rInt1, LL.rMx, LL.rMn, and_assoc, Int.reduceNeg, Int.reduceLT, Int.reduceLE, Int.reduceMul, Int.reduceAdd, Int.reduceSub, Int.reducePow, Int.reduceToNat, Nat.reducePow, Nat.reduceLT, true_or, or_true, Bool.not_true, Bool.not_false, Bool.false_eq_true, Bool.or_false, Bool.or_true, Bool.true_or, Bool.false_or, decide_true, decide_false, not_true_eq_false, not_false_eq_true, LL.scal_int, LL.scal_bl, LL.scal_str, LL.isInt, LL.isBl, LL.isStr, LL.isLst, LL.isTup, LL.isDic]
            refine ⟨upd_same, [(Sum.inr "a", V.ref L)], rfl, by simp, ?_⟩
            have np : H pd = none := a1.free hpd
            have ne : L ≠ pd := ne_of_none eL hpd
            rw [upd_upd, show mergeK [] [((Sum.inr "a" : Key), V.ref L)] = [((Sum.inr "a" : Key), V.ref L)] by simp [mergeK, putK]]
            have hs := Same.new (Same.refl H1) hpd (o := .dK [(Sum.inr "a", V.ref L)])
            refine q _ (.dic (.lst us)) _ (a1.new hpd) (a1.new hpd).dr ⟨pd, _, rfl, np, upd_same, L, acc, rfl, hL, hs _ _ eL, (hacc.same hs).to (fun b h => h.1), by omega⟩ ?_
            show depL us + 1 + 1 ≤ _
            omega
      refine ⟨by decide, fun p hp => ?_⟩
      by_cases m0 : (0 : Int) < m
      · rw [if_pos m0]
        have aN : Aft d s H (upd H' p (.lst [])) := a.new hp
        generalize upd H' p (.lst []) = H1 at aN ⊢
        refine use_lcR (R := fun j H' => Aft d s H H' ∧ Drw d s H' ∧ 0 ≤ j ∧ j ≤ 3) (fun Q hQ => ?_) (fun j H' h => ⟨by omega, by omega⟩)
          (fun j L i H' => Aft d s H H' ∧ j ≤ 3 ∧ 0 ≤ j ∧ i ≤ j.toNat ∧ H L = none ∧ ∃ acc us, H' L = some (.lst acc) ∧ us.length = i ∧ depL us ≤ 2 * m ∧ DtL (fun b => H b = none ∧ b ≠ L) H' acc us) ?_ ?_ ?_
        · simp only [tSeq, tAsg, tRet, tRetN, tDrop, tNext, tVar, tC, gName, tOp, tUn, rI, rI0, rU, tIfS, tTest, tB, tIf, tAnd, tOr, tNot, tAndV, tOrV, tNotV, tCall, tCons, tNil, tCB, tLst, tTup, tChain, CMul, CDiv, CPow, rEq, rNe, gSub, L2.start, LL.cxK0, LL.cxK1, List.map_cons, List.map_nil, List.length_cons, List.length_nil, List.replicate_succ, List.replicate_zero, List.cons_append, List.nil_append, List.append_nil, List.getElem?_cons_zero, List.getElem?_cons_succ, List.set_cons_zero, List.set_cons_succ, Nat.add_sub_cancel, Nat.reduceAdd, Nat.reduceSub, Option.some.injEq, V.int.injEq, V.bl.injEq, V.ref.injEq, V.str.injEq, List.cons.injEq, and_true, true_and, and_false, false_and, exists_eq_left, exists_eq_left', exists_and_left, exists_and_right, exists_eq, exists_eq', LL.if_dec, reduceCtorEq, exists_false, exists_const, or_false, false_or, if_true, if_false, LL.rInt1, LL.rMx, LL.rMn, and_assoc, Int.reduceNeg, Int.reduceLT, Int.reduceLE, Int.reduceMul, Int.reduceAdd, Int.reduceSub, Int.reducePow, Int.reduceToNat, Nat.reducePow, Nat.reduceLT, true_or, or_true, Bool.not_true, Bool.not_false, Bool.false_eq_true, Bool.or_false, Bool.or_true, Bool.true_or, Bool.false_or, decide_true, decide_false, not_true_eq_false, not_false_eq_true, LL.scal_int, LL.scal_bl, LL.scal_str, LL.isInt, LL.isBl, LL.isStr, LL.isLst, LL.isTup, LL.isDic]
          exact use_take aN.dr (by decide +kernel) fun v2 H2 a2 D2 h2 h3 => hQ _ _ ⟨aN.trans a2, D2, h2, by omega⟩
        · rintro j H2 L ⟨a2, D2, j0, j3⟩ hL
          exact ⟨a2.new hL, j3, j0, Nat.zero_le _, a2.free hL, [], [], upd_same, rfl, Nat.zero_le _, rfl⟩
        · rintro j L i H2 hi ⟨a2, j3, j0, hij, hL, acc, us, eL, hu, hdp, hacc⟩
          simp only [tSeq, tAsg, tRet, tRetN, tDrop, tNext, tVar, tC, gName, tOp, tUn, rI, rI0, rU, tIfS, tTest, tB, tIf, tAnd, tOr, tNot, tAndV, tOrV, tNotV, tCall, tCons, tNil, tCB, tLst, tTup, tChain, CMul, CDiv, CPow, rEq, rNe, gSub, L2.start, LL.cxK0, LL.cxK1, List.map_cons, List.map_nil, List.length_cons, List.length_nil, List.replicate_succ, List.replicate_zero, List.cons_append, List.nil_append, List.append_nil, List.getElem?_cons_zero, List.getElem?_cons_succ, List.set_cons_zero, List.set_cons_succ, Nat.add_sub_cancel, Nat.reduceAdd, Nat.reduceSub, Option.some.injEq, V.int.injEq, V.bl.injEq, V.ref.injEq, V.str.injEq, List.cons.injEq, and_true, true_and, and_false, false_and, exists_eq_left, exists_eq_left', exists_and_left, exists_and_right, exists_eq, exists_eq', LL.if_dec, reduceCtorEq, exists_false, exists_const, or_false, false_or, if_true, if_false, LL.rInt1, LL.rMx, LL.rMn, and_assoc, Int.reduceNeg, Int.reduceLT, Int.reduceLE, Int.reduceMul, Int.reduceAdd, Int.reduceSub, Int.reducePow, Int.reduceToNat, Nat.reducePow, Nat.reduceLT, true_or, or_true, Bool.not_true, Bool.not_false, Bool.false_eq_true, Bool.or_false, Bool.or_true, Bool.true_or, Bool.false_or, decide_true, decide_false, not_true_eq_false, not_false_eq_true, LL.scal_int, LL.scal_bl, LL.scal_str, LL.isInt, LL.isBl, LL.isStr, LL.isLst, LL.isTup, LL.isDic, tYes, wipe, List.foldl_cons, List.foldl_nil]
          rw [show (m : Int) - 1 = ((m - 1 : Nat) : Int) by omega]
          refine use_plain a2.dr (by omega) (by omega) fun x t H3 a3 D3 hx hd3 => ?_
          obtain ⟨g1, g2⟩ := growA D hL a2 a3 hacc (new_ofA a2 eL) hx
          have hal : acc.length = i := by rw [hacc.len, hu]
          refine ⟨acc, a3.kp _ _ (D.ne _ hL) eL, small_sz (by omega), g1, j3, j0, by omega, hL, _, upd_same, us ++ [t], by rw [List.length_append, hu]; rfl, ?_, g2⟩
          rw [depL_app]
          show max (depL us) (max (dep t) 0) ≤ 2 * m
          omega
        · rintro j L H2 ⟨a2, j3, j0, hij, hL, acc, us, eL, hu, hdp, hacc⟩
          exact tail L acc us H2 a2 hL eL hacc (by omega) hdp
      · rw [if_neg m0]
        exact tail p [] [] _ (a.new hp) (a.free hp) upd_same rfl (by simp) (Nat.zero_le _)
end K01

namespace K01
open PySem PySem.Spec PyProof.Rows L2 LL
variable {P : Program} {w : World} {K : PySem.W.Frag} {mg : Str → Option Value} {base : Heap}

/-- a span -/
def Spn (a b : Int) : Prop := 0 ≤ a ∧ 1 ≤ b ∧ a + b ≤ 1000000000
instance (a b : Int) : Decidable (Spn a b) := by unfold Spn; infer_instance
def spanB : LL.T → Bool
  | .tup [.int a, .int b] => decide (Spn a b)
  | _ => false
theorem span_pair {t : LL.T} (h : pairB t = false) : spanB t = false := by
  unfold spanB
  split
  · cases h
  · rfl
def sp_span (K : PySem.W.Frag) : Sp := fun vs H Q _ => ∃ (F : Addr → Prop) (v : V) (t : LL.T), vs = [v] ∧ Dt F H v t ∧ Q (.bl (spanB t)) H
theorem use_span {K : PySem.W.Frag} {F : Addr → Prop} {v : V} {t : LL.T} {H : Hp} {Q : VK} {E : XK} (h : Dt F H v t) (q : Q (.bl (spanB t)) H) : sp_span K [v] H Q E := ⟨F, v, t, rfl, h, q⟩
theorem pair_of {t : LL.T} (h : pairB t = true) : ∃ a b, t = .tup [.int a, .int b] := by
  unfold pairB at h
  split at h
  · exact ⟨_, _, rfl⟩
  · cases h
theorem itei {p : Prop} [Decidable p] {A B : Prop} (h1 : p → A) (h2 : ¬p → B) : if p then A else B := by
  by_cases h : p
  · rw [if_pos h]; exact h1 h
  · rw [if_neg h]; exact h2 h
theorem spn_fin {a b : Int} {H : Hp} {Q : VK} (q : Q (.bl (spanB (.tup [.int a, .int b]))) H) : (if 0 ≤ a then (if 1 ≤ b then Q (.bl (decide (a + b ≤ 1000000000))) H else Q (.bl false) H) else Q (.bl false) H) := by
  by_cases h0 : 0 ≤ a
  · rw [if_pos h0]
    by_cases h1 : 1 ≤ b
    · rw [if_pos h1]
      rw [show spanB (.tup [.int a, .int b]) = decide (a + b ≤ 1000000000) from decide_eq_decide.mpr ⟨fun h => h.2.2, fun h => ⟨h0, h1, h⟩⟩] at q
      exact q
    · rw [if_neg h1]
      rw [show spanB (.tup [.int a, .int b]) = false from decide_eq_false fun h => h1 h.2.1] at q
      exact q
  · rw [if_neg h0]
    rw [show spanB (.tup [.int a, .int b]) = false from decide_eq_false fun h => h0 h.1] at q
    exact q

theorem ok_is_span (T : Tx K mg) : FnOk P w K mg base CX0 2 (He.ga K "is_span") T.fd_is_span P_is_span (sp_span K) := by
  refine T.F_is_span.ok sc_is_span (fun vs H Q E h => ?_) (fun cdv A outer s H vs Q E hr h => ⟨_, PSs.nox (pss_cons (ps_if (PW.pt (pw_or (pt_not (pt_val (pe_callB call_isi (by rfl) T.z_isinstance (by decide +kernel) (pa_cons (pv 0) (pa_cons (pe_bltn (v := .ty "tuple") (u := .type "tuple") (by rfl) T.z_tuple (by decide +kernel) rfl) pa_nil))))) (pw_or1 (pt_cmpR op_ne (pe_callB LL.call_lenT (by rfl) T.z_len (by decide +kernel) (pa_cons (pv 0) pa_nil)) (pe_int) (nomark _))))) (pss_one (ps_ret (pe_bl))) pss_nil) (pss_cons (ps_asg (pv 0) (pg_tup rfl (pgs_cons (pg_name (i := 1) sc_is_span.nd rfl (Or.inl rfl)) (pgs_cons (pg_name (i := 2) sc_is_span.nd rfl (Or.inl rfl)) pgs_nil)))) (pss_cons (ps_if (PW.pt (pw_or (pt_not (pt_val (pe_call (ok_is_whole T) hr rfl T.g_is_whole T.F_is_whole.kp (b_is_whole T) .nil pass0 (pa_cons (pv 1) pa_nil)))) (pw_or1 (pt_not (pt_val (pe_call (ok_is_whole T) hr rfl T.g_is_whole T.F_is_whole.kp (b_is_whole T) .nil pass0 (pa_cons (pv 2) pa_nil))))))) (pss_one (ps_ret (pe_bl))) pss_nil) (pss_one (ps_ret ((pe_and (pe_cmpR op_ge (pv 1) (pe_int) (nomark _)) (pe_and (pe_cmpR op_ge (pv 2) (pe_int) (nomark _)) (pe_one (pe_cmpR op_le (pe_op op_add (pv 1) (pv 2)) (pe_glob (v := .int 1000000000) rfl T.c_MOST_PLACE.choose_spec ⟨_, rfl⟩) (nomark _))))))))))), ?_⟩)
  · obtain ⟨_, _, _, rfl, _⟩ := h
    rfl
  · obtain ⟨F, v, t, rfl, hd, q⟩ := h
    simp only [tSeq, tAsg, tRet, tRetN, tDrop, tNext, tVar, tC, gName, tOp, tUn, rI, rI0, rU, tIfS, tTest, tB, tIf, tAnd, tOr, tNot, tAndV, tOrV, tNotV, tCall, tCons, tNil, tCB, tLst, tTup, tChain, CMul, CDiv, CPow, rEq, rNe, gSub, L2.start, LL.cxK0, LL.cxK1, List.map_cons, List.map_nil, List.length_cons, List.length_nil, List.replicate_succ, List.replicate_zero, List.cons_append, List.nil_append, List.append_nil, List.getElem?_cons_zero, List.getElem?_cons_succ, List.set_cons_zero, List.set_cons_succ, Nat.add_sub_cancel, Nat.reduceAdd, Nat.reduceSub, Option.some.injEq, V.int.injEq, V.bl.injEq, V.ref.injEq, V.str.injEq, List.cons.injEq, and_true, true_and, and_false, false_and, exists_eq_left, exists_eq_left', exists_and_left, exists_and_right, exists_eq, exists_eq', LL.if_dec, reduceCtorEq, exists_false, exists_const, or_false, false_or, if_true, if_false, LL.rInt1, LL.rMx, LL.rMn, and_assoc, Int.reduceNeg, Int.reduceLT, Int.reduceLE, Int.reduceMul, Int.reduceAdd, Int.reduceSub, Int.reducePow, Int.reduceToNat, Nat.reducePow, Nat.reduceLT, true_or, or_true, Bool.not_true, Bool.not_false, Bool.false_eq_true, Bool.or_false, Bool.or_true, Bool.true_or, Bool.false_or, decide_true, decide_false, not_true_eq_false, not_false_eq_true, LL.scal_int, LL.scal_bl, LL.scal_str, LL.isInt, LL.isBl, LL.isStr, LL.isLst, LL.isTup, LL.isDic, N_is_span]
    cases t with
    | tup us =>
      obtain ⟨p, xs, rfl, fp, ep, hx, hz⟩ := _root_.id hd
      repeat (first | refine use_isi hd (kit_int _) ?_ | refine use_isi hd (kit_bool _) ?_ | refine use_isi hd (kit_str _) ?_ | refine use_isi hd (kit_list _) ?_ | refine use_isi hd (kit_tuple _) ?_ | refine use_isi hd (kit_dict _) ?_ | refine And.intro (show scal _ _ = true from rfl) ?_ | simp only [tSeq, tAsg, tRet, tRetN, tDrop, tNext, tVar, tC, gName, tOp, tUn, rI, rI0, rU, tIfS, tTest, tB, tIf, tAnd, tOr, tNot, tAndV, tOrV, tNotV, tCall, tCons, tNil, tCB, tLst, tTup, tChain, CMul, CDiv, CPow, rEq, rNe, gSub, L2.start, LL.cxK0, LL.cxK1, List.map_cons, List.map_nil, List.length_cons, List.length_nil, List.replicate_succ, List.replicate_zero, List.cons_append, List.nil_append, List.append_nil, List.getElem?_cons_zero, List.getElem?_cons_succ, List.set_cons_zero, List.set_cons_succ, Nat.add_sub_cancel, Nat.reduceAdd, Nat.reduceSub, Option.some.injEq, V.int.injEq, V.bl.injEq, V.ref.injEq, V.str.injEq, List.cons.injEq, and_true, true_and, and_false, false_and, exists_eq_left, exists_eq_left', exists_and_left, exists_and_right, exists_eq, exists_eq', LL.if_dec, reduceCtorEq, exists_false, exists_const, or_false, false_or, if_true, if_false, LL.rInt1, LL.rMx, LL.rMn, and_assoc, Int.reduceNeg, Int.reduceLT, Int.reduceLE, Int.reduceMul, Int.reduceAdd, Int.reduceSub, Int.reducePow, Int.reduceToNat, Nat.reducePow, Nat.reduceLT, true_or, or_true, Bool.not_true, Bool.not_false, Bool.false_eq_true, Bool.or_false, Bool.or_true, Bool.true_or, Bool.false_or, decide_true, decide_false, not_true_eq_false, not_false_eq_true, LL.scal_int, LL.scal_bl, LL.scal_str, LL.isInt, LL.isBl, LL.isStr, LL.isLst, LL.isTup, LL.isDic])
      refine use_lenT ep ⟨scal_int.mpr trivial, ?_⟩
      by_cases hl : xs.length = 2
      · rw [if_neg (by simp [hl])]
        have hu : us.length = 2 := by rw [← hx.len, hl]
        match us, hu with
        | [t1, t2], _ =>
          obtain ⟨y1, _, rfl, d1, y2, _, rfl, d2, rfl⟩ := hx
          simp only [tSeq, tAsg, tRet, tRetN, tDrop, tNext, tVar, tC, gName, tOp, tUn, rI, rI0, rU, tIfS, tTest, tB, tIf, tAnd, tOr, tNot, tAndV, tOrV, tNotV, tCall, tCons, tNil, tCB, tLst, tTup, tChain, CMul, CDiv, CPow, rEq, rNe, gSub, L2.start, LL.cxK0, LL.cxK1, List.map_cons, List.map_nil, List.length_cons, List.length_nil, List.replicate_succ, List.replicate_zero, List.cons_append, List.nil_append, List.append_nil, List.getElem?_cons_zero, List.getElem?_cons_succ, List.set_cons_zero, List.set_cons_succ, Nat.add_sub_cancel, Nat.reduceAdd, Nat.reduceSub, Option.some.injEq, V.int.injEq, V.bl.injEq, V.ref.injEq, V.str.injEq, List.cons.injEq, and_true, true_and, and_false, false_and, exists_eq_left, exists_eq_left', exists_and_left, exists_and_right, exists_eq, exists_eq', LL.if_dec, reduceCtorEq, exists_false, exists_const, or_false, false_or, if_true, if_false, LL.rInt1, LL.rMx, LL.rMn, and_assoc, Int.reduceNeg, Int.reduceLT, Int.reduceLE, Int.reduceMul, Int.reduceAdd, Int.reduceSub, Int.reducePow, Int.reduceToNat, Nat.reducePow, Nat.reduceLT, true_or, or_true, Bool.not_true, Bool.not_false, Bool.false_eq_true, Bool.or_false, Bool.or_true, Bool.true_or, Bool.false_or, decide_true, decide_false, not_true_eq_false, not_false_eq_true, LL.scal_int, LL.scal_bl, LL.scal_str, LL.isInt, LL.isBl, LL.isStr, LL.isLst, LL.isTup, LL.isDic, gTup]
          refine ⟨_, SqT.of ep, rfl, ?_⟩
          simp only [tSeq, tAsg, tRet, tRetN, tDrop, tNext, tVar, tC, gName, tOp, tUn, rI, rI0, rU, tIfS, tTest, tB, tIf, tAnd, tOr, tNot, tAndV, tOrV, tNotV, tCall, tCons, tNil, tCB, tLst, tTup, tChain, CMul, CDiv, CPow, rEq, rNe, gSub, L2.start, LL.cxK0, LL.cxK1, List.map_cons, List.map_nil, List.length_cons, List.length_nil, List.replicate_succ, List.replicate_zero, List.cons_append, List.nil_append, List.append_nil, List.getElem?_cons_zero, List.getElem?_cons_succ, List.set_cons_zero, List.set_cons_succ, Nat.add_sub_cancel, Nat.reduceAdd, Nat.reduceSub, Option.some.injEq, V.int.injEq, V.bl.injEq, V.ref.injEq, V.str.injEq, List.cons.injEq, and_true, true_and, and_false, false_and, exists_eq_left, exists_eq_left', exists_and_left, exists_and_right, exists_eq, exists_eq', LL.if_dec, reduceCtorEq, exists_false, exists_const, or_false, false_or, if_true, if_false, LL.rInt1, LL.rMx, LL.rMn, and_assoc, Int.reduceNeg, Int.reduceLT, Int.reduceLE, Int.reduceMul, Int.reduceAdd, Int.reduceSub, Int.reducePow, Int.reduceToNat, Nat.reducePow, Nat.reduceLT, true_or, or_true, Bool.not_true, Bool.not_false, Bool.false_eq_true, Bool.or_false, Bool.or_true, Bool.true_or, Bool.false_or, decide_true, decide_false, not_true_eq_false, not_false_eq_true, LL.scal_int, LL.scal_bl, LL.scal_str, LL.isInt, LL.isBl, LL.isStr, LL.isLst, LL.isTup, LL.isDic, gCons, gNil]
          refine use_isint d1 ?_
          cases t1 with
          | int a =>
            obtain rfl : y1 = V.int a := d1
            simp only [tSeq, tAsg, tRet, tRetN, tDrop, tNext, tVar, tC, gName, tOp, tUn, rI, rI0, rU, tIfS, tTest, tB, tIf, tAnd, tOr, tNot, tAndV, tOrV, tNotV, tCall, tCons, tNil, tCB, tLst, tTup, tChain, CMul, CDiv, CPow, rEq, rNe, gSub, L2.start, LL.cxK0, LL.cxK1, List.map_cons, List.map_nil, List.length_cons, List.length_nil, List.replicate_succ, List.replicate_zero, List.cons_append, List.nil_append, List.append_nil, List.getElem?_cons_zero, List.getElem?_cons_succ, List.set_cons_zero, List.set_cons_succ, Nat.add_sub_cancel, Nat.reduceAdd, Nat.reduceSub, Option.some.injEq, V.int.injEq, V.bl.injEq, V.ref.injEq, V.str.injEq, List.cons.injEq, and_true, true_and, and_false, false_and, exists_eq_left, exists_eq_left', exists_and_left, exists_and_right, exists_eq, exists_eq', LL.if_dec, reduceCtorEq, exists_false, exists_const, or_false, false_or, if_true, if_false, LL.rInt1, LL.rMx, LL.rMn, and_assoc, Int.reduceNeg, Int.reduceLT, Int.reduceLE, Int.reduceMul, Int.reduceAdd, Int.reduceSub, Int.reducePow, Int.reduceToNat, Nat.reducePow, Nat.reduceLT, true_or, or_true, Bool.not_true, Bool.not_false, Bool.false_eq_true, Bool.or_false, Bool.or_true, Bool.true_or, Bool.false_or, decide_true, decide_false, not_true_eq_false, not_false_eq_true, LL.scal_int, LL.scal_bl, LL.scal_str, LL.isInt, LL.isBl, LL.isStr, LL.isLst, LL.isTup, LL.isDic]
            refine use_isint d2 ?_
            cases t2 with
            | int b =>
              obtain rfl : y2 = V.int b := d2
              simp only [tSeq, tAsg, tRet, tRetN, tDrop, tNext, tVar, tC, gName, tOp, tUn, rI, rI0, rU, tIfS, tTest, tB, tIf, tAnd, tOr, tNot, tAndV, tOrV, tNotV, tCall, tCons, tNil, tCB, tLst, tTup, tChain, CMul, CDiv, CPow, rEq, rNe, gSub, L2.start, LL.cxK0, LL.cxK1, List.map_cons, List.map_nil, List.length_cons, List.length_nil, List.replicate_succ, List.replicate_zero, List.cons_append, List.nil_append, List.append_nil, List.getElem?_cons_zero, List.getElem?_cons_succ, List.set_cons_zero, List.set_cons_succ, Nat.add_sub_cancel, Nat.reduceAdd, Nat.reduceSub, Option.some.injEq, V.int.injEq, V.bl.injEq, V.ref.injEq, V.str.injEq, List.cons.injEq, and_true, true_and, and_false, false_and, exists_eq_left, exists_eq_left', exists_and_left, exists_and_right, exists_eq, exists_eq', LL.if_dec, reduceCtorEq, exists_false, exists_const, or_false, false_or, if_true, if_false, LL.rInt1, LL.rMx, LL.rMn, and_assoc, Int.reduceNeg, Int.reduceLT, Int.reduceLE, Int.reduceMul, Int.reduceAdd, Int.reduceSub, Int.reducePow, Int.reduceToNat, Nat.reducePow, Nat.reduceLT, true_or, or_true, Bool.not_true, Bool.not_false, Bool.false_eq_true, Bool.or_false, Bool.or_true, Bool.true_or, Bool.false_or, decide_true, decide_false, not_true_eq_false, not_false_eq_true, LL.scal_int, LL.scal_bl, LL.scal_str, LL.isInt, LL.isBl, LL.isStr, LL.isLst, LL.isTup, LL.isDic]
              exact spn_fin q
            | _ =>
              simp only [tSeq, tAsg, tRet, tRetN, tDrop, tNext, tVar, tC, gName, tOp, tUn, rI, rI0, rU, tIfS, tTest, tB, tIf, tAnd, tOr, tNot, tAndV, tOrV, tNotV, tCall, tCons, tNil, tCB, tLst, tTup, tChain, CMul, CDiv, CPow, rEq, rNe, gSub, L2.start, LL.cxK0, LL.cxK1, List.map_cons, List.map_nil, List.length_cons, List.length_nil, List.replicate_succ, List.replicate_zero, List.cons_append, List.nil_append, List.append_nil, List.getElem?_cons_zero, List.getElem?_cons_succ, List.set_cons_zero, List.set_cons_succ, Nat.add_sub_cancel, Nat.reduceAdd, Nat.reduceSub, Option.some.injEq, V.int.injEq, V.bl.injEq, V.ref.injEq, V.str.injEq, List.cons.injEq, and_true, true_and, and_false, false_and, exists_eq_left, exists_eq_left', exists_and_left, exists_and_right, exists_eq, exists_eq', LL.if_dec, reduceCtorEq, exists_false, exists_const, or_false, false_or, if_true, if_false, LL.rInt1, LL.rMx, LL.rMn, and_assoc, Int.reduceNeg, Int.reduceLT, Int.reduceLE, Int.reduceMul, Int.reduceAdd, Int.reduceSub, Int.reducePow, Int.reduceToNat, Nat.reducePow, Nat.reduceLT, true_or, or_true, Bool.not_true, Bool.not_false, Bool.false_eq_true, Bool.or_false, Bool.or_true, Bool.true_or, Bool.false_or, decide_true, decide_false, not_true_eq_false, not_false_eq_true, LL.scal_int, LL.scal_bl, LL.scal_str, LL.isInt, LL.isBl, LL.isStr, LL.isLst, LL.isTup, LL.isDic]
              exact q
          | _ =>
            simp only [tSeq, tAsg, tRet, tRetN, tDrop, tNext, tVar, tC, gName, tOp, tUn, rI, rI0, rU, tIfS, tTest, tB, tIf, tAnd, tOr, tNot, tAndV, tOrV, tNotV, tCall, tCons, tNil, tCB, tLst, tTup, tChain, CMul, CDiv, CPow, rEq, rNe, gSub, L2.start, LL.cxK0, LL.cxK1, List.map_cons, List.map_nil, List.length_cons, List.length_nil, List.replicate_succ, List.replicate_zero, List.cons_append, List.nil_append, List.append_nil, List.getElem?_cons_zero, List.getElem?_cons_succ, List.set_cons_zero, List.set_cons_succ, Nat.add_sub_cancel, Nat.reduceAdd, Nat.reduceSub, Option.some.injEq, V.int.injEq, V.bl.injEq, V.ref.injEq, V.str.injEq, List.cons.injEq, and_true, true_and, and_false, false_and, exists_eq_left, exists_eq_left', exists_and_left, exists_and_right, exists_eq, exists_eq', LL.if_dec, reduceCtorEq, exists_false, exists_const, or_false, false_or, if_true, if_false, LL.rInt1, LL.rMx, LL.rMn, and_assoc, Int.reduceNeg, Int.reduceLT, Int.reduceLE, Int.reduceMul, Int.reduceAdd, Int.reduceSub, Int.reducePow, Int.reduceToNat, Nat.reducePow, Nat.reduceLT, true_or, or_true, Bool.not_true, Bool.not_false, Bool.false_eq_true, Bool.or_false, Bool.or_true, Bool.true_or, Bool.false_or, decide_true, decide_false, not_true_eq_false, not_false_eq_true, LL.scal_int, LL.scal_bl, LL.scal_str, LL.isInt, LL.isBl, LL.isStr, LL.isLst, LL.isTup, LL.isDic]
            exact q
      · rw [if_pos (by simp; omega)]
        rw [span_pair (pair_len (by rw [← hx.len]; exact hl))] at q
        exact q
    | _ =>
      repeat (first | refine use_isi hd (kit_int _) ?_ | refine use_isi hd (kit_bool _) ?_ | refine use_isi hd (kit_str _) ?_ | refine use_isi hd (kit_list _) ?_ | refine use_isi hd (kit_tuple _) ?_ | refine use_isi hd (kit_dict _) ?_ | refine And.intro (show scal _ _ = true from rfl) ?_ | simp only [tSeq, tAsg, tRet, tRetN, tDrop, tNext, tVar, tC, gName, tOp, tUn, rI, rI0, rU, tIfS, tTest, tB, tIf, tAnd, tOr, tNot, tAndV, tOrV, tNotV, tCall, tCons, tNil, tCB, tLst, tTup, tChain, CMul, CDiv, CPow, rEq, rNe, gSub, L2.start, LL.cxK0, LL.cxK1, List.map_cons, List.map_nil, List.length_cons, List.length_nil, List.replicate_succ, List.replicate_zero, List.cons_append, List.nil_append, List.append_nil, List.getElem?_cons_zero, List.getElem?_cons_succ, List.set_cons_zero, List.set_cons_succ, Nat.add_sub_cancel, Nat.reduceAdd, Nat.reduceSub, Option.some.injEq, V.int.injEq, V.bl.injEq, V.ref.injEq, V.str.injEq, List.cons.injEq, and_true, true_and, and_false, false_and, exists_eq_left, exists_eq_left', exists_and_left, exists_and_right, exists_eq, exists_eq', LL.if_dec, reduceCtorEq, exists_false, exists_const, or_false, false_or, if_true, if_false, LL.rInt1, LL.rMx, LL.rMn, and_assoc, Int.reduceNeg, Int.reduceLT, Int.reduceLE, Int.reduceMul, Int.reduceAdd, Int.reduceSub, Int.reducePow, Int.reduceToNat, Nat.reducePow, Nat.reduceLT, true_or, or_true, Bool.not_true, Bool.not_false, Bool.false_eq_true, Bool.or_false, Bool.or_true, Bool.true_or, Bool.false_or, decide_true, decide_false, not_true_eq_false, not_false_eq_true, LL.scal_int, LL.scal_bl, LL.scal_str, LL.isInt, LL.isBl, LL.isStr, LL.isLst, LL.isTup, LL.isDic])
      exact q
theorem ok_law_is_span (T : Tx K mg) : FnOk P w K mg base CX0 3 (He.ga K "_law_is_span") T.fd_law_is_span P_law_is_span (sp_span K) := by
  refine T.F_law_is_span.ok sc_law_is_span (fun vs H Q E h => ?_) (fun cdv A outer s H vs Q E hr h => ⟨_, PSs.nox (pss_cons (ps_if (pt_not (pt_val (pe_call (ok_law_is_ints T) hr rfl T.g_law_is_ints T.F_law_is_ints.kp (b_law_is_ints T) .nil pass0 (pa_cons (pv 0) (pa_cons (pe_bl) (pa_cons (pe_int) pa_nil)))))) (pss_one (ps_ret (pe_bl))) pss_nil) (pss_one (ps_ret ((pe_and (pe_cmpR op_ge (pe_ix ix_tup (pv 0) (pe_int) (fun _ _ => rfl)) (pe_int) (nomark _)) (pe_and (pe_cmpR op_ge (pe_ix ix_tup (pv 0) (pe_int) (fun _ _ => rfl)) (pe_int) (nomark _)) (pe_one (pe_cmpR op_le (pe_op op_add (pe_ix ix_tup (pv 0) (pe_int) (fun _ _ => rfl)) (pe_ix ix_tup (pv 0) (pe_int) (fun _ _ => rfl))) (pe_op op_pow (pe_int) (pe_int)) (nomark _))))))))), ?_⟩)
  · obtain ⟨_, _, _, rfl, _⟩ := h
    rfl
  · obtain ⟨F, v, t, rfl, hd, q⟩ := h
    simp only [tSeq, tAsg, tRet, tRetN, tDrop, tNext, tVar, tC, gName, tOp, tUn, rI, rI0, rU, tIfS, tTest, tB, tIf, tAnd, tOr, tNot, tAndV, tOrV, tNotV, tCall, tCons, tNil, tCB, tLst, tTup, tChain, CMul, CDiv, CPow, rEq, rNe, gSub, L2.start, LL.cxK0, LL.cxK1, List.map_cons, List.map_nil, List.length_cons, List.length_nil, List.replicate_succ, List.replicate_zero, List.cons_append, List.nil_append, List.append_nil, List.getElem?_cons_zero, List.getElem?_cons_succ, List.set_cons_zero, List.set_cons_succ, Nat.add_sub_cancel, Nat.reduceAdd, Nat.reduceSub, Option.some.injEq, V.int.injEq, V.bl.injEq, V.ref.injEq, V.str.injEq, List.cons.injEq, and_true, true_and, and_false, false_and, exists_eq_left, exists_eq_left', exists_and_left, exists_and_right, exists_eq, exists_eq', LL.if_dec, reduceCtorEq, exists_false, exists_const, or_false, false_or, if_true, if_false, LL.rInt1, LL.rMx, LL.rMn, and_assoc, Int.reduceNeg, Int.reduceLT, Int.reduceLE, Int.reduceMul, Int.reduceAdd, Int.reduceSub, Int.reducePow, Int.reduceToNat, Nat.reducePow, Nat.reduceLT, true_or, or_true, Bool.not_true, Bool.not_false, Bool.false_eq_true, Bool.or_false, Bool.or_true, Bool.true_or, Bool.false_or, decide_true, decide_false, not_true_eq_false, not_false_eq_true, LL.scal_int, LL.scal_bl, LL.scal_str, LL.isInt, LL.isBl, LL.isStr, LL.isLst, LL.isTup, LL.isDic, N_law_is_span]
    refine use_pairB hd ⟨_, rfl, ?_⟩
    cases hp : pairB t with
    | false =>
      simp only [tSeq, tAsg, tRet, tRetN, tDrop, tNext, tVar, tC, gName, tOp, tUn, rI, rI0, rU, tIfS, tTest, tB, tIf, tAnd, tOr, tNot, tAndV, tOrV, tNotV, tCall, tCons, tNil, tCB, tLst, tTup, tChain, CMul, CDiv, CPow, rEq, rNe, gSub, L2.start, LL.cxK0, LL.cxK1, List.map_cons, List.map_nil, List.length_cons, List.length_nil, List.replicate_succ, List.replicate_zero, List.cons_append, List.nil_append, List.append_nil, List.getElem?_cons_zero, List.getElem?_cons_succ, List.set_cons_zero, List.set_cons_succ, Nat.add_sub_cancel, Nat.reduceAdd, Nat.reduceSub, Option.some.injEq, V.int.injEq, V.bl.injEq, V.ref.injEq, V.str.injEq, List.cons.injEq, and_true, true_and, and_false, false_and, exists_eq_left, exists_eq_left', exists_and_left, exists_and_right, exists_eq, exists_eq', LL.if_dec, reduceCtorEq, exists_false, exists_const, or_false, false_or, if_true, if_false, LL.rInt1, LL.rMx, LL.rMn, and_assoc, Int.reduceNeg, Int.reduceLT, Int.reduceLE, Int.reduceMul, Int.reduceAdd, Int.reduceSub, Int.reducePow, Int.reduceToNat, Nat.reducePow, Nat.reduceLT, true_or, or_true, Bool.not_true, Bool.not_false, Bool.false_eq_true, Bool.or_false, Bool.or_true, Bool.true_or, Bool.false_or, decide_true, decide_false, not_true_eq_false, not_false_eq_true, LL.scal_int, LL.scal_bl, LL.scal_str, LL.isInt, LL.isBl, LL.isStr, LL.isLst, LL.isTup, LL.isDic]
      rw [span_pair hp] at q
      exact q
    | true =>
      obtain ⟨a, b, rfl⟩ := pair_of hp
      obtain ⟨p, xs, rfl, fp, ep, hx, hz⟩ := _root_.id hd
      obtain ⟨y1, _, rfl, d1, y2, _, rfl, d2, rfl⟩ := hx
      obtain rfl : y1 = V.int a := d1
      obtain rfl : y2 = V.int b := d2
      simp only [tSeq, tAsg, tRet, tRetN, tDrop, tNext, tVar, tC, gName, tOp, tUn, rI, rI0, rU, tIfS, tTest, tB, tIf, tAnd, tOr, tNot, tAndV, tOrV, tNotV, tCall, tCons, tNil, tCB, tLst, tTup, tChain, CMul, CDiv, CPow, rEq, rNe, gSub, L2.start, LL.cxK0, LL.cxK1, List.map_cons, List.map_nil, List.length_cons, List.length_nil, List.replicate_succ, List.replicate_zero, List.cons_append, List.nil_append, List.append_nil, List.getElem?_cons_zero, List.getElem?_cons_succ, List.set_cons_zero, List.set_cons_succ, Nat.add_sub_cancel, Nat.reduceAdd, Nat.reduceSub, Option.some.injEq, V.int.injEq, V.bl.injEq, V.ref.injEq, V.str.injEq, List.cons.injEq, and_true, true_and, and_false, false_and, exists_eq_left, exists_eq_left', exists_and_left, exists_and_right, exists_eq, exists_eq', LL.if_dec, reduceCtorEq, exists_false, exists_const, or_false, false_or, if_true, if_false, LL.rInt1, LL.rMx, LL.rMn, and_assoc, Int.reduceNeg, Int.reduceLT, Int.reduceLE, Int.reduceMul, Int.reduceAdd, Int.reduceSub, Int.reducePow, Int.reduceToNat, Nat.reducePow, Nat.reduceLT, true_or, or_true, Bool.not_true, Bool.not_false, Bool.false_eq_true, Bool.or_false, Bool.or_true, Bool.true_or, Bool.false_or, decide_true, decide_false, not_true_eq_false, not_false_eq_true, LL.scal_int, LL.scal_bl, LL.scal_str, LL.isInt, LL.isBl, LL.isStr, LL.isLst, LL.isTup, LL.isDic]
      have ten : Int.natAbs 10 < 18446744073709551616 := by decide
      refine use_ixT ep rfl ⟨_, rfl, ?_⟩
      by_cases h0 : 0 ≤ a
      · rw [if_pos h0]
        refine use_ixT ep rfl ⟨_, rfl, ?_⟩
        by_cases h1 : 1 ≤ b
        · rw [if_pos h1]
          refine use_ixT ep rfl (use_ixT ep rfl ⟨_, rfl, _, rfl, ten, ?_⟩)
          rw [show spanB (.tup [.int a, .int b]) = decide (a + b ≤ 1000000000) from decide_eq_decide.mpr ⟨fun h => h.2.2, fun h => ⟨h0, h1, h⟩⟩] at q
          exact q
        · rw [if_neg h1]
          rw [show spanB (.tup [.int a, .int b]) = false from decide_eq_false fun h => h1 h.2.1] at q
          exact q
      · rw [if_neg h0]
        rw [show spanB (.tup [.int a, .int b]) = false from decide_eq_false fun h => h0 h.1] at q
        exact q
def sp_need (K : PySem.W.Frag) : Sp := fun vs H Q E => ∃ (b : Bool) (n : V), vs = [.bl b, n] ∧ (b = true → Q .non H) ∧ (b = false → ∀ d H', BadH H H' d n → E (.ref (aBV K)) (some d) H')
theorem use_need {K : PySem.W.Frag} {b : Bool} {n : V} {H : Hp} {Q : VK} {E : XK} (q1 : b = true → Q .non H) (q2 : b = false → ∀ d H', BadH H H' d n → E (.ref (aBV K)) (some d) H') : sp_need K [.bl b, n] H Q E := ⟨b, n, rfl, q1, q2⟩
theorem span_of {t : LL.T} (h : spanB t = true) : ∃ a b, t = .tup [.int a, .int b] ∧ Spn a b := by
  unfold spanB at h
  split at h
  · exact ⟨_, _, rfl, of_decide_eq_true h⟩
  · cases h
theorem span_t {a b : Int} (h : Spn a b) : spanB (.tup [.int a, .int b]) = true := decide_eq_true h
theorem pair_dt {F : Addr → Prop} {H : Hp} {v : V} {a b : Int} (h : Dt F H v (.tup [.int a, .int b])) : ∃ p, v = .ref p ∧ F p ∧ H p = some (.tup [.int a, .int b]) := by
  obtain ⟨p, xs, rfl, fp, ep, hx, hz⟩ := h
  obtain ⟨y1, _, rfl, d1, y2, _, rfl, d2, rfl⟩ := hx
  obtain rfl : y1 = V.int a := d1
  obtain rfl : y2 = V.int b := d2
  exact ⟨p, rfl, fp, ep⟩
theorem no_spn {a b : Int} (h : ¬ Spn a b) : spanB (.tup [.int a, .int b]) = false := decide_eq_false h
theorem dt_pair {F : Addr → Prop} {H : Hp} {p : Addr} {a b : Int} (f : F p) (h : H p = some (.tup [.int a, .int b])) : Dt F H (.ref p) (.tup [.int a, .int b]) := ⟨p, _, rfl, f, h, .cons rfl (.one rfl), by simp⟩
/-- what two spans share -/
def meetT (a b c e : Int) : LL.T := if min (a + b) (c + e) ≤ max a c then .non else .tup [.int (max a c), .int (min (a + b) (c + e) - max a c)]
def metB (a b c e : Int) : Bool := decide (¬ min (a + b) (c + e) ≤ max a c)
def sp_end_of (K : PySem.W.Frag) : Sp := fun vs H Q E => ∃ (F : Addr → Prop) (v : V) (t : LL.T), vs = [v] ∧ Dt F H v t ∧ (spanB t = false → ∀ d H', BadH H H' d (.str "span") → E (.ref (aBV K)) (some d) H') ∧ (∀ a b, t = .tup [.int a, .int b] → Spn a b → Q (.int (a + b)) H)
def sp_meet (K : PySem.W.Frag) : Sp := fun vs H Q E => ∃ (F G : Addr → Prop) (v x : V) (t u : LL.T), vs = [v, x] ∧ Dt F H v t ∧ Dt G H x u ∧
  (spanB t = false → ∀ d H', BadH H H' d (.str "first") → E (.ref (aBV K)) (some d) H') ∧ (spanB t = true → spanB u = false → ∀ d H', BadH H H' d (.str "second") → E (.ref (aBV K)) (some d) H') ∧
  (∀ a b c e, t = .tup [.int a, .int b] → u = .tup [.int c, .int e] → Spn a b → Spn c e → ∀ r H', Same H H' → Dt (fun a => H a = none) H' r (meetT a b c e) → Q r H')
def sp_overlap (K : PySem.W.Frag) : Sp := fun vs H Q E => ∃ (F G : Addr → Prop) (v x : V) (t u : LL.T), vs = [v, x] ∧ Dt F H v t ∧ Dt G H x u ∧
  (spanB t = false → ∀ d H', BadH H H' d (.str "first") → E (.ref (aBV K)) (some d) H') ∧ (spanB t = true → spanB u = false → ∀ d H', BadH H H' d (.str "second") → E (.ref (aBV K)) (some d) H') ∧
  (∀ a b c e, t = .tup [.int a, .int b] → u = .tup [.int c, .int e] → Spn a b → Spn c e → ∀ H', Same H H' → Q (.bl (metB a b c e)) H')

theorem ok_need (T : Tx K mg) : FnOk P w K mg base (L2.CX P w) 3 (He.ga K "need") T.fd_need P_need (sp_need K) := by
  refine T.F_need.ok sc_need (fun vs H Q E h => ?_) (fun cdv A outer s H vs Q E hr h => ⟨_, (pss_one (ps_if (pt_not (pt_val (pv 0))) (pss_one (ps_raise rfl (takes_of rfl rfl rfl rfl) (pmk_oex T.x_BadValue T.i_BadValue T.t_BadValue (ok_BadValue T) hr (b_BadValue T) .nil pass0 rfl T.g_BadValue (pa_cons (pv 1) pa_nil)))) pss_nil)), ?_⟩)
  · obtain ⟨_, _, rfl, _⟩ := h
    rfl
  · obtain ⟨b, n, rfl, q1, q2⟩ := h
    have bad : b = false → tMkO (aBV K) (sp_BadValue K) [] (tCons (tVar 1) tNil) [some (.bl b), some n] H (fun cls d H' => E cls d H') := by
      intro hb
      simp only [tMkO]
      simp only [tSeq, tAsg, tRet, tRetN, tDrop, tNext, tVar, tC, gName, tOp, tUn, rI, rI0, rU, tIfS, tTest, tB, tIf, tAnd, tOr, tNot, tAndV, tOrV, tNotV, tCall, tCons, tNil, tCB, tLst, tTup, tChain, CMul, CDiv, CPow, rEq, rNe, gSub, L2.start, LL.cxK0, LL.cxK1, List.map_cons, List.map_nil, List.length_cons, List.length_nil, List.replicate_succ, List.replicate_zero, List.cons_append, List.nil_append, List.append_nil, List.getElem?_cons_zero, List.getElem?_cons_succ, List.set_cons_zero, List.set_cons_succ, Nat.add_sub_cancel, Nat.reduceAdd, Nat.reduceSub, Option.some.injEq, V.int.injEq, V.bl.injEq, V.ref.injEq, V.str.injEq, List.cons.injEq, and_true, true_and, and_false, false_and, exists_eq_left, exists_eq_left', exists_and_left, exists_and_right, exists_eq, exists_eq', LL.if_dec, reduceCtorEq, exists_false, exists_const, or_false, false_or, if_true, if_false, LL.rInt1, LL.rMx, LL.rMn, and_assoc, Int.reduceNeg, Int.reduceLT, Int.reduceLE, Int.reduceMul, Int.reduceAdd, Int.reduceSub, Int.reducePow, Int.reduceToNat, Nat.reducePow, Nat.reduceLT, true_or, or_true, Bool.not_true, Bool.not_false, Bool.false_eq_true, Bool.or_false, Bool.or_true, Bool.true_or, Bool.false_or, decide_true, decide_false, not_true_eq_false, not_false_eq_true, LL.scal_int, LL.scal_bl, LL.scal_str, LL.isInt, LL.isBl, LL.isStr, LL.isLst, LL.isTup, LL.isDic]
      refine ⟨by decide, fun a na => ?_⟩
      refine ⟨a, n, rfl, upd_same, fun d p1 p2 H' hd hne e1 e2 e3 e4 f1 f2 k => ⟨rfl, d, e1, _, e2, ?_, ?_⟩⟩
      · rw [upd_ne hne] at hd; exact hd
      · have fd : H d = none := by rw [upd_ne hne] at hd; exact hd
        have na1 : p1 ≠ a := fun z => by rw [z, upd_same] at f1; cases f1
        have na2 : p2 ≠ a := fun z => by rw [z, upd_same] at f2; cases f2
        have nd1 : p1 ≠ d := fun z => by rw [z, e2] at e3; exact (show ¬ exd d [("told", V.ref p2), ("parameter", n)] = .tup [n] from exd_tup) (Option.some.inj e3)
        have nd2 : p2 ≠ d := fun z => by rw [z, e2] at e4; exact (show ¬ exd d [("told", V.ref p2), ("parameter", n)] = .tup [.str "BadValue", .ref p1] from exd_tup) (Option.some.inj e4)
        rw [upd_ne na1] at f1
        rw [upd_ne na2] at f2
        refine q2 hb d _ ⟨⟨p1, p2, upd_same, by rw [upd_ne nd1, del_ne na1]; exact e3, by rw [upd_ne nd2, del_ne na2]; exact e4, f1, f2⟩, fun b o e => ?_, fd⟩
        have nba : b ≠ a := ne_of_none e na
        rw [upd_ne (ne_of_none e fd), del_ne nba]
        exact k b o nba (by rw [upd_ne nba]; exact e)
    simp only [tSeq, tAsg, tRet, tRetN, tDrop, tNext, tVar, tC, gName, tOp, tUn, rI, rI0, rU, tIfS, tTest, tB, tIf, tAnd, tOr, tNot, tAndV, tOrV, tNotV, tCall, tCons, tNil, tCB, tLst, tTup, tChain, CMul, CDiv, CPow, rEq, rNe, gSub, L2.start, LL.cxK0, LL.cxK1, List.map_cons, List.map_nil, List.length_cons, List.length_nil, List.replicate_succ, List.replicate_zero, List.cons_append, List.nil_append, List.append_nil, List.getElem?_cons_zero, List.getElem?_cons_succ, List.set_cons_zero, List.set_cons_succ, Nat.add_sub_cancel, Nat.reduceAdd, Nat.reduceSub, Option.some.injEq, V.int.injEq, V.bl.injEq, V.ref.injEq, V.str.injEq, List.cons.injEq, and_true, true_and, and_false, false_and, exists_eq_left, exists_eq_left', exists_and_left, exists_and_right, exists_eq, exists_eq', LL.if_dec, reduceCtorEq, exists_false, exists_const, or_false, false_or, if_true, if_false, LL.rInt1, LL.rMx, LL.rMn, and_assoc, Int.reduceNeg, Int.reduceLT, Int.reduceLE, Int.reduceMul, Int.reduceAdd, Int.reduceSub, Int.reducePow, Int.reduceToNat, Nat.reducePow, Nat.reduceLT, true_or, or_true, Bool.not_true, Bool.not_false, Bool.false_eq_true, Bool.or_false, Bool.or_true, Bool.true_or, Bool.false_or, decide_true, decide_false, not_true_eq_false, not_false_eq_true, LL.scal_int, LL.scal_bl, LL.scal_str, LL.isInt, LL.isBl, LL.isStr, LL.isLst, LL.isTup, LL.isDic, N_need]
    cases b with
    | true =>
      simp only [tSeq, tAsg, tRet, tRetN, tDrop, tNext, tVar, tC, gName, tOp, tUn, rI, rI0, rU, tIfS, tTest, tB, tIf, tAnd, tOr, tNot, tAndV, tOrV, tNotV, tCall, tCons, tNil, tCB, tLst, tTup, tChain, CMul, CDiv, CPow, rEq, rNe, gSub, L2.start, LL.cxK0, LL.cxK1, List.map_cons, List.map_nil, List.length_cons, List.length_nil, List.replicate_succ, List.replicate_zero, List.cons_append, List.nil_append, List.append_nil, List.getElem?_cons_zero, List.getElem?_cons_succ, List.set_cons_zero, List.set_cons_succ, Nat.add_sub_cancel, Nat.reduceAdd, Nat.reduceSub, Option.some.injEq, V.int.injEq, V.bl.injEq, V.ref.injEq, V.str.injEq, List.cons.injEq, and_true, true_and, and_false, false_and, exists_eq_left, exists_eq_left', exists_and_left, exists_and_right, exists_eq, exists_eq', LL.if_dec, reduceCtorEq, exists_false, exists_const, or_false, false_or, if_true, if_false, LL.rInt1, LL.rMx, LL.rMn, and_assoc, Int.reduceNeg, Int.reduceLT, Int.reduceLE, Int.reduceMul, Int.reduceAdd, Int.reduceSub, Int.reducePow, Int.reduceToNat, Nat.reducePow, Nat.reduceLT, true_or, or_true, Bool.not_true, Bool.not_false, Bool.false_eq_true, Bool.or_false, Bool.or_true, Bool.true_or, Bool.false_or, decide_true, decide_false, not_true_eq_false, not_false_eq_true, LL.scal_int, LL.scal_bl, LL.scal_str, LL.isInt, LL.isBl, LL.isStr, LL.isLst, LL.isTup, LL.isDic]
      exact q1 rfl
    | false =>
      simp only [tSeq, tAsg, tRet, tRetN, tDrop, tNext, tVar, tC, gName, tOp, tUn, rI, rI0, rU, tIfS, tTest, tB, tIf, tAnd, tOr, tNot, tAndV, tOrV, tNotV, tCall, tCons, tNil, tCB, tLst, tTup, tChain, CMul, CDiv, CPow, rEq, rNe, gSub, L2.start, LL.cxK0, LL.cxK1, List.map_cons, List.map_nil, List.length_cons, List.length_nil, List.replicate_succ, List.replicate_zero, List.cons_append, List.nil_append, List.append_nil, List.getElem?_cons_zero, List.getElem?_cons_succ, List.set_cons_zero, List.set_cons_succ, Nat.add_sub_cancel, Nat.reduceAdd, Nat.reduceSub, Option.some.injEq, V.int.injEq, V.bl.injEq, V.ref.injEq, V.str.injEq, List.cons.injEq, and_true, true_and, and_false, false_and, exists_eq_left, exists_eq_left', exists_and_left, exists_and_right, exists_eq, exists_eq', LL.if_dec, reduceCtorEq, exists_false, exists_const, or_false, false_or, if_true, if_false, LL.rInt1, LL.rMx, LL.rMn, and_assoc, Int.reduceNeg, Int.reduceLT, Int.reduceLE, Int.reduceMul, Int.reduceAdd, Int.reduceSub, Int.reducePow, Int.reduceToNat, Nat.reducePow, Nat.reduceLT, true_or, or_true, Bool.not_true, Bool.not_false, Bool.false_eq_true, Bool.or_false, Bool.or_true, Bool.true_or, Bool.false_or, decide_true, decide_false, not_true_eq_false, not_false_eq_true, LL.scal_int, LL.scal_bl, LL.scal_str, LL.isInt, LL.isBl, LL.isStr, LL.isLst, LL.isTup, LL.isDic]
      exact bad rfl
theorem ok_end_of (T : Tx K mg) : FnOk P w K mg base (L2.CX P w) 4 (He.ga K "end_of") T.fd_end_of P_end_of (sp_end_of K) := by
  refine T.F_end_of.ok sc_end_of (fun vs H Q E h => ?_) (fun cdv A outer s H vs Q E hr h => ⟨_, (pss_cons (ps_expr (pe_call (ok_need T) hr rfl T.g_need T.F_need.kp (b_need T) .nil (passR (takes_of rfl rfl rfl rfl) (fun _ _ _ _ h => h)) (pa_cons (pe_call (ok_is_span T) (hr.mono (by decide)) rfl T.g_is_span T.F_is_span.kp (b_is_span T) .nil pass0 (pa_cons (pv 0) pa_nil)) (pa_cons (pe_str) pa_nil)))) (pss_one (ps_ret (pe_op op_add (pe_ix ix_tup (pv 0) (pe_int) (fun _ _ => rfl)) (pe_ix ix_tup (pv 0) (pe_int) (fun _ _ => rfl)))))), ?_⟩)
  · obtain ⟨_, _, _, rfl, _⟩ := h
    rfl
  · obtain ⟨F, v, t, rfl, hd, q1, q2⟩ := h
    simp only [tSeq, tAsg, tRet, tRetN, tDrop, tNext, tVar, tC, gName, tOp, tUn, rI, rI0, rU, tIfS, tTest, tB, tIf, tAnd, tOr, tNot, tAndV, tOrV, tNotV, tCall, tCons, tNil, tCB, tLst, tTup, tChain, CMul, CDiv, CPow, rEq, rNe, gSub, L2.start, LL.cxK0, LL.cxK1, List.map_cons, List.map_nil, List.length_cons, List.length_nil, List.replicate_succ, List.replicate_zero, List.cons_append, List.nil_append, List.append_nil, List.getElem?_cons_zero, List.getElem?_cons_succ, List.set_cons_zero, List.set_cons_succ, Nat.add_sub_cancel, Nat.reduceAdd, Nat.reduceSub, Option.some.injEq, V.int.injEq, V.bl.injEq, V.ref.injEq, V.str.injEq, List.cons.injEq, and_true, true_and, and_false, false_and, exists_eq_left, exists_eq_left', exists_and_left, exists_and_right, exists_eq, exists_eq', LL.if_dec, reduceCtorEq, exists_false, exists_const, or_false, false_or, if_true, if_false, LL.rInt1, LL.rMx, LL.rMn, and_assoc, Int.reduceNeg, Int.reduceLT, Int.reduceLE, Int.reduceMul, Int.reduceAdd, Int.reduceSub, Int.reducePow, Int.reduceToNat, Nat.reducePow, Nat.reduceLT, true_or, or_true, Bool.not_true, Bool.not_false, Bool.false_eq_true, Bool.or_false, Bool.or_true, Bool.true_or, Bool.false_or, decide_true, decide_false, not_true_eq_false, not_false_eq_true, LL.scal_int, LL.scal_bl, LL.scal_str, LL.isInt, LL.isBl, LL.isStr, LL.isLst, LL.isTup, LL.isDic, N_end_of]
    refine use_span hd (use_need (fun hb => ?_) q1)
    obtain ⟨a, b, rfl, hs⟩ := span_of hb
    obtain ⟨p, rfl, fp, ep⟩ := pair_dt hd
    refine use_ixT ep rfl (use_ixT ep rfl ⟨_, rfl, _, rfl, ?_⟩)
    exact q2 a b rfl hs
theorem ok_meet (T : Tx K mg) : FnOk P w K mg base (L2.CX P w) 5 (He.ga K "meet") T.fd_meet P_meet (sp_meet K) := by
  refine T.F_meet.ok sc_meet (fun vs H Q E h => ?_) (fun cdv A outer s H vs Q E hr h => ⟨_, (pss_cons (ps_expr (pe_call (ok_need T) (hr.mono (by decide)) rfl T.g_need T.F_need.kp (b_need T) .nil (passR (takes_of rfl rfl rfl rfl) (fun _ _ _ _ h => h)) (pa_cons (pe_call (ok_is_span T) (hr.mono (by decide)) rfl T.g_is_span T.F_is_span.kp (b_is_span T) .nil pass0 (pa_cons (pv 0) pa_nil)) (pa_cons (pe_str) pa_nil)))) (pss_cons (ps_expr (pe_call (ok_need T) (hr.mono (by decide)) rfl T.g_need T.F_need.kp (b_need T) .nil (passR (takes_of rfl rfl rfl rfl) (fun _ _ _ _ h => h)) (pa_cons (pe_call (ok_is_span T) (hr.mono (by decide)) rfl T.g_is_span T.F_is_span.kp (b_is_span T) .nil pass0 (pa_cons (pv 1) pa_nil)) (pa_cons (pe_str) pa_nil)))) (pss_cons (ps_set (i := 2) sc_meet.nd rfl (Or.inl rfl) (pe_callB (LL.call_mx rfl) (by rfl) T.z_max (by decide +kernel) (pa_cons (pe_ix ix_tup (pv 0) (pe_int) (fun _ _ => rfl)) (pa_cons (pe_ix ix_tup (pv 1) (pe_int) (fun _ _ => rfl)) pa_nil)))) (pss_cons (ps_set (i := 3) sc_meet.nd rfl (Or.inl rfl) (pe_callB (LL.call_mn rfl) (by rfl) T.z_min (by decide +kernel) (pa_cons (pe_call (ok_end_of T) hr rfl T.g_end_of T.F_end_of.kp (b_end_of T) .nil (passR (takes_of rfl rfl rfl rfl) (fun _ _ _ _ h => h)) (pa_cons (pv 0) pa_nil)) (pa_cons (pe_call (ok_end_of T) hr rfl T.g_end_of T.F_end_of.kp (b_end_of T) .nil (passR (takes_of rfl rfl rfl rfl) (fun _ _ _ _ h => h)) (pa_cons (pv 1) pa_nil)) pa_nil)))) (pss_cons (ps_if (pt_cmpR op_ge (pv 2) (pv 3) (nomark _)) (pss_one (ps_ret (pe_non))) pss_nil) (pss_one (ps_ret (pe_tup (pa_cons (pv 2) (pa_cons (pe_op op_sub (pv 3) (pv 2)) pa_nil)))))))))), ?_⟩)
  · obtain ⟨_, _, _, _, _, _, rfl, _⟩ := h
    rfl
  · obtain ⟨F, G, v, x, t, u, rfl, h1, h2, q1, q2, q3⟩ := h
    simp only [tSeq, tAsg, tRet, tRetN, tDrop, tNext, tVar, tC, gName, tOp, tUn, rI, rI0, rU, tIfS, tTest, tB, tIf, tAnd, tOr, tNot, tAndV, tOrV, tNotV, tCall, tCons, tNil, tCB, tLst, tTup, tChain, CMul, CDiv, CPow, rEq, rNe, gSub, L2.start, LL.cxK0, LL.cxK1, List.map_cons, List.map_nil, List.length_cons, List.length_nil, List.replicate_succ, List.replicate_zero, List.cons_append, List.nil_append, List.append_nil, List.getElem?_cons_zero, List.getElem?_cons_succ, List.set_cons_zero, List.set_cons_succ, Nat.add_sub_cancel, Nat.reduceAdd, Nat.reduceSub, Option.some.injEq, V.int.injEq, V.bl.injEq, V.ref.injEq, V.str.injEq, List.cons.injEq, and_true, true_and, and_false, false_and, exists_eq_left, exists_eq_left', exists_and_left, exists_and_right, exists_eq, exists_eq', LL.if_dec, reduceCtorEq, exists_false, exists_const, or_false, false_or, if_true, if_false, LL.rInt1, LL.rMx, LL.rMn, and_assoc, Int.reduceNeg, Int.reduceLT, Int.reduceLE, Int.reduceMul, Int.reduceAdd, Int.reduceSub, Int.reducePow, Int.reduceToNat, Nat.reducePow, Nat.reduceLT, true_or, or_true, Bool.not_true, Bool.not_false, Bool.false_eq_true, Bool.or_false, Bool.or_true, Bool.true_or, Bool.false_or, decide_true, decide_false, not_true_eq_false, not_false_eq_true, LL.scal_int, LL.scal_bl, LL.scal_str, LL.isInt, LL.isBl, LL.isStr, LL.isLst, LL.isTup, LL.isDic, N_meet]
    refine use_span h1 (use_need (fun hb => ?_) q1)
    refine use_span h2 (use_need (fun hb2 => ?_) (q2 hb))
    obtain ⟨a, b, rfl, hs⟩ := span_of hb
    obtain ⟨c, e, rfl, hs2⟩ := span_of hb2
    obtain ⟨p, rfl, fp, ep⟩ := pair_dt h1
    obtain ⟨p2, rfl, fp2, ep2⟩ := pair_dt h2
    refine use_ixT ep rfl (use_ixT ep2 rfl ⟨_, rfl, _, rfl, ?_⟩)
    refine ⟨F, _, _, rfl, h1, ?_, ?_⟩
    · intro z
      rw [hb] at z
      cases z
    intro a1 b1 e1 hs1
    cases e1
    refine ⟨G, _, _, rfl, h2, ?_, ?_⟩
    · intro z
      rw [hb2] at z
      cases z
    intro a1 b1 e1 hs1
    cases e1
    refine ⟨_, rfl, _, rfl, ?_⟩
    have q := q3 a b c e rfl rfl hs hs2
    unfold meetT at q
    by_cases hm : min (a + b) (c + e) ≤ max a c
    · rw [if_pos hm] at q ⊢
      exact q _ _ (Same.refl _) rfl
    · rw [if_neg hm] at q ⊢
      refine ⟨by decide, ?_⟩
      intro pz npz
      generalize hq : upd H pz _ = H1
      have sH1 : Same H H1 := hq ▸ Same.new (Same.refl _) npz
      have epz := hq ▸ (upd_same (H := H) (a := pz))
      clear hq
      exact q _ _ sH1 (dt_pair npz epz)
theorem ok_overlap (T : Tx K mg) : FnOk P w K mg base (L2.CX P w) 6 (He.ga K "overlap") T.fd_overlap P_overlap (sp_overlap K) := by
  refine T.F_overlap.ok sc_overlap (fun vs H Q E h => ?_) (fun cdv A outer s H vs Q E hr h => ⟨_, (pss_one (ps_ret (pe_cmpR op_notN (pe_call (ok_meet T) hr rfl T.g_meet T.F_meet.kp (b_meet T) .nil (passR (takes_of rfl rfl rfl rfl) (fun _ _ _ _ h => h)) (pa_cons (pv 0) (pa_cons (pv 1) pa_nil))) (pe_non) (nomark _)))), ?_⟩)
  · obtain ⟨_, _, _, _, _, _, rfl, _⟩ := h
    rfl
  · obtain ⟨F, G, v, x, t, u, rfl, h1, h2, q1, q2, q3⟩ := h
    simp only [tSeq, tAsg, tRet, tRetN, tDrop, tNext, tVar, tC, gName, tOp, tUn, rI, rI0, rU, tIfS, tTest, tB, tIf, tAnd, tOr, tNot, tAndV, tOrV, tNotV, tCall, tCons, tNil, tCB, tLst, tTup, tChain, CMul, CDiv, CPow, rEq, rNe, gSub, L2.start, LL.cxK0, LL.cxK1, List.map_cons, List.map_nil, List.length_cons, List.length_nil, List.replicate_succ, List.replicate_zero, List.cons_append, List.nil_append, List.append_nil, List.getElem?_cons_zero, List.getElem?_cons_succ, List.set_cons_zero, List.set_cons_succ, Nat.add_sub_cancel, Nat.reduceAdd, Nat.reduceSub, Option.some.injEq, V.int.injEq, V.bl.injEq, V.ref.injEq, V.str.injEq, List.cons.injEq, and_true, true_and, and_false, false_and, exists_eq_left, exists_eq_left', exists_and_left, exists_and_right, exists_eq, exists_eq', LL.if_dec, reduceCtorEq, exists_false, exists_const, or_false, false_or, if_true, if_false, LL.rInt1, LL.rMx, LL.rMn, and_assoc, Int.reduceNeg, Int.reduceLT, Int.reduceLE, Int.reduceMul, Int.reduceAdd, Int.reduceSub, Int.reducePow, Int.reduceToNat, Nat.reducePow, Nat.reduceLT, true_or, or_true, Bool.not_true, Bool.not_false, Bool.false_eq_true, Bool.or_false, Bool.or_true, Bool.true_or, Bool.false_or, decide_true, decide_false, not_true_eq_false, not_false_eq_true, LL.scal_int, LL.scal_bl, LL.scal_str, LL.isInt, LL.isBl, LL.isStr, LL.isLst, LL.isTup, LL.isDic, N_overlap]
    refine ⟨F, G, v, x, t, u, rfl, h1, h2, q1, q2, fun a b c e e1 e2 s1 s2 r H' sm hr => ?_⟩
    have q := q3 a b c e e1 e2 s1 s2 H' sm
    unfold meetT at hr
    unfold metB at q
    by_cases hm : min (a + b) (c + e) ≤ max a c
    · rw [if_pos hm] at hr
      obtain rfl : r = V.non := hr
      rw [decide_eq_false (fun h => h hm)] at q
      show Q (V.bl !decide (V.non = V.non)) H'
      rw [decide_eq_true rfl]
      exact q
    · rw [if_neg hm] at hr
      obtain ⟨p, rfl, _⟩ := pair_dt hr
      rw [decide_eq_true hm] at q
      show Q (V.bl !decide (V.ref p = V.non)) H'
      rw [decide_eq_false (fun h : V.ref p = V.non => by cases h)]
      exact q
def sp_law_span : Sp := fun vs H Q _ => ∃ (d s : Addr) (m : Int), vs = [.ref d, .int m] ∧ Drw d s H ∧ 1 ≤ m ∧ m ≤ 1000000000 ∧ ∀ (p : Addr) (a b : Int) H', Aft d s H H' → Drw d s H' → H p = none → H' p = some (.tup [.int a, .int b]) → 0 ≤ a → 1 ≤ b → a + b ≤ m → Q (.ref p) H'
theorem use_spanD {d s : Addr} {m : Int} {H : Hp} {Q : VK} {E : XK} (D : Drw d s H) (m0 : 1 ≤ m) (m1 : m ≤ 1000000000) (q : ∀ (p : Addr) (a b : Int) H', Aft d s H H' → Drw d s H' → H p = none → H' p = some (.tup [.int a, .int b]) → 0 ≤ a → 1 ≤ b → a + b ≤ m → Q (.ref p) H') : sp_law_span [.ref d, .int m] H Q E := ⟨d, s, m, rfl, D, m0, m1, q⟩

theorem ok_law_span (T : Tx K mg) : FnOk P w K mg base CX0 6 (He.ga K "_law_span") T.fd_law_span P_law_span sp_law_span := by
  refine T.F_law_span.ok sc_law_span (fun vs H Q E h => ?_) (fun cdv A outer s H vs Q E hr h => ⟨_, PSs.nox (pss_cons (ps_set (i := 2) sc_law_span.nd rfl (Or.inl rfl) (pe_call (ok_law_between T) (hr.mono (by decide)) rfl T.g_law_between T.F_law_between.kp (b_law_between T) .nil pass0 (pa_cons (pv 0) (pa_cons (pe_int) (pa_cons (pe_callB (LL.call_mn rfl) (by rfl) T.z_min (by decide +kernel) (pa_cons (pv 1) (pa_cons (pe_int) pa_nil))) pa_nil))))) (pss_cons (ps_if (pt_cmpR op_eq (pe_call (ok_law_take T) (hr.mono (by decide)) rfl T.g_law_take T.F_law_take.kp (b_law_take T) .nil pass0 (pa_cons (pv 0) (pa_cons (pe_int) pa_nil))) (pe_int) (nomark _)) (pss_one (ps_set (i := 2) sc_law_span.nd rfl (Or.inl rfl) (pe_call (ok_law_number T) hr rfl T.g_law_number T.F_law_number.kp (b_law_number T) .nil pass0 (pa_cons (pv 0) (pa_cons (pe_int) (pa_cons (pv 1) pa_nil)))))) pss_nil) (pss_one (ps_ret (pe_tup (pa_cons (pe_call (ok_law_number T) hr rfl T.g_law_number T.F_law_number.kp (b_law_number T) .nil pass0 (pa_cons (pv 0) (pa_cons (pe_int) (pa_cons (pe_op op_sub (pv 1) (pv 2)) pa_nil)))) (pa_cons (pv 2) pa_nil))))))), ?_⟩)
  · obtain ⟨_, _, _, rfl, _⟩ := h
    rfl
  · obtain ⟨d, s, m, rfl, D, m0, m1, q⟩ := h
    simp only [tSeq, tAsg, tRet, tRetN, tDrop, tNext, tVar, tC, gName, tOp, tUn, rI, rI0, rU, tIfS, tTest, tB, tIf, tAnd, tOr, tNot, tAndV, tOrV, tNotV, tCall, tCons, tNil, tCB, tLst, tTup, tChain, CMul, CDiv, CPow, rEq, rNe, gSub, L2.start, LL.cxK0, LL.cxK1, List.map_cons, List.map_nil, List.length_cons, List.length_nil, List.replicate_succ, List.replicate_zero, List.cons_append, List.nil_append, List.append_nil, List.getElem?_cons_zero, List.getElem?_cons_succ, List.set_cons_zero, List.set_cons_succ, Nat.add_sub_cancel, Nat.reduceAdd, Nat.reduceSub, Option.some.injEq, V.int.injEq, V.bl.injEq, V.ref.injEq, V.str.injEq, List.cons.injEq, and_true, true_and, and_false, false_and, exists_eq_left, exists_eq_left', exists_and_left, exists_and_right, exists_eq, exists_eq', LL.if_dec, reduceCtorEq, exists_false, exists_const, or_false, false_or, if_true, if_false, LL.rInt1, LL.rMx, LL.rMn, and_assoc, Int.reduceNeg, Int.reduceLT, Int.reduceLE, Int.reduceMul, Int.reduceAdd, Int.reduceSub, Int.reducePow, Int.reduceToNat, Nat.reducePow, Nat.reduceLT, true_or, or_true, Bool.not_true, Bool.not_false, Bool.false_eq_true, Bool.or_false, Bool.or_true, Bool.true_or, Bool.false_or, decide_true, decide_false, not_true_eq_false, not_false_eq_true, LL.scal_int, LL.scal_bl, LL.scal_str, LL.isInt, LL.isBl, LL.isStr, LL.isLst, LL.isTup, LL.isDic, N_law_span]
    refine use_between D (big_of (by omega) (by omega)) fun v H1 a1 D1 v0 v1 => ?_
    refine use_take D1 (by decide +kernel) fun k H2 a2 D2 k0 k1 => ⟨scal_int.mpr trivial, ?_⟩
    have A := a1.trans a2
    split
    · refine use_number D2 (by omega) (by omega) (by omega) (by omega) fun v2 H3 a3 D3 v20 v21 => ⟨_, rfl, ?_⟩
      refine use_number D3 (by omega) (by omega) (by omega) (by omega) fun v4 H4 a4 D4 v40 v41 => ⟨by decide, ?_⟩
      have A2 := (A.trans a3).trans a4
      intro p np
      generalize hq : upd H4 p _ = H5
      have sH5 : Same H4 H5 := hq ▸ Same.new (Same.refl _) np
      have ep := hq ▸ (upd_same (H := H4) (a := p))
      clear hq
      exact q p v4 v2 _ (A2.trans ⟨.same sH5, D4.same sH5⟩) (D4.same sH5) (A2.free np) ep v40 v20 (by omega)
    · refine ⟨_, rfl, ?_⟩
      refine use_number D2 (by omega) (by omega) (by omega) (by omega) fun v4 H4 a4 D4 v40 v41 => ⟨by decide, ?_⟩
      have A2 := A.trans a4
      intro p np
      generalize hq : upd H4 p _ = H5
      have sH5 : Same H4 H5 := hq ▸ Same.new (Same.refl _) np
      have ep := hq ▸ (upd_same (H := H4) (a := p))
      clear hq
      exact q p v4 v _ (A2.trans ⟨.same sH5, D4.same sH5⟩) (D4.same sH5) (A2.free np) ep v40 (by omega) (by omega)
def sp_law_span_pair : Sp := fun vs H Q _ => ∃ (d s : Addr), vs = [.ref d] ∧ Drw d s H ∧ ∀ (P p q : Addr) (a b c e : Int) H', Aft d s H H' → Drw d s H' → H P = none → H p = none → H q = none → H' P = some (.lst [.ref p, .ref q]) → H' p = some (.tup [.int a, .int b]) → H' q = some (.tup [.int c, .int e]) → Spn a b → Spn c e → Q (.ref P) H'

theorem ok_law_span_pair (T : Tx K mg) : FnOk P w K mg base CX0 7 (He.ga K "_law_span_pair") T.fd_law_span_pair P_law_span_pair sp_law_span_pair := by
  refine T.F_law_span_pair.ok sc_law_span_pair (fun vs H Q E h => ?_) (fun cdv A outer s H vs Q E hr h => ⟨_, PSs.nox (pss_cons (ps_set (i := 1) sc_law_span_pair.nd rfl (Or.inl rfl) (pe_ix ix_list (pe_lst (pa_cons (pe_int) (pa_cons (pe_int) (pa_cons (pe_op op_pow (pe_int) (pe_int)) pa_nil)))) (pe_call (ok_law_take T) (hr.mono (by decide)) rfl T.g_law_take T.F_law_take.kp (b_law_take T) .nil pass0 (pa_cons (pv 0) (pa_cons (pe_int) pa_nil))) (fun _ _ => rfl))) (pss_cons (ps_set (i := 2) sc_law_span_pair.nd rfl (Or.inl rfl) (pe_call (ok_law_span T) hr rfl T.g_law_span T.F_law_span.kp (b_law_span T) .nil pass0 (pa_cons (pv 0) (pa_cons (pv 1) pa_nil)))) (pss_cons (ps_set (i := 3) sc_law_span_pair.nd rfl (Or.inl rfl) (pe_op op_add (pe_ix ix_tup (pv 2) (pe_int) (fun _ _ => rfl)) (pe_ix ix_tup (pv 2) (pe_int) (fun _ _ => rfl)))) (pss_cons (ps_set (i := 4) sc_law_span_pair.nd rfl (Or.inl rfl) (pe_call (ok_law_take T) (hr.mono (by decide)) rfl T.g_law_take T.F_law_take.kp (b_law_take T) .nil pass0 (pa_cons (pv 0) (pa_cons (pe_int) pa_nil)))) (pss_cons (ps_if (pt_cmpR op_eq (pv 4) (pe_int) (nomark _)) (pss_one (ps_ret (pe_lst (pa_cons (pv 2) (pa_cons (pe_tup (pa_cons (pe_ix ix_tup (pv 2) (pe_int) (fun _ _ => rfl)) (pa_cons (pe_ix ix_tup (pv 2) (pe_int) (fun _ _ => rfl)) pa_nil))) pa_nil))))) pss_nil) (pss_cons (ps_if (PW.pt (pw_and (pt_cmpR op_eq (pv 4) (pe_int) (nomark _)) (pw_and1 (pt_cmpR op_lt (pv 3) (pv 1) (nomark _))))) (pss_one (ps_ret (pe_lst (pa_cons (pv 2) (pa_cons (pe_tup (pa_cons (pv 3) (pa_cons (pe_call (ok_law_between T) (hr.mono (by decide)) rfl T.g_law_between T.F_law_between.kp (b_law_between T) .nil pass0 (pa_cons (pv 0) (pa_cons (pe_int) (pa_cons (pe_op op_sub (pv 1) (pv 3)) pa_nil)))) pa_nil))) pa_nil))))) pss_nil) (pss_cons (ps_if (PW.pt (pw_and (pt_cmpR op_eq (pv 4) (pe_int) (nomark _)) (pw_and1 (pt_cmpR op_gt (pe_ix ix_tup (pv 2) (pe_int) (fun _ _ => rfl)) (pe_int) (nomark _))))) (pss_cons (ps_set (i := 5) sc_law_span_pair.nd rfl (Or.inl rfl) (pe_call (ok_law_between T) (hr.mono (by decide)) rfl T.g_law_between T.F_law_between.kp (b_law_between T) .nil pass0 (pa_cons (pv 0) (pa_cons (pe_int) (pa_cons (pe_ix ix_tup (pv 2) (pe_int) (fun _ _ => rfl)) pa_nil))))) (pss_one (ps_ret (pe_lst (pa_cons (pv 2) (pa_cons (pe_tup (pa_cons (pe_op op_sub (pe_ix ix_tup (pv 2) (pe_int) (fun _ _ => rfl)) (pv 5)) (pa_cons (pv 5) pa_nil))) pa_nil)))))) pss_nil) (pss_cons (ps_if (pt_cmpR op_eq (pv 4) (pe_int) (nomark _)) (pss_cons (ps_set (i := 6) sc_law_span_pair.nd rfl (Or.inl rfl) (pe_call (ok_law_between T) (hr.mono (by decide)) rfl T.g_law_between T.F_law_between.kp (b_law_between T) .nil pass0 (pa_cons (pv 0) (pa_cons (pe_int) (pa_cons (pe_op op_sub (pe_ix ix_tup (pv 2) (pe_int) (fun _ _ => rfl)) (pe_int)) pa_nil))))) (pss_one (ps_ret (pe_lst (pa_cons (pv 2) (pa_cons (pe_tup (pa_cons (pe_op op_add (pe_ix ix_tup (pv 2) (pe_int) (fun _ _ => rfl)) (pv 6)) (pa_cons (pe_call (ok_law_between T) (hr.mono (by decide)) rfl T.g_law_between T.F_law_between.kp (b_law_between T) .nil pass0 (pa_cons (pv 0) (pa_cons (pe_int) (pa_cons (pe_op op_sub (pe_ix ix_tup (pv 2) (pe_int) (fun _ _ => rfl)) (pv 6)) pa_nil)))) pa_nil))) pa_nil)))))) pss_nil) (pss_cons (ps_if (pt_cmpR op_eq (pv 4) (pe_int) (nomark _)) (pss_one (ps_ret (pe_lst (pa_cons (pv 2) (pa_cons (pe_tup (pa_cons (pe_op op_sub (pv 3) (pe_int)) (pa_cons (pe_call (ok_law_between T) (hr.mono (by decide)) rfl T.g_law_between T.F_law_between.kp (b_law_between T) .nil pass0 (pa_cons (pv 0) (pa_cons (pe_int) (pa_cons (pe_op op_add (pe_op op_sub (pv 1) (pv 3)) (pe_int)) pa_nil)))) pa_nil))) pa_nil))))) pss_nil) (pss_cons (ps_if (pt_cmpR op_eq (pv 4) (pe_int) (nomark _)) (pss_cons (ps_set (i := 5) sc_law_span_pair.nd rfl (Or.inl rfl) (pe_call (ok_law_between T) (hr.mono (by decide)) rfl T.g_law_between T.F_law_between.kp (b_law_between T) .nil pass0 (pa_cons (pv 0) (pa_cons (pe_int) (pa_cons (pe_op op_add (pe_ix ix_tup (pv 2) (pe_int) (fun _ _ => rfl)) (pe_int)) pa_nil))))) (pss_one (ps_ret (pe_lst (pa_cons (pv 2) (pa_cons (pe_tup (pa_cons (pe_op op_sub (pe_op op_add (pe_ix ix_tup (pv 2) (pe_int) (fun _ _ => rfl)) (pe_int)) (pv 5)) (pa_cons (pv 5) pa_nil))) pa_nil)))))) pss_nil) (pss_one (ps_ret (pe_lst (pa_cons (pv 2) (pa_cons (pe_call (ok_law_span T) hr rfl T.g_law_span T.F_law_span.kp (b_law_span T) .nil pass0 (pa_cons (pv 0) (pa_cons (pv 1) pa_nil))) pa_nil))))))))))))))), ?_⟩)
  · obtain ⟨_, _, rfl, _⟩ := h
    rfl
  · obtain ⟨d, s, rfl, D, q⟩ := h
    simp only [tSeq, tAsg, tRet, tRetN, tDrop, tNext, tVar, tC, gName, tOp, tUn, rI, rI0, rU, tIfS, tTest, tB, tIf, tAnd, tOr, tNot, tAndV, tOrV, tNotV, tCall, tCons, tNil, tCB, tLst, tTup, tChain, CMul, CDiv, CPow, rEq, rNe, gSub, L2.start, LL.cxK0, LL.cxK1, List.map_cons, List.map_nil, List.length_cons, List.length_nil, List.replicate_succ, List.replicate_zero, List.cons_append, List.nil_append, List.append_nil, List.getElem?_cons_zero, List.getElem?_cons_succ, List.set_cons_zero, List.set_cons_succ, Nat.add_sub_cancel, Nat.reduceAdd, Nat.reduceSub, Option.some.injEq, V.int.injEq, V.bl.injEq, V.ref.injEq, V.str.injEq, List.cons.injEq, and_true, true_and, and_false, false_and, exists_eq_left, exists_eq_left', exists_and_left, exists_and_right, exists_eq, exists_eq', LL.if_dec, reduceCtorEq, exists_false, exists_const, or_false, false_or, if_true, if_false, LL.rInt1, LL.rMx, LL.rMn, and_assoc, Int.reduceNeg, Int.reduceLT, Int.reduceLE, Int.reduceMul, Int.reduceAdd, Int.reduceSub, Int.reducePow, Int.reduceToNat, Nat.reducePow, Nat.reduceLT, true_or, or_true, Bool.not_true, Bool.not_false, Bool.false_eq_true, Bool.or_false, Bool.or_true, Bool.true_or, Bool.false_or, decide_true, decide_false, not_true_eq_false, not_false_eq_true, LL.scal_int, LL.scal_bl, LL.scal_str, LL.isInt, LL.isBl, LL.isStr, LL.isLst, LL.isTup, LL.isDic, N_law_span_pair]
    refine ⟨by decide, by decide, ?_⟩
    intro p0 np0
    generalize hq : upd H p0 _ = H0
    have sH0 : Same H H0 := hq ▸ Same.new (Same.refl _) np0
    have ep0 := hq ▸ (upd_same (H := H) (a := p0))
    clear hq
    refine use_take (D.same sH0) (by decide +kernel) fun k H1 a1 D1 k0 k1 => ?_
    have ep1 := a1.kp _ _ ((D.ne _ np0)) ep0
    have A1 : Aft d s H H1 := Aft.trans ⟨.same sH0, D.same sH0⟩ a1
    refine use_pick ep1 k0 (by simp only [List.length_cons, List.length_nil]; omega) fun x hx => ?_
    obtain ⟨m, rfl, m0, m1⟩ : ∃ m : Int, x = V.int m ∧ 1 ≤ m ∧ m ≤ 1000000000 := by
      simp only [List.mem_cons, List.not_mem_nil, or_false] at hx
      rcases hx with rfl | rfl | rfl <;> exact ⟨_, rfl, by decide, by decide⟩
    refine use_spanD D1 m0 m1 fun o a b H2 a2 D2 no eo a0 b0 ab => ?_
    have A := A1.trans a2
    have fo := A1.free no
    have os := D1.ne _ no
    have leaf : ∀ (H1 : Hp) (c e : Int), Aft d s H H1 → H1 o = some (.tup [.int a, .int b]) → 0 ≤ c → 1 ≤ e → c + e ≤ m → 2 ≤ sizeLine ∧ ∀ (p : Addr), H1 p = none → 2 ≤ sizeLine ∧ ∀ (p_1 : Addr), upd H1 p (HO.tup [V.int c, V.int e]) p_1 = none → Q (V.ref p_1) (upd (upd H1 p (HO.tup [V.int c, V.int e])) p_1 (HO.lst [V.ref o, V.ref p])) := by
      intro H1 c e A1 eo c0 e0 ce
      refine ⟨by decide, ?_⟩
      intro p np
      generalize hq : upd H1 p _ = H2
      have sH2 : Same H1 H2 := hq ▸ Same.new (Same.refl _) np
      have ep := hq ▸ (upd_same (H := H1) (a := p))
      clear hq
      replace eo := sH2 _ _ eo
      refine ⟨by decide, ?_⟩
      have A2 : Aft d s H H2 := A1.trans ⟨.same sH2, A1.dr.same sH2⟩
      intro r nr
      generalize hq : upd H2 r _ = H3
      have sH3 : Same H2 H3 := hq ▸ Same.new (Same.refl _) nr
      have er := hq ▸ (upd_same (H := H2) (a := r))
      clear hq
      replace eo := sH3 _ _ eo
      replace ep := sH3 _ _ ep
      exact q r o p a b c e _ (A2.trans ⟨.same sH3, A2.dr.same sH3⟩) (A2.dr.same sH3) (A2.free nr) fo (A1.free np) er eo ep ⟨by omega, by omega, by omega⟩ ⟨by omega, by omega, by omega⟩
    have leaf2 : ∀ (H1 : Hp), Aft d s H H1 → H1 o = some (.tup [.int a, .int b]) → sp_law_span [V.ref d, V.int m] H1 (fun x H1 => 2 ≤ sizeLine ∧ ∀ (p : Addr), H1 p = none → Q (V.ref p) (upd H1 p (HO.lst [V.ref o, x]))) E0 := by
      intro H1 A1 eo
      refine use_spanD A1.dr m0 m1 fun p c e H2 a2 D2 np ep c0 e0 ce => ⟨by decide, ?_⟩
      replace eo := a2.kp _ _ os eo
      have A2 := A1.trans a2
      intro r nr
      generalize hq : upd H2 r _ = H3
      have sH3 : Same H2 H3 := hq ▸ Same.new (Same.refl _) nr
      have er := hq ▸ (upd_same (H := H2) (a := r))
      clear hq
      replace eo := sH3 _ _ eo
      replace ep := sH3 _ _ ep
      exact q r o p a b c e _ (A2.trans ⟨.same sH3, A2.dr.same sH3⟩) (A2.dr.same sH3) (A2.free nr) fo (A1.free np) er eo ep ⟨by omega, by omega, by omega⟩ ⟨by omega, by omega, by omega⟩
    refine use_ixT eo rfl (use_ixT eo rfl ⟨_, rfl, _, rfl, use_take D2 (by decide +kernel) fun k H3 a3 D3 k0 k1 => ?_⟩)
    replace eo := a3.kp _ _ os eo
    replace A := A.trans a3
    repeat' (first
      | exact leaf2 _ A eo
      | exact leaf _ _ _ A eo (by omega) (by omega) (by omega)
      | refine use_ixT eo rfl ?_
      | refine And.intro (show scal (V.int _) (V.int _) = true from scal_int.mpr trivial) ?_
      | refine Exists.intro _ (And.intro rfl ?_)
      | (refine use_between A.dr (big_of (by omega) (by omega)) ?_; intro v H9 a9 D9 h2 h3; replace eo := a9.kp _ _ os eo; replace A := A.trans a9)
      | refine itei (fun hc => ?_) (fun hc => ?_))
def sp_law_no_span : Sp := fun vs H Q _ => ∃ (d s p : Addr) (a b : Int), vs = [.ref d, .ref p] ∧ Drw d s H ∧ p ≠ s ∧ H p = some (.tup [.int a, .int b]) ∧ Spn a b ∧ ∀ v t H', Aft d s H H' → Drw d s H' → Dt (fun a => H a = none) H' v t → dep t ≤ 6 → spanB t = false → Q v H'

theorem ok_law_no_span (T : Tx K mg) : FnOk P w K mg base CX0 12 (He.ga K "_law_no_span") T.fd_law_no_span P_law_no_span sp_law_no_span := by
  refine T.F_law_no_span.ok sc_law_no_span (fun vs H Q E h => ?_) (fun cdv A outer s H vs Q E hr h => ⟨_, PSs.nox (pss_cons (ps_set (i := 2) sc_law_no_span.nd rfl (Or.inl rfl) (pe_call (ok_law_take T) (hr.mono (by decide)) rfl T.g_law_take T.F_law_take.kp (b_law_take T) .nil pass0 (pa_cons (pv 0) (pa_cons (pe_int) pa_nil)))) (pss_cons (ps_if (pt_cmpR op_lt (pv 2) (pe_int) (nomark _)) (pss_one (ps_ret (pe_ix ix_list (pe_lst (pa_cons (pe_lst (pa_cons (pe_ix ix_tup (pv 1) (pe_int) (fun _ _ => rfl)) (pa_cons (pe_ix ix_tup (pv 1) (pe_int) (fun _ _ => rfl)) pa_nil))) (pa_cons (pe_tup (pa_cons (pe_ix ix_tup (pv 1) (pe_int) (fun _ _ => rfl)) (pa_cons (pe_ix ix_tup (pv 1) (pe_int) (fun _ _ => rfl)) (pa_cons (pe_int) pa_nil)))) (pa_cons (pe_tup (pa_cons (pe_ix ix_tup (pv 1) (pe_int) (fun _ _ => rfl)) pa_nil)) pa_nil)))) (pv 2) (fun _ _ => rfl)))) pss_nil) (pss_cons (ps_if (pt_cmpR op_lt (pv 2) (pe_int) (nomark _)) (pss_one (ps_ret (pe_ix ix_list (pe_lst (pa_cons (pe_tup (pa_cons (pe_ix ix_tup (pv 1) (pe_int) (fun _ _ => rfl)) (pa_cons (pe_int) pa_nil))) (pa_cons (pe_tup (pa_cons (pe_op op_sub (pe_un un_neg (pe_int)) (pe_ix ix_tup (pv 1) (pe_int) (fun _ _ => rfl))) (pa_cons (pe_ix ix_tup (pv 1) (pe_int) (fun _ _ => rfl)) pa_nil))) (pa_cons (pe_tup (pa_cons (pe_ix ix_tup (pv 1) (pe_int) (fun _ _ => rfl)) (pa_cons (pe_un un_neg (pe_ix ix_tup (pv 1) (pe_int) (fun _ _ => rfl))) pa_nil))) pa_nil)))) (pe_op op_sub (pv 2) (pe_int)) (fun _ _ => rfl)))) pss_nil) (pss_cons (ps_if (pt_cmpR op_eq (pv 2) (pe_int) (nomark _)) (pss_one (ps_ret (pe_tup (pa_cons (pe_ix ix_tup (pv 1) (pe_int) (fun _ _ => rfl)) (pa_cons (pe_op op_sub (pe_op op_add (pe_op op_pow (pe_int) (pe_int)) (pe_int)) (pe_ix ix_tup (pv 1) (pe_int) (fun _ _ => rfl))) pa_nil))))) pss_nil) (pss_cons (ps_if (pt_cmpR op_eq (pv 2) (pe_int) (nomark _)) (pss_one (ps_ret (pe_tup (pa_cons (pe_call (ok_law_not_integer T) (hr.mono (by decide)) rfl T.g_law_not_integer T.F_law_not_integer.kp (b_law_not_integer T) .nil pass0 (pa_cons (pv 0) pa_nil)) (pa_cons (pe_ix ix_tup (pv 1) (pe_int) (fun _ _ => rfl)) pa_nil))))) pss_nil) (pss_cons (ps_if (pt_cmpR op_eq (pv 2) (pe_int) (nomark _)) (pss_one (ps_ret (pe_tup (pa_cons (pe_ix ix_tup (pv 1) (pe_int) (fun _ _ => rfl)) (pa_cons (pe_call (ok_law_not_integer T) (hr.mono (by decide)) rfl T.g_law_not_integer T.F_law_not_integer.kp (b_law_not_integer T) .nil pass0 (pa_cons (pv 0) pa_nil)) pa_nil))))) pss_nil) (pss_cons (ps_set (i := 3) sc_law_no_span.nd rfl (Or.inl rfl) (pe_call (ok_law_plain T 3) hr rfl T.g_law_plain T.F_law_plain.kp (b_law_plain T) .nil pass0 (pa_cons (pv 0) (pa_cons (pe_int) pa_nil)))) (pss_cons (ps_if (pt_val (pe_call (ok_law_is_span T) (hr.mono (by decide)) rfl T.g_law_is_span T.F_law_is_span.kp (b_law_is_span T) .nil pass0 (pa_cons (pv 3) pa_nil))) (pss_one (ps_ret (pe_non))) pss_nil) (pss_one (ps_ret (pv 3))))))))))), ?_⟩)
  · obtain ⟨_, _, _, _, _, rfl, _⟩ := h
    rfl
  · obtain ⟨d, s, p, a, b, rfl, D, ps, ep, hs, q⟩ := h
    simp only [tSeq, tAsg, tRet, tRetN, tDrop, tNext, tVar, tC, gName, tOp, tUn, rI, rI0, rU, tIfS, tTest, tB, tIf, tAnd, tOr, tNot, tAndV, tOrV, tNotV, tCall, tCons, tNil, tCB, tLst, tTup, tChain, CMul, CDiv, CPow, rEq, rNe, gSub, L2.start, LL.cxK0, LL.cxK1, List.map_cons, List.map_nil, List.length_cons, List.length_nil, List.replicate_succ, List.replicate_zero, List.cons_append, List.nil_append, List.append_nil, List.getElem?_cons_zero, List.getElem?_cons_succ, List.set_cons_zero, List.set_cons_succ, Nat.add_sub_cancel, Nat.reduceAdd, Nat.reduceSub, Option.some.injEq, V.int.injEq, V.bl.injEq, V.ref.injEq, V.str.injEq, List.cons.injEq, and_true, true_and, and_false, false_and, exists_eq_left, exists_eq_left', exists_and_left, exists_and_right, exists_eq, exists_eq', LL.if_dec, reduceCtorEq, exists_false, exists_const, or_false, false_or, if_true, if_false, LL.rInt1, LL.rMx, LL.rMn, and_assoc, Int.reduceNeg, Int.reduceLT, Int.reduceLE, Int.reduceMul, Int.reduceAdd, Int.reduceSub, Int.reducePow, Int.reduceToNat, Nat.reducePow, Nat.reduceLT, true_or, or_true, Bool.not_true, Bool.not_false, Bool.false_eq_true, Bool.or_false, Bool.or_true, Bool.true_or, Bool.false_or, decide_true, decide_false, not_true_eq_false, not_false_eq_true, LL.scal_int, LL.scal_bl, LL.scal_str, LL.isInt, LL.isBl, LL.isStr, LL.isLst, LL.isTup, LL.isDic, N_law_no_span]
    refine use_take D (by decide +kernel) fun k H1 a1 D1 k0 k1 => ?_
    replace ep := a1.kp _ _ ps ep
    simp only [tSeq, tAsg, tRet, tRetN, tDrop, tNext, tVar, tC, gName, tOp, tUn, rI, rI0, rU, tIfS, tTest, tB, tIf, tAnd, tOr, tNot, tAndV, tOrV, tNotV, tCall, tCons, tNil, tCB, tLst, tTup, tChain, CMul, CDiv, CPow, rEq, rNe, gSub, L2.start, LL.cxK0, LL.cxK1, List.map_cons, List.map_nil, List.length_cons, List.length_nil, List.replicate_succ, List.replicate_zero, List.cons_append, List.nil_append, List.append_nil, List.getElem?_cons_zero, List.getElem?_cons_succ, List.set_cons_zero, List.set_cons_succ, Nat.add_sub_cancel, Nat.reduceAdd, Nat.reduceSub, Option.some.injEq, V.int.injEq, V.bl.injEq, V.ref.injEq, V.str.injEq, List.cons.injEq, and_true, true_and, and_false, false_and, exists_eq_left, exists_eq_left', exists_and_left, exists_and_right, exists_eq, exists_eq', LL.if_dec, reduceCtorEq, exists_false, exists_const, or_false, false_or, if_true, if_false, LL.rInt1, LL.rMx, LL.rMn, and_assoc, Int.reduceNeg, Int.reduceLT, Int.reduceLE, Int.reduceMul, Int.reduceAdd, Int.reduceSub, Int.reducePow, Int.reduceToNat, Nat.reducePow, Nat.reduceLT, true_or, or_true, Bool.not_true, Bool.not_false, Bool.false_eq_true, Bool.or_false, Bool.or_true, Bool.true_or, Bool.false_or, decide_true, decide_false, not_true_eq_false, not_false_eq_true, LL.scal_int, LL.scal_bl, LL.scal_str, LL.isInt, LL.isBl, LL.isStr, LL.isLst, LL.isTup, LL.isDic]
    have b0 := hs.1
    have b1 := hs.2.1
    have A1 : Aft d s H H1 := a1
    refine itei (fun hk => ?_) (fun hk => itei (fun hk2 => ?_) (fun hk2 => itei (fun hk3 => ?_) (fun hk3 => itei (fun hk4 => ?_) (fun hk4 => itei (fun hk5 => ?_) (fun hk5 => ?_)))))
    · refine use_ixT ep rfl (use_ixT ep rfl ⟨by decide, ?_⟩)
      intro p1 np1
      generalize hq : upd H1 p1 _ = H2
      have sH2 : Same H1 H2 := hq ▸ Same.new (Same.refl _) np1
      have ep1 := hq ▸ (upd_same (H := H1) (a := p1))
      clear hq
      replace ep := sH2 _ _ ep
      refine use_ixT ep rfl (use_ixT ep rfl ⟨by decide, ?_⟩)
      intro p2 np2
      generalize hq : upd H2 p2 _ = H3
      have sH3 : Same H2 H3 := hq ▸ Same.new (Same.refl _) np2
      have ep2 := hq ▸ (upd_same (H := H2) (a := p2))
      clear hq
      replace ep := sH3 _ _ ep
      replace ep1 := sH3 _ _ ep1
      refine use_ixT ep rfl ⟨by decide, ?_⟩
      intro p3 np3
      generalize hq : upd H3 p3 _ = H4
      have sH4 : Same H3 H4 := hq ▸ Same.new (Same.refl _) np3
      have ep3 := hq ▸ (upd_same (H := H3) (a := p3))
      clear hq
      replace ep := sH4 _ _ ep
      replace ep1 := sH4 _ _ ep1
      replace ep2 := sH4 _ _ ep2
      refine ⟨by decide, ?_⟩
      intro p4 np4
      generalize hq : upd H4 p4 _ = H5
      have sH5 : Same H4 H5 := hq ▸ Same.new (Same.refl _) np4
      have ep4 := hq ▸ (upd_same (H := H4) (a := p4))
      clear hq
      replace ep := sH5 _ _ ep
      replace ep1 := sH5 _ _ ep1
      replace ep2 := sH5 _ _ ep2
      replace ep3 := sH5 _ _ ep3
      have g : Same H1 H5 := ((sH2.trans sH3).trans sH4).trans sH5
      have A5 : Aft d s H H5 := A1.trans ⟨.same g, A1.dr.same g⟩
      refine use_pick ep4 k0 (by simp only [List.length_cons, List.length_nil]; omega) fun x hx => ?_
      simp only [List.mem_cons, List.not_mem_nil, or_false] at hx
      rcases hx with rfl | rfl | rfl
      · exact q _ (.lst [.int a, .int b]) _ A5 A5.dr ⟨p1, _, rfl, A1.free np1, ep1, .cons rfl (.one rfl), by simp⟩ (by simp [dep, depL]) rfl
      · exact q _ (.tup [.int a, .int b, .int 1]) _ A5 A5.dr ⟨p2, _, rfl, A1.free (sH2.free np2), ep2, .cons rfl (.cons rfl (.one rfl)), by simp⟩ (by simp [dep, depL]) rfl
      · exact q _ (.tup [.int a]) _ A5 A5.dr ⟨p3, _, rfl, A1.free (sH2.free (sH3.free np3)), ep3, .one rfl, by simp⟩ (by simp [dep, depL]) rfl
    · refine use_ixT ep rfl ⟨by decide, ?_⟩
      intro p1 np1
      generalize hq : upd H1 p1 _ = H2
      have sH2 : Same H1 H2 := hq ▸ Same.new (Same.refl _) np1
      have ep1 := hq ▸ (upd_same (H := H1) (a := p1))
      clear hq
      replace ep := sH2 _ _ ep
      refine use_ixT ep rfl ⟨_, rfl, use_ixT ep rfl ⟨by decide, ?_⟩⟩
      intro p2 np2
      generalize hq : upd H2 p2 _ = H3
      have sH3 : Same H2 H3 := hq ▸ Same.new (Same.refl _) np2
      have ep2 := hq ▸ (upd_same (H := H2) (a := p2))
      clear hq
      replace ep := sH3 _ _ ep
      replace ep1 := sH3 _ _ ep1
      refine use_ixT ep rfl (use_ixT ep rfl ⟨_, rfl, by decide, ?_⟩)
      intro p3 np3
      generalize hq : upd H3 p3 _ = H4
      have sH4 : Same H3 H4 := hq ▸ Same.new (Same.refl _) np3
      have ep3 := hq ▸ (upd_same (H := H3) (a := p3))
      clear hq
      replace ep := sH4 _ _ ep
      replace ep1 := sH4 _ _ ep1
      replace ep2 := sH4 _ _ ep2
      refine ⟨by decide, ?_⟩
      intro p4 np4
      generalize hq : upd H4 p4 _ = H5
      have sH5 : Same H4 H5 := hq ▸ Same.new (Same.refl _) np4
      have ep4 := hq ▸ (upd_same (H := H4) (a := p4))
      clear hq
      replace ep := sH5 _ _ ep
      replace ep1 := sH5 _ _ ep1
      replace ep2 := sH5 _ _ ep2
      replace ep3 := sH5 _ _ ep3
      have g : Same H1 H5 := ((sH2.trans sH3).trans sH4).trans sH5
      have A5 : Aft d s H H5 := A1.trans ⟨.same g, A1.dr.same g⟩
      refine use_pick ep4 (by omega) (by simp only [List.length_cons, List.length_nil]; omega) fun x hx => ?_
      simp only [List.mem_cons, List.not_mem_nil, or_false] at hx
      rcases hx with rfl | rfl | rfl
      · exact q _ (.tup [.int a, .int 0]) _ A5 A5.dr (dt_pair (A1.free np1) ep1) (by simp [dep, depL]) (no_spn fun h => by have := h.2.1; omega)
      · exact q _ (.tup [.int (-1 - a), .int b]) _ A5 A5.dr (dt_pair (A1.free (sH2.free np2)) ep2) (by simp [dep, depL]) (no_spn fun h => by have := h.1; omega)
      · exact q _ (.tup [.int a, .int (-b)]) _ A5 A5.dr (dt_pair (A1.free (sH2.free (sH3.free np3))) ep3) (by simp [dep, depL]) (no_spn fun h => by have := h.2.1; omega)
    · refine use_ixT ep rfl ⟨by decide, use_ixT ep rfl ⟨_, rfl, by decide, ?_⟩⟩
      intro p1 np1
      generalize hq : upd H1 p1 _ = H2
      have sH2 : Same H1 H2 := hq ▸ Same.new (Same.refl _) np1
      have ep1 := hq ▸ (upd_same (H := H1) (a := p1))
      clear hq
      replace ep := sH2 _ _ ep
      exact q _ (.tup [.int a, .int (1000000001 - a)]) _ (A1.trans ⟨.same sH2, A1.dr.same sH2⟩) (A1.dr.same sH2) (dt_pair (A1.free np1) ep1) (by simp [dep, depL]) (no_spn fun h => by have := h.2.2; omega)
    · refine ⟨d, s, rfl, D1, fun v t H2 a2 D2 hv hd hi => use_ixT (a2.kp _ _ ps ep) rfl ⟨by decide, ?_⟩⟩
      have A2 := A1.trans a2
      intro p1 np1
      generalize hq : upd H2 p1 _ = H3
      have sH3 : Same H2 H3 := hq ▸ Same.new (Same.refl _) np1
      have ep1 := hq ▸ (upd_same (H := H2) (a := p1))
      clear hq
      refine q _ (.tup [t, .int b]) _ (A2.trans ⟨.same sH3, D2.same sH3⟩) (D2.same sH3) ⟨p1, _, rfl, A2.free np1, ep1, .cons ((hv.same sH3).to fun z hz => A1.free hz) (.one rfl), by simp⟩ (by simp only [dep, depL]; omega) (by cases t <;> first | rfl | cases hi)
    · refine use_ixT ep rfl ⟨d, s, rfl, D1, fun v t H2 a2 D2 hv hd hi => ⟨by decide, ?_⟩⟩
      have A2 := A1.trans a2
      intro p1 np1
      generalize hq : upd H2 p1 _ = H3
      have sH3 : Same H2 H3 := hq ▸ Same.new (Same.refl _) np1
      have ep1 := hq ▸ (upd_same (H := H2) (a := p1))
      clear hq
      refine q _ (.tup [.int a, t]) _ (A2.trans ⟨.same sH3, D2.same sH3⟩) (D2.same sH3) ⟨p1, _, rfl, A2.free np1, ep1, .cons rfl (.one ((hv.same sH3).to fun z hz => A1.free hz)), by simp⟩ (by simp only [dep, depL]; omega) (by cases t <;> first | rfl | cases hi)
    · refine use_plain (m := 2) D1 (by decide) (by decide) fun v t H2 a2 D2 hv hd => use_span hv ⟨_, rfl, ?_⟩
      have A2 := A1.trans a2
      cases hb : spanB t with
      | true =>
        rw [if_pos rfl]
        exact q _ .non _ A2 D2 rfl (by simp [dep]) rfl
      | false =>
        rw [if_neg (by simp)]
        exact q _ t _ A2 D2 (hv.to fun z hz => A1.free hz) hd hb
/-- the titles of the calls -/
def ttl : Nat → Str
  | 0 => "overlap"
  | 1 => "meet"
  | _ => "end_of"
def endN : LL.T → Int
  | .tup [.int a, .int b] => a + b
  | _ => 0
def metN : LL.T → LL.T → Bool
  | .tup [.int a, .int b], .tup [.int c, .int e] => metB a b c e
  | _, _ => false
def meetN : LL.T → LL.T → LL.T
  | .tup [.int a, .int b], .tup [.int c, .int e] => meetT a b c e
  | _, _ => .non
/-- what is told of a call -/
def askT (k : Nat) (t u : LL.T) : LL.T := if k = 2 then (if spanB t = true then .lst [.str "done", .int (endN t)] else refT "span")
  else if spanB t = true then (if spanB u = true then .lst [.str "done", if k = 0 then .bl (metN t u) else meetN t u] else refT "second") else refT "first"
def sp_law_asked : Sp := fun vs H Q _ => ∃ (k : Nat) (F G : Addr → Prop) (v x : V) (t u : LL.T), vs = [.str (ttl k), v, x] ∧ k ≤ 2 ∧ Dt F H v t ∧ Dt G H x u ∧ ∀ r H', Same H H' → Dt (fun a => H a = none) H' r (askT k t u) → Q r H'
theorem ask_first {k : Nat} {t u : LL.T} (hk : k ≠ 2) (h : spanB t = false) : askT k t u = refT "first" := by unfold askT; rw [if_neg hk, if_neg (by rw [h]; simp)]
theorem ask_second {k : Nat} {t u : LL.T} (hk : k ≠ 2) (h0 : spanB t = true) (h : spanB u = false) : askT k t u = refT "second" := by unfold askT; rw [if_neg hk, if_pos h0, if_neg (by rw [h]; simp)]
theorem ask_meet {k : Nat} {t u : LL.T} (hk : k ≠ 2) (h0 : spanB t = true) (h : spanB u = true) : askT k t u = .lst [.str "done", if k = 0 then .bl (metN t u) else meetN t u] := by unfold askT; rw [if_neg hk, if_pos h0, if_pos h]
theorem ask_end0 {t u : LL.T} (h : spanB t = false) : askT 2 t u = refT "span" := by unfold askT; rw [if_pos rfl, if_neg (by rw [h]; simp)]
theorem ask_end {t u : LL.T} (h : spanB t = true) : askT 2 t u = .lst [.str "done", .int (endN t)] := by unfold askT; rw [if_pos rfl, if_pos h]

theorem ok_law_asked (T : Tx K mg) : FnOk P w K mg base CX0 7 (He.ga K "_law_asked") T.fd_law_asked P_law_asked sp_law_asked := by
  refine T.F_law_asked.ok sc_law_asked (fun vs H Q E h => ?_) (fun cdv A outer s H vs Q E hr h => ⟨_, PSs.nox (pss_one (ps_try_as (i := 3) rfl rfl sc_law_asked.nd rfl rfl ⟨rfl, by decide, Or.inl T.g_BadValue⟩ takes0 (fun W pn xe tk _ => (pss_cons (ps_if (pt_cmpR op_eq (pv 0) (pe_str) (nomark _)) (pss_one (ps_ret (pe_lst (pa_cons (pe_str) (pa_cons (by exact pe_callS (ok_overlap T) hr rfl T.g_overlap T.F_overlap.kp (b_overlap T) (fun σ => passAt tk σ) (by exact (pa_cons (pv 1) (pa_cons (pv 2) pa_nil)))) pa_nil))))) pss_nil) (pss_cons (ps_if (pt_cmpR op_eq (pv 0) (pe_str) (nomark _)) (pss_one (ps_ret (pe_lst (pa_cons (pe_str) (pa_cons (by exact pe_callS (ok_meet T) (hr.mono (by decide)) rfl T.g_meet T.F_meet.kp (b_meet T) (fun σ => passAt tk σ) (by exact (pa_cons (pv 1) (pa_cons (pv 2) pa_nil)))) pa_nil))))) pss_nil) (pss_one (ps_ret (pe_lst (pa_cons (pe_str) (pa_cons (by exact pe_callS (ok_end_of T) (hr.mono (by decide)) rfl T.g_end_of T.F_end_of.kp (b_end_of T) (fun σ => passAt tk σ) (by exact (pa_cons (pv 1) pa_nil))) pa_nil)))))))) (fun a oe cls d pn hz hf => (pss_one (ps_ret (pe_lst (pa_cons (pe_str) (pa_cons (pe_xf T.f_BadValue T.n_BadValue_told hz hf (pv 3)) (pa_cons (pe_tup (pa_cons (pe_xf T.f_BadValue T.n_BadValue_parameter hz hf (pv 3)) pa_nil)) (pa_cons (pe_callZ (ok_law_kinds T) (hr.mono (by decide)) hz hf rfl T.g_law_kinds T.F_law_kinds.kp (b_law_kinds T) (pa_cons (pv 3) pa_nil)) pa_nil)))))))))), ?_⟩)
  · obtain ⟨_, _, _, _, _, _, _, rfl, _⟩ := h
    rfl
  · obtain ⟨k, F, G, v, x, t, u, rfl, hk, h1, h2, q⟩ := h
    simp only [tSeq, tAsg, tRet, tRetN, tDrop, tNext, tVar, tC, gName, tOp, tUn, rI, rI0, rU, tIfS, tTest, tB, tIf, tAnd, tOr, tNot, tAndV, tOrV, tNotV, tCall, tCons, tNil, tCB, tLst, tTup, tChain, CMul, CDiv, CPow, rEq, rNe, gSub, L2.start, LL.cxK0, LL.cxK1, List.map_cons, List.map_nil, List.length_cons, List.length_nil, List.replicate_succ, List.replicate_zero, List.cons_append, List.nil_append, List.append_nil, List.getElem?_cons_zero, List.getElem?_cons_succ, List.set_cons_zero, List.set_cons_succ, Nat.add_sub_cancel, Nat.reduceAdd, Nat.reduceSub, Option.some.injEq, V.int.injEq, V.bl.injEq, V.ref.injEq, V.str.injEq, List.cons.injEq, and_true, true_and, and_false, false_and, exists_eq_left, exists_eq_left', exists_and_left, exists_and_right, exists_eq, exists_eq', LL.if_dec, reduceCtorEq, exists_false, exists_const, or_false, false_or, if_true, if_false, LL.rInt1, LL.rMx, LL.rMn, and_assoc, Int.reduceNeg, Int.reduceLT, Int.reduceLE, Int.reduceMul, Int.reduceAdd, Int.reduceSub, Int.reducePow, Int.reduceToNat, Nat.reducePow, Nat.reduceLT, true_or, or_true, Bool.not_true, Bool.not_false, Bool.false_eq_true, Bool.or_false, Bool.or_true, Bool.true_or, Bool.false_or, decide_true, decide_false, not_true_eq_false, not_false_eq_true, LL.scal_int, LL.scal_bl, LL.scal_str, LL.isInt, LL.isBl, LL.isStr, LL.isLst, LL.isTup, LL.isDic, N_law_asked, tCallS]
    have bad : ∀ (n : Str) (d : Addr) (H' : Hp), BadH H H' d (.str n) → askT k t u = refT n → WE (wAs K (Value.ref (aBV K)) 3 (fun a cls d => tRet (tLst (tCons (tC (V.str "refused")) (tCons (tXf a cls d (aBV K) "told" (tVar 3)) (tCons (tTup (tCons (tXf a cls d (aBV K) "parameter" (tVar 3)) tNil)) (tCons (tCallZ cls d a (sp_law_kinds K) (tCons (tVar 3) tNil)) tNil))))))
        (fun x x_1 x_2 x_3 => False) { nx := fun x H' => Q V.non H', rt := Q }) [some (V.str (ttl k)), some v, some x, none] (.ref (aBV K)) (some d) H' := by
      rintro n d H' ⟨⟨p1, p2, e1, e2, e3, f1, f2⟩, sm, fd⟩ ea
      refine ⟨true, T.m_BadValue, fun _ a na => ?_, fun z => by cases z⟩
      have l1 : List.lookup ("told" : Str) [("told", V.ref p2), ("parameter", V.str n)] = some (V.ref p2) := by simp [List.lookup]
      have l2 : List.lookup ("parameter" : Str) [(("told" : Str), V.ref p2), ("parameter", V.str n)] = some (V.str n) := by
        have h : (("parameter" : Str) == ("told" : Str)) = false := by decide
        simp [List.lookup, h]
      simp only [tSeq, tAsg, tRet, tRetN, tDrop, tNext, tVar, tC, gName, tOp, tUn, rI, rI0, rU, tIfS, tTest, tB, tIf, tAnd, tOr, tNot, tAndV, tOrV, tNotV, tCall, tCons, tNil, tCB, tLst, tTup, tChain, CMul, CDiv, CPow, rEq, rNe, gSub, L2.start, LL.cxK0, LL.cxK1, List.map_cons, List.map_nil, List.length_cons, List.length_nil, List.replicate_succ, List.replicate_zero, List.cons_append, List.nil_append, List.append_nil, List.getElem?_cons_zero, List.getElem?_cons_succ, List.set_cons_zero, List.set_cons_succ, Nat.add_sub_cancel, Nat.reduceAdd, Nat.reduceSub, Option.some.injEq, V.int.injEq, V.bl.injEq, V.ref.injEq, V.str.injEq, List.cons.injEq, and_true, true_and, and_false, false_and, exists_eq_left, exists_eq_left', exists_and_left, exists_and_right, exists_eq, exists_eq', LL.if_dec, reduceCtorEq, exists_false, exists_const, or_false, false_or, if_true, if_false, LL.rInt1, LL.rMx, LL.rMn, and_assoc, Int.reduceNeg, Int.reduceLT, Int.reduceLE, Int.reduceMul, Int.reduceAdd, Int.reduceSub, Int.reducePow, Int.reduceToNat, Nat.reducePow, Nat.reduceLT, true_or, or_true, Bool.not_true, Bool.not_false, Bool.false_eq_true, Bool.or_false, Bool.or_true, Bool.true_or, Bool.false_or, decide_true, decide_false, not_true_eq_false, not_false_eq_true, LL.scal_int, LL.scal_bl, LL.scal_str, LL.isInt, LL.isBl, LL.isStr, LL.isLst, LL.isTup, LL.isDic, tXf, tCallZ]
      refine ⟨_, e1, _, l1, _, e1, _, l2, by decide, ?_⟩
      intro p3 np3
      generalize hq : upd H' p3 _ = H1
      have sH1 : Same H' H1 := hq ▸ Same.new (Same.refl _) np3
      have ep3 := hq ▸ (upd_same (H := H') (a := p3))
      clear hq
      replace e1 := sH1 _ _ e1
      replace e2 := sH1 _ _ e2
      replace e3 := sH1 _ _ e3
      refine ⟨_, rfl, rfl, rfl, ⟨_, e1⟩, fun r H2 s2 hr => ⟨by decide, ?_⟩⟩
      replace e2 := s2 _ _ e2
      replace e3 := s2 _ _ e3
      replace ep3 := s2 _ _ ep3
      intro p4 np4
      generalize hq : upd H2 p4 _ = H3
      have sH3 : Same H2 H3 := hq ▸ Same.new (Same.refl _) np4
      have ep4 := hq ▸ (upd_same (H := H2) (a := p4))
      clear hq
      replace e2 := sH3 _ _ e2
      replace e3 := sH3 _ _ e3
      replace ep3 := sH3 _ _ ep3
      have g1 : Same H H1 := sm.trans sH1
      have g : Same H H3 := (g1.trans s2).trans sH3
      refine q _ _ g ?_
      rw [ea]
      refine ⟨p4, _, rfl, (g1.trans s2).free np4, ep4, .cons rfl (.cons ⟨p2, _, rfl, f2, e3, .cons rfl (.one ⟨p1, _, rfl, f1, e2, .one rfl, by simp⟩), by simp⟩ (.cons ⟨p3, _, rfl, sm.free np3, ep3, .one rfl, by simp⟩ (.one ((hr.same sH3).to fun b hb => g1.free hb)))), by simp⟩
    have good : ∀ (r : V) (z : LL.T) (H' : Hp), Same H H' → Dt (fun a => H a = none) H' r z → askT k t u = .lst [.str "done", z] → 2 ≤ sizeLine ∧ ∀ (p : Addr), H' p = none → Q (V.ref p) (upd H' p (HO.lst [V.str "done", r])) := by
      intro r z H' sm hr ea
      refine ⟨by decide, ?_⟩
      intro p np
      generalize hq : upd H' p _ = H1
      have sH1 : Same H' H1 := hq ▸ Same.new (Same.refl _) np
      have ep := hq ▸ (upd_same (H := H') (a := p))
      clear hq
      refine q _ _ (sm.trans sH1) ?_
      rw [ea]
      exact ⟨p, _, rfl, sm.free np, ep, .cons rfl (.one (hr.same sH1)), by simp⟩
    match k, hk with
    | 0, _ =>
      rw [if_pos (show ttl 0 = Str.ofString "overlap" from rfl)]
      refine ⟨F, G, v, x, t, u, rfl, h1, h2, fun hb d H' B => bad _ d H' B (ask_first (by decide) hb), fun ha hb d H' B => bad _ d H' B (ask_second (by decide) ha hb), fun a b c e et eu s1 s2 H' sm => good _ (.bl (metB a b c e)) H' sm rfl ?_⟩
      subst et eu
      exact ask_meet (by decide) (span_t s1) (span_t s2)
    | 1, _ =>
      rw [if_neg (show ¬ ttl 1 = Str.ofString "overlap" by decide), if_pos (show ttl 1 = Str.ofString "meet" from rfl)]
      refine ⟨F, G, v, x, t, u, rfl, h1, h2, fun hb d H' B => bad _ d H' B (ask_first (by decide) hb), fun ha hb d H' B => bad _ d H' B (ask_second (by decide) ha hb), fun a b c e et eu s1 s2 r H' sm hr => good _ (meetT a b c e) H' sm hr ?_⟩
      subst et eu
      exact ask_meet (by decide) (span_t s1) (span_t s2)
    | 2, _ =>
      rw [if_neg (show ¬ ttl 2 = Str.ofString "overlap" by decide), if_neg (show ¬ ttl 2 = Str.ofString "meet" by decide)]
      refine ⟨F, v, t, rfl, h1, fun hb d H' B => bad _ d H' B (ask_end0 hb), fun a b et s1 => good _ (.int (a + b)) H (Same.refl _) rfl ?_⟩
      subst et
      exact ask_end (span_t s1)
def sp_law_lies_in : Sp := fun vs H Q _ => ∃ (p : Addr) (i a b : Int), vs = [.int i, .ref p] ∧ H p = some (.tup [.int a, .int b]) ∧ Q (.bl (decide (a ≤ i ∧ i < a + b))) H
theorem use_lies {p : Addr} {i a b : Int} {H : Hp} {Q : VK} {E : XK} (h : H p = some (.tup [.int a, .int b])) (q : Q (.bl (decide (a ≤ i ∧ i < a + b))) H) : sp_law_lies_in [.int i, .ref p] H Q E := ⟨p, i, a, b, rfl, h, q⟩

theorem ok_law_lies_in (T : Tx K mg) : FnOk P w K mg base CX0 1 (He.ga K "_law_lies_in") T.fd_law_lies_in P_law_lies_in sp_law_lies_in := by
  refine T.F_law_lies_in.ok sc_law_lies_in (fun vs H Q E h => ?_) (fun cdv A outer s H vs Q E hr h => ⟨_, PSs.nox (pss_one (ps_ret (pe_chain op_le op_lt (pe_ix ix_tup (pv 1) (pe_int) (fun _ _ => rfl)) (pv 0) (pe_op op_add (pe_ix ix_tup (pv 1) (pe_int) (fun _ _ => rfl)) (pe_ix ix_tup (pv 1) (pe_int) (fun _ _ => rfl)))))), ?_⟩)
  · obtain ⟨_, _, _, _, rfl, _⟩ := h
    rfl
  · obtain ⟨p, i, a, b, rfl, ep, q⟩ := h
    simp only [tSeq, tAsg, tRet, tRetN, tDrop, tNext, tVar, tC, gName, tOp, tUn, rI, rI0, rU, tIfS, tTest, tB, tIf, tAnd, tOr, tNot, tAndV, tOrV, tNotV, tCall, tCons, tNil, tCB, tLst, tTup, tChain, CMul, CDiv, CPow, rEq, rNe, gSub, L2.start, LL.cxK0, LL.cxK1, List.map_cons, List.map_nil, List.length_cons, List.length_nil, List.replicate_succ, List.replicate_zero, List.cons_append, List.nil_append, List.append_nil, List.getElem?_cons_zero, List.getElem?_cons_succ, List.set_cons_zero, List.set_cons_succ, Nat.add_sub_cancel, Nat.reduceAdd, Nat.reduceSub, Option.some.injEq, V.int.injEq, V.bl.injEq, V.ref.injEq, V.str.injEq, List.cons.injEq, and_true, true_and, and_false, false_and, exists_eq_left, exists_eq_left', exists_and_left, exists_and_right, exists_eq, exists_eq', LL.if_dec, reduceCtorEq, exists_false, exists_const, or_false, false_or, if_true, if_false, LL.rInt1, LL.rMx, LL.rMn, and_assoc, Int.reduceNeg, Int.reduceLT, Int.reduceLE, Int.reduceMul, Int.reduceAdd, Int.reduceSub, Int.reducePow, Int.reduceToNat, Nat.reducePow, Nat.reduceLT, true_or, or_true, Bool.not_true, Bool.not_false, Bool.false_eq_true, Bool.or_false, Bool.or_true, Bool.true_or, Bool.false_or, decide_true, decide_false, not_true_eq_false, not_false_eq_true, LL.scal_int, LL.scal_bl, LL.scal_str, LL.isInt, LL.isBl, LL.isStr, LL.isLst, LL.isTup, LL.isDic, N_law_lies_in]
    refine use_ixT ep rfl ⟨_, rfl, itei (fun hc => use_ixT ep rfl (use_ixT ep rfl ⟨_, rfl, _, rfl, ?_⟩)) (fun hc => ?_)⟩
    · rw [show decide (a ≤ i ∧ i < a + b) = decide (i < a + b) from decide_eq_decide.mpr ⟨fun h => h.2, fun h => ⟨hc, h⟩⟩] at q
      exact q
    · rw [decide_eq_false (fun h => hc h.1)] at q
      exact q
def sp_law_meet_right : Sp := fun vs H Q _ => ∃ (F : Addr → Prop) (p1 p2 : Addr) (v : V) (a b c e : Int), vs = [.ref p1, .ref p2, v] ∧ H p1 = some (.tup [.int a, .int b]) ∧ H p2 = some (.tup [.int c, .int e]) ∧ Spn a b ∧ Spn c e ∧ Dt F H v (meetT a b c e) ∧ ∀ H', Same H H' → Q (.bl true) H'

theorem ok_law_meet_right (T : Tx K mg) : FnOk P w K mg base CX0 4 (He.ga K "_law_meet_right") T.fd_law_meet_right P_law_meet_right sp_law_meet_right := by
  refine T.F_law_meet_right.ok sc_law_meet_right (fun vs H Q E h => ?_) (fun cdv A outer s H vs Q E hr h => ⟨_, PSs.nox (pss_cons (ps_if (PW.pt (pw_and (pt_not (pt_val (pe_call (ok_law_lies_in T) (hr.mono (by decide)) rfl T.g_law_lies_in T.F_law_lies_in.kp (b_law_lies_in T) .nil pass0 (pa_cons (pe_ix ix_tup (pv 0) (pe_int) (fun _ _ => rfl)) (pa_cons (pv 1) pa_nil))))) (pw_and1 (pt_not (pt_val (pe_call (ok_law_lies_in T) (hr.mono (by decide)) rfl T.g_law_lies_in T.F_law_lies_in.kp (b_law_lies_in T) .nil pass0 (pa_cons (pe_ix ix_tup (pv 1) (pe_int) (fun _ _ => rfl)) (pa_cons (pv 0) pa_nil)))))))) (pss_one (ps_ret (pe_cmpR op_isN (pv 2) (pe_non) (nomark _)))) pss_nil) (pss_cons (ps_if (pt_not (pt_val (pe_call (ok_law_is_span T) hr rfl T.g_law_is_span T.F_law_is_span.kp (b_law_is_span T) .nil pass0 (pa_cons (pv 2) pa_nil)))) (pss_one (ps_ret (pe_bl))) pss_nil) (pss_cons (ps_set (i := 3) sc_law_meet_right.nd rfl (Or.inl rfl) (pe_op op_sub (pe_op op_add (pe_ix ix_tup (pv 2) (pe_int) (fun _ _ => rfl)) (pe_ix ix_tup (pv 2) (pe_int) (fun _ _ => rfl))) (pe_int))) (pss_cons (ps_for PassesOwn.never rfl (pi_list (pe_lst (pa_cons (pe_ix ix_tup (pv 2) (pe_int) (fun _ _ => rfl)) (pa_cons (pv 3) pa_nil)))) (pg_name (i := 4) sc_law_meet_right.nd rfl (Or.inl rfl)) (pss_one (ps_if (PW.pt (pw_or (pt_not (pt_val (pe_call (ok_law_lies_in T) (hr.mono (by decide)) rfl T.g_law_lies_in T.F_law_lies_in.kp (b_law_lies_in T) .nil pass0 (pa_cons (pv 4) (pa_cons (pv 0) pa_nil))))) (pw_or1 (pt_not (pt_val (pe_call (ok_law_lies_in T) (hr.mono (by decide)) rfl T.g_law_lies_in T.F_law_lies_in.kp (b_law_lies_in T) .nil pass0 (pa_cons (pv 4) (pa_cons (pv 1) pa_nil)))))))) (pss_one (ps_ret (pe_bl))) pss_nil))) (pss_cons (ps_for PassesOwn.never rfl (pi_list (pe_lst (pa_cons (pe_op op_sub (pe_ix ix_tup (pv 2) (pe_int) (fun _ _ => rfl)) (pe_int)) (pa_cons (pe_op op_add (pv 3) (pe_int)) pa_nil)))) (pg_name (i := 4) sc_law_meet_right.nd rfl (Or.inl rfl)) (pss_one (ps_if (PW.pt (pw_and (pt_val (pe_call (ok_law_lies_in T) (hr.mono (by decide)) rfl T.g_law_lies_in T.F_law_lies_in.kp (b_law_lies_in T) .nil pass0 (pa_cons (pv 4) (pa_cons (pv 0) pa_nil)))) (pw_and1 (pt_val (pe_call (ok_law_lies_in T) (hr.mono (by decide)) rfl T.g_law_lies_in T.F_law_lies_in.kp (b_law_lies_in T) .nil pass0 (pa_cons (pv 4) (pa_cons (pv 1) pa_nil))))))) (pss_one (ps_ret (pe_bl))) pss_nil))) (pss_one (ps_ret (pe_bl)))))))), ?_⟩)
  · obtain ⟨_, _, _, _, _, _, _, _, rfl, _⟩ := h
    rfl
  · obtain ⟨F, p1, p2, v, a, b, c, e, rfl, e1, e2, hs1, hs2, hd, q⟩ := h
    simp only [tSeq, tAsg, tRet, tRetN, tDrop, tNext, tVar, tC, gName, tOp, tUn, rI, rI0, rU, tIfS, tTest, tB, tIf, tAnd, tOr, tNot, tAndV, tOrV, tNotV, tCall, tCons, tNil, tCB, tLst, tTup, tChain, CMul, CDiv, CPow, rEq, rNe, gSub, L2.start, LL.cxK0, LL.cxK1, List.map_cons, List.map_nil, List.length_cons, List.length_nil, List.replicate_succ, List.replicate_zero, List.cons_append, List.nil_append, List.append_nil, List.getElem?_cons_zero, List.getElem?_cons_succ, List.set_cons_zero, List.set_cons_succ, Nat.add_sub_cancel, Nat.reduceAdd, Nat.reduceSub, Option.some.injEq, V.int.injEq, V.bl.injEq, V.ref.injEq, V.str.injEq, List.cons.injEq, and_true, true_and, and_false, false_and, exists_eq_left, exists_eq_left', exists_and_left, exists_and_right, exists_eq, exists_eq', LL.if_dec, reduceCtorEq, exists_false, exists_const, or_false, false_or, if_true, if_false, LL.rInt1, LL.rMx, LL.rMn, and_assoc, Int.reduceNeg, Int.reduceLT, Int.reduceLE, Int.reduceMul, Int.reduceAdd, Int.reduceSub, Int.reducePow, Int.reduceToNat, Nat.reducePow, Nat.reduceLT, true_or, or_true, Bool.not_true, Bool.not_false, Bool.false_eq_true, Bool.or_false, Bool.or_true, Bool.true_or, Bool.false_or, decide_true, decide_false, not_true_eq_false, not_false_eq_true, LL.scal_int, LL.scal_bl, LL.scal_str, LL.isInt, LL.isBl, LL.isStr, LL.isLst, LL.isTup, LL.isDic, N_law_meet_right]
    obtain ⟨a0, b0, ab⟩ := _root_.id hs1
    obtain ⟨c0, ee0, ce⟩ := _root_.id hs2
    unfold meetT at hd
    by_cases hm : min (a + b) (c + e) ≤ max a c
    · rw [if_pos hm] at hd
      obtain rfl : v = V.non := hd
      refine use_ixT e1 rfl (use_lies e2 ⟨_, rfl, ?_⟩)
      rw [decide_eq_false (by omega), if_pos (show (!false) = true from rfl)]
      refine use_ixT e2 rfl (use_lies e1 ⟨_, rfl, ?_⟩)
      rw [decide_eq_false (by omega), if_pos (show (!false) = true from rfl), decide_eq_true rfl]
      exact q _ (Same.refl _)
    · rw [if_neg hm] at hd
      obtain ⟨m, em⟩ : ∃ m, m = max a c := ⟨_, rfl⟩
      obtain ⟨w2, ew⟩ : ∃ w2, w2 = min (a + b) (c + e) - max a c := ⟨_, rfl⟩
      rw [← ew, ← em] at hd
      have hsp : Spn m w2 := ⟨by omega, by omega, by omega⟩
      obtain ⟨p3, rfl, fp3, e3⟩ := pair_dt hd
      have st : (c ≤ a ∧ a < c + e) ∨ (¬ (c ≤ a ∧ a < c + e) ∧ (a ≤ c ∧ c < a + b)) := by omega
      refine use_ixT e1 rfl (use_lies e2 ⟨_, rfl, ?_⟩)
      rcases st with hc | ⟨hc, hc2⟩
      case' inl => rw [decide_eq_true hc, if_neg (by simp)]
      case' inr =>
        rw [decide_eq_false hc, if_pos (show (!false) = true from rfl)]
        refine use_ixT e2 rfl (use_lies e1 ⟨_, rfl, ?_⟩)
        rw [decide_eq_true hc2, if_neg (by simp)]
      all_goals
        refine use_span hd ⟨_, rfl, ?_⟩
        rw [span_t hsp, if_neg (by simp)]
        refine use_ixT e3 rfl (use_ixT e3 rfl ⟨_, rfl, _, rfl, ?_⟩)
        refine use_forLX (R := fun aa xs H' => Same H H' ∧ H' aa = some (.lst xs) ∧ xs = [.int m, .int (m + w2 - 1)]) (fun Q hQ => ?_)
          (fun aa xs i σ' H' => Same H H' ∧ H' aa = some (.lst xs) ∧ xs = [.int m, .int (m + w2 - 1)] ∧ ∃ z : Option V, σ' = [some (.ref p1), some (.ref p2), some (.ref p3), some (.int (m + w2 - 1)), z])
          (fun aa xs H' ⟨g1, g2, g3⟩ => ⟨g1, g2, g3, _, rfl⟩) (fun aa xs i σ' H' _ ⟨_, g2, _⟩ => SqL.of g2) ?_ ?_
        · simp only [tSeq, tAsg, tRet, tRetN, tDrop, tNext, tVar, tC, gName, tOp, tUn, rI, rI0, rU, tIfS, tTest, tB, tIf, tAnd, tOr, tNot, tAndV, tOrV, tNotV, tCall, tCons, tNil, tCB, tLst, tTup, tChain, CMul, CDiv, CPow, rEq, rNe, gSub, L2.start, LL.cxK0, LL.cxK1, List.map_cons, List.map_nil, List.length_cons, List.length_nil, List.replicate_succ, List.replicate_zero, List.cons_append, List.nil_append, List.append_nil, List.getElem?_cons_zero, List.getElem?_cons_succ, List.set_cons_zero, List.set_cons_succ, Nat.add_sub_cancel, Nat.reduceAdd, Nat.reduceSub, Option.some.injEq, V.int.injEq, V.bl.injEq, V.ref.injEq, V.str.injEq, List.cons.injEq, and_true, true_and, and_false, false_and, exists_eq_left, exists_eq_left', exists_and_left, exists_and_right, exists_eq, exists_eq', LL.if_dec, reduceCtorEq, exists_false, exists_const, or_false, false_or, if_true, if_false, LL.rInt1, LL.rMx, LL.rMn, and_assoc, Int.reduceNeg, Int.reduceLT, Int.reduceLE, Int.reduceMul, Int.reduceAdd, Int.reduceSub, Int.reducePow, Int.reduceToNat, Nat.reducePow, Nat.reduceLT, true_or, or_true, Bool.not_true, Bool.not_false, Bool.false_eq_true, Bool.or_false, Bool.or_true, Bool.true_or, Bool.false_or, decide_true, decide_false, not_true_eq_false, not_false_eq_true, LL.scal_int, LL.scal_bl, LL.scal_str, LL.isInt, LL.isBl, LL.isStr, LL.isLst, LL.isTup, LL.isDic]
          refine use_ixT e3 rfl ⟨by decide, ?_⟩
          intro p4 np4
          generalize hq : upd H p4 _ = H4
          have sH4 : Same H H4 := hq ▸ Same.new (Same.refl _) np4
          have ep4 := hq ▸ (upd_same (H := H) (a := p4))
          clear hq
          exact hQ _ _ _ ⟨sH4, ep4, rfl⟩
        · rintro aa xs i y σ' H' hi ⟨g1, g2, rfl, z, rfl⟩
          obtain ⟨j, rfl, hj1, hj2⟩ : ∃ j, y = V.int j ∧ (a ≤ j ∧ j < a + b) ∧ (c ≤ j ∧ j < c + e) := by
            have hy := List.mem_of_getElem? hi
            simp only [List.mem_cons, List.not_mem_nil, or_false] at hy
            rcases hy with rfl | rfl <;> exact ⟨_, rfl, by omega, by omega⟩
          simp only [tSeq, tAsg, tRet, tRetN, tDrop, tNext, tVar, tC, gName, tOp, tUn, rI, rI0, rU, tIfS, tTest, tB, tIf, tAnd, tOr, tNot, tAndV, tOrV, tNotV, tCall, tCons, tNil, tCB, tLst, tTup, tChain, CMul, CDiv, CPow, rEq, rNe, gSub, L2.start, LL.cxK0, LL.cxK1, List.map_cons, List.map_nil, List.length_cons, List.length_nil, List.replicate_succ, List.replicate_zero, List.cons_append, List.nil_append, List.append_nil, List.getElem?_cons_zero, List.getElem?_cons_succ, List.set_cons_zero, List.set_cons_succ, Nat.add_sub_cancel, Nat.reduceAdd, Nat.reduceSub, Option.some.injEq, V.int.injEq, V.bl.injEq, V.ref.injEq, V.str.injEq, List.cons.injEq, and_true, true_and, and_false, false_and, exists_eq_left, exists_eq_left', exists_and_left, exists_and_right, exists_eq, exists_eq', LL.if_dec, reduceCtorEq, exists_false, exists_const, or_false, false_or, if_true, if_false, LL.rInt1, LL.rMx, LL.rMn, and_assoc, Int.reduceNeg, Int.reduceLT, Int.reduceLE, Int.reduceMul, Int.reduceAdd, Int.reduceSub, Int.reducePow, Int.reduceToNat, Nat.reducePow, Nat.reduceLT, true_or, or_true, Bool.not_true, Bool.not_false, Bool.false_eq_true, Bool.or_false, Bool.or_true, Bool.true_or, Bool.false_or, decide_true, decide_false, not_true_eq_false, not_false_eq_true, LL.scal_int, LL.scal_bl, LL.scal_str, LL.isInt, LL.isBl, LL.isStr, LL.isLst, LL.isTup, LL.isDic]
          refine use_lies (g1 _ _ e1) ⟨_, rfl, ?_⟩
          rw [decide_eq_true hj1, if_neg (by simp)]
          refine use_lies (g1 _ _ e2) ⟨_, rfl, ?_⟩
          rw [decide_eq_true hj2, if_neg (by simp)]
          exact ⟨g1, g2⟩
        · rintro aa xs σ' H' ⟨g1, g2, rfl, z, rfl⟩
          simp only [tSeq, tAsg, tRet, tRetN, tDrop, tNext, tVar, tC, gName, tOp, tUn, rI, rI0, rU, tIfS, tTest, tB, tIf, tAnd, tOr, tNot, tAndV, tOrV, tNotV, tCall, tCons, tNil, tCB, tLst, tTup, tChain, CMul, CDiv, CPow, rEq, rNe, gSub, L2.start, LL.cxK0, LL.cxK1, List.map_cons, List.map_nil, List.length_cons, List.length_nil, List.replicate_succ, List.replicate_zero, List.cons_append, List.nil_append, List.append_nil, List.getElem?_cons_zero, List.getElem?_cons_succ, List.set_cons_zero, List.set_cons_succ, Nat.add_sub_cancel, Nat.reduceAdd, Nat.reduceSub, Option.some.injEq, V.int.injEq, V.bl.injEq, V.ref.injEq, V.str.injEq, List.cons.injEq, and_true, true_and, and_false, false_and, exists_eq_left, exists_eq_left', exists_and_left, exists_and_right, exists_eq, exists_eq', LL.if_dec, reduceCtorEq, exists_false, exists_const, or_false, false_or, if_true, if_false, LL.rInt1, LL.rMx, LL.rMn, and_assoc, Int.reduceNeg, Int.reduceLT, Int.reduceLE, Int.reduceMul, Int.reduceAdd, Int.reduceSub, Int.reducePow, Int.reduceToNat, Nat.reducePow, Nat.reduceLT, true_or, or_true, Bool.not_true, Bool.not_false, Bool.false_eq_true, Bool.or_false, Bool.or_true, Bool.true_or, Bool.false_or, decide_true, decide_false, not_true_eq_false, not_false_eq_true, LL.scal_int, LL.scal_bl, LL.scal_str, LL.isInt, LL.isBl, LL.isStr, LL.isLst, LL.isTup, LL.isDic]
          refine use_forLX (R := fun aa xs H' => Same H H' ∧ H' aa = some (.lst xs) ∧ xs = [.int (m - 1), .int (m + w2 - 1 + 1)]) (fun Q hQ => ?_)
            (fun aa xs i σ' H' => Same H H' ∧ H' aa = some (.lst xs) ∧ xs = [.int (m - 1), .int (m + w2 - 1 + 1)] ∧ ∃ z : Option V, σ' = [some (.ref p1), some (.ref p2), some (.ref p3), some (.int (m + w2 - 1)), z])
            (fun aa xs H' ⟨g1, g2, g3⟩ => ⟨g1, g2, g3, _, rfl⟩) (fun aa xs i σ' H' _ ⟨_, g2, _⟩ => SqL.of g2) ?_ ?_
          · simp only [tSeq, tAsg, tRet, tRetN, tDrop, tNext, tVar, tC, gName, tOp, tUn, rI, rI0, rU, tIfS, tTest, tB, tIf, tAnd, tOr, tNot, tAndV, tOrV, tNotV, tCall, tCons, tNil, tCB, tLst, tTup, tChain, CMul, CDiv, CPow, rEq, rNe, gSub, L2.start, LL.cxK0, LL.cxK1, List.map_cons, List.map_nil, List.length_cons, List.length_nil, List.replicate_succ, List.replicate_zero, List.cons_append, List.nil_append, List.append_nil, List.getElem?_cons_zero, List.getElem?_cons_succ, List.set_cons_zero, List.set_cons_succ, Nat.add_sub_cancel, Nat.reduceAdd, Nat.reduceSub, Option.some.injEq, V.int.injEq, V.bl.injEq, V.ref.injEq, V.str.injEq, List.cons.injEq, and_true, true_and, and_false, false_and, exists_eq_left, exists_eq_left', exists_and_left, exists_and_right, exists_eq, exists_eq', LL.if_dec, reduceCtorEq, exists_false, exists_const, or_false, false_or, if_true, if_false, LL.rInt1, LL.rMx, LL.rMn, and_assoc, Int.reduceNeg, Int.reduceLT, Int.reduceLE, Int.reduceMul, Int.reduceAdd, Int.reduceSub, Int.reducePow, Int.reduceToNat, Nat.reducePow, Nat.reduceLT, true_or, or_true, Bool.not_true, Bool.not_false, Bool.false_eq_true, Bool.or_false, Bool.or_true, Bool.true_or, Bool.false_or, decide_true, decide_false, not_true_eq_false, not_false_eq_true, LL.scal_int, LL.scal_bl, LL.scal_str, LL.isInt, LL.isBl, LL.isStr, LL.isLst, LL.isTup, LL.isDic]
            refine use_ixT (g1 _ _ e3) rfl ⟨_, rfl, by decide, ?_⟩
            intro p4 np4
            generalize hq : upd H' p4 _ = H4
            have sH4 : Same H' H4 := hq ▸ Same.new (Same.refl _) np4
            have ep4 := hq ▸ (upd_same (H := H') (a := p4))
            clear hq
            exact hQ _ _ _ ⟨g1.trans sH4, ep4, rfl⟩
          · rintro aa xs i y σ' H5 hi ⟨g5, g6, rfl, z, rfl⟩
            obtain ⟨j, rfl, hj⟩ : ∃ j, y = V.int j ∧ ¬ ((a ≤ j ∧ j < a + b) ∧ (c ≤ j ∧ j < c + e)) := by
              have hy := List.mem_of_getElem? hi
              simp only [List.mem_cons, List.not_mem_nil, or_false] at hy
              rcases hy with rfl | rfl <;> exact ⟨_, rfl, by omega⟩
            simp only [tSeq, tAsg, tRet, tRetN, tDrop, tNext, tVar, tC, gName, tOp, tUn, rI, rI0, rU, tIfS, tTest, tB, tIf, tAnd, tOr, tNot, tAndV, tOrV, tNotV, tCall, tCons, tNil, tCB, tLst, tTup, tChain, CMul, CDiv, CPow, rEq, rNe, gSub, L2.start, LL.cxK0, LL.cxK1, List.map_cons, List.map_nil, List.length_cons, List.length_nil, List.replicate_succ, List.replicate_zero, List.cons_append, List.nil_append, List.append_nil, List.getElem?_cons_zero, List.getElem?_cons_succ, List.set_cons_zero, List.set_cons_succ, Nat.add_sub_cancel, Nat.reduceAdd, Nat.reduceSub, Option.some.injEq, V.int.injEq, V.bl.injEq, V.ref.injEq, V.str.injEq, List.cons.injEq, and_true, true_and, and_false, false_and, exists_eq_left, exists_eq_left', exists_and_left, exists_and_right, exists_eq, exists_eq', LL.if_dec, reduceCtorEq, exists_false, exists_const, or_false, false_or, if_true, if_false, LL.rInt1, LL.rMx, LL.rMn, and_assoc, Int.reduceNeg, Int.reduceLT, Int.reduceLE, Int.reduceMul, Int.reduceAdd, Int.reduceSub, Int.reducePow, Int.reduceToNat, Nat.reducePow, Nat.reduceLT, true_or, or_true, Bool.not_true, Bool.not_false, Bool.false_eq_true, Bool.or_false, Bool.or_true, Bool.true_or, Bool.false_or, decide_true, decide_false, not_true_eq_false, not_false_eq_true, LL.scal_int, LL.scal_bl, LL.scal_str, LL.isInt, LL.isBl, LL.isStr, LL.isLst, LL.isTup, LL.isDic]
            refine use_lies (g5 _ _ e1) ⟨_, rfl, ?_⟩
            by_cases hj1 : a ≤ j ∧ j < a + b
            · rw [decide_eq_true hj1, if_pos rfl]
              refine use_lies (g5 _ _ e2) ⟨_, rfl, ?_⟩
              rw [decide_eq_false (fun h => hj ⟨hj1, h⟩), if_neg (by simp)]
              exact ⟨g5, g6⟩
            · rw [decide_eq_false hj1, if_neg (by simp)]
              exact ⟨g5, g6⟩
          · rintro aa xs σ' H5 ⟨g5, g6, rfl, z, rfl⟩
            simp only [tSeq, tAsg, tRet, tRetN, tDrop, tNext, tVar, tC, gName, tOp, tUn, rI, rI0, rU, tIfS, tTest, tB, tIf, tAnd, tOr, tNot, tAndV, tOrV, tNotV, tCall, tCons, tNil, tCB, tLst, tTup, tChain, CMul, CDiv, CPow, rEq, rNe, gSub, L2.start, LL.cxK0, LL.cxK1, List.map_cons, List.map_nil, List.length_cons, List.length_nil, List.replicate_succ, List.replicate_zero, List.cons_append, List.nil_append, List.append_nil, List.getElem?_cons_zero, List.getElem?_cons_succ, List.set_cons_zero, List.set_cons_succ, Nat.add_sub_cancel, Nat.reduceAdd, Nat.reduceSub, Option.some.injEq, V.int.injEq, V.bl.injEq, V.ref.injEq, V.str.injEq, List.cons.injEq, and_true, true_and, and_false, false_and, exists_eq_left, exists_eq_left', exists_and_left, exists_and_right, exists_eq, exists_eq', LL.if_dec, reduceCtorEq, exists_false, exists_const, or_false, false_or, if_true, if_false, LL.rInt1, LL.rMx, LL.rMn, and_assoc, Int.reduceNeg, Int.reduceLT, Int.reduceLE, Int.reduceMul, Int.reduceAdd, Int.reduceSub, Int.reducePow, Int.reduceToNat, Nat.reducePow, Nat.reduceLT, true_or, or_true, Bool.not_true, Bool.not_false, Bool.false_eq_true, Bool.or_false, Bool.or_true, Bool.true_or, Bool.false_or, decide_true, decide_false, not_true_eq_false, not_false_eq_true, LL.scal_int, LL.scal_bl, LL.scal_str, LL.isInt, LL.isBl, LL.isStr, LL.isLst, LL.isTup, LL.isDic]
            exact q _ g5
theorem use_asked {F G : Addr → Prop} (k : Nat) {v x : V} {t u : LL.T} {H : Hp} {Q : VK} {E : XK} (hk : k ≤ 2) (h1 : Dt F H v t) (h2 : Dt G H x u) (q : ∀ r H', Same H H' → Dt (fun a => H a = none) H' r (askT k t u) → Q r H') : sp_law_asked [.str (ttl k), v, x] H Q E := ⟨k, F, G, v, x, t, u, rfl, hk, h1, h2, q⟩
theorem ask0 {a b c e : Int} (h1 : Spn a b) (h2 : Spn c e) : askT 0 (.tup [.int a, .int b]) (.tup [.int c, .int e]) = .lst [.str "done", .bl (metB a b c e)] := ask_meet (by decide) (span_t h1) (span_t h2)
theorem ask1 {a b c e : Int} (h1 : Spn a b) (h2 : Spn c e) : askT 1 (.tup [.int a, .int b]) (.tup [.int c, .int e]) = .lst [.str "done", meetT a b c e] := ask_meet (by decide) (span_t h1) (span_t h2)
theorem meetT_comm {a b c e : Int} : meetT a b c e = meetT c e a b := by unfold meetT; rw [Int.min_comm, Int.max_comm]
theorem metB_comm {a b c e : Int} : metB a b c e = metB c e a b := by unfold metB; rw [Int.min_comm, Int.max_comm]
theorem meetT_self {a b : Int} (h : Spn a b) : meetT a b a b = .tup [.int a, .int b] := by
  have h1 := h.2.1
  unfold meetT
  rw [Int.min_self, Int.max_self, if_neg (by omega), show a + b - a = b by omega]
theorem dep_meet (a b c e : Int) : dep (meetT a b c e) ≤ 1 := by
  unfold meetT
  split <;> simp [dep, depL]
theorem dep_done (t : LL.T) (h : dep t < 7) : dep (.lst [.str "done", t]) < 8 := by
  show max 0 (max (dep t) 0) + 1 < 8
  omega
theorem chk {F G : Addr → Prop} (k : Nat) {v x : V} {t u : LL.T} {n : Str} {H : Hp} {Q : VK} (hk : k ≤ 2) (h1 : Dt F H v t) (h2 : Dt G H x u) (e : askT k t u = refT n) (q : ∀ H', Same H H' → Q (.bl true) H') :
    sp_law_asked [.str (ttl k), v, x] H (fun r H1 => 1 ≤ sizeLine ∧ ∀ p, H1 p = none → sp_law_refused [.str "BadValue", .ref p] (upd H1 p (.tup [.str n])) (fun y H2 => sp_law_same 8 [r, y] H2 Q E0) E0) E0 := by
  refine use_asked k hk h1 h2 fun r H1 s1 hr => ⟨by decide, ?_⟩
  intro p np
  generalize hq : upd H1 p _ = H2
  have sH2 : Same H1 H2 := hq ▸ Same.new (Same.refl _) np
  have ep := hq ▸ (upd_same (H := H1) (a := p))
  clear hq
  refine use_refused (F := fun _ => True) ⟨p, _, rfl, trivial, ep, .one rfl, by simp⟩ fun y H3 s3 hy => ?_
  rw [e] at hr
  exact use_same ((hr.same sH2).same s3) hy (by simp [refT, dep, depL]) fun H4 s4 => q _ (((s1.trans sH2).trans s3).trans s4)
def sp_law_pair_right : Sp := fun vs H Q _ => ∃ (P p1 p2 : Addr) (a b c e : Int), vs = [.ref P] ∧ H P = some (.lst [.ref p1, .ref p2]) ∧ H p1 = some (.tup [.int a, .int b]) ∧ H p2 = some (.tup [.int c, .int e]) ∧ Spn a b ∧ Spn c e ∧ ∀ H', Same H H' → Q (.bl true) H'
theorem use_pairR {P p1 p2 : Addr} {a b c e : Int} {H : Hp} {Q : VK} {E : XK} (h0 : H P = some (.lst [.ref p1, .ref p2])) (h1 : H p1 = some (.tup [.int a, .int b])) (h2 : H p2 = some (.tup [.int c, .int e])) (h3 : Spn a b) (h4 : Spn c e) (q : ∀ H', Same H H' → Q (.bl true) H') : sp_law_pair_right [.ref P] H Q E := ⟨P, p1, p2, a, b, c, e, rfl, h0, h1, h2, h3, h4, q⟩

theorem ok_law_pair_right (T : Tx K mg) : FnOk P w K mg base CX0 10 (He.ga K "_law_pair_right") T.fd_law_pair_right P_law_pair_right sp_law_pair_right := by
  refine T.F_law_pair_right.ok sc_law_pair_right (fun vs H Q E h => ?_) (fun cdv A outer s H vs Q E hr h => ⟨_, PSs.nox (pss_cons (ps_set (i := 1) sc_law_pair_right.nd rfl (Or.inl rfl) (pe_ix ix_list (pv 0) (pe_int) (fun _ _ => rfl))) (pss_cons (ps_set (i := 2) sc_law_pair_right.nd rfl (Or.inl rfl) (pe_ix ix_list (pv 0) (pe_int) (fun _ _ => rfl))) (pss_cons (ps_set (i := 3) sc_law_pair_right.nd rfl (Or.inl rfl) ((pe_or (pe_call (ok_law_lies_in T) (hr.mono (by decide)) rfl T.g_law_lies_in T.F_law_lies_in.kp (b_law_lies_in T) .nil pass0 (pa_cons (pe_ix ix_tup (pv 1) (pe_int) (fun _ _ => rfl)) (pa_cons (pv 2) pa_nil))) (pe_one (pe_call (ok_law_lies_in T) (hr.mono (by decide)) rfl T.g_law_lies_in T.F_law_lies_in.kp (b_law_lies_in T) .nil pass0 (pa_cons (pe_ix ix_tup (pv 2) (pe_int) (fun _ _ => rfl)) (pa_cons (pv 1) pa_nil))))))) (pss_cons (ps_set (i := 4) sc_law_pair_right.nd rfl (Or.inl rfl) (pe_call (ok_law_asked T) (hr.mono (by decide)) rfl T.g_law_asked T.F_law_asked.kp (b_law_asked T) .nil pass0 (pa_cons (pe_str) (pa_cons (pe_tup (pa_cons (pe_ix ix_tup (pv 1) (pe_int) (fun _ _ => rfl)) (pa_cons (pe_ix ix_tup (pv 1) (pe_int) (fun _ _ => rfl)) pa_nil))) (pa_cons (pe_tup (pa_cons (pe_ix ix_tup (pv 2) (pe_int) (fun _ _ => rfl)) (pa_cons (pe_ix ix_tup (pv 2) (pe_int) (fun _ _ => rfl)) pa_nil))) pa_nil))))) (pss_cons (ps_if (PW.pt (pw_or (pt_cmpR op_ne (pe_ix ix_list (pv 4) (pe_int) (fun _ _ => rfl)) (pe_str) (nomark _)) (pw_or1 (pt_not (pt_val (pe_call (ok_law_meet_right T) (hr.mono (by decide)) rfl T.g_law_meet_right T.F_law_meet_right.kp (b_law_meet_right T) .nil pass0 (pa_cons (pv 1) (pa_cons (pv 2) (pa_cons (pe_ix ix_list (pv 4) (pe_int) (fun _ _ => rfl)) pa_nil))))))))) (pss_one (ps_ret (pe_bl))) pss_nil) (pss_cons (ps_if (PW.pt (pw_or (pt_not (pt_val (pe_call (ok_law_same T 8) hr rfl T.g_law_same T.F_law_same.kp (b_law_same T) .nil pass0 (pa_cons (pe_call (ok_law_asked T) (hr.mono (by decide)) rfl T.g_law_asked T.F_law_asked.kp (b_law_asked T) .nil pass0 (pa_cons (pe_str) (pa_cons (pv 2) (pa_cons (pv 1) pa_nil)))) (pa_cons (pv 4) pa_nil))))) (pw_or1 (pt_not (pt_val (pe_call (ok_law_same T 8) hr rfl T.g_law_same T.F_law_same.kp (b_law_same T) .nil pass0 (pa_cons (pe_call (ok_law_asked T) (hr.mono (by decide)) rfl T.g_law_asked T.F_law_asked.kp (b_law_asked T) .nil pass0 (pa_cons (pe_str) (pa_cons (pv 1) (pa_cons (pv 1) pa_nil)))) (pa_cons (pe_lst (pa_cons (pe_str) (pa_cons (pv 1) pa_nil))) pa_nil)))))))) (pss_one (ps_ret (pe_bl))) pss_nil) (pss_cons (ps_for PassesOwn.never rfl (pi_list (pe_lst (pa_cons (pe_lst (pa_cons (pv 1) (pa_cons (pv 2) pa_nil))) (pa_cons (pe_lst (pa_cons (pv 2) (pa_cons (pv 1) pa_nil))) pa_nil)))) (pg_name (i := 5) sc_law_pair_right.nd rfl (Or.inl rfl)) (pss_one (ps_if (pt_not (pt_val (pe_call (ok_law_same T 8) hr rfl T.g_law_same T.F_law_same.kp (b_law_same T) .nil pass0 (pa_cons (pe_call (ok_law_asked T) (hr.mono (by decide)) rfl T.g_law_asked T.F_law_asked.kp (b_law_asked T) .nil pass0 (pa_cons (pe_str) (pa_cons (pe_ix ix_list (pv 5) (pe_int) (fun _ _ => rfl)) (pa_cons (pe_ix ix_list (pv 5) (pe_int) (fun _ _ => rfl)) pa_nil)))) (pa_cons (pe_lst (pa_cons (pe_str) (pa_cons (pv 3) pa_nil))) pa_nil))))) (pss_one (ps_ret (pe_bl))) pss_nil))) (pss_cons (ps_set (i := 6) sc_law_pair_right.nd rfl (Or.inl rfl) (pe_call (ok_law_asked T) (hr.mono (by decide)) rfl T.g_law_asked T.F_law_asked.kp (b_law_asked T) .nil pass0 (pa_cons (pe_str) (pa_cons (pv 1) (pa_cons (pe_non) pa_nil))))) (pss_one (ps_ret ((pe_and (pe_cmpR op_eq (pe_ix ix_list (pv 6) (pe_int) (fun _ _ => rfl)) (pe_str) (nomark _)) (pe_and (pe_call (ok_law_is_int T) (hr.mono (by decide)) rfl T.g_law_is_int T.F_law_is_int.kp (b_law_is_int T) .nil pass0 (pa_cons (pe_ix ix_list (pv 6) (pe_int) (fun _ _ => rfl)) pa_nil)) (pe_one (pe_cmpR op_eq (pe_op op_sub (pe_ix ix_list (pv 6) (pe_int) (fun _ _ => rfl)) (pe_ix ix_tup (pv 1) (pe_int) (fun _ _ => rfl))) (pe_ix ix_tup (pv 1) (pe_int) (fun _ _ => rfl)) (nomark _)))))))))))))))), ?_⟩)
  · obtain ⟨_, _, _, _, _, _, _, rfl, _⟩ := h
    rfl
  · obtain ⟨P, p1, p2, a, b, c, e, rfl, e0, e1, e2, hs1, hs2, q⟩ := h
    simp only [tSeq, tAsg, tRet, tRetN, tDrop, tNext, tVar, tC, gName, tOp, tUn, rI, rI0, rU, tIfS, tTest, tB, tIf, tAnd, tOr, tNot, tAndV, tOrV, tNotV, tCall, tCons, tNil, tCB, tLst, tTup, tChain, CMul, CDiv, CPow, rEq, rNe, gSub, L2.start, LL.cxK0, LL.cxK1, List.map_cons, List.map_nil, List.length_cons, List.length_nil, List.replicate_succ, List.replicate_zero, List.cons_append, List.nil_append, List.append_nil, List.getElem?_cons_zero, List.getElem?_cons_succ, List.set_cons_zero, List.set_cons_succ, Nat.add_sub_cancel, Nat.reduceAdd, Nat.reduceSub, Option.some.injEq, V.int.injEq, V.bl.injEq, V.ref.injEq, V.str.injEq, List.cons.injEq, and_true, true_and, and_false, false_and, exists_eq_left, exists_eq_left', exists_and_left, exists_and_right, exists_eq, exists_eq', LL.if_dec, reduceCtorEq, exists_false, exists_const, or_false, false_or, if_true, if_false, LL.rInt1, LL.rMx, LL.rMn, and_assoc, Int.reduceNeg, Int.reduceLT, Int.reduceLE, Int.reduceMul, Int.reduceAdd, Int.reduceSub, Int.reducePow, Int.reduceToNat, Nat.reducePow, Nat.reduceLT, true_or, or_true, Bool.not_true, Bool.not_false, Bool.false_eq_true, Bool.or_false, Bool.or_true, Bool.true_or, Bool.false_or, decide_true, decide_false, not_true_eq_false, not_false_eq_true, LL.scal_int, LL.scal_bl, LL.scal_str, LL.isInt, LL.isBl, LL.isStr, LL.isLst, LL.isTup, LL.isDic, N_law_pair_right]
    refine use_ixL e0 rfl (use_ixL e0 rfl (use_ixT e1 rfl (use_lies e2 ?_)))
    simp only [tSeq, tAsg, tRet, tRetN, tDrop, tNext, tVar, tC, gName, tOp, tUn, rI, rI0, rU, tIfS, tTest, tB, tIf, tAnd, tOr, tNot, tAndV, tOrV, tNotV, tCall, tCons, tNil, tCB, tLst, tTup, tChain, CMul, CDiv, CPow, rEq, rNe, gSub, L2.start, LL.cxK0, LL.cxK1, List.map_cons, List.map_nil, List.length_cons, List.length_nil, List.replicate_succ, List.replicate_zero, List.cons_append, List.nil_append, List.append_nil, List.getElem?_cons_zero, List.getElem?_cons_succ, List.set_cons_zero, List.set_cons_succ, Nat.add_sub_cancel, Nat.reduceAdd, Nat.reduceSub, Option.some.injEq, V.int.injEq, V.bl.injEq, V.ref.injEq, V.str.injEq, List.cons.injEq, and_true, true_and, and_false, false_and, exists_eq_left, exists_eq_left', exists_and_left, exists_and_right, exists_eq, exists_eq', LL.if_dec, reduceCtorEq, exists_false, exists_const, or_false, false_or, if_true, if_false, LL.rInt1, LL.rMx, LL.rMn, and_assoc, Int.reduceNeg, Int.reduceLT, Int.reduceLE, Int.reduceMul, Int.reduceAdd, Int.reduceSub, Int.reducePow, Int.reduceToNat, Nat.reducePow, Nat.reduceLT, true_or, or_true, Bool.not_true, Bool.not_false, Bool.false_eq_true, Bool.or_false, Bool.or_true, Bool.true_or, Bool.false_or, decide_true, decide_false, not_true_eq_false, not_false_eq_true, LL.scal_int, LL.scal_bl, LL.scal_str, LL.isInt, LL.isBl, LL.isStr, LL.isLst, LL.isTup, LL.isDic]
    obtain ⟨a0, b0, ab⟩ := _root_.id hs1
    obtain ⟨c0, ee0, ce⟩ := _root_.id hs2
    by_cases hc : c ≤ a ∧ a < c + e
    case' pos =>
      rw [if_pos hc]
      have hsh : true = metB a b c e := (decide_eq_true (by omega)).symm
    case' neg =>
      rw [if_neg hc]
      refine use_ixT e2 rfl (use_lies e1 ?_)
      have hsh : decide (a ≤ c ∧ c < a + b) = metB a b c e := decide_eq_decide.mpr (by omega)
    all_goals
      refine use_ixT e1 rfl (use_ixT e1 rfl ⟨by decide, ?_⟩)
      intro q1 nq1
      generalize hq : upd H q1 _ = H1
      have sH1 : Same H H1 := hq ▸ Same.new (Same.refl _) nq1
      have eq1 := hq ▸ (upd_same (H := H) (a := q1))
      clear hq
      replace e0 := sH1 _ _ e0
      replace e1 := sH1 _ _ e1
      replace e2 := sH1 _ _ e2
      refine use_ixT e2 rfl (use_ixT e2 rfl ⟨by decide, ?_⟩)
      intro q2 nq2
      generalize hq : upd H1 q2 _ = H2
      have sH2 : Same H1 H2 := hq ▸ Same.new (Same.refl _) nq2
      have eq2 := hq ▸ (upd_same (H := H1) (a := q2))
      clear hq
      replace e0 := sH2 _ _ e0
      replace e1 := sH2 _ _ e1
      replace e2 := sH2 _ _ e2
      replace eq1 := sH2 _ _ eq1
      refine use_asked 1 (by decide) (dt_pair (F := fun _ => True) trivial eq1) (dt_pair (F := fun _ => True) trivial eq2) fun r H3 s3 hr => ?_
      rw [ask1 hs1 hs2] at hr
      obtain ⟨pr, _, rfl, fpr, epr, ⟨y1, _, rfl, d1, y2, _, rfl, d2, rfl⟩, _⟩ := _root_.id hr
      obtain rfl : y1 = V.str "done" := d1
      refine use_ixL epr rfl ⟨rfl, ?_⟩
      rw [if_neg (by simp)]
      replace e0 := s3 _ _ e0
      replace e1 := s3 _ _ e1
      replace e2 := s3 _ _ e2
      refine use_ixL epr rfl ⟨_, p1, p2, y2, a, b, c, e, rfl, e1, e2, hs1, hs2, d2, fun H4 s4 => ⟨true, rfl, ?_⟩⟩
      rw [if_neg (by simp)]
      refine use_asked 1 (by decide) (dt_pair (F := fun _ => True) trivial (s4 _ _ e2)) (dt_pair (F := fun _ => True) trivial (s4 _ _ e1)) fun r2 H5 s5 hr2 => ?_
      rw [ask1 hs2 hs1, meetT_comm] at hr2
      refine use_same hr2 (hr.same (s4.trans s5)) (dep_done _ (by have := dep_meet a b c e; omega)) fun H6 s6 => ⟨true, rfl, ?_⟩
      rw [if_neg (by simp)]
      have g6 := (s4.trans s5).trans s6
      replace e0 := g6 _ _ e0
      replace e1 := g6 _ _ e1
      replace e2 := g6 _ _ e2
      refine use_asked 1 (by decide) (dt_pair (F := fun _ => True) trivial e1) (dt_pair (F := fun _ => True) trivial e1) fun r3 H7 s7 hr3 => ⟨by decide, ?_⟩
      rw [ask1 hs1 hs1, meetT_self hs1] at hr3
      replace e0 := s7 _ _ e0
      replace e1 := s7 _ _ e1
      replace e2 := s7 _ _ e2
      intro q3 nq3
      generalize hq : upd H7 q3 _ = H8
      have sH8 : Same H7 H8 := hq ▸ Same.new (Same.refl _) nq3
      have eq3 := hq ▸ (upd_same (H := H7) (a := q3))
      clear hq
      replace e0 := sH8 _ _ e0
      replace e1 := sH8 _ _ e1
      replace e2 := sH8 _ _ e2
      refine use_same (hr3.same sH8) (G := fun _ => True) ⟨q3, _, rfl, trivial, eq3, .cons rfl (.one (dt_pair trivial e1)), by simp⟩ (dep_done _ (by simp [dep, depL])) fun H9 s9 => ⟨true, rfl, ?_⟩
      rw [if_neg (by simp)]
      replace e0 := s9 _ _ e0
      replace e1 := s9 _ _ e1
      replace e2 := s9 _ _ e2
      have g9 : Same H H9 := (((((sH1.trans sH2).trans s3).trans g6).trans s7).trans sH8).trans s9
      refine use_forLX (R := fun aa xs H' => Same H9 H' ∧ H' aa = some (.lst xs) ∧ ∃ l1 l2, xs = [.ref l1, .ref l2] ∧ H' l1 = some (.lst [.ref p1, .ref p2]) ∧ H' l2 = some (.lst [.ref p2, .ref p1])) (fun Q hQ => ?_)
        (fun aa xs i σ' H' => Same H9 H' ∧ H' aa = some (.lst xs) ∧ (∃ l1 l2, xs = [.ref l1, .ref l2] ∧ H' l1 = some (.lst [.ref p1, .ref p2]) ∧ H' l2 = some (.lst [.ref p2, .ref p1])) ∧ ∃ (sh : Bool) (z1 z2 : Option V), σ' = [some (.ref P), some (.ref p1), some (.ref p2), some (.bl sh), some (.ref pr), z1, z2] ∧ sh = metB a b c e)
        (fun aa xs H' ⟨g1, g2, g3⟩ => ⟨g1, g2, g3, _, _, _, rfl, hsh⟩) (fun aa xs i σ' H' _ ⟨_, g2, _⟩ => SqL.of g2) ?_ ?_
      · simp only [tSeq, tAsg, tRet, tRetN, tDrop, tNext, tVar, tC, gName, tOp, tUn, rI, rI0, rU, tIfS, tTest, tB, tIf, tAnd, tOr, tNot, tAndV, tOrV, tNotV, tCall, tCons, tNil, tCB, tLst, tTup, tChain, CMul, CDiv, CPow, rEq, rNe, gSub, L2.start, LL.cxK0, LL.cxK1, List.map_cons, List.map_nil, List.length_cons, List.length_nil, List.replicate_succ, List.replicate_zero, List.cons_append, List.nil_append, List.append_nil, List.getElem?_cons_zero, List.getElem?_cons_succ, List.set_cons_zero, List.set_cons_succ, Nat.add_sub_cancel, Nat.reduceAdd, Nat.reduceSub, Option.some.injEq, V.int.injEq, V.bl.injEq, V.ref.injEq, V.str.injEq, List.cons.injEq, and_true, true_and, and_false, false_and, exists_eq_left, exists_eq_left', exists_and_left, exists_and_right, exists_eq, exists_eq', LL.if_dec, reduceCtorEq, exists_false, exists_const, or_false, false_or, if_true, if_false, LL.rInt1, LL.rMx, LL.rMn, and_assoc, Int.reduceNeg, Int.reduceLT, Int.reduceLE, Int.reduceMul, Int.reduceAdd, Int.reduceSub, Int.reducePow, Int.reduceToNat, Nat.reducePow, Nat.reduceLT, true_or, or_true, Bool.not_true, Bool.not_false, Bool.false_eq_true, Bool.or_false, Bool.or_true, Bool.true_or, Bool.false_or, decide_true, decide_false, not_true_eq_false, not_false_eq_true, LL.scal_int, LL.scal_bl, LL.scal_str, LL.isInt, LL.isBl, LL.isStr, LL.isLst, LL.isTup, LL.isDic]
        refine ⟨by decide, ?_⟩
        intro l1 nl1
        generalize hq : upd H9 l1 _ = H10
        have sH10 : Same H9 H10 := hq ▸ Same.new (Same.refl _) nl1
        have el1 := hq ▸ (upd_same (H := H9) (a := l1))
        clear hq
        refine ⟨by decide, ?_⟩
        intro l2 nl2
        generalize hq : upd H10 l2 _ = H11
        have sH11 : Same H10 H11 := hq ▸ Same.new (Same.refl _) nl2
        have el2 := hq ▸ (upd_same (H := H10) (a := l2))
        clear hq
        replace el1 := sH11 _ _ el1
        refine ⟨by decide, ?_⟩
        intro l3 nl3
        generalize hq : upd H11 l3 _ = H12
        have sH12 : Same H11 H12 := hq ▸ Same.new (Same.refl _) nl3
        have el3 := hq ▸ (upd_same (H := H11) (a := l3))
        clear hq
        replace el1 := sH12 _ _ el1
        replace el2 := sH12 _ _ el2
        exact hQ _ _ _ ⟨(sH10.trans sH11).trans sH12, el3, _, _, rfl, el1, el2⟩
      · rintro aa xs i y σ' H' hi ⟨g1, g2, ⟨l1, l2, rfl, k1, k2⟩, sh, z1, z2, rfl, hsh2⟩
        obtain ⟨l, m1, m2, a', b', c', e', rfl, kl, km1, km2, hs1', hs2', hme⟩ : ∃ l m1 m2 a' b' c' e', y = V.ref l ∧ H' l = some (.lst [.ref m1, .ref m2]) ∧ H' m1 = some (.tup [.int a', .int b']) ∧ H' m2 = some (.tup [.int c', .int e']) ∧ Spn a' b' ∧ Spn c' e' ∧ metB a' b' c' e' = metB a b c e := by
          have hy := List.mem_of_getElem? hi
          simp only [List.mem_cons, List.not_mem_nil, or_false] at hy
          rcases hy with rfl | rfl
          · exact ⟨l1, p1, p2, a, b, c, e, rfl, k1, g1 _ _ e1, g1 _ _ e2, hs1, hs2, rfl⟩
          · exact ⟨l2, p2, p1, c, e, a, b, rfl, k2, g1 _ _ e2, g1 _ _ e1, hs2, hs1, metB_comm⟩
        simp only [tSeq, tAsg, tRet, tRetN, tDrop, tNext, tVar, tC, gName, tOp, tUn, rI, rI0, rU, tIfS, tTest, tB, tIf, tAnd, tOr, tNot, tAndV, tOrV, tNotV, tCall, tCons, tNil, tCB, tLst, tTup, tChain, CMul, CDiv, CPow, rEq, rNe, gSub, L2.start, LL.cxK0, LL.cxK1, List.map_cons, List.map_nil, List.length_cons, List.length_nil, List.replicate_succ, List.replicate_zero, List.cons_append, List.nil_append, List.append_nil, List.getElem?_cons_zero, List.getElem?_cons_succ, List.set_cons_zero, List.set_cons_succ, Nat.add_sub_cancel, Nat.reduceAdd, Nat.reduceSub, Option.some.injEq, V.int.injEq, V.bl.injEq, V.ref.injEq, V.str.injEq, List.cons.injEq, and_true, true_and, and_false, false_and, exists_eq_left, exists_eq_left', exists_and_left, exists_and_right, exists_eq, exists_eq', LL.if_dec, reduceCtorEq, exists_false, exists_const, or_false, false_or, if_true, if_false, LL.rInt1, LL.rMx, LL.rMn, and_assoc, Int.reduceNeg, Int.reduceLT, Int.reduceLE, Int.reduceMul, Int.reduceAdd, Int.reduceSub, Int.reducePow, Int.reduceToNat, Nat.reducePow, Nat.reduceLT, true_or, or_true, Bool.not_true, Bool.not_false, Bool.false_eq_true, Bool.or_false, Bool.or_true, Bool.true_or, Bool.false_or, decide_true, decide_false, not_true_eq_false, not_false_eq_true, LL.scal_int, LL.scal_bl, LL.scal_str, LL.isInt, LL.isBl, LL.isStr, LL.isLst, LL.isTup, LL.isDic]
        refine use_ixL kl rfl (use_ixL kl rfl (use_asked 0 (by decide) (dt_pair (F := fun _ => True) trivial km1) (dt_pair (F := fun _ => True) trivial km2) fun r4 Ha sa hr4 => ⟨by decide, ?_⟩))
        rw [ask0 hs1' hs2', hme] at hr4
        intro q4 nq4
        generalize hq : upd Ha q4 _ = Hb
        have sHb : Same Ha Hb := hq ▸ Same.new (Same.refl _) nq4
        have eq4 := hq ▸ (upd_same (H := Ha) (a := q4))
        clear hq
        refine use_same (hr4.same sHb) (G := fun _ => True) ⟨q4, _, rfl, trivial, eq4, .cons rfl (.one (hsh2 ▸ rfl)), by simp⟩ (dep_done _ (by simp [dep])) fun Hc sc => ⟨true, rfl, ?_⟩
        rw [if_neg (by simp)]
        have gc : Same H' Hc := (sa.trans sHb).trans sc
        exact ⟨g1.trans gc, gc _ _ g2, gc _ _ k1, gc _ _ k2, hsh2⟩
      · rintro aa xs σ' H' ⟨g1, g2, _, sh, z1, z2, rfl, _⟩
        simp only [tSeq, tAsg, tRet, tRetN, tDrop, tNext, tVar, tC, gName, tOp, tUn, rI, rI0, rU, tIfS, tTest, tB, tIf, tAnd, tOr, tNot, tAndV, tOrV, tNotV, tCall, tCons, tNil, tCB, tLst, tTup, tChain, CMul, CDiv, CPow, rEq, rNe, gSub, L2.start, LL.cxK0, LL.cxK1, List.map_cons, List.map_nil, List.length_cons, List.length_nil, List.replicate_succ, List.replicate_zero, List.cons_append, List.nil_append, List.append_nil, List.getElem?_cons_zero, List.getElem?_cons_succ, List.set_cons_zero, List.set_cons_succ, Nat.add_sub_cancel, Nat.reduceAdd, Nat.reduceSub, Option.some.injEq, V.int.injEq, V.bl.injEq, V.ref.injEq, V.str.injEq, List.cons.injEq, and_true, true_and, and_false, false_and, exists_eq_left, exists_eq_left', exists_and_left, exists_and_right, exists_eq, exists_eq', LL.if_dec, reduceCtorEq, exists_false, exists_const, or_false, false_or, if_true, if_false, LL.rInt1, LL.rMx, LL.rMn, and_assoc, Int.reduceNeg, Int.reduceLT, Int.reduceLE, Int.reduceMul, Int.reduceAdd, Int.reduceSub, Int.reducePow, Int.reduceToNat, Nat.reducePow, Nat.reduceLT, true_or, or_true, Bool.not_true, Bool.not_false, Bool.false_eq_true, Bool.or_false, Bool.or_true, Bool.true_or, Bool.false_or, decide_true, decide_false, not_true_eq_false, not_false_eq_true, LL.scal_int, LL.scal_bl, LL.scal_str, LL.isInt, LL.isBl, LL.isStr, LL.isLst, LL.isTup, LL.isDic]
        refine use_asked 2 (by decide) (dt_pair (F := fun _ => True) trivial (g1 _ _ e1)) (G := fun _ => True) (u := .non) rfl fun r5 Ha sa hr5 => ?_
        rw [ask_end (span_t hs1)] at hr5
        obtain ⟨pr5, _, rfl, fpr5, epr5, ⟨y1, _, rfl, d1, y3, _, rfl, d3, rfl⟩, _⟩ := _root_.id hr5
        obtain rfl : y1 = V.str "done" := d1
        obtain rfl : y3 = V.int (a + b) := d3
        have gz := g1.trans sa
        refine use_ixL epr5 rfl ⟨rfl, ?_⟩
        rw [if_pos rfl]
        refine use_ixL epr5 rfl (use_isint (F := fun _ => True) (t := .int (a + b)) rfl ⟨true, rfl, ?_⟩)
        rw [if_pos rfl]
        refine use_ixL epr5 rfl (use_ixT (gz _ _ e1) rfl ⟨_, rfl, _, rfl, use_ixT (gz _ _ e1) rfl ⟨scal_int.mpr trivial, ?_⟩⟩)
        rw [decide_eq_true (by rw [show a + b - b = a by omega])]
        exact q _ (g9.trans gz)
def sp_law_refused_right : Sp := fun vs H Q _ => ∃ (F G : Addr → Prop) (p1 : Addr) (v x : V) (a b : Int) (t u : LL.T), vs = [.ref p1, v, x] ∧ H p1 = some (.tup [.int a, .int b]) ∧ Spn a b ∧ Dt F H v t ∧ Dt G H x u ∧ spanB t = false ∧ dep t ≤ 6 ∧ dep u ≤ 6 ∧ ∀ H', Same H H' → Q (.bl true) H'

theorem ok_law_refused_right (T : Tx K mg) : FnOk P w K mg base CX0 10 (He.ga K "_law_refused_right") T.fd_law_refused_right P_law_refused_right sp_law_refused_right := by
  refine T.F_law_refused_right.ok sc_law_refused_right (fun vs H Q E h => ?_) (fun cdv A outer s H vs Q E hr h => ⟨_, PSs.nox (pss_cons (ps_set (i := 3) sc_law_refused_right.nd rfl (Or.inl rfl) (pe_call (ok_law_copy T 8) hr rfl T.g_law_copy T.F_law_copy.kp (b_law_copy T) .nil pass0 (pa_cons (pe_lst (pa_cons (pv 1) (pa_cons (pv 2) pa_nil))) pa_nil))) (pss_cons (ps_for PassesOwn.never rfl (pi_list (pe_lst (pa_cons (pe_str) (pa_cons (pe_str) pa_nil)))) (pg_name (i := 4) sc_law_refused_right.nd rfl (Or.inl rfl)) (pss_cons (ps_if (pt_not (pt_val (pe_call (ok_law_same T 8) hr rfl T.g_law_same T.F_law_same.kp (b_law_same T) .nil pass0 (pa_cons (pe_call (ok_law_asked T) (hr.mono (by decide)) rfl T.g_law_asked T.F_law_asked.kp (b_law_asked T) .nil pass0 (pa_cons (pv 4) (pa_cons (pv 1) (pa_cons (pv 0) pa_nil)))) (pa_cons (pe_call (ok_law_refused T) (hr.mono (by decide)) rfl T.g_law_refused T.F_law_refused.kp (b_law_refused T) .nil pass0 (pa_cons (pe_str) (pa_cons (pe_tup (pa_cons (pe_str) pa_nil)) pa_nil))) pa_nil))))) (pss_one (ps_ret (pe_bl))) pss_nil) (pss_cons (ps_if (pt_not (pt_val (pe_call (ok_law_same T 8) hr rfl T.g_law_same T.F_law_same.kp (b_law_same T) .nil pass0 (pa_cons (pe_call (ok_law_asked T) (hr.mono (by decide)) rfl T.g_law_asked T.F_law_asked.kp (b_law_asked T) .nil pass0 (pa_cons (pv 4) (pa_cons (pv 0) (pa_cons (pv 1) pa_nil)))) (pa_cons (pe_call (ok_law_refused T) (hr.mono (by decide)) rfl T.g_law_refused T.F_law_refused.kp (b_law_refused T) .nil pass0 (pa_cons (pe_str) (pa_cons (pe_tup (pa_cons (pe_str) pa_nil)) pa_nil))) pa_nil))))) (pss_one (ps_ret (pe_bl))) pss_nil) (pss_one (ps_if (pt_not (pt_val (pe_call (ok_law_same T 8) hr rfl T.g_law_same T.F_law_same.kp (b_law_same T) .nil pass0 (pa_cons (pe_call (ok_law_asked T) (hr.mono (by decide)) rfl T.g_law_asked T.F_law_asked.kp (b_law_asked T) .nil pass0 (pa_cons (pv 4) (pa_cons (pv 1) (pa_cons (pv 2) pa_nil)))) (pa_cons (pe_call (ok_law_refused T) (hr.mono (by decide)) rfl T.g_law_refused T.F_law_refused.kp (b_law_refused T) .nil pass0 (pa_cons (pe_str) (pa_cons (pe_tup (pa_cons (pe_str) pa_nil)) pa_nil))) pa_nil))))) (pss_one (ps_ret (pe_bl))) pss_nil))))) (pss_cons (ps_if (pt_not (pt_val (pe_call (ok_law_same T 8) hr rfl T.g_law_same T.F_law_same.kp (b_law_same T) .nil pass0 (pa_cons (pe_call (ok_law_asked T) (hr.mono (by decide)) rfl T.g_law_asked T.F_law_asked.kp (b_law_asked T) .nil pass0 (pa_cons (pe_str) (pa_cons (pv 1) (pa_cons (pe_non) pa_nil)))) (pa_cons (pe_call (ok_law_refused T) (hr.mono (by decide)) rfl T.g_law_refused T.F_law_refused.kp (b_law_refused T) .nil pass0 (pa_cons (pe_str) (pa_cons (pe_tup (pa_cons (pe_str) pa_nil)) pa_nil))) pa_nil))))) (pss_one (ps_ret (pe_bl))) pss_nil) (pss_one (ps_ret (pe_call (ok_law_same T 8) hr rfl T.g_law_same T.F_law_same.kp (b_law_same T) .nil pass0 (pa_cons (pe_lst (pa_cons (pv 1) (pa_cons (pv 2) pa_nil))) (pa_cons (pv 3) pa_nil)))))))), ?_⟩)
  · obtain ⟨_, _, _, _, _, _, _, _, _, rfl, _⟩ := h
    rfl
  · obtain ⟨F, G, p1, v, x, a, b, t, u, rfl, e1, hs1, h1, h2, ht, dt, du, q⟩ := h
    simp only [tSeq, tAsg, tRet, tRetN, tDrop, tNext, tVar, tC, gName, tOp, tUn, rI, rI0, rU, tIfS, tTest, tB, tIf, tAnd, tOr, tNot, tAndV, tOrV, tNotV, tCall, tCons, tNil, tCB, tLst, tTup, tChain, CMul, CDiv, CPow, rEq, rNe, gSub, L2.start, LL.cxK0, LL.cxK1, List.map_cons, List.map_nil, List.length_cons, List.length_nil, List.replicate_succ, List.replicate_zero, List.cons_append, List.nil_append, List.append_nil, List.getElem?_cons_zero, List.getElem?_cons_succ, List.set_cons_zero, List.set_cons_succ, Nat.add_sub_cancel, Nat.reduceAdd, Nat.reduceSub, Option.some.injEq, V.int.injEq, V.bl.injEq, V.ref.injEq, V.str.injEq, List.cons.injEq, and_true, true_and, and_false, false_and, exists_eq_left, exists_eq_left', exists_and_left, exists_and_right, exists_eq, exists_eq', LL.if_dec, reduceCtorEq, exists_false, exists_const, or_false, false_or, if_true, if_false, LL.rInt1, LL.rMx, LL.rMn, and_assoc, Int.reduceNeg, Int.reduceLT, Int.reduceLE, Int.reduceMul, Int.reduceAdd, Int.reduceSub, Int.reducePow, Int.reduceToNat, Nat.reducePow, Nat.reduceLT, true_or, or_true, Bool.not_true, Bool.not_false, Bool.false_eq_true, Bool.or_false, Bool.or_true, Bool.true_or, Bool.false_or, decide_true, decide_false, not_true_eq_false, not_false_eq_true, LL.scal_int, LL.scal_bl, LL.scal_str, LL.isInt, LL.isBl, LL.isStr, LL.isLst, LL.isTup, LL.isDic, N_law_refused_right]
    refine ⟨by decide, ?_⟩
    intro pk npk
    generalize hq : upd H pk _ = H1
    have sH1 : Same H H1 := hq ▸ Same.new (Same.refl _) npk
    have epk := hq ▸ (upd_same (H := H) (a := pk))
    clear hq
    replace e1 := sH1 _ _ e1
    replace h1 := (h1.same sH1).to (G := fun _ => True) fun _ _ => trivial
    replace h2 := (h2.same sH1).to (G := fun _ => True) fun _ _ => trivial
    have hdep : dep (.lst [t, u]) < 8 := by show max (dep t) (max (dep u) 0) + 1 < 8; omega
    refine use_copy (F := fun _ => True) (t := .lst [t, u]) ⟨pk, _, rfl, trivial, epk, .cons h1 (.one h2), by simp⟩ hdep fun r H2 s2 hr => ?_
    replace h1 := h1.same s2
    replace h2 := h2.same s2
    replace e1 := s2 _ _ e1
    have hsp := span_t hs1
    refine use_forLX (R := fun aa xs H' => Same H2 H' ∧ H' aa = some (.lst xs) ∧ xs = [.str (ttl 0), .str (ttl 1)]) (fun Q hQ => ?_)
      (fun aa xs i σ' H' => Same H2 H' ∧ H' aa = some (.lst xs) ∧ xs = [.str (ttl 0), .str (ttl 1)] ∧ ∃ z : Option V, σ' = [some (.ref p1), some v, some x, some r, z])
      (fun aa xs H' ⟨g1, g2, g3⟩ => ⟨g1, g2, g3, _, rfl⟩) (fun aa xs i σ' H' _ ⟨_, g2, _⟩ => SqL.of g2) ?_ ?_
    · simp only [tSeq, tAsg, tRet, tRetN, tDrop, tNext, tVar, tC, gName, tOp, tUn, rI, rI0, rU, tIfS, tTest, tB, tIf, tAnd, tOr, tNot, tAndV, tOrV, tNotV, tCall, tCons, tNil, tCB, tLst, tTup, tChain, CMul, CDiv, CPow, rEq, rNe, gSub, L2.start, LL.cxK0, LL.cxK1, List.map_cons, List.map_nil, List.length_cons, List.length_nil, List.replicate_succ, List.replicate_zero, List.cons_append, List.nil_append, List.append_nil, List.getElem?_cons_zero, List.getElem?_cons_succ, List.set_cons_zero, List.set_cons_succ, Nat.add_sub_cancel, Nat.reduceAdd, Nat.reduceSub, Option.some.injEq, V.int.injEq, V.bl.injEq, V.ref.injEq, V.str.injEq, List.cons.injEq, and_true, true_and, and_false, false_and, exists_eq_left, exists_eq_left', exists_and_left, exists_and_right, exists_eq, exists_eq', LL.if_dec, reduceCtorEq, exists_false, exists_const, or_false, false_or, if_true, if_false, LL.rInt1, LL.rMx, LL.rMn, and_assoc, Int.reduceNeg, Int.reduceLT, Int.reduceLE, Int.reduceMul, Int.reduceAdd, Int.reduceSub, Int.reducePow, Int.reduceToNat, Nat.reducePow, Nat.reduceLT, true_or, or_true, Bool.not_true, Bool.not_false, Bool.false_eq_true, Bool.or_false, Bool.or_true, Bool.true_or, Bool.false_or, decide_true, decide_false, not_true_eq_false, not_false_eq_true, LL.scal_int, LL.scal_bl, LL.scal_str, LL.isInt, LL.isBl, LL.isStr, LL.isLst, LL.isTup, LL.isDic]
      refine ⟨by decide, ?_⟩
      intro p4 np4
      generalize hq : upd H2 p4 _ = H4
      have sH4 : Same H2 H4 := hq ▸ Same.new (Same.refl _) np4
      have ep4 := hq ▸ (upd_same (H := H2) (a := p4))
      clear hq
      exact hQ _ _ _ ⟨sH4, ep4, rfl⟩
    · rintro aa xs i y σ' H' hi ⟨g1, g2, rfl, z, rfl⟩
      obtain ⟨k, rfl, hk⟩ : ∃ k : Nat, y = V.str (ttl k) ∧ k ≤ 1 := by
        have hy := List.mem_of_getElem? hi
        simp only [List.mem_cons, List.not_mem_nil, or_false] at hy
        rcases hy with rfl | rfl
        · exact ⟨0, rfl, by decide⟩
        · exact ⟨1, rfl, by decide⟩
      simp only [tSeq, tAsg, tRet, tRetN, tDrop, tNext, tVar, tC, gName, tOp, tUn, rI, rI0, rU, tIfS, tTest, tB, tIf, tAnd, tOr, tNot, tAndV, tOrV, tNotV, tCall, tCons, tNil, tCB, tLst, tTup, tChain, CMul, CDiv, CPow, rEq, rNe, gSub, L2.start, LL.cxK0, LL.cxK1, List.map_cons, List.map_nil, List.length_cons, List.length_nil, List.replicate_succ, List.replicate_zero, List.cons_append, List.nil_append, List.append_nil, List.getElem?_cons_zero, List.getElem?_cons_succ, List.set_cons_zero, List.set_cons_succ, Nat.add_sub_cancel, Nat.reduceAdd, Nat.reduceSub, Option.some.injEq, V.int.injEq, V.bl.injEq, V.ref.injEq, V.str.injEq, List.cons.injEq, and_true, true_and, and_false, false_and, exists_eq_left, exists_eq_left', exists_and_left, exists_and_right, exists_eq, exists_eq', LL.if_dec, reduceCtorEq, exists_false, exists_const, or_false, false_or, if_true, if_false, LL.rInt1, LL.rMx, LL.rMn, and_assoc, Int.reduceNeg, Int.reduceLT, Int.reduceLE, Int.reduceMul, Int.reduceAdd, Int.reduceSub, Int.reducePow, Int.reduceToNat, Nat.reducePow, Nat.reduceLT, true_or, or_true, Bool.not_true, Bool.not_false, Bool.false_eq_true, Bool.or_false, Bool.or_true, Bool.true_or, Bool.false_or, decide_true, decide_false, not_true_eq_false, not_false_eq_true, LL.scal_int, LL.scal_bl, LL.scal_str, LL.isInt, LL.isBl, LL.isStr, LL.isLst, LL.isTup, LL.isDic]
      refine chk k (by omega) (h1.same g1) (dt_pair (F := fun _ => True) trivial (g1 _ _ e1)) (ask_first (by omega) ht) fun Ha ga => ⟨true, rfl, ?_⟩
      rw [if_neg (by simp)]
      have ga' := ga
      have ga := g1.trans ga
      refine chk k (by omega) (dt_pair (F := fun _ => True) trivial (ga _ _ e1)) (h1.same ga) (ask_second (by omega) hsp ht) fun Hb gb => ⟨true, rfl, ?_⟩
      rw [if_neg (by simp)]
      have gb' := gb
      have gb := ga.trans gb
      refine chk k (by omega) (h1.same gb) (h2.same gb) (ask_first (by omega) ht) fun Hc gc => ⟨true, rfl, ?_⟩
      rw [if_neg (by simp)]
      have gc' := gb.trans gc
      exact ⟨gc', ((ga'.trans gb').trans gc) _ _ g2⟩
    · rintro aa xs σ' H' ⟨g1, g2, rfl, z, rfl⟩
      simp only [tSeq, tAsg, tRet, tRetN, tDrop, tNext, tVar, tC, gName, tOp, tUn, rI, rI0, rU, tIfS, tTest, tB, tIf, tAnd, tOr, tNot, tAndV, tOrV, tNotV, tCall, tCons, tNil, tCB, tLst, tTup, tChain, CMul, CDiv, CPow, rEq, rNe, gSub, L2.start, LL.cxK0, LL.cxK1, List.map_cons, List.map_nil, List.length_cons, List.length_nil, List.replicate_succ, List.replicate_zero, List.cons_append, List.nil_append, List.append_nil, List.getElem?_cons_zero, List.getElem?_cons_succ, List.set_cons_zero, List.set_cons_succ, Nat.add_sub_cancel, Nat.reduceAdd, Nat.reduceSub, Option.some.injEq, V.int.injEq, V.bl.injEq, V.ref.injEq, V.str.injEq, List.cons.injEq, and_true, true_and, and_false, false_and, exists_eq_left, exists_eq_left', exists_and_left, exists_and_right, exists_eq, exists_eq', LL.if_dec, reduceCtorEq, exists_false, exists_const, or_false, false_or, if_true, if_false, LL.rInt1, LL.rMx, LL.rMn, and_assoc, Int.reduceNeg, Int.reduceLT, Int.reduceLE, Int.reduceMul, Int.reduceAdd, Int.reduceSub, Int.reducePow, Int.reduceToNat, Nat.reducePow, Nat.reduceLT, true_or, or_true, Bool.not_true, Bool.not_false, Bool.false_eq_true, Bool.or_false, Bool.or_true, Bool.true_or, Bool.false_or, decide_true, decide_false, not_true_eq_false, not_false_eq_true, LL.scal_int, LL.scal_bl, LL.scal_str, LL.isInt, LL.isBl, LL.isStr, LL.isLst, LL.isTup, LL.isDic]
      refine chk 2 (by omega) (h1.same g1) (G := fun _ => True) (u := .non) rfl (ask_end0 ht) fun Ha ga => ⟨true, rfl, ?_⟩
      rw [if_neg (by simp)]
      have ga := g1.trans ga
      refine ⟨by decide, ?_⟩
      intro p5 np5
      generalize hq : upd Ha p5 _ = Hb
      have sHb : Same Ha Hb := hq ▸ Same.new (Same.refl _) np5
      have ep5 := hq ▸ (upd_same (H := Ha) (a := p5))
      clear hq
      refine use_same (F := fun _ => True) (t := .lst [t, u]) ⟨p5, _, rfl, trivial, ep5, .cons ((h1.same ga).same sHb) (.one ((h2.same ga).same sHb)), by simp⟩ ((hr.same ga).same sHb) hdep fun Hc sc => ?_
      exact q _ ((((sH1.trans s2).trans ga).trans sHb).trans sc)
def sp_law_judged_right (K : PySem.W.Frag) : Sp := fun vs H Q _ => ∃ (F : Addr → Prop) (p : Addr) (xs : List V) (ts : List LL.T), vs = [.ref p] ∧ H p = some (.lst xs) ∧ DtL F H xs ts ∧ depL ts ≤ 6 ∧ ∀ H', Same H H' → Q (.bl true) H'

theorem ok_law_judged_right (T : Tx K mg) : FnOk P w K mg base CX0 10 (He.ga K "_law_judged_right") T.fd_law_judged_right P_law_judged_right (sp_law_judged_right K) := by
  refine T.F_law_judged_right.ok sc_law_judged_right (fun vs H Q E h => ?_) (fun cdv A outer s H vs Q E hr h => ⟨_, PSs.nox (pss_cons (ps_for PassesOwn.never rfl (pi_list (pv 0)) (pg_name (i := 1) sc_law_judged_right.nd rfl (Or.inl rfl)) (pss_cons (ps_set (i := 2) sc_law_judged_right.nd rfl (Or.inl rfl) (pe_call (ok_law_copy T 8) hr rfl T.g_law_copy T.F_law_copy.kp (b_law_copy T) .nil pass0 (pa_cons (pv 1) pa_nil))) (pss_one (ps_if (PW.pt (pw_or (pt_not (pt_val (pe_call (ok_law_same T 8) hr rfl T.g_law_same T.F_law_same.kp (b_law_same T) .nil pass0 (pa_cons (pe_call (ok_is_span T) (hr.mono (by decide)) rfl T.g_is_span T.F_is_span.kp (b_is_span T) .nil pass0 (pa_cons (pv 1) pa_nil)) (pa_cons (pe_call (ok_law_is_span T) (hr.mono (by decide)) rfl T.g_law_is_span T.F_law_is_span.kp (b_law_is_span T) .nil pass0 (pa_cons (pv 2) pa_nil)) pa_nil))))) (pw_or1 (pt_not (pt_val (pe_call (ok_law_same T 8) hr rfl T.g_law_same T.F_law_same.kp (b_law_same T) .nil pass0 (pa_cons (pv 1) (pa_cons (pv 2) pa_nil)))))))) (pss_one (ps_ret (pe_bl))) pss_nil)))) (pss_one (ps_ret (pe_bl)))), ?_⟩)
  · obtain ⟨_, _, _, _, rfl, _⟩ := h
    rfl
  · obtain ⟨F, p, xs, ts, rfl, ep, hx, hd, q⟩ := h
    simp only [tSeq, tAsg, tRet, tRetN, tDrop, tNext, tVar, tC, gName, tOp, tUn, rI, rI0, rU, tIfS, tTest, tB, tIf, tAnd, tOr, tNot, tAndV, tOrV, tNotV, tCall, tCons, tNil, tCB, tLst, tTup, tChain, CMul, CDiv, CPow, rEq, rNe, gSub, L2.start, LL.cxK0, LL.cxK1, List.map_cons, List.map_nil, List.length_cons, List.length_nil, List.replicate_succ, List.replicate_zero, List.cons_append, List.nil_append, List.append_nil, List.getElem?_cons_zero, List.getElem?_cons_succ, List.set_cons_zero, List.set_cons_succ, Nat.add_sub_cancel, Nat.reduceAdd, Nat.reduceSub, Option.some.injEq, V.int.injEq, V.bl.injEq, V.ref.injEq, V.str.injEq, List.cons.injEq, and_true, true_and, and_false, false_and, exists_eq_left, exists_eq_left', exists_and_left, exists_and_right, exists_eq, exists_eq', LL.if_dec, reduceCtorEq, exists_false, exists_const, or_false, false_or, if_true, if_false, LL.rInt1, LL.rMx, LL.rMn, and_assoc, Int.reduceNeg, Int.reduceLT, Int.reduceLE, Int.reduceMul, Int.reduceAdd, Int.reduceSub, Int.reducePow, Int.reduceToNat, Nat.reducePow, Nat.reduceLT, true_or, or_true, Bool.not_true, Bool.not_false, Bool.false_eq_true, Bool.or_false, Bool.or_true, Bool.true_or, Bool.false_or, decide_true, decide_false, not_true_eq_false, not_false_eq_true, LL.scal_int, LL.scal_bl, LL.scal_str, LL.isInt, LL.isBl, LL.isStr, LL.isLst, LL.isTup, LL.isDic, N_law_judged_right]
    refine use_forL (a := p) (xs := xs) (fun Q q => ⟨_, rfl, q⟩) (fun i σ' H' => Same H H' ∧ ∃ z z2 : Option V, σ' = [some (.ref p), z, z2]) ⟨Same.refl _, _, _, rfl⟩ (fun i σ' H' _ ⟨s1, _⟩ => SqL.of (s1 _ _ ep)) ?_ ?_
    · rintro i y σ' H' hi ⟨s1, z, z2, rfl⟩
      obtain ⟨t, et, dt⟩ := hx.get _ hi
      have hdt := depL_mem et
      simp only [tSeq, tAsg, tRet, tRetN, tDrop, tNext, tVar, tC, gName, tOp, tUn, rI, rI0, rU, tIfS, tTest, tB, tIf, tAnd, tOr, tNot, tAndV, tOrV, tNotV, tCall, tCons, tNil, tCB, tLst, tTup, tChain, CMul, CDiv, CPow, rEq, rNe, gSub, L2.start, LL.cxK0, LL.cxK1, List.map_cons, List.map_nil, List.length_cons, List.length_nil, List.replicate_succ, List.replicate_zero, List.cons_append, List.nil_append, List.append_nil, List.getElem?_cons_zero, List.getElem?_cons_succ, List.set_cons_zero, List.set_cons_succ, Nat.add_sub_cancel, Nat.reduceAdd, Nat.reduceSub, Option.some.injEq, V.int.injEq, V.bl.injEq, V.ref.injEq, V.str.injEq, List.cons.injEq, and_true, true_and, and_false, false_and, exists_eq_left, exists_eq_left', exists_and_left, exists_and_right, exists_eq, exists_eq', LL.if_dec, reduceCtorEq, exists_false, exists_const, or_false, false_or, if_true, if_false, LL.rInt1, LL.rMx, LL.rMn, and_assoc, Int.reduceNeg, Int.reduceLT, Int.reduceLE, Int.reduceMul, Int.reduceAdd, Int.reduceSub, Int.reducePow, Int.reduceToNat, Nat.reducePow, Nat.reduceLT, true_or, or_true, Bool.not_true, Bool.not_false, Bool.false_eq_true, Bool.or_false, Bool.or_true, Bool.true_or, Bool.false_or, decide_true, decide_false, not_true_eq_false, not_false_eq_true, LL.scal_int, LL.scal_bl, LL.scal_str, LL.isInt, LL.isBl, LL.isStr, LL.isLst, LL.isTup, LL.isDic]
      refine use_copy (dt.same s1) (by omega) fun r H2 s2 dr => ?_
      have g2 := s1.trans s2
      refine use_span (dt.same g2) (use_span dr (use_same (F := fun _ => True) (G := fun _ => True) (t := .bl (spanB t)) rfl rfl (by simp [dep]) fun H3 s3 => ⟨true, rfl, ?_⟩))
      rw [if_neg (by simp)]
      refine use_same ((dt.same g2).same s3) (dr.same s3) (by omega) fun H4 s4 => ⟨true, rfl, ?_⟩
      rw [if_neg (by simp)]
      exact (g2.trans s3).trans s4
    · rintro σ' H' ⟨s1, z, z2, rfl⟩
      simp only [tSeq, tAsg, tRet, tRetN, tDrop, tNext, tVar, tC, gName, tOp, tUn, rI, rI0, rU, tIfS, tTest, tB, tIf, tAnd, tOr, tNot, tAndV, tOrV, tNotV, tCall, tCons, tNil, tCB, tLst, tTup, tChain, CMul, CDiv, CPow, rEq, rNe, gSub, L2.start, LL.cxK0, LL.cxK1, List.map_cons, List.map_nil, List.length_cons, List.length_nil, List.replicate_succ, List.replicate_zero, List.cons_append, List.nil_append, List.append_nil, List.getElem?_cons_zero, List.getElem?_cons_succ, List.set_cons_zero, List.set_cons_succ, Nat.add_sub_cancel, Nat.reduceAdd, Nat.reduceSub, Option.some.injEq, V.int.injEq, V.bl.injEq, V.ref.injEq, V.str.injEq, List.cons.injEq, and_true, true_and, and_false, false_and, exists_eq_left, exists_eq_left', exists_and_left, exists_and_right, exists_eq, exists_eq', LL.if_dec, reduceCtorEq, exists_false, exists_const, or_false, false_or, if_true, if_false, LL.rInt1, LL.rMx, LL.rMn, and_assoc, Int.reduceNeg, Int.reduceLT, Int.reduceLE, Int.reduceMul, Int.reduceAdd, Int.reduceSub, Int.reducePow, Int.reduceToNat, Nat.reducePow, Nat.reduceLT, true_or, or_true, Bool.not_true, Bool.not_false, Bool.false_eq_true, Bool.or_false, Bool.or_true, Bool.true_or, Bool.false_or, decide_true, decide_false, not_true_eq_false, not_false_eq_true, LL.scal_int, LL.scal_bl, LL.scal_str, LL.isInt, LL.isBl, LL.isStr, LL.isLst, LL.isTup, LL.isDic]
      exact q _ s1
def sp_law (K : PySem.W.Frag) : Sp := fun vs H Q _ => ∃ (a : Addr) (ns : List Int), vs = [.ref a] ∧ SqL K H a (ns.map V.int) ∧ ns.length ≤ 100000 ∧ ∀ H', Q (.bl true) H'

theorem ok_law (T : Tx K mg) : FnOk P w K mg base CX0 13 (He.ga K "law") T.fd_law P_law (sp_law K) := by
  refine T.F_law.ok sc_law (fun vs H Q E h => ?_) (fun cdv A outer s H vs Q E hr h => ⟨_, PSs.nox (pss_cons (ps_set (i := 1) sc_law.nd rfl (Or.inr rfl) (pe_call (ok_law_draws T) (hr.mono (by decide)) rfl T.g_law_draws T.F_law_draws.kp (b_law_draws T) .nil pass0 (pa_cons (pv 0) pa_nil))) (pss_cons (ps_set (i := 2) sc_law.nd rfl (Or.inl rfl) (pe_call (ok_law_span_pair T) (hr.mono (by decide)) rfl T.g_law_span_pair T.F_law_span_pair.kp (b_law_span_pair T) .nil pass0 (pa_cons (pv 1) pa_nil))) (pss_cons (ps_set (i := 3) sc_law.nd rfl (Or.inl rfl) (pe_call (ok_law_span_pair T) (hr.mono (by decide)) rfl T.g_law_span_pair T.F_law_span_pair.kp (b_law_span_pair T) .nil pass0 (pa_cons (pv 1) pa_nil))) (pss_cons (ps_set (i := 4) sc_law.nd rfl (Or.inl rfl) (pe_lst (pa_cons (pe_call (ok_law_no_span T) hr rfl T.g_law_no_span T.F_law_no_span.kp (b_law_no_span T) .nil pass0 (pa_cons (pv 1) (pa_cons (pe_ix ix_list (pv 2) (pe_int) (fun _ _ => rfl)) pa_nil))) (pa_cons (pe_call (ok_law_no_span T) hr rfl T.g_law_no_span T.F_law_no_span.kp (b_law_no_span T) .nil pass0 (pa_cons (pv 1) (pa_cons (pe_ix ix_list (pv 3) (pe_int) (fun _ _ => rfl)) pa_nil))) pa_nil)))) (pss_cons (ps_if (PW.pt (pw_or (pt_not (pt_val (pe_call (ok_law_pair_right T) (hr.mono (by decide)) rfl T.g_law_pair_right T.F_law_pair_right.kp (b_law_pair_right T) .nil pass0 (pa_cons (pv 2) pa_nil)))) (pw_or1 (pt_not (pt_val (pe_call (ok_law_pair_right T) (hr.mono (by decide)) rfl T.g_law_pair_right T.F_law_pair_right.kp (b_law_pair_right T) .nil pass0 (pa_cons (pv 3) pa_nil))))))) (pss_one (ps_ret (pe_bl))) pss_nil) (pss_cons (ps_set (i := 5) sc_law.nd rfl (Or.inl rfl) (pe_op op_cat (pe_op op_cat (pe_op op_cat (pv 2) (pv 3)) (pv 4)) (pe_lst (pa_cons (pe_tup (pa_cons (pe_ix ix_tup (pe_ix ix_list (pv 2) (pe_int) (fun _ _ => rfl)) (pe_int) (fun _ _ => rfl)) (pa_cons (pe_op op_sub (pe_op op_pow (pe_int) (pe_int)) (pe_ix ix_tup (pe_ix ix_list (pv 2) (pe_int) (fun _ _ => rfl)) (pe_int) (fun _ _ => rfl))) pa_nil))) (pa_cons (pe_tup (pa_cons (pe_op op_pow (pe_int) (pe_int)) (pa_cons (pe_int) pa_nil))) (pa_cons (pe_tup (pa_cons (pe_op op_sub (pe_op op_pow (pe_int) (pe_int)) (pe_int)) (pa_cons (pe_int) pa_nil))) pa_nil)))))) (pss_cons (ps_if (pt_not (pt_val (pe_call (ok_law_judged_right T) (hr.mono (by decide)) rfl T.g_law_judged_right T.F_law_judged_right.kp (b_law_judged_right T) .nil pass0 (pa_cons (pe_op op_cat (pv 5) (pe_lc (own := [("_law_k", 6)]) (by rfl) sc_law.nd (pi_range1 rfl T.z_range (pa_cons (pe_int) pa_nil)) (blkOk_by (N := N_law) (sc := defScope s_law) (by decide +kernel)) (fun _ _ _ _ _ => (pg_name (i := 6) sc_law.nd rfl (Or.inl rfl))) (fun _ _ _ _ _ => pts_nil) (fun _ _ _ _ _ => (pe_call (ok_law_plain T 3) (hr.mono (by decide)) rfl T.g_law_plain T.F_law_plain.kp (b_law_plain T) .nil pass0 (pa_cons (pv 1) (pa_cons (pe_int) pa_nil)))))) pa_nil)))) (pss_one (ps_ret (pe_bl))) pss_nil) (pss_cons (ps_if (PW.pt (pw_or (pt_not (pt_val (pe_call (ok_law_refused_right T) (hr.mono (by decide)) rfl T.g_law_refused_right T.F_law_refused_right.kp (b_law_refused_right T) .nil pass0 (pa_cons (pe_ix ix_list (pv 2) (pe_int) (fun _ _ => rfl)) (pa_cons (pe_ix ix_list (pv 4) (pe_int) (fun _ _ => rfl)) (pa_cons (pe_ix ix_list (pv 4) (pe_int) (fun _ _ => rfl)) pa_nil)))))) (pw_or1 (pt_not (pt_val (pe_call (ok_law_refused_right T) (hr.mono (by decide)) rfl T.g_law_refused_right T.F_law_refused_right.kp (b_law_refused_right T) .nil pass0 (pa_cons (pe_ix ix_list (pv 3) (pe_int) (fun _ _ => rfl)) (pa_cons (pe_ix ix_list (pv 4) (pe_int) (fun _ _ => rfl)) (pa_cons (pe_ix ix_list (pv 4) (pe_int) (fun _ _ => rfl)) pa_nil))))))))) (pss_one (ps_ret (pe_bl))) pss_nil) (pss_one (ps_ret ((pe_and (pe_call (ok_law_pair_right T) (hr.mono (by decide)) rfl T.g_law_pair_right T.F_law_pair_right.kp (b_law_pair_right T) .nil pass0 (pa_cons (pv 2) pa_nil)) (pe_one (pe_call (ok_law_pair_right T) (hr.mono (by decide)) rfl T.g_law_pair_right T.F_law_pair_right.kp (b_law_pair_right T) .nil pass0 (pa_cons (pe_lst (pa_cons (pe_ix ix_list (pv 2) (pe_int) (fun _ _ => rfl)) (pa_cons (pe_ix ix_list (pv 3) (pe_int) (fun _ _ => rfl)) pa_nil))) pa_nil))))))))))))))), ?_⟩)
  · obtain ⟨_, _, rfl, _⟩ := h
    rfl
  · obtain ⟨a, ns, rfl, hs, hn, q⟩ := h
    simp only [tSeq, tAsg, tRet, tRetN, tDrop, tNext, tVar, tC, gName, tOp, tUn, rI, rI0, rU, tIfS, tTest, tB, tIf, tAnd, tOr, tNot, tAndV, tOrV, tNotV, tCall, tCons, tNil, tCB, tLst, tTup, tChain, CMul, CDiv, CPow, rEq, rNe, gSub, L2.start, LL.cxK0, LL.cxK1, List.map_cons, List.map_nil, List.length_cons, List.length_nil, List.replicate_succ, List.replicate_zero, List.cons_append, List.nil_append, List.append_nil, List.getElem?_cons_zero, List.getElem?_cons_succ, List.set_cons_zero, List.set_cons_succ, Nat.add_sub_cancel, Nat.reduceAdd, Nat.reduceSub, Option.some.injEq, V.int.injEq, V.bl.injEq, V.ref.injEq, V.str.injEq, List.cons.injEq, and_true, true_and, and_false, false_and, exists_eq_left, exists_eq_left', exists_and_left, exists_and_right, exists_eq, exists_eq', LL.if_dec, reduceCtorEq, exists_false, exists_const, or_false, false_or, if_true, if_false, LL.rInt1, LL.rMx, LL.rMn, and_assoc, Int.reduceNeg, Int.reduceLT, Int.reduceLE, Int.reduceMul, Int.reduceAdd, Int.reduceSub, Int.reducePow, Int.reduceToNat, Nat.reducePow, Nat.reduceLT, true_or, or_true, Bool.not_true, Bool.not_false, Bool.false_eq_true, Bool.or_false, Bool.or_true, Bool.true_or, Bool.false_or, decide_true, decide_false, not_true_eq_false, not_false_eq_true, LL.scal_int, LL.scal_bl, LL.scal_str, LL.isInt, LL.isBl, LL.isStr, LL.isLst, LL.isTup, LL.isDic, N_law]
    refine ⟨a, ns, rfl, hs, hn, fun d s H1 s1 D1 nd ns' => ?_⟩
    refine ⟨d, s, rfl, D1, fun P p1 p2 a1 b1 a2 b2 H2 A2 D2 nP np1 np2 eP e1 e2 hs1 hs2 => ?_⟩
    refine ⟨d, s, rfl, D2, fun P' p3 p4 a3 b3 a4 b4 H3 A3 D3 nP' np3 np4 eP' e3 e4 hs3 hs4 => ?_⟩
    replace eP := A3.kp _ _ (D1.ne _ nP) eP
    replace e1 := A3.kp _ _ (D1.ne _ np1) e1
    replace e2 := A3.kp _ _ (D1.ne _ np2) e2
    refine use_ixL eP rfl ⟨d, s, p1, a1, b1, rfl, D3, D1.ne _ np1, e1, hs1, fun v t H4 A4 D4 hv hdv hbv => ?_⟩
    replace eP := A4.kp _ _ (D1.ne _ nP) eP
    replace e1 := A4.kp _ _ (D1.ne _ np1) e1
    replace e2 := A4.kp _ _ (D1.ne _ np2) e2
    replace eP' := A4.kp _ _ (D2.ne _ nP') eP'
    replace e3 := A4.kp _ _ (D2.ne _ np3) e3
    replace e4 := A4.kp _ _ (D2.ne _ np4) e4
    refine use_ixL eP' rfl ⟨d, s, p4, a4, b4, rfl, D4, D2.ne _ np4, e4, hs4, fun v' t' H5 A5 D5 hv' hdv' hbv' => ⟨by decide, ?_⟩⟩
    replace eP := A5.kp _ _ (D1.ne _ nP) eP
    replace e1 := A5.kp _ _ (D1.ne _ np1) e1
    replace e2 := A5.kp _ _ (D1.ne _ np2) e2
    replace eP' := A5.kp _ _ (D2.ne _ nP') eP'
    replace e3 := A5.kp _ _ (D2.ne _ np3) e3
    replace e4 := A5.kp _ _ (D2.ne _ np4) e4
    replace hv := hv.kp D3.ne A5.kp
    intro pw npw
    generalize hq : upd H5 pw _ = H6
    have sH6 : Same H5 H6 := hq ▸ Same.new (Same.refl _) npw
    have epw := hq ▸ (upd_same (H := H5) (a := pw))
    clear hq
    replace eP := sH6 _ _ eP
    replace e1 := sH6 _ _ e1
    replace e2 := sH6 _ _ e2
    replace eP' := sH6 _ _ eP'
    replace e3 := sH6 _ _ e3
    replace e4 := sH6 _ _ e4
    refine use_pairR eP e1 e2 hs1 hs2 fun H7 s7 => ⟨true, rfl, ?_⟩
    rw [if_neg (by simp)]
    refine use_pairR (s7 _ _ eP') (s7 _ _ e3) (s7 _ _ e4) hs3 hs4 fun H8 s8 => ⟨true, rfl, ?_⟩
    rw [if_neg (by simp)]
    have g8 := s7.trans s8
    replace eP := g8 _ _ eP
    replace e1 := g8 _ _ e1
    replace e2 := g8 _ _ e2
    replace eP' := g8 _ _ eP'
    replace e3 := g8 _ _ e3
    replace e4 := g8 _ _ e4
    replace epw := g8 _ _ epw
    replace hv := (hv.same sH6).same g8
    replace hv' := (hv'.same sH6).same g8
    have D8 := (D5.same sH6).same g8
    have n1 := D1.ne _ np1
    have n2 := D1.ne _ np2
    have n3 := D2.ne _ np3
    have n4 := D2.ne _ np4
    have nP1 := D1.ne _ nP
    have nP2 := D2.ne _ nP'
    have npw1 := D5.ne _ npw
    replace hv := hv.to (G := fun a => a ≠ s) fun a h => D3.ne a h
    replace hv' := hv'.to (G := fun a => a ≠ s) fun a h => D4.ne a h
    refine ⟨P, P', _, _, rfl, rfl, eP, eP', Nat.le_of_lt (small_sz (by simp)), ?_⟩
    intro l1 nl1
    generalize hq : upd H8 l1 _ = H9
    have sH9 : Same H8 H9 := hq ▸ Same.new (Same.refl _) nl1
    have el1 := hq ▸ (upd_same (H := H8) (a := l1))
    clear hq
    replace eP := sH9 _ _ eP
    replace e1 := sH9 _ _ e1
    replace e2 := sH9 _ _ e2
    replace eP' := sH9 _ _ eP'
    replace e3 := sH9 _ _ e3
    replace e4 := sH9 _ _ e4
    replace epw := sH9 _ _ epw
    refine ⟨l1, pw, _, _, rfl, rfl, el1, epw, Nat.le_of_lt (small_sz (by simp)), ?_⟩
    intro l2 nl2
    generalize hq : upd H9 l2 _ = H10
    have sH10 : Same H9 H10 := hq ▸ Same.new (Same.refl _) nl2
    have el2 := hq ▸ (upd_same (H := H9) (a := l2))
    clear hq
    replace eP := sH10 _ _ eP
    replace e1 := sH10 _ _ e1
    replace e2 := sH10 _ _ e2
    replace eP' := sH10 _ _ eP'
    replace e3 := sH10 _ _ e3
    replace e4 := sH10 _ _ e4
    replace epw := sH10 _ _ epw
    refine use_ixL eP rfl (use_ixT e1 rfl ⟨by decide, use_ixL eP rfl (use_ixT e1 rfl ⟨_, rfl, by decide, ?_⟩)⟩)
    intro q1 nq1
    generalize hq : upd H10 q1 _ = H11
    have sH11 : Same H10 H11 := hq ▸ Same.new (Same.refl _) nq1
    have eq1 := hq ▸ (upd_same (H := H10) (a := q1))
    clear hq
    replace eP := sH11 _ _ eP
    replace e1 := sH11 _ _ e1
    replace e2 := sH11 _ _ e2
    replace eP' := sH11 _ _ eP'
    replace e3 := sH11 _ _ e3
    replace e4 := sH11 _ _ e4
    replace epw := sH11 _ _ epw
    replace el2 := sH11 _ _ el2
    refine ⟨by decide, by decide, ?_⟩
    intro q2 nq2
    generalize hq : upd H11 q2 _ = H12
    have sH12 : Same H11 H12 := hq ▸ Same.new (Same.refl _) nq2
    have eq2 := hq ▸ (upd_same (H := H11) (a := q2))
    clear hq
    replace eP := sH12 _ _ eP
    replace e1 := sH12 _ _ e1
    replace e2 := sH12 _ _ e2
    replace eP' := sH12 _ _ eP'
    replace e3 := sH12 _ _ e3
    replace e4 := sH12 _ _ e4
    replace epw := sH12 _ _ epw
    replace el2 := sH12 _ _ el2
    replace eq1 := sH12 _ _ eq1
    refine ⟨by decide, by decide, ?_⟩
    intro q3 nq3
    generalize hq : upd H12 q3 _ = H13
    have sH13 : Same H12 H13 := hq ▸ Same.new (Same.refl _) nq3
    have eq3 := hq ▸ (upd_same (H := H12) (a := q3))
    clear hq
    replace eP := sH13 _ _ eP
    replace e1 := sH13 _ _ e1
    replace e2 := sH13 _ _ e2
    replace eP' := sH13 _ _ eP'
    replace e3 := sH13 _ _ e3
    replace e4 := sH13 _ _ e4
    replace epw := sH13 _ _ epw
    replace el2 := sH13 _ _ el2
    replace eq1 := sH13 _ _ eq1
    replace eq2 := sH13 _ _ eq2
    refine ⟨by decide, ?_⟩
    intro l3 nl3
    generalize hq : upd H13 l3 _ = H14
    have sH14 : Same H13 H14 := hq ▸ Same.new (Same.refl _) nl3
    have el3 := hq ▸ (upd_same (H := H13) (a := l3))
    clear hq
    replace eP := sH14 _ _ eP
    replace e1 := sH14 _ _ e1
    replace e2 := sH14 _ _ e2
    replace eP' := sH14 _ _ eP'
    replace e3 := sH14 _ _ e3
    replace e4 := sH14 _ _ e4
    replace epw := sH14 _ _ epw
    replace el2 := sH14 _ _ el2
    replace eq1 := sH14 _ _ eq1
    replace eq2 := sH14 _ _ eq2
    replace eq3 := sH14 _ _ eq3
    refine ⟨l2, l3, _, _, rfl, rfl, el2, el3, Nat.le_of_lt (small_sz (by simp)), ?_⟩
    intro l4 nl4
    generalize hq : upd H14 l4 _ = H15
    have sH15 : Same H14 H15 := hq ▸ Same.new (Same.refl _) nl4
    have el4 := hq ▸ (upd_same (H := H14) (a := l4))
    clear hq
    replace eP := sH15 _ _ eP
    replace e1 := sH15 _ _ e1
    replace e2 := sH15 _ _ e2
    replace eP' := sH15 _ _ eP'
    replace e3 := sH15 _ _ e3
    replace e4 := sH15 _ _ e4
    replace epw := sH15 _ _ epw
    replace eq1 := sH15 _ _ eq1
    replace eq2 := sH15 _ _ eq2
    replace eq3 := sH15 _ _ eq3
    have g15 : Same H8 H15 := (((((sH9.trans sH10).trans sH11).trans sH12).trans sH13).trans sH14).trans sH15
    have D10 := (D8.same sH9).same sH10
    have D11 := D10.same sH11
    have D12 := D11.same sH12
    have D15 := D8.same g15
    have nq1 := D10.ne _ nq1
    have nq2 := D11.ne _ nq2
    have nq3 := D12.ne _ nq3
    have nl4 := (D12.same sH13 |>.same sH14).ne _ nl4
    replace hv := hv.same g15
    replace hv' := hv'.same g15
    have hall : DtL (fun a => a ≠ s) H15 _ _ := .cons (dt_pair n1 e1) (.cons (dt_pair n2 e2) (.cons (dt_pair n3 e3) (.cons (dt_pair n4 e4) (.cons hv (.cons hv' (.cons (dt_pair nq1 eq1) (.cons (dt_pair nq2 eq2) (.one (dt_pair nq3 eq3)))))))))
    refine use_lcR (R := fun j H' => j = 4 ∧ H' = H15) (fun Q hQ => ?_) (fun j H' h => ⟨by omega, by omega⟩)
      (fun j L i H' => Aft d s H15 H' ∧ j = 4 ∧ i ≤ 4 ∧ H15 L = none ∧ ∃ acc us, H' L = some (.lst acc) ∧ us.length = i ∧ depL us ≤ 6 ∧ DtL (fun b => H15 b = none ∧ b ≠ L) H' acc us) ?_ ?_ ?_
    · simp only [tSeq, tAsg, tRet, tRetN, tDrop, tNext, tVar, tC, gName, tOp, tUn, rI, rI0, rU, tIfS, tTest, tB, tIf, tAnd, tOr, tNot, tAndV, tOrV, tNotV, tCall, tCons, tNil, tCB, tLst, tTup, tChain, CMul, CDiv, CPow, rEq, rNe, gSub, L2.start, LL.cxK0, LL.cxK1, List.map_cons, List.map_nil, List.length_cons, List.length_nil, List.replicate_succ, List.replicate_zero, List.cons_append, List.nil_append, List.append_nil, List.getElem?_cons_zero, List.getElem?_cons_succ, List.set_cons_zero, List.set_cons_succ, Nat.add_sub_cancel, Nat.reduceAdd, Nat.reduceSub, Option.some.injEq, V.int.injEq, V.bl.injEq, V.ref.injEq, V.str.injEq, List.cons.injEq, and_true, true_and, and_false, false_and, exists_eq_left, exists_eq_left', exists_and_left, exists_and_right, exists_eq, exists_eq', LL.if_dec, reduceCtorEq, exists_false, exists_const, or_false, false_or, if_true, if_false, LL.rInt1, LL.rMx, LL.rMn, and_assoc, Int.reduceNeg, Int.reduceLT, Int.reduceLE, Int.reduceMul, Int.reduceAdd, Int.reduceSub, Int.reducePow, Int.reduceToNat, Nat.reducePow, Nat.reduceLT, true_or, or_true, Bool.not_true, Bool.not_false, Bool.false_eq_true, Bool.or_false, Bool.or_true, Bool.true_or, Bool.false_or, decide_true, decide_false, not_true_eq_false, not_false_eq_true, LL.scal_int, LL.scal_bl, LL.scal_str, LL.isInt, LL.isBl, LL.isStr, LL.isLst, LL.isTup, LL.isDic]
      exact hQ _ _ ⟨rfl, rfl⟩
    · rintro j H' L ⟨rfl, rfl⟩ hL
      exact ⟨(Aft.refl D15).new hL, rfl, Nat.zero_le _, hL, [], [], upd_same, rfl, Nat.zero_le _, rfl⟩
    · rintro j L i H' hi ⟨aA, rfl, i4, hL, acc, us, eL, hu, hdp, hacc⟩
      simp only [tSeq, tAsg, tRet, tRetN, tDrop, tNext, tVar, tC, gName, tOp, tUn, rI, rI0, rU, tIfS, tTest, tB, tIf, tAnd, tOr, tNot, tAndV, tOrV, tNotV, tCall, tCons, tNil, tCB, tLst, tTup, tChain, CMul, CDiv, CPow, rEq, rNe, gSub, L2.start, LL.cxK0, LL.cxK1, List.map_cons, List.map_nil, List.length_cons, List.length_nil, List.replicate_succ, List.replicate_zero, List.cons_append, List.nil_append, List.append_nil, List.getElem?_cons_zero, List.getElem?_cons_succ, List.set_cons_zero, List.set_cons_succ, Nat.add_sub_cancel, Nat.reduceAdd, Nat.reduceSub, Option.some.injEq, V.int.injEq, V.bl.injEq, V.ref.injEq, V.str.injEq, List.cons.injEq, and_true, true_and, and_false, false_and, exists_eq_left, exists_eq_left', exists_and_left, exists_and_right, exists_eq, exists_eq', LL.if_dec, reduceCtorEq, exists_false, exists_const, or_false, false_or, if_true, if_false, LL.rInt1, LL.rMx, LL.rMn, and_assoc, Int.reduceNeg, Int.reduceLT, Int.reduceLE, Int.reduceMul, Int.reduceAdd, Int.reduceSub, Int.reducePow, Int.reduceToNat, Nat.reducePow, Nat.reduceLT, true_or, or_true, Bool.not_true, Bool.not_false, Bool.false_eq_true, Bool.or_false, Bool.or_true, Bool.true_or, Bool.false_or, decide_true, decide_false, not_true_eq_false, not_false_eq_true, LL.scal_int, LL.scal_bl, LL.scal_str, LL.isInt, LL.isBl, LL.isStr, LL.isLst, LL.isTup, LL.isDic, tYes, wipe, List.foldl_cons, List.foldl_nil]
      refine use_plain (m := 2) aA.dr (by decide) (by decide) fun x t H3 a3 D3 hx hd3 => ?_
      obtain ⟨g1, g2⟩ := growA D15 hL aA a3 hacc (new_ofA aA eL) hx
      have hal : acc.length = i := by rw [hacc.len, hu]
      refine ⟨acc, a3.kp _ _ (D15.ne _ hL) eL, small_sz (by omega), g1, by omega, hL, _, upd_same, us ++ [t], by rw [List.length_append, hu]; rfl, ?_, g2⟩
      rw [depL_app]
      show max (depL us) (max (dep t) 0) ≤ 6
      omega
    · rintro j L H' ⟨aA, rfl, i4, hL, acc, us, eL, hu, hdp, hacc⟩
      have kp := aA.kp
      have hlen : acc.length ≤ 4 := by rw [hacc.len, hu]; omega
      replace hall := hall.kp (fun a h => h) kp
      replace hacc := hacc.to (G := fun a => a ≠ s) fun a h => D15.ne a h.1
      replace hv := hv.kp (fun a h => h) kp
      replace hv' := hv'.kp (fun a h => h) kp
      replace eP := kp _ _ nP1 eP
      replace eP' := kp _ _ nP2 eP'
      replace e1 := kp _ _ n1 e1
      replace e2 := kp _ _ n2 e2
      replace e3 := kp _ _ n3 e3
      replace epw := kp _ _ npw1 epw
      refine ⟨l4, L, _, _, rfl, rfl, kp _ _ nl4 el4, eL, Nat.le_of_lt (small_sz (by simp; omega)), ?_⟩
      intro l5 nl5
      generalize hq : upd H' l5 _ = H16
      have sH16 : Same H' H16 := hq ▸ Same.new (Same.refl _) nl5
      have el5 := hq ▸ (upd_same (H := H') (a := l5))
      clear hq
      replace eP := sH16 _ _ eP
      replace e1 := sH16 _ _ e1
      replace e2 := sH16 _ _ e2
      replace eP' := sH16 _ _ eP'
      replace e3 := sH16 _ _ e3
      replace epw := sH16 _ _ epw
      replace hall := (DtL.app _ hall hacc).same sH16
      replace hv := hv.same sH16
      replace hv' := hv'.same sH16
      refine ⟨_, l5, _, _, rfl, el5, hall, by rw [depL_app]; simp [dep, depL]; omega, fun H17 s17 => ⟨true, rfl, ?_⟩⟩
      rw [if_neg (by simp)]
      replace eP := s17 _ _ eP
      replace eP' := s17 _ _ eP'
      replace e1 := s17 _ _ e1
      replace e2 := s17 _ _ e2
      replace e3 := s17 _ _ e3
      replace epw := s17 _ _ epw
      replace hv := hv.same s17
      replace hv' := hv'.same s17
      refine use_ixL eP rfl (use_ixL epw rfl (use_ixL epw rfl ⟨_, _, p2, v, v', a2, b2, t, t', rfl, e2, hs2, hv, hv', hbv, hdv, hdv', fun H18 s18 => ⟨true, rfl, ?_⟩⟩))
      rw [if_neg (by simp)]
      replace eP := s18 _ _ eP
      replace eP' := s18 _ _ eP'
      replace e1 := s18 _ _ e1
      replace e2 := s18 _ _ e2
      replace e3 := s18 _ _ e3
      replace epw := s18 _ _ epw
      replace hv := hv.same s18
      replace hv' := hv'.same s18
      refine use_ixL eP' rfl (use_ixL epw rfl (use_ixL epw rfl ⟨_, _, p3, v', v, a3, b3, t', t, rfl, e3, hs3, hv', hv, hbv', hdv', hdv, fun H19 s19 => ⟨true, rfl, ?_⟩⟩))
      rw [if_neg (by simp)]
      replace eP := s19 _ _ eP
      replace eP' := s19 _ _ eP'
      replace e1 := s19 _ _ e1
      replace e2 := s19 _ _ e2
      replace e3 := s19 _ _ e3
      refine use_pairR eP e1 e2 hs1 hs2 fun H20 s20 => ⟨true, rfl, ?_⟩
      rw [if_pos rfl]
      replace eP := s20 _ _ eP
      replace eP' := s20 _ _ eP'
      replace e1 := s20 _ _ e1
      replace e3 := s20 _ _ e3
      refine use_ixL eP rfl (use_ixL eP' rfl ⟨by decide, ?_⟩)
      intro pz npz
      generalize hq : upd H20 pz _ = H21
      have sH21 : Same H20 H21 := hq ▸ Same.new (Same.refl _) npz
      have epz := hq ▸ (upd_same (H := H20) (a := pz))
      clear hq
      replace e1 := sH21 _ _ e1
      replace e3 := sH21 _ _ e3
      exact use_pairR epz e1 e3 hs1 hs3 fun H22 s22 => q _
end K01

namespace K01
open PySem PySem.Spec PyProof.Rows L2 LL
variable {P : Program} {w : World} {K : PySem.W.Frag} {mg : Str → Option Value} {base : Heap}

def dd_is_whole : He.DefD := ⟨("is_whole", none), "is_whole", "is_whole", defArgs s_is_whole, defBody s_is_whole, defScope s_is_whole, [], []⟩
def dd_need : He.DefD := ⟨("need", none), "need", "need", defArgs s_need, defBody s_need, defScope s_need, [], []⟩
def dd_is_span : He.DefD := ⟨("is_span", none), "is_span", "is_span", defArgs s_is_span, defBody s_is_span, defScope s_is_span, [], []⟩
def dd_end_of : He.DefD := ⟨("end_of", none), "end_of", "end_of", defArgs s_end_of, defBody s_end_of, defScope s_end_of, [], []⟩
def dd_meet : He.DefD := ⟨("meet", none), "meet", "meet", defArgs s_meet, defBody s_meet, defScope s_meet, [], []⟩
def dd_overlap : He.DefD := ⟨("overlap", none), "overlap", "overlap", defArgs s_overlap, defBody s_overlap, defScope s_overlap, [], []⟩
def dd_law_draws : He.DefD := ⟨("_law_draws", none), "_law_draws", "_law_draws", defArgs s_law_draws, defBody s_law_draws, defScope s_law_draws, [], []⟩
def dd_law_next_cell : He.DefD := ⟨("_law_next_cell", none), "_law_next_cell", "_law_next_cell", defArgs s_law_next_cell, defBody s_law_next_cell, defScope s_law_next_cell, [], []⟩
def dd_law_mixed : He.DefD := ⟨("_law_mixed", none), "_law_mixed", "_law_mixed", defArgs s_law_mixed, defBody s_law_mixed, defScope s_law_mixed, [], []⟩
def dd_law_take : He.DefD := ⟨("_law_take", none), "_law_take", "_law_take", defArgs s_law_take, defBody s_law_take, defScope s_law_take, [], []⟩
def dd_law_between : He.DefD := ⟨("_law_between", none), "_law_between", "_law_between", defArgs s_law_between, defBody s_law_between, defScope s_law_between, [], []⟩
def dd_law_number : He.DefD := ⟨("_law_number", none), "_law_number", "_law_number", defArgs s_law_number, defBody s_law_number, defScope s_law_number, [], []⟩
def dd_law_alignment : He.DefD := ⟨("_law_alignment", none), "_law_alignment", "_law_alignment", defArgs s_law_alignment, defBody s_law_alignment, defScope s_law_alignment, [], []⟩
def dd_law_long : He.DefD := ⟨("_law_long", none), "_law_long", "_law_long", defArgs s_law_long, defBody s_law_long, defScope s_law_long, [], []⟩
def dd_law_integer : He.DefD := ⟨("_law_integer", none), "_law_integer", "_law_integer", defArgs s_law_integer, defBody s_law_integer, defScope s_law_integer, [], []⟩
def dd_law_chars : He.DefD := ⟨("_law_chars", none), "_law_chars", "_law_chars", defArgs s_law_chars, defBody s_law_chars, defScope s_law_chars, [], []⟩
def dd_law_text : He.DefD := ⟨("_law_text", none), "_law_text", "_law_text", defArgs s_law_text, defBody s_law_text, defScope s_law_text, [], []⟩
def dd_law_plain : He.DefD := ⟨("_law_plain", none), "_law_plain", "_law_plain", defArgs s_law_plain, defBody s_law_plain, defScope s_law_plain, [], []⟩
def dd_law_not_integer : He.DefD := ⟨("_law_not_integer", none), "_law_not_integer", "_law_not_integer", defArgs s_law_not_integer, defBody s_law_not_integer, defScope s_law_not_integer, [], []⟩
def dd_law_is_int : He.DefD := ⟨("_law_is_int", none), "_law_is_int", "_law_is_int", defArgs s_law_is_int, defBody s_law_is_int, defScope s_law_is_int, [], []⟩
def dd_law_is_ints : He.DefD := ⟨("_law_is_ints", none), "_law_is_ints", "_law_is_ints", defArgs s_law_is_ints, defBody s_law_is_ints, defScope s_law_is_ints, [], []⟩
def dd_law_same : He.DefD := ⟨("_law_same", none), "_law_same", "_law_same", defArgs s_law_same, defBody s_law_same, defScope s_law_same, [], []⟩
def dd_law_copy : He.DefD := ⟨("_law_copy", none), "_law_copy", "_law_copy", defArgs s_law_copy, defBody s_law_copy, defScope s_law_copy, [], []⟩
def dd_law_is_span : He.DefD := ⟨("_law_is_span", none), "_law_is_span", "_law_is_span", defArgs s_law_is_span, defBody s_law_is_span, defScope s_law_is_span, [], []⟩
def dd_law_span : He.DefD := ⟨("_law_span", none), "_law_span", "_law_span", defArgs s_law_span, defBody s_law_span, defScope s_law_span, [], []⟩
def dd_law_span_pair : He.DefD := ⟨("_law_span_pair", none), "_law_span_pair", "_law_span_pair", defArgs s_law_span_pair, defBody s_law_span_pair, defScope s_law_span_pair, [], []⟩
def dd_law_no_span : He.DefD := ⟨("_law_no_span", none), "_law_no_span", "_law_no_span", defArgs s_law_no_span, defBody s_law_no_span, defScope s_law_no_span, [], []⟩
def dd_law_kinds : He.DefD := ⟨("_law_kinds", none), "_law_kinds", "_law_kinds", defArgs s_law_kinds, defBody s_law_kinds, defScope s_law_kinds, [], []⟩
def dd_law_refused : He.DefD := ⟨("_law_refused", none), "_law_refused", "_law_refused", defArgs s_law_refused, defBody s_law_refused, defScope s_law_refused, [], []⟩
def dd_law_asked : He.DefD := ⟨("_law_asked", none), "_law_asked", "_law_asked", defArgs s_law_asked, defBody s_law_asked, defScope s_law_asked, [], []⟩
def dd_law_lies_in : He.DefD := ⟨("_law_lies_in", none), "_law_lies_in", "_law_lies_in", defArgs s_law_lies_in, defBody s_law_lies_in, defScope s_law_lies_in, [], []⟩
def dd_law_meet_right : He.DefD := ⟨("_law_meet_right", none), "_law_meet_right", "_law_meet_right", defArgs s_law_meet_right, defBody s_law_meet_right, defScope s_law_meet_right, [], []⟩
def dd_law_pair_right : He.DefD := ⟨("_law_pair_right", none), "_law_pair_right", "_law_pair_right", defArgs s_law_pair_right, defBody s_law_pair_right, defScope s_law_pair_right, [], []⟩
def dd_law_refused_right : He.DefD := ⟨("_law_refused_right", none), "_law_refused_right", "_law_refused_right", defArgs s_law_refused_right, defBody s_law_refused_right, defScope s_law_refused_right, [], []⟩
def dd_law_judged_right : He.DefD := ⟨("_law_judged_right", none), "_law_judged_right", "_law_judged_right", defArgs s_law_judged_right, defBody s_law_judged_right, defScope s_law_judged_right, [], []⟩
def dd_law : He.DefD := ⟨("law", none), "law", "law", defArgs s_law, defBody s_law, defScope s_law, [], []⟩
def dd_BadValue : He.DefD := ⟨("BadValue", some "__init__"), "__init__", "BadValue.__init__", defArgs s_BadValue, defBody s_BadValue, defScope s_BadValue, [], []⟩
def fn : List He.DefD := [dd_is_whole, dd_need, dd_is_span, dd_end_of, dd_meet, dd_overlap, dd_law_draws, dd_law_next_cell, dd_law_mixed, dd_law_take, dd_law_between, dd_law_number, dd_law_alignment, dd_law_long, dd_law_integer, dd_law_chars, dd_law_text, dd_law_plain, dd_law_not_integer, dd_law_is_int, dd_law_is_ints, dd_law_same, dd_law_copy, dd_law_is_span, dd_law_span, dd_law_span_pair, dd_law_no_span, dd_law_kinds, dd_law_refused, dd_law_asked, dd_law_lies_in, dd_law_meet_right, dd_law_pair_right, dd_law_refused_right, dd_law_judged_right, dd_law, dd_BadValue]
def fa : List He.Fa := [.glo "is_whole", .glo "need", .glo "is_span", .glo "end_of", .glo "meet", .glo "overlap", .glo "_law_draws", .glo "_law_next_cell", .glo "_law_mixed", .glo "_law_take", .glo "_law_between", .glo "_law_number", .glo "_law_alignment", .glo "_law_long", .glo "_law_integer", .glo "_law_chars", .glo "_law_text", .glo "_law_plain", .glo "_law_not_integer", .glo "_law_is_int", .glo "_law_is_ints", .glo "_law_same", .glo "_law_copy", .glo "_law_is_span", .glo "_law_span", .glo "_law_span_pair", .glo "_law_no_span", .glo "_law_kinds", .glo "_law_refused", .glo "_law_asked", .glo "_law_lies_in", .glo "_law_meet_right", .glo "_law_pair_right", .glo "_law_refused_right", .glo "_law_judged_right", .glo "law", .int "MOST_PLACE" 1000000000, .glo "BadLine", .glo "BadValue", .glo "Broken", .glo "Cut", .glo "Fault", .glo "NoRoom", .glo "NotHeld", .glo "StoreError", .glo "Unknown", .free "ValueError", .free "bool", .free "dict", .free "int", .free "isinstance", .free "len", .free "list", .free "max", .free "min", .free "range", .free "str", .free "tuple"]
def exs : List (PySem.W.Frag → Bool) := [fun K => oexB K (He.ga K "BadValue"),
  fun K => decide (PySem.W.findIn K (.ref (He.ga K "BadValue")) "__init__" = some (some (.ref (He.ma K (He.ga K "BadValue") "__init__")))),
  fun K => decide (PySem.W.typeIn K (.ref (He.ma K (He.ga K "BadValue") "__init__")) = some (.type "function")),
  fun K => decide (PySem.W.findIn K (.ref (He.ga K "BadValue")) "parameter" = some none),
  fun K => decide (PySem.W.findIn K (.ref (He.ga K "BadValue")) "told" = some none),
  fun K => xfB K (He.ga K "BadValue"),
  fun K => excdB K (He.ga K "BadValue"),
  fun K => decide (PySem.W.exmOne K (.ref (He.ga K "BadValue")) (.ref (He.ga K "BadValue")) = some true),
  fun K => decide (PySem.W.kitOne K (.ref (He.ga K "BadValue")) (.type "ValueError") = some true),
  fun K => decide (PySem.W.kitOne K (.ref (He.ga K "BadValue")) (.ref (He.ga K "StoreError")) = some true),
  fun K => decide (PySem.W.kitOne K (.ref (He.ga K "BadValue")) (.ref (He.ga K "BadValue")) = some true),
  fun K => decide (PySem.W.kitOne K (.ref (He.ga K "BadValue")) (.ref (He.ga K "Broken")) = some false),
  fun K => decide (PySem.W.kitOne K (.ref (He.ga K "BadValue")) (.ref (He.ga K "Unknown")) = some false),
  fun K => decide (PySem.W.kitOne K (.ref (He.ga K "BadValue")) (.ref (He.ga K "NotHeld")) = some false),
  fun K => decide (PySem.W.kitOne K (.ref (He.ga K "BadValue")) (.ref (He.ga K "Fault")) = some false),
  fun K => decide (PySem.W.kitOne K (.ref (He.ga K "BadValue")) (.ref (He.ga K "NoRoom")) = some false),
  fun K => decide (PySem.W.kitOne K (.ref (He.ga K "BadValue")) (.ref (He.ga K "Cut")) = some false),
  fun K => decide (PySem.W.kitOne K (.ref (He.ga K "BadValue")) (.ref (He.ga K "BadLine")) = some false)]
def names : List Str := (["is_whole", "need", "is_span", "end_of", "meet", "overlap", "_law_draws", "_law_next_cell", "_law_mixed", "_law_take", "_law_between", "_law_number", "_law_alignment", "_law_long", "_law_integer", "_law_chars", "_law_text", "_law_plain", "_law_not_integer", "_law_is_int"] : List Str) ++ (["_law_is_ints", "_law_same", "_law_copy", "_law_is_span", "_law_span", "_law_span_pair", "_law_no_span", "_law_kinds", "_law_refused", "_law_asked", "_law_lies_in", "_law_meet_right", "_law_pair_right", "_law_refused_right", "_law_judged_right", "StoreError", "BadValue", "Broken", "Unknown", "NotHeld"] : List Str) ++ (["Fault", "NoRoom", "Cut", "BadLine", "MOST_PLACE"] : List Str)
abbrev R : PySem.W.OpenRow := PySem.W.OpenLaw.row PySem.Challenge.rw_allgivenback_k01_span_meet
abbrev hk : PySem.W.Hook := hookY 6 fa fn (fun K => exs.all fun e => e K)
def ob (s : PySem.W.SharedT) : AlY := obsY 6 fa fn (fun K => exs.all fun e => e K) (HandSHeadRun.getT s)
theorem ob_eq (s : PySem.W.SharedT) : ob s = hk.obs s.abs := obsY_eq (HandSHeadRun.getT_eq s)
theorem run (w : World) : HandSHeadRun.RunEq R (PySem.W.view R.prog [49]) hk ob 4000 names w := by
  intro os
  kernel_rfl
theorem tx_of {K : PySem.W.Frag} {h : Heap} {mg : Str → Option Value} (X : K.In h) (G : h.Ns mainGlobals mg) (c : SaysY fa fn (fun K => exs.all fun e => e K) K) : Nonempty (Tx K mg) := by
  obtain ⟨fd_is_whole, F_is_whole⟩ := c.d.def_ 0 (d := dd_is_whole) rfl
  obtain ⟨fd_need, F_need⟩ := c.d.def_ 1 (d := dd_need) rfl
  obtain ⟨fd_is_span, F_is_span⟩ := c.d.def_ 2 (d := dd_is_span) rfl
  obtain ⟨fd_end_of, F_end_of⟩ := c.d.def_ 3 (d := dd_end_of) rfl
  obtain ⟨fd_meet, F_meet⟩ := c.d.def_ 4 (d := dd_meet) rfl
  obtain ⟨fd_overlap, F_overlap⟩ := c.d.def_ 5 (d := dd_overlap) rfl
  obtain ⟨fd_law_draws, F_law_draws⟩ := c.d.def_ 6 (d := dd_law_draws) rfl
  obtain ⟨fd_law_next_cell, F_law_next_cell⟩ := c.d.def_ 7 (d := dd_law_next_cell) rfl
  obtain ⟨fd_law_mixed, F_law_mixed⟩ := c.d.def_ 8 (d := dd_law_mixed) rfl
  obtain ⟨fd_law_take, F_law_take⟩ := c.d.def_ 9 (d := dd_law_take) rfl
  obtain ⟨fd_law_between, F_law_between⟩ := c.d.def_ 10 (d := dd_law_between) rfl
  obtain ⟨fd_law_number, F_law_number⟩ := c.d.def_ 11 (d := dd_law_number) rfl
  obtain ⟨fd_law_alignment, F_law_alignment⟩ := c.d.def_ 12 (d := dd_law_alignment) rfl
  obtain ⟨fd_law_long, F_law_long⟩ := c.d.def_ 13 (d := dd_law_long) rfl
  obtain ⟨fd_law_integer, F_law_integer⟩ := c.d.def_ 14 (d := dd_law_integer) rfl
  obtain ⟨fd_law_chars, F_law_chars⟩ := c.d.def_ 15 (d := dd_law_chars) rfl
  obtain ⟨fd_law_text, F_law_text⟩ := c.d.def_ 16 (d := dd_law_text) rfl
  obtain ⟨fd_law_plain, F_law_plain⟩ := c.d.def_ 17 (d := dd_law_plain) rfl
  obtain ⟨fd_law_not_integer, F_law_not_integer⟩ := c.d.def_ 18 (d := dd_law_not_integer) rfl
  obtain ⟨fd_law_is_int, F_law_is_int⟩ := c.d.def_ 19 (d := dd_law_is_int) rfl
  obtain ⟨fd_law_is_ints, F_law_is_ints⟩ := c.d.def_ 20 (d := dd_law_is_ints) rfl
  obtain ⟨fd_law_same, F_law_same⟩ := c.d.def_ 21 (d := dd_law_same) rfl
  obtain ⟨fd_law_copy, F_law_copy⟩ := c.d.def_ 22 (d := dd_law_copy) rfl
  obtain ⟨fd_law_is_span, F_law_is_span⟩ := c.d.def_ 23 (d := dd_law_is_span) rfl
  obtain ⟨fd_law_span, F_law_span⟩ := c.d.def_ 24 (d := dd_law_span) rfl
  obtain ⟨fd_law_span_pair, F_law_span_pair⟩ := c.d.def_ 25 (d := dd_law_span_pair) rfl
  obtain ⟨fd_law_no_span, F_law_no_span⟩ := c.d.def_ 26 (d := dd_law_no_span) rfl
  obtain ⟨fd_law_kinds, F_law_kinds⟩ := c.d.def_ 27 (d := dd_law_kinds) rfl
  obtain ⟨fd_law_refused, F_law_refused⟩ := c.d.def_ 28 (d := dd_law_refused) rfl
  obtain ⟨fd_law_asked, F_law_asked⟩ := c.d.def_ 29 (d := dd_law_asked) rfl
  obtain ⟨fd_law_lies_in, F_law_lies_in⟩ := c.d.def_ 30 (d := dd_law_lies_in) rfl
  obtain ⟨fd_law_meet_right, F_law_meet_right⟩ := c.d.def_ 31 (d := dd_law_meet_right) rfl
  obtain ⟨fd_law_pair_right, F_law_pair_right⟩ := c.d.def_ 32 (d := dd_law_pair_right) rfl
  obtain ⟨fd_law_refused_right, F_law_refused_right⟩ := c.d.def_ 33 (d := dd_law_refused_right) rfl
  obtain ⟨fd_law_judged_right, F_law_judged_right⟩ := c.d.def_ 34 (d := dd_law_judged_right) rfl
  obtain ⟨fd_law, F_law⟩ := c.d.def_ 35 (d := dd_law) rfl
  obtain ⟨fd_BadValue, F_BadValue⟩ := c.d.def_ 36 (d := dd_BadValue) rfl
  exact ⟨{ fd_is_whole := fd_is_whole, F_is_whole := F_is_whole, g_is_whole := He.glo_ok X G (c.d.fact 0 (f := .glo "is_whole") rfl), fd_need := fd_need, F_need := F_need, g_need := He.glo_ok X G (c.d.fact 1 (f := .glo "need") rfl), fd_is_span := fd_is_span, F_is_span := F_is_span, g_is_span := He.glo_ok X G (c.d.fact 2 (f := .glo "is_span") rfl), fd_end_of := fd_end_of, F_end_of := F_end_of, g_end_of := He.glo_ok X G (c.d.fact 3 (f := .glo "end_of") rfl), fd_meet := fd_meet, F_meet := F_meet, g_meet := He.glo_ok X G (c.d.fact 4 (f := .glo "meet") rfl), fd_overlap := fd_overlap, F_overlap := F_overlap, g_overlap := He.glo_ok X G (c.d.fact 5 (f := .glo "overlap") rfl), fd_law_draws := fd_law_draws, F_law_draws := F_law_draws, g_law_draws := He.glo_ok X G (c.d.fact 6 (f := .glo "_law_draws") rfl), fd_law_next_cell := fd_law_next_cell, F_law_next_cell := F_law_next_cell, g_law_next_cell := He.glo_ok X G (c.d.fact 7 (f := .glo "_law_next_cell") rfl), fd_law_mixed := fd_law_mixed, F_law_mixed := F_law_mixed, g_law_mixed := He.glo_ok X G (c.d.fact 8 (f := .glo "_law_mixed") rfl), fd_law_take := fd_law_take, F_law_take := F_law_take, g_law_take := He.glo_ok X G (c.d.fact 9 (f := .glo "_law_take") rfl), fd_law_between := fd_law_between, F_law_between := F_law_between, g_law_between := He.glo_ok X G (c.d.fact 10 (f := .glo "_law_between") rfl), fd_law_number := fd_law_number, F_law_number := F_law_number, g_law_number := He.glo_ok X G (c.d.fact 11 (f := .glo "_law_number") rfl), fd_law_alignment := fd_law_alignment, F_law_alignment := F_law_alignment, g_law_alignment := He.glo_ok X G (c.d.fact 12 (f := .glo "_law_alignment") rfl), fd_law_long := fd_law_long, F_law_long := F_law_long, g_law_long := He.glo_ok X G (c.d.fact 13 (f := .glo "_law_long") rfl), fd_law_integer := fd_law_integer, F_law_integer := F_law_integer, g_law_integer := He.glo_ok X G (c.d.fact 14 (f := .glo "_law_integer") rfl), fd_law_chars := fd_law_chars, F_law_chars := F_law_chars, g_law_chars := He.glo_ok X G (c.d.fact 15 (f := .glo "_law_chars") rfl), fd_law_text := fd_law_text, F_law_text := F_law_text, g_law_text := He.glo_ok X G (c.d.fact 16 (f := .glo "_law_text") rfl), fd_law_plain := fd_law_plain, F_law_plain := F_law_plain, g_law_plain := He.glo_ok X G (c.d.fact 17 (f := .glo "_law_plain") rfl), fd_law_not_integer := fd_law_not_integer, F_law_not_integer := F_law_not_integer, g_law_not_integer := He.glo_ok X G (c.d.fact 18 (f := .glo "_law_not_integer") rfl), fd_law_is_int := fd_law_is_int, F_law_is_int := F_law_is_int, g_law_is_int := He.glo_ok X G (c.d.fact 19 (f := .glo "_law_is_int") rfl), fd_law_is_ints := fd_law_is_ints, F_law_is_ints := F_law_is_ints, g_law_is_ints := He.glo_ok X G (c.d.fact 20 (f := .glo "_law_is_ints") rfl), fd_law_same := fd_law_same, F_law_same := F_law_same, g_law_same := He.glo_ok X G (c.d.fact 21 (f := .glo "_law_same") rfl), fd_law_copy := fd_law_copy, F_law_copy := F_law_copy, g_law_copy := He.glo_ok X G (c.d.fact 22 (f := .glo "_law_copy") rfl), fd_law_is_span := fd_law_is_span, F_law_is_span := F_law_is_span, g_law_is_span := He.glo_ok X G (c.d.fact 23 (f := .glo "_law_is_span") rfl), fd_law_span := fd_law_span, F_law_span := F_law_span, g_law_span := He.glo_ok X G (c.d.fact 24 (f := .glo "_law_span") rfl), fd_law_span_pair := fd_law_span_pair, F_law_span_pair := F_law_span_pair, g_law_span_pair := He.glo_ok X G (c.d.fact 25 (f := .glo "_law_span_pair") rfl), fd_law_no_span := fd_law_no_span, F_law_no_span := F_law_no_span, g_law_no_span := He.glo_ok X G (c.d.fact 26 (f := .glo "_law_no_span") rfl), fd_law_kinds := fd_law_kinds, F_law_kinds := F_law_kinds, g_law_kinds := He.glo_ok X G (c.d.fact 27 (f := .glo "_law_kinds") rfl), fd_law_refused := fd_law_refused, F_law_refused := F_law_refused, g_law_refused := He.glo_ok X G (c.d.fact 28 (f := .glo "_law_refused") rfl), fd_law_asked := fd_law_asked, F_law_asked := F_law_asked, g_law_asked := He.glo_ok X G (c.d.fact 29 (f := .glo "_law_asked") rfl), fd_law_lies_in := fd_law_lies_in, F_law_lies_in := F_law_lies_in, g_law_lies_in := He.glo_ok X G (c.d.fact 30 (f := .glo "_law_lies_in") rfl), fd_law_meet_right := fd_law_meet_right, F_law_meet_right := F_law_meet_right, g_law_meet_right := He.glo_ok X G (c.d.fact 31 (f := .glo "_law_meet_right") rfl), fd_law_pair_right := fd_law_pair_right, F_law_pair_right := F_law_pair_right, g_law_pair_right := He.glo_ok X G (c.d.fact 32 (f := .glo "_law_pair_right") rfl), fd_law_refused_right := fd_law_refused_right, F_law_refused_right := F_law_refused_right, g_law_refused_right := He.glo_ok X G (c.d.fact 33 (f := .glo "_law_refused_right") rfl), fd_law_judged_right := fd_law_judged_right, F_law_judged_right := F_law_judged_right, g_law_judged_right := He.glo_ok X G (c.d.fact 34 (f := .glo "_law_judged_right") rfl), fd_law := fd_law, F_law := F_law, g_law := He.glo_ok X G (c.d.fact 35 (f := .glo "law") rfl), c_MOST_PLACE := He.int_ok X G (c.d.fact 36 (f := .int "MOST_PLACE" 1000000000) rfl), g_BadLine := He.glo_ok X G (c.d.fact 37 (f := .glo "BadLine") rfl), g_BadValue := He.glo_ok X G (c.d.fact 38 (f := .glo "BadValue") rfl), g_Broken := He.glo_ok X G (c.d.fact 39 (f := .glo "Broken") rfl), g_Cut := He.glo_ok X G (c.d.fact 40 (f := .glo "Cut") rfl), g_Fault := He.glo_ok X G (c.d.fact 41 (f := .glo "Fault") rfl), g_NoRoom := He.glo_ok X G (c.d.fact 42 (f := .glo "NoRoom") rfl), g_NotHeld := He.glo_ok X G (c.d.fact 43 (f := .glo "NotHeld") rfl), g_StoreError := He.glo_ok X G (c.d.fact 44 (f := .glo "StoreError") rfl), g_Unknown := He.glo_ok X G (c.d.fact 45 (f := .glo "Unknown") rfl), z_ValueError := He.free_ok X G (c.d.fact 46 (f := .free "ValueError") rfl), z_bool := He.free_ok X G (c.d.fact 47 (f := .free "bool") rfl), z_dict := He.free_ok X G (c.d.fact 48 (f := .free "dict") rfl), z_int := He.free_ok X G (c.d.fact 49 (f := .free "int") rfl), z_isinstance := He.free_ok X G (c.d.fact 50 (f := .free "isinstance") rfl), z_len := He.free_ok X G (c.d.fact 51 (f := .free "len") rfl), z_list := He.free_ok X G (c.d.fact 52 (f := .free "list") rfl), z_max := He.free_ok X G (c.d.fact 53 (f := .free "max") rfl), z_min := He.free_ok X G (c.d.fact 54 (f := .free "min") rfl), z_range := He.free_ok X G (c.d.fact 55 (f := .free "range") rfl), z_str := He.free_ok X G (c.d.fact 56 (f := .free "str") rfl), z_tuple := He.free_ok X G (c.d.fact 57 (f := .free "tuple") rfl), fd_BadValue := fd_BadValue, F_BadValue := F_BadValue, x_BadValue := oexB_ok (c.ex 0 (e := fun K => oexB K (He.ga K "BadValue")) rfl), i_BadValue := of_decide_eq_true (c.ex 1 (e := fun K => decide (PySem.W.findIn K (.ref (He.ga K "BadValue")) "__init__" = some (some (.ref (He.ma K (He.ga K "BadValue") "__init__"))))) rfl), t_BadValue := of_decide_eq_true (c.ex 2 (e := fun K => decide (PySem.W.typeIn K (.ref (He.ma K (He.ga K "BadValue") "__init__")) = some (.type "function"))) rfl), n_BadValue_parameter := of_decide_eq_true (c.ex 3 (e := fun K => decide (PySem.W.findIn K (.ref (He.ga K "BadValue")) "parameter" = some none)) rfl), n_BadValue_told := of_decide_eq_true (c.ex 4 (e := fun K => decide (PySem.W.findIn K (.ref (He.ga K "BadValue")) "told" = some none)) rfl), f_BadValue := xfB_ok (c.ex 5 (e := fun K => xfB K (He.ga K "BadValue")) rfl), d_BadValue := excdB_ok (c.ex 6 (e := fun K => excdB K (He.ga K "BadValue")) rfl), m_BadValue := of_decide_eq_true (c.ex 7 (e := fun K => decide (PySem.W.exmOne K (.ref (He.ga K "BadValue")) (.ref (He.ga K "BadValue")) = some true)) rfl), k_ValueError := of_decide_eq_true (c.ex 8 (e := fun K => decide (PySem.W.kitOne K (.ref (He.ga K "BadValue")) (.type "ValueError") = some true)) rfl), k_StoreError := of_decide_eq_true (c.ex 9 (e := fun K => decide (PySem.W.kitOne K (.ref (He.ga K "BadValue")) (.ref (He.ga K "StoreError")) = some true)) rfl), k_BadValue := of_decide_eq_true (c.ex 10 (e := fun K => decide (PySem.W.kitOne K (.ref (He.ga K "BadValue")) (.ref (He.ga K "BadValue")) = some true)) rfl), k_Broken := of_decide_eq_true (c.ex 11 (e := fun K => decide (PySem.W.kitOne K (.ref (He.ga K "BadValue")) (.ref (He.ga K "Broken")) = some false)) rfl), k_Unknown := of_decide_eq_true (c.ex 12 (e := fun K => decide (PySem.W.kitOne K (.ref (He.ga K "BadValue")) (.ref (He.ga K "Unknown")) = some false)) rfl), k_NotHeld := of_decide_eq_true (c.ex 13 (e := fun K => decide (PySem.W.kitOne K (.ref (He.ga K "BadValue")) (.ref (He.ga K "NotHeld")) = some false)) rfl), k_Fault := of_decide_eq_true (c.ex 14 (e := fun K => decide (PySem.W.kitOne K (.ref (He.ga K "BadValue")) (.ref (He.ga K "Fault")) = some false)) rfl), k_NoRoom := of_decide_eq_true (c.ex 15 (e := fun K => decide (PySem.W.kitOne K (.ref (He.ga K "BadValue")) (.ref (He.ga K "NoRoom")) = some false)) rfl), k_Cut := of_decide_eq_true (c.ex 16 (e := fun K => decide (PySem.W.kitOne K (.ref (He.ga K "BadValue")) (.ref (He.ga K "Cut")) = some false)) rfl), k_BadLine := of_decide_eq_true (c.ex 17 (e := fun K => decide (PySem.W.kitOne K (.ref (He.ga K "BadValue")) (.ref (He.ga K "BadLine")) = some false)) rfl) }⟩
theorem facts {P : Program} {w : World} {K : PySem.W.Frag} {h : Heap} {mg : Str → Option Value} {f : Addr} (X : K.In h) (G : h.Ns mainGlobals mg) (hfa : mg ("law" : Str) = some (.ref f)) (c : SaysY fa fn (fun K => exs.all fun e => e K) K) :
    ∃ fd : FuncData, (∀ (s : Shared) (v : Value), BindsTo s fd ⟨[v], []⟩ [("_law_script", v)]) ∧ ∀ base : Heap, K.In base → base.Ns mainGlobals mg → FnOk P w K mg base CX0 13 f fd ["_law_script"] (sp_law K) := by
  obtain ⟨T⟩ := tx_of X G c
  have e := hfa.symm.trans T.g_law
  cases e
  have b := FunD.bindsA (ps := ["_law_script"]) T.F_law fun _ _ _ _ _ _ us hl => match us, hl with | [_], _ => rfl
  exact ⟨T.fd_law, fun s v => b s [v] rfl, fun base _ _ => ok_law T⟩
end K01
open PySem PySem.W PySem.Calls PyProof.Rows
set_option maxHeartbeats 0 in
theorem PySem.Challenge.cw_allgivenback_k01_span_meet_holds : PySem.Challenge.rw_allgivenback_k01_span_meet.Holds := by
  w_on; o_law
  refine HandSHeadRun.head_any (r := OpenLaw.row PySem.Challenge.rw_allgivenback_k01_span_meet) (q := view (OpenLaw.row PySem.Challenge.rw_allgivenback_k01_span_meet).prog [49]) (H := K01.hk) (ob := K01.ob) (M := 4000) (loose := K01.names) (d := HandSHeadRun.topDef (OpenLaw.row PySem.Challenge.rw_allgivenback_k01_span_meet).prog 49) (kwd := []) K01.ob_eq
    (by kernel_rfl) (fun s => by kernel_rfl) K01.run (by kernel_rfl) (by kernel_rfl) (by kernel_rfl) (by rfl) (by first | assumption | decide +kernel) (by decide +kernel) ⟨rfl, rfl, rfl, rfl, rfl, by decide +kernel⟩ ?hw ?hc
  case hw => w_witness2
  case hc =>
    refine L2.walk_ofE (l := PySem.Challenge.rw_allgivenback_k01_span_meet) (n := 63) (k := 13) (x := "_law_script") (CX := L2.CX0) rfl (by decide) (by kernel_rfl) ⟨rfl, by decide, by decide⟩ ?F (fun _ _ _ _ z => z)
    intro w mg fa h Y G hmg0
    obtain ⟨K, KX, c⟩ := Y
    have hmg : mg ("law" : PySem.Str) = some (.ref fa) := by
      have e : (HandSHeadRun.topDef (OpenLaw.row PySem.Challenge.rw_allgivenback_k01_span_meet).prog 49).name = ("law" : PySem.Str) := by kernel_rfl
      rw [← e]
      exact hmg0
    obtain ⟨fd, hb, hF⟩ := K01.facts (P := (PySem.Challenge.rw_allgivenback_k01_span_meet).prog) (w := w) KX G hmg c
    exact ⟨K, fd, K01.sp_law K, KX, hb, fun H a ns hl _ hS => ⟨a, ns, rfl, hS, Nat.le_trans hl (by decide), fun _ => rfl⟩, hF⟩

