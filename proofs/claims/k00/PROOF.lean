import PyProof.Rows.All
import Wide.All
import OpenK.AllK
import Wide.FinOn
import HandS.ForExc
import HandS.Defaults
import HandS.Dict
import HandS.Comp
import HandS.Wide
import HandS.WideBits
import HandS.IsInst
import HandS.More
import HandS.WordsDict
import HandS.Text
import HandS.HeadHook1
import HandS.HeadHook2
import KE.KExcIs
import HandS.ExcInit
import HandS.ExcField
import HandS.HotCalls
import KE.KStateDown
import Lean
import HandS.Head0
import HandS.Head1
import HandS.Head2
import HandS.HeadEnd
import PySem.Challenge.RW_allgivenback_k00_align
set_option Elab.async false
set_option linter.all false
set_option maxRecDepth 100000
set_option maxHeartbeats 4000000
namespace LL
open PySem PySem.Spec PyProof.Rows L2
section
variable {CX : CXT} {P : Program} {w : World} {K : PySem.W.Frag} {mg : Str → Option Value} {base : Heap} {N : List Str} {q : Str} {sc : Scope} {f : Addr} {cd : Value} {A : Around} {outer : List Env} {s : Shared} {H : Hp} {E : XK}
theorem cxK0 : (cxOf CX P w K mg base N q sc f cd A outer s H E).nox.K = K := rfl
theorem cxK1 : (cxOf CX P w K mg base N q sc f cd A outer s H E).K = K := rfl
end
theorem dec_eq {p : Prop} [Decidable p] : (decide p = true) = p := by simp
theorem bl_inj {a b : Bool} : (V.bl a = V.bl b) = (a = b) := by simp
theorem if_dec {p A B : Prop} [Decidable p] : (if decide p = true then A else B) = (if p then A else B) := by by_cases h : p <;> simp [h]
/-- what is told of a value that is written next to ∃ -/
theorem ex_eq {α : Sort _} {p : α → Prop} {a : α} : (∃ x, a = x ∧ p x) = p a := by simp
theorem ex_eq' {α : Sort _} {p : α → Prop} {a : α} : (∃ x, x = a ∧ p x) = p a := by simp

/-! ### heaps: all but s is kept -/
def Kp (s : Addr) (H H' : Hp) : Prop := ∀ b o, b ≠ s → H b = some o → H' b = some o
theorem Kp.refl {s : Addr} {H : Hp} : Kp s H H := fun _ _ _ h => h
theorem Kp.trans {s : Addr} {H H1 H2 : Hp} (a : Kp s H H1) (b : Kp s H1 H2) : Kp s H H2 := fun c o n h => b c o n (a c o n h)
theorem Kp.same {s : Addr} {H H' : Hp} (h : Same H H') : Kp s H H' := fun b o _ e => h b o e
theorem Kp.new {s : Addr} {H H1 : Hp} {p : Addr} {o : HO} (a : Kp s H H1) (n : H1 p = none) : Kp s H (upd H1 p o) := fun b u hb e => by
  have e1 := a b u hb e
  rw [upd_ne (ne_of_none e1 n)]
  exact e1
theorem Kp.at_ {s : Addr} {H H1 : Hp} {o : HO} (a : Kp s H H1) : Kp s H (upd H1 s o) := fun b u hb e => by
  rw [upd_ne hb]
  exact a b u hb e
/-- a thing that was not there at the start is changed -/
theorem Kp.own {s : Addr} {H H1 : Hp} {p : Addr} {o : HO} (a : Kp s H H1) (n : H p = none) : Kp s H (upd H1 p o) := fun b u hb e => by
  rw [upd_ne (ne_of_none e n)]
  exact a b u hb e
theorem Same.new {H H1 : Hp} {p : Addr} {o : HO} (a : Same H H1) (n : H1 p = none) : Same H (upd H1 p o) := fun b u e => by
  have e1 := a b u e
  rw [upd_ne (ne_of_none e1 n)]
  exact e1
theorem Same.own {H H1 : Hp} {p : Addr} {o : HO} (a : Same H H1) (n : H p = none) : Same H (upd H1 p o) := fun b u e => by
  rw [upd_ne (ne_of_none e n)]
  exact a b u e
theorem Kp.free {s : Addr} {H H' : Hp} (a : Kp s H H') {p : Addr} (hp : p ≠ s) (n : H' p = none) : H p = none := by
  cases e : H p with
  | none => rfl
  | some o =>
    rw [a p o hp e] at n
    cases n

/-! ### the draws -/
/-- the five numbers of the draws' state -/
def StAt (s : Addr) (H : Hp) : Prop := ∃ i v k t g : Int, 0 ≤ i ∧ H s = some (.lst [.int i, .int v, .int k, .int t, .int g])
structure Drw (d s : Addr) (H : Hp) : Prop where
  cs : ∃ c, H d = some (.lst [.ref c, .ref s]) ∧ c ≠ s ∧ ∃ ns : List Int, H c = some (.lst (ns.map V.int))
  st : StAt s H
  ds : d ≠ s
theorem Drw.kp {d s : Addr} {H H' : Hp} (D : Drw d s H) (k : Kp s H H') (st : StAt s H') : Drw d s H' := by
  obtain ⟨c, h1, h2, ns, h3⟩ := D.cs
  exact ⟨⟨c, k _ _ D.ds h1, h2, ns, k _ _ h2 h3⟩, st, D.ds⟩
/-- what a def that draws leaves: the draws are drawn on, all else is kept -/
structure Aft (d s : Addr) (H H' : Hp) : Prop where
  kp : Kp s H H'
  dr : Drw d s H'
theorem Aft.trans {d s : Addr} {H H1 H2 : Hp} (a : Aft d s H H1) (b : Aft d s H1 H2) : Aft d s H H2 := ⟨a.kp.trans b.kp, b.dr⟩
theorem Aft.refl {d s : Addr} {H : Hp} (D : Drw d s H) : Aft d s H H := ⟨.refl, D⟩
theorem Drw.same {d s : Addr} {H H' : Hp} (D : Drw d s H) (k : Same H H') : Drw d s H' := by
  obtain ⟨i, v, kk, t, g, h0, h1⟩ := D.st
  exact D.kp (.same k) ⟨i, v, kk, t, g, h0, k _ _ h1⟩
theorem Aft.new {d s : Addr} {H H1 : Hp} {p : Addr} {o : HO} (a : Aft d s H H1) (n : H1 p = none) : Aft d s H (upd H1 p o) :=
  ⟨a.kp.new n, a.dr.same (Same.new (Same.refl _) n)⟩

/-! ### small readings -/
theorem use_ixL {K : PySem.W.Frag} {p : Addr} {xs : List V} {i : Int} {v : V} {H : Hp} {Q : VK} (h : H p = some (.lst xs)) (e : atI xs i = some v) (q : Q v H) : rIxL K (.ref p) (.int i) H Q := ⟨p, xs, i, v, rfl, rfl, SqL.of h, e, q⟩
theorem use_ixT {K : PySem.W.Frag} {p : Addr} {xs : List V} {i : Int} {v : V} {H : Hp} {Q : VK} (h : H p = some (.tup xs)) (e : atI xs i = some v) (q : Q v H) : rIxT K (.ref p) (.int i) H Q := ⟨p, xs, i, v, rfl, rfl, SqT.of h, e, q⟩
theorem use_setL {p : Addr} {xs : List V} {k : Int} {j : Nat} {v : V} {H : Hp} {Q : Hp → Prop} (h : H p = some (.lst xs)) (e : ixN xs.length k = some j) (q : Q (upd H p (.lst (xs.set j v)))) : rSetL (.ref p) (.int k) v H Q := ⟨p, xs, k, j, rfl, rfl, h, e, q⟩
theorem Aft.st {d s : Addr} {H : Hp} (D : Drw d s H) {i v k t g : Int} (h0 : 0 ≤ i) : Aft d s H (upd H s (.lst [.int i, .int v, .int k, .int t, .int g])) :=
  have k1 : Kp s H (upd H s (.lst [.int i, .int v, .int k, .int t, .int g])) := Kp.refl.at_
  ⟨k1, D.kp k1 ⟨i, v, k, t, g, h0, upd_same⟩⟩
theorem Aft.st2 {d s : Addr} {H H1 : Hp} (a : Aft d s H H1) {i v k t g : Int} (h0 : 0 ≤ i) : Aft d s H (upd H1 s (.lst [.int i, .int v, .int k, .int t, .int g])) := a.trans (Aft.st a.dr h0)
theorem atI_cons0 {α : Type} {x : α} {xs : List α} : atI (x :: xs) 0 = some x := atI_nat (j := 0) rfl
theorem atI_int {xs : List Int} {i : Int} (h0 : 0 ≤ i) (h : i < (xs.map V.int).length) : ∃ n, atI (xs.map V.int) i = some (V.int n) := by
  obtain ⟨j, rfl⟩ := Int.eq_ofNat_of_zero_le h0
  have hj : j < (xs.map V.int).length := by omega
  have hj2 : j < xs.length := by rw [List.length_map] at hj; exact hj
  refine ⟨xs[j], atI_nat ?_⟩
  rw [List.getElem?_map, List.getElem?_eq_getElem hj2]
  rfl
/-! ### calls of built-ins, by ints and lists alone -/
section
variable {X : Cx}
def rInt1 : List V → Hp → VK → Prop := fun xs H Q => ∃ i, xs = [.int i] ∧ Q (.int i) H
theorem call_intI : CallR X (.type "int") rInt1 := fun pins s σ H xs us Q I r h => call_int1 pins s σ H xs us Q I r (.inl h)
def rLenL : List V → Hp → VK → Prop := fun vs H Q => ∃ p xs, vs = [.ref p] ∧ H p = some (.lst xs) ∧ Q (.int xs.length) H
theorem call_lenL : CallR X (.builtin "len") rLenL := fun pins s σ H vs us Q I r h => by
  obtain ⟨p, xs, rfl, e, q⟩ := h
  exact call_len_seq pins s σ H _ us Q I r ⟨p, xs, rfl, .inl (SqL.of e), q⟩
def rLenT : List V → Hp → VK → Prop := fun vs H Q => ∃ p xs, vs = [.ref p] ∧ H p = some (.tup xs) ∧ Q (.int xs.length) H
theorem call_lenT : CallR X (.builtin "len") rLenT := fun pins s σ H vs us Q I r h => by
  obtain ⟨p, xs, rfl, e, q⟩ := h
  exact call_len_seq pins s σ H _ us Q I r ⟨p, xs, rfl, .inr (SqT.of e), q⟩
end
theorem use_lenL {p : Addr} {xs : List V} {H : Hp} {Q : VK} (h : H p = some (.lst xs)) (q : Q (.int xs.length) H) : rLenL [.ref p] H Q := ⟨p, xs, rfl, h, q⟩
theorem use_lenT {p : Addr} {xs : List V} {H : Hp} {Q : VK} (h : H p = some (.tup xs)) (q : Q (.int xs.length) H) : rLenT [.ref p] H Q := ⟨p, xs, rfl, h, q⟩
/-! ### loops -/
theorem use_forL {K : PySem.W.Frag} {te : TE} {a : Addr} {xs : List V} {g : TG} {tb : TS} {D : Ends} {σ : L2.St} {H : Hp} (ht : ∀ Q : VK, Q (.ref a) H → te σ H Q) (Pv : Nat → L2.St → Hp → Prop) (h0 : Pv 0 σ H) (hl : ∀ i σ H, i ≤ xs.length → Pv i σ H → SqL K H a xs)
    (hs : ∀ i x σ H, xs[i]? = some x → Pv i σ H → g x σ H fun σ2 H2 => tb { D with nx := Pv (i + 1), ct := Pv (i + 1), bk := D.nx } σ2 H2) (hd : ∀ σ H, Pv xs.length σ H → D.nx σ H) : tFor (iList K te) g tb D σ H :=
  ht _ ⟨a, rfl, ⟨xs, hl 0 σ H (Nat.zero_le _) h0⟩, for_list Pv h0 hl hs hd⟩
theorem use_forR {te : TE} {j : Int} {g : TG} {tb : TS} {D : Ends} {σ : L2.St} {H : Hp} (ht : ∀ Q : VK, Q (.int j) H → te σ H Q) (h1 : j < 2 ^ 62) (h2 : -(2 ^ 62) ≤ j) (Pv : Nat → L2.St → Hp → Prop) (h0 : Pv 0 σ H)
    (hs : ∀ i σ H, i < j.toNat → Pv i σ H → g (.int (0 + (i : Int))) σ H fun σ2 H2 => tb { D with nx := Pv (i + 1), ct := Pv (i + 1), bk := D.nx } σ2 H2) (hd : ∀ σ H, Pv j.toNat σ H → D.nx σ H) : tFor (iRng1 (tCons te tNil)) g tb D σ H :=
  ht _ ⟨j, rfl, h2, h1, for_range Pv h0 hs hd⟩
theorem use_while {c : TT} {tb : TS} {D : Ends} {σ : L2.St} {H : Hp} (Pv : Nat → L2.St → Hp → Prop) (m0 : Nat) (h0 : Pv m0 σ H)
    (hs : ∀ m σ H, Pv m σ H → c σ H fun b H1 => if b = true then ∃ N : L2.St → Hp → Prop, (∀ σ' H', N σ' H' → ∃ m', m' < m ∧ Pv m' σ' H') ∧ tb { D with nx := N, ct := N, bk := D.nx } σ H1 else D.nx σ H1) : tWhile c tb D σ H := ⟨Pv, ⟨m0, h0⟩, hs⟩
theorem use_forRX {te : TE} {g : TG} {tb : TS} {D : Ends} {σ : L2.St} {H : Hp} {R : Int → Hp → Prop} (ht : ∀ Q : VK, (∀ j H', R j H' → Q (.int j) H') → te σ H Q) (hb : ∀ j H', R j H' → -(2 ^ 62) ≤ j ∧ j < 2 ^ 62) (Pv : Int → Nat → L2.St → Hp → Prop) (h0 : ∀ j H', R j H' → Pv j 0 σ H')
    (hs : ∀ j i σ H, i < j.toNat → Pv j i σ H → g (.int (0 + (i : Int))) σ H fun σ2 H2 => tb { D with nx := Pv j (i + 1), ct := Pv j (i + 1), bk := D.nx } σ2 H2) (hd : ∀ j σ H, Pv j j.toNat σ H → D.nx σ H) : tFor (iRng1 (tCons te tNil)) g tb D σ H :=
  ht _ fun j H' r => ⟨j, rfl, (hb j H' r).1, (hb j H' r).2, for_range (Pv j) (h0 j H' r) (hs j) (hd j)⟩
theorem use_forLX {K : PySem.W.Frag} {te : TE} {g : TG} {tb : TS} {D : Ends} {σ : L2.St} {H : Hp} {R : Addr → List V → Hp → Prop} (ht : ∀ Q : VK, (∀ a xs H', R a xs H' → Q (.ref a) H') → te σ H Q) (Pv : Addr → List V → Nat → L2.St → Hp → Prop) (h0 : ∀ a xs H', R a xs H' → Pv a xs 0 σ H')
    (hl : ∀ a xs i σ H, i ≤ xs.length → Pv a xs i σ H → SqL K H a xs)
    (hs : ∀ a xs i x σ H, xs[i]? = some x → Pv a xs i σ H → g x σ H fun σ2 H2 => tb { D with nx := Pv a xs (i + 1), ct := Pv a xs (i + 1), bk := D.nx } σ2 H2) (hd : ∀ a xs σ H, Pv a xs xs.length σ H → D.nx σ H) : tFor (iList K te) g tb D σ H :=
  ht _ fun a xs H' r => ⟨a, rfl, ⟨xs, hl a xs 0 σ H' (Nat.zero_le _) (h0 a xs H' r)⟩, for_list (Pv a xs) (h0 a xs H' r) (hl a xs) (hs a xs) (hd a xs)⟩
/-! ### plain data -/
inductive T where
  | non | bl (b : Bool) | int (i : Int) | str (x : Str) | lst (ts : List T) | tup (ts : List T) | dic (t : T)
/-! v is the data t, every object of which is at an address of F -/
mutual
def Dt (F : Addr → Prop) (H : Hp) : V → T → Prop
  | v, .non => v = .non
  | v, .bl b => v = .bl b
  | v, .int i => v = .int i
  | v, .str x => v = .str x
  | v, .lst ts => ∃ a xs, v = .ref a ∧ F a ∧ H a = some (.lst xs) ∧ DtL F H xs ts ∧ ts.length ≤ 100000
  | v, .tup ts => ∃ a xs, v = .ref a ∧ F a ∧ H a = some (.tup xs) ∧ DtL F H xs ts ∧ ts.length ≤ 100000
  | v, .dic t => ∃ a x, v = .ref a ∧ F a ∧ H a = some (.dK [(Sum.inr "a", x)]) ∧ Dt F H x t
def DtL (F : Addr → Prop) (H : Hp) : List V → List T → Prop
  | xs, [] => xs = []
  | xs, t :: ts => ∃ v vs, xs = v :: vs ∧ Dt F H v t ∧ DtL F H vs ts
end
mutual
def dep : T → Nat
  | .lst ts => depL ts + 1
  | .tup ts => depL ts + 1
  | .dic t => dep t + 1
  | _ => 0
def depL : List T → Nat
  | [] => 0
  | t :: ts => max (dep t) (depL ts)
end
section
variable {F G : Addr → Prop} {H H' : Hp}
mutual
theorem Dt.imp (hF : ∀ a o, F a → H a = some o → G a ∧ H' a = some o) : ∀ {v : V} (t : T), Dt F H v t → Dt G H' v t
  | _, .non, h => h
  | _, .bl _, h => h
  | _, .int _, h => h
  | _, .str _, h => h
  | _, .lst ts, h => by
    obtain ⟨a, xs, e, f, ha, hx, hz⟩ := h
    exact ⟨a, xs, e, (hF a _ f ha).1, (hF a _ f ha).2, DtL.imp hF ts hx, hz⟩
  | _, .tup ts, h => by
    obtain ⟨a, xs, e, f, ha, hx, hz⟩ := h
    exact ⟨a, xs, e, (hF a _ f ha).1, (hF a _ f ha).2, DtL.imp hF ts hx, hz⟩
  | _, .dic t, h => by
    obtain ⟨a, x, e, f, ha, hx⟩ := h
    exact ⟨a, x, e, (hF a _ f ha).1, (hF a _ f ha).2, Dt.imp hF t hx⟩
theorem DtL.imp (hF : ∀ a o, F a → H a = some o → G a ∧ H' a = some o) : ∀ {xs : List V} (ts : List T), DtL F H xs ts → DtL G H' xs ts
  | _, [], h => h
  | _, t :: ts, h => by
    obtain ⟨v, vs, e, h1, h2⟩ := h
    exact ⟨v, vs, e, Dt.imp hF t h1, DtL.imp hF ts h2⟩
end
theorem Dt.same {v : V} {t : T} (h : Dt F H v t) (k : Same H H') : Dt F H' v t := Dt.imp (fun a o f e => ⟨f, k a o e⟩) t h
theorem DtL.same {v : List V} {t : List T} (h : DtL F H v t) (k : Same H H') : DtL F H' v t := DtL.imp (fun a o f e => ⟨f, k a o e⟩) t h
theorem Dt.kp {s : Addr} {v : V} {t : T} (h : Dt F H v t) (hs : ∀ a, F a → a ≠ s) (k : Kp s H H') : Dt F H' v t := Dt.imp (fun a o f e => ⟨f, k a o (hs a f) e⟩) t h
theorem DtL.kp {s : Addr} {v : List V} {t : List T} (h : DtL F H v t) (hs : ∀ a, F a → a ≠ s) (k : Kp s H H') : DtL F H' v t := DtL.imp (fun a o f e => ⟨f, k a o (hs a f) e⟩) t h
theorem Dt.to {v : V} {t : T} (h : Dt F H v t) (hs : ∀ a, F a → G a) : Dt G H v t := Dt.imp (fun a o f e => ⟨hs a f, e⟩) t h
theorem DtL.to {v : List V} {t : List T} (h : DtL F H v t) (hs : ∀ a, F a → G a) : DtL G H v t := DtL.imp (fun a o f e => ⟨hs a f, e⟩) t h
theorem DtL.len : ∀ {xs : List V} (ts : List T), DtL F H xs ts → xs.length = ts.length
  | _, [], h => by rw [show _ = [] from h]; rfl
  | _, t :: ts, h => by
    obtain ⟨v, vs, rfl, h1, h2⟩ := h
    rw [List.length_cons, List.length_cons, DtL.len ts h2]
theorem DtL.get : ∀ {xs : List V} (ts : List T) {i : Nat} {x : V}, DtL F H xs ts → xs[i]? = some x → ∃ t, ts[i]? = some t ∧ Dt F H x t
  | _, [], _, _, h, e => by rw [show _ = [] from h] at e; cases e
  | _, t :: ts, 0, x, h, e => by
    obtain ⟨v, vs, rfl, h1, h2⟩ := h
    cases e
    exact ⟨t, rfl, h1⟩
  | _, t :: ts, i + 1, x, h, e => by
    obtain ⟨v, vs, rfl, h1, h2⟩ := h
    exact DtL.get ts (i := i) h2 e
theorem DtL.get' {xs : List V} {ts : List T} {i : Nat} {t : T} (h : DtL F H xs ts) (e : ts[i]? = some t) : ∃ x, xs[i]? = some x ∧ Dt F H x t := by
  have hi := (List.getElem?_eq_some_iff.mp e).1
  have hx : i < xs.length := by rw [DtL.len ts h]; exact hi
  obtain ⟨t', e', d⟩ := DtL.get ts h (List.getElem?_eq_getElem hx)
  rw [e] at e'
  cases e'
  exact ⟨_, List.getElem?_eq_getElem hx, d⟩
theorem DtL.app : ∀ {xs ys : List V} (ts : List T) {us : List T}, DtL F H xs ts → DtL F H ys us → DtL F H (xs ++ ys) (ts ++ us)
  | _, _, [], _, h, k => by rw [show _ = [] from h]; exact k
  | _, _, t :: ts, _, h, k => by
    obtain ⟨v, vs, rfl, h1, h2⟩ := h
    exact ⟨v, vs ++ _, rfl, h1, DtL.app ts h2 k⟩
theorem DtL.one {v : V} {t : T} (h : Dt F H v t) : DtL F H [v] [t] := ⟨v, [], rfl, h, rfl⟩
theorem DtL.cons {v : V} {t : T} {vs : List V} {ts : List T} (h : Dt F H v t) (k : DtL F H vs ts) : DtL F H (v :: vs) (t :: ts) := ⟨v, vs, rfl, h, k⟩
theorem depL_mem : ∀ {ts : List T} {i : Nat} {t : T}, ts[i]? = some t → dep t ≤ depL ts
  | [], _, _, e => by cases e
  | u :: ts, 0, t, e => by
    cases e
    exact Nat.le_max_left _ _
  | u :: ts, i + 1, t, e => Nat.le_trans (depL_mem (ts := ts) (i := i) e) (Nat.le_max_right _ _)
end
/-! ### what kind of data it is -/
def tyN : T → String
  | .non => "NoneType"
  | .bl _ => "bool"
  | .int _ => "int"
  | .str _ => "str"
  | .lst _ => "list"
  | .tup _ => "tuple"
  | .dic _ => "dict"
theorem tyx {K : PySem.W.Frag} {F : Addr → Prop} {H : Hp} {v : V} {t : T} (h : Dt F H v t) : TyX K H v (.type (tyN t)) := by
  cases t with
  | non => rw [show v = _ from h]; exact .base .non
  | bl b => rw [show v = _ from h]; exact .base (.bl b)
  | int i => rw [show v = _ from h]; exact .base (.int i)
  | str x => rw [show v = _ from h]; exact .base (.str x)
  | lst ts =>
    obtain ⟨a, xs, rfl, _, e, _⟩ := h
    exact .base (.lst e)
  | tup ts =>
    obtain ⟨a, xs, rfl, _, e, _⟩ := h
    exact .base (.tup e)
  | dic t =>
    obtain ⟨a, x, rfl, _, e, _⟩ := h
    exact .base (.dK e)
theorem use_isi {K : PySem.W.Frag} {F : Addr → Prop} {H : Hp} {v : V} {t : T} {n : String} {b : Bool} {Q : VK} (h : Dt F H v t) (k : kitB (tyN t) n = some b) (q : Q (.bl b) H) : rIsi K [v, .ty n] H Q :=
  ⟨v, .ty n, _, _, b, rfl, .ty n, tyx h, kit_ty k, q⟩
def isInt : T → Bool
  | .int _ => true
  | _ => false
def isBl : T → Bool
  | .bl _ => true
  | _ => false
def isStr : T → Bool
  | .str _ => true
  | _ => false
def isLst : T → Bool
  | .lst _ => true
  | _ => false
def isTup : T → Bool
  | .tup _ => true
  | _ => false
def isDic : T → Bool
  | .dic _ => true
  | _ => false
theorem kit_int (t : T) : kitB (tyN t) "int" = some (isInt t || isBl t) := by
  cases t <;> simp only [tyN, isInt, isBl, isStr, isLst, isTup, isDic] <;> decide +kernel
theorem kit_bool (t : T) : kitB (tyN t) "bool" = some (isBl t) := by
  cases t <;> simp only [tyN, isInt, isBl, isStr, isLst, isTup, isDic] <;> decide +kernel
theorem kit_str (t : T) : kitB (tyN t) "str" = some (isStr t) := by
  cases t <;> simp only [tyN, isInt, isBl, isStr, isLst, isTup, isDic] <;> decide +kernel
theorem kit_list (t : T) : kitB (tyN t) "list" = some (isLst t) := by
  cases t <;> simp only [tyN, isInt, isBl, isStr, isLst, isTup, isDic] <;> decide +kernel
theorem kit_tuple (t : T) : kitB (tyN t) "tuple" = some (isTup t) := by
  cases t <;> simp only [tyN, isInt, isBl, isStr, isLst, isTup, isDic] <;> decide +kernel
theorem kit_dict (t : T) : kitB (tyN t) "dict" = some (isDic t) := by
  cases t <;> simp only [tyN, isInt, isBl, isStr, isLst, isTup, isDic] <;> decide +kernel
section
variable {X : Cx}
/-- len of a list, a tuple, a dict -/
def rLenD : List V → Hp → VK → Prop := fun vs H Q => ∃ p kvs, vs = [.ref p] ∧ H p = some (.dK kvs) ∧ Q (.int kvs.length) H
def rLenA : List V → Hp → VK → Prop := fun vs H Q => rLenL vs H Q ∨ rLenT vs H Q ∨ rLenD vs H Q
theorem call_lenA : CallR X (.builtin "len") rLenA := fun pins s σ H vs us Q I r h => by
  rcases h with h | h | h
  · exact call_lenL pins s σ H vs us Q I r h
  · exact call_lenT pins s σ H vs us Q I r h
  · obtain ⟨p, kvs, rfl, e, q⟩ := h
    exact call_lenD pins s σ H _ us Q I r ⟨p, kvs, rfl, e, q⟩
/-- list(d), a dict -/
def rLstD : List V → Hp → VK → Prop := fun vs H Q => ∃ p kvs, vs = [.ref p] ∧ H p = some (.dK kvs) ∧ ∀ l, H l = none → Q (.ref l) (upd H l (.lst (kvs.map fun kv => kV kv.1)))
theorem call_lstD (hc : X.calm = true) : CallR X (.type "list") rLstD := fun pins s σ H vs us Q I r h => by
  obtain ⟨p, kvs, rfl, e, q⟩ := h
  exact call_listD hc pins s σ H _ us Q I r ⟨p, kvs, rfl, .inl e, q⟩
/-- tuple(list) -/
def rTupL : List V → Hp → VK → Prop := fun vs H Q => ∃ p ys, vs = [.ref p] ∧ H p = some (.lst ys) ∧ ∀ l, H l = none → Q (.ref l) (upd H l (.tup ys))
theorem call_tupL : CallR X (.type "tuple") rTupL := fun pins s σ H vs us Q I r h => by
  obtain ⟨p, ys, rfl, e, q⟩ := h
  exact call_tuple_of pins s σ H _ us Q I r ⟨p, ys, rfl, .inl ⟨SqL.of e, q⟩⟩
/-- xs[i], a list or a tuple -/
def rIxA (K : PySem.W.Frag) : R2 := fun x y H Q => rIxL K x y H Q ∨ rIxT K x y H Q
theorem ix_A : IxR X (rIxA X.K) := ix_list.or ix_tup
end
theorem use_pick {K : PySem.W.Frag} {p : Addr} {xs : List V} {i : Int} {H : Hp} {Q : VK} (h : H p = some (.lst xs)) (h0 : 0 ≤ i) (h1 : i < xs.length) (q : ∀ x ∈ xs, Q x H) : rIxL K (.ref p) (.int i) H Q := by
  obtain ⟨j, rfl⟩ := Int.eq_ofNat_of_zero_le h0
  have hj : j < xs.length := by omega
  exact use_ixL h (atI_nat (List.getElem?_eq_getElem hj)) (q _ (List.getElem_mem hj))
section
variable {X : Cx}
def rMx : List V → Hp → VK → Prop := fun vs H Q => ∃ i j, vs = [.int i, .int j] ∧ Q (.int (max i j)) H
def rMn : List V → Hp → VK → Prop := fun vs H Q => ∃ i j, vs = [.int i, .int j] ∧ Q (.int (min i j)) H
theorem call_mx (hc : X.calm = true) : CallR X (.builtin "max") rMx := fun pins s σ H vs us Q I r h => by
  obtain ⟨i, j, rfl, q⟩ := h
  refine call_max2 hc pins s σ H _ us Q I r ⟨i, j, rfl, ?_⟩
  have e : (if j > i then j else i) = max i j := by omega
  rw [e]
  exact q
theorem call_mn (hc : X.calm = true) : CallR X (.builtin "min") rMn := fun pins s σ H vs us Q I r h => by
  obtain ⟨i, j, rfl, q⟩ := h
  refine call_min2 hc pins s σ H _ us Q I r ⟨i, j, rfl, ?_⟩
  have e : (if j < i then j else i) = min i j := by omega
  rw [e]
  exact q
end
theorem freshS {s : Addr} {H : Hp} {o : HO} (h : H s = some o) : ∀ a, H a = none → a ≠ s := fun a e z => by
  rw [z, h] at e
  cases e
theorem StAt.ne {s : Addr} {H : Hp} (h : StAt s H) : ∀ a, H a = none → a ≠ s := by
  obtain ⟨_, _, _, _, _, _, e⟩ := h
  exact freshS e
theorem Drw.ne {d s : Addr} {H : Hp} (h : Drw d s H) : ∀ a, H a = none → a ≠ s := h.st.ne
theorem Aft.free {d s : Addr} {H H' : Hp} (a : Aft d s H H') {b : Addr} (n : H' b = none) : H b = none := a.kp.free (a.dr.ne b n) n
theorem use_forT {K : PySem.W.Frag} {te : TE} {a : Addr} {xs : List V} {g : TG} {tb : TS} {D : Ends} {σ : L2.St} {H : Hp} (ht : ∀ Q : VK, Q (.ref a) H → te σ H Q) (Pv : Nat → L2.St → Hp → Prop) (h0 : Pv 0 σ H) (hl : ∀ i σ H, i ≤ xs.length → Pv i σ H → SqT K H a xs)
    (hs : ∀ i x σ H, xs[i]? = some x → Pv i σ H → g x σ H fun σ2 H2 => tb { D with nx := Pv (i + 1), ct := Pv (i + 1), bk := D.nx } σ2 H2) (hd : ∀ σ H, Pv xs.length σ H → D.nx σ H) : tFor (iTup K te) g tb D σ H :=
  ht _ ⟨a, rfl, ⟨xs, hl 0 σ H (Nat.zero_le _) h0⟩, for_tup Pv h0 hl hs hd⟩
theorem scal_int {a b : Int} : (scal (V.int a) (V.int b) = true) = True := by simp [scal]
theorem scal_bl {a b : Bool} : (scal (V.bl a) (V.bl b) = true) = True := by simp [scal]
theorem scal_str {a b : Str} : (scal (V.str a) (V.str b) = true) = True := by simp [scal]
theorem scal_is {a : Int} {b : Str} : (scal (V.str b) (V.int a) = true) = True := by simp [scal]
theorem ty_list {K : PySem.W.Frag} {p : Addr} {xs : List V} {H : Hp} (h : H p = some (.lst xs)) : tyV K "list" (.ref p) H := Or.inl ⟨rfl, _, Or.inl (Or.inl h)⟩
theorem use_append {l : Addr} {xs : List V} {y : V} {H : Hp} {Q : VK} (h : H l = some (.lst xs)) (n : xs.length < sizeLine) (q : Q .non (upd H l (.lst (xs ++ [y])))) : rAppend (.ref l) [y] H Q := ⟨l, xs, y, rfl, rfl, h, n, q⟩
theorem small_sz {n : Nat} (h : n ≤ 200000) : n < sizeLine := Nat.lt_of_le_of_lt h (by decide)
/-- a list at D that is being made gets one more datum -/
theorem grow {G : Addr → Prop} {H H' H4 : Hp} {D : Addr} {acc : List V} {us : List T} {r : V} {t : T} (hD : H D = none) (s1 : Same H H') (s4 : Same H' H4) (hacc : DtL (fun a => H a = none ∧ a ≠ D) H' acc us) (hG : ∀ a, G a → H a = none ∧ a ≠ D) (dr : Dt G H4 r t) :
    Same H (upd H4 D (.lst (acc ++ [r]))) ∧ DtL (fun a => H a = none ∧ a ≠ D) (upd H4 D (.lst (acc ++ [r]))) (acc ++ [r]) (us ++ [t]) := by
  refine ⟨Same.own (s1.trans s4) hD, DtL.app _ (DtL.imp (fun a o fa ea => ⟨fa, ?_⟩) _ hacc) (.one (Dt.imp (fun a o fa ea => ⟨hG a fa, ?_⟩) _ dr))⟩
  · rw [upd_ne fa.2]
    exact s4 _ _ ea
  · rw [upd_ne (hG a fa).2]
    exact ea
theorem new_of {H H' : Hp} {D : Addr} {o : HO} (s1 : Same H H') (eD : H' D = some o) : ∀ a, H' a = none → H a = none ∧ a ≠ D := fun a n => ⟨s1.free n, fun z => by rw [z, eD] at n; cases n⟩
theorem take_one {α : Type} {l : List α} {i : Nat} {x : α} (h : l[i]? = some x) : l.take (i + 1) = l.take i ++ [x] := by
  rw [List.take_add_one, h]
  rfl
theorem use_lcR {te tel : TE} {g : TG} {vs : List Nat} {σ : L2.St} {H : Hp} {Q : VK} {R : Int → Hp → Prop} (ht : ∀ Q : VK, (∀ j H', R j H' → Q (.int j) H') → te σ H Q) (hb : ∀ j H', R j H' → -(2 ^ 62) ≤ j ∧ j < 2 ^ 62) (Pv : Int → Addr → Nat → Hp → Prop)
    (h0 : ∀ j H' D, R j H' → H' D = none → Pv j D 0 (upd H' D (.lst [])))
    (hs : ∀ j D i H', i < j.toNat → Pv j D i H' → g (.int (0 + (i : Int))) (wipe σ vs) H' fun σ2 H2 => wipe σ2 vs = wipe σ vs ∧ tYes σ2 H2 fun b H3 => if b = true then tel σ2 H3 fun y H4 => ∃ acc, H4 D = some (.lst acc) ∧ acc.length < sizeLine ∧ Pv j D (i + 1) (upd H4 D (.lst (acc ++ [y]))) else Pv j D (i + 1) H3)
    (hd : ∀ j D H', Pv j D j.toNat H' → Q (.ref D) H') : tLc (iRng1 (tCons te tNil)) g tYes tel vs σ H Q :=
  ht _ fun j H' r => ⟨j, rfl, (hb j H' r).1, (hb j H' r).2, fun D hD => lc_range (Pv j D) (h0 j H' D r hD) (hs j D) (hd j D)⟩
theorem Aft.own {d s : Addr} {H H4 : Hp} {D : Addr} {o : HO} (D0 : Drw d s H) (a : Aft d s H H4) (hD : H D = none) : Aft d s H (upd H4 D o) := by
  have k : Kp s H (upd H4 D o) := a.kp.own hD
  obtain ⟨i, v, kk, t, g, h0, e⟩ := a.dr.st
  exact ⟨k, D0.kp k ⟨i, v, kk, t, g, h0, by rw [upd_ne (D0.ne D hD).symm]; exact e⟩⟩
/-- a list at D that is being made while something is drawn gets one more datum -/
theorem growA {G : Addr → Prop} {d s : Addr} {H H' H4 : Hp} {D : Addr} {acc : List V} {us : List T} {r : V} {t : T} (D0 : Drw d s H) (hD : H D = none) (a1 : Aft d s H H') (a4 : Aft d s H' H4) (hacc : DtL (fun a => H a = none ∧ a ≠ D) H' acc us) (hG : ∀ a, G a → H a = none ∧ a ≠ D) (dr : Dt G H4 r t) :
    Aft d s H (upd H4 D (.lst (acc ++ [r]))) ∧ DtL (fun a => H a = none ∧ a ≠ D) (upd H4 D (.lst (acc ++ [r]))) (acc ++ [r]) (us ++ [t]) := by
  refine ⟨Aft.own D0 (a1.trans a4) hD, DtL.app _ (DtL.imp (fun a o fa ea => ⟨fa, ?_⟩) _ hacc) (.one (Dt.imp (fun a o fa ea => ⟨hG a fa, ?_⟩) _ dr))⟩
  · rw [upd_ne fa.2]
    exact a4.kp _ _ (D0.ne a fa.1) ea
  · rw [upd_ne (hG a fa).2]
    exact ea
theorem new_ofA {d s : Addr} {H H' : Hp} {D : Addr} {o : HO} (a : Aft d s H H') (eD : H' D = some o) : ∀ b, H' b = none → H b = none ∧ b ≠ D := fun b n => ⟨a.free n, fun z => by rw [z, eD] at n; cases n⟩
theorem depL_app : ∀ (ts us : List T), depL (ts ++ us) = max (depL ts) (depL us)
  | [], us => by simp [depL]
  | t :: ts, us => by
    show max (dep t) (depL (ts ++ us)) = max (max (dep t) (depL ts)) (depL us)
    rw [depL_app ts us]
    omega
end LL

namespace LL
open PySem PySem.Spec PyProof.Rows L2 L2H
/-! ### defs that are called within an except suite, on the exception that it holds -/
/-- a: the exception, D its class, dd its dict -/
structure FnZ (P : Program) (w : World) (K : PySem.W.Frag) (mg : Str → Option Value) (base : Heap) (k : Nat) (f : Addr) (fd : FuncData) (ps : List Str) (sp : Addr → Addr → Addr → Sp) : Prop where
  len : ∀ a D dd vs H Q E, sp a D dd vs H Q E → vs.length = ps.length
  run : ∀ (A : Around) (outer : List Env) (s : Shared) (H : Hp) (args : Args) (us : List Value) (vs : List V) (Q : VK) (E : XK) (p : Addr × Obj) (D dd : Addr),
    RoomH k A → Zc (.ref D) (some dd) p.2 → (∃ fs, p.2.data = .fields fs) → PinOk outer H s p → Env0 P w K mg base A outer s H → BindsTo s fd args (ps.zip us) → Vals vs us → sp p.1 D dd vs H Q E →
    codeAny (model P w) A (.call (.ref f) args) (CR CX0 outer P w H s Q E) s
section
variable {P : Program} {w : World} {K : PySem.W.Frag} {mg : Str → Option Value} {base : Heap} {k : Nat} {f : Addr} {fd : FuncData} {N ps : List Str} {sp : Addr → Addr → Addr → Sp} {x qual : Str} {pa : Arguments} {bd : List Stmt} {sc : Scope} {kws : List (Str × V)}
theorem okZ (F : FunD K x qual pa bd sc [] kws f fd) (S : FnScope N ps sc) (len : ∀ a D dd vs H Q E, sp a D dd vs H Q E → vs.length = ps.length)
    (hb : ∀ (cdv : Value) (A : Around) (outer : List Env) (s : Shared) (H : Hp) (vs : List V) (Q : VK) (E : XK) (p : Addr × Obj) (D dd : Addr), RoomH k (A.deeper (envOfC qual sc s.heap.objs.size f cdv)) →
      Zc (.ref D) (some dd) p.2 → (∃ fs, p.2.data = .fields fs) → sp p.1 D dd vs H Q E →
      ∃ t, PSs (cxH CX0 P w K mg base N qual sc f cdv A outer s H E p) bd t ∧ t { nx := fun _ H' => Q .non H', rt := Q } (L2.start N vs) H) : FnZ P w K mg base (k + 1) f fd ps sp := by
  obtain ⟨oc, od, dV, kV, doc, pm, an, cdv, ct, osl, rfl, lk, hcd, _, _⟩ := F.ex
  constructor
  · exact len
  · intro A outer s H args us vs Q E p D dd hr hz hf hpin e0 hbi r hsp
    have KX : K.In s.heap := e0.mod.kin.keeps (fun b o e => (e0.bs b o e).1)
    have lim : s.heap.NoLimit := e0.mod.nolimit.keeps (fun b o e => (e0.bs b o e).1)
    have hl : vs.length = ps.length := len _ _ _ _ _ _ _ hsp
    refine codeAny_call_function hr.depth (KX _ _ lk) rfl S.co S.gen rfl (PySem.W.codeRec_of KX hcd) (hbi _ _ _ _ (wpAny_newFunctionEnv_cells S.kind ?_ ?_))
    · rintro ⟨n, v⟩ hy
      cases S.par n (List.of_mem_zip hy).1 with
      | inl q => exact Or.inl q
      | inr q => exact Or.inr ⟨q, PySem.W.cellsFrom_some _ _ _ (Or.inl q)⟩
    · rintro env he s1 xx
      subst he
      obtain ⟨t, ht, hq⟩ := hb cdv A outer s H vs Q E p D dd (hr.deeper _) hz hf hsp
      have I := inv_startH (CX := CX0) (E := E) S hpin e0 hl r xx
      refine ⟨lim.keeps xx.toInCall.keep, codeAny_func (wpAny_mono (ht.run [] s1 _ H _ I hq) ?_ (fun e s' hs => hs))⟩
      intro fl s' hs
      cases fl with
      | ret u =>
        obtain ⟨v, σ', H', J, rv, q⟩ := hs
        exact ⟨v, H', J.os, J.bare, J.base, J.hok, rv, q⟩
      | next =>
        obtain ⟨σ', H', J, q⟩ := hs
        exact ⟨.non, H', J.os, J.bare, J.base, J.hok, rfl, q⟩
      | brk =>
        obtain ⟨_, _, _, q⟩ := hs
        exact q.elim
      | cont =>
        obtain ⟨_, _, _, q⟩ := hs
        exact q.elim
end
/-- f(e, ..) within the suite that holds the exception a -/
def tCallZ (cls : Value) (d : Option Addr) (a : Addr) (sp : Addr → Addr → Addr → Sp) (t : TA) : TE := fun σ H Q => t σ H fun vs H1 => ∃ D dd : Addr, cls = .ref D ∧ d = some dd ∧ sp a D dd vs H1 Q E0
theorem pe_callZ {X : Cx} {k : Nat} {f a : Addr} {fd : FuncData} {ps : List Str} {sp : Addr → Addr → Addr → Sp} {x : Str} {q pos : Pos} {e : Expr} {es : List Expr} {t : TA} {oe : Obj} {cls : Value} {d : Option Addr} {pn : List (Addr × Obj)}
    (F : FnZ X.prog X.w X.K X.mg X.base k f fd ps sp) (hr : Room k X.A) (hz : Zc cls d oe) (hf : ∃ fs, oe.data = .fields fs) (hg : Gl X x) (hm : X.mg x = some (.ref f)) (hk : PySem.W.keepIn X.K (.ref f) = true) (hb : Binds X.K fd ps [])
    (ha : PA (X.suite a ((a, oe) :: pn)) (e :: es) t) (hdb : (x == ("__debug__" : Str)) = false := by decide) (he : starEach (e :: es) X.env = (false, eval e X.env) :: starEach es X.env := by rfl) (hpl : (backTo pos (starEach es X.env)).any (·.1) = false := by rfl) :
    PE (X.suite a ((a, oe) :: pn)) (.Call (.Name x q) (e :: es) [] pos) (tCallZ cls d a sp t) := by
  refine ⟨fun pins s σ H Q I h => ?_⟩
  refine wpAny_Call_Name_kw (ld_glob (X := X.suite a ((a, oe) :: pn)) I hg hm ?_ hdb)
  refine PySem.W.callWith_K (h₀ := X.base) I.ok.mod.kin hk (thn (ha.run pos pins s σ H _ I h) ?_) he hpl
  rintro us s1 ⟨vs, H1, I1, r, D, dd, e1, e2, q1⟩
  subst e1 e2
  refine ⟨I1.kIn, ?_⟩
  have hl : us.length = ps.length := r.length.symm.trans (F.len _ _ _ _ _ _ _ q1)
  have b := hb s1 us I1.kIn (by rw [List.append_nil]; exact hl)
  rw [List.append_nil] at b
  obtain ⟨g1, g2, g3, g4, g5⟩ := I1.pin (a, oe) (List.mem_append.mpr (.inl List.mem_cons_self))
  have hpin : PinOk X.stack H1 s1 (a, oe) := ⟨g1, g2, fun hm => (List.mem_cons.mp (I1.stkSub a hm)).elim g3 g4, g5⟩
  refine wpAny_call (codeAny_mono (F.run (X.A.mark (some (.ref a))) X.stack s1 H1 ⟨us, []⟩ us vs Q E0 (a, oe) D dd ⟨hr.dp, hr.un⟩ hz hf hpin I1.env0 b r q1) ?_)
  intro r2 s2 hq
  cases r2 with
  | error e3 => exact hq.elim
  | ok fl =>
    cases fl with
    | ret u => exact I1.after hq
    | next => exact hq.elim
    | brk => exact hq.elim
    | cont => exact hq.elim
/-- what an exception class must say, that isinstance asks its instances rightly -/
structure ExcD (K : PySem.W.Frag) (D : Addr) : Prop where
  hc : (PySem.W.clsIn K D).isSome = true
  hg : PySem.W.findIn K (.ref D) "__getattribute__" = some (some (.builtin "BaseException.__getattribute__"))
  hk : PySem.W.findIn K (.ref D) "__getattr__" = some none
  hs : PySem.W.subIn K (.ref D) (.type "BaseException") = some true
  ha : PySem.W.findIn K (.ref D) "__class__" = some (some (.builtin "object.__class__"))
  hn : PySem.W.specialIn K (.builtin "object.__class__") "__get__" = some (some (.builtin "getset_descriptor.__get__"))
  ht : PySem.W.takesIn K (.builtin "object.__class__") = some true
  hm : PySem.W.mroIn K D (.type "object") = some true
def excdB (K : PySem.W.Frag) (D : Addr) : Bool := (PySem.W.clsIn K D).isSome && (decide (PySem.W.findIn K (.ref D) "__getattribute__" = some (some (.builtin "BaseException.__getattribute__"))) && (decide (PySem.W.findIn K (.ref D) "__getattr__" = some none) &&
  (decide (PySem.W.subIn K (.ref D) (.type "BaseException") = some true) && (decide (PySem.W.findIn K (.ref D) "__class__" = some (some (.builtin "object.__class__"))) && (decide (PySem.W.specialIn K (.builtin "object.__class__") "__get__" = some (some (.builtin "getset_descriptor.__get__"))) &&
  (decide (PySem.W.takesIn K (.builtin "object.__class__") = some true) && decide (PySem.W.mroIn K D (.type "object") = some true)))))))
theorem excdB_ok {K : PySem.W.Frag} {D : Addr} (h : excdB K D = true) : ExcD K D := by
  obtain ⟨h1, h⟩ := Bool.and_eq_true_iff.mp h
  obtain ⟨h2, h⟩ := Bool.and_eq_true_iff.mp h
  obtain ⟨h3, h⟩ := Bool.and_eq_true_iff.mp h
  obtain ⟨h4, h⟩ := Bool.and_eq_true_iff.mp h
  obtain ⟨h5, h⟩ := Bool.and_eq_true_iff.mp h
  obtain ⟨h6, h⟩ := Bool.and_eq_true_iff.mp h
  obtain ⟨h7, h8⟩ := Bool.and_eq_true_iff.mp h
  exact ⟨h1, of_decide_eq_true h2, of_decide_eq_true h3, of_decide_eq_true h4, of_decide_eq_true h5, of_decide_eq_true h6, of_decide_eq_true h7, of_decide_eq_true h8⟩
/-- isinstance(e, c), e the exception -/
def rIsX (K : PySem.W.Frag) (a D dd : Addr) : List V → Hp → VK → Prop := fun xs H Q => ∃ (c : V) (cv : Value) (b : Bool) (fs : List (Str × V)), xs = [.ref a, c] ∧ ClsV c cv ∧ PySem.W.kitOne K (.ref D) cv = some b ∧ H dd = some (.xd fs) ∧ Q (.bl b) H
theorem call_isX {X : Cx} {p : Addr × Obj} {D dd : Addr} (hp : p ∈ X.pn) (C : ExcD X.K D) (hz : Zc (.ref D) (some dd) p.2) (hf : ∃ fs, p.2.data = .fields fs) : CallR X (.builtin "isinstance") (rIsX X.K p.1 D dd) := by
  intro pins s σ H xs us Q I r h
  obtain ⟨c, cv, b, fs, rfl, hcv, e, hd, q⟩ := h
  obtain ⟨u1, u2, rfl, r1, r2⟩ := vals2 r
  cases (show u1 = Value.ref p.1 from r1)
  have e2 := hcv.eq r2
  subst e2
  obtain ⟨hget, _⟩ := I.pin p (List.mem_append_left _ hp)
  have hx : ObjOk X.prog X.w H s.heap dd (.xd fs) := I.hok dd _ hd
  obtain ⟨mA, ⟨od, es, ep, ho, hr⟩, _⟩ := hx
  obtain ⟨vs, hv⟩ := hf
  have J : PySem.W.InstAt s.heap p.1 p.2 D (some od) := ⟨hget, hz.1, by unfold PySem.W.notCls; rw [hv] <;> rfl, by rw [hz.2]; exact ho⟩
  exact PySem.W.kia_one (PySem.W.kitx_exc C.hc C.hg C.hk C.hs C.ha C.hn C.ht C.hm) I.kIn J e (fun z => nomatch z) fun tk => ⟨.bl b, H, I.tok tk, rfl, q⟩
/-- what the written part says of an exception class with its own __init__, as a Bool -/
def oexB (K : PySem.W.Frag) (C : Addr) : Bool := (match K.lookup C with
    | some ⟨.type "type", _, .cls cd, sl⟩ => (match cd.mro, sl.toList with
      | .ref C' :: bm, [_, _, _, _, some (.builtin n), _] => decide (C' = C) && (decide (n = "ValueError.__new__") && (!cd.hasDel && (cd.hasDict && PySem.HandSPX.refsVE bm)))
      | _, _ => false)
    | _ => false) && (decide (PySem.W.findIn K (.ref C) "__setattr__" = some (some (.builtin "object.__setattr__"))) && (decide (PySem.W.subIn K (.ref C) (.type "BaseException") = some true) &&
  (decide (PySem.W.typeIn K (.ref C) = some (.type "type")) && PySem.W.keepIn K (.ref C))))
theorem oexB_ok {K : PySem.W.Frag} {C : Addr} (h : oexB K C = true) : OexC K C := by
  obtain ⟨h1, h⟩ := Bool.and_eq_true_iff.mp h
  obtain ⟨h2, h⟩ := Bool.and_eq_true_iff.mp h
  obtain ⟨h3, h⟩ := Bool.and_eq_true_iff.mp h
  obtain ⟨h4, h5⟩ := Bool.and_eq_true_iff.mp h
  refine ⟨?_, of_decide_eq_true h2, of_decide_eq_true h3, of_decide_eq_true h4, h5⟩
  split at h1
  · rename_i dd cd sl ho
    split at h1
    · rename_i C' bm k0 k1 k2 k3 n k5 hm hs
      simp only [Bool.and_eq_true, decide_eq_true_eq, Bool.not_eq_true'] at h1
      obtain ⟨rfl, rfl, hdel, hdct, hr⟩ := h1
      obtain ⟨nm, bs, mro, ns, qn, hd, sn, sub, ab, col, del⟩ := cd
      dsimp only at hm hdel hdct
      subst hm hdel hdct
      have hsl : sl = #[k0, k1, k2, k3, some (.builtin "ValueError.__new__"), k5] := by
        obtain ⟨l⟩ := sl
        dsimp only at hs
        rw [hs]
      subst hsl
      exact ⟨nm, qn, ns, bs, bm, sn, sub, ab, col, dd, k0, k1, k2, k3, k5, ho, hr⟩
    · cases h1
  · cases h1
theorem passR {X : Cx} {W : WX} {E : XK} (tk : Takes X W) (hW : ∀ cls d σ H, E cls d H → W cls d σ H) : Passes (L2.CX X.prog X.w) X E := passes_call tk hW
end LL

namespace LL
open PySem PySem.Spec PyProof.Rows L2
/-! ### the head's facts, and one more Bool of the written part -/
abbrev AlY : Type := He.AlD × Bool
def obsY (n : Nat) (fa : List He.Fa) (fn : List He.DefD) (ex : PySem.W.Frag → Bool) (g : Addr → Option Obj) : AlY := (He.obsD fa fn (He.frG g (He.asD g n)), ex (He.frG g (He.asD g n)))
structure SaysY (fa : List He.Fa) (fn : List He.DefD) (ex : PySem.W.Frag → Bool) (K : PySem.W.Frag) : Prop where
  d : He.SaysD fa fn K
  x : ex K = true
def hookY (n : Nat) (fa : List He.Fa) (fn : List He.DefD) (ex : PySem.W.Frag → Bool) : PySem.W.Hook where
  α := AlY
  obs := fun s => obsY n fa fn ex s.heap.get?
  val := fun _ => (He.valD fn, true)
  says := fun _ h => ∃ K : PySem.W.Frag, K.In h ∧ SaysY fa fn ex K
  of := fun _ _ e => ⟨_, He.frG_in, ⟨congrArg (fun z : AlY => z.1) e, congrArg (fun z : AlY => z.2) e⟩⟩
  keeps := fun _ _ _ ⟨K, hK, c⟩ k => ⟨K, PySem.W.Frag.In.keeps hK k, c⟩
theorem obsY_eq {n : Nat} {fa : List He.Fa} {fn : List He.DefD} {ex : PySem.W.Frag → Bool} {g : Addr → Option Obj} {s : Shared} (h : ∀ a, g a = s.heap.get? a) : obsY n fa fn ex g = (hookY n fa fn ex).obs s := by
  have e : g = s.heap.get? := funext h
  rw [e]
  rfl
theorem SaysY.ex {fa : List He.Fa} {fn : List He.DefD} {exs : List (PySem.W.Frag → Bool)} {K : PySem.W.Frag} (c : SaysY fa fn (fun K => exs.all fun e => e K) K) (i : Nat) {e : PySem.W.Frag → Bool} (h : exs[i]? = some e := by rfl) : e K = true :=
  List.all_eq_true.mp c.x e (List.mem_of_getElem? h)
end LL

namespace LL
open PySem PySem.Spec PyProof.Rows L2 L2H
/-! ### exceptions as values -/
/-- C(e, ..), an own exception class whose __init__ keeps sp, as a value -/
def tMkV (C : Addr) (sp : Sp) (ta : TA) : TE := fun σ H Q => ta σ H fun vs H1 => vs.length ≤ 1000 ∧ ∀ a, H1 a = none → sp (.ref a :: vs) (upd H1 a (exo a C none)) (fun v H2 => v = .non ∧ Q (.ref a) H2) (fun _ _ _ => False)
section
variable {X : Cx} {e : Expr} {es : List Expr} {ta : TA} {p pos : Pos}
theorem pe_mkv {CX : CXT} {x : Str} {C fI : Addr} {k : Nat} {fd : FuncData} {ps : List Str} {sp : Sp} (T : OexC X.K C) (iC : PySem.W.findIn X.K (.ref C) "__init__" = some (some (.ref fI))) (tI : PySem.W.typeIn X.K (.ref fI) = some (.type "function"))
    (F1 : FnOk X.prog X.w X.K X.mg X.base CX k fI fd ps sp) (hr : Room (k + 1) X.A) (hb : Binds X.K fd ps []) (hx : Passes CX X (fun _ _ _ => False)) (hg : Gl X x) (hm : X.mg x = some (.ref C)) (ha : PA X (e :: es) ta)
    (hdb : (x == ("__debug__" : Str)) = false := by decide) (he : starEach (e :: es) X.env = (false, eval e X.env) :: starEach es X.env := by rfl) (hpl : (backTo pos (starEach es X.env)).any (·.1) = false := by rfl) :
    PE X (.Call (.Name x p) (e :: es) [] pos) (tMkV C sp ta) := by
  refine ⟨fun pins s σ H Q I h => ?_⟩
  obtain ⟨nm, q, N, bs, bm, sn, sub, ab, col, dd, k0, k1, k2, k3, k5, hC, hbm⟩ := T.cls
  refine wpAny_Call_Name_kw (ld_glob I hg hm ?_ hdb)
  refine PySem.W.callWith_K (h₀ := X.base) I.ok.mod.kin T.kC (thn (ha.run pos pins s σ H _ I h) fun us s1 ⟨vs, H1, I1, r1, hz, q1⟩ => ⟨I1.kIn, ?_⟩) he hpl
  show wpAny _ _ (call (.ref C) us) _ _ _
  obtain ⟨hp, g, dr, tk, os⟩ := s1
  have hsz : hp.objs.size ≤ hp.objs.size + 1 := Nat.le_succ _
  have hn : H1 (hp.objs.size + 1) = none := I1.hok.fresh hsz
  have hq := q1 (hp.objs.size + 1) hn
  have kk : ∀ b o, hp.get? b = some o → ((hp.push (PySem.W.kdv_tup us)).push (PySem.HandSPX.excO C hp.objs.size)).get? b = some o := fun b o e => Heap.get?_push_of_some _ (Heap.get?_push_of_some _ e)
  have hget : ((hp.push (PySem.W.kdv_tup us)).push (PySem.HandSPX.excO C hp.objs.size)).get? (hp.objs.size + 1) = some (PySem.HandSPX.excO C hp.objs.size) := by heap_get
  have I2 : Inv X pins σ (upd H1 (hp.objs.size + 1) (exo (hp.objs.size + 1) C none)) ⟨(hp.push (PySem.W.kdv_tup us)).push (PySem.HandSPX.excO C hp.objs.size), g, dr, tk, os⟩ :=
    I1.laid (t' := tk) (a := hp.objs.size + 1) (o := exo (hp.objs.size + 1) C none) (h' := (hp.push (PySem.W.kdv_tup us)).push (PySem.HandSPX.excO C hp.objs.size)) kk hsz (exo_ok hget)
  have r2 : Vals (V.ref (hp.objs.size + 1) :: vs) (Value.ref (hp.objs.size + 1) :: us) := .cons rfl r1
  have hl : (Value.ref (hp.objs.size + 1) :: us).length = ps.length := by
    have e := r2.length
    rw [F1.len _ _ _ _ hq] at e
    exact e.symm
  have hus : us.length ≤ sizeLine := by
    rw [← Paired.length r1, sizeLine_eq]
    omega
  have hb2 := hb ⟨(hp.push (PySem.W.kdv_tup us)).push (PySem.HandSPX.excO C hp.objs.size), g, dr, tk, os⟩ (Value.ref (hp.objs.size + 1) :: us) I2.kIn (by rw [List.append_nil]; exact hl)
  rw [List.append_nil] at hb2
  refine wpAny_call (PySem.HandSPX.call_own F.excBase_ValueError (fun Y => PySem.HandSPX.refsVE_contains Y bm hbm) (I1.kIn _ _ hC) (PySem.W.looks_findIn I1.kIn iC) (fun self => PySem.W.bind_fn I1.kIn self tI) hus
    (codeAny_mono (F1.run _ X.stack _ _ ⟨Value.ref (hp.objs.size + 1) :: us, []⟩ (Value.ref (hp.objs.size + 1) :: us) _ _ (fun _ _ _ => False) (hr.make C us []) (I2.env0.make C us []) hb2 r2 hq) fun r s' hq' => ?_))
  cases r with
  | error er => exact hx pins σ _ _ er s' I2 hq'
  | ok fl =>
    cases fl with
    | ret u =>
      obtain ⟨v, H2, os2, bare2, un2, hok2, rv, ev, q2⟩ := hq'
      subst ev
      have J := I2.call' (ch := []) os2 un2 hok2 bare2 (fun b z => absurd z (by simp))
      exact ⟨rv, ⟨V.ref (hp.objs.size + 1), H2, J, rfl, q2⟩⟩
    | next => exact False.elim hq'
    | brk => exact False.elim hq'
    | cont => exact False.elim hq'
end
/-- e.f, e an exception held as a value -/
def tXv (K : PySem.W.Frag) (f : Str) (te : TE) : TE := fun σ H Q => te σ H fun x H1 => ∃ (a C d : Addr) (fs : List (Str × V)) (v : V), x = .ref a ∧ H1 a = some (exo a C (some d)) ∧ H1 d = some (exd d fs) ∧ XfC K C ∧ PySem.W.findIn K (.ref C) f = some none ∧ fs.lookup f = some v ∧ Q v H1
theorem pe_xv {X : Cx} {e : Expr} {te : TE} {pos : Pos} {n : Str} (he : PE X e te) (hb : attributeBase e n X.env (eval e X.env) = eval e X.env := by rfl) : PE X (.Attribute e n pos) (tXv X.K n te) := by
  refine ⟨fun pins s σ H Q I h => ?_⟩
  refine attr_of hb (thn (he.run pins s σ H _ I h) fun u s1 hh => ?_)
  obtain ⟨x, H1, I1, rx, a, C, d, fs, v, ex, ea, ed, T, hno, l, q⟩ := hh
  subst ex
  obtain rfl : u = Value.ref a := rx
  obtain ⟨t1, ho⟩ := exo_at I1.hok ea
  obtain ⟨mA, hns, hr⟩ := exd_at I1.hok ed
  obtain ⟨od, hod, hl⟩ := lookIn_ns hns
  obtain ⟨u, hu, ru⟩ := RelO.some_of (v := v) (o := mA n) (by rw [← l]; exact hr n)
  have J : PySem.W.InstAt s1.heap a _ C (some od) := ⟨ho, rfl, rfl, hod⟩
  exact HandSPX.exc_get I1.kIn J T.ga T.gg T.exC (PySem.W.findObj_own T.hdC hno rfl (by rw [hl, hu])) (handed_of ru) ⟨v, H1, I1.tok _, ru, q⟩
/-- isinstance(e, c), e an exception held as a value -/
def rIsV (K : PySem.W.Frag) : List V → Hp → VK → Prop := fun xs H Q => ∃ (a C d : Addr) (c : V) (cv : Value) (b : Bool) (fs : List (Str × V)), xs = [.ref a, c] ∧ H a = some (exo a C (some d)) ∧ H d = some (exd d fs) ∧ ExcD K C ∧ ClsV c cv ∧ PySem.W.kitOne K (.ref C) cv = some b ∧ Q (.bl b) H
theorem call_isV {X : Cx} : CallR X (.builtin "isinstance") (rIsV X.K) := by
  intro pins s σ H xs us Q I r h
  obtain ⟨a, D, d, c, cv, b, fs, rfl, ea, ed, C, hcv, e, q⟩ := h
  obtain ⟨u1, u2, rfl, r1, r2⟩ := vals2 r
  cases (show u1 = Value.ref a from r1)
  have e2 := hcv.eq r2
  subst e2
  obtain ⟨t1, ho⟩ := exo_at I.hok ea
  obtain ⟨mA, ⟨od, es, ep, hod, hr⟩, _⟩ := exd_at I.hok ed
  have J : PySem.W.InstAt s.heap a _ D (some od) := ⟨ho, rfl, rfl, hod⟩
  exact PySem.W.kia_one (PySem.W.kitx_exc C.hc C.hg C.hk C.hs C.ha C.hn C.ht C.hm) I.kIn J e (fun z => nomatch z) fun tk => ⟨.bl b, H, I.tok tk, rfl, q⟩
/-! ### the eight classes -/
def kindsV (K : PySem.W.Frag) : List Value := [.ref (He.ga K "StoreError"), .type "ValueError", .ref (He.ga K "BadValue"), .ref (He.ga K "Broken"), .ref (He.ga K "Unknown"), .ref (He.ga K "NotHeld"), .ref (He.ga K "Fault"), .ref (He.ga K "NoRoom"), .ref (He.ga K "Cut"), .ref (He.ga K "BadLine")]
def bitsV (k : Nat) : List Bool := [true, true, decide (k = 0), decide (k = 1), decide (k = 2), decide (k = 3), decide (k = 4), decide (k = 5), decide (k = 6), decide (k = 7)]
def kindsOk (K : PySem.W.Frag) (C : Addr) (k : Nat) : Prop := (kindsV K).map (fun cv => PySem.W.kitOne K (.ref C) cv) = (bitsV k).map some
structure ExV (K : PySem.W.Frag) (n : Str) (fs : List Str) (k : Nat) : Prop where
  oex : OexC K (He.ga K n)
  ini : PySem.W.findIn K (.ref (He.ga K n)) "__init__" = some (some (.ref (He.ma K (He.ga K n) "__init__")))
  typ : PySem.W.typeIn K (.ref (He.ma K (He.ga K n) "__init__")) = some (.type "function")
  no : ∀ f ∈ ("told" : Str) :: fs, PySem.W.findIn K (.ref (He.ga K n)) f = some none
  xf : XfC K (He.ga K n)
  dd : ExcD K (He.ga K n)
  ks : kindsOk K (He.ga K n) k
def exvB (K : PySem.W.Frag) (n : Str) (fs : List Str) (k : Nat) : Bool := oexB K (He.ga K n) && (decide (PySem.W.findIn K (.ref (He.ga K n)) "__init__" = some (some (.ref (He.ma K (He.ga K n) "__init__")))) && (decide (PySem.W.typeIn K (.ref (He.ma K (He.ga K n) "__init__")) = some (.type "function")) &&
  (((("told" : Str) :: fs).all fun f => decide (PySem.W.findIn K (.ref (He.ga K n)) f = some none)) && (xfB K (He.ga K n) && (excdB K (He.ga K n) && decide ((kindsV K).map (fun cv => PySem.W.kitOne K (.ref (He.ga K n)) cv) = (bitsV k).map some))))))
theorem exvB_ok {K : PySem.W.Frag} {n : Str} {fs : List Str} {k : Nat} (h : exvB K n fs k = true) : ExV K n fs k := by
  obtain ⟨h1, h⟩ := Bool.and_eq_true_iff.mp h
  obtain ⟨h2, h⟩ := Bool.and_eq_true_iff.mp h
  obtain ⟨h3, h⟩ := Bool.and_eq_true_iff.mp h
  obtain ⟨h4, h⟩ := Bool.and_eq_true_iff.mp h
  obtain ⟨h5, h⟩ := Bool.and_eq_true_iff.mp h
  obtain ⟨h6, h7⟩ := Bool.and_eq_true_iff.mp h
  exact ⟨oexB_ok h1, of_decide_eq_true h2, of_decide_eq_true h3, fun f hf => of_decide_eq_true (List.all_eq_true.mp h4 f hf), xfB_ok h5, excdB_ok h6, by unfold kindsOk; exact of_decide_eq_true h7⟩
theorem ExV.kit {K : PySem.W.Frag} {n : Str} {fs : List Str} {k : Nat} (h : ExV K n fs k) {i : Nat} {cv : Value} {b : Bool} (h1 : (kindsV K)[i]? = some cv) (h2 : (bitsV k)[i]? = some b) : PySem.W.kitOne K (.ref (He.ga K n)) cv = some b := by
  have e := congrArg (fun l => l[i]?) h.ks
  simp only [List.getElem?_map, h1, h2, Option.map_some, Option.some.injEq] at e
  exact e
/-- an exception of the class n held as a value at a: its fields vs, and what it tells -/
def ExAt (K : PySem.W.Frag) (n title : Str) (fs : List Str) (a : Addr) (vs : List V) (H : Hp) : Prop := ∃ d p1 p2 : Addr, H a = some (exo a (He.ga K n) (some d)) ∧ H d = some (exd d (("told", .ref p2) :: (fs.zip vs).reverse)) ∧ H p1 = some (.tup vs) ∧ H p2 = some (.tup [.str title, .ref p1])
theorem ExAt.same {K : PySem.W.Frag} {n title : Str} {fs : List Str} {a : Addr} {vs : List V} {H H' : Hp} (h : ExAt K n title fs a vs H) (s : Same H H') : ExAt K n title fs a vs H' := by
  obtain ⟨d, p1, p2, e1, e2, e3, e4⟩ := h
  exact ⟨d, p1, p2, s _ _ e1, s _ _ e2, s _ _ e3, s _ _ e4⟩
/-- n.__init__ as a value's maker -/
def sp_ExV (K : PySem.W.Frag) (n : Str) (fs : List Str) : Sp := fun vs H Q _ => ∃ (a : Addr) (ns : List V), vs = .ref a :: ns ∧ ns.length = fs.length ∧ H a = some (exo a (He.ga K n) none) ∧ ∀ H', ExAt K n n fs a ns H' → (∀ b o, b ≠ a → H b = some o → H' b = some o) → Q .non H'
theorem same_made {H H2 : Hp} {a : Addr} {o : HO} (hn : H a = none) (k : ∀ b u, b ≠ a → upd H a o b = some u → H2 b = some u) : Same H H2 := fun b u e => k b u (ne_of_none e hn) (by rw [upd_ne (ne_of_none e hn)]; exact e)
end LL

namespace LL
open PySem PySem.Spec PyProof.Rows L2 L2H
/-! ### powers of two -/
theorem land_even (a b : Nat) : (2 * a) &&& (2 * b + 1) = 2 * (a &&& b) := by
  refine Nat.eq_of_testBit_eq fun i => ?_
  cases i with
  | zero => simp [Nat.testBit_zero]
  | succ i =>
    have h1 : ∀ x : Nat, (2 * x).testBit (i + 1) = x.testBit i := fun x => by rw [Nat.testBit_succ, Nat.mul_div_cancel_left _ (by decide)]
    have h2 : (2 * b + 1).testBit (i + 1) = b.testBit i := by rw [Nat.testBit_succ, show (2 * b + 1) / 2 = b by omega]
    rw [Nat.testBit_and, h1, h2, h1, Nat.testBit_and]
theorem land_odd (a b : Nat) : (2 * a + 1) &&& (2 * b) = 2 * (a &&& b) := by
  rw [Nat.and_comm, land_even, Nat.and_comm]
theorem land_pred : ∀ (k m : Nat), (2 ^ k * (2 * m + 1)) &&& (2 ^ k * (2 * m + 1) - 1) = 2 ^ k * (2 * m)
  | 0, m => by
    rw [Nat.pow_zero, Nat.one_mul, Nat.one_mul, show 2 * m + 1 - 1 = 2 * m by omega, land_odd, Nat.and_self]
  | k + 1, m => by
    have h := land_pred k m
    have hp : 0 < 2 ^ k * (2 * m + 1) := Nat.mul_pos (Nat.pow_pos (by decide)) (by omega)
    have e : 2 ^ (k + 1) * (2 * m + 1) = 2 * (2 ^ k * (2 * m + 1)) := by rw [Nat.pow_succ, Nat.mul_comm (2 ^ k) 2, Nat.mul_assoc]
    have e2 : 2 ^ (k + 1) * (2 * m) = 2 * (2 ^ k * (2 * m)) := by rw [Nat.pow_succ, Nat.mul_comm (2 ^ k) 2, Nat.mul_assoc]
    rw [e, e2]
    generalize 2 ^ k * (2 * m + 1) = x at h hp
    rw [show 2 * x - 1 = 2 * (x - 1) + 1 by omega, land_even, h]
theorem odd_part : ∀ n : Nat, 0 < n → ∃ k m, n = 2 ^ k * (2 * m + 1) := by
  intro n
  induction n using Nat.strongRecOn with
  | ind n ih =>
    intro hn
    by_cases h : n % 2 = 1
    · exact ⟨0, n / 2, by rw [Nat.pow_zero]; omega⟩
    · obtain ⟨k, m, e⟩ := ih (n / 2) (by omega) (by omega)
      refine ⟨k + 1, m, ?_⟩
      rw [Nat.pow_succ, Nat.mul_comm (2 ^ k) 2, Nat.mul_assoc, ← e]
      omega
theorem bitAnd_nat (a b : Nat) : Builtin.bitAnd (a : Int) (b : Int) = ((a &&& b : Nat) : Int) := by
  unfold Builtin.bitAnd
  rw [decide_eq_true (show (0 : Int) ≤ (a : Int) by omega), decide_eq_true (show (0 : Int) ≤ (b : Int) by omega)]
  rfl
theorem bitAnd_neg (n : Nat) (h : 0 < n) : Builtin.bitAnd (n : Int) (-(n : Int)) = (n : Int) - ((n &&& (n - 1) : Nat) : Int) := by
  unfold Builtin.bitAnd
  rw [decide_eq_true (show (0 : Int) ≤ (n : Int) by omega), decide_eq_false (show ¬ (0 : Int) ≤ -(n : Int) by omega)]
  show (n : Int) - (((n : Int).toNat &&& (Builtin.bitNot (-(n : Int))).toNat : Nat) : Int) = _
  rw [show (Builtin.bitNot (-(n : Int))).toNat = n - 1 by show (- -(n : Int) - 1).toNat = n - 1; omega, Int.toNat_natCast]
/-- i is a power of two -/
def isP (i : Int) : Bool := decide (1 ≤ i) && decide (Builtin.bitAnd i (i - 1) = 0)
theorem isP_pow (k : Nat) : isP (2 ^ k) = true := by
  have h := land_pred k 0
  rw [Nat.mul_zero, Nat.zero_add, Nat.mul_one, Nat.mul_zero] at h
  have hp : 0 < 2 ^ k := Nat.pow_pos (by decide)
  have e : (2 : Int) ^ k = ((2 ^ k : Nat) : Int) := by simp
  unfold isP
  rw [e, show ((2 ^ k : Nat) : Int) - 1 = ((2 ^ k - 1 : Nat) : Int) by omega, bitAnd_nat, h, decide_eq_true (show (1 : Int) ≤ ((2 ^ k : Nat) : Int) by omega)]
  rfl
theorem isP_of {i : Int} (h : isP i = true) : ∃ k : Nat, i = 2 ^ k := by
  obtain ⟨h1, h2⟩ := Bool.and_eq_true_iff.mp h
  have h1 := of_decide_eq_true h1
  have h2 := of_decide_eq_true h2
  obtain ⟨n, rfl⟩ : ∃ n : Nat, i = n := ⟨i.toNat, by omega⟩
  rw [show (n : Int) - 1 = ((n - 1 : Nat) : Int) by omega, bitAnd_nat] at h2
  obtain ⟨k, m, e⟩ := odd_part n (by omega)
  rw [e, land_pred] at h2
  have h3 : 2 ^ k * (2 * m) = 0 := by omega
  have hp : 0 < 2 ^ k := Nat.pow_pos (by decide)
  have hm : m = 0 := by
    rcases Nat.mul_eq_zero.mp h3 with h | h <;> omega
  refine ⟨k, ?_⟩
  rw [e, hm]
  simp
/-- the greatest power of two in n -/
theorem powIn {n : Int} (h : 1 ≤ n) : ∃ (k : Nat) (m : Int), Builtin.bitAnd n (-n) = 2 ^ k ∧ 0 ≤ m ∧ n = 2 ^ k * (2 * m + 1) := by
  obtain ⟨a, rfl⟩ : ∃ a : Nat, n = a := ⟨n.toNat, by omega⟩
  obtain ⟨k, m, e⟩ := odd_part a (by omega)
  have hl := land_pred k m
  refine ⟨k, m, ?_, by omega, by rw [e]; simp⟩
  rw [bitAnd_neg a (by omega), e, hl]
  have : 2 ^ k * (2 * m + 1) = 2 ^ k * (2 * m) + 2 ^ k := by rw [Nat.mul_add, Nat.mul_one]
  rw [this]
  have e3 : ((2 ^ k : Nat) : Int) = (2 : Int) ^ k := by simp
  omega
/-- bit_length of c - 1: the least exponent -/
theorem bits_least {c : Int} (h : 1 ≤ c) : c ≤ 2 ^ (Builtin.Int.intBits (c - 1)) ∧ (Builtin.Int.intBits (c - 1) = 0 ∨ (2 : Int) ^ (Builtin.Int.intBits (c - 1)) / 2 < c) := by
  obtain ⟨n, rfl⟩ : ∃ n : Nat, c = (n : Int) + 1 := ⟨(c - 1).toNat, by omega⟩
  rw [show (n : Int) + 1 - 1 = n by omega]
  unfold Builtin.Int.intBits
  by_cases hn : n = 0
  · subst hn
    exact ⟨by decide, .inl rfl⟩
  · rw [if_neg (show ¬ ((n : Int) == 0) = true by simpa using hn), Int.natAbs_natCast]
    have h1 : n < 2 ^ (n.log2 + 1) := Nat.lt_log2_self
    have h2 : 2 ^ n.log2 ≤ n := Nat.log2_self_le hn
    have e1 : ((2 ^ (n.log2 + 1) : Nat) : Int) = (2 : Int) ^ (n.log2 + 1) := by simp
    have e2 : ((2 ^ n.log2 : Nat) : Int) = (2 : Int) ^ n.log2 := by simp
    have e3 : (2 : Int) ^ (n.log2 + 1) = 2 * (2 : Int) ^ n.log2 := by rw [Int.pow_succ, Int.mul_comm]
    exact ⟨by omega, .inr (by omega)⟩
end LL

namespace K00
open PySem PySem.Spec PyProof.Rows L2 LL
def top (i : Nat) : Stmt := PySem.Challenge.pw_allgivenback_k00_align.main.body.getD i (.Pass ⟨0, 0, 0, 0⟩)
abbrev FnP (K : PySem.W.Frag) (x : Str) (st : Stmt) (f : Addr) (fd : FuncData) : Prop := FunD K x x (defArgs st) (defBody st) (defScope st) [] [] f fd
def p_BadValue : { s : Stmt // inClass (top 15) 0 = s } := by
  refine ⟨?s, ?h⟩
  case h => conv => lhs; whnf
abbrev s_BadValue : Stmt := p_BadValue.1
abbrev P_BadValue : List Str := ["self", "parameter"]
theorem sc_BadValue : FnScope P_BadValue P_BadValue (defScope s_BadValue) := ⟨rfl, rfl, rfl, by decide +kernel, rfl, by decide +kernel, by decide +kernel⟩
abbrev aBV (K : PySem.W.Frag) : Addr := He.ga K "BadValue"
abbrev iBV (K : PySem.W.Frag) : Addr := He.ma K (He.ga K "BadValue") "__init__"
def p_Broken : { s : Stmt // inClass (top 16) 0 = s } := by
  refine ⟨?s, ?h⟩
  case h => conv => lhs; whnf
abbrev s_Broken : Stmt := p_Broken.1
abbrev P_Broken : List Str := ["self", "place", "found", "due"]
theorem sc_Broken : FnScope P_Broken P_Broken (defScope s_Broken) := ⟨rfl, rfl, rfl, by decide +kernel, rfl, by decide +kernel, by decide +kernel⟩
def p_Unknown : { s : Stmt // inClass (top 17) 0 = s } := by
  refine ⟨?s, ?h⟩
  case h => conv => lhs; whnf
abbrev s_Unknown : Stmt := p_Unknown.1
abbrev P_Unknown : List Str := ["self", "parameter"]
theorem sc_Unknown : FnScope P_Unknown P_Unknown (defScope s_Unknown) := ⟨rfl, rfl, rfl, by decide +kernel, rfl, by decide +kernel, by decide +kernel⟩
def p_NotHeld : { s : Stmt // inClass (top 18) 0 = s } := by
  refine ⟨?s, ?h⟩
  case h => conv => lhs; whnf
abbrev s_NotHeld : Stmt := p_NotHeld.1
abbrev P_NotHeld : List Str := ["self", "place", "found"]
theorem sc_NotHeld : FnScope P_NotHeld P_NotHeld (defScope s_NotHeld) := ⟨rfl, rfl, rfl, by decide +kernel, rfl, by decide +kernel, by decide +kernel⟩
def p_Fault : { s : Stmt // inClass (top 19) 0 = s } := by
  refine ⟨?s, ?h⟩
  case h => conv => lhs; whnf
abbrev s_Fault : Stmt := p_Fault.1
abbrev P_Fault : List Str := ["self", "kind", "place"]
theorem sc_Fault : FnScope P_Fault P_Fault (defScope s_Fault) := ⟨rfl, rfl, rfl, by decide +kernel, rfl, by decide +kernel, by decide +kernel⟩
def p_NoRoom : { s : Stmt // inClass (top 20) 0 = s } := by
  refine ⟨?s, ?h⟩
  case h => conv => lhs; whnf
abbrev s_NoRoom : Stmt := p_NoRoom.1
abbrev P_NoRoom : List Str := ["self", "paper"]
theorem sc_NoRoom : FnScope P_NoRoom P_NoRoom (defScope s_NoRoom) := ⟨rfl, rfl, rfl, by decide +kernel, rfl, by decide +kernel, by decide +kernel⟩
def p_Cut : { s : Stmt // inClass (top 21) 0 = s } := by
  refine ⟨?s, ?h⟩
  case h => conv => lhs; whnf
abbrev s_Cut : Stmt := p_Cut.1
abbrev P_Cut : List Str := ["self", "needed", "left"]
theorem sc_Cut : FnScope P_Cut P_Cut (defScope s_Cut) := ⟨rfl, rfl, rfl, by decide +kernel, rfl, by decide +kernel, by decide +kernel⟩
def p_BadLine : { s : Stmt // inClass (top 22) 0 = s } := by
  refine ⟨?s, ?h⟩
  case h => conv => lhs; whnf
abbrev s_BadLine : Stmt := p_BadLine.1
abbrev P_BadLine : List Str := ["self", "line", "column"]
theorem sc_BadLine : FnScope P_BadLine P_BadLine (defScope s_BadLine) := ⟨rfl, rfl, rfl, by decide +kernel, rfl, by decide +kernel, by decide +kernel⟩
def p_is_whole : { s : Stmt // top 23 = s } := by
  refine ⟨?s, ?h⟩
  case h => conv => lhs; whnf
abbrev s_is_whole : Stmt := p_is_whole.1
abbrev N_is_whole : List Str := ["value"]
abbrev P_is_whole : List Str := ["value"]
theorem sc_is_whole : FnScope N_is_whole P_is_whole (defScope s_is_whole) := ⟨rfl, rfl, rfl, by decide +kernel, rfl, by decide +kernel, by decide +kernel⟩
def p_need : { s : Stmt // top 25 = s } := by
  refine ⟨?s, ?h⟩
  case h => conv => lhs; whnf
abbrev s_need : Stmt := p_need.1
abbrev N_need : List Str := ["holds", "parameter"]
abbrev P_need : List Str := ["holds", "parameter"]
theorem sc_need : FnScope N_need P_need (defScope s_need) := ⟨rfl, rfl, rfl, by decide +kernel, rfl, by decide +kernel, by decide +kernel⟩
def p_need_whole : { s : Stmt // top 26 = s } := by
  refine ⟨?s, ?h⟩
  case h => conv => lhs; whnf
abbrev s_need_whole : Stmt := p_need_whole.1
abbrev N_need_whole : List Str := ["value", "low", "high", "parameter"]
abbrev P_need_whole : List Str := ["value", "low", "high", "parameter"]
theorem sc_need_whole : FnScope N_need_whole P_need_whole (defScope s_need_whole) := ⟨rfl, rfl, rfl, by decide +kernel, rfl, by decide +kernel, by decide +kernel⟩
def p_is_power : { s : Stmt // top 30 = s } := by
  refine ⟨?s, ?h⟩
  case h => conv => lhs; whnf
abbrev s_is_power : Stmt := p_is_power.1
abbrev N_is_power : List Str := ["value"]
abbrev P_is_power : List Str := ["value"]
theorem sc_is_power : FnScope N_is_power P_is_power (defScope s_is_power) := ⟨rfl, rfl, rfl, by decide +kernel, rfl, by decide +kernel, by decide +kernel⟩
def p_need_align : { s : Stmt // top 31 = s } := by
  refine ⟨?s, ?h⟩
  case h => conv => lhs; whnf
abbrev s_need_align : Stmt := p_need_align.1
abbrev N_need_align : List Str := ["value", "most", "parameter"]
abbrev P_need_align : List Str := ["value", "most", "parameter"]
theorem sc_need_align : FnScope N_need_align P_need_align (defScope s_need_align) := ⟨rfl, rfl, rfl, by decide +kernel, rfl, by decide +kernel, by decide +kernel⟩
def p_align_down : { s : Stmt // top 32 = s } := by
  refine ⟨?s, ?h⟩
  case h => conv => lhs; whnf
abbrev s_align_down : Stmt := p_align_down.1
abbrev N_align_down : List Str := ["number", "align"]
abbrev P_align_down : List Str := ["number", "align"]
theorem sc_align_down : FnScope N_align_down P_align_down (defScope s_align_down) := ⟨rfl, rfl, rfl, by decide +kernel, rfl, by decide +kernel, by decide +kernel⟩
def p_align_up : { s : Stmt // top 33 = s } := by
  refine ⟨?s, ?h⟩
  case h => conv => lhs; whnf
abbrev s_align_up : Stmt := p_align_up.1
abbrev N_align_up : List Str := ["number", "align"]
abbrev P_align_up : List Str := ["number", "align"]
theorem sc_align_up : FnScope N_align_up P_align_up (defScope s_align_up) := ⟨rfl, rfl, rfl, by decide +kernel, rfl, by decide +kernel, by decide +kernel⟩
def p_order_of : { s : Stmt // top 34 = s } := by
  refine ⟨?s, ?h⟩
  case h => conv => lhs; whnf
abbrev s_order_of : Stmt := p_order_of.1
abbrev N_order_of : List Str := ["count"]
abbrev P_order_of : List Str := ["count"]
theorem sc_order_of : FnScope N_order_of P_order_of (defScope s_order_of) := ⟨rfl, rfl, rfl, by decide +kernel, rfl, by decide +kernel, by decide +kernel⟩
def p_power_in : { s : Stmt // top 35 = s } := by
  refine ⟨?s, ?h⟩
  case h => conv => lhs; whnf
abbrev s_power_in : Stmt := p_power_in.1
abbrev N_power_in : List Str := ["number"]
abbrev P_power_in : List Str := ["number"]
theorem sc_power_in : FnScope N_power_in P_power_in (defScope s_power_in) := ⟨rfl, rfl, rfl, by decide +kernel, rfl, by decide +kernel, by decide +kernel⟩
def p_law_draws : { s : Stmt // top 37 = s } := by
  refine ⟨?s, ?h⟩
  case h => conv => lhs; whnf
abbrev s_law_draws : Stmt := p_law_draws.1
abbrev N_law_draws : List Str := ["_law_script", "_law_cell"]
abbrev P_law_draws : List Str := ["_law_script"]
theorem sc_law_draws : FnScope N_law_draws P_law_draws (defScope s_law_draws) := ⟨rfl, rfl, rfl, by decide +kernel, rfl, by decide +kernel, by decide +kernel⟩
def p_law_next_cell : { s : Stmt // top 38 = s } := by
  refine ⟨?s, ?h⟩
  case h => conv => lhs; whnf
abbrev s_law_next_cell : Stmt := p_law_next_cell.1
abbrev N_law_next_cell : List Str := ["_law_draws_here", "_law_cells", "_law_state", "_law_cell"]
abbrev P_law_next_cell : List Str := ["_law_draws_here"]
theorem sc_law_next_cell : FnScope N_law_next_cell P_law_next_cell (defScope s_law_next_cell) := ⟨rfl, rfl, rfl, by decide +kernel, rfl, by decide +kernel, by decide +kernel⟩
def p_law_mixed : { s : Stmt // top 39 = s } := by
  refine ⟨?s, ?h⟩
  case h => conv => lhs; whnf
abbrev s_law_mixed : Stmt := p_law_mixed.1
abbrev N_law_mixed : List Str := ["_law_seed", "_law_turn", "_law_many", "_law_value", "_law_k", "_law_first", "_law_second"]
abbrev P_law_mixed : List Str := ["_law_seed", "_law_turn", "_law_many"]
theorem sc_law_mixed : FnScope N_law_mixed P_law_mixed (defScope s_law_mixed) := ⟨rfl, rfl, rfl, by decide +kernel, rfl, by decide +kernel, by decide +kernel⟩
def p_law_take : { s : Stmt // top 40 = s } := by
  refine ⟨?s, ?h⟩
  case h => conv => lhs; whnf
abbrev s_law_take : Stmt := p_law_take.1
abbrev N_law_take : List Str := ["_law_draws_here", "_law_many", "_law_state", "_law_value"]
abbrev P_law_take : List Str := ["_law_draws_here", "_law_many"]
theorem sc_law_take : FnScope N_law_take P_law_take (defScope s_law_take) := ⟨rfl, rfl, rfl, by decide +kernel, rfl, by decide +kernel, by decide +kernel⟩
def p_law_among : { s : Stmt // top 41 = s } := by
  refine ⟨?s, ?h⟩
  case h => conv => lhs; whnf
abbrev s_law_among : Stmt := p_law_among.1
abbrev N_law_among : List Str := ["_law_draws_here", "_law_row"]
abbrev P_law_among : List Str := ["_law_draws_here", "_law_row"]
theorem sc_law_among : FnScope N_law_among P_law_among (defScope s_law_among) := ⟨rfl, rfl, rfl, by decide +kernel, rfl, by decide +kernel, by decide +kernel⟩
def p_law_between : { s : Stmt // top 42 = s } := by
  refine ⟨?s, ?h⟩
  case h => conv => lhs; whnf
abbrev s_law_between : Stmt := p_law_between.1
abbrev N_law_between : List Str := ["_law_draws_here", "_law_low", "_law_high", "_law_kind"]
abbrev P_law_between : List Str := ["_law_draws_here", "_law_low", "_law_high"]
theorem sc_law_between : FnScope N_law_between P_law_between (defScope s_law_between) := ⟨rfl, rfl, rfl, by decide +kernel, rfl, by decide +kernel, by decide +kernel⟩
def p_law_number : { s : Stmt // top 43 = s } := by
  refine ⟨?s, ?h⟩
  case h => conv => lhs; whnf
abbrev s_law_number : Stmt := p_law_number.1
abbrev N_law_number : List Str := ["_law_draws_here", "_law_low", "_law_high", "_law_kind"]
abbrev P_law_number : List Str := ["_law_draws_here", "_law_low", "_law_high"]
theorem sc_law_number : FnScope N_law_number P_law_number (defScope s_law_number) := ⟨rfl, rfl, rfl, by decide +kernel, rfl, by decide +kernel, by decide +kernel⟩
def p_law_alignment : { s : Stmt // top 44 = s } := by
  refine ⟨?s, ?h⟩
  case h => conv => lhs; whnf
abbrev s_law_alignment : Stmt := p_law_alignment.1
abbrev N_law_alignment : List Str := ["_law_draws_here", "_law_most", "_law_value", "_law_k"]
abbrev P_law_alignment : List Str := ["_law_draws_here", "_law_most"]
theorem sc_law_alignment : FnScope N_law_alignment P_law_alignment (defScope s_law_alignment) := ⟨rfl, rfl, rfl, by decide +kernel, rfl, by decide +kernel, by decide +kernel⟩
def p_law_power : { s : Stmt // top 45 = s } := by
  refine ⟨?s, ?h⟩
  case h => conv => lhs; whnf
abbrev s_law_power : Stmt := p_law_power.1
abbrev N_law_power : List Str := ["_law_number_here", "_law_value", "_law_k"]
abbrev P_law_power : List Str := ["_law_number_here"]
theorem sc_law_power : FnScope N_law_power P_law_power (defScope s_law_power) := ⟨rfl, rfl, rfl, by decide +kernel, rfl, by decide +kernel, by decide +kernel⟩
def p_law_long : { s : Stmt // top 46 = s } := by
  refine ⟨?s, ?h⟩
  case h => conv => lhs; whnf
abbrev s_law_long : Stmt := p_law_long.1
abbrev N_law_long : List Str := ["_law_value", "_law_k"]
abbrev P_law_long : List Str := []
theorem sc_law_long : FnScope N_law_long P_law_long (defScope s_law_long) := ⟨rfl, rfl, rfl, by decide +kernel, rfl, by decide +kernel, by decide +kernel⟩
def p_law_integer : { s : Stmt // top 47 = s } := by
  refine ⟨?s, ?h⟩
  case h => conv => lhs; whnf
abbrev s_law_integer : Stmt := p_law_integer.1
abbrev N_law_integer : List Str := ["_law_draws_here", "_law_kind", "_law_value"]
abbrev P_law_integer : List Str := ["_law_draws_here"]
theorem sc_law_integer : FnScope N_law_integer P_law_integer (defScope s_law_integer) := ⟨rfl, rfl, rfl, by decide +kernel, rfl, by decide +kernel, by decide +kernel⟩
def p_law_chars : { s : Stmt // top 48 = s } := by
  refine ⟨?s, ?h⟩
  case h => conv => lhs; whnf
abbrev s_law_chars : Stmt := p_law_chars.1
abbrev N_law_chars : List Str := ["_law_chars_here"]
abbrev P_law_chars : List Str := []
theorem sc_law_chars : FnScope N_law_chars P_law_chars (defScope s_law_chars) := ⟨rfl, rfl, rfl, by decide +kernel, rfl, by decide +kernel, by decide +kernel⟩
def p_law_text : { s : Stmt // top 49 = s } := by
  refine ⟨?s, ?h⟩
  case h => conv => lhs; whnf
abbrev s_law_text : Stmt := p_law_text.1
abbrev N_law_text : List Str := ["_law_draws_here", "_law_most", "_law_chars_here", "_law_k"]
abbrev P_law_text : List Str := ["_law_draws_here", "_law_most"]
theorem sc_law_text : FnScope N_law_text P_law_text (defScope s_law_text) := ⟨rfl, rfl, rfl, by decide +kernel, rfl, by decide +kernel, by decide +kernel⟩
def p_law_plain : { s : Stmt // top 50 = s } := by
  refine ⟨?s, ?h⟩
  case h => conv => lhs; whnf
abbrev s_law_plain : Stmt := p_law_plain.1
abbrev N_law_plain : List Str := ["_law_draws_here", "_law_deep", "_law_kind", "_law_parts", "_law_k"]
abbrev P_law_plain : List Str := ["_law_draws_here", "_law_deep"]
theorem sc_law_plain : FnScope N_law_plain P_law_plain (defScope s_law_plain) := ⟨rfl, rfl, rfl, by decide +kernel, rfl, by decide +kernel, by decide +kernel⟩
def p_law_not_integer : { s : Stmt // top 51 = s } := by
  refine ⟨?s, ?h⟩
  case h => conv => lhs; whnf
abbrev s_law_not_integer : Stmt := p_law_not_integer.1
abbrev N_law_not_integer : List Str := ["_law_draws_here"]
abbrev P_law_not_integer : List Str := ["_law_draws_here"]
theorem sc_law_not_integer : FnScope N_law_not_integer P_law_not_integer (defScope s_law_not_integer) := ⟨rfl, rfl, rfl, by decide +kernel, rfl, by decide +kernel, by decide +kernel⟩
def p_law_not_within : { s : Stmt // top 52 = s } := by
  refine ⟨?s, ?h⟩
  case h => conv => lhs; whnf
abbrev s_law_not_within : Stmt := p_law_not_within.1
abbrev N_law_not_within : List Str := ["_law_draws_here", "_law_low", "_law_high", "_law_kind"]
abbrev P_law_not_within : List Str := ["_law_draws_here", "_law_low", "_law_high"]
theorem sc_law_not_within : FnScope N_law_not_within P_law_not_within (defScope s_law_not_within) := ⟨rfl, rfl, rfl, by decide +kernel, rfl, by decide +kernel, by decide +kernel⟩
def p_law_not_alignment : { s : Stmt // top 53 = s } := by
  refine ⟨?s, ?h⟩
  case h => conv => lhs; whnf
abbrev s_law_not_alignment : Stmt := p_law_not_alignment.1
abbrev N_law_not_alignment : List Str := ["_law_draws_here", "_law_most", "_law_kind"]
abbrev P_law_not_alignment : List Str := ["_law_draws_here", "_law_most"]
theorem sc_law_not_alignment : FnScope N_law_not_alignment P_law_not_alignment (defScope s_law_not_alignment) := ⟨rfl, rfl, rfl, by decide +kernel, rfl, by decide +kernel, by decide +kernel⟩
def p_law_is_int : { s : Stmt // top 54 = s } := by
  refine ⟨?s, ?h⟩
  case h => conv => lhs; whnf
abbrev s_law_is_int : Stmt := p_law_is_int.1
abbrev N_law_is_int : List Str := ["_law_value"]
abbrev P_law_is_int : List Str := ["_law_value"]
theorem sc_law_is_int : FnScope N_law_is_int P_law_is_int (defScope s_law_is_int) := ⟨rfl, rfl, rfl, by decide +kernel, rfl, by decide +kernel, by decide +kernel⟩
def p_law_is_within : { s : Stmt // top 55 = s } := by
  refine ⟨?s, ?h⟩
  case h => conv => lhs; whnf
abbrev s_law_is_within : Stmt := p_law_is_within.1
abbrev N_law_is_within : List Str := ["_law_value", "_law_low", "_law_high"]
abbrev P_law_is_within : List Str := ["_law_value", "_law_low", "_law_high"]
theorem sc_law_is_within : FnScope N_law_is_within P_law_is_within (defScope s_law_is_within) := ⟨rfl, rfl, rfl, by decide +kernel, rfl, by decide +kernel, by decide +kernel⟩
def p_law_same : { s : Stmt // top 56 = s } := by
  refine ⟨?s, ?h⟩
  case h => conv => lhs; whnf
abbrev s_law_same : Stmt := p_law_same.1
abbrev N_law_same : List Str := ["_law_actual", "_law_expected", "_law_k", "_law_key"]
abbrev P_law_same : List Str := ["_law_actual", "_law_expected"]
theorem sc_law_same : FnScope N_law_same P_law_same (defScope s_law_same) := ⟨rfl, rfl, rfl, by decide +kernel, rfl, by decide +kernel, by decide +kernel⟩
def p_law_copy : { s : Stmt // top 57 = s } := by
  refine ⟨?s, ?h⟩
  case h => conv => lhs; whnf
abbrev s_law_copy : Stmt := p_law_copy.1
abbrev N_law_copy : List Str := ["_law_value", "_law_twin", "_law_key", "_law_one"]
abbrev P_law_copy : List Str := ["_law_value"]
theorem sc_law_copy : FnScope N_law_copy P_law_copy (defScope s_law_copy) := ⟨rfl, rfl, rfl, by decide +kernel, rfl, by decide +kernel, by decide +kernel⟩
def p_law_kinds : { s : Stmt // top 58 = s } := by
  refine ⟨?s, ?h⟩
  case h => conv => lhs; whnf
abbrev s_law_kinds : Stmt := p_law_kinds.1
abbrev N_law_kinds : List Str := ["_law_error"]
abbrev P_law_kinds : List Str := ["_law_error"]
theorem sc_law_kinds : FnScope N_law_kinds P_law_kinds (defScope s_law_kinds) := ⟨rfl, rfl, rfl, by decide +kernel, rfl, by decide +kernel, by decide +kernel⟩
def p_law_refused : { s : Stmt // top 59 = s } := by
  refine ⟨?s, ?h⟩
  case h => conv => lhs; whnf
abbrev s_law_refused : Stmt := p_law_refused.1
abbrev N_law_refused : List Str := ["_law_title", "_law_fields", "_law_titles", "_law_one"]
abbrev P_law_refused : List Str := ["_law_title", "_law_fields"]
theorem sc_law_refused : FnScope N_law_refused P_law_refused (defScope s_law_refused) := ⟨rfl, rfl, rfl, by decide +kernel, rfl, by decide +kernel, by decide +kernel⟩
def p_law_made_right : { s : Stmt // top 60 = s } := by
  refine ⟨?s, ?h⟩
  case h => conv => lhs; whnf
abbrev s_law_made_right : Stmt := p_law_made_right.1
abbrev N_law_made_right : List Str := ["_law_one", "_law_two", "_law_three", "_law_bad", "_law_broken", "_law_unknown", "_law_held", "_law_fault", "_law_room", "_law_cut", "_law_line", "_law_made", "_law_fields", "_law_due", "_law_titles", "_law_k"]
abbrev P_law_made_right : List Str := ["_law_one", "_law_two", "_law_three"]
theorem sc_law_made_right : FnScope N_law_made_right P_law_made_right (defScope s_law_made_right) := ⟨rfl, rfl, rfl, by decide +kernel, rfl, by decide +kernel, by decide +kernel⟩
def p_law_numbers_right : { s : Stmt // top 61 = s } := by
  refine ⟨?s, ?h⟩
  case h => conv => lhs; whnf
abbrev s_law_numbers_right : Stmt := p_law_numbers_right.1
abbrev N_law_numbers_right : List Str := ["_law_told"]
abbrev P_law_numbers_right : List Str := []
theorem sc_law_numbers_right : FnScope N_law_numbers_right P_law_numbers_right (defScope s_law_numbers_right) := ⟨rfl, rfl, rfl, by decide +kernel, rfl, by decide +kernel, by decide +kernel⟩
def p_law_asked : { s : Stmt // top 62 = s } := by
  refine ⟨?s, ?h⟩
  case h => conv => lhs; whnf
abbrev s_law_asked : Stmt := p_law_asked.1
abbrev N_law_asked : List Str := ["_law_title", "_law_first", "_law_second", "e"]
abbrev P_law_asked : List Str := ["_law_title", "_law_first", "_law_second"]
theorem sc_law_asked : FnScope N_law_asked P_law_asked (defScope s_law_asked) := ⟨rfl, rfl, rfl, by decide +kernel, rfl, by decide +kernel, by decide +kernel⟩
def p_law_aligned_right : { s : Stmt // top 63 = s } := by
  refine ⟨?s, ?h⟩
  case h => conv => lhs; whnf
abbrev s_law_aligned_right : Stmt := p_law_aligned_right.1
abbrev N_law_aligned_right : List Str := ["_law_number_here", "_law_alignment_here", "_law_above", "_law_below"]
abbrev P_law_aligned_right : List Str := ["_law_number_here", "_law_alignment_here"]
theorem sc_law_aligned_right : FnScope N_law_aligned_right P_law_aligned_right (defScope s_law_aligned_right) := ⟨rfl, rfl, rfl, by decide +kernel, rfl, by decide +kernel, by decide +kernel⟩
def p_law_order_right : { s : Stmt // top 64 = s } := by
  refine ⟨?s, ?h⟩
  case h => conv => lhs; whnf
abbrev s_law_order_right : Stmt := p_law_order_right.1
abbrev N_law_order_right : List Str := ["_law_count", "_law_answer", "_law_power_here"]
abbrev P_law_order_right : List Str := ["_law_count"]
theorem sc_law_order_right : FnScope N_law_order_right P_law_order_right (defScope s_law_order_right) := ⟨rfl, rfl, rfl, by decide +kernel, rfl, by decide +kernel, by decide +kernel⟩
def p_law_factor_right : { s : Stmt // top 65 = s } := by
  refine ⟨?s, ?h⟩
  case h => conv => lhs; whnf
abbrev s_law_factor_right : Stmt := p_law_factor_right.1
abbrev N_law_factor_right : List Str := ["_law_number_here", "_law_answer", "_law_factor"]
abbrev P_law_factor_right : List Str := ["_law_number_here"]
theorem sc_law_factor_right : FnScope N_law_factor_right P_law_factor_right (defScope s_law_factor_right) := ⟨rfl, rfl, rfl, by decide +kernel, rfl, by decide +kernel, by decide +kernel⟩
def p_law_great_power : { s : Stmt // top 66 = s } := by
  refine ⟨?s, ?h⟩
  case h => conv => lhs; whnf
abbrev s_law_great_power : Stmt := p_law_great_power.1
abbrev N_law_great_power : List Str := ["_law_draws_here", "_law_value", "_law_k"]
abbrev P_law_great_power : List Str := ["_law_draws_here"]
theorem sc_law_great_power : FnScope N_law_great_power P_law_great_power (defScope s_law_great_power) := ⟨rfl, rfl, rfl, by decide +kernel, rfl, by decide +kernel, by decide +kernel⟩
def p_law_is_power_due : { s : Stmt // top 67 = s } := by
  refine ⟨?s, ?h⟩
  case h => conv => lhs; whnf
abbrev s_law_is_power_due : Stmt := p_law_is_power_due.1
abbrev N_law_is_power_due : List Str := ["_law_value", "_law_power_here", "_law_k"]
abbrev P_law_is_power_due : List Str := ["_law_value"]
theorem sc_law_is_power_due : FnScope N_law_is_power_due P_law_is_power_due (defScope s_law_is_power_due) := ⟨rfl, rfl, rfl, by decide +kernel, rfl, by decide +kernel, by decide +kernel⟩
def p_law_judged_right : { s : Stmt // top 68 = s } := by
  refine ⟨?s, ?h⟩
  case h => conv => lhs; whnf
abbrev s_law_judged_right : Stmt := p_law_judged_right.1
abbrev N_law_judged_right : List Str := ["_law_values", "_law_value", "_law_kept"]
abbrev P_law_judged_right : List Str := ["_law_values"]
theorem sc_law_judged_right : FnScope N_law_judged_right P_law_judged_right (defScope s_law_judged_right) := ⟨rfl, rfl, rfl, by decide +kernel, rfl, by decide +kernel, by decide +kernel⟩
def p_law_refused_right : { s : Stmt // top 69 = s } := by
  refine ⟨?s, ?h⟩
  case h => conv => lhs; whnf
abbrev s_law_refused_right : Stmt := p_law_refused_right.1
abbrev N_law_refused_right : List Str := ["_law_draws_here", "_law_number_here", "_law_alignment_here", "_law_far", "_law_odd", "_law_few", "_law_kept", "_law_title"]
abbrev P_law_refused_right : List Str := ["_law_draws_here", "_law_number_here", "_law_alignment_here"]
theorem sc_law_refused_right : FnScope N_law_refused_right P_law_refused_right (defScope s_law_refused_right) := ⟨rfl, rfl, rfl, by decide +kernel, rfl, by decide +kernel, by decide +kernel⟩
def p_law : { s : Stmt // top 70 = s } := by
  refine ⟨?s, ?h⟩
  case h => conv => lhs; whnf
abbrev s_law : Stmt := p_law.1
abbrev N_law : List Str := ["_law_script", "_law_draws_here", "_law_number_here", "_law_alignment_here", "_law_count", "_law_one", "_law_great", "_law_values", "_law_k"]
abbrev P_law : List Str := ["_law_script"]
theorem sc_law : FnScope N_law P_law (defScope s_law) := ⟨rfl, rfl, rfl, by decide +kernel, rfl, by decide +kernel, by decide +kernel⟩
structure Tx (K : PySem.W.Frag) (mg : Str → Option Value) where
  fd_is_whole : FuncData
  F_is_whole : FnP K "is_whole" s_is_whole (He.ga K "is_whole") fd_is_whole
  g_is_whole : mg "is_whole" = some (.ref (He.ga K "is_whole"))
  fd_need : FuncData
  F_need : FnP K "need" s_need (He.ga K "need") fd_need
  g_need : mg "need" = some (.ref (He.ga K "need"))
  fd_need_whole : FuncData
  F_need_whole : FnP K "need_whole" s_need_whole (He.ga K "need_whole") fd_need_whole
  g_need_whole : mg "need_whole" = some (.ref (He.ga K "need_whole"))
  fd_is_power : FuncData
  F_is_power : FnP K "is_power" s_is_power (He.ga K "is_power") fd_is_power
  g_is_power : mg "is_power" = some (.ref (He.ga K "is_power"))
  fd_need_align : FuncData
  F_need_align : FnP K "need_align" s_need_align (He.ga K "need_align") fd_need_align
  g_need_align : mg "need_align" = some (.ref (He.ga K "need_align"))
  fd_align_down : FuncData
  F_align_down : FnP K "align_down" s_align_down (He.ga K "align_down") fd_align_down
  g_align_down : mg "align_down" = some (.ref (He.ga K "align_down"))
  fd_align_up : FuncData
  F_align_up : FnP K "align_up" s_align_up (He.ga K "align_up") fd_align_up
  g_align_up : mg "align_up" = some (.ref (He.ga K "align_up"))
  fd_order_of : FuncData
  F_order_of : FnP K "order_of" s_order_of (He.ga K "order_of") fd_order_of
  g_order_of : mg "order_of" = some (.ref (He.ga K "order_of"))
  fd_power_in : FuncData
  F_power_in : FnP K "power_in" s_power_in (He.ga K "power_in") fd_power_in
  g_power_in : mg "power_in" = some (.ref (He.ga K "power_in"))
  fd_law_draws : FuncData
  F_law_draws : FnP K "_law_draws" s_law_draws (He.ga K "_law_draws") fd_law_draws
  g_law_draws : mg "_law_draws" = some (.ref (He.ga K "_law_draws"))
  fd_law_next_cell : FuncData
  F_law_next_cell : FnP K "_law_next_cell" s_law_next_cell (He.ga K "_law_next_cell") fd_law_next_cell
  g_law_next_cell : mg "_law_next_cell" = some (.ref (He.ga K "_law_next_cell"))
  fd_law_mixed : FuncData
  F_law_mixed : FnP K "_law_mixed" s_law_mixed (He.ga K "_law_mixed") fd_law_mixed
  g_law_mixed : mg "_law_mixed" = some (.ref (He.ga K "_law_mixed"))
  fd_law_take : FuncData
  F_law_take : FnP K "_law_take" s_law_take (He.ga K "_law_take") fd_law_take
  g_law_take : mg "_law_take" = some (.ref (He.ga K "_law_take"))
  fd_law_among : FuncData
  F_law_among : FnP K "_law_among" s_law_among (He.ga K "_law_among") fd_law_among
  g_law_among : mg "_law_among" = some (.ref (He.ga K "_law_among"))
  fd_law_between : FuncData
  F_law_between : FnP K "_law_between" s_law_between (He.ga K "_law_between") fd_law_between
  g_law_between : mg "_law_between" = some (.ref (He.ga K "_law_between"))
  fd_law_number : FuncData
  F_law_number : FnP K "_law_number" s_law_number (He.ga K "_law_number") fd_law_number
  g_law_number : mg "_law_number" = some (.ref (He.ga K "_law_number"))
  fd_law_alignment : FuncData
  F_law_alignment : FnP K "_law_alignment" s_law_alignment (He.ga K "_law_alignment") fd_law_alignment
  g_law_alignment : mg "_law_alignment" = some (.ref (He.ga K "_law_alignment"))
  fd_law_power : FuncData
  F_law_power : FnP K "_law_power" s_law_power (He.ga K "_law_power") fd_law_power
  g_law_power : mg "_law_power" = some (.ref (He.ga K "_law_power"))
  fd_law_long : FuncData
  F_law_long : FnP K "_law_long" s_law_long (He.ga K "_law_long") fd_law_long
  g_law_long : mg "_law_long" = some (.ref (He.ga K "_law_long"))
  fd_law_integer : FuncData
  F_law_integer : FnP K "_law_integer" s_law_integer (He.ga K "_law_integer") fd_law_integer
  g_law_integer : mg "_law_integer" = some (.ref (He.ga K "_law_integer"))
  fd_law_chars : FuncData
  F_law_chars : FnP K "_law_chars" s_law_chars (He.ga K "_law_chars") fd_law_chars
  g_law_chars : mg "_law_chars" = some (.ref (He.ga K "_law_chars"))
  fd_law_text : FuncData
  F_law_text : FnP K "_law_text" s_law_text (He.ga K "_law_text") fd_law_text
  g_law_text : mg "_law_text" = some (.ref (He.ga K "_law_text"))
  fd_law_plain : FuncData
  F_law_plain : FnP K "_law_plain" s_law_plain (He.ga K "_law_plain") fd_law_plain
  g_law_plain : mg "_law_plain" = some (.ref (He.ga K "_law_plain"))
  fd_law_not_integer : FuncData
  F_law_not_integer : FnP K "_law_not_integer" s_law_not_integer (He.ga K "_law_not_integer") fd_law_not_integer
  g_law_not_integer : mg "_law_not_integer" = some (.ref (He.ga K "_law_not_integer"))
  fd_law_not_within : FuncData
  F_law_not_within : FnP K "_law_not_within" s_law_not_within (He.ga K "_law_not_within") fd_law_not_within
  g_law_not_within : mg "_law_not_within" = some (.ref (He.ga K "_law_not_within"))
  fd_law_not_alignment : FuncData
  F_law_not_alignment : FnP K "_law_not_alignment" s_law_not_alignment (He.ga K "_law_not_alignment") fd_law_not_alignment
  g_law_not_alignment : mg "_law_not_alignment" = some (.ref (He.ga K "_law_not_alignment"))
  fd_law_is_int : FuncData
  F_law_is_int : FnP K "_law_is_int" s_law_is_int (He.ga K "_law_is_int") fd_law_is_int
  g_law_is_int : mg "_law_is_int" = some (.ref (He.ga K "_law_is_int"))
  fd_law_is_within : FuncData
  F_law_is_within : FnP K "_law_is_within" s_law_is_within (He.ga K "_law_is_within") fd_law_is_within
  g_law_is_within : mg "_law_is_within" = some (.ref (He.ga K "_law_is_within"))
  fd_law_same : FuncData
  F_law_same : FnP K "_law_same" s_law_same (He.ga K "_law_same") fd_law_same
  g_law_same : mg "_law_same" = some (.ref (He.ga K "_law_same"))
  fd_law_copy : FuncData
  F_law_copy : FnP K "_law_copy" s_law_copy (He.ga K "_law_copy") fd_law_copy
  g_law_copy : mg "_law_copy" = some (.ref (He.ga K "_law_copy"))
  fd_law_kinds : FuncData
  F_law_kinds : FnP K "_law_kinds" s_law_kinds (He.ga K "_law_kinds") fd_law_kinds
  g_law_kinds : mg "_law_kinds" = some (.ref (He.ga K "_law_kinds"))
  fd_law_refused : FuncData
  F_law_refused : FnP K "_law_refused" s_law_refused (He.ga K "_law_refused") fd_law_refused
  g_law_refused : mg "_law_refused" = some (.ref (He.ga K "_law_refused"))
  fd_law_made_right : FuncData
  F_law_made_right : FnP K "_law_made_right" s_law_made_right (He.ga K "_law_made_right") fd_law_made_right
  g_law_made_right : mg "_law_made_right" = some (.ref (He.ga K "_law_made_right"))
  fd_law_numbers_right : FuncData
  F_law_numbers_right : FnP K "_law_numbers_right" s_law_numbers_right (He.ga K "_law_numbers_right") fd_law_numbers_right
  g_law_numbers_right : mg "_law_numbers_right" = some (.ref (He.ga K "_law_numbers_right"))
  fd_law_asked : FuncData
  F_law_asked : FnP K "_law_asked" s_law_asked (He.ga K "_law_asked") fd_law_asked
  g_law_asked : mg "_law_asked" = some (.ref (He.ga K "_law_asked"))
  fd_law_aligned_right : FuncData
  F_law_aligned_right : FnP K "_law_aligned_right" s_law_aligned_right (He.ga K "_law_aligned_right") fd_law_aligned_right
  g_law_aligned_right : mg "_law_aligned_right" = some (.ref (He.ga K "_law_aligned_right"))
  fd_law_order_right : FuncData
  F_law_order_right : FnP K "_law_order_right" s_law_order_right (He.ga K "_law_order_right") fd_law_order_right
  g_law_order_right : mg "_law_order_right" = some (.ref (He.ga K "_law_order_right"))
  fd_law_factor_right : FuncData
  F_law_factor_right : FnP K "_law_factor_right" s_law_factor_right (He.ga K "_law_factor_right") fd_law_factor_right
  g_law_factor_right : mg "_law_factor_right" = some (.ref (He.ga K "_law_factor_right"))
  fd_law_great_power : FuncData
  F_law_great_power : FnP K "_law_great_power" s_law_great_power (He.ga K "_law_great_power") fd_law_great_power
  g_law_great_power : mg "_law_great_power" = some (.ref (He.ga K "_law_great_power"))
  fd_law_is_power_due : FuncData
  F_law_is_power_due : FnP K "_law_is_power_due" s_law_is_power_due (He.ga K "_law_is_power_due") fd_law_is_power_due
  g_law_is_power_due : mg "_law_is_power_due" = some (.ref (He.ga K "_law_is_power_due"))
  fd_law_judged_right : FuncData
  F_law_judged_right : FnP K "_law_judged_right" s_law_judged_right (He.ga K "_law_judged_right") fd_law_judged_right
  g_law_judged_right : mg "_law_judged_right" = some (.ref (He.ga K "_law_judged_right"))
  fd_law_refused_right : FuncData
  F_law_refused_right : FnP K "_law_refused_right" s_law_refused_right (He.ga K "_law_refused_right") fd_law_refused_right
  g_law_refused_right : mg "_law_refused_right" = some (.ref (He.ga K "_law_refused_right"))
  fd_law : FuncData
  F_law : FnP K "law" s_law (He.ga K "law") fd_law
  g_law : mg "law" = some (.ref (He.ga K "law"))
  c_EXTENT : ∃ t, mg "EXTENT" = some (.int 23 t)
  c_HANDLE : ∃ t, mg "HANDLE" = some (.int 26 t)
  c_HEAP : ∃ t, mg "HEAP" = some (.int 24 t)
  c_MAGIC : ∃ t, mg "MAGIC" = some (.int 4711 t)
  c_MAP : ∃ t, mg "MAP" = some (.int 21 t)
  c_MAPPED : ∃ t, mg "MAPPED" = some (.int 27 t)
  c_MOST_ALIGN : ∃ t, mg "MOST_ALIGN" = some (.int 1073741824 t)
  c_MOST_PLACE : ∃ t, mg "MOST_PLACE" = some (.int 1000000000 t)
  c_MOST_WORD : ∃ t, mg "MOST_WORD" = some (.int 65535 t)
  c_NOBODY : ∃ t, mg "NOBODY" = some (.int 0 t)
  c_NODE : ∃ t, mg "NODE" = some (.int 28 t)
  c_POISON : ∃ t, mg "POISON" = some (.int 60002 t)
  c_RED : ∃ t, mg "RED" = some (.int 60001 t)
  c_REGION : ∃ t, mg "REGION" = some (.int 25 t)
  c_SLAB : ∃ t, mg "SLAB" = some (.int 22 t)
  g_BadLine : mg "BadLine" = some (.ref (He.ga K "BadLine"))
  g_BadValue : mg "BadValue" = some (.ref (He.ga K "BadValue"))
  g_Broken : mg "Broken" = some (.ref (He.ga K "Broken"))
  g_Cut : mg "Cut" = some (.ref (He.ga K "Cut"))
  g_Fault : mg "Fault" = some (.ref (He.ga K "Fault"))
  g_NoRoom : mg "NoRoom" = some (.ref (He.ga K "NoRoom"))
  g_NotHeld : mg "NotHeld" = some (.ref (He.ga K "NotHeld"))
  g_StoreError : mg "StoreError" = some (.ref (He.ga K "StoreError"))
  g_Unknown : mg "Unknown" = some (.ref (He.ga K "Unknown"))
  z_ValueError : mg "ValueError" = none
  z_bool : mg "bool" = none
  z_dict : mg "dict" = none
  z_int : mg "int" = none
  z_isinstance : mg "isinstance" = none
  z_len : mg "len" = none
  z_list : mg "list" = none
  z_max : mg "max" = none
  z_min : mg "min" = none
  z_range : mg "range" = none
  z_str : mg "str" = none
  z_tuple : mg "tuple" = none
  fd_BadValue : FuncData
  F_BadValue : FunD K "__init__" "BadValue.__init__" (defArgs s_BadValue) (defBody s_BadValue) (defScope s_BadValue) [] [] (iBV K) fd_BadValue
  x_BadValue : OexC K (aBV K)
  i_BadValue : PySem.W.findIn K (.ref (aBV K)) "__init__" = some (some (.ref (iBV K)))
  t_BadValue : PySem.W.typeIn K (.ref (iBV K)) = some (.type "function")
  n_BadValue_parameter : PySem.W.findIn K (.ref (aBV K)) "parameter" = some none
  n_BadValue_told : PySem.W.findIn K (.ref (aBV K)) "told" = some none
  f_BadValue : XfC K (aBV K)
  d_BadValue : ExcD K (aBV K)
  m_BadValue : PySem.W.exmOne K (.ref (aBV K)) (.ref (aBV K)) = some true
  k_ValueError : PySem.W.kitOne K (.ref (aBV K)) (.type "ValueError") = some true
  k_StoreError : PySem.W.kitOne K (.ref (aBV K)) (.ref (He.ga K "StoreError")) = some true
  k_BadValue : PySem.W.kitOne K (.ref (aBV K)) (.ref (He.ga K "BadValue")) = some true
  k_Broken : PySem.W.kitOne K (.ref (aBV K)) (.ref (He.ga K "Broken")) = some false
  k_Unknown : PySem.W.kitOne K (.ref (aBV K)) (.ref (He.ga K "Unknown")) = some false
  k_NotHeld : PySem.W.kitOne K (.ref (aBV K)) (.ref (He.ga K "NotHeld")) = some false
  k_Fault : PySem.W.kitOne K (.ref (aBV K)) (.ref (He.ga K "Fault")) = some false
  k_NoRoom : PySem.W.kitOne K (.ref (aBV K)) (.ref (He.ga K "NoRoom")) = some false
  k_Cut : PySem.W.kitOne K (.ref (aBV K)) (.ref (He.ga K "Cut")) = some false
  k_BadLine : PySem.W.kitOne K (.ref (aBV K)) (.ref (He.ga K "BadLine")) = some false
  v_BadValue : ExV K "BadValue" ["parameter"] 0
  fd_Broken : FuncData
  F_Broken : FunD K "__init__" "Broken.__init__" (defArgs s_Broken) (defBody s_Broken) (defScope s_Broken) [] [] (He.ma K (He.ga K "Broken") "__init__") fd_Broken
  v_Broken : ExV K "Broken" ["place", "found", "due"] 1
  fd_Unknown : FuncData
  F_Unknown : FunD K "__init__" "Unknown.__init__" (defArgs s_Unknown) (defBody s_Unknown) (defScope s_Unknown) [] [] (He.ma K (He.ga K "Unknown") "__init__") fd_Unknown
  v_Unknown : ExV K "Unknown" ["parameter"] 2
  fd_NotHeld : FuncData
  F_NotHeld : FunD K "__init__" "NotHeld.__init__" (defArgs s_NotHeld) (defBody s_NotHeld) (defScope s_NotHeld) [] [] (He.ma K (He.ga K "NotHeld") "__init__") fd_NotHeld
  v_NotHeld : ExV K "NotHeld" ["place", "found"] 3
  fd_Fault : FuncData
  F_Fault : FunD K "__init__" "Fault.__init__" (defArgs s_Fault) (defBody s_Fault) (defScope s_Fault) [] [] (He.ma K (He.ga K "Fault") "__init__") fd_Fault
  v_Fault : ExV K "Fault" ["kind", "place"] 4
  fd_NoRoom : FuncData
  F_NoRoom : FunD K "__init__" "NoRoom.__init__" (defArgs s_NoRoom) (defBody s_NoRoom) (defScope s_NoRoom) [] [] (He.ma K (He.ga K "NoRoom") "__init__") fd_NoRoom
  v_NoRoom : ExV K "NoRoom" ["paper"] 5
  fd_Cut : FuncData
  F_Cut : FunD K "__init__" "Cut.__init__" (defArgs s_Cut) (defBody s_Cut) (defScope s_Cut) [] [] (He.ma K (He.ga K "Cut") "__init__") fd_Cut
  v_Cut : ExV K "Cut" ["needed", "left"] 6
  fd_BadLine : FuncData
  F_BadLine : FunD K "__init__" "BadLine.__init__" (defArgs s_BadLine) (defBody s_BadLine) (defScope s_BadLine) [] [] (He.ma K (He.ga K "BadLine") "__init__") fd_BadLine
  v_BadLine : ExV K "BadLine" ["line", "column"] 7
variable {P : Program} {w : World} {K : PySem.W.Frag} {mg : Str → Option Value} {base : Heap}
theorem b_is_whole (T : Tx K mg) : Binds K T.fd_is_whole P_is_whole [] := T.F_is_whole.bindsN fun _ _ _ _ _ _ us hl => match us, hl with | [_], _ => rfl
theorem b_need (T : Tx K mg) : Binds K T.fd_need P_need [] := T.F_need.bindsN fun _ _ _ _ _ _ us hl => match us, hl with | [_, _], _ => rfl
theorem b_need_whole (T : Tx K mg) : Binds K T.fd_need_whole P_need_whole [] := T.F_need_whole.bindsN fun _ _ _ _ _ _ us hl => match us, hl with | [_, _, _, _], _ => rfl
theorem b_is_power (T : Tx K mg) : Binds K T.fd_is_power P_is_power [] := T.F_is_power.bindsN fun _ _ _ _ _ _ us hl => match us, hl with | [_], _ => rfl
theorem b_need_align (T : Tx K mg) : Binds K T.fd_need_align P_need_align [] := T.F_need_align.bindsN fun _ _ _ _ _ _ us hl => match us, hl with | [_, _, _], _ => rfl
theorem b_align_down (T : Tx K mg) : Binds K T.fd_align_down P_align_down [] := T.F_align_down.bindsN fun _ _ _ _ _ _ us hl => match us, hl with | [_, _], _ => rfl
theorem b_align_up (T : Tx K mg) : Binds K T.fd_align_up P_align_up [] := T.F_align_up.bindsN fun _ _ _ _ _ _ us hl => match us, hl with | [_, _], _ => rfl
theorem b_order_of (T : Tx K mg) : Binds K T.fd_order_of P_order_of [] := T.F_order_of.bindsN fun _ _ _ _ _ _ us hl => match us, hl with | [_], _ => rfl
theorem b_power_in (T : Tx K mg) : Binds K T.fd_power_in P_power_in [] := T.F_power_in.bindsN fun _ _ _ _ _ _ us hl => match us, hl with | [_], _ => rfl
theorem b_law_draws (T : Tx K mg) : Binds K T.fd_law_draws P_law_draws [] := T.F_law_draws.bindsN fun _ _ _ _ _ _ us hl => match us, hl with | [_], _ => rfl
theorem b_law_next_cell (T : Tx K mg) : Binds K T.fd_law_next_cell P_law_next_cell [] := T.F_law_next_cell.bindsN fun _ _ _ _ _ _ us hl => match us, hl with | [_], _ => rfl
theorem b_law_mixed (T : Tx K mg) : Binds K T.fd_law_mixed P_law_mixed [] := T.F_law_mixed.bindsN fun _ _ _ _ _ _ us hl => match us, hl with | [_, _, _], _ => rfl
theorem b_law_take (T : Tx K mg) : Binds K T.fd_law_take P_law_take [] := T.F_law_take.bindsN fun _ _ _ _ _ _ us hl => match us, hl with | [_, _], _ => rfl
theorem b_law_among (T : Tx K mg) : Binds K T.fd_law_among P_law_among [] := T.F_law_among.bindsN fun _ _ _ _ _ _ us hl => match us, hl with | [_, _], _ => rfl
theorem b_law_between (T : Tx K mg) : Binds K T.fd_law_between P_law_between [] := T.F_law_between.bindsN fun _ _ _ _ _ _ us hl => match us, hl with | [_, _, _], _ => rfl
theorem b_law_number (T : Tx K mg) : Binds K T.fd_law_number P_law_number [] := T.F_law_number.bindsN fun _ _ _ _ _ _ us hl => match us, hl with | [_, _, _], _ => rfl
theorem b_law_alignment (T : Tx K mg) : Binds K T.fd_law_alignment P_law_alignment [] := T.F_law_alignment.bindsN fun _ _ _ _ _ _ us hl => match us, hl with | [_, _], _ => rfl
theorem b_law_power (T : Tx K mg) : Binds K T.fd_law_power P_law_power [] := T.F_law_power.bindsN fun _ _ _ _ _ _ us hl => match us, hl with | [_], _ => rfl
theorem b_law_long (T : Tx K mg) : Binds K T.fd_law_long P_law_long [] := T.F_law_long.bindsN fun _ _ _ _ _ _ us hl => match us, hl with | [], _ => rfl
theorem b_law_integer (T : Tx K mg) : Binds K T.fd_law_integer P_law_integer [] := T.F_law_integer.bindsN fun _ _ _ _ _ _ us hl => match us, hl with | [_], _ => rfl
theorem b_law_chars (T : Tx K mg) : Binds K T.fd_law_chars P_law_chars [] := T.F_law_chars.bindsN fun _ _ _ _ _ _ us hl => match us, hl with | [], _ => rfl
theorem b_law_text (T : Tx K mg) : Binds K T.fd_law_text P_law_text [] := T.F_law_text.bindsN fun _ _ _ _ _ _ us hl => match us, hl with | [_, _], _ => rfl
theorem b_law_plain (T : Tx K mg) : Binds K T.fd_law_plain P_law_plain [] := T.F_law_plain.bindsN fun _ _ _ _ _ _ us hl => match us, hl with | [_, _], _ => rfl
theorem b_law_not_integer (T : Tx K mg) : Binds K T.fd_law_not_integer P_law_not_integer [] := T.F_law_not_integer.bindsN fun _ _ _ _ _ _ us hl => match us, hl with | [_], _ => rfl
theorem b_law_not_within (T : Tx K mg) : Binds K T.fd_law_not_within P_law_not_within [] := T.F_law_not_within.bindsN fun _ _ _ _ _ _ us hl => match us, hl with | [_, _, _], _ => rfl
theorem b_law_not_alignment (T : Tx K mg) : Binds K T.fd_law_not_alignment P_law_not_alignment [] := T.F_law_not_alignment.bindsN fun _ _ _ _ _ _ us hl => match us, hl with | [_, _], _ => rfl
theorem b_law_is_int (T : Tx K mg) : Binds K T.fd_law_is_int P_law_is_int [] := T.F_law_is_int.bindsN fun _ _ _ _ _ _ us hl => match us, hl with | [_], _ => rfl
theorem b_law_is_within (T : Tx K mg) : Binds K T.fd_law_is_within P_law_is_within [] := T.F_law_is_within.bindsN fun _ _ _ _ _ _ us hl => match us, hl with | [_, _, _], _ => rfl
theorem b_law_same (T : Tx K mg) : Binds K T.fd_law_same P_law_same [] := T.F_law_same.bindsN fun _ _ _ _ _ _ us hl => match us, hl with | [_, _], _ => rfl
theorem b_law_copy (T : Tx K mg) : Binds K T.fd_law_copy P_law_copy [] := T.F_law_copy.bindsN fun _ _ _ _ _ _ us hl => match us, hl with | [_], _ => rfl
theorem b_law_kinds (T : Tx K mg) : Binds K T.fd_law_kinds P_law_kinds [] := T.F_law_kinds.bindsN fun _ _ _ _ _ _ us hl => match us, hl with | [_], _ => rfl
theorem b_law_refused (T : Tx K mg) : Binds K T.fd_law_refused P_law_refused [] := T.F_law_refused.bindsN fun _ _ _ _ _ _ us hl => match us, hl with | [_, _], _ => rfl
theorem b_law_made_right (T : Tx K mg) : Binds K T.fd_law_made_right P_law_made_right [] := T.F_law_made_right.bindsN fun _ _ _ _ _ _ us hl => match us, hl with | [_, _, _], _ => rfl
theorem b_law_numbers_right (T : Tx K mg) : Binds K T.fd_law_numbers_right P_law_numbers_right [] := T.F_law_numbers_right.bindsN fun _ _ _ _ _ _ us hl => match us, hl with | [], _ => rfl
theorem b_law_asked (T : Tx K mg) : Binds K T.fd_law_asked P_law_asked [] := T.F_law_asked.bindsN fun _ _ _ _ _ _ us hl => match us, hl with | [_, _, _], _ => rfl
theorem b_law_aligned_right (T : Tx K mg) : Binds K T.fd_law_aligned_right P_law_aligned_right [] := T.F_law_aligned_right.bindsN fun _ _ _ _ _ _ us hl => match us, hl with | [_, _], _ => rfl
theorem b_law_order_right (T : Tx K mg) : Binds K T.fd_law_order_right P_law_order_right [] := T.F_law_order_right.bindsN fun _ _ _ _ _ _ us hl => match us, hl with | [_], _ => rfl
theorem b_law_factor_right (T : Tx K mg) : Binds K T.fd_law_factor_right P_law_factor_right [] := T.F_law_factor_right.bindsN fun _ _ _ _ _ _ us hl => match us, hl with | [_], _ => rfl
theorem b_law_great_power (T : Tx K mg) : Binds K T.fd_law_great_power P_law_great_power [] := T.F_law_great_power.bindsN fun _ _ _ _ _ _ us hl => match us, hl with | [_], _ => rfl
theorem b_law_is_power_due (T : Tx K mg) : Binds K T.fd_law_is_power_due P_law_is_power_due [] := T.F_law_is_power_due.bindsN fun _ _ _ _ _ _ us hl => match us, hl with | [_], _ => rfl
theorem b_law_judged_right (T : Tx K mg) : Binds K T.fd_law_judged_right P_law_judged_right [] := T.F_law_judged_right.bindsN fun _ _ _ _ _ _ us hl => match us, hl with | [_], _ => rfl
theorem b_law_refused_right (T : Tx K mg) : Binds K T.fd_law_refused_right P_law_refused_right [] := T.F_law_refused_right.bindsN fun _ _ _ _ _ _ us hl => match us, hl with | [_, _, _], _ => rfl
theorem b_law (T : Tx K mg) : Binds K T.fd_law P_law [] := T.F_law.bindsN fun _ _ _ _ _ _ us hl => match us, hl with | [_], _ => rfl
theorem b_Broken (T : Tx K mg) : Binds K T.fd_Broken P_Broken [] := T.F_Broken.bindsN fun _ _ _ _ _ _ us hl => match us, hl with | [_, _, _, _], _ => rfl
theorem b_Unknown (T : Tx K mg) : Binds K T.fd_Unknown P_Unknown [] := T.F_Unknown.bindsN fun _ _ _ _ _ _ us hl => match us, hl with | [_, _], _ => rfl
theorem b_NotHeld (T : Tx K mg) : Binds K T.fd_NotHeld P_NotHeld [] := T.F_NotHeld.bindsN fun _ _ _ _ _ _ us hl => match us, hl with | [_, _, _], _ => rfl
theorem b_Fault (T : Tx K mg) : Binds K T.fd_Fault P_Fault [] := T.F_Fault.bindsN fun _ _ _ _ _ _ us hl => match us, hl with | [_, _, _], _ => rfl
theorem b_NoRoom (T : Tx K mg) : Binds K T.fd_NoRoom P_NoRoom [] := T.F_NoRoom.bindsN fun _ _ _ _ _ _ us hl => match us, hl with | [_, _], _ => rfl
theorem b_Cut (T : Tx K mg) : Binds K T.fd_Cut P_Cut [] := T.F_Cut.bindsN fun _ _ _ _ _ _ us hl => match us, hl with | [_, _, _], _ => rfl
theorem b_BadLine (T : Tx K mg) : Binds K T.fd_BadLine P_BadLine [] := T.F_BadLine.bindsN fun _ _ _ _ _ _ us hl => match us, hl with | [_, _, _], _ => rfl
theorem b_BadValue (T : Tx K mg) : Binds K T.fd_BadValue P_BadValue [] := T.F_BadValue.bindsN fun _ _ _ _ _ _ us hl => match us, hl with | [_, _], _ => rfl
end K00

namespace K00
open PySem PySem.Spec PyProof.Rows L2 LL
variable {P : Program} {w : World} {K : PySem.W.Frag} {mg : Str → Option Value} {base : Heap}

/-- 0 < many: a number of 0 .. many - 1 -/
def sp_law_mixed : Sp := fun vs H Q _ => ∃ a b m : Int, vs = [.int a, .int b, .int m] ∧ 0 < m ∧ ∀ v : Int, 0 ≤ v → v < m → Q (.int v) H
def sp_law_next_cell : Sp := fun vs H Q _ => ∃ d s, vs = [.ref d] ∧ Drw d s H ∧ ∀ H', Aft d s H H' → Q .non H'
def sp_law_take : Sp := fun vs H Q _ => ∃ d s m, vs = [.ref d, .int m] ∧ Drw d s H ∧ m.natAbs < 2 ^ 4000 ∧ ∀ v H', Aft d s H H' → 0 ≤ v → (v < m ∨ v = 0) → Q (.int v) H'
theorem use_take {d s : Addr} {m : Int} {H : Hp} {Q : VK} {E : XK} (D : Drw d s H) (hm : m.natAbs < 2 ^ 4000) (q : ∀ v H', Aft d s H H' → Drw d s H' → 0 ≤ v → (v < m ∨ v = 0) → Q (.int v) H') : sp_law_take [.ref d, .int m] H Q E :=
  ⟨d, s, m, rfl, D, hm, fun v H' a => q v H' a a.dr⟩

theorem ok_law_mixed (T : Tx K mg) : FnOk P w K mg base CX0 1 (He.ga K "_law_mixed") T.fd_law_mixed P_law_mixed sp_law_mixed := by
  refine T.F_law_mixed.ok sc_law_mixed (fun vs H Q E h => ?_) (fun cdv A outer s H vs Q E hr h => ⟨_, PSs.nox (pss_cons (ps_set (i := 3) sc_law_mixed.nd rfl (Or.inl rfl) (pe_int)) (pss_cons (ps_for PassesOwn.never rfl (pi_range1 rfl T.z_range (pa_cons (pe_int) pa_nil)) (pg_name (i := 4) sc_law_mixed.nd rfl (Or.inl rfl)) (pss_cons (ps_set (i := 5) sc_law_mixed.nd rfl (Or.inl rfl) (pe_op op_mod (pe_callTy LL.call_intI (by rfl) T.z_int (by decide +kernel) (pa_cons (pe_op op_mul (pe_op op_add (pe_op op_add (pv 0) (pe_int)) (pe_op op_mul (pe_op op_add (pe_op op_mul (pe_int) (pv 1)) (pv 4)) (pe_int))) (pe_int)) pa_nil)) (pe_int))) (pss_cons (ps_set (i := 6) sc_law_mixed.nd rfl (Or.inl rfl) (pe_op op_mod (pe_callTy LL.call_intI (by rfl) T.z_int (by decide +kernel) (pa_cons (pe_op op_add (pe_op op_add (pe_op op_mul (pv 5) (pv 5)) (pe_op op_mul (pe_op op_fdiv (pv 5) (pe_int)) (pe_int))) (pv 1)) pa_nil)) (pe_int))) (pss_one (ps_set (i := 3) sc_law_mixed.nd rfl (Or.inl rfl) (pe_op op_add (pe_op op_mul (pv 3) (pe_int)) (pe_op op_fdiv (pv 6) (pe_int)))))))) (pss_one (ps_ret (pe_op op_mod (pe_callTy LL.call_intI (by rfl) T.z_int (by decide +kernel) (pa_cons (pv 3) pa_nil)) (pv 2)))))), ?_⟩)
  · obtain ⟨_, _, _, rfl, _⟩ := h
    rfl
  · obtain ⟨a, b, m, rfl, hm, q⟩ := h
    simp only [tSeq, tAsg, tRet, tRetN, tDrop, tNext, tVar, tC, gName, tOp, tUn, rI, rI0, rU, tIfS, tTest, tB, tIf, tAnd, tOr, tNot, tAndV, tOrV, tNotV, tCall, tCons, tNil, tCB, tLst, tTup, tChain, CMul, CDiv, CPow, rEq, rNe, gSub, L2.start, LL.cxK0, LL.cxK1, List.map_cons, List.map_nil, List.length_cons, List.length_nil, List.replicate_succ, List.replicate_zero, List.cons_append, List.nil_append, List.append_nil, List.getElem?_cons_zero, List.getElem?_cons_succ, List.set_cons_zero, List.set_cons_succ, Nat.add_sub_cancel, Nat.reduceAdd, Nat.reduceSub, Option.some.injEq, V.int.injEq, V.bl.injEq, V.ref.injEq, V.str.injEq, List.cons.injEq, and_true, true_and, and_false, false_and, exists_eq_left, exists_eq_left', exists_and_left, exists_and_right, exists_eq, exists_eq', LL.if_dec, reduceCtorEq, exists_false, exists_const, or_false, false_or, if_true, if_false, LL.rInt1, LL.rMx, LL.rMn, and_assoc, Int.reduceNeg, Int.reduceLT, Int.reduceLE, Int.reduceMul, Int.reduceAdd, Int.reduceSub, Int.reducePow, Int.reduceToNat, Nat.reducePow, Nat.reduceLT, true_or, or_true, Bool.not_true, Bool.not_false, Bool.false_eq_true, Bool.or_false, Bool.or_true, Bool.true_or, Bool.false_or, decide_true, decide_false, not_true_eq_false, not_false_eq_true, LL.scal_int, LL.scal_bl, LL.scal_str, LL.isInt, LL.isBl, LL.isStr, LL.isLst, LL.isTup, LL.isDic, N_law_mixed]
    refine use_forR (j := 2) (fun Q q => q) (by decide) (by decide) (fun i σ' H' => H' = H ∧ ∃ (v : Int) (x1 x2 x3 : Option V), σ' = [some (.int a), some (.int b), some (.int m), some (.int v), x1, x2, x3]) ⟨rfl, _, _, _, _, rfl⟩ ?_ ?_
    · rintro i σ' H' hi ⟨rfl, v, x1, x2, x3, rfl⟩
      simp only [tSeq, tAsg, tRet, tRetN, tDrop, tNext, tVar, tC, gName, tOp, tUn, rI, rI0, rU, tIfS, tTest, tB, tIf, tAnd, tOr, tNot, tAndV, tOrV, tNotV, tCall, tCons, tNil, tCB, tLst, tTup, tChain, CMul, CDiv, CPow, rEq, rNe, gSub, L2.start, LL.cxK0, LL.cxK1, List.map_cons, List.map_nil, List.length_cons, List.length_nil, List.replicate_succ, List.replicate_zero, List.cons_append, List.nil_append, List.append_nil, List.getElem?_cons_zero, List.getElem?_cons_succ, List.set_cons_zero, List.set_cons_succ, Nat.add_sub_cancel, Nat.reduceAdd, Nat.reduceSub, Option.some.injEq, V.int.injEq, V.bl.injEq, V.ref.injEq, V.str.injEq, List.cons.injEq, and_true, true_and, and_false, false_and, exists_eq_left, exists_eq_left', exists_and_left, exists_and_right, exists_eq, exists_eq', LL.if_dec, reduceCtorEq, exists_false, exists_const, or_false, false_or, if_true, if_false, LL.rInt1, LL.rMx, LL.rMn, and_assoc, Int.reduceNeg, Int.reduceLT, Int.reduceLE, Int.reduceMul, Int.reduceAdd, Int.reduceSub, Int.reducePow, Int.reduceToNat, Nat.reducePow, Nat.reduceLT, true_or, or_true, Bool.not_true, Bool.not_false, Bool.false_eq_true, Bool.or_false, Bool.or_true, Bool.true_or, Bool.false_or, decide_true, decide_false, not_true_eq_false, not_false_eq_true, LL.scal_int, LL.scal_bl, LL.scal_str, LL.isInt, LL.isBl, LL.isStr, LL.isLst, LL.isTup, LL.isDic]
      have h1 := Int.emod_nonneg ((a + 7 + (2 * b + (0 + (i : Int))) * 1000003) * 48271) (show (2147483647 : Int) ≠ 0 by decide)
      have h2 := Int.emod_lt_of_pos ((a + 7 + (2 * b + (0 + (i : Int))) * 1000003) * 48271) (show (0 : Int) < 2147483647 by decide)
      exact Or.inl ⟨by omega, by omega⟩
    · rintro σ' H' ⟨rfl, v, x1, x2, x3, rfl⟩
      simp only [tSeq, tAsg, tRet, tRetN, tDrop, tNext, tVar, tC, gName, tOp, tUn, rI, rI0, rU, tIfS, tTest, tB, tIf, tAnd, tOr, tNot, tAndV, tOrV, tNotV, tCall, tCons, tNil, tCB, tLst, tTup, tChain, CMul, CDiv, CPow, rEq, rNe, gSub, L2.start, LL.cxK0, LL.cxK1, List.map_cons, List.map_nil, List.length_cons, List.length_nil, List.replicate_succ, List.replicate_zero, List.cons_append, List.nil_append, List.append_nil, List.getElem?_cons_zero, List.getElem?_cons_succ, List.set_cons_zero, List.set_cons_succ, Nat.add_sub_cancel, Nat.reduceAdd, Nat.reduceSub, Option.some.injEq, V.int.injEq, V.bl.injEq, V.ref.injEq, V.str.injEq, List.cons.injEq, and_true, true_and, and_false, false_and, exists_eq_left, exists_eq_left', exists_and_left, exists_and_right, exists_eq, exists_eq', LL.if_dec, reduceCtorEq, exists_false, exists_const, or_false, false_or, if_true, if_false, LL.rInt1, LL.rMx, LL.rMn, and_assoc, Int.reduceNeg, Int.reduceLT, Int.reduceLE, Int.reduceMul, Int.reduceAdd, Int.reduceSub, Int.reducePow, Int.reduceToNat, Nat.reducePow, Nat.reduceLT, true_or, or_true, Bool.not_true, Bool.not_false, Bool.false_eq_true, Bool.or_false, Bool.or_true, Bool.true_or, Bool.false_or, decide_true, decide_false, not_true_eq_false, not_false_eq_true, LL.scal_int, LL.scal_bl, LL.scal_str, LL.isInt, LL.isBl, LL.isStr, LL.isLst, LL.isTup, LL.isDic]
      exact ⟨hm, q _ (Int.emod_nonneg _ (by omega)) (Int.emod_lt_of_pos _ hm)⟩
theorem ok_law_next_cell (T : Tx K mg) : FnOk P w K mg base CX0 1 (He.ga K "_law_next_cell") T.fd_law_next_cell P_law_next_cell sp_law_next_cell := by
  refine T.F_law_next_cell.ok sc_law_next_cell (fun vs H Q E h => ?_) (fun cdv A outer s H vs Q E hr h => ⟨_, PSs.nox (pss_cons (ps_set (i := 1) sc_law_next_cell.nd rfl (Or.inl rfl) (pe_ix ix_list (pv 0) (pe_int) (fun _ _ => rfl))) (pss_cons (ps_set (i := 2) sc_law_next_cell.nd rfl (Or.inl rfl) (pe_ix ix_list (pv 0) (pe_int) (fun _ _ => rfl))) (pss_one (ps_if (pt_cmpR op_lt (pe_ix ix_list (pv 2) (pe_int) (fun _ _ => rfl)) (pe_callB LL.call_lenL (by rfl) T.z_len (by decide +kernel) (pa_cons (pv 1) pa_nil)) (nomark _)) (pss_cons (ps_set (i := 3) sc_law_next_cell.nd rfl (Or.inl rfl) (pe_callTy LL.call_intI (by rfl) T.z_int (by decide +kernel) (pa_cons (pe_ix ix_list (pv 1) (pe_ix ix_list (pv 2) (pe_int) (fun _ _ => rfl)) (fun _ _ => rfl)) pa_nil))) (pss_cons (ps_asg (pe_op op_add (pe_ix ix_list (pv 2) (pe_int) (fun _ _ => rfl)) (pe_int)) (pg_sub (pv 2) (pe_int) set_list)) (pss_cons (ps_asg (pe_op op_mod (pe_callTy LL.call_intI (by rfl) T.z_int (by decide +kernel) (pa_cons (pe_op op_add (pe_op op_add (pe_op op_mul (pe_ix ix_list (pv 2) (pe_int) (fun _ _ => rfl)) (pe_int)) (pe_op op_mod (pv 3) (pe_int))) (pe_int)) pa_nil)) (pe_int)) (pg_sub (pv 2) (pe_int) set_list)) (pss_one (ps_if (pt_cmpR op_ge (pv 3) (pe_op op_pow (pe_int) (pe_int)) (nomark _)) (pss_one (ps_asg (pv 3) (pg_sub (pv 2) (pe_int) set_list))) (pss_one (ps_asg (pe_int) (pg_sub (pv 2) (pe_int) set_list)))))))) pss_nil)))), ?_⟩)
  · obtain ⟨_, _, rfl, _⟩ := h
    rfl
  · obtain ⟨d, s, rfl, D, q⟩ := h
    obtain ⟨⟨c, hd, hcs, ns, hc⟩, ⟨i, v, k, t, gg, hi, hs⟩, hds⟩ := _root_.id D
    simp only [tSeq, tAsg, tRet, tRetN, tDrop, tNext, tVar, tC, gName, tOp, tUn, rI, rI0, rU, tIfS, tTest, tB, tIf, tAnd, tOr, tNot, tAndV, tOrV, tNotV, tCall, tCons, tNil, tCB, tLst, tTup, tChain, CMul, CDiv, CPow, rEq, rNe, gSub, L2.start, LL.cxK0, LL.cxK1, List.map_cons, List.map_nil, List.length_cons, List.length_nil, List.replicate_succ, List.replicate_zero, List.cons_append, List.nil_append, List.append_nil, List.getElem?_cons_zero, List.getElem?_cons_succ, List.set_cons_zero, List.set_cons_succ, Nat.add_sub_cancel, Nat.reduceAdd, Nat.reduceSub, Option.some.injEq, V.int.injEq, V.bl.injEq, V.ref.injEq, V.str.injEq, List.cons.injEq, and_true, true_and, and_false, false_and, exists_eq_left, exists_eq_left', exists_and_left, exists_and_right, exists_eq, exists_eq', LL.if_dec, reduceCtorEq, exists_false, exists_const, or_false, false_or, if_true, if_false, LL.rInt1, LL.rMx, LL.rMn, and_assoc, Int.reduceNeg, Int.reduceLT, Int.reduceLE, Int.reduceMul, Int.reduceAdd, Int.reduceSub, Int.reducePow, Int.reduceToNat, Nat.reducePow, Nat.reduceLT, true_or, or_true, Bool.not_true, Bool.not_false, Bool.false_eq_true, Bool.or_false, Bool.or_true, Bool.true_or, Bool.false_or, decide_true, decide_false, not_true_eq_false, not_false_eq_true, LL.scal_int, LL.scal_bl, LL.scal_str, LL.isInt, LL.isBl, LL.isStr, LL.isLst, LL.isTup, LL.isDic, N_law_next_cell]
    refine use_ixL hd rfl (use_ixL hd rfl (use_ixL hs rfl ?_))
    refine use_lenL hc ?_
    simp only [tSeq, tAsg, tRet, tRetN, tDrop, tNext, tVar, tC, gName, tOp, tUn, rI, rI0, rU, tIfS, tTest, tB, tIf, tAnd, tOr, tNot, tAndV, tOrV, tNotV, tCall, tCons, tNil, tCB, tLst, tTup, tChain, CMul, CDiv, CPow, rEq, rNe, gSub, L2.start, LL.cxK0, LL.cxK1, List.map_cons, List.map_nil, List.length_cons, List.length_nil, List.replicate_succ, List.replicate_zero, List.cons_append, List.nil_append, List.append_nil, List.getElem?_cons_zero, List.getElem?_cons_succ, List.set_cons_zero, List.set_cons_succ, Nat.add_sub_cancel, Nat.reduceAdd, Nat.reduceSub, Option.some.injEq, V.int.injEq, V.bl.injEq, V.ref.injEq, V.str.injEq, List.cons.injEq, and_true, true_and, and_false, false_and, exists_eq_left, exists_eq_left', exists_and_left, exists_and_right, exists_eq, exists_eq', LL.if_dec, reduceCtorEq, exists_false, exists_const, or_false, false_or, if_true, if_false, LL.rInt1, LL.rMx, LL.rMn, and_assoc, Int.reduceNeg, Int.reduceLT, Int.reduceLE, Int.reduceMul, Int.reduceAdd, Int.reduceSub, Int.reducePow, Int.reduceToNat, Nat.reducePow, Nat.reduceLT, true_or, or_true, Bool.not_true, Bool.not_false, Bool.false_eq_true, Bool.or_false, Bool.or_true, Bool.true_or, Bool.false_or, decide_true, decide_false, not_true_eq_false, not_false_eq_true, LL.scal_int, LL.scal_bl, LL.scal_str, LL.isInt, LL.isBl, LL.isStr, LL.isLst, LL.isTup, LL.isDic]
    split
    · rename_i hlt
      obtain ⟨n, hn⟩ := atI_int hi (by simpa using hlt)
      refine use_ixL hs rfl (use_ixL hc hn ?_)
      simp only [tSeq, tAsg, tRet, tRetN, tDrop, tNext, tVar, tC, gName, tOp, tUn, rI, rI0, rU, tIfS, tTest, tB, tIf, tAnd, tOr, tNot, tAndV, tOrV, tNotV, tCall, tCons, tNil, tCB, tLst, tTup, tChain, CMul, CDiv, CPow, rEq, rNe, gSub, L2.start, LL.cxK0, LL.cxK1, List.map_cons, List.map_nil, List.length_cons, List.length_nil, List.replicate_succ, List.replicate_zero, List.cons_append, List.nil_append, List.append_nil, List.getElem?_cons_zero, List.getElem?_cons_succ, List.set_cons_zero, List.set_cons_succ, Nat.add_sub_cancel, Nat.reduceAdd, Nat.reduceSub, Option.some.injEq, V.int.injEq, V.bl.injEq, V.ref.injEq, V.str.injEq, List.cons.injEq, and_true, true_and, and_false, false_and, exists_eq_left, exists_eq_left', exists_and_left, exists_and_right, exists_eq, exists_eq', LL.if_dec, reduceCtorEq, exists_false, exists_const, or_false, false_or, if_true, if_false, LL.rInt1, LL.rMx, LL.rMn, and_assoc, Int.reduceNeg, Int.reduceLT, Int.reduceLE, Int.reduceMul, Int.reduceAdd, Int.reduceSub, Int.reducePow, Int.reduceToNat, Nat.reducePow, Nat.reduceLT, true_or, or_true, Bool.not_true, Bool.not_false, Bool.false_eq_true, Bool.or_false, Bool.or_true, Bool.true_or, Bool.false_or, decide_true, decide_false, not_true_eq_false, not_false_eq_true, LL.scal_int, LL.scal_bl, LL.scal_str, LL.isInt, LL.isBl, LL.isStr, LL.isLst, LL.isTup, LL.isDic]
      refine use_ixL hs rfl ?_
      simp only [tSeq, tAsg, tRet, tRetN, tDrop, tNext, tVar, tC, gName, tOp, tUn, rI, rI0, rU, tIfS, tTest, tB, tIf, tAnd, tOr, tNot, tAndV, tOrV, tNotV, tCall, tCons, tNil, tCB, tLst, tTup, tChain, CMul, CDiv, CPow, rEq, rNe, gSub, L2.start, LL.cxK0, LL.cxK1, List.map_cons, List.map_nil, List.length_cons, List.length_nil, List.replicate_succ, List.replicate_zero, List.cons_append, List.nil_append, List.append_nil, List.getElem?_cons_zero, List.getElem?_cons_succ, List.set_cons_zero, List.set_cons_succ, Nat.add_sub_cancel, Nat.reduceAdd, Nat.reduceSub, Option.some.injEq, V.int.injEq, V.bl.injEq, V.ref.injEq, V.str.injEq, List.cons.injEq, and_true, true_and, and_false, false_and, exists_eq_left, exists_eq_left', exists_and_left, exists_and_right, exists_eq, exists_eq', LL.if_dec, reduceCtorEq, exists_false, exists_const, or_false, false_or, if_true, if_false, LL.rInt1, LL.rMx, LL.rMn, and_assoc, Int.reduceNeg, Int.reduceLT, Int.reduceLE, Int.reduceMul, Int.reduceAdd, Int.reduceSub, Int.reducePow, Int.reduceToNat, Nat.reducePow, Nat.reduceLT, true_or, or_true, Bool.not_true, Bool.not_false, Bool.false_eq_true, Bool.or_false, Bool.or_true, Bool.true_or, Bool.false_or, decide_true, decide_false, not_true_eq_false, not_false_eq_true, LL.scal_int, LL.scal_bl, LL.scal_str, LL.isInt, LL.isBl, LL.isStr, LL.isLst, LL.isTup, LL.isDic]
      refine use_setL hs rfl ?_
      refine use_ixL upd_same rfl ?_
      simp only [tSeq, tAsg, tRet, tRetN, tDrop, tNext, tVar, tC, gName, tOp, tUn, rI, rI0, rU, tIfS, tTest, tB, tIf, tAnd, tOr, tNot, tAndV, tOrV, tNotV, tCall, tCons, tNil, tCB, tLst, tTup, tChain, CMul, CDiv, CPow, rEq, rNe, gSub, L2.start, LL.cxK0, LL.cxK1, List.map_cons, List.map_nil, List.length_cons, List.length_nil, List.replicate_succ, List.replicate_zero, List.cons_append, List.nil_append, List.append_nil, List.getElem?_cons_zero, List.getElem?_cons_succ, List.set_cons_zero, List.set_cons_succ, Nat.add_sub_cancel, Nat.reduceAdd, Nat.reduceSub, Option.some.injEq, V.int.injEq, V.bl.injEq, V.ref.injEq, V.str.injEq, List.cons.injEq, and_true, true_and, and_false, false_and, exists_eq_left, exists_eq_left', exists_and_left, exists_and_right, exists_eq, exists_eq', LL.if_dec, reduceCtorEq, exists_false, exists_const, or_false, false_or, if_true, if_false, LL.rInt1, LL.rMx, LL.rMn, and_assoc, Int.reduceNeg, Int.reduceLT, Int.reduceLE, Int.reduceMul, Int.reduceAdd, Int.reduceSub, Int.reducePow, Int.reduceToNat, Nat.reducePow, Nat.reduceLT, true_or, or_true, Bool.not_true, Bool.not_false, Bool.false_eq_true, Bool.or_false, Bool.or_true, Bool.true_or, Bool.false_or, decide_true, decide_false, not_true_eq_false, not_false_eq_true, LL.scal_int, LL.scal_bl, LL.scal_str, LL.isInt, LL.isBl, LL.isStr, LL.isLst, LL.isTup, LL.isDic]
      refine use_setL upd_same rfl ?_
      rw [upd_upd]
      refine ⟨by decide, ?_⟩
      split
      · exact use_setL upd_same rfl (by rw [upd_upd]; exact q _ (Aft.st D (by omega)))
      · exact use_setL upd_same rfl (by rw [upd_upd]; exact q _ (Aft.st D (by omega)))
    · exact q _ (Aft.refl D)
theorem ok_law_take (T : Tx K mg) : FnOk P w K mg base CX0 2 (He.ga K "_law_take") T.fd_law_take P_law_take sp_law_take := by
  refine T.F_law_take.ok sc_law_take (fun vs H Q E h => ?_) (fun cdv A outer s H vs Q E hr h => ⟨_, PSs.nox (pss_cons (ps_if (pt_cmpR op_lt (pv 1) (pe_int) (nomark _)) (pss_one (ps_ret (pe_int))) pss_nil) (pss_cons (ps_set (i := 2) sc_law_take.nd rfl (Or.inl rfl) (pe_ix ix_list (pv 0) (pe_int) (fun _ _ => rfl))) (pss_cons (ps_asg (pe_op op_add (pe_ix ix_list (pv 2) (pe_int) (fun _ _ => rfl)) (pe_int)) (pg_sub (pv 2) (pe_int) set_list)) (pss_cons (ps_if (PW.pt (pw_and (pt_cmpR op_lt (pe_ix ix_list (pv 2) (pe_int) (fun _ _ => rfl)) (pe_int) (nomark _)) (pw_and1 (pt_cmpR op_lt (pe_ix ix_list (pv 2) (pe_int) (fun _ _ => rfl)) (pe_int) (nomark _))))) (pss_one (ps_expr (pe_call (ok_law_next_cell T) hr rfl T.g_law_next_cell T.F_law_next_cell.kp (b_law_next_cell T) .nil pass0 (pa_cons (pv 0) pa_nil)))) pss_nil) (pss_cons (ps_if (pt_cmpR op_gt (pe_ix ix_list (pv 2) (pe_int) (fun _ _ => rfl)) (pe_int) (nomark _)) (pss_cons (ps_set (i := 3) sc_law_take.nd rfl (Or.inl rfl) (pe_op op_mod (pe_callTy LL.call_intI (by rfl) T.z_int (by decide +kernel) (pa_cons (pe_ix ix_list (pv 2) (pe_int) (fun _ _ => rfl)) pa_nil)) (pv 1))) (pss_cons (ps_asg (pe_op op_fdivW (pe_ix ix_list (pv 2) (pe_int) (fun _ _ => rfl)) (pv 1)) (pg_sub (pv 2) (pe_int) set_list)) (pss_one (ps_ret (pv 3))))) pss_nil) (pss_cons (ps_if (pt_cmpR op_gt (pe_ix ix_list (pv 2) (pe_int) (fun _ _ => rfl)) (pe_int) (nomark _)) (pss_one (ps_asg (pe_op op_sub (pe_ix ix_list (pv 2) (pe_int) (fun _ _ => rfl)) (pe_int)) (pg_sub (pv 2) (pe_int) set_list))) pss_nil) (pss_one (ps_ret (pe_call (ok_law_mixed T) hr rfl T.g_law_mixed T.F_law_mixed.kp (b_law_mixed T) .nil pass0 (pa_cons (pe_ix ix_list (pv 2) (pe_int) (fun _ _ => rfl)) (pa_cons (pe_ix ix_list (pv 2) (pe_int) (fun _ _ => rfl)) (pa_cons (pv 1) pa_nil)))))))))))), ?_⟩)
  · obtain ⟨_, _, _, rfl, _⟩ := h
    rfl
  · obtain ⟨d, s, m, rfl, D, hmb, q⟩ := h
    obtain ⟨⟨c, hd, hcs, ns, hc⟩, ⟨i, v, k, t, gg, hi, hs⟩, hds⟩ := _root_.id D
    simp only [tSeq, tAsg, tRet, tRetN, tDrop, tNext, tVar, tC, gName, tOp, tUn, rI, rI0, rU, tIfS, tTest, tB, tIf, tAnd, tOr, tNot, tAndV, tOrV, tNotV, tCall, tCons, tNil, tCB, tLst, tTup, tChain, CMul, CDiv, CPow, rEq, rNe, gSub, L2.start, LL.cxK0, LL.cxK1, List.map_cons, List.map_nil, List.length_cons, List.length_nil, List.replicate_succ, List.replicate_zero, List.cons_append, List.nil_append, List.append_nil, List.getElem?_cons_zero, List.getElem?_cons_succ, List.set_cons_zero, List.set_cons_succ, Nat.add_sub_cancel, Nat.reduceAdd, Nat.reduceSub, Option.some.injEq, V.int.injEq, V.bl.injEq, V.ref.injEq, V.str.injEq, List.cons.injEq, and_true, true_and, and_false, false_and, exists_eq_left, exists_eq_left', exists_and_left, exists_and_right, exists_eq, exists_eq', LL.if_dec, reduceCtorEq, exists_false, exists_const, or_false, false_or, if_true, if_false, LL.rInt1, LL.rMx, LL.rMn, and_assoc, Int.reduceNeg, Int.reduceLT, Int.reduceLE, Int.reduceMul, Int.reduceAdd, Int.reduceSub, Int.reducePow, Int.reduceToNat, Nat.reducePow, Nat.reduceLT, true_or, or_true, Bool.not_true, Bool.not_false, Bool.false_eq_true, Bool.or_false, Bool.or_true, Bool.true_or, Bool.false_or, decide_true, decide_false, not_true_eq_false, not_false_eq_true, LL.scal_int, LL.scal_bl, LL.scal_str, LL.isInt, LL.isBl, LL.isStr, LL.isLst, LL.isTup, LL.isDic, N_law_take]
    split
    · exact q _ _ (Aft.refl D) (by decide) (.inr rfl)
    · rename_i hm
      have hm0 : 0 < m := by omega
      refine use_ixL hd rfl (use_ixL hs rfl ?_)
      simp only [tSeq, tAsg, tRet, tRetN, tDrop, tNext, tVar, tC, gName, tOp, tUn, rI, rI0, rU, tIfS, tTest, tB, tIf, tAnd, tOr, tNot, tAndV, tOrV, tNotV, tCall, tCons, tNil, tCB, tLst, tTup, tChain, CMul, CDiv, CPow, rEq, rNe, gSub, L2.start, LL.cxK0, LL.cxK1, List.map_cons, List.map_nil, List.length_cons, List.length_nil, List.replicate_succ, List.replicate_zero, List.cons_append, List.nil_append, List.append_nil, List.getElem?_cons_zero, List.getElem?_cons_succ, List.set_cons_zero, List.set_cons_succ, Nat.add_sub_cancel, Nat.reduceAdd, Nat.reduceSub, Option.some.injEq, V.int.injEq, V.bl.injEq, V.ref.injEq, V.str.injEq, List.cons.injEq, and_true, true_and, and_false, false_and, exists_eq_left, exists_eq_left', exists_and_left, exists_and_right, exists_eq, exists_eq', LL.if_dec, reduceCtorEq, exists_false, exists_const, or_false, false_or, if_true, if_false, LL.rInt1, LL.rMx, LL.rMn, and_assoc, Int.reduceNeg, Int.reduceLT, Int.reduceLE, Int.reduceMul, Int.reduceAdd, Int.reduceSub, Int.reducePow, Int.reduceToNat, Nat.reducePow, Nat.reduceLT, true_or, or_true, Bool.not_true, Bool.not_false, Bool.false_eq_true, Bool.or_false, Bool.or_true, Bool.true_or, Bool.false_or, decide_true, decide_false, not_true_eq_false, not_false_eq_true, LL.scal_int, LL.scal_bl, LL.scal_str, LL.isInt, LL.isBl, LL.isStr, LL.isLst, LL.isTup, LL.isDic]
      refine use_setL hs rfl (use_ixL upd_same rfl ?_)
      simp only [tSeq, tAsg, tRet, tRetN, tDrop, tNext, tVar, tC, gName, tOp, tUn, rI, rI0, rU, tIfS, tTest, tB, tIf, tAnd, tOr, tNot, tAndV, tOrV, tNotV, tCall, tCons, tNil, tCB, tLst, tTup, tChain, CMul, CDiv, CPow, rEq, rNe, gSub, L2.start, LL.cxK0, LL.cxK1, List.map_cons, List.map_nil, List.length_cons, List.length_nil, List.replicate_succ, List.replicate_zero, List.cons_append, List.nil_append, List.append_nil, List.getElem?_cons_zero, List.getElem?_cons_succ, List.set_cons_zero, List.set_cons_succ, Nat.add_sub_cancel, Nat.reduceAdd, Nat.reduceSub, Option.some.injEq, V.int.injEq, V.bl.injEq, V.ref.injEq, V.str.injEq, List.cons.injEq, and_true, true_and, and_false, false_and, exists_eq_left, exists_eq_left', exists_and_left, exists_and_right, exists_eq, exists_eq', LL.if_dec, reduceCtorEq, exists_false, exists_const, or_false, false_or, if_true, if_false, LL.rInt1, LL.rMx, LL.rMn, and_assoc, Int.reduceNeg, Int.reduceLT, Int.reduceLE, Int.reduceMul, Int.reduceAdd, Int.reduceSub, Int.reducePow, Int.reduceToNat, Nat.reducePow, Nat.reduceLT, true_or, or_true, Bool.not_true, Bool.not_false, Bool.false_eq_true, Bool.or_false, Bool.or_true, Bool.true_or, Bool.false_or, decide_true, decide_false, not_true_eq_false, not_false_eq_true, LL.scal_int, LL.scal_bl, LL.scal_str, LL.isInt, LL.isBl, LL.isStr, LL.isLst, LL.isTup, LL.isDic]
      have a1 : Aft d s H (upd H s (.lst [.int i, .int v, .int k, .int (t + 1), .int gg])) := Aft.st D hi
      show (if v < 2 then rIxL K (V.ref s) (V.int 2) (upd H s (.lst [.int i, .int v, .int k, .int (t + 1), .int gg])) _ else rIxL K (V.ref s) (V.int 1) (upd H s (.lst [.int i, .int v, .int k, .int (t + 1), .int gg])) _)
      generalize upd H s (.lst [.int i, .int v, .int k, .int (t + 1), .int gg]) = H1 at a1 ⊢
      clear hs
      have tail : ∀ H1, Aft d s H H1 → rIxL K (V.ref s) (V.int 1) H1 (fun x H1 => ∃ i, x = V.int i ∧ if 1 < i then rIxL K (V.ref s) (V.int 1) H1 (fun x H1 => ∃ i, x = V.int i ∧ 0 < m ∧ rIxL K (V.ref s) (V.int 1) H1 (fun x H1 => ∃ i_1, x = V.int i_1 ∧ CDivW i_1 m ∧ rSetL (V.ref s) (V.int 1) (V.int (i_1 / m)) H1 fun H3 => Q (V.int (i % m)) H3))
          else rIxL K (V.ref s) (V.int 2) H1 (fun x H1 => ∃ i, x = V.int i ∧ if 0 < i then rIxL K (V.ref s) (V.int 2) H1 (fun x H1 => ∃ i, x = V.int i ∧ rSetL (V.ref s) (V.int 2) (V.int (i - 1)) H1 fun H3 => rIxL K (V.ref s) (V.int 4) H3 fun x H1 => rIxL K (V.ref s) (V.int 3) H1 fun x_1 H1 => sp_law_mixed [x, x_1, V.int m] H1 Q E0)
            else rIxL K (V.ref s) (V.int 4) H1 fun x H1 => rIxL K (V.ref s) (V.int 3) H1 fun x_1 H1 => sp_law_mixed [x, x_1, V.int m] H1 Q E0)) := by
        intro H2 a2
        obtain ⟨⟨c2, hd2, hcs2, ns2, hc2⟩, ⟨i2, v2, k2, t2, gg2, hi2, hs2⟩, _⟩ := _root_.id a2.dr
        refine use_ixL hs2 rfl ⟨_, rfl, ?_⟩
        split
        · refine use_ixL hs2 rfl ⟨_, rfl, hm0, use_ixL hs2 rfl ⟨_, rfl, wide_div hm0 hmb (by decide) (by decide), ?_⟩⟩
          exact use_setL hs2 rfl (q _ _ (a2.st2 hi2) (Int.emod_nonneg _ (by omega)) (.inl (Int.emod_lt_of_pos _ hm0)))
        · refine use_ixL hs2 rfl ⟨_, rfl, ?_⟩
          split
          · refine use_ixL hs2 rfl ⟨_, rfl, use_setL hs2 rfl (use_ixL upd_same rfl (use_ixL upd_same rfl ?_))⟩
            exact ⟨_, _, _, rfl, hm0, fun v h0 h1 => q _ _ (a2.st2 hi2) h0 (.inl h1)⟩
          · refine use_ixL hs2 rfl (use_ixL hs2 rfl ?_)
            exact ⟨_, _, _, rfl, hm0, fun v h0 h1 => q _ _ a2 h0 (.inl h1)⟩
      split
      · obtain ⟨_, ⟨i3, v3, k3, t3, gg3, hi3, hs3⟩, _⟩ := _root_.id a1.dr
        refine use_ixL hs3 rfl ⟨_, rfl, ?_⟩
        split
        · exact ⟨d, s, rfl, a1.dr, fun H' a2 => tail _ (a1.trans a2)⟩
        · exact tail _ a1
      · exact tail _ a1
def sp_law_between : Sp := fun vs H Q _ => ∃ (d s : Addr) (lo hi : Int), vs = [.ref d, .int lo, .int hi] ∧ Drw d s H ∧ (hi - lo + 1).natAbs < 2 ^ 4000 ∧ ∀ v H', Aft d s H H' → Drw d s H' → lo ≤ v → (v ≤ hi ∨ v = lo) → Q (.int v) H'
theorem use_between {d s : Addr} {lo hi : Int} {H : Hp} {Q : VK} {E : XK} (D : Drw d s H) (hm : (hi - lo + 1).natAbs < 2 ^ 4000) (q : ∀ v H', Aft d s H H' → Drw d s H' → lo ≤ v → (v ≤ hi ∨ v = lo) → Q (.int v) H') : sp_law_between [.ref d, .int lo, .int hi] H Q E :=
  ⟨d, s, lo, hi, rfl, D, hm, q⟩
theorem big_of {n : Int} (h0 : -1000000000000 ≤ n) (h : n ≤ 1000000000000) : n.natAbs < 2 ^ 4000 := Nat.lt_of_le_of_lt (show n.natAbs ≤ 1000000000000 by omega) (by decide +kernel)

theorem ok_law_between (T : Tx K mg) : FnOk P w K mg base CX0 3 (He.ga K "_law_between") T.fd_law_between P_law_between sp_law_between := by
  refine T.F_law_between.ok sc_law_between (fun vs H Q E h => ?_) (fun cdv A outer s H vs Q E hr h => ⟨_, PSs.nox (pss_cons (ps_if (pt_cmpR op_le (pv 2) (pv 1) (nomark _)) (pss_one (ps_ret (pv 1))) pss_nil) (pss_cons (ps_set (i := 3) sc_law_between.nd rfl (Or.inl rfl) (pe_call (ok_law_take T) hr rfl T.g_law_take T.F_law_take.kp (b_law_take T) .nil pass0 (pa_cons (pv 0) (pa_cons (pe_int) pa_nil)))) (pss_cons (ps_if (pt_cmpR op_eq (pv 3) (pe_int) (nomark _)) (pss_one (ps_ret (pv 1))) pss_nil) (pss_cons (ps_if (pt_cmpR op_eq (pv 3) (pe_int) (nomark _)) (pss_one (ps_ret (pv 2))) pss_nil) (pss_one (ps_ret (pe_op op_add (pv 1) (pe_call (ok_law_take T) hr rfl T.g_law_take T.F_law_take.kp (b_law_take T) .nil pass0 (pa_cons (pv 0) (pa_cons (pe_op op_add (pe_op op_sub (pv 2) (pv 1)) (pe_int)) pa_nil)))))))))), ?_⟩)
  · obtain ⟨_, _, _, _, rfl, _⟩ := h
    rfl
  · obtain ⟨d, s, lo, hi, rfl, D, hb, q⟩ := h
    simp only [tSeq, tAsg, tRet, tRetN, tDrop, tNext, tVar, tC, gName, tOp, tUn, rI, rI0, rU, tIfS, tTest, tB, tIf, tAnd, tOr, tNot, tAndV, tOrV, tNotV, tCall, tCons, tNil, tCB, tLst, tTup, tChain, CMul, CDiv, CPow, rEq, rNe, gSub, L2.start, LL.cxK0, LL.cxK1, List.map_cons, List.map_nil, List.length_cons, List.length_nil, List.replicate_succ, List.replicate_zero, List.cons_append, List.nil_append, List.append_nil, List.getElem?_cons_zero, List.getElem?_cons_succ, List.set_cons_zero, List.set_cons_succ, Nat.add_sub_cancel, Nat.reduceAdd, Nat.reduceSub, Option.some.injEq, V.int.injEq, V.bl.injEq, V.ref.injEq, V.str.injEq, List.cons.injEq, and_true, true_and, and_false, false_and, exists_eq_left, exists_eq_left', exists_and_left, exists_and_right, exists_eq, exists_eq', LL.if_dec, reduceCtorEq, exists_false, exists_const, or_false, false_or, if_true, if_false, LL.rInt1, LL.rMx, LL.rMn, and_assoc, Int.reduceNeg, Int.reduceLT, Int.reduceLE, Int.reduceMul, Int.reduceAdd, Int.reduceSub, Int.reducePow, Int.reduceToNat, Nat.reducePow, Nat.reduceLT, true_or, or_true, Bool.not_true, Bool.not_false, Bool.false_eq_true, Bool.or_false, Bool.or_true, Bool.true_or, Bool.false_or, decide_true, decide_false, not_true_eq_false, not_false_eq_true, LL.scal_int, LL.scal_bl, LL.scal_str, LL.isInt, LL.isBl, LL.isStr, LL.isLst, LL.isTup, LL.isDic, N_law_between]
    split
    · exact q _ _ (Aft.refl D) D (by omega) (.inr rfl)
    · rename_i hlt
      refine use_take D (by decide +kernel) fun v H' a D' h0 h1 => ?_
      simp only [tSeq, tAsg, tRet, tRetN, tDrop, tNext, tVar, tC, gName, tOp, tUn, rI, rI0, rU, tIfS, tTest, tB, tIf, tAnd, tOr, tNot, tAndV, tOrV, tNotV, tCall, tCons, tNil, tCB, tLst, tTup, tChain, CMul, CDiv, CPow, rEq, rNe, gSub, L2.start, LL.cxK0, LL.cxK1, List.map_cons, List.map_nil, List.length_cons, List.length_nil, List.replicate_succ, List.replicate_zero, List.cons_append, List.nil_append, List.append_nil, List.getElem?_cons_zero, List.getElem?_cons_succ, List.set_cons_zero, List.set_cons_succ, Nat.add_sub_cancel, Nat.reduceAdd, Nat.reduceSub, Option.some.injEq, V.int.injEq, V.bl.injEq, V.ref.injEq, V.str.injEq, List.cons.injEq, and_true, true_and, and_false, false_and, exists_eq_left, exists_eq_left', exists_and_left, exists_and_right, exists_eq, exists_eq', LL.if_dec, reduceCtorEq, exists_false, exists_const, or_false, false_or, if_true, if_false, LL.rInt1, LL.rMx, LL.rMn, and_assoc, Int.reduceNeg, Int.reduceLT, Int.reduceLE, Int.reduceMul, Int.reduceAdd, Int.reduceSub, Int.reducePow, Int.reduceToNat, Nat.reducePow, Nat.reduceLT, true_or, or_true, Bool.not_true, Bool.not_false, Bool.false_eq_true, Bool.or_false, Bool.or_true, Bool.true_or, Bool.false_or, decide_true, decide_false, not_true_eq_false, not_false_eq_true, LL.scal_int, LL.scal_bl, LL.scal_str, LL.isInt, LL.isBl, LL.isStr, LL.isLst, LL.isTup, LL.isDic]
      split
      · exact q _ _ a D' (by omega) (.inr rfl)
      · split
        · exact q _ _ a D' (by omega) (.inl (by omega))
        · refine use_take D' hb fun v2 H2 a2 D2 h2 h3 => ?_
          simp only [tSeq, tAsg, tRet, tRetN, tDrop, tNext, tVar, tC, gName, tOp, tUn, rI, rI0, rU, tIfS, tTest, tB, tIf, tAnd, tOr, tNot, tAndV, tOrV, tNotV, tCall, tCons, tNil, tCB, tLst, tTup, tChain, CMul, CDiv, CPow, rEq, rNe, gSub, L2.start, LL.cxK0, LL.cxK1, List.map_cons, List.map_nil, List.length_cons, List.length_nil, List.replicate_succ, List.replicate_zero, List.cons_append, List.nil_append, List.append_nil, List.getElem?_cons_zero, List.getElem?_cons_succ, List.set_cons_zero, List.set_cons_succ, Nat.add_sub_cancel, Nat.reduceAdd, Nat.reduceSub, Option.some.injEq, V.int.injEq, V.bl.injEq, V.ref.injEq, V.str.injEq, List.cons.injEq, and_true, true_and, and_false, false_and, exists_eq_left, exists_eq_left', exists_and_left, exists_and_right, exists_eq, exists_eq', LL.if_dec, reduceCtorEq, exists_false, exists_const, or_false, false_or, if_true, if_false, LL.rInt1, LL.rMx, LL.rMn, and_assoc, Int.reduceNeg, Int.reduceLT, Int.reduceLE, Int.reduceMul, Int.reduceAdd, Int.reduceSub, Int.reducePow, Int.reduceToNat, Nat.reducePow, Nat.reduceLT, true_or, or_true, Bool.not_true, Bool.not_false, Bool.false_eq_true, Bool.or_false, Bool.or_true, Bool.true_or, Bool.false_or, decide_true, decide_false, not_true_eq_false, not_false_eq_true, LL.scal_int, LL.scal_bl, LL.scal_str, LL.isInt, LL.isBl, LL.isStr, LL.isLst, LL.isTup, LL.isDic]
          exact q _ _ (a.trans a2) D2 (by omega) (by omega)
def sp_law_number : Sp := fun vs H Q _ => ∃ (d s : Addr) (lo hi : Int), vs = [.ref d, .int lo, .int hi] ∧ Drw d s H ∧ -1000000000000 ≤ lo ∧ lo ≤ hi ∧ hi ≤ 100000000000 ∧ hi - lo ≤ 100000000000 ∧ ∀ v H', Aft d s H H' → Drw d s H' → lo ≤ v → v ≤ hi → Q (.int v) H'
theorem use_number {d s : Addr} {lo hi : Int} {H : Hp} {Q : VK} {E : XK} (D : Drw d s H) (h0 : -1000000000000 ≤ lo) (h1 : lo ≤ hi) (h2 : hi ≤ 100000000000) (h3 : hi - lo ≤ 100000000000) (q : ∀ v H', Aft d s H H' → Drw d s H' → lo ≤ v → v ≤ hi → Q (.int v) H') : sp_law_number [.ref d, .int lo, .int hi] H Q E :=
  ⟨d, s, lo, hi, rfl, D, h0, h1, h2, h3, q⟩
def sp_law_count : Sp := fun vs H Q _ => ∃ (d s : Addr) (lo hi : Int), vs = [.ref d, .int lo, .int hi] ∧ Drw d s H ∧ 0 ≤ lo ∧ lo ≤ hi ∧ hi ≤ 100000000000 ∧ ∀ v H', Aft d s H H' → Drw d s H' → 0 ≤ v → v ≤ hi → Q (.int v) H'
def sp_law_alignment : Sp := fun vs H Q _ => ∃ (d s : Addr) (m : Int), vs = [.ref d, .int m] ∧ Drw d s H ∧ 0 ≤ m ∧ m ≤ 64 ∧ ∀ (j : Nat) H', Aft d s H H' → Drw d s H' → (j : Int) ≤ m → Q (.int (2 ^ j)) H'
theorem use_alignment {d s : Addr} {m : Int} {H : Hp} {Q : VK} {E : XK} (D : Drw d s H) (h0 : 0 ≤ m) (h1 : m ≤ 64) (q : ∀ (j : Nat) H', Aft d s H H' → Drw d s H' → (j : Int) ≤ m → Q (.int (2 ^ j)) H') : sp_law_alignment [.ref d, .int m] H Q E :=
  ⟨d, s, m, rfl, D, h0, h1, q⟩
def sp_law_power : Sp := fun vs H Q _ => ∃ n : Nat, vs = [.int n] ∧ n ≤ 60 ∧ Q (.int (2 ^ n)) H
theorem pow_lt {j n : Nat} (h : j ≤ n) (hn : n ≤ 63) : (2 : Int) ^ j < 2 ^ 64 := by
  have h1 : (2 : Nat) ^ j < 2 ^ 64 := Nat.pow_lt_pow_right (by decide) (by omega)
  have h2 : ((2 ^ j : Nat) : Int) = (2 : Int) ^ j := by simp
  omega
theorem pow_pos' (j : Nat) : (0 : Int) < 2 ^ j := Int.pow_pos (by decide)

theorem ok_law_alignment (T : Tx K mg) : FnOk P w K mg base CX0 4 (He.ga K "_law_alignment") T.fd_law_alignment P_law_alignment sp_law_alignment := by
  refine T.F_law_alignment.ok sc_law_alignment (fun vs H Q E h => ?_) (fun cdv A outer s H vs Q E hr h => ⟨_, PSs.nox (pss_cons (ps_set (i := 2) sc_law_alignment.nd rfl (Or.inl rfl) (pe_int)) (pss_cons (ps_for PassesOwn.never rfl (pi_range1 rfl T.z_range (pa_cons (pe_call (ok_law_between T) hr rfl T.g_law_between T.F_law_between.kp (b_law_between T) .nil pass0 (pa_cons (pv 0) (pa_cons (pe_int) (pa_cons (pv 1) pa_nil)))) pa_nil)) (pg_name (i := 3) sc_law_alignment.nd rfl (Or.inl rfl)) (pss_one (ps_set (i := 2) sc_law_alignment.nd rfl (Or.inl rfl) (pe_op op_mul (pv 2) (pe_int))))) (pss_one (ps_ret (pv 2))))), ?_⟩)
  · obtain ⟨_, _, _, rfl, _⟩ := h
    rfl
  · obtain ⟨d, s, m, rfl, D, h0, h1, q⟩ := h
    simp only [tSeq, tAsg, tRet, tRetN, tDrop, tNext, tVar, tC, gName, tOp, tUn, rI, rI0, rU, tIfS, tTest, tB, tIf, tAnd, tOr, tNot, tAndV, tOrV, tNotV, tCall, tCons, tNil, tCB, tLst, tTup, tChain, CMul, CDiv, CPow, rEq, rNe, gSub, L2.start, LL.cxK0, LL.cxK1, List.map_cons, List.map_nil, List.length_cons, List.length_nil, List.replicate_succ, List.replicate_zero, List.cons_append, List.nil_append, List.append_nil, List.getElem?_cons_zero, List.getElem?_cons_succ, List.set_cons_zero, List.set_cons_succ, Nat.add_sub_cancel, Nat.reduceAdd, Nat.reduceSub, Option.some.injEq, V.int.injEq, V.bl.injEq, V.ref.injEq, V.str.injEq, List.cons.injEq, and_true, true_and, and_false, false_and, exists_eq_left, exists_eq_left', exists_and_left, exists_and_right, exists_eq, exists_eq', LL.if_dec, reduceCtorEq, exists_false, exists_const, or_false, false_or, if_true, if_false, LL.rInt1, LL.rMx, LL.rMn, and_assoc, Int.reduceNeg, Int.reduceLT, Int.reduceLE, Int.reduceMul, Int.reduceAdd, Int.reduceSub, Int.reducePow, Int.reduceToNat, Nat.reducePow, Nat.reduceLT, true_or, or_true, Bool.not_true, Bool.not_false, Bool.false_eq_true, Bool.or_false, Bool.or_true, Bool.true_or, Bool.false_or, decide_true, decide_false, not_true_eq_false, not_false_eq_true, LL.scal_int, LL.scal_bl, LL.scal_str, LL.isInt, LL.isBl, LL.isStr, LL.isLst, LL.isTup, LL.isDic, N_law_alignment]
    refine use_forRX (R := fun j H' => Aft d s H H' ∧ Drw d s H' ∧ 0 ≤ j ∧ j ≤ m) (fun Q hQ => ?_) (fun z H' h => ⟨by omega, by omega⟩)
      (fun j i σ' H' => Aft d s H H' ∧ Drw d s H' ∧ 0 ≤ j ∧ j ≤ m ∧ i ≤ j.toNat ∧ ∃ x : Option V, σ' = [some (.ref d), some (.int m), some (.int (2 ^ i)), x]) (fun j H' ⟨a, D1, hz, hm⟩ => ⟨a, D1, hz, hm, Nat.zero_le _, _, rfl⟩) ?_ ?_
    · simp only [tSeq, tAsg, tRet, tRetN, tDrop, tNext, tVar, tC, gName, tOp, tUn, rI, rI0, rU, tIfS, tTest, tB, tIf, tAnd, tOr, tNot, tAndV, tOrV, tNotV, tCall, tCons, tNil, tCB, tLst, tTup, tChain, CMul, CDiv, CPow, rEq, rNe, gSub, L2.start, LL.cxK0, LL.cxK1, List.map_cons, List.map_nil, List.length_cons, List.length_nil, List.replicate_succ, List.replicate_zero, List.cons_append, List.nil_append, List.append_nil, List.getElem?_cons_zero, List.getElem?_cons_succ, List.set_cons_zero, List.set_cons_succ, Nat.add_sub_cancel, Nat.reduceAdd, Nat.reduceSub, Option.some.injEq, V.int.injEq, V.bl.injEq, V.ref.injEq, V.str.injEq, List.cons.injEq, and_true, true_and, and_false, false_and, exists_eq_left, exists_eq_left', exists_and_left, exists_and_right, exists_eq, exists_eq', LL.if_dec, reduceCtorEq, exists_false, exists_const, or_false, false_or, if_true, if_false, LL.rInt1, LL.rMx, LL.rMn, and_assoc, Int.reduceNeg, Int.reduceLT, Int.reduceLE, Int.reduceMul, Int.reduceAdd, Int.reduceSub, Int.reducePow, Int.reduceToNat, Nat.reducePow, Nat.reduceLT, true_or, or_true, Bool.not_true, Bool.not_false, Bool.false_eq_true, Bool.or_false, Bool.or_true, Bool.true_or, Bool.false_or, decide_true, decide_false, not_true_eq_false, not_false_eq_true, LL.scal_int, LL.scal_bl, LL.scal_str, LL.isInt, LL.isBl, LL.isStr, LL.isLst, LL.isTup, LL.isDic]
      exact use_between D (big_of (by omega) (by omega)) fun v H' a D' h2 h3 => hQ _ _ ⟨a, D', h2, by omega⟩
    · rintro j i σ' H' hi ⟨a, D1, hz, hm, hi2, x, rfl⟩
      simp only [tSeq, tAsg, tRet, tRetN, tDrop, tNext, tVar, tC, gName, tOp, tUn, rI, rI0, rU, tIfS, tTest, tB, tIf, tAnd, tOr, tNot, tAndV, tOrV, tNotV, tCall, tCons, tNil, tCB, tLst, tTup, tChain, CMul, CDiv, CPow, rEq, rNe, gSub, L2.start, LL.cxK0, LL.cxK1, List.map_cons, List.map_nil, List.length_cons, List.length_nil, List.replicate_succ, List.replicate_zero, List.cons_append, List.nil_append, List.append_nil, List.getElem?_cons_zero, List.getElem?_cons_succ, List.set_cons_zero, List.set_cons_succ, Nat.add_sub_cancel, Nat.reduceAdd, Nat.reduceSub, Option.some.injEq, V.int.injEq, V.bl.injEq, V.ref.injEq, V.str.injEq, List.cons.injEq, and_true, true_and, and_false, false_and, exists_eq_left, exists_eq_left', exists_and_left, exists_and_right, exists_eq, exists_eq', LL.if_dec, reduceCtorEq, exists_false, exists_const, or_false, false_or, if_true, if_false, LL.rInt1, LL.rMx, LL.rMn, and_assoc, Int.reduceNeg, Int.reduceLT, Int.reduceLE, Int.reduceMul, Int.reduceAdd, Int.reduceSub, Int.reducePow, Int.reduceToNat, Nat.reducePow, Nat.reduceLT, true_or, or_true, Bool.not_true, Bool.not_false, Bool.false_eq_true, Bool.or_false, Bool.or_true, Bool.true_or, Bool.false_or, decide_true, decide_false, not_true_eq_false, not_false_eq_true, LL.scal_int, LL.scal_bl, LL.scal_str, LL.isInt, LL.isBl, LL.isStr, LL.isLst, LL.isTup, LL.isDic]
      have := pow_lt (j := i) (n := 63) (by omega) (by decide)
      have := pow_pos' i
      exact ⟨a, D1, hz, hm, hi, by rw [Int.pow_succ]⟩
    · rintro j σ' H' ⟨a, D1, hz, hm, hi2, x, rfl⟩
      simp only [tSeq, tAsg, tRet, tRetN, tDrop, tNext, tVar, tC, gName, tOp, tUn, rI, rI0, rU, tIfS, tTest, tB, tIf, tAnd, tOr, tNot, tAndV, tOrV, tNotV, tCall, tCons, tNil, tCB, tLst, tTup, tChain, CMul, CDiv, CPow, rEq, rNe, gSub, L2.start, LL.cxK0, LL.cxK1, List.map_cons, List.map_nil, List.length_cons, List.length_nil, List.replicate_succ, List.replicate_zero, List.cons_append, List.nil_append, List.append_nil, List.getElem?_cons_zero, List.getElem?_cons_succ, List.set_cons_zero, List.set_cons_succ, Nat.add_sub_cancel, Nat.reduceAdd, Nat.reduceSub, Option.some.injEq, V.int.injEq, V.bl.injEq, V.ref.injEq, V.str.injEq, List.cons.injEq, and_true, true_and, and_false, false_and, exists_eq_left, exists_eq_left', exists_and_left, exists_and_right, exists_eq, exists_eq', LL.if_dec, reduceCtorEq, exists_false, exists_const, or_false, false_or, if_true, if_false, LL.rInt1, LL.rMx, LL.rMn, and_assoc, Int.reduceNeg, Int.reduceLT, Int.reduceLE, Int.reduceMul, Int.reduceAdd, Int.reduceSub, Int.reducePow, Int.reduceToNat, Nat.reducePow, Nat.reduceLT, true_or, or_true, Bool.not_true, Bool.not_false, Bool.false_eq_true, Bool.or_false, Bool.or_true, Bool.true_or, Bool.false_or, decide_true, decide_false, not_true_eq_false, not_false_eq_true, LL.scal_int, LL.scal_bl, LL.scal_str, LL.isInt, LL.isBl, LL.isStr, LL.isLst, LL.isTup, LL.isDic]
      exact q _ _ a D1 (by omega)
theorem ok_law_power (T : Tx K mg) : FnOk P w K mg base CX0 1 (He.ga K "_law_power") T.fd_law_power P_law_power sp_law_power := by
  refine T.F_law_power.ok sc_law_power (fun vs H Q E h => ?_) (fun cdv A outer s H vs Q E hr h => ⟨_, PSs.nox (pss_cons (ps_set (i := 1) sc_law_power.nd rfl (Or.inl rfl) (pe_int)) (pss_cons (ps_for PassesOwn.never rfl (pi_range1 rfl T.z_range (pa_cons (pv 0) pa_nil)) (pg_name (i := 2) sc_law_power.nd rfl (Or.inl rfl)) (pss_one (ps_set (i := 1) sc_law_power.nd rfl (Or.inl rfl) (pe_op op_mul (pv 1) (pe_int))))) (pss_one (ps_ret (pv 1))))), ?_⟩)
  · obtain ⟨_, rfl, _⟩ := h
    rfl
  · obtain ⟨n, rfl, hn, q⟩ := h
    simp only [tSeq, tAsg, tRet, tRetN, tDrop, tNext, tVar, tC, gName, tOp, tUn, rI, rI0, rU, tIfS, tTest, tB, tIf, tAnd, tOr, tNot, tAndV, tOrV, tNotV, tCall, tCons, tNil, tCB, tLst, tTup, tChain, CMul, CDiv, CPow, rEq, rNe, gSub, L2.start, LL.cxK0, LL.cxK1, List.map_cons, List.map_nil, List.length_cons, List.length_nil, List.replicate_succ, List.replicate_zero, List.cons_append, List.nil_append, List.append_nil, List.getElem?_cons_zero, List.getElem?_cons_succ, List.set_cons_zero, List.set_cons_succ, Nat.add_sub_cancel, Nat.reduceAdd, Nat.reduceSub, Option.some.injEq, V.int.injEq, V.bl.injEq, V.ref.injEq, V.str.injEq, List.cons.injEq, and_true, true_and, and_false, false_and, exists_eq_left, exists_eq_left', exists_and_left, exists_and_right, exists_eq, exists_eq', LL.if_dec, reduceCtorEq, exists_false, exists_const, or_false, false_or, if_true, if_false, LL.rInt1, LL.rMx, LL.rMn, and_assoc, Int.reduceNeg, Int.reduceLT, Int.reduceLE, Int.reduceMul, Int.reduceAdd, Int.reduceSub, Int.reducePow, Int.reduceToNat, Nat.reducePow, Nat.reduceLT, true_or, or_true, Bool.not_true, Bool.not_false, Bool.false_eq_true, Bool.or_false, Bool.or_true, Bool.true_or, Bool.false_or, decide_true, decide_false, not_true_eq_false, not_false_eq_true, LL.scal_int, LL.scal_bl, LL.scal_str, LL.isInt, LL.isBl, LL.isStr, LL.isLst, LL.isTup, LL.isDic, N_law_power]
    refine use_forR (j := n) (fun Q q => ⟨_, rfl, q⟩) (by omega) (by omega) (fun i σ' H' => H' = H ∧ i ≤ n ∧ ∃ x : Option V, σ' = [some (.int n), some (.int (2 ^ i)), x]) ⟨rfl, Nat.zero_le _, _, rfl⟩ ?_ ?_
    · rintro i σ' H' hi ⟨rfl, h1, x, rfl⟩
      simp only [tSeq, tAsg, tRet, tRetN, tDrop, tNext, tVar, tC, gName, tOp, tUn, rI, rI0, rU, tIfS, tTest, tB, tIf, tAnd, tOr, tNot, tAndV, tOrV, tNotV, tCall, tCons, tNil, tCB, tLst, tTup, tChain, CMul, CDiv, CPow, rEq, rNe, gSub, L2.start, LL.cxK0, LL.cxK1, List.map_cons, List.map_nil, List.length_cons, List.length_nil, List.replicate_succ, List.replicate_zero, List.cons_append, List.nil_append, List.append_nil, List.getElem?_cons_zero, List.getElem?_cons_succ, List.set_cons_zero, List.set_cons_succ, Nat.add_sub_cancel, Nat.reduceAdd, Nat.reduceSub, Option.some.injEq, V.int.injEq, V.bl.injEq, V.ref.injEq, V.str.injEq, List.cons.injEq, and_true, true_and, and_false, false_and, exists_eq_left, exists_eq_left', exists_and_left, exists_and_right, exists_eq, exists_eq', LL.if_dec, reduceCtorEq, exists_false, exists_const, or_false, false_or, if_true, if_false, LL.rInt1, LL.rMx, LL.rMn, and_assoc, Int.reduceNeg, Int.reduceLT, Int.reduceLE, Int.reduceMul, Int.reduceAdd, Int.reduceSub, Int.reducePow, Int.reduceToNat, Nat.reducePow, Nat.reduceLT, true_or, or_true, Bool.not_true, Bool.not_false, Bool.false_eq_true, Bool.or_false, Bool.or_true, Bool.true_or, Bool.false_or, decide_true, decide_false, not_true_eq_false, not_false_eq_true, LL.scal_int, LL.scal_bl, LL.scal_str, LL.isInt, LL.isBl, LL.isStr, LL.isLst, LL.isTup, LL.isDic]
      exact ⟨by omega, by rw [Int.pow_succ]⟩
    · rintro σ' H' ⟨rfl, h1, x, rfl⟩
      simp only [tSeq, tAsg, tRet, tRetN, tDrop, tNext, tVar, tC, gName, tOp, tUn, rI, rI0, rU, tIfS, tTest, tB, tIf, tAnd, tOr, tNot, tAndV, tOrV, tNotV, tCall, tCons, tNil, tCB, tLst, tTup, tChain, CMul, CDiv, CPow, rEq, rNe, gSub, L2.start, LL.cxK0, LL.cxK1, List.map_cons, List.map_nil, List.length_cons, List.length_nil, List.replicate_succ, List.replicate_zero, List.cons_append, List.nil_append, List.append_nil, List.getElem?_cons_zero, List.getElem?_cons_succ, List.set_cons_zero, List.set_cons_succ, Nat.add_sub_cancel, Nat.reduceAdd, Nat.reduceSub, Option.some.injEq, V.int.injEq, V.bl.injEq, V.ref.injEq, V.str.injEq, List.cons.injEq, and_true, true_and, and_false, false_and, exists_eq_left, exists_eq_left', exists_and_left, exists_and_right, exists_eq, exists_eq', LL.if_dec, reduceCtorEq, exists_false, exists_const, or_false, false_or, if_true, if_false, LL.rInt1, LL.rMx, LL.rMn, and_assoc, Int.reduceNeg, Int.reduceLT, Int.reduceLE, Int.reduceMul, Int.reduceAdd, Int.reduceSub, Int.reducePow, Int.reduceToNat, Nat.reducePow, Nat.reduceLT, true_or, or_true, Bool.not_true, Bool.not_false, Bool.false_eq_true, Bool.or_false, Bool.or_true, Bool.true_or, Bool.false_or, decide_true, decide_false, not_true_eq_false, not_false_eq_true, LL.scal_int, LL.scal_bl, LL.scal_str, LL.isInt, LL.isBl, LL.isStr, LL.isLst, LL.isTup, LL.isDic]
      exact q
theorem ok_law_number (T : Tx K mg) : FnOk P w K mg base CX0 5 (He.ga K "_law_number") T.fd_law_number P_law_number sp_law_number := by
  refine T.F_law_number.ok sc_law_number (fun vs H Q E h => ?_) (fun cdv A outer s H vs Q E hr h => ⟨_, PSs.nox (pss_cons (ps_if (pt_cmpR op_lt (pe_op op_sub (pv 2) (pv 1)) (pe_int) (nomark _)) (pss_one (ps_ret (pe_call (ok_law_between T) (hr.mono (by decide)) rfl T.g_law_between T.F_law_between.kp (b_law_between T) .nil pass0 (pa_cons (pv 0) (pa_cons (pv 1) (pa_cons (pv 2) pa_nil)))))) pss_nil) (pss_cons (ps_set (i := 3) sc_law_number.nd rfl (Or.inl rfl) (pe_call (ok_law_take T) (hr.mono (by decide)) rfl T.g_law_take T.F_law_take.kp (b_law_take T) .nil pass0 (pa_cons (pv 0) (pa_cons (pe_int) pa_nil)))) (pss_cons (ps_if (pt_cmpR op_lt (pv 3) (pe_int) (nomark _)) (pss_one (ps_ret (pe_ix ix_list (pe_lst (pa_cons (pv 1) (pa_cons (pv 2) (pa_cons (pe_op op_add (pv 1) (pe_int)) (pa_cons (pe_op op_sub (pv 2) (pe_int)) pa_nil))))) (pv 3) (fun _ _ => rfl)))) pss_nil) (pss_cons (ps_if (pt_cmpR op_lt (pv 3) (pe_int) (nomark _)) (pss_one (ps_ret (pe_op op_add (pv 1) (pe_call (ok_law_take T) (hr.mono (by decide)) rfl T.g_law_take T.F_law_take.kp (b_law_take T) .nil pass0 (pa_cons (pv 0) (pa_cons (pe_op op_add (pe_callB (LL.call_mn rfl) (by rfl) T.z_min (by decide +kernel) (pa_cons (pe_op op_sub (pv 2) (pv 1)) (pa_cons (pe_int) pa_nil))) (pe_int)) pa_nil)))))) pss_nil) (pss_cons (ps_if (pt_cmpR op_eq (pv 3) (pe_int) (nomark _)) (pss_one (ps_ret (pe_callB (LL.call_mx rfl) (by rfl) T.z_max (by decide +kernel) (pa_cons (pv 1) (pa_cons (pe_callB (LL.call_mn rfl) (by rfl) T.z_min (by decide +kernel) (pa_cons (pv 2) (pa_cons (pe_op op_sub (pe_op op_add (pe_call (ok_law_alignment T) hr rfl T.g_law_alignment T.F_law_alignment.kp (b_law_alignment T) .nil pass0 (pa_cons (pv 0) (pa_cons (pe_int) pa_nil))) (pe_call (ok_law_take T) (hr.mono (by decide)) rfl T.g_law_take T.F_law_take.kp (b_law_take T) .nil pass0 (pa_cons (pv 0) (pa_cons (pe_int) pa_nil)))) (pe_int)) pa_nil))) pa_nil))))) pss_nil) (pss_one (ps_ret (pe_op op_add (pv 1) (pe_call (ok_law_take T) (hr.mono (by decide)) rfl T.g_law_take T.F_law_take.kp (b_law_take T) .nil pass0 (pa_cons (pv 0) (pa_cons (pe_op op_add (pe_op op_sub (pv 2) (pv 1)) (pe_int)) pa_nil))))))))))), ?_⟩)
  · obtain ⟨_, _, _, _, rfl, _⟩ := h
    rfl
  · obtain ⟨d, s, lo, hi, rfl, D, h0, h1, h2, h3, q⟩ := h
    simp only [tSeq, tAsg, tRet, tRetN, tDrop, tNext, tVar, tC, gName, tOp, tUn, rI, rI0, rU, tIfS, tTest, tB, tIf, tAnd, tOr, tNot, tAndV, tOrV, tNotV, tCall, tCons, tNil, tCB, tLst, tTup, tChain, CMul, CDiv, CPow, rEq, rNe, gSub, L2.start, LL.cxK0, LL.cxK1, List.map_cons, List.map_nil, List.length_cons, List.length_nil, List.replicate_succ, List.replicate_zero, List.cons_append, List.nil_append, List.append_nil, List.getElem?_cons_zero, List.getElem?_cons_succ, List.set_cons_zero, List.set_cons_succ, Nat.add_sub_cancel, Nat.reduceAdd, Nat.reduceSub, Option.some.injEq, V.int.injEq, V.bl.injEq, V.ref.injEq, V.str.injEq, List.cons.injEq, and_true, true_and, and_false, false_and, exists_eq_left, exists_eq_left', exists_and_left, exists_and_right, exists_eq, exists_eq', LL.if_dec, reduceCtorEq, exists_false, exists_const, or_false, false_or, if_true, if_false, LL.rInt1, LL.rMx, LL.rMn, and_assoc, Int.reduceNeg, Int.reduceLT, Int.reduceLE, Int.reduceMul, Int.reduceAdd, Int.reduceSub, Int.reducePow, Int.reduceToNat, Nat.reducePow, Nat.reduceLT, true_or, or_true, Bool.not_true, Bool.not_false, Bool.false_eq_true, Bool.or_false, Bool.or_true, Bool.true_or, Bool.false_or, decide_true, decide_false, not_true_eq_false, not_false_eq_true, LL.scal_int, LL.scal_bl, LL.scal_str, LL.isInt, LL.isBl, LL.isStr, LL.isLst, LL.isTup, LL.isDic, N_law_number]
    split
    · exact use_between D (big_of (by omega) (by omega)) fun v H' a D' h2 h3 => q _ _ a D' h2 (by omega)
    · refine use_take D (by decide +kernel) fun v H' a D' v0 v1 => ?_
      simp only [tSeq, tAsg, tRet, tRetN, tDrop, tNext, tVar, tC, gName, tOp, tUn, rI, rI0, rU, tIfS, tTest, tB, tIf, tAnd, tOr, tNot, tAndV, tOrV, tNotV, tCall, tCons, tNil, tCB, tLst, tTup, tChain, CMul, CDiv, CPow, rEq, rNe, gSub, L2.start, LL.cxK0, LL.cxK1, List.map_cons, List.map_nil, List.length_cons, List.length_nil, List.replicate_succ, List.replicate_zero, List.cons_append, List.nil_append, List.append_nil, List.getElem?_cons_zero, List.getElem?_cons_succ, List.set_cons_zero, List.set_cons_succ, Nat.add_sub_cancel, Nat.reduceAdd, Nat.reduceSub, Option.some.injEq, V.int.injEq, V.bl.injEq, V.ref.injEq, V.str.injEq, List.cons.injEq, and_true, true_and, and_false, false_and, exists_eq_left, exists_eq_left', exists_and_left, exists_and_right, exists_eq, exists_eq', LL.if_dec, reduceCtorEq, exists_false, exists_const, or_false, false_or, if_true, if_false, LL.rInt1, LL.rMx, LL.rMn, and_assoc, Int.reduceNeg, Int.reduceLT, Int.reduceLE, Int.reduceMul, Int.reduceAdd, Int.reduceSub, Int.reducePow, Int.reduceToNat, Nat.reducePow, Nat.reduceLT, true_or, or_true, Bool.not_true, Bool.not_false, Bool.false_eq_true, Bool.or_false, Bool.or_true, Bool.true_or, Bool.false_or, decide_true, decide_false, not_true_eq_false, not_false_eq_true, LL.scal_int, LL.scal_bl, LL.scal_str, LL.isInt, LL.isBl, LL.isStr, LL.isLst, LL.isTup, LL.isDic]
      split
      · refine ⟨by decide, fun p hp => ?_⟩
        refine use_pick upd_same v0 (by simp only [List.length_cons, List.length_nil]; omega) ?_
        have a2 := a.new (o := .lst [.int lo, .int hi, .int (lo + 1), .int (hi - 1)]) hp
        intro x hx
        simp only [List.mem_cons, List.not_mem_nil, or_false] at hx
        rcases hx with rfl | rfl | rfl | rfl <;> exact q _ _ a2 a2.dr (by omega) (by omega)
      · split
        · refine use_take D' (big_of (by omega) (by omega)) fun v2 H2 a2 D2 h4 h5 => ?_
          simp only [tSeq, tAsg, tRet, tRetN, tDrop, tNext, tVar, tC, gName, tOp, tUn, rI, rI0, rU, tIfS, tTest, tB, tIf, tAnd, tOr, tNot, tAndV, tOrV, tNotV, tCall, tCons, tNil, tCB, tLst, tTup, tChain, CMul, CDiv, CPow, rEq, rNe, gSub, L2.start, LL.cxK0, LL.cxK1, List.map_cons, List.map_nil, List.length_cons, List.length_nil, List.replicate_succ, List.replicate_zero, List.cons_append, List.nil_append, List.append_nil, List.getElem?_cons_zero, List.getElem?_cons_succ, List.set_cons_zero, List.set_cons_succ, Nat.add_sub_cancel, Nat.reduceAdd, Nat.reduceSub, Option.some.injEq, V.int.injEq, V.bl.injEq, V.ref.injEq, V.str.injEq, List.cons.injEq, and_true, true_and, and_false, false_and, exists_eq_left, exists_eq_left', exists_and_left, exists_and_right, exists_eq, exists_eq', LL.if_dec, reduceCtorEq, exists_false, exists_const, or_false, false_or, if_true, if_false, LL.rInt1, LL.rMx, LL.rMn, and_assoc, Int.reduceNeg, Int.reduceLT, Int.reduceLE, Int.reduceMul, Int.reduceAdd, Int.reduceSub, Int.reducePow, Int.reduceToNat, Nat.reducePow, Nat.reduceLT, true_or, or_true, Bool.not_true, Bool.not_false, Bool.false_eq_true, Bool.or_false, Bool.or_true, Bool.true_or, Bool.false_or, decide_true, decide_false, not_true_eq_false, not_false_eq_true, LL.scal_int, LL.scal_bl, LL.scal_str, LL.isInt, LL.isBl, LL.isStr, LL.isLst, LL.isTup, LL.isDic]
          exact q _ _ (a.trans a2) D2 (by omega) (by omega)
        · split
          · refine use_alignment D' (by decide) (by decide) fun j H2 a2 D2 hj => ?_
            simp only [tSeq, tAsg, tRet, tRetN, tDrop, tNext, tVar, tC, gName, tOp, tUn, rI, rI0, rU, tIfS, tTest, tB, tIf, tAnd, tOr, tNot, tAndV, tOrV, tNotV, tCall, tCons, tNil, tCB, tLst, tTup, tChain, CMul, CDiv, CPow, rEq, rNe, gSub, L2.start, LL.cxK0, LL.cxK1, List.map_cons, List.map_nil, List.length_cons, List.length_nil, List.replicate_succ, List.replicate_zero, List.cons_append, List.nil_append, List.append_nil, List.getElem?_cons_zero, List.getElem?_cons_succ, List.set_cons_zero, List.set_cons_succ, Nat.add_sub_cancel, Nat.reduceAdd, Nat.reduceSub, Option.some.injEq, V.int.injEq, V.bl.injEq, V.ref.injEq, V.str.injEq, List.cons.injEq, and_true, true_and, and_false, false_and, exists_eq_left, exists_eq_left', exists_and_left, exists_and_right, exists_eq, exists_eq', LL.if_dec, reduceCtorEq, exists_false, exists_const, or_false, false_or, if_true, if_false, LL.rInt1, LL.rMx, LL.rMn, and_assoc, Int.reduceNeg, Int.reduceLT, Int.reduceLE, Int.reduceMul, Int.reduceAdd, Int.reduceSub, Int.reducePow, Int.reduceToNat, Nat.reducePow, Nat.reduceLT, true_or, or_true, Bool.not_true, Bool.not_false, Bool.false_eq_true, Bool.or_false, Bool.or_true, Bool.true_or, Bool.false_or, decide_true, decide_false, not_true_eq_false, not_false_eq_true, LL.scal_int, LL.scal_bl, LL.scal_str, LL.isInt, LL.isBl, LL.isStr, LL.isLst, LL.isTup, LL.isDic]
            refine use_take D2 (by decide +kernel) fun v3 H3 a3 D3 h4 h5 => ?_
            simp only [tSeq, tAsg, tRet, tRetN, tDrop, tNext, tVar, tC, gName, tOp, tUn, rI, rI0, rU, tIfS, tTest, tB, tIf, tAnd, tOr, tNot, tAndV, tOrV, tNotV, tCall, tCons, tNil, tCB, tLst, tTup, tChain, CMul, CDiv, CPow, rEq, rNe, gSub, L2.start, LL.cxK0, LL.cxK1, List.map_cons, List.map_nil, List.length_cons, List.length_nil, List.replicate_succ, List.replicate_zero, List.cons_append, List.nil_append, List.append_nil, List.getElem?_cons_zero, List.getElem?_cons_succ, List.set_cons_zero, List.set_cons_succ, Nat.add_sub_cancel, Nat.reduceAdd, Nat.reduceSub, Option.some.injEq, V.int.injEq, V.bl.injEq, V.ref.injEq, V.str.injEq, List.cons.injEq, and_true, true_and, and_false, false_and, exists_eq_left, exists_eq_left', exists_and_left, exists_and_right, exists_eq, exists_eq', LL.if_dec, reduceCtorEq, exists_false, exists_const, or_false, false_or, if_true, if_false, LL.rInt1, LL.rMx, LL.rMn, and_assoc, Int.reduceNeg, Int.reduceLT, Int.reduceLE, Int.reduceMul, Int.reduceAdd, Int.reduceSub, Int.reducePow, Int.reduceToNat, Nat.reducePow, Nat.reduceLT, true_or, or_true, Bool.not_true, Bool.not_false, Bool.false_eq_true, Bool.or_false, Bool.or_true, Bool.true_or, Bool.false_or, decide_true, decide_false, not_true_eq_false, not_false_eq_true, LL.scal_int, LL.scal_bl, LL.scal_str, LL.isInt, LL.isBl, LL.isStr, LL.isLst, LL.isTup, LL.isDic]
            exact q _ _ ((a.trans a2).trans a3) D3 (by omega) (by omega)
          · refine use_take D' (big_of (by omega) (by omega)) fun v2 H2 a2 D2 h4 h5 => ?_
            simp only [tSeq, tAsg, tRet, tRetN, tDrop, tNext, tVar, tC, gName, tOp, tUn, rI, rI0, rU, tIfS, tTest, tB, tIf, tAnd, tOr, tNot, tAndV, tOrV, tNotV, tCall, tCons, tNil, tCB, tLst, tTup, tChain, CMul, CDiv, CPow, rEq, rNe, gSub, L2.start, LL.cxK0, LL.cxK1, List.map_cons, List.map_nil, List.length_cons, List.length_nil, List.replicate_succ, List.replicate_zero, List.cons_append, List.nil_append, List.append_nil, List.getElem?_cons_zero, List.getElem?_cons_succ, List.set_cons_zero, List.set_cons_succ, Nat.add_sub_cancel, Nat.reduceAdd, Nat.reduceSub, Option.some.injEq, V.int.injEq, V.bl.injEq, V.ref.injEq, V.str.injEq, List.cons.injEq, and_true, true_and, and_false, false_and, exists_eq_left, exists_eq_left', exists_and_left, exists_and_right, exists_eq, exists_eq', LL.if_dec, reduceCtorEq, exists_false, exists_const, or_false, false_or, if_true, if_false, LL.rInt1, LL.rMx, LL.rMn, and_assoc, Int.reduceNeg, Int.reduceLT, Int.reduceLE, Int.reduceMul, Int.reduceAdd, Int.reduceSub, Int.reducePow, Int.reduceToNat, Nat.reducePow, Nat.reduceLT, true_or, or_true, Bool.not_true, Bool.not_false, Bool.false_eq_true, Bool.or_false, Bool.or_true, Bool.true_or, Bool.false_or, decide_true, decide_false, not_true_eq_false, not_false_eq_true, LL.scal_int, LL.scal_bl, LL.scal_str, LL.isInt, LL.isBl, LL.isStr, LL.isLst, LL.isTup, LL.isDic]
            exact q _ _ (a.trans a2) D2 (by omega) (by omega)
def sp_law_long : Sp := fun vs H Q _ => vs = [] ∧ Q (.int (10 ^ 999)) H
theorem long_b (n : Nat) (h : n ≤ 15) : ((10 : Int) ^ (39 + 64 * n)).natAbs < 2 ^ 3400 := by
  have e : ((10 : Int) ^ (39 + 64 * n)).natAbs = 10 ^ (39 + 64 * n) := by rw [Int.natAbs_pow]; rfl
  rw [e]
  exact Nat.lt_of_le_of_lt (Nat.pow_le_pow_right (by decide) (by omega : 39 + 64 * n ≤ 999)) (by decide +kernel)

theorem ok_law_long (T : Tx K mg) : FnOk P w K mg base CX0 1 (He.ga K "_law_long") T.fd_law_long P_law_long sp_law_long := by
  refine T.F_law_long.ok sc_law_long (fun vs H Q E h => ?_) (fun cdv A outer s H vs Q E hr h => ⟨_, PSs.nox (pss_cons (ps_set (i := 0) sc_law_long.nd rfl (Or.inl rfl) (pe_op op_pow (pe_int) (pe_int))) (pss_cons (ps_for PassesOwn.never rfl (pi_range1 rfl T.z_range (pa_cons (pe_int) pa_nil)) (pg_name (i := 1) sc_law_long.nd rfl (Or.inl rfl)) (pss_one (ps_set (i := 0) sc_law_long.nd rfl (Or.inl rfl) (pe_op op_mulW (pv 0) (pe_op op_pow (pe_int) (pe_int)))))) (pss_one (ps_ret (pv 0))))), ?_⟩)
  · obtain ⟨rfl, _⟩ := h
    rfl
  · obtain ⟨rfl, q⟩ := h
    simp only [tSeq, tAsg, tRet, tRetN, tDrop, tNext, tVar, tC, gName, tOp, tUn, rI, rI0, rU, tIfS, tTest, tB, tIf, tAnd, tOr, tNot, tAndV, tOrV, tNotV, tCall, tCons, tNil, tCB, tLst, tTup, tChain, CMul, CDiv, CPow, rEq, rNe, gSub, L2.start, LL.cxK0, LL.cxK1, List.map_cons, List.map_nil, List.length_cons, List.length_nil, List.replicate_succ, List.replicate_zero, List.cons_append, List.nil_append, List.append_nil, List.getElem?_cons_zero, List.getElem?_cons_succ, List.set_cons_zero, List.set_cons_succ, Nat.add_sub_cancel, Nat.reduceAdd, Nat.reduceSub, Option.some.injEq, V.int.injEq, V.bl.injEq, V.ref.injEq, V.str.injEq, List.cons.injEq, and_true, true_and, and_false, false_and, exists_eq_left, exists_eq_left', exists_and_left, exists_and_right, exists_eq, exists_eq', LL.if_dec, reduceCtorEq, exists_false, exists_const, or_false, false_or, if_true, if_false, LL.rInt1, LL.rMx, LL.rMn, and_assoc, Int.reduceNeg, Int.reduceLT, Int.reduceLE, Int.reduceMul, Int.reduceAdd, Int.reduceSub, Int.reducePow, Int.reduceToNat, Nat.reducePow, Nat.reduceLT, true_or, or_true, Bool.not_true, Bool.not_false, Bool.false_eq_true, Bool.or_false, Bool.or_true, Bool.true_or, Bool.false_or, decide_true, decide_false, not_true_eq_false, not_false_eq_true, LL.scal_int, LL.scal_bl, LL.scal_str, LL.isInt, LL.isBl, LL.isStr, LL.isLst, LL.isTup, LL.isDic, N_law_long]
    refine ⟨by decide, use_forR (j := 15) (fun Q q => q) (by decide) (by decide) (fun i σ' H' => H' = H ∧ i ≤ 15 ∧ ∃ x : Option V, σ' = [some (.int (10 ^ (39 + 64 * i))), x]) ⟨rfl, by decide, _, rfl⟩ ?_ ?_⟩
    · rintro i σ' H' hi ⟨rfl, h1, x, rfl⟩
      simp only [tSeq, tAsg, tRet, tRetN, tDrop, tNext, tVar, tC, gName, tOp, tUn, rI, rI0, rU, tIfS, tTest, tB, tIf, tAnd, tOr, tNot, tAndV, tOrV, tNotV, tCall, tCons, tNil, tCB, tLst, tTup, tChain, CMul, CDiv, CPow, rEq, rNe, gSub, L2.start, LL.cxK0, LL.cxK1, List.map_cons, List.map_nil, List.length_cons, List.length_nil, List.replicate_succ, List.replicate_zero, List.cons_append, List.nil_append, List.append_nil, List.getElem?_cons_zero, List.getElem?_cons_succ, List.set_cons_zero, List.set_cons_succ, Nat.add_sub_cancel, Nat.reduceAdd, Nat.reduceSub, Option.some.injEq, V.int.injEq, V.bl.injEq, V.ref.injEq, V.str.injEq, List.cons.injEq, and_true, true_and, and_false, false_and, exists_eq_left, exists_eq_left', exists_and_left, exists_and_right, exists_eq, exists_eq', LL.if_dec, reduceCtorEq, exists_false, exists_const, or_false, false_or, if_true, if_false, LL.rInt1, LL.rMx, LL.rMn, and_assoc, Int.reduceNeg, Int.reduceLT, Int.reduceLE, Int.reduceMul, Int.reduceAdd, Int.reduceSub, Int.reducePow, Int.reduceToNat, Nat.reducePow, Nat.reduceLT, true_or, or_true, Bool.not_true, Bool.not_false, Bool.false_eq_true, Bool.or_false, Bool.or_true, Bool.true_or, Bool.false_or, decide_true, decide_false, not_true_eq_false, not_false_eq_true, LL.scal_int, LL.scal_bl, LL.scal_str, LL.isInt, LL.isBl, LL.isStr, LL.isLst, LL.isTup, LL.isDic]
      have e : (10 : Int) ^ (39 + 64 * i) * 10 ^ 64 = 10 ^ (39 + 64 * (i + 1)) := by
        rw [← Int.pow_add, show 39 + 64 * i + 64 = 39 + 64 * (i + 1) by omega]
      refine ⟨by decide, wide_mul (a := 3400) (b := 220) (long_b i h1) (by decide +kernel) (by decide) (by decide) (by decide), by omega, ?_⟩
      exact e
    · rintro σ' H' ⟨rfl, h1, x, rfl⟩
      simp only [tSeq, tAsg, tRet, tRetN, tDrop, tNext, tVar, tC, gName, tOp, tUn, rI, rI0, rU, tIfS, tTest, tB, tIf, tAnd, tOr, tNot, tAndV, tOrV, tNotV, tCall, tCons, tNil, tCB, tLst, tTup, tChain, CMul, CDiv, CPow, rEq, rNe, gSub, L2.start, LL.cxK0, LL.cxK1, List.map_cons, List.map_nil, List.length_cons, List.length_nil, List.replicate_succ, List.replicate_zero, List.cons_append, List.nil_append, List.append_nil, List.getElem?_cons_zero, List.getElem?_cons_succ, List.set_cons_zero, List.set_cons_succ, Nat.add_sub_cancel, Nat.reduceAdd, Nat.reduceSub, Option.some.injEq, V.int.injEq, V.bl.injEq, V.ref.injEq, V.str.injEq, List.cons.injEq, and_true, true_and, and_false, false_and, exists_eq_left, exists_eq_left', exists_and_left, exists_and_right, exists_eq, exists_eq', LL.if_dec, reduceCtorEq, exists_false, exists_const, or_false, false_or, if_true, if_false, LL.rInt1, LL.rMx, LL.rMn, and_assoc, Int.reduceNeg, Int.reduceLT, Int.reduceLE, Int.reduceMul, Int.reduceAdd, Int.reduceSub, Int.reducePow, Int.reduceToNat, Nat.reducePow, Nat.reduceLT, true_or, or_true, Bool.not_true, Bool.not_false, Bool.false_eq_true, Bool.or_false, Bool.or_true, Bool.true_or, Bool.false_or, decide_true, decide_false, not_true_eq_false, not_false_eq_true, LL.scal_int, LL.scal_bl, LL.scal_str, LL.isInt, LL.isBl, LL.isStr, LL.isLst, LL.isTup, LL.isDic]
      exact q
/-- data that is no integer -/
def sp_law_not_integer : Sp := fun vs H Q _ => ∃ (d s : Addr), vs = [.ref d] ∧ Drw d s H ∧ ∀ v t H', Aft d s H H' → Drw d s H' → Dt (fun a => H a = none) H' v t → dep t ≤ 1 → isInt t = false → Q v H'

theorem ok_law_not_integer (T : Tx K mg) : FnOk P w K mg base CX0 3 (He.ga K "_law_not_integer") T.fd_law_not_integer P_law_not_integer sp_law_not_integer := by
  refine T.F_law_not_integer.ok sc_law_not_integer (fun vs H Q E h => ?_) (fun cdv A outer s H vs Q E hr h => ⟨_, PSs.nox (pss_one (ps_ret (pe_ix ix_list (pe_lst (pa_cons (pe_bl) (pa_cons (pe_bl) (pa_cons (pe_non) (pa_cons (pe_str) (pa_cons (pe_str) (pa_cons (pe_str) (pa_cons (pe_lst pa_nil) (pa_cons (pe_tup pa_nil) (pa_cons (pe_lst (pa_cons (pe_int) pa_nil)) (pa_cons (pe_tup (pa_cons (pe_int) pa_nil)) (pa_cons (pe_disp (pps_cons (pe_str) (pe_int) pps_nil) (by rfl) (by rfl) (fun z => by cases z) (by decide)) pa_nil)))))))))))) (pe_call (ok_law_take T) hr rfl T.g_law_take T.F_law_take.kp (b_law_take T) .nil pass0 (pa_cons (pv 0) (pa_cons (pe_int) pa_nil))) (fun _ _ => rfl)))), ?_⟩)
  · obtain ⟨_, _, rfl, _⟩ := h
    rfl
  · obtain ⟨d, s, rfl, D, q⟩ := h
    simp only [tSeq, tAsg, tRet, tRetN, tDrop, tNext, tVar, tC, gName, tOp, tUn, rI, rI0, rU, tIfS, tTest, tB, tIf, tAnd, tOr, tNot, tAndV, tOrV, tNotV, tCall, tCons, tNil, tCB, tLst, tTup, tChain, CMul, CDiv, CPow, rEq, rNe, gSub, L2.start, LL.cxK0, LL.cxK1, List.map_cons, List.map_nil, List.length_cons, List.length_nil, List.replicate_succ, List.replicate_zero, List.cons_append, List.nil_append, List.append_nil, List.getElem?_cons_zero, List.getElem?_cons_succ, List.set_cons_zero, List.set_cons_succ, Nat.add_sub_cancel, Nat.reduceAdd, Nat.reduceSub, Option.some.injEq, V.int.injEq, V.bl.injEq, V.ref.injEq, V.str.injEq, List.cons.injEq, and_true, true_and, and_false, false_and, exists_eq_left, exists_eq_left', exists_and_left, exists_and_right, exists_eq, exists_eq', LL.if_dec, reduceCtorEq, exists_false, exists_const, or_false, false_or, if_true, if_false, LL.rInt1, LL.rMx, LL.rMn, and_assoc, Int.reduceNeg, Int.reduceLT, Int.reduceLE, Int.reduceMul, Int.reduceAdd, Int.reduceSub, Int.reducePow, Int.reduceToNat, Nat.reducePow, Nat.reduceLT, true_or, or_true, Bool.not_true, Bool.not_false, Bool.false_eq_true, Bool.or_false, Bool.or_true, Bool.true_or, Bool.false_or, decide_true, decide_false, not_true_eq_false, not_false_eq_true, LL.scal_int, LL.scal_bl, LL.scal_str, LL.isInt, LL.isBl, LL.isStr, LL.isLst, LL.isTup, LL.isDic, N_law_not_integer]
    refine ⟨by decide, ?_⟩
    intro p1 np1
    generalize hq : upd H p1 _ = H1
    have sH1 : Same H H1 := hq ▸ Same.new (Same.refl _) np1
    have ep1 := hq ▸ (upd_same (H := H) (a := p1))
    clear hq
    refine ⟨by decide, ?_⟩
    intro p2 np2
    generalize hq : upd H1 p2 _ = H2
    have sH2 : Same H1 H2 := hq ▸ Same.new (Same.refl _) np2
    have ep2 := hq ▸ (upd_same (H := H1) (a := p2))
    clear hq
    replace ep1 := sH2 _ _ ep1
    refine ⟨by decide, ?_⟩
    intro p3 np3
    generalize hq : upd H2 p3 _ = H3
    have sH3 : Same H2 H3 := hq ▸ Same.new (Same.refl _) np3
    have ep3 := hq ▸ (upd_same (H := H2) (a := p3))
    clear hq
    replace ep1 := sH3 _ _ ep1
    replace ep2 := sH3 _ _ ep2
    refine ⟨by decide, ?_⟩
    intro p4 np4
    generalize hq : upd H3 p4 _ = H4
    have sH4 : Same H3 H4 := hq ▸ Same.new (Same.refl _) np4
    have ep4 := hq ▸ (upd_same (H := H3) (a := p4))
    clear hq
    replace ep1 := sH4 _ _ ep1
    replace ep2 := sH4 _ _ ep2
    replace ep3 := sH4 _ _ ep3
    unfold tDisp
    intro p5 np5
    generalize hq : upd H4 p5 _ = H5
    have sH5 : Same H4 H5 := hq ▸ Same.new (Same.refl _) np5
    have ep5 := hq ▸ (upd_same (H := H4) (a := p5))
    clear hq
    simp only [tPairs, tC]
    refine ⟨ep5, [(Sum.inr "a", .int 1)], rfl, by decide, ?_⟩
    have n5 : H4 p5 = none := np5
    generalize hq : upd H5 p5 _ = H6
    have e5 : H6 p5 = some (.dK [(Sum.inr "a", .int 1)]) := hq ▸ upd_same
    have s6 : Same H4 H6 := hq ▸ Same.own sH5 n5
    clear hq
    replace ep1 := s6 _ _ ep1
    replace ep2 := s6 _ _ ep2
    replace ep3 := s6 _ _ ep3
    replace ep4 := s6 _ _ ep4
    refine ⟨by decide, ?_⟩
    have g6 : Same H H6 := (((sH1.trans sH2).trans sH3).trans sH4).trans s6
    intro p6 np6
    generalize hq : upd H6 p6 _ = H7
    have sH7 : Same H6 H7 := hq ▸ Same.new (Same.refl _) np6
    have ep6 := hq ▸ (upd_same (H := H6) (a := p6))
    clear hq
    replace ep1 := sH7 _ _ ep1
    replace ep2 := sH7 _ _ ep2
    replace ep3 := sH7 _ _ ep3
    replace ep4 := sH7 _ _ ep4
    replace e5 := sH7 _ _ e5
    have g7 := g6.trans sH7
    refine use_take (D.same g7) (by decide +kernel) fun v H' a D' v0 v1 => ?_
    refine use_pick (a.kp _ _ ((D.same g6).ne _ np6) ep6) v0 (by simp only [List.length_cons, List.length_nil]; omega) ?_
    have A : Aft d s H H' := ⟨(Kp.same g7).trans a.kp, D'⟩
    have f1 : H p1 = none := np1
    have f2 : H p2 = none := sH1.free np2
    have f3 : H p3 = none := (sH1.trans sH2).free np3
    have f4 : H p4 = none := ((sH1.trans sH2).trans sH3).free np4
    have f5 : H p5 = none := (((sH1.trans sH2).trans sH3).trans sH4).free n5
    replace ep1 := a.kp _ _ (D.ne _ f1) ep1
    replace ep2 := a.kp _ _ (D.ne _ f2) ep2
    replace ep3 := a.kp _ _ (D.ne _ f3) ep3
    replace ep4 := a.kp _ _ (D.ne _ f4) ep4
    replace e5 := a.kp _ _ (D.ne _ f5) e5
    intro x hx
    simp only [List.mem_cons, List.not_mem_nil, or_false] at hx
    rcases hx with rfl | rfl | rfl | rfl | rfl | rfl | rfl | rfl | rfl | rfl | rfl
    · exact q _ (.bl true) _ A D' rfl (by decide) rfl
    · exact q _ (.bl false) _ A D' rfl (by decide) rfl
    · exact q _ .non _ A D' rfl (by decide) rfl
    · exact q _ (.str _) _ A D' rfl (by simp [dep]) rfl
    · exact q _ (.str _) _ A D' rfl (by simp [dep]) rfl
    · exact q _ (.str _) _ A D' rfl (by simp [dep]) rfl
    · exact q _ (.lst []) _ A D' ⟨_, _, rfl, f1, ep1, rfl, by decide⟩ (by decide) rfl
    · exact q _ (.tup []) _ A D' ⟨_, _, rfl, f2, ep2, rfl, by decide⟩ (by decide) rfl
    · exact q _ (.lst [.int 1]) _ A D' ⟨_, _, rfl, f3, ep3, .one rfl, by simp⟩ (by decide) rfl
    · exact q _ (.tup [.int 0]) _ A D' ⟨_, _, rfl, f4, ep4, .one rfl, by simp⟩ (by decide) rfl
    · exact q _ (.dic (.int 1)) _ A D' ⟨_, _, rfl, f5, e5, rfl⟩ (by decide) rfl
/-- an integer out of the range, or data that is none -/
def Out (lo hi : Int) : T → Prop
  | .int i => i < lo ∨ hi < i
  | _ => True
theorem out_of {lo hi : Int} {t : T} (h : isInt t = false) : Out lo hi t := by cases t <;> first | trivial | cases h
def sp_law_not_within : Sp := fun vs H Q _ => ∃ (d s : Addr) (lo hi : Int), vs = [.ref d, .int lo, .int hi] ∧ Drw d s H ∧ -1000000000000 ≤ lo ∧ lo ≤ 1000000000000 ∧ -1000000000000 ≤ hi ∧ hi ≤ 1000000000000 ∧
  ∀ v t H', Aft d s H H' → Drw d s H' → Dt (fun a => H a = none) H' v t → dep t ≤ 1 → Out lo hi t → Q v H'
theorem use_not_within {d s : Addr} {lo hi : Int} {H : Hp} {Q : VK} {E : XK} (D : Drw d s H) (h0 : -1000000000000 ≤ lo) (h1 : lo ≤ 1000000000000) (h2 : -1000000000000 ≤ hi) (h3 : hi ≤ 1000000000000)
    (q : ∀ v t H', Aft d s H H' → Drw d s H' → Dt (fun a => H a = none) H' v t → dep t ≤ 1 → Out lo hi t → Q v H') : sp_law_not_within [.ref d, .int lo, .int hi] H Q E := ⟨d, s, lo, hi, rfl, D, h0, h1, h2, h3, q⟩
theorem ten30 : ((1000000000000000000000000000000 : Int)).natAbs < 2 ^ 4000 := by decide +kernel
theorem ten999 : (1000000000001 : Int) ≤ 10 ^ 999 := by decide +kernel

theorem ok_law_not_within (T : Tx K mg) : FnOk P w K mg base CX0 4 (He.ga K "_law_not_within") T.fd_law_not_within P_law_not_within sp_law_not_within := by
  refine T.F_law_not_within.ok sc_law_not_within (fun vs H Q E h => ?_) (fun cdv A outer s H vs Q E hr h => ⟨_, PSs.nox (pss_cons (ps_set (i := 3) sc_law_not_within.nd rfl (Or.inl rfl) (pe_call (ok_law_take T) (hr.mono (by decide)) rfl T.g_law_take T.F_law_take.kp (b_law_take T) .nil pass0 (pa_cons (pv 0) (pa_cons (pe_int) pa_nil)))) (pss_cons (ps_if (pt_cmpR op_lt (pv 3) (pe_int) (nomark _)) (pss_one (ps_ret (pe_ix ix_list (pe_lst (pa_cons (pe_op op_sub (pv 1) (pe_int)) (pa_cons (pe_op op_add (pv 2) (pe_int)) pa_nil))) (pv 3) (fun _ _ => rfl)))) pss_nil) (pss_cons (ps_if (pt_cmpR op_eq (pv 3) (pe_int) (nomark _)) (pss_one (ps_ret (pe_op op_add (pe_op op_add (pv 2) (pe_int)) (pe_call (ok_law_take T) (hr.mono (by decide)) rfl T.g_law_take T.F_law_take.kp (b_law_take T) .nil pass0 (pa_cons (pv 0) (pa_cons (pe_op op_pow (pe_int) (pe_int)) pa_nil)))))) pss_nil) (pss_cons (ps_if (pt_cmpR op_eq (pv 3) (pe_int) (nomark _)) (pss_one (ps_ret (pe_op op_sub (pe_op op_sub (pv 1) (pe_int)) (pe_call (ok_law_take T) (hr.mono (by decide)) rfl T.g_law_take T.F_law_take.kp (b_law_take T) .nil pass0 (pa_cons (pv 0) (pa_cons (pe_op op_pow (pe_int) (pe_int)) pa_nil)))))) pss_nil) (pss_cons (ps_if (pt_cmpR op_eq (pv 3) (pe_int) (nomark _)) (pss_one (ps_ret (pe_ix ix_list (pe_lst (pa_cons (pe_call0 (ok_law_long T) (hr.mono (by decide)) rfl T.g_law_long T.F_law_long.kp (b_law_long T) .nil pass0) (pa_cons (pe_un un_neg (pe_call0 (ok_law_long T) (hr.mono (by decide)) rfl T.g_law_long T.F_law_long.kp (b_law_long T) .nil pass0)) pa_nil))) (pe_call (ok_law_take T) (hr.mono (by decide)) rfl T.g_law_take T.F_law_take.kp (b_law_take T) .nil pass0 (pa_cons (pv 0) (pa_cons (pe_int) pa_nil))) (fun _ _ => rfl)))) pss_nil) (pss_one (ps_ret (pe_call (ok_law_not_integer T) hr rfl T.g_law_not_integer T.F_law_not_integer.kp (b_law_not_integer T) .nil pass0 (pa_cons (pv 0) pa_nil))))))))), ?_⟩)
  · obtain ⟨_, _, _, _, rfl, _⟩ := h
    rfl
  · obtain ⟨d, s, lo, hi, rfl, D, h0, h1, h2, h3, q⟩ := h
    simp only [tSeq, tAsg, tRet, tRetN, tDrop, tNext, tVar, tC, gName, tOp, tUn, rI, rI0, rU, tIfS, tTest, tB, tIf, tAnd, tOr, tNot, tAndV, tOrV, tNotV, tCall, tCons, tNil, tCB, tLst, tTup, tChain, CMul, CDiv, CPow, rEq, rNe, gSub, L2.start, LL.cxK0, LL.cxK1, List.map_cons, List.map_nil, List.length_cons, List.length_nil, List.replicate_succ, List.replicate_zero, List.cons_append, List.nil_append, List.append_nil, List.getElem?_cons_zero, List.getElem?_cons_succ, List.set_cons_zero, List.set_cons_succ, Nat.add_sub_cancel, Nat.reduceAdd, Nat.reduceSub, Option.some.injEq, V.int.injEq, V.bl.injEq, V.ref.injEq, V.str.injEq, List.cons.injEq, and_true, true_and, and_false, false_and, exists_eq_left, exists_eq_left', exists_and_left, exists_and_right, exists_eq, exists_eq', LL.if_dec, reduceCtorEq, exists_false, exists_const, or_false, false_or, if_true, if_false, LL.rInt1, LL.rMx, LL.rMn, and_assoc, Int.reduceNeg, Int.reduceLT, Int.reduceLE, Int.reduceMul, Int.reduceAdd, Int.reduceSub, Int.reducePow, Int.reduceToNat, Nat.reducePow, Nat.reduceLT, true_or, or_true, Bool.not_true, Bool.not_false, Bool.false_eq_true, Bool.or_false, Bool.or_true, Bool.true_or, Bool.false_or, decide_true, decide_false, not_true_eq_false, not_false_eq_true, LL.scal_int, LL.scal_bl, LL.scal_str, LL.isInt, LL.isBl, LL.isStr, LL.isLst, LL.isTup, LL.isDic, N_law_not_within]
    refine use_take D (by decide +kernel) fun v H' a D' v0 v1 => ?_
    simp only [tSeq, tAsg, tRet, tRetN, tDrop, tNext, tVar, tC, gName, tOp, tUn, rI, rI0, rU, tIfS, tTest, tB, tIf, tAnd, tOr, tNot, tAndV, tOrV, tNotV, tCall, tCons, tNil, tCB, tLst, tTup, tChain, CMul, CDiv, CPow, rEq, rNe, gSub, L2.start, LL.cxK0, LL.cxK1, List.map_cons, List.map_nil, List.length_cons, List.length_nil, List.replicate_succ, List.replicate_zero, List.cons_append, List.nil_append, List.append_nil, List.getElem?_cons_zero, List.getElem?_cons_succ, List.set_cons_zero, List.set_cons_succ, Nat.add_sub_cancel, Nat.reduceAdd, Nat.reduceSub, Option.some.injEq, V.int.injEq, V.bl.injEq, V.ref.injEq, V.str.injEq, List.cons.injEq, and_true, true_and, and_false, false_and, exists_eq_left, exists_eq_left', exists_and_left, exists_and_right, exists_eq, exists_eq', LL.if_dec, reduceCtorEq, exists_false, exists_const, or_false, false_or, if_true, if_false, LL.rInt1, LL.rMx, LL.rMn, and_assoc, Int.reduceNeg, Int.reduceLT, Int.reduceLE, Int.reduceMul, Int.reduceAdd, Int.reduceSub, Int.reducePow, Int.reduceToNat, Nat.reducePow, Nat.reduceLT, true_or, or_true, Bool.not_true, Bool.not_false, Bool.false_eq_true, Bool.or_false, Bool.or_true, Bool.true_or, Bool.false_or, decide_true, decide_false, not_true_eq_false, not_false_eq_true, LL.scal_int, LL.scal_bl, LL.scal_str, LL.isInt, LL.isBl, LL.isStr, LL.isLst, LL.isTup, LL.isDic]
    split
    · refine ⟨by decide, fun p hp => ?_⟩
      refine use_pick upd_same v0 (by simp only [List.length_cons, List.length_nil]; omega) ?_
      have a2 := a.new (o := .lst [.int (lo - 1), .int (hi + 1)]) hp
      intro x hx
      simp only [List.mem_cons, List.not_mem_nil, or_false] at hx
      rcases hx with rfl | rfl
      · exact q _ (.int _) _ a2 a2.dr rfl (by simp [dep]) (.inl (by omega))
      · exact q _ (.int _) _ a2 a2.dr rfl (by simp [dep]) (.inr (by omega))
    · split
      · refine ⟨by decide, use_take D' (by decide +kernel) fun v2 H2 a2 D2 h4 h5 => ?_⟩
        simp only [tSeq, tAsg, tRet, tRetN, tDrop, tNext, tVar, tC, gName, tOp, tUn, rI, rI0, rU, tIfS, tTest, tB, tIf, tAnd, tOr, tNot, tAndV, tOrV, tNotV, tCall, tCons, tNil, tCB, tLst, tTup, tChain, CMul, CDiv, CPow, rEq, rNe, gSub, L2.start, LL.cxK0, LL.cxK1, List.map_cons, List.map_nil, List.length_cons, List.length_nil, List.replicate_succ, List.replicate_zero, List.cons_append, List.nil_append, List.append_nil, List.getElem?_cons_zero, List.getElem?_cons_succ, List.set_cons_zero, List.set_cons_succ, Nat.add_sub_cancel, Nat.reduceAdd, Nat.reduceSub, Option.some.injEq, V.int.injEq, V.bl.injEq, V.ref.injEq, V.str.injEq, List.cons.injEq, and_true, true_and, and_false, false_and, exists_eq_left, exists_eq_left', exists_and_left, exists_and_right, exists_eq, exists_eq', LL.if_dec, reduceCtorEq, exists_false, exists_const, or_false, false_or, if_true, if_false, LL.rInt1, LL.rMx, LL.rMn, and_assoc, Int.reduceNeg, Int.reduceLT, Int.reduceLE, Int.reduceMul, Int.reduceAdd, Int.reduceSub, Int.reducePow, Int.reduceToNat, Nat.reducePow, Nat.reduceLT, true_or, or_true, Bool.not_true, Bool.not_false, Bool.false_eq_true, Bool.or_false, Bool.or_true, Bool.true_or, Bool.false_or, decide_true, decide_false, not_true_eq_false, not_false_eq_true, LL.scal_int, LL.scal_bl, LL.scal_str, LL.isInt, LL.isBl, LL.isStr, LL.isLst, LL.isTup, LL.isDic]
        exact q _ (.int _) _ (a.trans a2) D2 rfl (by simp [dep]) (.inr (by omega))
      · split
        · refine ⟨by decide, use_take D' (by decide +kernel) fun v2 H2 a2 D2 h4 h5 => ?_⟩
          simp only [tSeq, tAsg, tRet, tRetN, tDrop, tNext, tVar, tC, gName, tOp, tUn, rI, rI0, rU, tIfS, tTest, tB, tIf, tAnd, tOr, tNot, tAndV, tOrV, tNotV, tCall, tCons, tNil, tCB, tLst, tTup, tChain, CMul, CDiv, CPow, rEq, rNe, gSub, L2.start, LL.cxK0, LL.cxK1, List.map_cons, List.map_nil, List.length_cons, List.length_nil, List.replicate_succ, List.replicate_zero, List.cons_append, List.nil_append, List.append_nil, List.getElem?_cons_zero, List.getElem?_cons_succ, List.set_cons_zero, List.set_cons_succ, Nat.add_sub_cancel, Nat.reduceAdd, Nat.reduceSub, Option.some.injEq, V.int.injEq, V.bl.injEq, V.ref.injEq, V.str.injEq, List.cons.injEq, and_true, true_and, and_false, false_and, exists_eq_left, exists_eq_left', exists_and_left, exists_and_right, exists_eq, exists_eq', LL.if_dec, reduceCtorEq, exists_false, exists_const, or_false, false_or, if_true, if_false, LL.rInt1, LL.rMx, LL.rMn, and_assoc, Int.reduceNeg, Int.reduceLT, Int.reduceLE, Int.reduceMul, Int.reduceAdd, Int.reduceSub, Int.reducePow, Int.reduceToNat, Nat.reducePow, Nat.reduceLT, true_or, or_true, Bool.not_true, Bool.not_false, Bool.false_eq_true, Bool.or_false, Bool.or_true, Bool.true_or, Bool.false_or, decide_true, decide_false, not_true_eq_false, not_false_eq_true, LL.scal_int, LL.scal_bl, LL.scal_str, LL.isInt, LL.isBl, LL.isStr, LL.isLst, LL.isTup, LL.isDic]
          exact q _ (.int _) _ (a.trans a2) D2 rfl (by simp [dep]) (.inl (by omega))
        · split
          · refine ⟨rfl, ⟨rfl, ?_⟩⟩
            simp only [tSeq, tAsg, tRet, tRetN, tDrop, tNext, tVar, tC, gName, tOp, tUn, rI, rI0, rU, tIfS, tTest, tB, tIf, tAnd, tOr, tNot, tAndV, tOrV, tNotV, tCall, tCons, tNil, tCB, tLst, tTup, tChain, CMul, CDiv, CPow, rEq, rNe, gSub, L2.start, LL.cxK0, LL.cxK1, List.map_cons, List.map_nil, List.length_cons, List.length_nil, List.replicate_succ, List.replicate_zero, List.cons_append, List.nil_append, List.append_nil, List.getElem?_cons_zero, List.getElem?_cons_succ, List.set_cons_zero, List.set_cons_succ, Nat.add_sub_cancel, Nat.reduceAdd, Nat.reduceSub, Option.some.injEq, V.int.injEq, V.bl.injEq, V.ref.injEq, V.str.injEq, List.cons.injEq, and_true, true_and, and_false, false_and, exists_eq_left, exists_eq_left', exists_and_left, exists_and_right, exists_eq, exists_eq', LL.if_dec, reduceCtorEq, exists_false, exists_const, or_false, false_or, if_true, if_false, LL.rInt1, LL.rMx, LL.rMn, and_assoc, Int.reduceNeg, Int.reduceLT, Int.reduceLE, Int.reduceMul, Int.reduceAdd, Int.reduceSub, Int.reducePow, Int.reduceToNat, Nat.reducePow, Nat.reduceLT, true_or, or_true, Bool.not_true, Bool.not_false, Bool.false_eq_true, Bool.or_false, Bool.or_true, Bool.true_or, Bool.false_or, decide_true, decide_false, not_true_eq_false, not_false_eq_true, LL.scal_int, LL.scal_bl, LL.scal_str, LL.isInt, LL.isBl, LL.isStr, LL.isLst, LL.isTup, LL.isDic]
            refine ⟨by decide, ?_⟩
            intro p np
            generalize hq : upd H' p _ = H1
            have sH1 : Same H' H1 := hq ▸ Same.new (Same.refl _) np
            have ep := hq ▸ (upd_same (H := H') (a := p))
            clear hq
            refine use_take (D'.same sH1) (by decide +kernel) fun v2 H2 a2 D2 h4 h5 => ?_
            refine use_pick (a2.kp _ _ (D'.ne _ np) ep) h4 (by simp only [List.length_cons, List.length_nil]; omega) ?_
            have A : Aft d s H H2 := a.trans ⟨(Kp.same sH1).trans a2.kp, D2⟩
            have := ten999
            intro x hx
            simp only [List.mem_cons, List.not_mem_nil, or_false] at hx
            rcases hx with rfl | rfl
            · exact q _ (.int _) _ A D2 rfl (by simp [dep]) (.inr (by generalize (10 : Int) ^ 999 = z at *; omega))
            · exact q _ (.int _) _ A D2 rfl (by simp [dep]) (.inl (by generalize (10 : Int) ^ 999 = z at *; omega))
          · refine ⟨d, s, rfl, D', fun v t H2 a2 D2 hd hp ht => ?_⟩
            exact q v t H2 (a.trans a2) D2 (hd.to fun b hb => a.free hb) hp (out_of ht)
end K00

namespace K00
open PySem PySem.Spec PyProof.Rows L2 LL
variable {P : Program} {w : World} {K : PySem.W.Frag} {mg : Str → Option Value} {base : Heap}

def sp_isint : Sp := fun vs H Q _ => ∃ (F : Addr → Prop) (v : V) (t : LL.T), vs = [v] ∧ Dt F H v t ∧ Q (.bl (LL.isInt t)) H
theorem use_isint {F : Addr → Prop} {v : V} {t : LL.T} {H : Hp} {Q : VK} {E : XK} (h : Dt F H v t) (q : Q (.bl (LL.isInt t)) H) : sp_isint [v] H Q E := ⟨F, v, t, rfl, h, q⟩

theorem ok_law_is_int (T : Tx K mg) : FnOk P w K mg base CX0 1 (He.ga K "_law_is_int") T.fd_law_is_int P_law_is_int sp_isint := by
  refine T.F_law_is_int.ok sc_law_is_int (fun vs H Q E h => ?_) (fun cdv A outer s H vs Q E hr h => ⟨_, PSs.nox (pss_one (ps_ret ((pe_and (pe_callB call_isi (by rfl) T.z_isinstance (by decide +kernel) (pa_cons (pv 0) (pa_cons (pe_bltn (v := .ty "int") (u := .type "int") (by rfl) T.z_int (by decide +kernel) rfl) pa_nil))) (pe_one (pe_not (pe_callB call_isi (by rfl) T.z_isinstance (by decide +kernel) (pa_cons (pv 0) (pa_cons (pe_bltn (v := .ty "bool") (u := .type "bool") (by rfl) T.z_bool (by decide +kernel) rfl) pa_nil))))))))), ?_⟩)
  · obtain ⟨_, _, _, rfl, _⟩ := h
    rfl
  · obtain ⟨F, v, t, rfl, hd, q⟩ := h
    simp only [tSeq, tAsg, tRet, tRetN, tDrop, tNext, tVar, tC, gName, tOp, tUn, rI, rI0, rU, tIfS, tTest, tB, tIf, tAnd, tOr, tNot, tAndV, tOrV, tNotV, tCall, tCons, tNil, tCB, tLst, tTup, tChain, CMul, CDiv, CPow, rEq, rNe, gSub, L2.start, LL.cxK0, LL.cxK1, List.map_cons, List.map_nil, List.length_cons, List.length_nil, List.replicate_succ, List.replicate_zero, List.cons_append, List.nil_append, List.append_nil, List.getElem?_cons_zero, List.getElem?_cons_succ, List.set_cons_zero, List.set_cons_succ, Nat.add_sub_cancel, Nat.reduceAdd, Nat.reduceSub, Option.some.injEq, V.int.injEq, V.bl.injEq, V.ref.injEq, V.str.injEq, List.cons.injEq, and_true, true_and, and_false, false_and, exists_eq_left, exists_eq_left', exists_and_left, exists_and_right, exists_eq, exists_eq', LL.if_dec, reduceCtorEq, exists_false, exists_const, or_false, false_or, if_true, if_false, LL.rInt1, LL.rMx, LL.rMn, and_assoc, Int.reduceNeg, Int.reduceLT, Int.reduceLE, Int.reduceMul, Int.reduceAdd, Int.reduceSub, Int.reducePow, Int.reduceToNat, Nat.reducePow, Nat.reduceLT, true_or, or_true, Bool.not_true, Bool.not_false, Bool.false_eq_true, Bool.or_false, Bool.or_true, Bool.true_or, Bool.false_or, decide_true, decide_false, not_true_eq_false, not_false_eq_true, LL.scal_int, LL.scal_bl, LL.scal_str, LL.isInt, LL.isBl, LL.isStr, LL.isLst, LL.isTup, LL.isDic, N_law_is_int]
    cases t
    all_goals
      repeat (first | refine use_isi hd (kit_int _) ?_ | refine use_isi hd (kit_bool _) ?_ | refine use_isi hd (kit_str _) ?_ | refine use_isi hd (kit_list _) ?_ | refine use_isi hd (kit_tuple _) ?_ | refine use_isi hd (kit_dict _) ?_ | refine And.intro (show scal _ _ = true from rfl) ?_ | simp only [tSeq, tAsg, tRet, tRetN, tDrop, tNext, tVar, tC, gName, tOp, tUn, rI, rI0, rU, tIfS, tTest, tB, tIf, tAnd, tOr, tNot, tAndV, tOrV, tNotV, tCall, tCons, tNil, tCB, tLst, tTup, tChain, CMul, CDiv, CPow, rEq, rNe, gSub, L2.start, LL.cxK0, LL.cxK1, List.map_cons, List.map_nil, List.length_cons, List.length_nil, List.replicate_succ, List.replicate_zero, List.cons_append, List.nil_append, List.append_nil, List.getElem?_cons_zero, List.getElem?_cons_succ, List.set_cons_zero, List.set_cons_succ, Nat.add_sub_cancel, Nat.reduceAdd, Nat.reduceSub, Option.some.injEq, V.int.injEq, V.bl.injEq, V.ref.injEq, V.str.injEq, List.cons.injEq, and_true, true_and, and_false, false_and, exists_eq_left, exists_eq_left', exists_and_left, exists_and_right, exists_eq, exists_eq', LL.if_dec, reduceCtorEq, exists_false, exists_const, or_false, false_or, if_true, if_false, LL.rInt1, LL.rMx, LL.rMn, and_assoc, Int.reduceNeg, Int.reduceLT, Int.reduceLE, Int.reduceMul, Int.reduceAdd, Int.reduceSub, Int.reducePow, Int.reduceToNat, Nat.reducePow, Nat.reduceLT, true_or, or_true, Bool.not_true, Bool.not_false, Bool.false_eq_true, Bool.or_false, Bool.or_true, Bool.true_or, Bool.false_or, decide_true, decide_false, not_true_eq_false, not_false_eq_true, LL.scal_int, LL.scal_bl, LL.scal_str, LL.isInt, LL.isBl, LL.isStr, LL.isLst, LL.isTup, LL.isDic])
      exact q
theorem ok_is_whole (T : Tx K mg) : FnOk P w K mg base CX0 1 (He.ga K "is_whole") T.fd_is_whole P_is_whole sp_isint := by
  refine T.F_is_whole.ok sc_is_whole (fun vs H Q E h => ?_) (fun cdv A outer s H vs Q E hr h => ⟨_, PSs.nox (pss_one (ps_ret ((pe_and (pe_callB call_isi (by rfl) T.z_isinstance (by decide +kernel) (pa_cons (pv 0) (pa_cons (pe_bltn (v := .ty "int") (u := .type "int") (by rfl) T.z_int (by decide +kernel) rfl) pa_nil))) (pe_one (pe_not (pe_callB call_isi (by rfl) T.z_isinstance (by decide +kernel) (pa_cons (pv 0) (pa_cons (pe_bltn (v := .ty "bool") (u := .type "bool") (by rfl) T.z_bool (by decide +kernel) rfl) pa_nil))))))))), ?_⟩)
  · obtain ⟨_, _, _, rfl, _⟩ := h
    rfl
  · obtain ⟨F, v, t, rfl, hd, q⟩ := h
    simp only [tSeq, tAsg, tRet, tRetN, tDrop, tNext, tVar, tC, gName, tOp, tUn, rI, rI0, rU, tIfS, tTest, tB, tIf, tAnd, tOr, tNot, tAndV, tOrV, tNotV, tCall, tCons, tNil, tCB, tLst, tTup, tChain, CMul, CDiv, CPow, rEq, rNe, gSub, L2.start, LL.cxK0, LL.cxK1, List.map_cons, List.map_nil, List.length_cons, List.length_nil, List.replicate_succ, List.replicate_zero, List.cons_append, List.nil_append, List.append_nil, List.getElem?_cons_zero, List.getElem?_cons_succ, List.set_cons_zero, List.set_cons_succ, Nat.add_sub_cancel, Nat.reduceAdd, Nat.reduceSub, Option.some.injEq, V.int.injEq, V.bl.injEq, V.ref.injEq, V.str.injEq, List.cons.injEq, and_true, true_and, and_false, false_and, exists_eq_left, exists_eq_left', exists_and_left, exists_and_right, exists_eq, exists_eq', LL.if_dec, reduceCtorEq, exists_false, exists_const, or_false, false_or, if_true, if_false, LL.rInt1, LL.rMx, LL.rMn, and_assoc, Int.reduceNeg, Int.reduceLT, Int.reduceLE, Int.reduceMul, Int.reduceAdd, Int.reduceSub, Int.reducePow, Int.reduceToNat, Nat.reducePow, Nat.reduceLT, true_or, or_true, Bool.not_true, Bool.not_false, Bool.false_eq_true, Bool.or_false, Bool.or_true, Bool.true_or, Bool.false_or, decide_true, decide_false, not_true_eq_false, not_false_eq_true, LL.scal_int, LL.scal_bl, LL.scal_str, LL.isInt, LL.isBl, LL.isStr, LL.isLst, LL.isTup, LL.isDic, N_is_whole]
    cases t
    all_goals
      repeat (first | refine use_isi hd (kit_int _) ?_ | refine use_isi hd (kit_bool _) ?_ | refine use_isi hd (kit_str _) ?_ | refine use_isi hd (kit_list _) ?_ | refine use_isi hd (kit_tuple _) ?_ | refine use_isi hd (kit_dict _) ?_ | refine And.intro (show scal _ _ = true from rfl) ?_ | simp only [tSeq, tAsg, tRet, tRetN, tDrop, tNext, tVar, tC, gName, tOp, tUn, rI, rI0, rU, tIfS, tTest, tB, tIf, tAnd, tOr, tNot, tAndV, tOrV, tNotV, tCall, tCons, tNil, tCB, tLst, tTup, tChain, CMul, CDiv, CPow, rEq, rNe, gSub, L2.start, LL.cxK0, LL.cxK1, List.map_cons, List.map_nil, List.length_cons, List.length_nil, List.replicate_succ, List.replicate_zero, List.cons_append, List.nil_append, List.append_nil, List.getElem?_cons_zero, List.getElem?_cons_succ, List.set_cons_zero, List.set_cons_succ, Nat.add_sub_cancel, Nat.reduceAdd, Nat.reduceSub, Option.some.injEq, V.int.injEq, V.bl.injEq, V.ref.injEq, V.str.injEq, List.cons.injEq, and_true, true_and, and_false, false_and, exists_eq_left, exists_eq_left', exists_and_left, exists_and_right, exists_eq, exists_eq', LL.if_dec, reduceCtorEq, exists_false, exists_const, or_false, false_or, if_true, if_false, LL.rInt1, LL.rMx, LL.rMn, and_assoc, Int.reduceNeg, Int.reduceLT, Int.reduceLE, Int.reduceMul, Int.reduceAdd, Int.reduceSub, Int.reducePow, Int.reduceToNat, Nat.reducePow, Nat.reduceLT, true_or, or_true, Bool.not_true, Bool.not_false, Bool.false_eq_true, Bool.or_false, Bool.or_true, Bool.true_or, Bool.false_or, decide_true, decide_false, not_true_eq_false, not_false_eq_true, LL.scal_int, LL.scal_bl, LL.scal_str, LL.isInt, LL.isBl, LL.isStr, LL.isLst, LL.isTup, LL.isDic])
      exact q
/-- a tuple of two integers -/
def pairB : LL.T → Bool
  | .tup [.int _, .int _] => true
  | _ => false
theorem pair_all {us : List LL.T} (h : us.length = 2) : pairB (.tup us) = us.all LL.isInt := by
  match us, h with
  | [x, y], _ => cases x <;> cases y <;> rfl
theorem pair_len {us : List LL.T} (h : ¬ us.length = 2) : pairB (.tup us) = false := by
  match us, h with
  | [], _ => rfl
  | [x], _ => cases x <;> rfl
  | [x, y], h => exact absurd rfl h
  | x :: y :: z :: r, _ => cases x <;> cases y <;> rfl
def sp_law_is_ints : Sp := fun vs H Q _ => ∃ (F : Addr → Prop) (v : V) (t : LL.T), vs = [v, .bl false, .int 2] ∧ Dt F H v t ∧ Q (.bl (pairB t)) H
theorem use_pairB {F : Addr → Prop} {v : V} {t : LL.T} {H : Hp} {Q : VK} {E : XK} (h : Dt F H v t) (q : Q (.bl (pairB t)) H) : sp_law_is_ints [v, .bl false, .int 2] H Q E := ⟨F, v, t, rfl, h, q⟩
theorem use_ints {F : Addr → Prop} {v : V} {a b : Int} {H : Hp} {Q : VK} {E : XK} (h : Dt F H v (.tup [.int a, .int b])) (q : Q (.bl true) H) : sp_law_is_ints [v, .bl false, .int 2] H Q E := ⟨F, v, _, rfl, h, q⟩

/-- the same data gives True -/
def sp_law_same (n : Nat) : Sp := fun vs H Q _ => ∃ (F G : Addr → Prop) (v x : V) (t : LL.T), vs = [v, x] ∧ Dt F H v t ∧ Dt G H x t ∧ dep t < n ∧ ∀ H', Same H H' → Q (.bl true) H'
theorem use_same {n : Nat} {F G : Addr → Prop} {v x : V} {t : LL.T} {H : Hp} {Q : VK} {E : XK} (h1 : Dt F H v t) (h2 : Dt G H x t) (hn : dep t < n) (q : ∀ H', Same H H' → Q (.bl true) H') : sp_law_same n [v, x] H Q E := ⟨F, G, v, x, t, rfl, h1, h2, hn, q⟩

theorem ok_law_same (T : Tx K mg) : ∀ n : Nat, FnOk P w K mg base CX0 (n + 1) (He.ga K "_law_same") T.fd_law_same P_law_same (sp_law_same n) := by
  intro n
  induction n with
  | zero => exact ⟨fun vs H Q E h => by obtain ⟨_, _, _, _, _, _, _, _, h, _⟩ := h; exact absurd h (Nat.not_lt_zero _), fun A outer s H args us vs Q E hr he hb hv h => by obtain ⟨_, _, _, _, _, _, _, _, h, _⟩ := h; exact absurd h (Nat.not_lt_zero _)⟩
  | succ n ih =>
    refine T.F_law_same.ok sc_law_same (fun vs H Q E h => ?_) (fun cdv A outer s H vs Q E hr h => ⟨_, PSs.nox (pss_cons (ps_if (PW.pt (pw_or (pt_cmpR op_isN (pv 0) (pe_non) (nomark _)) (pw_or1 (pt_cmpR op_isN (pv 1) (pe_non) (nomark _))))) (pss_one (ps_ret ((pe_and (pe_cmpR op_isN (pv 0) (pe_non) (nomark _)) (pe_one (pe_cmpR op_isN (pv 1) (pe_non) (nomark _))))))) pss_nil) (pss_cons (ps_if (PW.pt (pw_or (pt_val (pe_callB call_isi (by rfl) T.z_isinstance (by decide +kernel) (pa_cons (pv 0) (pa_cons (pe_bltn (v := .ty "bool") (u := .type "bool") (by rfl) T.z_bool (by decide +kernel) rfl) pa_nil)))) (pw_or1 (pt_val (pe_callB call_isi (by rfl) T.z_isinstance (by decide +kernel) (pa_cons (pv 1) (pa_cons (pe_bltn (v := .ty "bool") (u := .type "bool") (by rfl) T.z_bool (by decide +kernel) rfl) pa_nil))))))) (pss_one (ps_ret ((pe_and (pe_callB call_isi (by rfl) T.z_isinstance (by decide +kernel) (pa_cons (pv 0) (pa_cons (pe_bltn (v := .ty "bool") (u := .type "bool") (by rfl) T.z_bool (by decide +kernel) rfl) pa_nil))) (pe_and (pe_callB call_isi (by rfl) T.z_isinstance (by decide +kernel) (pa_cons (pv 1) (pa_cons (pe_bltn (v := .ty "bool") (u := .type "bool") (by rfl) T.z_bool (by decide +kernel) rfl) pa_nil))) (pe_one (pe_cmpR op_eq (pv 0) (pv 1) (nomark _)))))))) pss_nil) (pss_cons (ps_if (pt_val (pe_callB call_isi (by rfl) T.z_isinstance (by decide +kernel) (pa_cons (pv 1) (pa_cons (pe_bltn (v := .ty "int") (u := .type "int") (by rfl) T.z_int (by decide +kernel) rfl) pa_nil)))) (pss_one (ps_ret ((pe_and (pe_callB call_isi (by rfl) T.z_isinstance (by decide +kernel) (pa_cons (pv 0) (pa_cons (pe_bltn (v := .ty "int") (u := .type "int") (by rfl) T.z_int (by decide +kernel) rfl) pa_nil))) (pe_one (pe_cmpR op_eq (pv 0) (pv 1) (nomark _))))))) pss_nil) (pss_cons (ps_if (pt_val (pe_callB call_isi (by rfl) T.z_isinstance (by decide +kernel) (pa_cons (pv 1) (pa_cons (pe_bltn (v := .ty "str") (u := .type "str") (by rfl) T.z_str (by decide +kernel) rfl) pa_nil)))) (pss_one (ps_ret ((pe_and (pe_callB call_isi (by rfl) T.z_isinstance (by decide +kernel) (pa_cons (pv 0) (pa_cons (pe_bltn (v := .ty "str") (u := .type "str") (by rfl) T.z_str (by decide +kernel) rfl) pa_nil))) (pe_one (pe_cmpR op_eq (pv 0) (pv 1) (nomark _))))))) pss_nil) (pss_cons (ps_if (pt_val (pe_callB call_isi (by rfl) T.z_isinstance (by decide +kernel) (pa_cons (pv 1) (pa_cons (pe_bltn (v := .ty "dict") (u := .type "dict") (by rfl) T.z_dict (by decide +kernel) rfl) pa_nil)))) (pss_cons (ps_if (PW.pt (pw_or (pt_not (pt_val (pe_callB call_isi (by rfl) T.z_isinstance (by decide +kernel) (pa_cons (pv 0) (pa_cons (pe_bltn (v := .ty "dict") (u := .type "dict") (by rfl) T.z_dict (by decide +kernel) rfl) pa_nil))))) (pw_or1 (pt_cmpR op_ne (pe_callB LL.call_lenA (by rfl) T.z_len (by decide +kernel) (pa_cons (pv 0) pa_nil)) (pe_callB LL.call_lenA (by rfl) T.z_len (by decide +kernel) (pa_cons (pv 1) pa_nil)) (nomark _))))) (pss_one (ps_ret (pe_bl))) pss_nil) (pss_cons (ps_for PassesOwn.never rfl (pi_list (pe_callTy (LL.call_lstD rfl) (by rfl) T.z_list (by decide +kernel) (pa_cons (pv 1) pa_nil))) (pg_name (i := 3) sc_law_same.nd rfl (Or.inl rfl)) (pss_one (ps_if (PW.pt (pw_or (pt_cmp (pc_dnotin (hu_of hr) (pv 3) (pv 0))) (pw_or1 (pt_not (pt_val (pe_call ih hr rfl T.g_law_same T.F_law_same.kp (b_law_same T) .nil pass0 (pa_cons (pe_dget (hu_of hr) (pv 0) (pv 3) (fun _ _ => rfl)) (pa_cons (pe_dget (hu_of hr) (pv 1) (pv 3) (fun _ _ => rfl)) pa_nil)))))))) (pss_one (ps_ret (pe_bl))) pss_nil))) (pss_one (ps_ret (pe_bl))))) pss_nil) (pss_cons (ps_if (pt_cmpR op_ne (pe_callB call_isi (by rfl) T.z_isinstance (by decide +kernel) (pa_cons (pv 1) (pa_cons (pe_bltn (v := .ty "list") (u := .type "list") (by rfl) T.z_list (by decide +kernel) rfl) pa_nil))) (pe_callB call_isi (by rfl) T.z_isinstance (by decide +kernel) (pa_cons (pv 0) (pa_cons (pe_bltn (v := .ty "list") (u := .type "list") (by rfl) T.z_list (by decide +kernel) rfl) pa_nil))) (nomark _)) (pss_one (ps_ret (pe_bl))) pss_nil) (pss_cons (ps_if (pt_cmpR op_ne (pe_callB call_isi (by rfl) T.z_isinstance (by decide +kernel) (pa_cons (pv 1) (pa_cons (pe_bltn (v := .ty "tuple") (u := .type "tuple") (by rfl) T.z_tuple (by decide +kernel) rfl) pa_nil))) (pe_callB call_isi (by rfl) T.z_isinstance (by decide +kernel) (pa_cons (pv 0) (pa_cons (pe_bltn (v := .ty "tuple") (u := .type "tuple") (by rfl) T.z_tuple (by decide +kernel) rfl) pa_nil))) (nomark _)) (pss_one (ps_ret (pe_bl))) pss_nil) (pss_cons (ps_if (PW.pt (pw_or (PW.pt (pw_and (pt_not (pt_val (pe_callB call_isi (by rfl) T.z_isinstance (by decide +kernel) (pa_cons (pv 1) (pa_cons (pe_bltn (v := .ty "list") (u := .type "list") (by rfl) T.z_list (by decide +kernel) rfl) pa_nil))))) (pw_and1 (pt_not (pt_val (pe_callB call_isi (by rfl) T.z_isinstance (by decide +kernel) (pa_cons (pv 1) (pa_cons (pe_bltn (v := .ty "tuple") (u := .type "tuple") (by rfl) T.z_tuple (by decide +kernel) rfl) pa_nil)))))))) (pw_or1 (pt_cmpR op_ne (pe_callB LL.call_lenA (by rfl) T.z_len (by decide +kernel) (pa_cons (pv 0) pa_nil)) (pe_callB LL.call_lenA (by rfl) T.z_len (by decide +kernel) (pa_cons (pv 1) pa_nil)) (nomark _))))) (pss_one (ps_ret (pe_bl))) pss_nil) (pss_cons (ps_for PassesOwn.never rfl (pi_range1 rfl T.z_range (pa_cons (pe_callB LL.call_lenA (by rfl) T.z_len (by decide +kernel) (pa_cons (pv 1) pa_nil)) pa_nil)) (pg_name (i := 2) sc_law_same.nd rfl (Or.inl rfl)) (pss_one (ps_if (pt_not (pt_val (pe_call ih hr rfl T.g_law_same T.F_law_same.kp (b_law_same T) .nil pass0 (pa_cons (pe_ix LL.ix_A (pv 0) (pv 2) (fun _ _ => rfl)) (pa_cons (pe_ix LL.ix_A (pv 1) (pv 2) (fun _ _ => rfl)) pa_nil))))) (pss_one (ps_ret (pe_bl))) pss_nil))) (pss_one (ps_ret (pe_bl)))))))))))), ?_⟩)
    · obtain ⟨_, _, _, _, _, rfl, _⟩ := h
      rfl
    · obtain ⟨F, G, v, x, t, rfl, h1, h2, hn, q⟩ := h
      cases t with
      | non =>
        obtain rfl : v = .non := h1
        obtain rfl : x = .non := h2
        simp only [tSeq, tAsg, tRet, tRetN, tDrop, tNext, tVar, tC, gName, tOp, tUn, rI, rI0, rU, tIfS, tTest, tB, tIf, tAnd, tOr, tNot, tAndV, tOrV, tNotV, tCall, tCons, tNil, tCB, tLst, tTup, tChain, CMul, CDiv, CPow, rEq, rNe, gSub, L2.start, LL.cxK0, LL.cxK1, List.map_cons, List.map_nil, List.length_cons, List.length_nil, List.replicate_succ, List.replicate_zero, List.cons_append, List.nil_append, List.append_nil, List.getElem?_cons_zero, List.getElem?_cons_succ, List.set_cons_zero, List.set_cons_succ, Nat.add_sub_cancel, Nat.reduceAdd, Nat.reduceSub, Option.some.injEq, V.int.injEq, V.bl.injEq, V.ref.injEq, V.str.injEq, List.cons.injEq, and_true, true_and, and_false, false_and, exists_eq_left, exists_eq_left', exists_and_left, exists_and_right, exists_eq, exists_eq', LL.if_dec, reduceCtorEq, exists_false, exists_const, or_false, false_or, if_true, if_false, LL.rInt1, LL.rMx, LL.rMn, and_assoc, Int.reduceNeg, Int.reduceLT, Int.reduceLE, Int.reduceMul, Int.reduceAdd, Int.reduceSub, Int.reducePow, Int.reduceToNat, Nat.reducePow, Nat.reduceLT, true_or, or_true, Bool.not_true, Bool.not_false, Bool.false_eq_true, Bool.or_false, Bool.or_true, Bool.true_or, Bool.false_or, decide_true, decide_false, not_true_eq_false, not_false_eq_true, LL.scal_int, LL.scal_bl, LL.scal_str, LL.isInt, LL.isBl, LL.isStr, LL.isLst, LL.isTup, LL.isDic, N_law_same]
        exact q _ (Same.refl _)
      | bl b =>
        obtain rfl : v = .bl b := h1
        obtain rfl : x = .bl b := h2
        have h1 : Dt F H (.bl b) (.bl b) := rfl
        simp only [tSeq, tAsg, tRet, tRetN, tDrop, tNext, tVar, tC, gName, tOp, tUn, rI, rI0, rU, tIfS, tTest, tB, tIf, tAnd, tOr, tNot, tAndV, tOrV, tNotV, tCall, tCons, tNil, tCB, tLst, tTup, tChain, CMul, CDiv, CPow, rEq, rNe, gSub, L2.start, LL.cxK0, LL.cxK1, List.map_cons, List.map_nil, List.length_cons, List.length_nil, List.replicate_succ, List.replicate_zero, List.cons_append, List.nil_append, List.append_nil, List.getElem?_cons_zero, List.getElem?_cons_succ, List.set_cons_zero, List.set_cons_succ, Nat.add_sub_cancel, Nat.reduceAdd, Nat.reduceSub, Option.some.injEq, V.int.injEq, V.bl.injEq, V.ref.injEq, V.str.injEq, List.cons.injEq, and_true, true_and, and_false, false_and, exists_eq_left, exists_eq_left', exists_and_left, exists_and_right, exists_eq, exists_eq', LL.if_dec, reduceCtorEq, exists_false, exists_const, or_false, false_or, if_true, if_false, LL.rInt1, LL.rMx, LL.rMn, and_assoc, Int.reduceNeg, Int.reduceLT, Int.reduceLE, Int.reduceMul, Int.reduceAdd, Int.reduceSub, Int.reducePow, Int.reduceToNat, Nat.reducePow, Nat.reduceLT, true_or, or_true, Bool.not_true, Bool.not_false, Bool.false_eq_true, Bool.or_false, Bool.or_true, Bool.true_or, Bool.false_or, decide_true, decide_false, not_true_eq_false, not_false_eq_true, LL.scal_int, LL.scal_bl, LL.scal_str, LL.isInt, LL.isBl, LL.isStr, LL.isLst, LL.isTup, LL.isDic, N_law_same]
        repeat (first | refine use_isi h1 (kit_int _) ?_ | refine use_isi h1 (kit_bool _) ?_ | refine use_isi h1 (kit_str _) ?_ | refine use_isi h1 (kit_list _) ?_ | refine use_isi h1 (kit_tuple _) ?_ | refine use_isi h1 (kit_dict _) ?_ | refine And.intro (show scal _ _ = true from rfl) ?_ | simp only [tSeq, tAsg, tRet, tRetN, tDrop, tNext, tVar, tC, gName, tOp, tUn, rI, rI0, rU, tIfS, tTest, tB, tIf, tAnd, tOr, tNot, tAndV, tOrV, tNotV, tCall, tCons, tNil, tCB, tLst, tTup, tChain, CMul, CDiv, CPow, rEq, rNe, gSub, L2.start, LL.cxK0, LL.cxK1, List.map_cons, List.map_nil, List.length_cons, List.length_nil, List.replicate_succ, List.replicate_zero, List.cons_append, List.nil_append, List.append_nil, List.getElem?_cons_zero, List.getElem?_cons_succ, List.set_cons_zero, List.set_cons_succ, Nat.add_sub_cancel, Nat.reduceAdd, Nat.reduceSub, Option.some.injEq, V.int.injEq, V.bl.injEq, V.ref.injEq, V.str.injEq, List.cons.injEq, and_true, true_and, and_false, false_and, exists_eq_left, exists_eq_left', exists_and_left, exists_and_right, exists_eq, exists_eq', LL.if_dec, reduceCtorEq, exists_false, exists_const, or_false, false_or, if_true, if_false, LL.rInt1, LL.rMx, LL.rMn, and_assoc, Int.reduceNeg, Int.reduceLT, Int.reduceLE, Int.reduceMul, Int.reduceAdd, Int.reduceSub, Int.reducePow, Int.reduceToNat, Nat.reducePow, Nat.reduceLT, true_or, or_true, Bool.not_true, Bool.not_false, Bool.false_eq_true, Bool.or_false, Bool.or_true, Bool.true_or, Bool.false_or, decide_true, decide_false, not_true_eq_false, not_false_eq_true, LL.scal_int, LL.scal_bl, LL.scal_str, LL.isInt, LL.isBl, LL.isStr, LL.isLst, LL.isTup, LL.isDic])
        exact q _ (Same.refl _)
      | int i =>
        obtain rfl : v = .int i := h1
        obtain rfl : x = .int i := h2
        have h1 : Dt F H (.int i) (.int i) := rfl
        simp only [tSeq, tAsg, tRet, tRetN, tDrop, tNext, tVar, tC, gName, tOp, tUn, rI, rI0, rU, tIfS, tTest, tB, tIf, tAnd, tOr, tNot, tAndV, tOrV, tNotV, tCall, tCons, tNil, tCB, tLst, tTup, tChain, CMul, CDiv, CPow, rEq, rNe, gSub, L2.start, LL.cxK0, LL.cxK1, List.map_cons, List.map_nil, List.length_cons, List.length_nil, List.replicate_succ, List.replicate_zero, List.cons_append, List.nil_append, List.append_nil, List.getElem?_cons_zero, List.getElem?_cons_succ, List.set_cons_zero, List.set_cons_succ, Nat.add_sub_cancel, Nat.reduceAdd, Nat.reduceSub, Option.some.injEq, V.int.injEq, V.bl.injEq, V.ref.injEq, V.str.injEq, List.cons.injEq, and_true, true_and, and_false, false_and, exists_eq_left, exists_eq_left', exists_and_left, exists_and_right, exists_eq, exists_eq', LL.if_dec, reduceCtorEq, exists_false, exists_const, or_false, false_or, if_true, if_false, LL.rInt1, LL.rMx, LL.rMn, and_assoc, Int.reduceNeg, Int.reduceLT, Int.reduceLE, Int.reduceMul, Int.reduceAdd, Int.reduceSub, Int.reducePow, Int.reduceToNat, Nat.reducePow, Nat.reduceLT, true_or, or_true, Bool.not_true, Bool.not_false, Bool.false_eq_true, Bool.or_false, Bool.or_true, Bool.true_or, Bool.false_or, decide_true, decide_false, not_true_eq_false, not_false_eq_true, LL.scal_int, LL.scal_bl, LL.scal_str, LL.isInt, LL.isBl, LL.isStr, LL.isLst, LL.isTup, LL.isDic, N_law_same]
        repeat (first | refine use_isi h1 (kit_int _) ?_ | refine use_isi h1 (kit_bool _) ?_ | refine use_isi h1 (kit_str _) ?_ | refine use_isi h1 (kit_list _) ?_ | refine use_isi h1 (kit_tuple _) ?_ | refine use_isi h1 (kit_dict _) ?_ | refine And.intro (show scal _ _ = true from rfl) ?_ | simp only [tSeq, tAsg, tRet, tRetN, tDrop, tNext, tVar, tC, gName, tOp, tUn, rI, rI0, rU, tIfS, tTest, tB, tIf, tAnd, tOr, tNot, tAndV, tOrV, tNotV, tCall, tCons, tNil, tCB, tLst, tTup, tChain, CMul, CDiv, CPow, rEq, rNe, gSub, L2.start, LL.cxK0, LL.cxK1, List.map_cons, List.map_nil, List.length_cons, List.length_nil, List.replicate_succ, List.replicate_zero, List.cons_append, List.nil_append, List.append_nil, List.getElem?_cons_zero, List.getElem?_cons_succ, List.set_cons_zero, List.set_cons_succ, Nat.add_sub_cancel, Nat.reduceAdd, Nat.reduceSub, Option.some.injEq, V.int.injEq, V.bl.injEq, V.ref.injEq, V.str.injEq, List.cons.injEq, and_true, true_and, and_false, false_and, exists_eq_left, exists_eq_left', exists_and_left, exists_and_right, exists_eq, exists_eq', LL.if_dec, reduceCtorEq, exists_false, exists_const, or_false, false_or, if_true, if_false, LL.rInt1, LL.rMx, LL.rMn, and_assoc, Int.reduceNeg, Int.reduceLT, Int.reduceLE, Int.reduceMul, Int.reduceAdd, Int.reduceSub, Int.reducePow, Int.reduceToNat, Nat.reducePow, Nat.reduceLT, true_or, or_true, Bool.not_true, Bool.not_false, Bool.false_eq_true, Bool.or_false, Bool.or_true, Bool.true_or, Bool.false_or, decide_true, decide_false, not_true_eq_false, not_false_eq_true, LL.scal_int, LL.scal_bl, LL.scal_str, LL.isInt, LL.isBl, LL.isStr, LL.isLst, LL.isTup, LL.isDic])
        exact q _ (Same.refl _)
      | str z =>
        obtain rfl : v = .str z := h1
        obtain rfl : x = .str z := h2
        have h1 : Dt F H (.str z) (.str z) := rfl
        simp only [tSeq, tAsg, tRet, tRetN, tDrop, tNext, tVar, tC, gName, tOp, tUn, rI, rI0, rU, tIfS, tTest, tB, tIf, tAnd, tOr, tNot, tAndV, tOrV, tNotV, tCall, tCons, tNil, tCB, tLst, tTup, tChain, CMul, CDiv, CPow, rEq, rNe, gSub, L2.start, LL.cxK0, LL.cxK1, List.map_cons, List.map_nil, List.length_cons, List.length_nil, List.replicate_succ, List.replicate_zero, List.cons_append, List.nil_append, List.append_nil, List.getElem?_cons_zero, List.getElem?_cons_succ, List.set_cons_zero, List.set_cons_succ, Nat.add_sub_cancel, Nat.reduceAdd, Nat.reduceSub, Option.some.injEq, V.int.injEq, V.bl.injEq, V.ref.injEq, V.str.injEq, List.cons.injEq, and_true, true_and, and_false, false_and, exists_eq_left, exists_eq_left', exists_and_left, exists_and_right, exists_eq, exists_eq', LL.if_dec, reduceCtorEq, exists_false, exists_const, or_false, false_or, if_true, if_false, LL.rInt1, LL.rMx, LL.rMn, and_assoc, Int.reduceNeg, Int.reduceLT, Int.reduceLE, Int.reduceMul, Int.reduceAdd, Int.reduceSub, Int.reducePow, Int.reduceToNat, Nat.reducePow, Nat.reduceLT, true_or, or_true, Bool.not_true, Bool.not_false, Bool.false_eq_true, Bool.or_false, Bool.or_true, Bool.true_or, Bool.false_or, decide_true, decide_false, not_true_eq_false, not_false_eq_true, LL.scal_int, LL.scal_bl, LL.scal_str, LL.isInt, LL.isBl, LL.isStr, LL.isLst, LL.isTup, LL.isDic, N_law_same]
        repeat (first | refine use_isi h1 (kit_int _) ?_ | refine use_isi h1 (kit_bool _) ?_ | refine use_isi h1 (kit_str _) ?_ | refine use_isi h1 (kit_list _) ?_ | refine use_isi h1 (kit_tuple _) ?_ | refine use_isi h1 (kit_dict _) ?_ | refine And.intro (show scal _ _ = true from rfl) ?_ | simp only [tSeq, tAsg, tRet, tRetN, tDrop, tNext, tVar, tC, gName, tOp, tUn, rI, rI0, rU, tIfS, tTest, tB, tIf, tAnd, tOr, tNot, tAndV, tOrV, tNotV, tCall, tCons, tNil, tCB, tLst, tTup, tChain, CMul, CDiv, CPow, rEq, rNe, gSub, L2.start, LL.cxK0, LL.cxK1, List.map_cons, List.map_nil, List.length_cons, List.length_nil, List.replicate_succ, List.replicate_zero, List.cons_append, List.nil_append, List.append_nil, List.getElem?_cons_zero, List.getElem?_cons_succ, List.set_cons_zero, List.set_cons_succ, Nat.add_sub_cancel, Nat.reduceAdd, Nat.reduceSub, Option.some.injEq, V.int.injEq, V.bl.injEq, V.ref.injEq, V.str.injEq, List.cons.injEq, and_true, true_and, and_false, false_and, exists_eq_left, exists_eq_left', exists_and_left, exists_and_right, exists_eq, exists_eq', LL.if_dec, reduceCtorEq, exists_false, exists_const, or_false, false_or, if_true, if_false, LL.rInt1, LL.rMx, LL.rMn, and_assoc, Int.reduceNeg, Int.reduceLT, Int.reduceLE, Int.reduceMul, Int.reduceAdd, Int.reduceSub, Int.reducePow, Int.reduceToNat, Nat.reducePow, Nat.reduceLT, true_or, or_true, Bool.not_true, Bool.not_false, Bool.false_eq_true, Bool.or_false, Bool.or_true, Bool.true_or, Bool.false_or, decide_true, decide_false, not_true_eq_false, not_false_eq_true, LL.scal_int, LL.scal_bl, LL.scal_str, LL.isInt, LL.isBl, LL.isStr, LL.isLst, LL.isTup, LL.isDic])
        exact q _ (Same.refl _)
      | lst ts =>
        obtain ⟨p, xs, rfl, fp, ep, hx, hz⟩ := _root_.id h1
        obtain ⟨p2, ys, rfl, fp2, ep2, hy, _⟩ := _root_.id h2
        have lx := hx.len
        have ly := hy.len
        simp only [tSeq, tAsg, tRet, tRetN, tDrop, tNext, tVar, tC, gName, tOp, tUn, rI, rI0, rU, tIfS, tTest, tB, tIf, tAnd, tOr, tNot, tAndV, tOrV, tNotV, tCall, tCons, tNil, tCB, tLst, tTup, tChain, CMul, CDiv, CPow, rEq, rNe, gSub, L2.start, LL.cxK0, LL.cxK1, List.map_cons, List.map_nil, List.length_cons, List.length_nil, List.replicate_succ, List.replicate_zero, List.cons_append, List.nil_append, List.append_nil, List.getElem?_cons_zero, List.getElem?_cons_succ, List.set_cons_zero, List.set_cons_succ, Nat.add_sub_cancel, Nat.reduceAdd, Nat.reduceSub, Option.some.injEq, V.int.injEq, V.bl.injEq, V.ref.injEq, V.str.injEq, List.cons.injEq, and_true, true_and, and_false, false_and, exists_eq_left, exists_eq_left', exists_and_left, exists_and_right, exists_eq, exists_eq', LL.if_dec, reduceCtorEq, exists_false, exists_const, or_false, false_or, if_true, if_false, LL.rInt1, LL.rMx, LL.rMn, and_assoc, Int.reduceNeg, Int.reduceLT, Int.reduceLE, Int.reduceMul, Int.reduceAdd, Int.reduceSub, Int.reducePow, Int.reduceToNat, Nat.reducePow, Nat.reduceLT, true_or, or_true, Bool.not_true, Bool.not_false, Bool.false_eq_true, Bool.or_false, Bool.or_true, Bool.true_or, Bool.false_or, decide_true, decide_false, not_true_eq_false, not_false_eq_true, LL.scal_int, LL.scal_bl, LL.scal_str, LL.isInt, LL.isBl, LL.isStr, LL.isLst, LL.isTup, LL.isDic, N_law_same]
        repeat (first | refine use_isi h1 (kit_int _) ?_ | refine use_isi h1 (kit_bool _) ?_ | refine use_isi h1 (kit_str _) ?_ | refine use_isi h1 (kit_list _) ?_ | refine use_isi h1 (kit_tuple _) ?_ | refine use_isi h1 (kit_dict _) ?_ | refine use_isi h2 (kit_int _) ?_ | refine use_isi h2 (kit_bool _) ?_ | refine use_isi h2 (kit_str _) ?_ | refine use_isi h2 (kit_list _) ?_ | refine use_isi h2 (kit_tuple _) ?_ | refine use_isi h2 (kit_dict _) ?_ | refine And.intro (show scal _ _ = true from rfl) ?_ | simp only [tSeq, tAsg, tRet, tRetN, tDrop, tNext, tVar, tC, gName, tOp, tUn, rI, rI0, rU, tIfS, tTest, tB, tIf, tAnd, tOr, tNot, tAndV, tOrV, tNotV, tCall, tCons, tNil, tCB, tLst, tTup, tChain, CMul, CDiv, CPow, rEq, rNe, gSub, L2.start, LL.cxK0, LL.cxK1, List.map_cons, List.map_nil, List.length_cons, List.length_nil, List.replicate_succ, List.replicate_zero, List.cons_append, List.nil_append, List.append_nil, List.getElem?_cons_zero, List.getElem?_cons_succ, List.set_cons_zero, List.set_cons_succ, Nat.add_sub_cancel, Nat.reduceAdd, Nat.reduceSub, Option.some.injEq, V.int.injEq, V.bl.injEq, V.ref.injEq, V.str.injEq, List.cons.injEq, and_true, true_and, and_false, false_and, exists_eq_left, exists_eq_left', exists_and_left, exists_and_right, exists_eq, exists_eq', LL.if_dec, reduceCtorEq, exists_false, exists_const, or_false, false_or, if_true, if_false, LL.rInt1, LL.rMx, LL.rMn, and_assoc, Int.reduceNeg, Int.reduceLT, Int.reduceLE, Int.reduceMul, Int.reduceAdd, Int.reduceSub, Int.reducePow, Int.reduceToNat, Nat.reducePow, Nat.reduceLT, true_or, or_true, Bool.not_true, Bool.not_false, Bool.false_eq_true, Bool.or_false, Bool.or_true, Bool.true_or, Bool.false_or, decide_true, decide_false, not_true_eq_false, not_false_eq_true, LL.scal_int, LL.scal_bl, LL.scal_str, LL.isInt, LL.isBl, LL.isStr, LL.isLst, LL.isTup, LL.isDic])
        refine .inl (use_lenL ep ?_)
        refine .inl (use_lenL ep2 (And.intro (show scal _ _ = true from rfl) ?_))
        rw [if_neg (by rw [lx, ly]; simp)]
        refine use_forR (j := ys.length) (fun Q q => ⟨_, rfl, .inl (use_lenL ep2 q)⟩) (by omega) (by omega) (fun i σ' H' => Same H H' ∧ i ≤ ys.length ∧ ∃ z : Option V, σ' = [some (.ref p), some (.ref p2), z, none]) ⟨Same.refl _, Nat.zero_le _, _, rfl⟩ ?_ ?_
        · rintro i σ' H' hi ⟨s1, _, zz, rfl⟩
          have hi2 : i < ts.length := by omega
          obtain ⟨x1, e1, d1⟩ := hx.get' (List.getElem?_eq_getElem hi2)
          obtain ⟨x2, e2, d2⟩ := hy.get' (List.getElem?_eq_getElem hi2)
          simp only [tSeq, tAsg, tRet, tRetN, tDrop, tNext, tVar, tC, gName, tOp, tUn, rI, rI0, rU, tIfS, tTest, tB, tIf, tAnd, tOr, tNot, tAndV, tOrV, tNotV, tCall, tCons, tNil, tCB, tLst, tTup, tChain, CMul, CDiv, CPow, rEq, rNe, gSub, L2.start, LL.cxK0, LL.cxK1, List.map_cons, List.map_nil, List.length_cons, List.length_nil, List.replicate_succ, List.replicate_zero, List.cons_append, List.nil_append, List.append_nil, List.getElem?_cons_zero, List.getElem?_cons_succ, List.set_cons_zero, List.set_cons_succ, Nat.add_sub_cancel, Nat.reduceAdd, Nat.reduceSub, Option.some.injEq, V.int.injEq, V.bl.injEq, V.ref.injEq, V.str.injEq, List.cons.injEq, and_true, true_and, and_false, false_and, exists_eq_left, exists_eq_left', exists_and_left, exists_and_right, exists_eq, exists_eq', LL.if_dec, reduceCtorEq, exists_false, exists_const, or_false, false_or, if_true, if_false, LL.rInt1, LL.rMx, LL.rMn, and_assoc, Int.reduceNeg, Int.reduceLT, Int.reduceLE, Int.reduceMul, Int.reduceAdd, Int.reduceSub, Int.reducePow, Int.reduceToNat, Nat.reducePow, Nat.reduceLT, true_or, or_true, Bool.not_true, Bool.not_false, Bool.false_eq_true, Bool.or_false, Bool.or_true, Bool.true_or, Bool.false_or, decide_true, decide_false, not_true_eq_false, not_false_eq_true, LL.scal_int, LL.scal_bl, LL.scal_str, LL.isInt, LL.isBl, LL.isStr, LL.isLst, LL.isTup, LL.isDic]
          rw [Int.zero_add]
          refine .inl (use_ixL (s1 _ _ ep) (atI_nat e1) (.inl (use_ixL (s1 _ _ ep2) (atI_nat e2) ?_)))
          refine use_same (d1.same s1) (d2.same s1) (by have := depL_mem (List.getElem?_eq_getElem hi2); simp only [dep] at hn; omega) fun H2 s2 => ?_
          simp only [tSeq, tAsg, tRet, tRetN, tDrop, tNext, tVar, tC, gName, tOp, tUn, rI, rI0, rU, tIfS, tTest, tB, tIf, tAnd, tOr, tNot, tAndV, tOrV, tNotV, tCall, tCons, tNil, tCB, tLst, tTup, tChain, CMul, CDiv, CPow, rEq, rNe, gSub, L2.start, LL.cxK0, LL.cxK1, List.map_cons, List.map_nil, List.length_cons, List.length_nil, List.replicate_succ, List.replicate_zero, List.cons_append, List.nil_append, List.append_nil, List.getElem?_cons_zero, List.getElem?_cons_succ, List.set_cons_zero, List.set_cons_succ, Nat.add_sub_cancel, Nat.reduceAdd, Nat.reduceSub, Option.some.injEq, V.int.injEq, V.bl.injEq, V.ref.injEq, V.str.injEq, List.cons.injEq, and_true, true_and, and_false, false_and, exists_eq_left, exists_eq_left', exists_and_left, exists_and_right, exists_eq, exists_eq', LL.if_dec, reduceCtorEq, exists_false, exists_const, or_false, false_or, if_true, if_false, LL.rInt1, LL.rMx, LL.rMn, and_assoc, Int.reduceNeg, Int.reduceLT, Int.reduceLE, Int.reduceMul, Int.reduceAdd, Int.reduceSub, Int.reducePow, Int.reduceToNat, Nat.reducePow, Nat.reduceLT, true_or, or_true, Bool.not_true, Bool.not_false, Bool.false_eq_true, Bool.or_false, Bool.or_true, Bool.true_or, Bool.false_or, decide_true, decide_false, not_true_eq_false, not_false_eq_true, LL.scal_int, LL.scal_bl, LL.scal_str, LL.isInt, LL.isBl, LL.isStr, LL.isLst, LL.isTup, LL.isDic]
          exact ⟨s1.trans s2, by omega⟩
        · rintro σ' H' ⟨s1, _, zz, rfl⟩
          simp only [tSeq, tAsg, tRet, tRetN, tDrop, tNext, tVar, tC, gName, tOp, tUn, rI, rI0, rU, tIfS, tTest, tB, tIf, tAnd, tOr, tNot, tAndV, tOrV, tNotV, tCall, tCons, tNil, tCB, tLst, tTup, tChain, CMul, CDiv, CPow, rEq, rNe, gSub, L2.start, LL.cxK0, LL.cxK1, List.map_cons, List.map_nil, List.length_cons, List.length_nil, List.replicate_succ, List.replicate_zero, List.cons_append, List.nil_append, List.append_nil, List.getElem?_cons_zero, List.getElem?_cons_succ, List.set_cons_zero, List.set_cons_succ, Nat.add_sub_cancel, Nat.reduceAdd, Nat.reduceSub, Option.some.injEq, V.int.injEq, V.bl.injEq, V.ref.injEq, V.str.injEq, List.cons.injEq, and_true, true_and, and_false, false_and, exists_eq_left, exists_eq_left', exists_and_left, exists_and_right, exists_eq, exists_eq', LL.if_dec, reduceCtorEq, exists_false, exists_const, or_false, false_or, if_true, if_false, LL.rInt1, LL.rMx, LL.rMn, and_assoc, Int.reduceNeg, Int.reduceLT, Int.reduceLE, Int.reduceMul, Int.reduceAdd, Int.reduceSub, Int.reducePow, Int.reduceToNat, Nat.reducePow, Nat.reduceLT, true_or, or_true, Bool.not_true, Bool.not_false, Bool.false_eq_true, Bool.or_false, Bool.or_true, Bool.true_or, Bool.false_or, decide_true, decide_false, not_true_eq_false, not_false_eq_true, LL.scal_int, LL.scal_bl, LL.scal_str, LL.isInt, LL.isBl, LL.isStr, LL.isLst, LL.isTup, LL.isDic]
          exact q _ s1
      | tup ts =>
        obtain ⟨p, xs, rfl, fp, ep, hx, hz⟩ := _root_.id h1
        obtain ⟨p2, ys, rfl, fp2, ep2, hy, _⟩ := _root_.id h2
        have lx := hx.len
        have ly := hy.len
        simp only [tSeq, tAsg, tRet, tRetN, tDrop, tNext, tVar, tC, gName, tOp, tUn, rI, rI0, rU, tIfS, tTest, tB, tIf, tAnd, tOr, tNot, tAndV, tOrV, tNotV, tCall, tCons, tNil, tCB, tLst, tTup, tChain, CMul, CDiv, CPow, rEq, rNe, gSub, L2.start, LL.cxK0, LL.cxK1, List.map_cons, List.map_nil, List.length_cons, List.length_nil, List.replicate_succ, List.replicate_zero, List.cons_append, List.nil_append, List.append_nil, List.getElem?_cons_zero, List.getElem?_cons_succ, List.set_cons_zero, List.set_cons_succ, Nat.add_sub_cancel, Nat.reduceAdd, Nat.reduceSub, Option.some.injEq, V.int.injEq, V.bl.injEq, V.ref.injEq, V.str.injEq, List.cons.injEq, and_true, true_and, and_false, false_and, exists_eq_left, exists_eq_left', exists_and_left, exists_and_right, exists_eq, exists_eq', LL.if_dec, reduceCtorEq, exists_false, exists_const, or_false, false_or, if_true, if_false, LL.rInt1, LL.rMx, LL.rMn, and_assoc, Int.reduceNeg, Int.reduceLT, Int.reduceLE, Int.reduceMul, Int.reduceAdd, Int.reduceSub, Int.reducePow, Int.reduceToNat, Nat.reducePow, Nat.reduceLT, true_or, or_true, Bool.not_true, Bool.not_false, Bool.false_eq_true, Bool.or_false, Bool.or_true, Bool.true_or, Bool.false_or, decide_true, decide_false, not_true_eq_false, not_false_eq_true, LL.scal_int, LL.scal_bl, LL.scal_str, LL.isInt, LL.isBl, LL.isStr, LL.isLst, LL.isTup, LL.isDic, N_law_same]
        repeat (first | refine use_isi h1 (kit_int _) ?_ | refine use_isi h1 (kit_bool _) ?_ | refine use_isi h1 (kit_str _) ?_ | refine use_isi h1 (kit_list _) ?_ | refine use_isi h1 (kit_tuple _) ?_ | refine use_isi h1 (kit_dict _) ?_ | refine use_isi h2 (kit_int _) ?_ | refine use_isi h2 (kit_bool _) ?_ | refine use_isi h2 (kit_str _) ?_ | refine use_isi h2 (kit_list _) ?_ | refine use_isi h2 (kit_tuple _) ?_ | refine use_isi h2 (kit_dict _) ?_ | refine And.intro (show scal _ _ = true from rfl) ?_ | simp only [tSeq, tAsg, tRet, tRetN, tDrop, tNext, tVar, tC, gName, tOp, tUn, rI, rI0, rU, tIfS, tTest, tB, tIf, tAnd, tOr, tNot, tAndV, tOrV, tNotV, tCall, tCons, tNil, tCB, tLst, tTup, tChain, CMul, CDiv, CPow, rEq, rNe, gSub, L2.start, LL.cxK0, LL.cxK1, List.map_cons, List.map_nil, List.length_cons, List.length_nil, List.replicate_succ, List.replicate_zero, List.cons_append, List.nil_append, List.append_nil, List.getElem?_cons_zero, List.getElem?_cons_succ, List.set_cons_zero, List.set_cons_succ, Nat.add_sub_cancel, Nat.reduceAdd, Nat.reduceSub, Option.some.injEq, V.int.injEq, V.bl.injEq, V.ref.injEq, V.str.injEq, List.cons.injEq, and_true, true_and, and_false, false_and, exists_eq_left, exists_eq_left', exists_and_left, exists_and_right, exists_eq, exists_eq', LL.if_dec, reduceCtorEq, exists_false, exists_const, or_false, false_or, if_true, if_false, LL.rInt1, LL.rMx, LL.rMn, and_assoc, Int.reduceNeg, Int.reduceLT, Int.reduceLE, Int.reduceMul, Int.reduceAdd, Int.reduceSub, Int.reducePow, Int.reduceToNat, Nat.reducePow, Nat.reduceLT, true_or, or_true, Bool.not_true, Bool.not_false, Bool.false_eq_true, Bool.or_false, Bool.or_true, Bool.true_or, Bool.false_or, decide_true, decide_false, not_true_eq_false, not_false_eq_true, LL.scal_int, LL.scal_bl, LL.scal_str, LL.isInt, LL.isBl, LL.isStr, LL.isLst, LL.isTup, LL.isDic])
        refine .inr (.inl (use_lenT ep ?_))
        refine .inr (.inl (use_lenT ep2 (And.intro (show scal _ _ = true from rfl) ?_)))
        rw [if_neg (by rw [lx, ly]; simp)]
        refine use_forR (j := ys.length) (fun Q q => ⟨_, rfl, .inr (.inl (use_lenT ep2 q))⟩) (by omega) (by omega) (fun i σ' H' => Same H H' ∧ i ≤ ys.length ∧ ∃ z : Option V, σ' = [some (.ref p), some (.ref p2), z, none]) ⟨Same.refl _, Nat.zero_le _, _, rfl⟩ ?_ ?_
        · rintro i σ' H' hi ⟨s1, _, zz, rfl⟩
          have hi2 : i < ts.length := by omega
          obtain ⟨x1, e1, d1⟩ := hx.get' (List.getElem?_eq_getElem hi2)
          obtain ⟨x2, e2, d2⟩ := hy.get' (List.getElem?_eq_getElem hi2)
          simp only [tSeq, tAsg, tRet, tRetN, tDrop, tNext, tVar, tC, gName, tOp, tUn, rI, rI0, rU, tIfS, tTest, tB, tIf, tAnd, tOr, tNot, tAndV, tOrV, tNotV, tCall, tCons, tNil, tCB, tLst, tTup, tChain, CMul, CDiv, CPow, rEq, rNe, gSub, L2.start, LL.cxK0, LL.cxK1, List.map_cons, List.map_nil, List.length_cons, List.length_nil, List.replicate_succ, List.replicate_zero, List.cons_append, List.nil_append, List.append_nil, List.getElem?_cons_zero, List.getElem?_cons_succ, List.set_cons_zero, List.set_cons_succ, Nat.add_sub_cancel, Nat.reduceAdd, Nat.reduceSub, Option.some.injEq, V.int.injEq, V.bl.injEq, V.ref.injEq, V.str.injEq, List.cons.injEq, and_true, true_and, and_false, false_and, exists_eq_left, exists_eq_left', exists_and_left, exists_and_right, exists_eq, exists_eq', LL.if_dec, reduceCtorEq, exists_false, exists_const, or_false, false_or, if_true, if_false, LL.rInt1, LL.rMx, LL.rMn, and_assoc, Int.reduceNeg, Int.reduceLT, Int.reduceLE, Int.reduceMul, Int.reduceAdd, Int.reduceSub, Int.reducePow, Int.reduceToNat, Nat.reducePow, Nat.reduceLT, true_or, or_true, Bool.not_true, Bool.not_false, Bool.false_eq_true, Bool.or_false, Bool.or_true, Bool.true_or, Bool.false_or, decide_true, decide_false, not_true_eq_false, not_false_eq_true, LL.scal_int, LL.scal_bl, LL.scal_str, LL.isInt, LL.isBl, LL.isStr, LL.isLst, LL.isTup, LL.isDic]
          rw [Int.zero_add]
          refine .inr (use_ixT (s1 _ _ ep) (atI_nat e1) (.inr (use_ixT (s1 _ _ ep2) (atI_nat e2) ?_)))
          refine use_same (d1.same s1) (d2.same s1) (by have := depL_mem (List.getElem?_eq_getElem hi2); simp only [dep] at hn; omega) fun H2 s2 => ?_
          simp only [tSeq, tAsg, tRet, tRetN, tDrop, tNext, tVar, tC, gName, tOp, tUn, rI, rI0, rU, tIfS, tTest, tB, tIf, tAnd, tOr, tNot, tAndV, tOrV, tNotV, tCall, tCons, tNil, tCB, tLst, tTup, tChain, CMul, CDiv, CPow, rEq, rNe, gSub, L2.start, LL.cxK0, LL.cxK1, List.map_cons, List.map_nil, List.length_cons, List.length_nil, List.replicate_succ, List.replicate_zero, List.cons_append, List.nil_append, List.append_nil, List.getElem?_cons_zero, List.getElem?_cons_succ, List.set_cons_zero, List.set_cons_succ, Nat.add_sub_cancel, Nat.reduceAdd, Nat.reduceSub, Option.some.injEq, V.int.injEq, V.bl.injEq, V.ref.injEq, V.str.injEq, List.cons.injEq, and_true, true_and, and_false, false_and, exists_eq_left, exists_eq_left', exists_and_left, exists_and_right, exists_eq, exists_eq', LL.if_dec, reduceCtorEq, exists_false, exists_const, or_false, false_or, if_true, if_false, LL.rInt1, LL.rMx, LL.rMn, and_assoc, Int.reduceNeg, Int.reduceLT, Int.reduceLE, Int.reduceMul, Int.reduceAdd, Int.reduceSub, Int.reducePow, Int.reduceToNat, Nat.reducePow, Nat.reduceLT, true_or, or_true, Bool.not_true, Bool.not_false, Bool.false_eq_true, Bool.or_false, Bool.or_true, Bool.true_or, Bool.false_or, decide_true, decide_false, not_true_eq_false, not_false_eq_true, LL.scal_int, LL.scal_bl, LL.scal_str, LL.isInt, LL.isBl, LL.isStr, LL.isLst, LL.isTup, LL.isDic]
          exact ⟨s1.trans s2, by omega⟩
        · rintro σ' H' ⟨s1, _, zz, rfl⟩
          simp only [tSeq, tAsg, tRet, tRetN, tDrop, tNext, tVar, tC, gName, tOp, tUn, rI, rI0, rU, tIfS, tTest, tB, tIf, tAnd, tOr, tNot, tAndV, tOrV, tNotV, tCall, tCons, tNil, tCB, tLst, tTup, tChain, CMul, CDiv, CPow, rEq, rNe, gSub, L2.start, LL.cxK0, LL.cxK1, List.map_cons, List.map_nil, List.length_cons, List.length_nil, List.replicate_succ, List.replicate_zero, List.cons_append, List.nil_append, List.append_nil, List.getElem?_cons_zero, List.getElem?_cons_succ, List.set_cons_zero, List.set_cons_succ, Nat.add_sub_cancel, Nat.reduceAdd, Nat.reduceSub, Option.some.injEq, V.int.injEq, V.bl.injEq, V.ref.injEq, V.str.injEq, List.cons.injEq, and_true, true_and, and_false, false_and, exists_eq_left, exists_eq_left', exists_and_left, exists_and_right, exists_eq, exists_eq', LL.if_dec, reduceCtorEq, exists_false, exists_const, or_false, false_or, if_true, if_false, LL.rInt1, LL.rMx, LL.rMn, and_assoc, Int.reduceNeg, Int.reduceLT, Int.reduceLE, Int.reduceMul, Int.reduceAdd, Int.reduceSub, Int.reducePow, Int.reduceToNat, Nat.reducePow, Nat.reduceLT, true_or, or_true, Bool.not_true, Bool.not_false, Bool.false_eq_true, Bool.or_false, Bool.or_true, Bool.true_or, Bool.false_or, decide_true, decide_false, not_true_eq_false, not_false_eq_true, LL.scal_int, LL.scal_bl, LL.scal_str, LL.isInt, LL.isBl, LL.isStr, LL.isLst, LL.isTup, LL.isDic]
          exact q _ s1
      | dic u =>
        obtain ⟨p, z, rfl, fp, ep, hz⟩ := _root_.id h1
        obtain ⟨p2, z2, rfl, fp2, ep2, hz2⟩ := _root_.id h2
        simp only [tSeq, tAsg, tRet, tRetN, tDrop, tNext, tVar, tC, gName, tOp, tUn, rI, rI0, rU, tIfS, tTest, tB, tIf, tAnd, tOr, tNot, tAndV, tOrV, tNotV, tCall, tCons, tNil, tCB, tLst, tTup, tChain, CMul, CDiv, CPow, rEq, rNe, gSub, L2.start, LL.cxK0, LL.cxK1, List.map_cons, List.map_nil, List.length_cons, List.length_nil, List.replicate_succ, List.replicate_zero, List.cons_append, List.nil_append, List.append_nil, List.getElem?_cons_zero, List.getElem?_cons_succ, List.set_cons_zero, List.set_cons_succ, Nat.add_sub_cancel, Nat.reduceAdd, Nat.reduceSub, Option.some.injEq, V.int.injEq, V.bl.injEq, V.ref.injEq, V.str.injEq, List.cons.injEq, and_true, true_and, and_false, false_and, exists_eq_left, exists_eq_left', exists_and_left, exists_and_right, exists_eq, exists_eq', LL.if_dec, reduceCtorEq, exists_false, exists_const, or_false, false_or, if_true, if_false, LL.rInt1, LL.rMx, LL.rMn, and_assoc, Int.reduceNeg, Int.reduceLT, Int.reduceLE, Int.reduceMul, Int.reduceAdd, Int.reduceSub, Int.reducePow, Int.reduceToNat, Nat.reducePow, Nat.reduceLT, true_or, or_true, Bool.not_true, Bool.not_false, Bool.false_eq_true, Bool.or_false, Bool.or_true, Bool.true_or, Bool.false_or, decide_true, decide_false, not_true_eq_false, not_false_eq_true, LL.scal_int, LL.scal_bl, LL.scal_str, LL.isInt, LL.isBl, LL.isStr, LL.isLst, LL.isTup, LL.isDic, N_law_same]
        repeat (first | refine use_isi h1 (kit_int _) ?_ | refine use_isi h1 (kit_bool _) ?_ | refine use_isi h1 (kit_str _) ?_ | refine use_isi h1 (kit_list _) ?_ | refine use_isi h1 (kit_tuple _) ?_ | refine use_isi h1 (kit_dict _) ?_ | refine use_isi h2 (kit_int _) ?_ | refine use_isi h2 (kit_bool _) ?_ | refine use_isi h2 (kit_str _) ?_ | refine use_isi h2 (kit_list _) ?_ | refine use_isi h2 (kit_tuple _) ?_ | refine use_isi h2 (kit_dict _) ?_ | refine And.intro (show scal _ _ = true from rfl) ?_ | simp only [tSeq, tAsg, tRet, tRetN, tDrop, tNext, tVar, tC, gName, tOp, tUn, rI, rI0, rU, tIfS, tTest, tB, tIf, tAnd, tOr, tNot, tAndV, tOrV, tNotV, tCall, tCons, tNil, tCB, tLst, tTup, tChain, CMul, CDiv, CPow, rEq, rNe, gSub, L2.start, LL.cxK0, LL.cxK1, List.map_cons, List.map_nil, List.length_cons, List.length_nil, List.replicate_succ, List.replicate_zero, List.cons_append, List.nil_append, List.append_nil, List.getElem?_cons_zero, List.getElem?_cons_succ, List.set_cons_zero, List.set_cons_succ, Nat.add_sub_cancel, Nat.reduceAdd, Nat.reduceSub, Option.some.injEq, V.int.injEq, V.bl.injEq, V.ref.injEq, V.str.injEq, List.cons.injEq, and_true, true_and, and_false, false_and, exists_eq_left, exists_eq_left', exists_and_left, exists_and_right, exists_eq, exists_eq', LL.if_dec, reduceCtorEq, exists_false, exists_const, or_false, false_or, if_true, if_false, LL.rInt1, LL.rMx, LL.rMn, and_assoc, Int.reduceNeg, Int.reduceLT, Int.reduceLE, Int.reduceMul, Int.reduceAdd, Int.reduceSub, Int.reducePow, Int.reduceToNat, Nat.reducePow, Nat.reduceLT, true_or, or_true, Bool.not_true, Bool.not_false, Bool.false_eq_true, Bool.or_false, Bool.or_true, Bool.true_or, Bool.false_or, decide_true, decide_false, not_true_eq_false, not_false_eq_true, LL.scal_int, LL.scal_bl, LL.scal_str, LL.isInt, LL.isBl, LL.isStr, LL.isLst, LL.isTup, LL.isDic])
        refine .inr (.inr ⟨_, _, rfl, ep, ?_⟩)
        refine .inr (.inr ⟨_, _, rfl, ep2, And.intro (show scal _ _ = true from rfl) ?_⟩)
        rw [if_neg (by simp)]
        refine use_forLX (R := fun a xs H' => Same H H' ∧ H' a = some (.lst xs) ∧ xs = [.str "a"]) (fun Q hQ => ⟨_, rfl, _, _, rfl, ep2, ?_⟩) (fun a xs i σ' H' => Same H H' ∧ H' a = some (.lst xs) ∧ xs = [.str "a"] ∧ ∃ z1 z2 : Option V, σ' = [some (.ref p), some (.ref p2), z1, z2]) (fun a xs H' ⟨s1, e1, e2⟩ => ⟨s1, e1, e2, _, _, rfl⟩) (fun a xs i σ' H' _ ⟨_, e1, _⟩ => SqL.of e1) ?_ ?_
        · show ∀ l, H l = none → Q (V.ref l) _
          intro l nl
          generalize hq : upd H l _ = H1
          have sH1 : Same H H1 := hq ▸ Same.new (Same.refl _) nl
          have el := hq ▸ (upd_same (H := H) (a := l))
          clear hq
          exact hQ _ _ _ ⟨sH1, el, rfl⟩
        · rintro a xs i y σ' H' hy ⟨s1, e1, rfl, z3, z4, rfl⟩
          obtain rfl : y = V.str "a" := by
            rcases i with _ | i
            · exact (Option.some.inj hy).symm
            · cases hy
          simp only [tSeq, tAsg, tRet, tRetN, tDrop, tNext, tVar, tC, gName, tOp, tUn, rI, rI0, rU, tIfS, tTest, tB, tIf, tAnd, tOr, tNot, tAndV, tOrV, tNotV, tCall, tCons, tNil, tCB, tLst, tTup, tChain, CMul, CDiv, CPow, rEq, rNe, gSub, L2.start, LL.cxK0, LL.cxK1, List.map_cons, List.map_nil, List.length_cons, List.length_nil, List.replicate_succ, List.replicate_zero, List.cons_append, List.nil_append, List.append_nil, List.getElem?_cons_zero, List.getElem?_cons_succ, List.set_cons_zero, List.set_cons_succ, Nat.add_sub_cancel, Nat.reduceAdd, Nat.reduceSub, Option.some.injEq, V.int.injEq, V.bl.injEq, V.ref.injEq, V.str.injEq, List.cons.injEq, and_true, true_and, and_false, false_and, exists_eq_left, exists_eq_left', exists_and_left, exists_and_right, exists_eq, exists_eq', LL.if_dec, reduceCtorEq, exists_false, exists_const, or_false, false_or, if_true, if_false, LL.rInt1, LL.rMx, LL.rMn, and_assoc, Int.reduceNeg, Int.reduceLT, Int.reduceLE, Int.reduceMul, Int.reduceAdd, Int.reduceSub, Int.reducePow, Int.reduceToNat, Nat.reducePow, Nat.reduceLT, true_or, or_true, Bool.not_true, Bool.not_false, Bool.false_eq_true, Bool.or_false, Bool.or_true, Bool.true_or, Bool.false_or, decide_true, decide_false, not_true_eq_false, not_false_eq_true, LL.scal_int, LL.scal_bl, LL.scal_str, LL.isInt, LL.isBl, LL.isStr, LL.isLst, LL.isTup, LL.isDic, tDNotIn, tDGet]
          have ev : ∀ (q : Addr) (zz : V), H' q = some (.dK [(Sum.inr "a", zz)]) → DGet H' q (.str "a") (some zz) := fun q zz e => by
            have g := DGet.k (k := Sum.inr "a") e
            have e2 : valV [((Sum.inr "a" : Key), zz)] (Sum.inr "a") = some zz := by simp [valV]
            rw [e2] at g
            exact g
          refine ⟨_, ev _ _ (s1 _ _ ep), ?_⟩
          simp only [tSeq, tAsg, tRet, tRetN, tDrop, tNext, tVar, tC, gName, tOp, tUn, rI, rI0, rU, tIfS, tTest, tB, tIf, tAnd, tOr, tNot, tAndV, tOrV, tNotV, tCall, tCons, tNil, tCB, tLst, tTup, tChain, CMul, CDiv, CPow, rEq, rNe, gSub, L2.start, LL.cxK0, LL.cxK1, List.map_cons, List.map_nil, List.length_cons, List.length_nil, List.replicate_succ, List.replicate_zero, List.cons_append, List.nil_append, List.append_nil, List.getElem?_cons_zero, List.getElem?_cons_succ, List.set_cons_zero, List.set_cons_succ, Nat.add_sub_cancel, Nat.reduceAdd, Nat.reduceSub, Option.some.injEq, V.int.injEq, V.bl.injEq, V.ref.injEq, V.str.injEq, List.cons.injEq, and_true, true_and, and_false, false_and, exists_eq_left, exists_eq_left', exists_and_left, exists_and_right, exists_eq, exists_eq', LL.if_dec, reduceCtorEq, exists_false, exists_const, or_false, false_or, if_true, if_false, LL.rInt1, LL.rMx, LL.rMn, and_assoc, Int.reduceNeg, Int.reduceLT, Int.reduceLE, Int.reduceMul, Int.reduceAdd, Int.reduceSub, Int.reducePow, Int.reduceToNat, Nat.reducePow, Nat.reduceLT, true_or, or_true, Bool.not_true, Bool.not_false, Bool.false_eq_true, Bool.or_false, Bool.or_true, Bool.true_or, Bool.false_or, decide_true, decide_false, not_true_eq_false, not_false_eq_true, LL.scal_int, LL.scal_bl, LL.scal_str, LL.isInt, LL.isBl, LL.isStr, LL.isLst, LL.isTup, LL.isDic, Option.isSome_some]
          refine ⟨_, ev _ _ (s1 _ _ ep), ?_⟩
          refine ⟨_, ev _ _ (s1 _ _ ep2), ?_⟩
          refine use_same (hz.same s1) (hz2.same s1) (by simp only [dep] at hn; omega) fun H2 s2 => ?_
          simp only [tSeq, tAsg, tRet, tRetN, tDrop, tNext, tVar, tC, gName, tOp, tUn, rI, rI0, rU, tIfS, tTest, tB, tIf, tAnd, tOr, tNot, tAndV, tOrV, tNotV, tCall, tCons, tNil, tCB, tLst, tTup, tChain, CMul, CDiv, CPow, rEq, rNe, gSub, L2.start, LL.cxK0, LL.cxK1, List.map_cons, List.map_nil, List.length_cons, List.length_nil, List.replicate_succ, List.replicate_zero, List.cons_append, List.nil_append, List.append_nil, List.getElem?_cons_zero, List.getElem?_cons_succ, List.set_cons_zero, List.set_cons_succ, Nat.add_sub_cancel, Nat.reduceAdd, Nat.reduceSub, Option.some.injEq, V.int.injEq, V.bl.injEq, V.ref.injEq, V.str.injEq, List.cons.injEq, and_true, true_and, and_false, false_and, exists_eq_left, exists_eq_left', exists_and_left, exists_and_right, exists_eq, exists_eq', LL.if_dec, reduceCtorEq, exists_false, exists_const, or_false, false_or, if_true, if_false, LL.rInt1, LL.rMx, LL.rMn, and_assoc, Int.reduceNeg, Int.reduceLT, Int.reduceLE, Int.reduceMul, Int.reduceAdd, Int.reduceSub, Int.reducePow, Int.reduceToNat, Nat.reducePow, Nat.reduceLT, true_or, or_true, Bool.not_true, Bool.not_false, Bool.false_eq_true, Bool.or_false, Bool.or_true, Bool.true_or, Bool.false_or, decide_true, decide_false, not_true_eq_false, not_false_eq_true, LL.scal_int, LL.scal_bl, LL.scal_str, LL.isInt, LL.isBl, LL.isStr, LL.isLst, LL.isTup, LL.isDic]
          exact ⟨s1.trans s2, s2 _ _ e1⟩
        · rintro a xs σ' H' ⟨s1, e1, rfl, z3, z4, rfl⟩
          simp only [tSeq, tAsg, tRet, tRetN, tDrop, tNext, tVar, tC, gName, tOp, tUn, rI, rI0, rU, tIfS, tTest, tB, tIf, tAnd, tOr, tNot, tAndV, tOrV, tNotV, tCall, tCons, tNil, tCB, tLst, tTup, tChain, CMul, CDiv, CPow, rEq, rNe, gSub, L2.start, LL.cxK0, LL.cxK1, List.map_cons, List.map_nil, List.length_cons, List.length_nil, List.replicate_succ, List.replicate_zero, List.cons_append, List.nil_append, List.append_nil, List.getElem?_cons_zero, List.getElem?_cons_succ, List.set_cons_zero, List.set_cons_succ, Nat.add_sub_cancel, Nat.reduceAdd, Nat.reduceSub, Option.some.injEq, V.int.injEq, V.bl.injEq, V.ref.injEq, V.str.injEq, List.cons.injEq, and_true, true_and, and_false, false_and, exists_eq_left, exists_eq_left', exists_and_left, exists_and_right, exists_eq, exists_eq', LL.if_dec, reduceCtorEq, exists_false, exists_const, or_false, false_or, if_true, if_false, LL.rInt1, LL.rMx, LL.rMn, and_assoc, Int.reduceNeg, Int.reduceLT, Int.reduceLE, Int.reduceMul, Int.reduceAdd, Int.reduceSub, Int.reducePow, Int.reduceToNat, Nat.reducePow, Nat.reduceLT, true_or, or_true, Bool.not_true, Bool.not_false, Bool.false_eq_true, Bool.or_false, Bool.or_true, Bool.true_or, Bool.false_or, decide_true, decide_false, not_true_eq_false, not_false_eq_true, LL.scal_int, LL.scal_bl, LL.scal_str, LL.isInt, LL.isBl, LL.isStr, LL.isLst, LL.isTup, LL.isDic]
          exact q _ s1
/-- the same data, made anew -/
def sp_law_copy (n : Nat) : Sp := fun vs H Q _ => ∃ (F : Addr → Prop) (v : V) (t : LL.T), vs = [v] ∧ Dt F H v t ∧ dep t < n ∧ ∀ r H', Same H H' → Dt (fun a => H a = none) H' r t → Q r H'
theorem use_copy {n : Nat} {F : Addr → Prop} {v : V} {t : LL.T} {H : Hp} {Q : VK} {E : XK} (h1 : Dt F H v t) (hn : dep t < n) (q : ∀ r H', Same H H' → Dt (fun a => H a = none) H' r t → Q r H') : sp_law_copy n [v] H Q E := ⟨F, v, t, rfl, h1, hn, q⟩

theorem ok_law_copy (T : Tx K mg) : ∀ n : Nat, FnOk P w K mg base CX0 (n + 1) (He.ga K "_law_copy") T.fd_law_copy P_law_copy (sp_law_copy n) := by
  intro n
  induction n with
  | zero => exact ⟨fun vs H Q E h => by obtain ⟨_, _, _, _, _, h, _⟩ := h; exact absurd h (Nat.not_lt_zero _), fun A outer s H args us vs Q E hr he hb hv h => by obtain ⟨_, _, _, _, _, h, _⟩ := h; exact absurd h (Nat.not_lt_zero _)⟩
  | succ n ih =>
    refine T.F_law_copy.ok sc_law_copy (fun vs H Q E h => ?_) (fun cdv A outer s H vs Q E hr h => ⟨_, PSs.nox (pss_cons (ps_if (pt_val (pe_callB call_isi (by rfl) T.z_isinstance (by decide +kernel) (pa_cons (pv 0) (pa_cons (pe_bltn (v := .ty "list") (u := .type "list") (by rfl) T.z_list (by decide +kernel) rfl) pa_nil)))) (pss_one (ps_ret (pe_lc (own := [("_law_one", 3)]) (by rfl) sc_law_copy.nd (pi_list (pv 0)) (blkOk_by (N := N_law_copy) (sc := defScope s_law_copy) (by decide +kernel)) (fun _ _ _ _ _ => (pg_name (i := 3) sc_law_copy.nd rfl (Or.inl rfl))) (fun _ _ _ _ _ => pts_nil) (fun _ _ _ _ _ => (pe_call ih hr rfl T.g_law_copy T.F_law_copy.kp (b_law_copy T) .nil pass0 (pa_cons (pv 3) pa_nil)))))) pss_nil) (pss_cons (ps_if (pt_val (pe_callB call_isi (by rfl) T.z_isinstance (by decide +kernel) (pa_cons (pv 0) (pa_cons (pe_bltn (v := .ty "tuple") (u := .type "tuple") (by rfl) T.z_tuple (by decide +kernel) rfl) pa_nil)))) (pss_one (ps_ret (pe_callTy LL.call_tupL (by rfl) T.z_tuple (by decide +kernel) (pa_cons (pe_lc (own := [("_law_one", 3)]) (by rfl) sc_law_copy.nd (pi_tup (pv 0)) (blkOk_by (N := N_law_copy) (sc := defScope s_law_copy) (by decide +kernel)) (fun _ _ _ _ _ => (pg_name (i := 3) sc_law_copy.nd rfl (Or.inl rfl))) (fun _ _ _ _ _ => pts_nil) (fun _ _ _ _ _ => (pe_call ih hr rfl T.g_law_copy T.F_law_copy.kp (b_law_copy T) .nil pass0 (pa_cons (pv 3) pa_nil)))) pa_nil)))) pss_nil) (pss_cons (ps_if (pt_val (pe_callB call_isi (by rfl) T.z_isinstance (by decide +kernel) (pa_cons (pv 0) (pa_cons (pe_bltn (v := .ty "dict") (u := .type "dict") (by rfl) T.z_dict (by decide +kernel) rfl) pa_nil)))) (pss_cons (ps_set (i := 1) sc_law_copy.nd rfl (Or.inl rfl) (pe_dnewK)) (pss_cons (ps_for PassesOwn.never rfl (pi_list (pe_callTy (LL.call_lstD rfl) (by rfl) T.z_list (by decide +kernel) (pa_cons (pv 0) pa_nil))) (pg_name (i := 2) sc_law_copy.nd rfl (Or.inl rfl)) (pss_one (ps_dput (hu_of hr) (pv 1) (pv 2) (pe_call ih hr rfl T.g_law_copy T.F_law_copy.kp (b_law_copy T) .nil pass0 (pa_cons (pe_dget (hu_of hr) (pv 0) (pv 2) (fun _ _ => rfl)) pa_nil)) rfl))) (pss_one (ps_ret (pv 1))))) pss_nil) (pss_one (ps_ret (pv 0)))))), ?_⟩)
    · obtain ⟨_, _, _, rfl, _⟩ := h
      rfl
    · obtain ⟨F, v, t, rfl, h1, hn, q⟩ := h
      cases t with
      | non =>
        obtain rfl : v = .non := h1
        have h1 : Dt F H .non .non := rfl
        simp only [tSeq, tAsg, tRet, tRetN, tDrop, tNext, tVar, tC, gName, tOp, tUn, rI, rI0, rU, tIfS, tTest, tB, tIf, tAnd, tOr, tNot, tAndV, tOrV, tNotV, tCall, tCons, tNil, tCB, tLst, tTup, tChain, CMul, CDiv, CPow, rEq, rNe, gSub, L2.start, LL.cxK0, LL.cxK1, List.map_cons, List.map_nil, List.length_cons, List.length_nil, List.replicate_succ, List.replicate_zero, List.cons_append, List.nil_append, List.append_nil, List.getElem?_cons_zero, List.getElem?_cons_succ, List.set_cons_zero, List.set_cons_succ, Nat.add_sub_cancel, Nat.reduceAdd, Nat.reduceSub, Option.some.injEq, V.int.injEq, V.bl.injEq, V.ref.injEq, V.str.injEq, List.cons.injEq, and_true, true_and, and_false, false_and, exists_eq_left, exists_eq_left', exists_and_left, exists_and_right, exists_eq, exists_eq', LL.if_dec, reduceCtorEq, exists_false, exists_const, or_false, false_or, if_true, if_false, LL.rInt1, LL.rMx, LL.rMn, and_assoc, Int.reduceNeg, Int.reduceLT, Int.reduceLE, Int.reduceMul, Int.reduceAdd, Int.reduceSub, Int.reducePow, Int.reduceToNat, Nat.reducePow, Nat.reduceLT, true_or, or_true, Bool.not_true, Bool.not_false, Bool.false_eq_true, Bool.or_false, Bool.or_true, Bool.true_or, Bool.false_or, decide_true, decide_false, not_true_eq_false, not_false_eq_true, LL.scal_int, LL.scal_bl, LL.scal_str, LL.isInt, LL.isBl, LL.isStr, LL.isLst, LL.isTup, LL.isDic, N_law_copy]
        repeat (first | refine use_isi h1 (kit_int _) ?_ | refine use_isi h1 (kit_bool _) ?_ | refine use_isi h1 (kit_str _) ?_ | refine use_isi h1 (kit_list _) ?_ | refine use_isi h1 (kit_tuple _) ?_ | refine use_isi h1 (kit_dict _) ?_ | refine And.intro (show scal _ _ = true from rfl) ?_ | simp only [tSeq, tAsg, tRet, tRetN, tDrop, tNext, tVar, tC, gName, tOp, tUn, rI, rI0, rU, tIfS, tTest, tB, tIf, tAnd, tOr, tNot, tAndV, tOrV, tNotV, tCall, tCons, tNil, tCB, tLst, tTup, tChain, CMul, CDiv, CPow, rEq, rNe, gSub, L2.start, LL.cxK0, LL.cxK1, List.map_cons, List.map_nil, List.length_cons, List.length_nil, List.replicate_succ, List.replicate_zero, List.cons_append, List.nil_append, List.append_nil, List.getElem?_cons_zero, List.getElem?_cons_succ, List.set_cons_zero, List.set_cons_succ, Nat.add_sub_cancel, Nat.reduceAdd, Nat.reduceSub, Option.some.injEq, V.int.injEq, V.bl.injEq, V.ref.injEq, V.str.injEq, List.cons.injEq, and_true, true_and, and_false, false_and, exists_eq_left, exists_eq_left', exists_and_left, exists_and_right, exists_eq, exists_eq', LL.if_dec, reduceCtorEq, exists_false, exists_const, or_false, false_or, if_true, if_false, LL.rInt1, LL.rMx, LL.rMn, and_assoc, Int.reduceNeg, Int.reduceLT, Int.reduceLE, Int.reduceMul, Int.reduceAdd, Int.reduceSub, Int.reducePow, Int.reduceToNat, Nat.reducePow, Nat.reduceLT, true_or, or_true, Bool.not_true, Bool.not_false, Bool.false_eq_true, Bool.or_false, Bool.or_true, Bool.true_or, Bool.false_or, decide_true, decide_false, not_true_eq_false, not_false_eq_true, LL.scal_int, LL.scal_bl, LL.scal_str, LL.isInt, LL.isBl, LL.isStr, LL.isLst, LL.isTup, LL.isDic])
        exact q _ _ (Same.refl _) rfl
      | bl b =>
        obtain rfl : v = .bl b := h1
        have h1 : Dt F H (.bl b) (.bl b) := rfl
        simp only [tSeq, tAsg, tRet, tRetN, tDrop, tNext, tVar, tC, gName, tOp, tUn, rI, rI0, rU, tIfS, tTest, tB, tIf, tAnd, tOr, tNot, tAndV, tOrV, tNotV, tCall, tCons, tNil, tCB, tLst, tTup, tChain, CMul, CDiv, CPow, rEq, rNe, gSub, L2.start, LL.cxK0, LL.cxK1, List.map_cons, List.map_nil, List.length_cons, List.length_nil, List.replicate_succ, List.replicate_zero, List.cons_append, List.nil_append, List.append_nil, List.getElem?_cons_zero, List.getElem?_cons_succ, List.set_cons_zero, List.set_cons_succ, Nat.add_sub_cancel, Nat.reduceAdd, Nat.reduceSub, Option.some.injEq, V.int.injEq, V.bl.injEq, V.ref.injEq, V.str.injEq, List.cons.injEq, and_true, true_and, and_false, false_and, exists_eq_left, exists_eq_left', exists_and_left, exists_and_right, exists_eq, exists_eq', LL.if_dec, reduceCtorEq, exists_false, exists_const, or_false, false_or, if_true, if_false, LL.rInt1, LL.rMx, LL.rMn, and_assoc, Int.reduceNeg, Int.reduceLT, Int.reduceLE, Int.reduceMul, Int.reduceAdd, Int.reduceSub, Int.reducePow, Int.reduceToNat, Nat.reducePow, Nat.reduceLT, true_or, or_true, Bool.not_true, Bool.not_false, Bool.false_eq_true, Bool.or_false, Bool.or_true, Bool.true_or, Bool.false_or, decide_true, decide_false, not_true_eq_false, not_false_eq_true, LL.scal_int, LL.scal_bl, LL.scal_str, LL.isInt, LL.isBl, LL.isStr, LL.isLst, LL.isTup, LL.isDic, N_law_copy]
        repeat (first | refine use_isi h1 (kit_int _) ?_ | refine use_isi h1 (kit_bool _) ?_ | refine use_isi h1 (kit_str _) ?_ | refine use_isi h1 (kit_list _) ?_ | refine use_isi h1 (kit_tuple _) ?_ | refine use_isi h1 (kit_dict _) ?_ | refine And.intro (show scal _ _ = true from rfl) ?_ | simp only [tSeq, tAsg, tRet, tRetN, tDrop, tNext, tVar, tC, gName, tOp, tUn, rI, rI0, rU, tIfS, tTest, tB, tIf, tAnd, tOr, tNot, tAndV, tOrV, tNotV, tCall, tCons, tNil, tCB, tLst, tTup, tChain, CMul, CDiv, CPow, rEq, rNe, gSub, L2.start, LL.cxK0, LL.cxK1, List.map_cons, List.map_nil, List.length_cons, List.length_nil, List.replicate_succ, List.replicate_zero, List.cons_append, List.nil_append, List.append_nil, List.getElem?_cons_zero, List.getElem?_cons_succ, List.set_cons_zero, List.set_cons_succ, Nat.add_sub_cancel, Nat.reduceAdd, Nat.reduceSub, Option.some.injEq, V.int.injEq, V.bl.injEq, V.ref.injEq, V.str.injEq, List.cons.injEq, and_true, true_and, and_false, false_and, exists_eq_left, exists_eq_left', exists_and_left, exists_and_right, exists_eq, exists_eq', LL.if_dec, reduceCtorEq, exists_false, exists_const, or_false, false_or, if_true, if_false, LL.rInt1, LL.rMx, LL.rMn, and_assoc, Int.reduceNeg, Int.reduceLT, Int.reduceLE, Int.reduceMul, Int.reduceAdd, Int.reduceSub, Int.reducePow, Int.reduceToNat, Nat.reducePow, Nat.reduceLT, true_or, or_true, Bool.not_true, Bool.not_false, Bool.false_eq_true, Bool.or_false, Bool.or_true, Bool.true_or, Bool.false_or, decide_true, decide_false, not_true_eq_false, not_false_eq_true, LL.scal_int, LL.scal_bl, LL.scal_str, LL.isInt, LL.isBl, LL.isStr, LL.isLst, LL.isTup, LL.isDic])
        exact q _ _ (Same.refl _) rfl
      | int i =>
        obtain rfl : v = .int i := h1
        have h1 : Dt F H (.int i) (.int i) := rfl
        simp only [tSeq, tAsg, tRet, tRetN, tDrop, tNext, tVar, tC, gName, tOp, tUn, rI, rI0, rU, tIfS, tTest, tB, tIf, tAnd, tOr, tNot, tAndV, tOrV, tNotV, tCall, tCons, tNil, tCB, tLst, tTup, tChain, CMul, CDiv, CPow, rEq, rNe, gSub, L2.start, LL.cxK0, LL.cxK1, List.map_cons, List.map_nil, List.length_cons, List.length_nil, List.replicate_succ, List.replicate_zero, List.cons_append, List.nil_append, List.append_nil, List.getElem?_cons_zero, List.getElem?_cons_succ, List.set_cons_zero, List.set_cons_succ, Nat.add_sub_cancel, Nat.reduceAdd, Nat.reduceSub, Option.some.injEq, V.int.injEq, V.bl.injEq, V.ref.injEq, V.str.injEq, List.cons.injEq, and_true, true_and, and_false, false_and, exists_eq_left, exists_eq_left', exists_and_left, exists_and_right, exists_eq, exists_eq', LL.if_dec, reduceCtorEq, exists_false, exists_const, or_false, false_or, if_true, if_false, LL.rInt1, LL.rMx, LL.rMn, and_assoc, Int.reduceNeg, Int.reduceLT, Int.reduceLE, Int.reduceMul, Int.reduceAdd, Int.reduceSub, Int.reducePow, Int.reduceToNat, Nat.reducePow, Nat.reduceLT, true_or, or_true, Bool.not_true, Bool.not_false, Bool.false_eq_true, Bool.or_false, Bool.or_true, Bool.true_or, Bool.false_or, decide_true, decide_false, not_true_eq_false, not_false_eq_true, LL.scal_int, LL.scal_bl, LL.scal_str, LL.isInt, LL.isBl, LL.isStr, LL.isLst, LL.isTup, LL.isDic, N_law_copy]
        repeat (first | refine use_isi h1 (kit_int _) ?_ | refine use_isi h1 (kit_bool _) ?_ | refine use_isi h1 (kit_str _) ?_ | refine use_isi h1 (kit_list _) ?_ | refine use_isi h1 (kit_tuple _) ?_ | refine use_isi h1 (kit_dict _) ?_ | refine And.intro (show scal _ _ = true from rfl) ?_ | simp only [tSeq, tAsg, tRet, tRetN, tDrop, tNext, tVar, tC, gName, tOp, tUn, rI, rI0, rU, tIfS, tTest, tB, tIf, tAnd, tOr, tNot, tAndV, tOrV, tNotV, tCall, tCons, tNil, tCB, tLst, tTup, tChain, CMul, CDiv, CPow, rEq, rNe, gSub, L2.start, LL.cxK0, LL.cxK1, List.map_cons, List.map_nil, List.length_cons, List.length_nil, List.replicate_succ, List.replicate_zero, List.cons_append, List.nil_append, List.append_nil, List.getElem?_cons_zero, List.getElem?_cons_succ, List.set_cons_zero, List.set_cons_succ, Nat.add_sub_cancel, Nat.reduceAdd, Nat.reduceSub, Option.some.injEq, V.int.injEq, V.bl.injEq, V.ref.injEq, V.str.injEq, List.cons.injEq, and_true, true_and, and_false, false_and, exists_eq_left, exists_eq_left', exists_and_left, exists_and_right, exists_eq, exists_eq', LL.if_dec, reduceCtorEq, exists_false, exists_const, or_false, false_or, if_true, if_false, LL.rInt1, LL.rMx, LL.rMn, and_assoc, Int.reduceNeg, Int.reduceLT, Int.reduceLE, Int.reduceMul, Int.reduceAdd, Int.reduceSub, Int.reducePow, Int.reduceToNat, Nat.reducePow, Nat.reduceLT, true_or, or_true, Bool.not_true, Bool.not_false, Bool.false_eq_true, Bool.or_false, Bool.or_true, Bool.true_or, Bool.false_or, decide_true, decide_false, not_true_eq_false, not_false_eq_true, LL.scal_int, LL.scal_bl, LL.scal_str, LL.isInt, LL.isBl, LL.isStr, LL.isLst, LL.isTup, LL.isDic])
        exact q _ _ (Same.refl _) rfl
      | str z =>
        obtain rfl : v = .str z := h1
        have h1 : Dt F H (.str z) (.str z) := rfl
        simp only [tSeq, tAsg, tRet, tRetN, tDrop, tNext, tVar, tC, gName, tOp, tUn, rI, rI0, rU, tIfS, tTest, tB, tIf, tAnd, tOr, tNot, tAndV, tOrV, tNotV, tCall, tCons, tNil, tCB, tLst, tTup, tChain, CMul, CDiv, CPow, rEq, rNe, gSub, L2.start, LL.cxK0, LL.cxK1, List.map_cons, List.map_nil, List.length_cons, List.length_nil, List.replicate_succ, List.replicate_zero, List.cons_append, List.nil_append, List.append_nil, List.getElem?_cons_zero, List.getElem?_cons_succ, List.set_cons_zero, List.set_cons_succ, Nat.add_sub_cancel, Nat.reduceAdd, Nat.reduceSub, Option.some.injEq, V.int.injEq, V.bl.injEq, V.ref.injEq, V.str.injEq, List.cons.injEq, and_true, true_and, and_false, false_and, exists_eq_left, exists_eq_left', exists_and_left, exists_and_right, exists_eq, exists_eq', LL.if_dec, reduceCtorEq, exists_false, exists_const, or_false, false_or, if_true, if_false, LL.rInt1, LL.rMx, LL.rMn, and_assoc, Int.reduceNeg, Int.reduceLT, Int.reduceLE, Int.reduceMul, Int.reduceAdd, Int.reduceSub, Int.reducePow, Int.reduceToNat, Nat.reducePow, Nat.reduceLT, true_or, or_true, Bool.not_true, Bool.not_false, Bool.false_eq_true, Bool.or_false, Bool.or_true, Bool.true_or, Bool.false_or, decide_true, decide_false, not_true_eq_false, not_false_eq_true, LL.scal_int, LL.scal_bl, LL.scal_str, LL.isInt, LL.isBl, LL.isStr, LL.isLst, LL.isTup, LL.isDic, N_law_copy]
        repeat (first | refine use_isi h1 (kit_int _) ?_ | refine use_isi h1 (kit_bool _) ?_ | refine use_isi h1 (kit_str _) ?_ | refine use_isi h1 (kit_list _) ?_ | refine use_isi h1 (kit_tuple _) ?_ | refine use_isi h1 (kit_dict _) ?_ | refine And.intro (show scal _ _ = true from rfl) ?_ | simp only [tSeq, tAsg, tRet, tRetN, tDrop, tNext, tVar, tC, gName, tOp, tUn, rI, rI0, rU, tIfS, tTest, tB, tIf, tAnd, tOr, tNot, tAndV, tOrV, tNotV, tCall, tCons, tNil, tCB, tLst, tTup, tChain, CMul, CDiv, CPow, rEq, rNe, gSub, L2.start, LL.cxK0, LL.cxK1, List.map_cons, List.map_nil, List.length_cons, List.length_nil, List.replicate_succ, List.replicate_zero, List.cons_append, List.nil_append, List.append_nil, List.getElem?_cons_zero, List.getElem?_cons_succ, List.set_cons_zero, List.set_cons_succ, Nat.add_sub_cancel, Nat.reduceAdd, Nat.reduceSub, Option.some.injEq, V.int.injEq, V.bl.injEq, V.ref.injEq, V.str.injEq, List.cons.injEq, and_true, true_and, and_false, false_and, exists_eq_left, exists_eq_left', exists_and_left, exists_and_right, exists_eq, exists_eq', LL.if_dec, reduceCtorEq, exists_false, exists_const, or_false, false_or, if_true, if_false, LL.rInt1, LL.rMx, LL.rMn, and_assoc, Int.reduceNeg, Int.reduceLT, Int.reduceLE, Int.reduceMul, Int.reduceAdd, Int.reduceSub, Int.reducePow, Int.reduceToNat, Nat.reducePow, Nat.reduceLT, true_or, or_true, Bool.not_true, Bool.not_false, Bool.false_eq_true, Bool.or_false, Bool.or_true, Bool.true_or, Bool.false_or, decide_true, decide_false, not_true_eq_false, not_false_eq_true, LL.scal_int, LL.scal_bl, LL.scal_str, LL.isInt, LL.isBl, LL.isStr, LL.isLst, LL.isTup, LL.isDic])
        exact q _ _ (Same.refl _) rfl
      | lst ts =>
        obtain ⟨p, xs, rfl, fp, ep, hx, hz⟩ := _root_.id h1
        simp only [tSeq, tAsg, tRet, tRetN, tDrop, tNext, tVar, tC, gName, tOp, tUn, rI, rI0, rU, tIfS, tTest, tB, tIf, tAnd, tOr, tNot, tAndV, tOrV, tNotV, tCall, tCons, tNil, tCB, tLst, tTup, tChain, CMul, CDiv, CPow, rEq, rNe, gSub, L2.start, LL.cxK0, LL.cxK1, List.map_cons, List.map_nil, List.length_cons, List.length_nil, List.replicate_succ, List.replicate_zero, List.cons_append, List.nil_append, List.append_nil, List.getElem?_cons_zero, List.getElem?_cons_succ, List.set_cons_zero, List.set_cons_succ, Nat.add_sub_cancel, Nat.reduceAdd, Nat.reduceSub, Option.some.injEq, V.int.injEq, V.bl.injEq, V.ref.injEq, V.str.injEq, List.cons.injEq, and_true, true_and, and_false, false_and, exists_eq_left, exists_eq_left', exists_and_left, exists_and_right, exists_eq, exists_eq', LL.if_dec, reduceCtorEq, exists_false, exists_const, or_false, false_or, if_true, if_false, LL.rInt1, LL.rMx, LL.rMn, and_assoc, Int.reduceNeg, Int.reduceLT, Int.reduceLE, Int.reduceMul, Int.reduceAdd, Int.reduceSub, Int.reducePow, Int.reduceToNat, Nat.reducePow, Nat.reduceLT, true_or, or_true, Bool.not_true, Bool.not_false, Bool.false_eq_true, Bool.or_false, Bool.or_true, Bool.true_or, Bool.false_or, decide_true, decide_false, not_true_eq_false, not_false_eq_true, LL.scal_int, LL.scal_bl, LL.scal_str, LL.isInt, LL.isBl, LL.isStr, LL.isLst, LL.isTup, LL.isDic, N_law_copy]
        repeat (first | refine use_isi h1 (kit_int _) ?_ | refine use_isi h1 (kit_bool _) ?_ | refine use_isi h1 (kit_str _) ?_ | refine use_isi h1 (kit_list _) ?_ | refine use_isi h1 (kit_tuple _) ?_ | refine use_isi h1 (kit_dict _) ?_ | refine And.intro (show scal _ _ = true from rfl) ?_ | simp only [tSeq, tAsg, tRet, tRetN, tDrop, tNext, tVar, tC, gName, tOp, tUn, rI, rI0, rU, tIfS, tTest, tB, tIf, tAnd, tOr, tNot, tAndV, tOrV, tNotV, tCall, tCons, tNil, tCB, tLst, tTup, tChain, CMul, CDiv, CPow, rEq, rNe, gSub, L2.start, LL.cxK0, LL.cxK1, List.map_cons, List.map_nil, List.length_cons, List.length_nil, List.replicate_succ, List.replicate_zero, List.cons_append, List.nil_append, List.append_nil, List.getElem?_cons_zero, List.getElem?_cons_succ, List.set_cons_zero, List.set_cons_succ, Nat.add_sub_cancel, Nat.reduceAdd, Nat.reduceSub, Option.some.injEq, V.int.injEq, V.bl.injEq, V.ref.injEq, V.str.injEq, List.cons.injEq, and_true, true_and, and_false, false_and, exists_eq_left, exists_eq_left', exists_and_left, exists_and_right, exists_eq, exists_eq', LL.if_dec, reduceCtorEq, exists_false, exists_const, or_false, false_or, if_true, if_false, LL.rInt1, LL.rMx, LL.rMn, and_assoc, Int.reduceNeg, Int.reduceLT, Int.reduceLE, Int.reduceMul, Int.reduceAdd, Int.reduceSub, Int.reducePow, Int.reduceToNat, Nat.reducePow, Nat.reduceLT, true_or, or_true, Bool.not_true, Bool.not_false, Bool.false_eq_true, Bool.or_false, Bool.or_true, Bool.true_or, Bool.false_or, decide_true, decide_false, not_true_eq_false, not_false_eq_true, LL.scal_int, LL.scal_bl, LL.scal_str, LL.isInt, LL.isBl, LL.isStr, LL.isLst, LL.isTup, LL.isDic])
        refine ⟨_, rfl, p, rfl, ⟨xs, SqL.of ep⟩, fun D hD => ?_⟩
        refine lc_list (K := K) (a := p) (xs := xs) (fun i H' => Same H H' ∧ ∃ acc, H' D = some (.lst acc) ∧ DtL (fun a => H a = none ∧ a ≠ D) H' acc (ts.take i)) ⟨Same.new (Same.refl _) hD, [], upd_same, rfl⟩ (fun i H' _ ⟨s1, _⟩ => SqL.of (s1 _ _ ep)) ?_ ?_
        · rintro i x H' hi ⟨s1, acc, eD, hacc⟩
          obtain ⟨t, et, dt⟩ := hx.get _ hi
          simp only [tSeq, tAsg, tRet, tRetN, tDrop, tNext, tVar, tC, gName, tOp, tUn, rI, rI0, rU, tIfS, tTest, tB, tIf, tAnd, tOr, tNot, tAndV, tOrV, tNotV, tCall, tCons, tNil, tCB, tLst, tTup, tChain, CMul, CDiv, CPow, rEq, rNe, gSub, L2.start, LL.cxK0, LL.cxK1, List.map_cons, List.map_nil, List.length_cons, List.length_nil, List.replicate_succ, List.replicate_zero, List.cons_append, List.nil_append, List.append_nil, List.getElem?_cons_zero, List.getElem?_cons_succ, List.set_cons_zero, List.set_cons_succ, Nat.add_sub_cancel, Nat.reduceAdd, Nat.reduceSub, Option.some.injEq, V.int.injEq, V.bl.injEq, V.ref.injEq, V.str.injEq, List.cons.injEq, and_true, true_and, and_false, false_and, exists_eq_left, exists_eq_left', exists_and_left, exists_and_right, exists_eq, exists_eq', LL.if_dec, reduceCtorEq, exists_false, exists_const, or_false, false_or, if_true, if_false, LL.rInt1, LL.rMx, LL.rMn, and_assoc, Int.reduceNeg, Int.reduceLT, Int.reduceLE, Int.reduceMul, Int.reduceAdd, Int.reduceSub, Int.reducePow, Int.reduceToNat, Nat.reducePow, Nat.reduceLT, true_or, or_true, Bool.not_true, Bool.not_false, Bool.false_eq_true, Bool.or_false, Bool.or_true, Bool.true_or, Bool.false_or, decide_true, decide_false, not_true_eq_false, not_false_eq_true, LL.scal_int, LL.scal_bl, LL.scal_str, LL.isInt, LL.isBl, LL.isStr, LL.isLst, LL.isTup, LL.isDic, tYes, wipe, List.foldl_cons, List.foldl_nil]
          refine use_copy (dt.same s1) (by have := depL_mem et; simp only [dep] at hn; omega) fun r H4 s4 dr => ?_
          have ha : acc.length ≤ 100000 := by rw [hacc.len, List.length_take]; omega
          obtain ⟨g1, g2⟩ := grow hD s1 s4 hacc (new_of s1 eD) dr
          exact ⟨acc, s4 _ _ eD, small_sz (by omega), g1, _, upd_same, by rw [take_one et]; exact g2⟩
        · rintro H' ⟨s1, acc, eD, hacc⟩
          rw [hx.len, List.take_length] at hacc
          exact q _ _ s1 ⟨D, acc, rfl, hD, eD, hacc.to (fun a h => h.1), hz⟩
      | tup ts =>
        obtain ⟨p, xs, rfl, fp, ep, hx, hz⟩ := _root_.id h1
        simp only [tSeq, tAsg, tRet, tRetN, tDrop, tNext, tVar, tC, gName, tOp, tUn, rI, rI0, rU, tIfS, tTest, tB, tIf, tAnd, tOr, tNot, tAndV, tOrV, tNotV, tCall, tCons, tNil, tCB, tLst, tTup, tChain, CMul, CDiv, CPow, rEq, rNe, gSub, L2.start, LL.cxK0, LL.cxK1, List.map_cons, List.map_nil, List.length_cons, List.length_nil, List.replicate_succ, List.replicate_zero, List.cons_append, List.nil_append, List.append_nil, List.getElem?_cons_zero, List.getElem?_cons_succ, List.set_cons_zero, List.set_cons_succ, Nat.add_sub_cancel, Nat.reduceAdd, Nat.reduceSub, Option.some.injEq, V.int.injEq, V.bl.injEq, V.ref.injEq, V.str.injEq, List.cons.injEq, and_true, true_and, and_false, false_and, exists_eq_left, exists_eq_left', exists_and_left, exists_and_right, exists_eq, exists_eq', LL.if_dec, reduceCtorEq, exists_false, exists_const, or_false, false_or, if_true, if_false, LL.rInt1, LL.rMx, LL.rMn, and_assoc, Int.reduceNeg, Int.reduceLT, Int.reduceLE, Int.reduceMul, Int.reduceAdd, Int.reduceSub, Int.reducePow, Int.reduceToNat, Nat.reducePow, Nat.reduceLT, true_or, or_true, Bool.not_true, Bool.not_false, Bool.false_eq_true, Bool.or_false, Bool.or_true, Bool.true_or, Bool.false_or, decide_true, decide_false, not_true_eq_false, not_false_eq_true, LL.scal_int, LL.scal_bl, LL.scal_str, LL.isInt, LL.isBl, LL.isStr, LL.isLst, LL.isTup, LL.isDic, N_law_copy]
        repeat (first | refine use_isi h1 (kit_int _) ?_ | refine use_isi h1 (kit_bool _) ?_ | refine use_isi h1 (kit_str _) ?_ | refine use_isi h1 (kit_list _) ?_ | refine use_isi h1 (kit_tuple _) ?_ | refine use_isi h1 (kit_dict _) ?_ | refine And.intro (show scal _ _ = true from rfl) ?_ | simp only [tSeq, tAsg, tRet, tRetN, tDrop, tNext, tVar, tC, gName, tOp, tUn, rI, rI0, rU, tIfS, tTest, tB, tIf, tAnd, tOr, tNot, tAndV, tOrV, tNotV, tCall, tCons, tNil, tCB, tLst, tTup, tChain, CMul, CDiv, CPow, rEq, rNe, gSub, L2.start, LL.cxK0, LL.cxK1, List.map_cons, List.map_nil, List.length_cons, List.length_nil, List.replicate_succ, List.replicate_zero, List.cons_append, List.nil_append, List.append_nil, List.getElem?_cons_zero, List.getElem?_cons_succ, List.set_cons_zero, List.set_cons_succ, Nat.add_sub_cancel, Nat.reduceAdd, Nat.reduceSub, Option.some.injEq, V.int.injEq, V.bl.injEq, V.ref.injEq, V.str.injEq, List.cons.injEq, and_true, true_and, and_false, false_and, exists_eq_left, exists_eq_left', exists_and_left, exists_and_right, exists_eq, exists_eq', LL.if_dec, reduceCtorEq, exists_false, exists_const, or_false, false_or, if_true, if_false, LL.rInt1, LL.rMx, LL.rMn, and_assoc, Int.reduceNeg, Int.reduceLT, Int.reduceLE, Int.reduceMul, Int.reduceAdd, Int.reduceSub, Int.reducePow, Int.reduceToNat, Nat.reducePow, Nat.reduceLT, true_or, or_true, Bool.not_true, Bool.not_false, Bool.false_eq_true, Bool.or_false, Bool.or_true, Bool.true_or, Bool.false_or, decide_true, decide_false, not_true_eq_false, not_false_eq_true, LL.scal_int, LL.scal_bl, LL.scal_str, LL.isInt, LL.isBl, LL.isStr, LL.isLst, LL.isTup, LL.isDic])
        refine ⟨_, rfl, p, rfl, ⟨xs, SqT.of ep⟩, fun D hD => ?_⟩
        refine lc_tup (K := K) (a := p) (xs := xs) (fun i H' => Same H H' ∧ ∃ acc, H' D = some (.lst acc) ∧ DtL (fun a => H a = none ∧ a ≠ D) H' acc (ts.take i)) ⟨Same.new (Same.refl _) hD, [], upd_same, rfl⟩ (fun i H' _ ⟨s1, _⟩ => SqT.of (s1 _ _ ep)) ?_ ?_
        · rintro i x H' hi ⟨s1, acc, eD, hacc⟩
          obtain ⟨t, et, dt⟩ := hx.get _ hi
          simp only [tSeq, tAsg, tRet, tRetN, tDrop, tNext, tVar, tC, gName, tOp, tUn, rI, rI0, rU, tIfS, tTest, tB, tIf, tAnd, tOr, tNot, tAndV, tOrV, tNotV, tCall, tCons, tNil, tCB, tLst, tTup, tChain, CMul, CDiv, CPow, rEq, rNe, gSub, L2.start, LL.cxK0, LL.cxK1, List.map_cons, List.map_nil, List.length_cons, List.length_nil, List.replicate_succ, List.replicate_zero, List.cons_append, List.nil_append, List.append_nil, List.getElem?_cons_zero, List.getElem?_cons_succ, List.set_cons_zero, List.set_cons_succ, Nat.add_sub_cancel, Nat.reduceAdd, Nat.reduceSub, Option.some.injEq, V.int.injEq, V.bl.injEq, V.ref.injEq, V.str.injEq, List.cons.injEq, and_true, true_and, and_false, false_and, exists_eq_left, exists_eq_left', exists_and_left, exists_and_right, exists_eq, exists_eq', LL.if_dec, reduceCtorEq, exists_false, exists_const, or_false, false_or, if_true, if_false, LL.rInt1, LL.rMx, LL.rMn, and_assoc, Int.reduceNeg, Int.reduceLT, Int.reduceLE, Int.reduceMul, Int.reduceAdd, Int.reduceSub, Int.reducePow, Int.reduceToNat, Nat.reducePow, Nat.reduceLT, true_or, or_true, Bool.not_true, Bool.not_false, Bool.false_eq_true, Bool.or_false, Bool.or_true, Bool.true_or, Bool.false_or, decide_true, decide_false, not_true_eq_false, not_false_eq_true, LL.scal_int, LL.scal_bl, LL.scal_str, LL.isInt, LL.isBl, LL.isStr, LL.isLst, LL.isTup, LL.isDic, tYes, wipe, List.foldl_cons, List.foldl_nil]
          refine use_copy (dt.same s1) (by have := depL_mem et; simp only [dep] at hn; omega) fun r H4 s4 dr => ?_
          have ha : acc.length ≤ 100000 := by rw [hacc.len, List.length_take]; omega
          obtain ⟨g1, g2⟩ := grow hD s1 s4 hacc (new_of s1 eD) dr
          exact ⟨acc, s4 _ _ eD, small_sz (by omega), g1, _, upd_same, by rw [take_one et]; exact g2⟩
        · rintro H' ⟨s1, acc, eD, hacc⟩
          rw [hx.len, List.take_length] at hacc
          refine ⟨D, acc, rfl, eD, fun l hl => ?_⟩
          exact q _ _ (Same.new s1 hl) ⟨l, acc, rfl, s1.free hl, upd_same, (DtL.same hacc (Same.new (Same.refl _) hl)).to (fun a h => h.1), hz⟩
      | dic u =>
        obtain ⟨p, z, rfl, fp, ep, hz⟩ := _root_.id h1
        simp only [tSeq, tAsg, tRet, tRetN, tDrop, tNext, tVar, tC, gName, tOp, tUn, rI, rI0, rU, tIfS, tTest, tB, tIf, tAnd, tOr, tNot, tAndV, tOrV, tNotV, tCall, tCons, tNil, tCB, tLst, tTup, tChain, CMul, CDiv, CPow, rEq, rNe, gSub, L2.start, LL.cxK0, LL.cxK1, List.map_cons, List.map_nil, List.length_cons, List.length_nil, List.replicate_succ, List.replicate_zero, List.cons_append, List.nil_append, List.append_nil, List.getElem?_cons_zero, List.getElem?_cons_succ, List.set_cons_zero, List.set_cons_succ, Nat.add_sub_cancel, Nat.reduceAdd, Nat.reduceSub, Option.some.injEq, V.int.injEq, V.bl.injEq, V.ref.injEq, V.str.injEq, List.cons.injEq, and_true, true_and, and_false, false_and, exists_eq_left, exists_eq_left', exists_and_left, exists_and_right, exists_eq, exists_eq', LL.if_dec, reduceCtorEq, exists_false, exists_const, or_false, false_or, if_true, if_false, LL.rInt1, LL.rMx, LL.rMn, and_assoc, Int.reduceNeg, Int.reduceLT, Int.reduceLE, Int.reduceMul, Int.reduceAdd, Int.reduceSub, Int.reducePow, Int.reduceToNat, Nat.reducePow, Nat.reduceLT, true_or, or_true, Bool.not_true, Bool.not_false, Bool.false_eq_true, Bool.or_false, Bool.or_true, Bool.true_or, Bool.false_or, decide_true, decide_false, not_true_eq_false, not_false_eq_true, LL.scal_int, LL.scal_bl, LL.scal_str, LL.isInt, LL.isBl, LL.isStr, LL.isLst, LL.isTup, LL.isDic, N_law_copy]
        repeat (first | refine use_isi h1 (kit_int _) ?_ | refine use_isi h1 (kit_bool _) ?_ | refine use_isi h1 (kit_str _) ?_ | refine use_isi h1 (kit_list _) ?_ | refine use_isi h1 (kit_tuple _) ?_ | refine use_isi h1 (kit_dict _) ?_ | refine And.intro (show scal _ _ = true from rfl) ?_ | simp only [tSeq, tAsg, tRet, tRetN, tDrop, tNext, tVar, tC, gName, tOp, tUn, rI, rI0, rU, tIfS, tTest, tB, tIf, tAnd, tOr, tNot, tAndV, tOrV, tNotV, tCall, tCons, tNil, tCB, tLst, tTup, tChain, CMul, CDiv, CPow, rEq, rNe, gSub, L2.start, LL.cxK0, LL.cxK1, List.map_cons, List.map_nil, List.length_cons, List.length_nil, List.replicate_succ, List.replicate_zero, List.cons_append, List.nil_append, List.append_nil, List.getElem?_cons_zero, List.getElem?_cons_succ, List.set_cons_zero, List.set_cons_succ, Nat.add_sub_cancel, Nat.reduceAdd, Nat.reduceSub, Option.some.injEq, V.int.injEq, V.bl.injEq, V.ref.injEq, V.str.injEq, List.cons.injEq, and_true, true_and, and_false, false_and, exists_eq_left, exists_eq_left', exists_and_left, exists_and_right, exists_eq, exists_eq', LL.if_dec, reduceCtorEq, exists_false, exists_const, or_false, false_or, if_true, if_false, LL.rInt1, LL.rMx, LL.rMn, and_assoc, Int.reduceNeg, Int.reduceLT, Int.reduceLE, Int.reduceMul, Int.reduceAdd, Int.reduceSub, Int.reducePow, Int.reduceToNat, Nat.reducePow, Nat.reduceLT, true_or, or_true, Bool.not_true, Bool.not_false, Bool.false_eq_true, Bool.or_false, Bool.or_true, Bool.true_or, Bool.false_or, decide_true, decide_false, not_true_eq_false, not_false_eq_true, LL.scal_int, LL.scal_bl, LL.scal_str, LL.isInt, LL.isBl, LL.isStr, LL.isLst, LL.isTup, LL.isDic])
        unfold tDNewK
        intro D hD
        have s1 : Same H (upd H D (.dK [])) := Same.new (Same.refl _) hD
        have eD : upd H D (.dK []) D = some (.dK []) := upd_same
        generalize upd H D (.dK []) = H1 at s1 eD ⊢
        refine use_forLX (R := fun a xs H' => Same H H' ∧ H' D = some (.dK []) ∧ H' a = some (.lst xs) ∧ a ≠ D ∧ H a = none ∧ xs = [.str "a"]) (fun Q hQ => ⟨_, rfl, _, _, rfl, s1 _ _ ep, ?_⟩)
          (fun a xs i σ' H' => Same H H' ∧ a ≠ D ∧ H' a = some (.lst xs) ∧ xs = [.str "a"] ∧ (∃ z1 z2 : Option V, σ' = [some (.ref p), some (.ref D), z1, z2]) ∧ (i = 0 → H' D = some (.dK [])) ∧ (i = 1 → ∃ x, H' D = some (.dK [(Sum.inr "a", x)]) ∧ Dt (fun a => H a = none ∧ a ≠ D) H' x u))
          (fun a xs H' ⟨s2, e1, e2, e3, _, e4⟩ => ⟨s2, e3, e2, e4, ⟨_, _, rfl⟩, fun _ => e1, fun z => by cases z⟩) (fun a xs i σ' H' _ ⟨_, _, e1, _⟩ => SqL.of e1) ?_ ?_
        · show ∀ l, H1 l = none → Q (V.ref l) _
          intro l nl
          generalize hq : upd H1 l _ = H2
          have sH2 : Same H1 H2 := hq ▸ Same.new (Same.refl _) nl
          have el := hq ▸ (upd_same (H := H1) (a := l))
          clear hq
          exact hQ _ _ _ ⟨s1.trans sH2, sH2 _ _ eD, el, (fun z => by rw [z, eD] at nl; cases nl), s1.free nl, rfl⟩
        · rintro a xs i y σ' H' hy ⟨s2, ne, e1, rfl, ⟨z3, z4, rfl⟩, k0, _⟩
          obtain ⟨rfl, rfl⟩ : y = V.str "a" ∧ i = 0 := by
            rcases i with _ | i
            · exact ⟨(Option.some.inj hy).symm, rfl⟩
            · cases hy
          have eD2 := k0 rfl
          have ev : DGet H' p (.str "a") (some z) := by
            have g := DGet.k (k := Sum.inr "a") (s2 _ _ ep)
            have e2 : valV [((Sum.inr "a" : Key), z)] (Sum.inr "a") = some z := by simp [valV]
            rw [e2] at g
            exact g
          simp only [tSeq, tAsg, tRet, tRetN, tDrop, tNext, tVar, tC, gName, tOp, tUn, rI, rI0, rU, tIfS, tTest, tB, tIf, tAnd, tOr, tNot, tAndV, tOrV, tNotV, tCall, tCons, tNil, tCB, tLst, tTup, tChain, CMul, CDiv, CPow, rEq, rNe, gSub, L2.start, LL.cxK0, LL.cxK1, List.map_cons, List.map_nil, List.length_cons, List.length_nil, List.replicate_succ, List.replicate_zero, List.cons_append, List.nil_append, List.append_nil, List.getElem?_cons_zero, List.getElem?_cons_succ, List.set_cons_zero, List.set_cons_succ, Nat.add_sub_cancel, Nat.reduceAdd, Nat.reduceSub, Option.some.injEq, V.int.injEq, V.bl.injEq, V.ref.injEq, V.str.injEq, List.cons.injEq, and_true, true_and, and_false, false_and, exists_eq_left, exists_eq_left', exists_and_left, exists_and_right, exists_eq, exists_eq', LL.if_dec, reduceCtorEq, exists_false, exists_const, or_false, false_or, if_true, if_false, LL.rInt1, LL.rMx, LL.rMn, and_assoc, Int.reduceNeg, Int.reduceLT, Int.reduceLE, Int.reduceMul, Int.reduceAdd, Int.reduceSub, Int.reducePow, Int.reduceToNat, Nat.reducePow, Nat.reduceLT, true_or, or_true, Bool.not_true, Bool.not_false, Bool.false_eq_true, Bool.or_false, Bool.or_true, Bool.true_or, Bool.false_or, decide_true, decide_false, not_true_eq_false, not_false_eq_true, LL.scal_int, LL.scal_bl, LL.scal_str, LL.isInt, LL.isBl, LL.isStr, LL.isLst, LL.isTup, LL.isDic, sDPut, tDGet]
          refine ⟨_, ev, ?_⟩
          refine use_copy (hz.same s2) (by simp only [dep] at hn; omega) fun r H4 s4 dr => ?_
          refine ⟨_, DPut.k (k := Sum.inr "a") (s4 _ _ eD2) (by decide), ?_⟩
          have epk : putK ([] : List (Key × V)) (Sum.inr "a" : Key) r = [((Sum.inr "a" : Key), r)] := by simp [putK]
          rw [epk]
          refine ⟨Same.own (s2.trans s4) hD, ne, by rw [upd_ne ne]; exact s4 _ _ e1, (fun z => z.elim), fun _ => ⟨r, upd_same, Dt.imp (fun b o fb eb => ?_) _ dr⟩⟩
          have nf := new_of s2 eD2 b fb
          exact ⟨nf, by rw [upd_ne nf.2]; exact eb⟩
        · rintro a xs σ' H' ⟨s2, ne, e1, rfl, ⟨z3, z4, rfl⟩, _, k1⟩
          obtain ⟨x, ex, dx⟩ := k1 rfl
          simp only [tSeq, tAsg, tRet, tRetN, tDrop, tNext, tVar, tC, gName, tOp, tUn, rI, rI0, rU, tIfS, tTest, tB, tIf, tAnd, tOr, tNot, tAndV, tOrV, tNotV, tCall, tCons, tNil, tCB, tLst, tTup, tChain, CMul, CDiv, CPow, rEq, rNe, gSub, L2.start, LL.cxK0, LL.cxK1, List.map_cons, List.map_nil, List.length_cons, List.length_nil, List.replicate_succ, List.replicate_zero, List.cons_append, List.nil_append, List.append_nil, List.getElem?_cons_zero, List.getElem?_cons_succ, List.set_cons_zero, List.set_cons_succ, Nat.add_sub_cancel, Nat.reduceAdd, Nat.reduceSub, Option.some.injEq, V.int.injEq, V.bl.injEq, V.ref.injEq, V.str.injEq, List.cons.injEq, and_true, true_and, and_false, false_and, exists_eq_left, exists_eq_left', exists_and_left, exists_and_right, exists_eq, exists_eq', LL.if_dec, reduceCtorEq, exists_false, exists_const, or_false, false_or, if_true, if_false, LL.rInt1, LL.rMx, LL.rMn, and_assoc, Int.reduceNeg, Int.reduceLT, Int.reduceLE, Int.reduceMul, Int.reduceAdd, Int.reduceSub, Int.reducePow, Int.reduceToNat, Nat.reducePow, Nat.reduceLT, true_or, or_true, Bool.not_true, Bool.not_false, Bool.false_eq_true, Bool.or_false, Bool.or_true, Bool.true_or, Bool.false_or, decide_true, decide_false, not_true_eq_false, not_false_eq_true, LL.scal_int, LL.scal_bl, LL.scal_str, LL.isInt, LL.isBl, LL.isStr, LL.isLst, LL.isTup, LL.isDic]
          exact q _ _ s2 ⟨D, x, rfl, hD, ex, dx.to (fun a h => h.1)⟩
/-- what is told of a BadValue with that name -/
def refT (n : Str) : LL.T := .lst [.str "refused", .tup [.str "BadValue", .tup [.str n]], .tup [.str n], .lst [.bl true, .bl true, .bl true, .bl false, .bl false, .bl false, .bl false, .bl false, .bl false, .bl false]]
def sp_law_refused : Sp := fun vs H Q _ => ∃ (F : Addr → Prop) (f : V) (n : Str), vs = [.str "BadValue", f] ∧ Dt F H f (.tup [.str n]) ∧ ∀ r H', Same H H' → Dt (fun _ => True) H' r (refT n) → Q r H'
theorem use_refused {F : Addr → Prop} {f : V} {n : Str} {H : Hp} {Q : VK} {E : XK} (hf : Dt F H f (.tup [.str n])) (q : ∀ r H', Same H H' → Dt (fun _ => True) H' r (refT n) → Q r H') : sp_law_refused [.str "BadValue", f] H Q E := ⟨F, f, n, rfl, hf, q⟩
def titles : List V := [.str "BadValue", .str "Broken", .str "Unknown", .str "NotHeld", .str "Fault", .str "NoRoom", .str "Cut", .str "BadLine"]
theorem titles_eq : titles.map (fun x => V.bl (decide (x = V.str "BadValue"))) = [.bl true, .bl false, .bl false, .bl false, .bl false, .bl false, .bl false, .bl false] := by decide +kernel
theorem titles_s : ∀ x ∈ titles, scal x (.str "BadValue") = true := by decide +kernel

theorem ok_law_refused (T : Tx K mg) : FnOk P w K mg base CX0 1 (He.ga K "_law_refused") T.fd_law_refused P_law_refused sp_law_refused := by
  refine T.F_law_refused.ok sc_law_refused (fun vs H Q E h => ?_) (fun cdv A outer s H vs Q E hr h => ⟨_, PSs.nox (pss_cons (ps_set (i := 2) sc_law_refused.nd rfl (Or.inl rfl) (pe_lst (pa_cons (pe_str) (pa_cons (pe_str) (pa_cons (pe_str) (pa_cons (pe_str) (pa_cons (pe_str) (pa_cons (pe_str) (pa_cons (pe_str) (pa_cons (pe_str) pa_nil)))))))))) (pss_one (ps_ret (pe_lst (pa_cons (pe_str) (pa_cons (pe_tup (pa_cons (pv 0) (pa_cons (pv 1) pa_nil))) (pa_cons (pv 1) (pa_cons (pe_op op_cat (pe_lst (pa_cons (pe_bl) (pa_cons (pe_bl) pa_nil))) (pe_lc (own := [("_law_one", 3)]) (by rfl) sc_law_refused.nd (pi_list (pv 2)) (blkOk_by (N := N_law_refused) (sc := defScope s_law_refused) (by decide +kernel)) (fun _ _ _ _ _ => (pg_name (i := 3) sc_law_refused.nd rfl (Or.inl rfl))) (fun _ _ _ _ _ => pts_nil) (fun _ _ _ _ _ => (pe_cmpR op_eq (pv 3) (pv 0) (nomark _))))) pa_nil)))))))), ?_⟩)
  · obtain ⟨_, _, _, rfl, _⟩ := h
    rfl
  · obtain ⟨F, f, n, rfl, hf, q⟩ := h
    simp only [tSeq, tAsg, tRet, tRetN, tDrop, tNext, tVar, tC, gName, tOp, tUn, rI, rI0, rU, tIfS, tTest, tB, tIf, tAnd, tOr, tNot, tAndV, tOrV, tNotV, tCall, tCons, tNil, tCB, tLst, tTup, tChain, CMul, CDiv, CPow, rEq, rNe, gSub, L2.start, LL.cxK0, LL.cxK1, List.map_cons, List.map_nil, List.length_cons, List.length_nil, List.replicate_succ, List.replicate_zero, List.cons_append, List.nil_append, List.append_nil, List.getElem?_cons_zero, List.getElem?_cons_succ, List.set_cons_zero, List.set_cons_succ, Nat.add_sub_cancel, Nat.reduceAdd, Nat.reduceSub, Option.some.injEq, V.int.injEq, V.bl.injEq, V.ref.injEq, V.str.injEq, List.cons.injEq, and_true, true_and, and_false, false_and, exists_eq_left, exists_eq_left', exists_and_left, exists_and_right, exists_eq, exists_eq', LL.if_dec, reduceCtorEq, exists_false, exists_const, or_false, false_or, if_true, if_false, LL.rInt1, LL.rMx, LL.rMn, and_assoc, Int.reduceNeg, Int.reduceLT, Int.reduceLE, Int.reduceMul, Int.reduceAdd, Int.reduceSub, Int.reducePow, Int.reduceToNat, Nat.reducePow, Nat.reduceLT, true_or, or_true, Bool.not_true, Bool.not_false, Bool.false_eq_true, Bool.or_false, Bool.or_true, Bool.true_or, Bool.false_or, decide_true, decide_false, not_true_eq_false, not_false_eq_true, LL.scal_int, LL.scal_bl, LL.scal_str, LL.isInt, LL.isBl, LL.isStr, LL.isLst, LL.isTup, LL.isDic, N_law_refused]
    refine ⟨by decide, ?_⟩
    intro p1 np1
    generalize hq : upd H p1 _ = H1
    have sH1 : Same H H1 := hq ▸ Same.new (Same.refl _) np1
    have ep1 := hq ▸ (upd_same (H := H) (a := p1))
    clear hq
    refine ⟨by decide, ?_⟩
    intro p2 np2
    generalize hq : upd H1 p2 _ = H2
    have sH2 : Same H1 H2 := hq ▸ Same.new (Same.refl _) np2
    have ep2 := hq ▸ (upd_same (H := H1) (a := p2))
    clear hq
    replace ep1 := sH2 _ _ ep1
    refine ⟨by decide, ?_⟩
    intro p3 np3
    generalize hq : upd H2 p3 _ = H3
    have sH3 : Same H2 H3 := hq ▸ Same.new (Same.refl _) np3
    have ep3 := hq ▸ (upd_same (H := H2) (a := p3))
    clear hq
    replace ep1 := sH3 _ _ ep1
    replace ep2 := sH3 _ _ ep2
    refine ⟨_, rfl, p1, rfl, ⟨_, SqL.of ep1⟩, fun D hD => ?_⟩
    refine lc_list (K := K) (a := p1) (xs := titles) (fun i H' => Same H3 H' ∧ H' D = some (.lst ((titles.take i).map fun x => V.bl (decide (x = V.str "BadValue"))))) ⟨Same.new (Same.refl _) hD, upd_same⟩ (fun i H' _ ⟨s1, _⟩ => SqL.of (s1 _ _ ep1)) ?_ ?_
    · rintro i x H' hi ⟨s1, eD⟩
      simp only [tSeq, tAsg, tRet, tRetN, tDrop, tNext, tVar, tC, gName, tOp, tUn, rI, rI0, rU, tIfS, tTest, tB, tIf, tAnd, tOr, tNot, tAndV, tOrV, tNotV, tCall, tCons, tNil, tCB, tLst, tTup, tChain, CMul, CDiv, CPow, rEq, rNe, gSub, L2.start, LL.cxK0, LL.cxK1, List.map_cons, List.map_nil, List.length_cons, List.length_nil, List.replicate_succ, List.replicate_zero, List.cons_append, List.nil_append, List.append_nil, List.getElem?_cons_zero, List.getElem?_cons_succ, List.set_cons_zero, List.set_cons_succ, Nat.add_sub_cancel, Nat.reduceAdd, Nat.reduceSub, Option.some.injEq, V.int.injEq, V.bl.injEq, V.ref.injEq, V.str.injEq, List.cons.injEq, and_true, true_and, and_false, false_and, exists_eq_left, exists_eq_left', exists_and_left, exists_and_right, exists_eq, exists_eq', LL.if_dec, reduceCtorEq, exists_false, exists_const, or_false, false_or, if_true, if_false, LL.rInt1, LL.rMx, LL.rMn, and_assoc, Int.reduceNeg, Int.reduceLT, Int.reduceLE, Int.reduceMul, Int.reduceAdd, Int.reduceSub, Int.reducePow, Int.reduceToNat, Nat.reducePow, Nat.reduceLT, true_or, or_true, Bool.not_true, Bool.not_false, Bool.false_eq_true, Bool.or_false, Bool.or_true, Bool.true_or, Bool.false_or, decide_true, decide_false, not_true_eq_false, not_false_eq_true, LL.scal_int, LL.scal_bl, LL.scal_str, LL.isInt, LL.isBl, LL.isStr, LL.isLst, LL.isTup, LL.isDic, tYes, wipe, List.foldl_cons, List.foldl_nil]
      refine ⟨titles_s _ (List.mem_of_getElem? hi), _, eD, small_sz (by rw [List.length_map, List.length_take, show titles.length = 8 from rfl]; omega), Same.own s1 hD, ?_⟩
      rw [upd_same, take_one hi, List.map_append]
      rfl
    · rintro H' ⟨s1, eD⟩
      rw [List.take_length, titles_eq] at eD
      refine ⟨p3, D, _, _, rfl, rfl, s1 _ _ ep3, eD, by decide, ?_⟩
      replace ep2 := s1 _ _ ep2
      intro p4 np4
      generalize hq : upd H' p4 _ = H4
      have sH4 : Same H' H4 := hq ▸ Same.new (Same.refl _) np4
      have ep4 := hq ▸ (upd_same (H := H') (a := p4))
      clear hq
      replace ep2 := sH4 _ _ ep2
      refine ⟨by decide, ?_⟩
      intro p5 np5
      generalize hq : upd H4 p5 _ = H5
      have sH5 : Same H4 H5 := hq ▸ Same.new (Same.refl _) np5
      have ep5 := hq ▸ (upd_same (H := H4) (a := p5))
      clear hq
      replace ep2 := sH5 _ _ ep2
      replace ep4 := sH5 _ _ ep4
      have g : Same H H5 := ((((sH1.trans sH2).trans sH3).trans s1).trans sH4).trans sH5
      have hf5 : Dt (fun _ => True) H5 f (.tup [.str n]) := (hf.same g).to (fun _ _ => trivial)
      have st : ∀ z : Str, Dt (fun _ => True) H5 (.str z) (.str z) := fun z => rfl
      have bt : ∀ z : Bool, Dt (fun _ => True) H5 (.bl z) (.bl z) := fun z => rfl
      refine q _ _ g ⟨p5, _, rfl, trivial, ep5, .cons (st _) (.cons ⟨p2, _, rfl, trivial, ep2, .cons (st _) (.one hf5), by simp⟩ (.cons hf5 (.one ⟨p4, _, rfl, trivial, ep4, ?_, by simp⟩))), by simp⟩
      exact .cons (bt _) (.cons (bt _) (.cons (bt _) (.cons (bt _) (.cons (bt _) (.cons (bt _) (.cons (bt _) (.cons (bt _) (.cons (bt _) (.one (bt _))))))))))
def sp_law_draws (K : PySem.W.Frag) : Sp := fun vs H Q _ => ∃ (a : Addr) (ns : List Int), vs = [.ref a] ∧ SqL K H a (ns.map V.int) ∧ ns.length ≤ 100000 ∧ ∀ d s H', Same H H' → Drw d s H' → H d = none → H s = none → Q (.ref d) H'

theorem ok_law_draws (T : Tx K mg) : FnOk P w K mg base CX0 1 (He.ga K "_law_draws") T.fd_law_draws P_law_draws (sp_law_draws K) := by
  refine T.F_law_draws.ok sc_law_draws (fun vs H Q E h => ?_) (fun cdv A outer s H vs Q E hr h => ⟨_, PSs.nox (pss_one (ps_ret (pe_lst (pa_cons (pe_lc (own := [("_law_cell", 1)]) (by rfl) sc_law_draws.nd (pi_list (pv 0)) (blkOk_by (N := N_law_draws) (sc := defScope s_law_draws) (by decide +kernel)) (fun _ _ _ _ _ => (pg_name (i := 1) sc_law_draws.nd rfl (Or.inl rfl))) (fun _ _ _ _ _ => pts_nil) (fun _ _ _ _ _ => (pe_callTy LL.call_intI (by rfl) T.z_int (by decide +kernel) (pa_cons (pv 1) pa_nil)))) (pa_cons (pe_lst (pa_cons (pe_int) (pa_cons (pe_int) (pa_cons (pe_int) (pa_cons (pe_int) (pa_cons (pe_int) pa_nil)))))) pa_nil))))), ?_⟩)
  · obtain ⟨_, _, rfl, _⟩ := h
    rfl
  · obtain ⟨a, ns, rfl, hs, hn, q⟩ := h
    simp only [tSeq, tAsg, tRet, tRetN, tDrop, tNext, tVar, tC, gName, tOp, tUn, rI, rI0, rU, tIfS, tTest, tB, tIf, tAnd, tOr, tNot, tAndV, tOrV, tNotV, tCall, tCons, tNil, tCB, tLst, tTup, tChain, CMul, CDiv, CPow, rEq, rNe, gSub, L2.start, LL.cxK0, LL.cxK1, List.map_cons, List.map_nil, List.length_cons, List.length_nil, List.replicate_succ, List.replicate_zero, List.cons_append, List.nil_append, List.append_nil, List.getElem?_cons_zero, List.getElem?_cons_succ, List.set_cons_zero, List.set_cons_succ, Nat.add_sub_cancel, Nat.reduceAdd, Nat.reduceSub, Option.some.injEq, V.int.injEq, V.bl.injEq, V.ref.injEq, V.str.injEq, List.cons.injEq, and_true, true_and, and_false, false_and, exists_eq_left, exists_eq_left', exists_and_left, exists_and_right, exists_eq, exists_eq', LL.if_dec, reduceCtorEq, exists_false, exists_const, or_false, false_or, if_true, if_false, LL.rInt1, LL.rMx, LL.rMn, and_assoc, Int.reduceNeg, Int.reduceLT, Int.reduceLE, Int.reduceMul, Int.reduceAdd, Int.reduceSub, Int.reducePow, Int.reduceToNat, Nat.reducePow, Nat.reduceLT, true_or, or_true, Bool.not_true, Bool.not_false, Bool.false_eq_true, Bool.or_false, Bool.or_true, Bool.true_or, Bool.false_or, decide_true, decide_false, not_true_eq_false, not_false_eq_true, LL.scal_int, LL.scal_bl, LL.scal_str, LL.isInt, LL.isBl, LL.isStr, LL.isLst, LL.isTup, LL.isDic, N_law_draws]
    refine ⟨_, rfl, a, rfl, ⟨_, hs⟩, fun D hD => ?_⟩
    refine lc_list (K := K) (a := a) (xs := ns.map V.int) (fun i H' => Same H H' ∧ H' D = some (.lst ((ns.take i).map V.int))) ⟨Same.new (Same.refl _) hD, upd_same⟩ (fun i H' _ ⟨s1, _⟩ => s1.seq hs) ?_ ?_
    · rintro i x H' hi ⟨s1, eD⟩
      rw [List.getElem?_map] at hi
      obtain ⟨n, hn2, rfl⟩ := Option.map_eq_some_iff.mp hi
      simp only [tSeq, tAsg, tRet, tRetN, tDrop, tNext, tVar, tC, gName, tOp, tUn, rI, rI0, rU, tIfS, tTest, tB, tIf, tAnd, tOr, tNot, tAndV, tOrV, tNotV, tCall, tCons, tNil, tCB, tLst, tTup, tChain, CMul, CDiv, CPow, rEq, rNe, gSub, L2.start, LL.cxK0, LL.cxK1, List.map_cons, List.map_nil, List.length_cons, List.length_nil, List.replicate_succ, List.replicate_zero, List.cons_append, List.nil_append, List.append_nil, List.getElem?_cons_zero, List.getElem?_cons_succ, List.set_cons_zero, List.set_cons_succ, Nat.add_sub_cancel, Nat.reduceAdd, Nat.reduceSub, Option.some.injEq, V.int.injEq, V.bl.injEq, V.ref.injEq, V.str.injEq, List.cons.injEq, and_true, true_and, and_false, false_and, exists_eq_left, exists_eq_left', exists_and_left, exists_and_right, exists_eq, exists_eq', LL.if_dec, reduceCtorEq, exists_false, exists_const, or_false, false_or, if_true, if_false, LL.rInt1, LL.rMx, LL.rMn, and_assoc, Int.reduceNeg, Int.reduceLT, Int.reduceLE, Int.reduceMul, Int.reduceAdd, Int.reduceSub, Int.reducePow, Int.reduceToNat, Nat.reducePow, Nat.reduceLT, true_or, or_true, Bool.not_true, Bool.not_false, Bool.false_eq_true, Bool.or_false, Bool.or_true, Bool.true_or, Bool.false_or, decide_true, decide_false, not_true_eq_false, not_false_eq_true, LL.scal_int, LL.scal_bl, LL.scal_str, LL.isInt, LL.isBl, LL.isStr, LL.isLst, LL.isTup, LL.isDic, tYes, wipe, List.foldl_cons, List.foldl_nil]
      refine ⟨_, eD, small_sz (by rw [List.length_map, List.length_take]; omega), Same.own s1 hD, ?_⟩
      rw [upd_same, take_one hn2, List.map_append]
      rfl
    · rintro H' ⟨s1, eD⟩
      rw [List.length_map, List.take_length] at eD
      refine ⟨by decide, ?_⟩
      have nD : ∀ b, H' b = none → b ≠ D := fun b nb z => by rw [z, eD] at nb; cases nb
      intro p2 np2
      generalize hq : upd H' p2 _ = H2
      have sH2 : Same H' H2 := hq ▸ Same.new (Same.refl _) np2
      have ep2 := hq ▸ (upd_same (H := H') (a := p2))
      clear hq
      replace eD := sH2 _ _ eD
      refine ⟨by decide, ?_⟩
      intro p3 np3
      generalize hq : upd H2 p3 _ = H3
      have sH3 : Same H2 H3 := hq ▸ Same.new (Same.refl _) np3
      have ep3 := hq ▸ (upd_same (H := H2) (a := p3))
      clear hq
      replace eD := sH3 _ _ eD
      replace ep2 := sH3 _ _ ep2
      refine q p3 p2 H3 ((s1.trans sH2).trans sH3) ⟨⟨D, ep3, (nD _ np2).symm, ns, eD⟩, ⟨0, 0, 0, 0, 11, by decide, ep2⟩, fun z => by rw [z] at np3; rw [z] at ep3; rw [ep3] at ep2; cases ep2⟩ ((s1.trans sH2).free np3) (s1.free np2)
end K00

namespace K00
open PySem PySem.Spec PyProof.Rows L2 LL
variable {P : Program} {w : World} {K : PySem.W.Frag} {mg : Str → Option Value} {base : Heap}

/-- behind a raised BadValue: its own dict d, new, holds what it tells -/
structure BadH (H H' : Hp) (d : Addr) (n : V) : Prop where
  ex : ∃ p1 p2, H' d = some (.xd [("told", .ref p2), ("parameter", n)]) ∧ H' p1 = some (.tup [n]) ∧ H' p2 = some (.tup [.str "BadValue", .ref p1]) ∧ H p1 = none ∧ H p2 = none
  same : Same H H'
  new : H d = none
/-- BadValue.__init__ -/
def sp_BadValue (K : PySem.W.Frag) : Sp := fun vs H Q _ => ∃ (a : Addr) (n : V), vs = [.ref a, n] ∧ H a = some (exo a (aBV K) none) ∧
  ∀ d p1 p2 H', H d = none → d ≠ a → H' a = some (exo a (aBV K) (some d)) → H' d = some (exd d [("told", .ref p2), ("parameter", n)]) → H' p1 = some (.tup [n]) → H' p2 = some (.tup [.str "BadValue", .ref p1]) → H p1 = none → H p2 = none → (∀ b o, b ≠ a → H b = some o → H' b = some o) → Q .non H'
theorem ok_BadValue (T : Tx K mg) : FnOk P w K mg base CX0 1 (iBV K) T.fd_BadValue P_BadValue (sp_BadValue K) := by
  refine T.F_BadValue.ok sc_BadValue (fun vs H Q E h => ?_) (fun cdv A outer s H vs Q E hr h => ⟨_, PSs.nox (pss_cons (ps_ost (pv 0) (pv 1)) (pss_one (ps_ost (pv 0) (pe_tup (pa_cons pe_str (pa_cons (pe_tup (pa_cons (pv 1) pa_nil)) pa_nil)))))), ?_⟩)
  · obtain ⟨_, _, rfl, _⟩ := h
    rfl
  · obtain ⟨a, n, rfl, ha, q⟩ := h
    simp only [tSeq, tAsg, tRet, tRetN, tDrop, tNext, tVar, tC, gName, tOp, tUn, rI, rI0, rU, tIfS, tTest, tB, tIf, tAnd, tOr, tNot, tAndV, tOrV, tNotV, tCall, tCons, tNil, tCB, tLst, tTup, tChain, CMul, CDiv, CPow, rEq, rNe, gSub, L2.start, LL.cxK0, LL.cxK1, List.map_cons, List.map_nil, List.length_cons, List.length_nil, List.replicate_succ, List.replicate_zero, List.cons_append, List.nil_append, List.append_nil, List.getElem?_cons_zero, List.getElem?_cons_succ, List.set_cons_zero, List.set_cons_succ, Nat.add_sub_cancel, Nat.reduceAdd, Nat.reduceSub, Option.some.injEq, V.int.injEq, V.bl.injEq, V.ref.injEq, V.str.injEq, List.cons.injEq, and_true, true_and, and_false, false_and, exists_eq_left, exists_eq_left', exists_and_left, exists_and_right, exists_eq, exists_eq', LL.if_dec, reduceCtorEq, exists_false, exists_const, or_false, false_or, if_true, if_false, LL.rInt1, LL.rMx, LL.rMn, and_assoc, Int.reduceNeg, Int.reduceLT, Int.reduceLE, Int.reduceMul, Int.reduceAdd, Int.reduceSub, Int.reducePow, Int.reduceToNat, Nat.reducePow, Nat.reduceLT, true_or, or_true, Bool.not_true, Bool.not_false, Bool.false_eq_true, Bool.or_false, Bool.or_true, Bool.true_or, Bool.false_or, decide_true, decide_false, not_true_eq_false, not_false_eq_true, LL.scal_int, LL.scal_bl, LL.scal_str, LL.isInt, LL.isBl, LL.isStr, LL.isLst, LL.isTup, LL.isDic, P_BadValue, tOst]
    refine ⟨_, T.x_BadValue, T.n_BadValue_parameter, .inl ⟨ha, fun dx hdx hne => ?_⟩⟩
    have e1 : upd (upd H dx (exd dx [("parameter", n)])) a (exo a (aBV K) (some dx)) a = some (exo a (aBV K) (some dx)) := upd_same
    have e2 : upd (upd H dx (exd dx [("parameter", n)])) a (exo a (aBV K) (some dx)) dx = some (exd dx [("parameter", n)]) := by rw [upd_ne hne, upd_same]
    have e3 : ∀ b o, b ≠ a → H b = some o → upd (upd H dx (exd dx [("parameter", n)])) a (exo a (aBV K) (some dx)) b = some o := fun b o hb e => by rw [upd_ne hb, upd_ne (ne_of_none e hdx)]; exact e
    have e4 : ∀ b, upd (upd H dx (exd dx [("parameter", n)])) a (exo a (aBV K) (some dx)) b = none → H b = none := fun b hb => by
      by_cases c : b = a
      · rw [c, upd_same] at hb; cases hb
      · rw [upd_ne c] at hb
        by_cases c2 : b = dx
        · rw [c2]; exact hdx
        · rw [upd_ne c2] at hb; exact hb
    generalize upd (upd H dx (exd dx [("parameter", n)])) a (exo a (aBV K) (some dx)) = H1 at e1 e2 e3 e4 ⊢
    refine ⟨by decide, ?_⟩
    intro p1 np1
    generalize hq : upd H1 p1 _ = H2
    have sH2 : Same H1 H2 := hq ▸ Same.new (Same.refl _) np1
    have ep1 := hq ▸ (upd_same (H := H1) (a := p1))
    clear hq
    replace e1 := sH2 _ _ e1
    replace e2 := sH2 _ _ e2
    refine ⟨by decide, ?_⟩
    intro p2 np2
    generalize hq : upd H2 p2 _ = H3
    have sH3 : Same H2 H3 := hq ▸ Same.new (Same.refl _) np2
    have ep2 := hq ▸ (upd_same (H := H2) (a := p2))
    clear hq
    replace e1 := sH3 _ _ e1
    replace e2 := sH3 _ _ e2
    replace ep1 := sH3 _ _ ep1
    refine ⟨_, T.x_BadValue, T.n_BadValue_told, .inr ⟨dx, e1, _, e2, by simp, ?_⟩⟩
    have f1 := e4 _ np1
    have f2 := e4 _ (sH2.free np2)
    have x1 : p1 ≠ dx := fun z => by rw [z, e2] at ep1; exact (show ¬ exd dx [("parameter", n)] = .tup [n] from exd_tup) (Option.some.inj ep1)
    have x2 : p2 ≠ dx := fun z => by rw [z, e2] at ep2; exact (show ¬ exd dx [("parameter", n)] = .tup [.str "BadValue", .ref p1] from exd_tup) (Option.some.inj ep2)
    refine q dx p1 p2 _ hdx hne (by rw [upd_ne hne.symm]; exact e1) upd_same (by rw [upd_ne x1]; exact ep1) (by rw [upd_ne x2]; exact ep2) f1 f2 (fun b o hb e => ?_)
    rw [upd_ne (ne_of_none e hdx)]
    exact sH3 _ _ (sH2 _ _ (e3 _ _ hb e))
/-- t is an integer within the range -/
def InR (lo hi : Int) : LL.T → Prop
  | .int i => lo ≤ i ∧ i ≤ hi
  | _ => False
instance (lo hi : Int) (t : LL.T) : Decidable (InR lo hi t) := by
  cases t <;> unfold InR <;> infer_instance
def sp_need_whole (K : PySem.W.Frag) : Sp := fun vs H Q E => ∃ (F : Addr → Prop) (v n : V) (t : LL.T) (lo hi : Int), vs = [v, .int lo, .int hi, n] ∧ Dt F H v t ∧ (InR lo hi t → Q .non H) ∧ (¬ InR lo hi t → ∀ d H', BadH H H' d n → E (.ref (aBV K)) (some d) H')

theorem ok_need_whole (T : Tx K mg) : FnOk P w K mg base (L2.CX P w) 3 (He.ga K "need_whole") T.fd_need_whole P_need_whole (sp_need_whole K) := by
  refine T.F_need_whole.ok sc_need_whole (fun vs H Q E h => ?_) (fun cdv A outer s H vs Q E hr h => ⟨_, (pss_one (ps_if (PW.pt (pw_or (pt_not (pt_val (pe_call (ok_is_whole T) (hr.mono (by decide)) rfl T.g_is_whole T.F_is_whole.kp (b_is_whole T) .nil pass0 (pa_cons (pv 0) pa_nil)))) (pw_or1 (pt_not (pt_chain op_le op_le (pv 1) (pv 0) (pv 2)))))) (pss_one (ps_raise rfl (takes_of rfl rfl rfl rfl) (pmk_oex T.x_BadValue T.i_BadValue T.t_BadValue (ok_BadValue T) hr (b_BadValue T) .nil pass0 rfl T.g_BadValue (pa_cons (pv 3) pa_nil)))) pss_nil)), ?_⟩)
  · obtain ⟨_, _, _, _, _, _, rfl, _⟩ := h
    rfl
  · obtain ⟨F, v, n, t, lo, hi, rfl, hd, q1, q2⟩ := h
    have bad : ¬ InR lo hi t → tMkO (aBV K) (sp_BadValue K) [] (tCons (tVar 3) tNil) [some v, some (.int lo), some (.int hi), some n] H (fun cls d H' => E cls d H') := by
      intro hb
      simp only [tMkO]
      simp only [tSeq, tAsg, tRet, tRetN, tDrop, tNext, tVar, tC, gName, tOp, tUn, rI, rI0, rU, tIfS, tTest, tB, tIf, tAnd, tOr, tNot, tAndV, tOrV, tNotV, tCall, tCons, tNil, tCB, tLst, tTup, tChain, CMul, CDiv, CPow, rEq, rNe, gSub, L2.start, LL.cxK0, LL.cxK1, List.map_cons, List.map_nil, List.length_cons, List.length_nil, List.replicate_succ, List.replicate_zero, List.cons_append, List.nil_append, List.append_nil, List.getElem?_cons_zero, List.getElem?_cons_succ, List.set_cons_zero, List.set_cons_succ, Nat.add_sub_cancel, Nat.reduceAdd, Nat.reduceSub, Option.some.injEq, V.int.injEq, V.bl.injEq, V.ref.injEq, V.str.injEq, List.cons.injEq, and_true, true_and, and_false, false_and, exists_eq_left, exists_eq_left', exists_and_left, exists_and_right, exists_eq, exists_eq', LL.if_dec, reduceCtorEq, exists_false, exists_const, or_false, false_or, if_true, if_false, LL.rInt1, LL.rMx, LL.rMn, and_assoc, Int.reduceNeg, Int.reduceLT, Int.reduceLE, Int.reduceMul, Int.reduceAdd, Int.reduceSub, Int.reducePow, Int.reduceToNat, Nat.reducePow, Nat.reduceLT, true_or, or_true, Bool.not_true, Bool.not_false, Bool.false_eq_true, Bool.or_false, Bool.or_true, Bool.true_or, Bool.false_or, decide_true, decide_false, not_true_eq_false, not_false_eq_true, LL.scal_int, LL.scal_bl, LL.scal_str, LL.isInt, LL.isBl, LL.isStr, LL.isLst, LL.isTup, LL.isDic]
      refine ⟨by decide, fun a na => ?_⟩
      refine ⟨a, n, rfl, upd_same, fun d p1 p2 H' hd hne e1 e2 e3 e4 f1 f2 k => ⟨rfl, d, e1, _, e2, ?_, ?_⟩⟩
      · rw [upd_ne hne] at hd; exact hd
      · have fd : H d = none := by rw [upd_ne hne] at hd; exact hd
        have na1 : p1 ≠ a := fun z => by rw [z, upd_same] at f1; cases f1
        have na2 : p2 ≠ a := fun z => by rw [z, upd_same] at f2; cases f2
        have nd1 : p1 ≠ d := fun z => by rw [z, e2] at e3; exact (show ¬ exd d [("told", V.ref p2), ("parameter", n)] = .tup [n] from exd_tup) (Option.some.inj e3)
        have nd2 : p2 ≠ d := fun z => by rw [z, e2] at e4; exact (show ¬ exd d [("told", V.ref p2), ("parameter", n)] = .tup [.str "BadValue", .ref p1] from exd_tup) (Option.some.inj e4)
        rw [upd_ne na1] at f1
        rw [upd_ne na2] at f2
        refine q2 hb d _ ⟨⟨p1, p2, upd_same, by rw [upd_ne nd1, del_ne na1]; exact e3, by rw [upd_ne nd2, del_ne na2]; exact e4, f1, f2⟩, fun b o e => ?_, fd⟩
        have nba : b ≠ a := ne_of_none e na
        rw [upd_ne (ne_of_none e fd), del_ne nba]
        exact k b o nba (by rw [upd_ne nba]; exact e)
    simp only [tSeq, tAsg, tRet, tRetN, tDrop, tNext, tVar, tC, gName, tOp, tUn, rI, rI0, rU, tIfS, tTest, tB, tIf, tAnd, tOr, tNot, tAndV, tOrV, tNotV, tCall, tCons, tNil, tCB, tLst, tTup, tChain, CMul, CDiv, CPow, rEq, rNe, gSub, L2.start, LL.cxK0, LL.cxK1, List.map_cons, List.map_nil, List.length_cons, List.length_nil, List.replicate_succ, List.replicate_zero, List.cons_append, List.nil_append, List.append_nil, List.getElem?_cons_zero, List.getElem?_cons_succ, List.set_cons_zero, List.set_cons_succ, Nat.add_sub_cancel, Nat.reduceAdd, Nat.reduceSub, Option.some.injEq, V.int.injEq, V.bl.injEq, V.ref.injEq, V.str.injEq, List.cons.injEq, and_true, true_and, and_false, false_and, exists_eq_left, exists_eq_left', exists_and_left, exists_and_right, exists_eq, exists_eq', LL.if_dec, reduceCtorEq, exists_false, exists_const, or_false, false_or, if_true, if_false, LL.rInt1, LL.rMx, LL.rMn, and_assoc, Int.reduceNeg, Int.reduceLT, Int.reduceLE, Int.reduceMul, Int.reduceAdd, Int.reduceSub, Int.reducePow, Int.reduceToNat, Nat.reducePow, Nat.reduceLT, true_or, or_true, Bool.not_true, Bool.not_false, Bool.false_eq_true, Bool.or_false, Bool.or_true, Bool.true_or, Bool.false_or, decide_true, decide_false, not_true_eq_false, not_false_eq_true, LL.scal_int, LL.scal_bl, LL.scal_str, LL.isInt, LL.isBl, LL.isStr, LL.isLst, LL.isTup, LL.isDic, N_need_whole]
    refine use_isint hd ?_
    cases t with
    | int i =>
      obtain rfl : v = .int i := hd
      simp only [tSeq, tAsg, tRet, tRetN, tDrop, tNext, tVar, tC, gName, tOp, tUn, rI, rI0, rU, tIfS, tTest, tB, tIf, tAnd, tOr, tNot, tAndV, tOrV, tNotV, tCall, tCons, tNil, tCB, tLst, tTup, tChain, CMul, CDiv, CPow, rEq, rNe, gSub, L2.start, LL.cxK0, LL.cxK1, List.map_cons, List.map_nil, List.length_cons, List.length_nil, List.replicate_succ, List.replicate_zero, List.cons_append, List.nil_append, List.append_nil, List.getElem?_cons_zero, List.getElem?_cons_succ, List.set_cons_zero, List.set_cons_succ, Nat.add_sub_cancel, Nat.reduceAdd, Nat.reduceSub, Option.some.injEq, V.int.injEq, V.bl.injEq, V.ref.injEq, V.str.injEq, List.cons.injEq, and_true, true_and, and_false, false_and, exists_eq_left, exists_eq_left', exists_and_left, exists_and_right, exists_eq, exists_eq', LL.if_dec, reduceCtorEq, exists_false, exists_const, or_false, false_or, if_true, if_false, LL.rInt1, LL.rMx, LL.rMn, and_assoc, Int.reduceNeg, Int.reduceLT, Int.reduceLE, Int.reduceMul, Int.reduceAdd, Int.reduceSub, Int.reducePow, Int.reduceToNat, Nat.reducePow, Nat.reduceLT, true_or, or_true, Bool.not_true, Bool.not_false, Bool.false_eq_true, Bool.or_false, Bool.or_true, Bool.true_or, Bool.false_or, decide_true, decide_false, not_true_eq_false, not_false_eq_true, LL.scal_int, LL.scal_bl, LL.scal_str, LL.isInt, LL.isBl, LL.isStr, LL.isLst, LL.isTup, LL.isDic]
      by_cases h1 : lo ≤ i
      · rw [if_pos h1]
        by_cases h2 : i ≤ hi
        · rw [if_neg (by simp [h2])]
          exact q1 ⟨h1, h2⟩
        · rw [if_pos (by simp [h2])]
          exact bad (fun z => h2 z.2)
      · rw [if_neg h1]
        exact bad (fun z => h1 z.1)
    | _ =>
      simp only [tSeq, tAsg, tRet, tRetN, tDrop, tNext, tVar, tC, gName, tOp, tUn, rI, rI0, rU, tIfS, tTest, tB, tIf, tAnd, tOr, tNot, tAndV, tOrV, tNotV, tCall, tCons, tNil, tCB, tLst, tTup, tChain, CMul, CDiv, CPow, rEq, rNe, gSub, L2.start, LL.cxK0, LL.cxK1, List.map_cons, List.map_nil, List.length_cons, List.length_nil, List.replicate_succ, List.replicate_zero, List.cons_append, List.nil_append, List.append_nil, List.getElem?_cons_zero, List.getElem?_cons_succ, List.set_cons_zero, List.set_cons_succ, Nat.add_sub_cancel, Nat.reduceAdd, Nat.reduceSub, Option.some.injEq, V.int.injEq, V.bl.injEq, V.ref.injEq, V.str.injEq, List.cons.injEq, and_true, true_and, and_false, false_and, exists_eq_left, exists_eq_left', exists_and_left, exists_and_right, exists_eq, exists_eq', LL.if_dec, reduceCtorEq, exists_false, exists_const, or_false, false_or, if_true, if_false, LL.rInt1, LL.rMx, LL.rMn, and_assoc, Int.reduceNeg, Int.reduceLT, Int.reduceLE, Int.reduceMul, Int.reduceAdd, Int.reduceSub, Int.reducePow, Int.reduceToNat, Nat.reducePow, Nat.reduceLT, true_or, or_true, Bool.not_true, Bool.not_false, Bool.false_eq_true, Bool.or_false, Bool.or_true, Bool.true_or, Bool.false_or, decide_true, decide_false, not_true_eq_false, not_false_eq_true, LL.scal_int, LL.scal_bl, LL.scal_str, LL.isInt, LL.isBl, LL.isStr, LL.isLst, LL.isTup, LL.isDic]
      exact bad (fun z => z)
def kindsT : LL.T := .lst [.bl true, .bl true, .bl true, .bl false, .bl false, .bl false, .bl false, .bl false, .bl false, .bl false]
def sp_law_kinds (K : PySem.W.Frag) : Addr → Addr → Addr → Sp := fun a D dd vs H Q _ => vs = [.ref a] ∧ D = aBV K ∧ (∃ fs, H dd = some (.xd fs)) ∧ ∀ r H', Same H H' → Dt (fun b => H b = none) H' r kindsT → Q r H'
theorem use_isX {K : PySem.W.Frag} {a D dd : Addr} {c : V} {cv : Value} {b : Bool} {fs : List (Str × V)} {H : Hp} {Q : VK} (hc : ClsV c cv) (hk : PySem.W.kitOne K (.ref D) cv = some b) (hd : H dd = some (.xd fs)) (q : Q (.bl b) H) : rIsX K a D dd [.ref a, c] H Q := ⟨c, cv, b, fs, rfl, hc, hk, hd, q⟩

theorem ok_law_kinds (T : Tx K mg) : FnZ P w K mg base 1 (He.ga K "_law_kinds") T.fd_law_kinds P_law_kinds (sp_law_kinds K) := by
  refine okZ T.F_law_kinds sc_law_kinds (fun a D dd vs H Q E h => ?_) (fun cdv A outer s H vs Q E p D dd hr hz hf h => ?_)
  · obtain ⟨rfl, _⟩ := h
    rfl
  obtain ⟨rfl, rfl, ⟨fs, hd⟩, q⟩ := h
  refine ⟨_, (pss_one (ps_ret (pe_lst (pa_cons (pe_callB (call_isX (p := p) (D := aBV K) (dd := dd) List.mem_cons_self T.d_BadValue hz hf) (by rfl) T.z_isinstance (by decide +kernel) (pa_cons (pv 0) (pa_cons (pe_glob (v := .ref (He.ga K "StoreError")) (u := .ref (He.ga K "StoreError")) rfl T.g_StoreError rfl) pa_nil))) (pa_cons (pe_callB (call_isX (p := p) (D := aBV K) (dd := dd) List.mem_cons_self T.d_BadValue hz hf) (by rfl) T.z_isinstance (by decide +kernel) (pa_cons (pv 0) (pa_cons (pe_bltn (v := .ty "ValueError") (u := .type "ValueError") (by rfl) T.z_ValueError (by decide +kernel) rfl) pa_nil))) (pa_cons (pe_callB (call_isX (p := p) (D := aBV K) (dd := dd) List.mem_cons_self T.d_BadValue hz hf) (by rfl) T.z_isinstance (by decide +kernel) (pa_cons (pv 0) (pa_cons (pe_glob (v := .ref (He.ga K "BadValue")) (u := .ref (He.ga K "BadValue")) rfl T.g_BadValue rfl) pa_nil))) (pa_cons (pe_callB (call_isX (p := p) (D := aBV K) (dd := dd) List.mem_cons_self T.d_BadValue hz hf) (by rfl) T.z_isinstance (by decide +kernel) (pa_cons (pv 0) (pa_cons (pe_glob (v := .ref (He.ga K "Broken")) (u := .ref (He.ga K "Broken")) rfl T.g_Broken rfl) pa_nil))) (pa_cons (pe_callB (call_isX (p := p) (D := aBV K) (dd := dd) List.mem_cons_self T.d_BadValue hz hf) (by rfl) T.z_isinstance (by decide +kernel) (pa_cons (pv 0) (pa_cons (pe_glob (v := .ref (He.ga K "Unknown")) (u := .ref (He.ga K "Unknown")) rfl T.g_Unknown rfl) pa_nil))) (pa_cons (pe_callB (call_isX (p := p) (D := aBV K) (dd := dd) List.mem_cons_self T.d_BadValue hz hf) (by rfl) T.z_isinstance (by decide +kernel) (pa_cons (pv 0) (pa_cons (pe_glob (v := .ref (He.ga K "NotHeld")) (u := .ref (He.ga K "NotHeld")) rfl T.g_NotHeld rfl) pa_nil))) (pa_cons (pe_callB (call_isX (p := p) (D := aBV K) (dd := dd) List.mem_cons_self T.d_BadValue hz hf) (by rfl) T.z_isinstance (by decide +kernel) (pa_cons (pv 0) (pa_cons (pe_glob (v := .ref (He.ga K "Fault")) (u := .ref (He.ga K "Fault")) rfl T.g_Fault rfl) pa_nil))) (pa_cons (pe_callB (call_isX (p := p) (D := aBV K) (dd := dd) List.mem_cons_self T.d_BadValue hz hf) (by rfl) T.z_isinstance (by decide +kernel) (pa_cons (pv 0) (pa_cons (pe_glob (v := .ref (He.ga K "NoRoom")) (u := .ref (He.ga K "NoRoom")) rfl T.g_NoRoom rfl) pa_nil))) (pa_cons (pe_callB (call_isX (p := p) (D := aBV K) (dd := dd) List.mem_cons_self T.d_BadValue hz hf) (by rfl) T.z_isinstance (by decide +kernel) (pa_cons (pv 0) (pa_cons (pe_glob (v := .ref (He.ga K "Cut")) (u := .ref (He.ga K "Cut")) rfl T.g_Cut rfl) pa_nil))) (pa_cons (pe_callB (call_isX (p := p) (D := aBV K) (dd := dd) List.mem_cons_self T.d_BadValue hz hf) (by rfl) T.z_isinstance (by decide +kernel) (pa_cons (pv 0) (pa_cons (pe_glob (v := .ref (He.ga K "BadLine")) (u := .ref (He.ga K "BadLine")) rfl T.g_BadLine rfl) pa_nil))) pa_nil))))))))))))), ?_⟩
  simp only [tSeq, tAsg, tRet, tRetN, tDrop, tNext, tVar, tC, gName, tOp, tUn, rI, rI0, rU, tIfS, tTest, tB, tIf, tAnd, tOr, tNot, tAndV, tOrV, tNotV, tCall, tCons, tNil, tCB, tLst, tTup, tChain, CMul, CDiv, CPow, rEq, rNe, gSub, L2.start, LL.cxK0, LL.cxK1, List.map_cons, List.map_nil, List.length_cons, List.length_nil, List.replicate_succ, List.replicate_zero, List.cons_append, List.nil_append, List.append_nil, List.getElem?_cons_zero, List.getElem?_cons_succ, List.set_cons_zero, List.set_cons_succ, Nat.add_sub_cancel, Nat.reduceAdd, Nat.reduceSub, Option.some.injEq, V.int.injEq, V.bl.injEq, V.ref.injEq, V.str.injEq, List.cons.injEq, and_true, true_and, and_false, false_and, exists_eq_left, exists_eq_left', exists_and_left, exists_and_right, exists_eq, exists_eq', LL.if_dec, reduceCtorEq, exists_false, exists_const, or_false, false_or, if_true, if_false, LL.rInt1, LL.rMx, LL.rMn, and_assoc, Int.reduceNeg, Int.reduceLT, Int.reduceLE, Int.reduceMul, Int.reduceAdd, Int.reduceSub, Int.reducePow, Int.reduceToNat, Nat.reducePow, Nat.reduceLT, true_or, or_true, Bool.not_true, Bool.not_false, Bool.false_eq_true, Bool.or_false, Bool.or_true, Bool.true_or, Bool.false_or, decide_true, decide_false, not_true_eq_false, not_false_eq_true, LL.scal_int, LL.scal_bl, LL.scal_str, LL.isInt, LL.isBl, LL.isStr, LL.isLst, LL.isTup, LL.isDic, N_law_kinds]
  refine use_isX (.own _) T.k_StoreError hd (use_isX (.ty _) T.k_ValueError hd (use_isX (.own _) T.k_BadValue hd (use_isX (.own _) T.k_Broken hd (use_isX (.own _) T.k_Unknown hd (use_isX (.own _) T.k_NotHeld hd (use_isX (.own _) T.k_Fault hd (use_isX (.own _) T.k_NoRoom hd (use_isX (.own _) T.k_Cut hd (use_isX (.own _) T.k_BadLine hd ?_)))))))))
  refine ⟨by decide, ?_⟩
  intro p5 np5
  generalize hq : upd H p5 _ = H5
  have sH5 : Same H H5 := hq ▸ Same.new (Same.refl _) np5
  have ep5 := hq ▸ (upd_same (H := H) (a := p5))
  clear hq
  have bt : ∀ z : Bool, Dt (fun b => H b = none) H5 (.bl z) (.bl z) := fun z => rfl
  exact q _ _ sH5 ⟨p5, _, rfl, np5, ep5, .cons (bt _) (.cons (bt _) (.cons (bt _) (.cons (bt _) (.cons (bt _) (.cons (bt _) (.cons (bt _) (.cons (bt _) (.cons (bt _) (.one (bt _)))))))))), by simp⟩
end K00

namespace K00
open PySem PySem.Spec PyProof.Rows L2 LL
variable {P : Program} {w : World} {K : PySem.W.Frag} {mg : Str → Option Value} {base : Heap}

/-- no integer of more than 3400 bits -/
def Fit : LL.T → Prop
  | .int i => i.natAbs < 2 ^ 3400
  | _ => True
theorem fit_small {i : Int} (h0 : -10000000000000000000000000000000000000000 ≤ i) (h : i ≤ 10000000000000000000000000000000000000000) : i.natAbs < 2 ^ 3400 := Nat.lt_of_le_of_lt (show i.natAbs ≤ 10000000000000000000000000000000000000000 by omega) (by decide +kernel)
theorem fit_long {v : Int} (h0 : 0 ≤ v) (h : v < 10000000000000000000000000000000000000000000000000000000000000000 ∨ v = 0) : ((10 : Int) ^ 999 + v).natAbs < 2 ^ 3400 := by
  have e : (10 : Int) ^ 999 = ((10 ^ 999 : Nat) : Int) := (Int.natCast_pow 10 999).symm
  rw [e]
  generalize hx : (10 ^ 999 : Nat) = x
  refine Nat.lt_of_le_of_lt (show ((x : Int) + v).natAbs ≤ x + 10000000000000000000000000000000000000000000000000000000000000000 by omega) ?_
  rw [← hx]
  decide +kernel

def sp_law_integer : Sp := fun vs H Q _ => ∃ (d s : Addr), vs = [.ref d] ∧ Drw d s H ∧ ∀ (i : Int) H', Aft d s H H' → Drw d s H' → i.natAbs < 2 ^ 3400 → Q (.int i) H'

theorem ok_law_integer (T : Tx K mg) : FnOk P w K mg base CX0 3 (He.ga K "_law_integer") T.fd_law_integer P_law_integer sp_law_integer := by
  refine T.F_law_integer.ok sc_law_integer (fun vs H Q E h => ?_) (fun cdv A outer s H vs Q E hr h => ⟨_, PSs.nox (pss_cons (ps_set (i := 1) sc_law_integer.nd rfl (Or.inl rfl) (pe_call (ok_law_take T) hr rfl T.g_law_take T.F_law_take.kp (b_law_take T) .nil pass0 (pa_cons (pv 0) (pa_cons (pe_int) pa_nil)))) (pss_cons (ps_if (pt_cmpR op_lt (pv 1) (pe_int) (nomark _)) (pss_one (ps_ret (pe_op op_sub (pe_call (ok_law_take T) hr rfl T.g_law_take T.F_law_take.kp (b_law_take T) .nil pass0 (pa_cons (pv 0) (pa_cons (pe_int) pa_nil))) (pe_int)))) pss_nil) (pss_cons (ps_if (pt_cmpR op_eq (pv 1) (pe_int) (nomark _)) (pss_one (ps_ret (pe_call (ok_law_take T) hr rfl T.g_law_take T.F_law_take.kp (b_law_take T) .nil pass0 (pa_cons (pv 0) (pa_cons (pe_int) pa_nil))))) pss_nil) (pss_cons (ps_if (pt_cmpR op_eq (pv 1) (pe_int) (nomark _)) (pss_one (ps_ret (pe_call (ok_law_take T) hr rfl T.g_law_take T.F_law_take.kp (b_law_take T) .nil pass0 (pa_cons (pv 0) (pa_cons (pe_op op_add (pe_op op_pow (pe_int) (pe_int)) (pe_int)) pa_nil))))) pss_nil) (pss_cons (ps_set (i := 2) sc_law_integer.nd rfl (Or.inl rfl) (pe_op op_add (pe_op op_pow (pe_int) (pe_int)) (pe_call (ok_law_take T) hr rfl T.g_law_take T.F_law_take.kp (b_law_take T) .nil pass0 (pa_cons (pv 0) (pa_cons (pe_op op_pow (pe_int) (pe_int)) pa_nil))))) (pss_cons (ps_if (pt_cmpR op_eq (pv 1) (pe_int) (nomark _)) (pss_one (ps_set (i := 2) sc_law_integer.nd rfl (Or.inl rfl) (pe_op op_add (pe_call0 (ok_law_long T) (hr.mono (by decide)) rfl T.g_law_long T.F_law_long.kp (b_law_long T) .nil pass0) (pe_call (ok_law_take T) hr rfl T.g_law_take T.F_law_take.kp (b_law_take T) .nil pass0 (pa_cons (pv 0) (pa_cons (pe_op op_pow (pe_int) (pe_int)) pa_nil)))))) pss_nil) (pss_cons (ps_if (pt_cmpR op_eq (pe_call (ok_law_take T) hr rfl T.g_law_take T.F_law_take.kp (b_law_take T) .nil pass0 (pa_cons (pv 0) (pa_cons (pe_int) pa_nil))) (pe_int) (nomark _)) (pss_one (ps_ret (pe_un un_neg (pv 2)))) pss_nil) (pss_one (ps_ret (pv 2)))))))))), ?_⟩)
  · obtain ⟨_, _, rfl, _⟩ := h
    rfl
  · obtain ⟨d, s, rfl, D, q⟩ := h
    simp only [tSeq, tAsg, tRet, tRetN, tDrop, tNext, tVar, tC, gName, tOp, tUn, rI, rI0, rU, tIfS, tTest, tB, tIf, tAnd, tOr, tNot, tAndV, tOrV, tNotV, tCall, tCons, tNil, tCB, tLst, tTup, tChain, CMul, CDiv, CPow, rEq, rNe, gSub, L2.start, LL.cxK0, LL.cxK1, List.map_cons, List.map_nil, List.length_cons, List.length_nil, List.replicate_succ, List.replicate_zero, List.cons_append, List.nil_append, List.append_nil, List.getElem?_cons_zero, List.getElem?_cons_succ, List.set_cons_zero, List.set_cons_succ, Nat.add_sub_cancel, Nat.reduceAdd, Nat.reduceSub, Option.some.injEq, V.int.injEq, V.bl.injEq, V.ref.injEq, V.str.injEq, List.cons.injEq, and_true, true_and, and_false, false_and, exists_eq_left, exists_eq_left', exists_and_left, exists_and_right, exists_eq, exists_eq', LL.if_dec, reduceCtorEq, exists_false, exists_const, or_false, false_or, if_true, if_false, LL.rInt1, LL.rMx, LL.rMn, and_assoc, Int.reduceNeg, Int.reduceLT, Int.reduceLE, Int.reduceMul, Int.reduceAdd, Int.reduceSub, Int.reducePow, Int.reduceToNat, Nat.reducePow, Nat.reduceLT, true_or, or_true, Bool.not_true, Bool.not_false, Bool.false_eq_true, Bool.or_false, Bool.or_true, Bool.true_or, Bool.false_or, decide_true, decide_false, not_true_eq_false, not_false_eq_true, LL.scal_int, LL.scal_bl, LL.scal_str, LL.isInt, LL.isBl, LL.isStr, LL.isLst, LL.isTup, LL.isDic, N_law_integer]
    refine use_take D (by decide +kernel) fun v H' a D' v0 v1 => ?_
    simp only [tSeq, tAsg, tRet, tRetN, tDrop, tNext, tVar, tC, gName, tOp, tUn, rI, rI0, rU, tIfS, tTest, tB, tIf, tAnd, tOr, tNot, tAndV, tOrV, tNotV, tCall, tCons, tNil, tCB, tLst, tTup, tChain, CMul, CDiv, CPow, rEq, rNe, gSub, L2.start, LL.cxK0, LL.cxK1, List.map_cons, List.map_nil, List.length_cons, List.length_nil, List.replicate_succ, List.replicate_zero, List.cons_append, List.nil_append, List.append_nil, List.getElem?_cons_zero, List.getElem?_cons_succ, List.set_cons_zero, List.set_cons_succ, Nat.add_sub_cancel, Nat.reduceAdd, Nat.reduceSub, Option.some.injEq, V.int.injEq, V.bl.injEq, V.ref.injEq, V.str.injEq, List.cons.injEq, and_true, true_and, and_false, false_and, exists_eq_left, exists_eq_left', exists_and_left, exists_and_right, exists_eq, exists_eq', LL.if_dec, reduceCtorEq, exists_false, exists_const, or_false, false_or, if_true, if_false, LL.rInt1, LL.rMx, LL.rMn, and_assoc, Int.reduceNeg, Int.reduceLT, Int.reduceLE, Int.reduceMul, Int.reduceAdd, Int.reduceSub, Int.reducePow, Int.reduceToNat, Nat.reducePow, Nat.reduceLT, true_or, or_true, Bool.not_true, Bool.not_false, Bool.false_eq_true, Bool.or_false, Bool.or_true, Bool.true_or, Bool.false_or, decide_true, decide_false, not_true_eq_false, not_false_eq_true, LL.scal_int, LL.scal_bl, LL.scal_str, LL.isInt, LL.isBl, LL.isStr, LL.isLst, LL.isTup, LL.isDic]
    split
    · refine use_take D' (by decide +kernel) fun v2 H2 a2 D2 h4 h5 => ?_
      simp only [tSeq, tAsg, tRet, tRetN, tDrop, tNext, tVar, tC, gName, tOp, tUn, rI, rI0, rU, tIfS, tTest, tB, tIf, tAnd, tOr, tNot, tAndV, tOrV, tNotV, tCall, tCons, tNil, tCB, tLst, tTup, tChain, CMul, CDiv, CPow, rEq, rNe, gSub, L2.start, LL.cxK0, LL.cxK1, List.map_cons, List.map_nil, List.length_cons, List.length_nil, List.replicate_succ, List.replicate_zero, List.cons_append, List.nil_append, List.append_nil, List.getElem?_cons_zero, List.getElem?_cons_succ, List.set_cons_zero, List.set_cons_succ, Nat.add_sub_cancel, Nat.reduceAdd, Nat.reduceSub, Option.some.injEq, V.int.injEq, V.bl.injEq, V.ref.injEq, V.str.injEq, List.cons.injEq, and_true, true_and, and_false, false_and, exists_eq_left, exists_eq_left', exists_and_left, exists_and_right, exists_eq, exists_eq', LL.if_dec, reduceCtorEq, exists_false, exists_const, or_false, false_or, if_true, if_false, LL.rInt1, LL.rMx, LL.rMn, and_assoc, Int.reduceNeg, Int.reduceLT, Int.reduceLE, Int.reduceMul, Int.reduceAdd, Int.reduceSub, Int.reducePow, Int.reduceToNat, Nat.reducePow, Nat.reduceLT, true_or, or_true, Bool.not_true, Bool.not_false, Bool.false_eq_true, Bool.or_false, Bool.or_true, Bool.true_or, Bool.false_or, decide_true, decide_false, not_true_eq_false, not_false_eq_true, LL.scal_int, LL.scal_bl, LL.scal_str, LL.isInt, LL.isBl, LL.isStr, LL.isLst, LL.isTup, LL.isDic]
      exact q _ _ (a.trans a2) D2 (fit_small (by omega) (by omega))
    · split
      · exact use_take D' (by decide +kernel) fun v2 H2 a2 D2 h4 h5 => q _ _ (a.trans a2) D2 (fit_small (by omega) (by omega))
      · split
        · exact ⟨by decide, use_take D' (by decide +kernel) fun v2 H2 a2 D2 h4 h5 => q _ _ (a.trans a2) D2 (fit_small (by omega) (by omega))⟩
        · refine ⟨by decide, by decide, use_take D' (by decide +kernel) fun v2 H2 a2 D2 h4 h5 => ⟨_, rfl, ?_⟩⟩
          have A2 := a.trans a2
          split
          · refine ⟨rfl, by decide, use_take D2 (by decide +kernel) fun v3 H3 a3 D3 h6 h7 => ⟨_, rfl, _, rfl, use_take D3 (by decide +kernel) fun v4 H4 a4 D4 h8 h9 => ⟨scal_int.mpr trivial, ?_⟩⟩⟩
            split
            · exact q _ _ ((A2.trans a3).trans a4) D4 (by first | exact fit_long h6 h7 | (rw [Int.natAbs_neg]; exact fit_long h6 h7))
            · exact q _ _ ((A2.trans a3).trans a4) D4 (by first | exact fit_long h6 h7 | (rw [Int.natAbs_neg]; exact fit_long h6 h7))
          · refine use_take D2 (by decide +kernel) fun v3 H3 a3 D3 h6 h7 => ⟨scal_int.mpr trivial, ?_⟩
            split
            · exact q _ _ (A2.trans a3) D3 (fit_small (by omega) (by omega))
            · exact q _ _ (A2.trans a3) D3 (fit_small (by omega) (by omega))
def sp_law_chars : Sp := fun vs H Q _ => vs = [] ∧ ∀ z : Str, z.length = 95 → Q (.str z) H
def sp_law_text : Sp := fun vs H Q _ => ∃ (d s : Addr), vs = [.ref d, .int 4] ∧ Drw d s H ∧ ∀ (z : Str) H', Aft d s H H' → Drw d s H' → Q (.str z) H'

theorem ok_law_chars (T : Tx K mg) : FnOk P w K mg base CX0 1 (He.ga K "_law_chars") T.fd_law_chars P_law_chars sp_law_chars := by
  refine T.F_law_chars.ok sc_law_chars (fun vs H Q E h => ?_) (fun cdv A outer s H vs Q E hr h => ⟨_, PSs.nox (pss_cons (ps_set (i := 0) sc_law_chars.nd rfl (Or.inl rfl) (pe_str)) (pss_one (ps_ret (pe_op op_add_str (pv 0) (pe_str))))), ?_⟩)
  · obtain ⟨rfl, _⟩ := h
    rfl
  · obtain ⟨rfl, q⟩ := h
    simp only [tSeq, tAsg, tRet, tRetN, tDrop, tNext, tVar, tC, gName, tOp, tUn, rI, rI0, rU, tIfS, tTest, tB, tIf, tAnd, tOr, tNot, tAndV, tOrV, tNotV, tCall, tCons, tNil, tCB, tLst, tTup, tChain, CMul, CDiv, CPow, rEq, rNe, gSub, L2.start, LL.cxK0, LL.cxK1, List.map_cons, List.map_nil, List.length_cons, List.length_nil, List.replicate_succ, List.replicate_zero, List.cons_append, List.nil_append, List.append_nil, List.getElem?_cons_zero, List.getElem?_cons_succ, List.set_cons_zero, List.set_cons_succ, Nat.add_sub_cancel, Nat.reduceAdd, Nat.reduceSub, Option.some.injEq, V.int.injEq, V.bl.injEq, V.ref.injEq, V.str.injEq, List.cons.injEq, and_true, true_and, and_false, false_and, exists_eq_left, exists_eq_left', exists_and_left, exists_and_right, exists_eq, exists_eq', LL.if_dec, reduceCtorEq, exists_false, exists_const, or_false, false_or, if_true, if_false, LL.rInt1, LL.rMx, LL.rMn, and_assoc, Int.reduceNeg, Int.reduceLT, Int.reduceLE, Int.reduceMul, Int.reduceAdd, Int.reduceSub, Int.reducePow, Int.reduceToNat, Nat.reducePow, Nat.reduceLT, true_or, or_true, Bool.not_true, Bool.not_false, Bool.false_eq_true, Bool.or_false, Bool.or_true, Bool.true_or, Bool.false_or, decide_true, decide_false, not_true_eq_false, not_false_eq_true, LL.scal_int, LL.scal_bl, LL.scal_str, LL.isInt, LL.isBl, LL.isStr, LL.isLst, LL.isTup, LL.isDic, N_law_chars]
    refine ⟨by decide +kernel, q _ (by decide +kernel)⟩
theorem ok_law_text (T : Tx K mg) : FnOk P w K mg base CX0 4 (He.ga K "_law_text") T.fd_law_text P_law_text sp_law_text := by
  refine T.F_law_text.ok sc_law_text (fun vs H Q E h => ?_) (fun cdv A outer s H vs Q E hr h => ⟨_, PSs.nox (pss_cons (ps_set (i := 2) sc_law_text.nd rfl (Or.inr rfl) (pe_call0 (ok_law_chars T) (hr.mono (by decide)) rfl T.g_law_chars T.F_law_chars.kp (b_law_chars T) .nil pass0)) (pss_one (ps_ret (pe_join (pe_str) (pe_lc (own := [("_law_k", 3)]) (by rfl) sc_law_text.nd (pi_range1 rfl T.z_range (pa_cons (pe_call (ok_law_between T) hr rfl T.g_law_between T.F_law_between.kp (b_law_between T) .nil pass0 (pa_cons (pv 0) (pa_cons (pe_int) (pa_cons (pv 1) pa_nil)))) pa_nil)) (blkOk_by (N := N_law_text) (sc := defScope s_law_text) (by decide +kernel)) (fun _ _ _ _ _ => (pg_name (i := 3) sc_law_text.nd rfl (Or.inl rfl))) (fun _ _ _ _ _ => pts_nil) (fun _ _ _ _ _ => (pe_ix ix_str (pv 2) (pe_call (ok_law_take T) (hr.mono (by decide)) rfl T.g_law_take T.F_law_take.kp (b_law_take T) .nil pass0 (pa_cons (pv 0) (pa_cons (pe_int) pa_nil))) (fun _ _ => rfl)))))))), ?_⟩)
  · obtain ⟨_, _, rfl, _⟩ := h
    rfl
  · obtain ⟨d, s, rfl, D, q⟩ := h
    simp only [tSeq, tAsg, tRet, tRetN, tDrop, tNext, tVar, tC, gName, tOp, tUn, rI, rI0, rU, tIfS, tTest, tB, tIf, tAnd, tOr, tNot, tAndV, tOrV, tNotV, tCall, tCons, tNil, tCB, tLst, tTup, tChain, CMul, CDiv, CPow, rEq, rNe, gSub, L2.start, LL.cxK0, LL.cxK1, List.map_cons, List.map_nil, List.length_cons, List.length_nil, List.replicate_succ, List.replicate_zero, List.cons_append, List.nil_append, List.append_nil, List.getElem?_cons_zero, List.getElem?_cons_succ, List.set_cons_zero, List.set_cons_succ, Nat.add_sub_cancel, Nat.reduceAdd, Nat.reduceSub, Option.some.injEq, V.int.injEq, V.bl.injEq, V.ref.injEq, V.str.injEq, List.cons.injEq, and_true, true_and, and_false, false_and, exists_eq_left, exists_eq_left', exists_and_left, exists_and_right, exists_eq, exists_eq', LL.if_dec, reduceCtorEq, exists_false, exists_const, or_false, false_or, if_true, if_false, LL.rInt1, LL.rMx, LL.rMn, and_assoc, Int.reduceNeg, Int.reduceLT, Int.reduceLE, Int.reduceMul, Int.reduceAdd, Int.reduceSub, Int.reducePow, Int.reduceToNat, Nat.reducePow, Nat.reduceLT, true_or, or_true, Bool.not_true, Bool.not_false, Bool.false_eq_true, Bool.or_false, Bool.or_true, Bool.true_or, Bool.false_or, decide_true, decide_false, not_true_eq_false, not_false_eq_true, LL.scal_int, LL.scal_bl, LL.scal_str, LL.isInt, LL.isBl, LL.isStr, LL.isLst, LL.isTup, LL.isDic, N_law_text]
    refine ⟨rfl, fun z hz => ?_⟩
    simp only [tM1]
    simp only [tSeq, tAsg, tRet, tRetN, tDrop, tNext, tVar, tC, gName, tOp, tUn, rI, rI0, rU, tIfS, tTest, tB, tIf, tAnd, tOr, tNot, tAndV, tOrV, tNotV, tCall, tCons, tNil, tCB, tLst, tTup, tChain, CMul, CDiv, CPow, rEq, rNe, gSub, L2.start, LL.cxK0, LL.cxK1, List.map_cons, List.map_nil, List.length_cons, List.length_nil, List.replicate_succ, List.replicate_zero, List.cons_append, List.nil_append, List.append_nil, List.getElem?_cons_zero, List.getElem?_cons_succ, List.set_cons_zero, List.set_cons_succ, Nat.add_sub_cancel, Nat.reduceAdd, Nat.reduceSub, Option.some.injEq, V.int.injEq, V.bl.injEq, V.ref.injEq, V.str.injEq, List.cons.injEq, and_true, true_and, and_false, false_and, exists_eq_left, exists_eq_left', exists_and_left, exists_and_right, exists_eq, exists_eq', LL.if_dec, reduceCtorEq, exists_false, exists_const, or_false, false_or, if_true, if_false, LL.rInt1, LL.rMx, LL.rMn, and_assoc, Int.reduceNeg, Int.reduceLT, Int.reduceLE, Int.reduceMul, Int.reduceAdd, Int.reduceSub, Int.reducePow, Int.reduceToNat, Nat.reducePow, Nat.reduceLT, true_or, or_true, Bool.not_true, Bool.not_false, Bool.false_eq_true, Bool.or_false, Bool.or_true, Bool.true_or, Bool.false_or, decide_true, decide_false, not_true_eq_false, not_false_eq_true, LL.scal_int, LL.scal_bl, LL.scal_str, LL.isInt, LL.isBl, LL.isStr, LL.isLst, LL.isTup, LL.isDic]
    refine use_lcR (R := fun j H' => Aft d s H H' ∧ Drw d s H' ∧ 0 ≤ j ∧ j ≤ 4) (fun Q hQ => ?_) (fun j H' h => ⟨by omega, by omega⟩)
      (fun j D i H' => Aft d s H H' ∧ j ≤ 4 ∧ 0 ≤ j ∧ i ≤ j.toNat ∧ H D = none ∧ ∃ ys : List Str, H' D = some (.lst (ys.map V.str)) ∧ ys.length = i ∧ (ys.map (·.length)).sum = i) ?_ ?_ ?_
    · simp only [tSeq, tAsg, tRet, tRetN, tDrop, tNext, tVar, tC, gName, tOp, tUn, rI, rI0, rU, tIfS, tTest, tB, tIf, tAnd, tOr, tNot, tAndV, tOrV, tNotV, tCall, tCons, tNil, tCB, tLst, tTup, tChain, CMul, CDiv, CPow, rEq, rNe, gSub, L2.start, LL.cxK0, LL.cxK1, List.map_cons, List.map_nil, List.length_cons, List.length_nil, List.replicate_succ, List.replicate_zero, List.cons_append, List.nil_append, List.append_nil, List.getElem?_cons_zero, List.getElem?_cons_succ, List.set_cons_zero, List.set_cons_succ, Nat.add_sub_cancel, Nat.reduceAdd, Nat.reduceSub, Option.some.injEq, V.int.injEq, V.bl.injEq, V.ref.injEq, V.str.injEq, List.cons.injEq, and_true, true_and, and_false, false_and, exists_eq_left, exists_eq_left', exists_and_left, exists_and_right, exists_eq, exists_eq', LL.if_dec, reduceCtorEq, exists_false, exists_const, or_false, false_or, if_true, if_false, LL.rInt1, LL.rMx, LL.rMn, and_assoc, Int.reduceNeg, Int.reduceLT, Int.reduceLE, Int.reduceMul, Int.reduceAdd, Int.reduceSub, Int.reducePow, Int.reduceToNat, Nat.reducePow, Nat.reduceLT, true_or, or_true, Bool.not_true, Bool.not_false, Bool.false_eq_true, Bool.or_false, Bool.or_true, Bool.true_or, Bool.false_or, decide_true, decide_false, not_true_eq_false, not_false_eq_true, LL.scal_int, LL.scal_bl, LL.scal_str, LL.isInt, LL.isBl, LL.isStr, LL.isLst, LL.isTup, LL.isDic]
      exact use_between D (big_of (by omega) (by omega)) fun v H' a D' h2 h3 => hQ _ _ ⟨a, D', h2, by omega⟩
    · rintro j H' L ⟨a, D', j0, j4⟩ hL
      exact ⟨a.new hL, j4, j0, Nat.zero_le _, a.free hL, [], upd_same, rfl, rfl⟩
    · rintro j L i H' hi ⟨a, j4, j0, hij, hL, ys, eL, hy1, hy2⟩
      simp only [tSeq, tAsg, tRet, tRetN, tDrop, tNext, tVar, tC, gName, tOp, tUn, rI, rI0, rU, tIfS, tTest, tB, tIf, tAnd, tOr, tNot, tAndV, tOrV, tNotV, tCall, tCons, tNil, tCB, tLst, tTup, tChain, CMul, CDiv, CPow, rEq, rNe, gSub, L2.start, LL.cxK0, LL.cxK1, List.map_cons, List.map_nil, List.length_cons, List.length_nil, List.replicate_succ, List.replicate_zero, List.cons_append, List.nil_append, List.append_nil, List.getElem?_cons_zero, List.getElem?_cons_succ, List.set_cons_zero, List.set_cons_succ, Nat.add_sub_cancel, Nat.reduceAdd, Nat.reduceSub, Option.some.injEq, V.int.injEq, V.bl.injEq, V.ref.injEq, V.str.injEq, List.cons.injEq, and_true, true_and, and_false, false_and, exists_eq_left, exists_eq_left', exists_and_left, exists_and_right, exists_eq, exists_eq', LL.if_dec, reduceCtorEq, exists_false, exists_const, or_false, false_or, if_true, if_false, LL.rInt1, LL.rMx, LL.rMn, and_assoc, Int.reduceNeg, Int.reduceLT, Int.reduceLE, Int.reduceMul, Int.reduceAdd, Int.reduceSub, Int.reducePow, Int.reduceToNat, Nat.reducePow, Nat.reduceLT, true_or, or_true, Bool.not_true, Bool.not_false, Bool.false_eq_true, Bool.or_false, Bool.or_true, Bool.true_or, Bool.false_or, decide_true, decide_false, not_true_eq_false, not_false_eq_true, LL.scal_int, LL.scal_bl, LL.scal_str, LL.isInt, LL.isBl, LL.isStr, LL.isLst, LL.isTup, LL.isDic, tYes, wipe, List.foldl_cons, List.foldl_nil]
      refine use_take a.dr (by decide +kernel) fun v H2 a2 D2 h4 h5 => ?_
      have hv : v.toNat < z.cps.toList.length := by
        have : z.cps.toList.length = 95 := by rw [← hz]; simp [Str.length]
        omega
      have ev : atI z.cps.toList v = some z.cps.toList[v.toNat] := by
        have h := atI_nat (List.getElem?_eq_getElem hv)
        rw [Int.toNat_of_nonneg h4] at h
        exact h
      refine ⟨z, v, _, rfl, rfl, by rw [hz]; decide, ev, ?_⟩
      have eL2 := a2.kp _ _ (D.ne _ hL) eL
      refine ⟨_, eL2, small_sz (by rw [List.length_map]; omega), Aft.own D (a.trans a2) hL, j4, j0, by omega, hL, ys ++ [⟨#[z.cps.toList[v.toNat]]⟩], ?_, ?_, ?_⟩
      · rw [upd_same, List.map_append]
        rfl
      · rw [List.length_append, hy1]
        rfl
      · rw [List.map_append, List.sum_append, hy2]
        rfl
    · rintro j L H' ⟨a, j4, j0, hij, hL, ys, eL, hy1, hy2⟩
      refine ⟨_, rfl, ys, .inl (SqL.of eL), ?_, q _ _ a a.dr⟩
      rw [hy2, hy1]
      rw [show (Str.ofString "").length = 0 by decide +kernel, Nat.mul_zero]
      omega
/-- any plain data, deep turns deep at most -/
def sp_law_plain (n : Nat) : Sp := fun vs H Q _ => ∃ (d s : Addr) (m : Nat), vs = [.ref d, .int m] ∧ Drw d s H ∧ m < n ∧ n ≤ 3 ∧ ∀ v t H', Aft d s H H' → Drw d s H' → Dt (fun a => H a = none) H' v t → dep t ≤ 2 * m + 2 → Fit t → Q v H'
theorem use_plain {n m : Nat} {d s : Addr} {H : Hp} {Q : VK} {E : XK} (D : Drw d s H) (hm : m < n) (hn : n ≤ 3) (q : ∀ v t H', Aft d s H H' → Drw d s H' → Dt (fun a => H a = none) H' v t → dep t ≤ 2 * m + 2 → Fit t → Q v H') : sp_law_plain n [.ref d, .int m] H Q E := ⟨d, s, m, rfl, D, hm, hn, q⟩

theorem ok_law_plain (T : Tx K mg) : ∀ n : Nat, FnOk P w K mg base CX0 (n + 8) (He.ga K "_law_plain") T.fd_law_plain P_law_plain (sp_law_plain n) := by
  intro n
  induction n with
  | zero => exact ⟨fun vs H Q E h => by obtain ⟨_, _, _, _, _, h, _⟩ := h; exact absurd h (Nat.not_lt_zero _), fun A outer s H args us vs Q E hr he hb hv h => by obtain ⟨_, _, _, _, _, h, _⟩ := h; exact absurd h (Nat.not_lt_zero _)⟩
  | succ n ih =>
    refine T.F_law_plain.ok sc_law_plain (fun vs H Q E h => ?_) (fun cdv A outer s H vs Q E hr h => ⟨_, PSs.nox (pss_cons (ps_set (i := 2) sc_law_plain.nd rfl (Or.inl rfl) (pe_call (ok_law_take T) (hr.mono (by omega)) rfl T.g_law_take T.F_law_take.kp (b_law_take T) .nil pass0 (pa_cons (pv 0) (pa_cons (pe_int) pa_nil)))) (pss_cons (ps_if (pt_cmpR op_eq (pv 2) (pe_int) (nomark _)) (pss_one (ps_ret (pe_non))) pss_nil) (pss_cons (ps_if (pt_cmpR op_eq (pv 2) (pe_int) (nomark _)) (pss_one (ps_ret (pe_cmpR op_eq (pe_call (ok_law_take T) (hr.mono (by omega)) rfl T.g_law_take T.F_law_take.kp (b_law_take T) .nil pass0 (pa_cons (pv 0) (pa_cons (pe_int) pa_nil))) (pe_int) (nomark _)))) pss_nil) (pss_cons (ps_if (pt_cmpR op_lt (pv 2) (pe_int) (nomark _)) (pss_one (ps_ret (pe_call (ok_law_integer T) (hr.mono (by omega)) rfl T.g_law_integer T.F_law_integer.kp (b_law_integer T) .nil pass0 (pa_cons (pv 0) pa_nil)))) pss_nil) (pss_cons (ps_if (pt_cmpR op_eq (pv 2) (pe_int) (nomark _)) (pss_one (ps_ret (pe_call (ok_law_text T) (hr.mono (by omega)) rfl T.g_law_text T.F_law_text.kp (b_law_text T) .nil pass0 (pa_cons (pv 0) (pa_cons (pe_int) pa_nil))))) pss_nil) (pss_cons (ps_set (i := 3) sc_law_plain.nd rfl (Or.inl rfl) (pe_lst pa_nil)) (pss_cons (ps_if (pt_cmpR op_gt (pv 1) (pe_int) (nomark _)) (pss_one (ps_setLc (i := 3) (own := [("_law_k", 4)]) rfl sc_law_plain.nd rfl rfl (sw_true rfl rfl rfl (by decide +kernel)) (pi_range1 rfl T.z_range (pa_cons (pe_call (ok_law_take T) (hr.mono (by omega)) rfl T.g_law_take T.F_law_take.kp (b_law_take T) .nil pass0 (pa_cons (pv 0) (pa_cons (pe_int) pa_nil))) pa_nil)) (blkOk_by (N := N_law_plain) (sc := defScope s_law_plain) (by decide +kernel)) (fun _ _ _ _ _ => (pg_name (i := 4) sc_law_plain.nd rfl (Or.inl rfl))) (fun _ _ _ _ _ => pts_nil) (fun _ _ _ _ _ => (pe_call ih hr rfl T.g_law_plain T.F_law_plain.kp (b_law_plain T) .nil pass0 (pa_cons (pv 0) (pa_cons (pe_op op_sub (pv 1) (pe_int)) pa_nil)))))) pss_nil) (pss_cons (ps_if (pt_cmpR op_lt (pv 2) (pe_int) (nomark _)) (pss_one (ps_ret (pe_callTy LL.call_tupL (by rfl) T.z_tuple (by decide +kernel) (pa_cons (pv 3) pa_nil)))) pss_nil) (pss_cons (ps_if (pt_cmpR op_eq (pv 2) (pe_int) (nomark _)) (pss_one (ps_ret (pv 3))) pss_nil) (pss_one (ps_ret (pe_disp (pps_cons (pe_str) (pv 3) pps_nil) (by rfl) (by rfl) (fun z => by cases z) (by decide))))))))))))), ?_⟩)
    · obtain ⟨_, _, _, rfl, _⟩ := h
      rfl
    · obtain ⟨d, s, m, rfl, D, hm, hn, q⟩ := h
      simp only [tSeq, tAsg, tRet, tRetN, tDrop, tNext, tVar, tC, gName, tOp, tUn, rI, rI0, rU, tIfS, tTest, tB, tIf, tAnd, tOr, tNot, tAndV, tOrV, tNotV, tCall, tCons, tNil, tCB, tLst, tTup, tChain, CMul, CDiv, CPow, rEq, rNe, gSub, L2.start, LL.cxK0, LL.cxK1, List.map_cons, List.map_nil, List.length_cons, List.length_nil, List.replicate_succ, List.replicate_zero, List.cons_append, List.nil_append, List.append_nil, List.getElem?_cons_zero, List.getElem?_cons_succ, List.set_cons_zero, List.set_cons_succ, Nat.add_sub_cancel, Nat.reduceAdd, Nat.reduceSub, Option.some.injEq, V.int.injEq, V.bl.injEq, V.ref.injEq, V.str.injEq, List.cons.injEq, and_true, true_and, and_false, false_and, exists_eq_left, exists_eq_left', exists_and_left, exists_and_right, exists_eq, exists_eq', LL.if_dec, reduceCtorEq, exists_false, exists_const, or_false, false_or, if_true, if_false, LL.rInt1, LL.rMx, LL.rMn, and_assoc, Int.reduceNeg, Int.reduceLT, Int.reduceLE, Int.reduceMul, Int.reduceAdd, Int.reduceSub, Int.reducePow, Int.reduceToNat, Nat.reducePow, Nat.reduceLT, true_or, or_true, Bool.not_true, Bool.not_false, Bool.false_eq_true, Bool.or_false, Bool.or_true, Bool.true_or, Bool.false_or, decide_true, decide_false, not_true_eq_false, not_false_eq_true, LL.scal_int, LL.scal_bl, LL.scal_str, LL.isInt, LL.isBl, LL.isStr, LL.isLst, LL.isTup, LL.isDic, N_law_plain]
      refine use_take D (by decide +kernel) fun v H' a D' v0 v1 => ?_
      simp only [tSeq, tAsg, tRet, tRetN, tDrop, tNext, tVar, tC, gName, tOp, tUn, rI, rI0, rU, tIfS, tTest, tB, tIf, tAnd, tOr, tNot, tAndV, tOrV, tNotV, tCall, tCons, tNil, tCB, tLst, tTup, tChain, CMul, CDiv, CPow, rEq, rNe, gSub, L2.start, LL.cxK0, LL.cxK1, List.map_cons, List.map_nil, List.length_cons, List.length_nil, List.replicate_succ, List.replicate_zero, List.cons_append, List.nil_append, List.append_nil, List.getElem?_cons_zero, List.getElem?_cons_succ, List.set_cons_zero, List.set_cons_succ, Nat.add_sub_cancel, Nat.reduceAdd, Nat.reduceSub, Option.some.injEq, V.int.injEq, V.bl.injEq, V.ref.injEq, V.str.injEq, List.cons.injEq, and_true, true_and, and_false, false_and, exists_eq_left, exists_eq_left', exists_and_left, exists_and_right, exists_eq, exists_eq', LL.if_dec, reduceCtorEq, exists_false, exists_const, or_false, false_or, if_true, if_false, LL.rInt1, LL.rMx, LL.rMn, and_assoc, Int.reduceNeg, Int.reduceLT, Int.reduceLE, Int.reduceMul, Int.reduceAdd, Int.reduceSub, Int.reducePow, Int.reduceToNat, Nat.reducePow, Nat.reduceLT, true_or, or_true, Bool.not_true, Bool.not_false, Bool.false_eq_true, Bool.or_false, Bool.or_true, Bool.true_or, Bool.false_or, decide_true, decide_false, not_true_eq_false, not_false_eq_true, LL.scal_int, LL.scal_bl, LL.scal_str, LL.isInt, LL.isBl, LL.isStr, LL.isLst, LL.isTup, LL.isDic]
      by_cases v0' : v = 0
      · rw [if_pos v0']
        exact q _ .non _ a D' rfl (by simp [dep]) trivial
      rw [if_neg v0']
      by_cases v1' : v = 1
      · rw [if_pos v1']
        refine use_take D' (by decide +kernel) fun v2 H2 a2 D2 h4 h5 => ⟨scal_int.mpr trivial, ?_⟩
        exact q _ (.bl _) _ (a.trans a2) D2 rfl (by simp [dep]) trivial
      rw [if_neg v1']
      by_cases v5 : v < 5
      · rw [if_pos v5]
        exact ⟨d, s, rfl, D', fun i H2 a2 D2 hb => q _ (.int i) _ (a.trans a2) D2 rfl (by simp [dep]) hb⟩
      rw [if_neg v5]
      by_cases v5' : v = 5
      · rw [if_pos v5']
        exact ⟨d, s, rfl, D', fun z H2 a2 D2 => q _ (.str z) _ (a.trans a2) D2 rfl (by simp [dep]) trivial⟩
      rw [if_neg v5']
      have tail : ∀ (L : Addr) (acc : List V) (us : List LL.T) (H1 : Hp), Aft d s H H1 → H L = none → H1 L = some (.lst acc) → DtL (fun b => H b = none ∧ b ≠ L) H1 acc us → us.length ≤ 3 → depL us ≤ 2 * m →
          (if v < 8 then rTupL [V.ref L] H1 Q else if v = 8 then Q (V.ref L) H1 else tDisp [(tC (V.str "a"), tVar 3)] [some (V.ref d), some (V.int m), some (V.int v), some (V.ref L), none] H1 Q) := by
        intro L acc us H1 a1 hL eL hacc hu hd
        split
        · refine ⟨L, acc, rfl, eL, fun l hl => ?_⟩
          exact q _ (.tup us) _ (a1.new hl) (a1.new hl).dr ⟨l, acc, rfl, a1.free hl, upd_same, (hacc.same (Same.new (Same.refl _) hl)).to (fun b h => h.1), by omega⟩ (by show depL us + 1 ≤ _; omega) trivial
        · split
          · exact q _ (.lst us) _ a1 a1.dr ⟨L, acc, rfl, hL, eL, hacc.to (fun b h => h.1), by omega⟩ (by show depL us + 1 ≤ _; omega) trivial
          · unfold tDisp
            intro pd hpd
            simp only [tPairs, tC, tVar]
            simp only [tSeq, tAsg, tRet, tRetN, tDrop, tNext, tVar, tC, gName, tOp, tUn, rI, rI0, rU, tIfS, tTest, tB, tIf, tAnd, tOr, tNot, tAndV, tOrV, tNotV, tCall, tCons, tNil, tCB, tLst, tTup, tChain, CMul, CDiv, CPow, rEq, rNe, gSub, L2.start, LL.cxK0, LL.cxK1, List.map_cons, List.map_nil, List.length_cons, List.length_nil, List.replicate_succ, List.replicate_zero, List.cons_append, List.nil_append, List.append_nil, List.getElem?_cons_zero, List.getElem?_cons_succ, List.set_cons_zero, List.set_cons_succ, Nat.add_sub_cancel, Nat.reduceAdd, Nat.reduceSub, Option.some.injEq, V.int.injEq, V.bl.injEq, V.ref.injEq, V.str.injEq, List.cons.injEq, and_true, true_and, and_false, false_and, exists_eq_left, exists_eq_left', exists_and_left, exists_and_right, exists_eq, exists_eq', LL.if_dec, reduceCtorEq, exists_false, exists_const, or_false, false_or, if_true, if_false, LL.rInt1, LL.rMx, LL.rMn, and_assoc, Int.reduceNeg, Int.reduceLT, Int.reduceLE, Int.reduceMul, Int.reduceAdd, Int.reduceSub, Int.reducePow, Int.reduceToNat, Nat.reducePow, Nat.reduceLT, true_or, or_true, Bool.not_true, Bool.not_false, Bool.false_eq_true, Bool.or_false, Bool.or_true, Bool.true_or, Bool.false_or, decide_true, decide_false, not_true_eq_false, not_false_eq_true, LL.scal_int, LL.scal_bl, LL.scal_str, LL.isInt, LL.isBl, LL.isStr, LL.isLst, LL.isTup, LL.isDic]
            refine ⟨upd_same, [(Sum.inr "a", V.ref L)], rfl, by simp, ?_⟩
            have np : H pd = none := a1.free hpd
            have ne : L ≠ pd := ne_of_none eL hpd
            rw [upd_upd, show mergeK [] [((Sum.inr "a" : Key), V.ref L)] = [((Sum.inr "a" : Key), V.ref L)] by simp [mergeK, putK]]
            have hs := Same.new (Same.refl H1) hpd (o := .dK [(Sum.inr "a", V.ref L)])
            refine q _ (.dic (.lst us)) _ (a1.new hpd) (a1.new hpd).dr ⟨pd, _, rfl, np, upd_same, L, acc, rfl, hL, hs _ _ eL, (hacc.same hs).to (fun b h => h.1), by omega⟩ ?_ trivial
            show depL us + 1 + 1 ≤ _
            omega
      refine ⟨by decide, fun p hp => ?_⟩
      by_cases m0 : (0 : Int) < m
      · rw [if_pos m0]
        have aN : Aft d s H (upd H' p (.lst [])) := a.new hp
        generalize upd H' p (.lst []) = H1 at aN ⊢
        refine use_lcR (R := fun j H' => Aft d s H H' ∧ Drw d s H' ∧ 0 ≤ j ∧ j ≤ 3) (fun Q hQ => ?_) (fun j H' h => ⟨by omega, by omega⟩)
          (fun j L i H' => Aft d s H H' ∧ j ≤ 3 ∧ 0 ≤ j ∧ i ≤ j.toNat ∧ H L = none ∧ ∃ acc us, H' L = some (.lst acc) ∧ us.length = i ∧ depL us ≤ 2 * m ∧ DtL (fun b => H b = none ∧ b ≠ L) H' acc us) ?_ ?_ ?_
        · simp only [tSeq, tAsg, tRet, tRetN, tDrop, tNext, tVar, tC, gName, tOp, tUn, rI, rI0, rU, tIfS, tTest, tB, tIf, tAnd, tOr, tNot, tAndV, tOrV, tNotV, tCall, tCons, tNil, tCB, tLst, tTup, tChain, CMul, CDiv, CPow, rEq, rNe, gSub, L2.start, LL.cxK0, LL.cxK1, List.map_cons, List.map_nil, List.length_cons, List.length_nil, List.replicate_succ, List.replicate_zero, List.cons_append, List.nil_append, List.append_nil, List.getElem?_cons_zero, List.getElem?_cons_succ, List.set_cons_zero, List.set_cons_succ, Nat.add_sub_cancel, Nat.reduceAdd, Nat.reduceSub, Option.some.injEq, V.int.injEq, V.bl.injEq, V.ref.injEq, V.str.injEq, List.cons.injEq, and_true, true_and, and_false, false_and, exists_eq_left, exists_eq_left', exists_and_left, exists_and_right, exists_eq, exists_eq', LL.if_dec, reduceCtorEq, exists_false, exists_const, or_false, false_or, if_true, if_false, LL.rInt1, LL.rMx, LL.rMn, and_assoc, Int.reduceNeg, Int.reduceLT, Int.reduceLE, Int.reduceMul, Int.reduceAdd, Int.reduceSub, Int.reducePow, Int.reduceToNat, Nat.reducePow, Nat.reduceLT, true_or, or_true, Bool.not_true, Bool.not_false, Bool.false_eq_true, Bool.or_false, Bool.or_true, Bool.true_or, Bool.false_or, decide_true, decide_false, not_true_eq_false, not_false_eq_true, LL.scal_int, LL.scal_bl, LL.scal_str, LL.isInt, LL.isBl, LL.isStr, LL.isLst, LL.isTup, LL.isDic]
          exact use_take aN.dr (by decide +kernel) fun v2 H2 a2 D2 h2 h3 => hQ _ _ ⟨aN.trans a2, D2, h2, by omega⟩
        · rintro j H2 L ⟨a2, D2, j0, j3⟩ hL
          exact ⟨a2.new hL, j3, j0, Nat.zero_le _, a2.free hL, [], [], upd_same, rfl, Nat.zero_le _, rfl⟩
        · rintro j L i H2 hi ⟨a2, j3, j0, hij, hL, acc, us, eL, hu, hdp, hacc⟩
          simp only [tSeq, tAsg, tRet, tRetN, tDrop, tNext, tVar, tC, gName, tOp, tUn, rI, rI0, rU, tIfS, tTest, tB, tIf, tAnd, tOr, tNot, tAndV, tOrV, tNotV, tCall, tCons, tNil, tCB, tLst, tTup, tChain, CMul, CDiv, CPow, rEq, rNe, gSub, L2.start, LL.cxK0, LL.cxK1, List.map_cons, List.map_nil, List.length_cons, List.length_nil, List.replicate_succ, List.replicate_zero, List.cons_append, List.nil_append, List.append_nil, List.getElem?_cons_zero, List.getElem?_cons_succ, List.set_cons_zero, List.set_cons_succ, Nat.add_sub_cancel, Nat.reduceAdd, Nat.reduceSub, Option.some.injEq, V.int.injEq, V.bl.injEq, V.ref.injEq, V.str.injEq, List.cons.injEq, and_true, true_and, and_false, false_and, exists_eq_left, exists_eq_left', exists_and_left, exists_and_right, exists_eq, exists_eq', LL.if_dec, reduceCtorEq, exists_false, exists_const, or_false, false_or, if_true, if_false, LL.rInt1, LL.rMx, LL.rMn, and_assoc, Int.reduceNeg, Int.reduceLT, Int.reduceLE, Int.reduceMul, Int.reduceAdd, Int.reduceSub, Int.reducePow, Int.reduceToNat, Nat.reducePow, Nat.reduceLT, true_or, or_true, Bool.not_true, Bool.not_false, Bool.false_eq_true, Bool.or_false, Bool.or_true, Bool.true_or, Bool.false_or, decide_true, decide_false, not_true_eq_false, not_false_eq_true, LL.scal_int, LL.scal_bl, LL.scal_str, LL.isInt, LL.isBl, LL.isStr, LL.isLst, LL.isTup, LL.isDic, tYes, wipe, List.foldl_cons, List.foldl_nil]
          rw [show (m : Int) - 1 = ((m - 1 : Nat) : Int) by omega]
          refine use_plain a2.dr (by omega) (by omega) fun x t H3 a3 D3 hx hd3 _ => ?_
          obtain ⟨g1, g2⟩ := growA D hL a2 a3 hacc (new_ofA a2 eL) hx
          have hal : acc.length = i := by rw [hacc.len, hu]
          refine ⟨acc, a3.kp _ _ (D.ne _ hL) eL, small_sz (by omega), g1, j3, j0, by omega, hL, _, upd_same, us ++ [t], by rw [List.length_append, hu]; rfl, ?_, g2⟩
          rw [depL_app]
          show max (depL us) (max (dep t) 0) ≤ 2 * m
          omega
        · rintro j L H2 ⟨a2, j3, j0, hij, hL, acc, us, eL, hu, hdp, hacc⟩
          exact tail L acc us H2 a2 hL eL hacc (by omega) hdp
      · rw [if_neg m0]
        exact tail p [] [] _ (a.new hp) (a.free hp) upd_same rfl (by simp) (Nat.zero_le _)
end K00

namespace K00
open PySem PySem.Spec PyProof.Rows L2 LL
variable {P : Program} {w : World} {K : PySem.W.Frag} {mg : Str → Option Value} {base : Heap}

def sp_need (K : PySem.W.Frag) : Sp := fun vs H Q E => ∃ (b : Bool) (n : V), vs = [.bl b, n] ∧ (b = true → Q .non H) ∧ (b = false → ∀ d H', BadH H H' d n → E (.ref (aBV K)) (some d) H')
theorem use_need {K : PySem.W.Frag} {b : Bool} {n : V} {H : Hp} {Q : VK} {E : XK} (q1 : b = true → Q .non H) (q2 : b = false → ∀ d H', BadH H H' d n → E (.ref (aBV K)) (some d) H') : sp_need K [.bl b, n] H Q E := ⟨b, n, rfl, q1, q2⟩

theorem ok_need (T : Tx K mg) : FnOk P w K mg base (L2.CX P w) 3 (He.ga K "need") T.fd_need P_need (sp_need K) := by
  refine T.F_need.ok sc_need (fun vs H Q E h => ?_) (fun cdv A outer s H vs Q E hr h => ⟨_, (pss_one (ps_if (pt_not (pt_val (pv 0))) (pss_one (ps_raise rfl (takes_of rfl rfl rfl rfl) (pmk_oex T.x_BadValue T.i_BadValue T.t_BadValue (ok_BadValue T) hr (b_BadValue T) .nil pass0 rfl T.g_BadValue (pa_cons (pv 1) pa_nil)))) pss_nil)), ?_⟩)
  · obtain ⟨_, _, rfl, _⟩ := h
    rfl
  · obtain ⟨b, n, rfl, q1, q2⟩ := h
    have bad : b = false → tMkO (aBV K) (sp_BadValue K) [] (tCons (tVar 1) tNil) [some (.bl b), some n] H (fun cls d H' => E cls d H') := by
      intro hb
      simp only [tMkO]
      simp only [tSeq, tAsg, tRet, tRetN, tDrop, tNext, tVar, tC, gName, tOp, tUn, rI, rI0, rU, tIfS, tTest, tB, tIf, tAnd, tOr, tNot, tAndV, tOrV, tNotV, tCall, tCons, tNil, tCB, tLst, tTup, tChain, CMul, CDiv, CPow, rEq, rNe, gSub, L2.start, LL.cxK0, LL.cxK1, List.map_cons, List.map_nil, List.length_cons, List.length_nil, List.replicate_succ, List.replicate_zero, List.cons_append, List.nil_append, List.append_nil, List.getElem?_cons_zero, List.getElem?_cons_succ, List.set_cons_zero, List.set_cons_succ, Nat.add_sub_cancel, Nat.reduceAdd, Nat.reduceSub, Option.some.injEq, V.int.injEq, V.bl.injEq, V.ref.injEq, V.str.injEq, List.cons.injEq, and_true, true_and, and_false, false_and, exists_eq_left, exists_eq_left', exists_and_left, exists_and_right, exists_eq, exists_eq', LL.if_dec, reduceCtorEq, exists_false, exists_const, or_false, false_or, if_true, if_false, LL.rInt1, LL.rMx, LL.rMn, and_assoc, Int.reduceNeg, Int.reduceLT, Int.reduceLE, Int.reduceMul, Int.reduceAdd, Int.reduceSub, Int.reducePow, Int.reduceToNat, Nat.reducePow, Nat.reduceLT, true_or, or_true, Bool.not_true, Bool.not_false, Bool.false_eq_true, Bool.or_false, Bool.or_true, Bool.true_or, Bool.false_or, decide_true, decide_false, not_true_eq_false, not_false_eq_true, LL.scal_int, LL.scal_bl, LL.scal_str, LL.isInt, LL.isBl, LL.isStr, LL.isLst, LL.isTup, LL.isDic]
      refine ⟨by decide, fun a na => ?_⟩
      refine ⟨a, n, rfl, upd_same, fun d p1 p2 H' hd hne e1 e2 e3 e4 f1 f2 k => ⟨rfl, d, e1, _, e2, ?_, ?_⟩⟩
      · rw [upd_ne hne] at hd; exact hd
      · have fd : H d = none := by rw [upd_ne hne] at hd; exact hd
        have na1 : p1 ≠ a := fun z => by rw [z, upd_same] at f1; cases f1
        have na2 : p2 ≠ a := fun z => by rw [z, upd_same] at f2; cases f2
        have nd1 : p1 ≠ d := fun z => by rw [z, e2] at e3; exact (show ¬ exd d [("told", V.ref p2), ("parameter", n)] = .tup [n] from exd_tup) (Option.some.inj e3)
        have nd2 : p2 ≠ d := fun z => by rw [z, e2] at e4; exact (show ¬ exd d [("told", V.ref p2), ("parameter", n)] = .tup [.str "BadValue", .ref p1] from exd_tup) (Option.some.inj e4)
        rw [upd_ne na1] at f1
        rw [upd_ne na2] at f2
        refine q2 hb d _ ⟨⟨p1, p2, upd_same, by rw [upd_ne nd1, del_ne na1]; exact e3, by rw [upd_ne nd2, del_ne na2]; exact e4, f1, f2⟩, fun b o e => ?_, fd⟩
        have nba : b ≠ a := ne_of_none e na
        rw [upd_ne (ne_of_none e fd), del_ne nba]
        exact k b o nba (by rw [upd_ne nba]; exact e)
    simp only [tSeq, tAsg, tRet, tRetN, tDrop, tNext, tVar, tC, gName, tOp, tUn, rI, rI0, rU, tIfS, tTest, tB, tIf, tAnd, tOr, tNot, tAndV, tOrV, tNotV, tCall, tCons, tNil, tCB, tLst, tTup, tChain, CMul, CDiv, CPow, rEq, rNe, gSub, L2.start, LL.cxK0, LL.cxK1, List.map_cons, List.map_nil, List.length_cons, List.length_nil, List.replicate_succ, List.replicate_zero, List.cons_append, List.nil_append, List.append_nil, List.getElem?_cons_zero, List.getElem?_cons_succ, List.set_cons_zero, List.set_cons_succ, Nat.add_sub_cancel, Nat.reduceAdd, Nat.reduceSub, Option.some.injEq, V.int.injEq, V.bl.injEq, V.ref.injEq, V.str.injEq, List.cons.injEq, and_true, true_and, and_false, false_and, exists_eq_left, exists_eq_left', exists_and_left, exists_and_right, exists_eq, exists_eq', LL.if_dec, reduceCtorEq, exists_false, exists_const, or_false, false_or, if_true, if_false, LL.rInt1, LL.rMx, LL.rMn, and_assoc, Int.reduceNeg, Int.reduceLT, Int.reduceLE, Int.reduceMul, Int.reduceAdd, Int.reduceSub, Int.reducePow, Int.reduceToNat, Nat.reducePow, Nat.reduceLT, true_or, or_true, Bool.not_true, Bool.not_false, Bool.false_eq_true, Bool.or_false, Bool.or_true, Bool.true_or, Bool.false_or, decide_true, decide_false, not_true_eq_false, not_false_eq_true, LL.scal_int, LL.scal_bl, LL.scal_str, LL.isInt, LL.isBl, LL.isStr, LL.isLst, LL.isTup, LL.isDic, N_need]
    cases b with
    | true =>
      simp only [tSeq, tAsg, tRet, tRetN, tDrop, tNext, tVar, tC, gName, tOp, tUn, rI, rI0, rU, tIfS, tTest, tB, tIf, tAnd, tOr, tNot, tAndV, tOrV, tNotV, tCall, tCons, tNil, tCB, tLst, tTup, tChain, CMul, CDiv, CPow, rEq, rNe, gSub, L2.start, LL.cxK0, LL.cxK1, List.map_cons, List.map_nil, List.length_cons, List.length_nil, List.replicate_succ, List.replicate_zero, List.cons_append, List.nil_append, List.append_nil, List.getElem?_cons_zero, List.getElem?_cons_succ, List.set_cons_zero, List.set_cons_succ, Nat.add_sub_cancel, Nat.reduceAdd, Nat.reduceSub, Option.some.injEq, V.int.injEq, V.bl.injEq, V.ref.injEq, V.str.injEq, List.cons.injEq, and_true, true_and, and_false, false_and, exists_eq_left, exists_eq_left', exists_and_left, exists_and_right, exists_eq, exists_eq', LL.if_dec, reduceCtorEq, exists_false, exists_const, or_false, false_or, if_true, if_false, LL.rInt1, LL.rMx, LL.rMn, and_assoc, Int.reduceNeg, Int.reduceLT, Int.reduceLE, Int.reduceMul, Int.reduceAdd, Int.reduceSub, Int.reducePow, Int.reduceToNat, Nat.reducePow, Nat.reduceLT, true_or, or_true, Bool.not_true, Bool.not_false, Bool.false_eq_true, Bool.or_false, Bool.or_true, Bool.true_or, Bool.false_or, decide_true, decide_false, not_true_eq_false, not_false_eq_true, LL.scal_int, LL.scal_bl, LL.scal_str, LL.isInt, LL.isBl, LL.isStr, LL.isLst, LL.isTup, LL.isDic]
      exact q1 rfl
    | false =>
      simp only [tSeq, tAsg, tRet, tRetN, tDrop, tNext, tVar, tC, gName, tOp, tUn, rI, rI0, rU, tIfS, tTest, tB, tIf, tAnd, tOr, tNot, tAndV, tOrV, tNotV, tCall, tCons, tNil, tCB, tLst, tTup, tChain, CMul, CDiv, CPow, rEq, rNe, gSub, L2.start, LL.cxK0, LL.cxK1, List.map_cons, List.map_nil, List.length_cons, List.length_nil, List.replicate_succ, List.replicate_zero, List.cons_append, List.nil_append, List.append_nil, List.getElem?_cons_zero, List.getElem?_cons_succ, List.set_cons_zero, List.set_cons_succ, Nat.add_sub_cancel, Nat.reduceAdd, Nat.reduceSub, Option.some.injEq, V.int.injEq, V.bl.injEq, V.ref.injEq, V.str.injEq, List.cons.injEq, and_true, true_and, and_false, false_and, exists_eq_left, exists_eq_left', exists_and_left, exists_and_right, exists_eq, exists_eq', LL.if_dec, reduceCtorEq, exists_false, exists_const, or_false, false_or, if_true, if_false, LL.rInt1, LL.rMx, LL.rMn, and_assoc, Int.reduceNeg, Int.reduceLT, Int.reduceLE, Int.reduceMul, Int.reduceAdd, Int.reduceSub, Int.reducePow, Int.reduceToNat, Nat.reducePow, Nat.reduceLT, true_or, or_true, Bool.not_true, Bool.not_false, Bool.false_eq_true, Bool.or_false, Bool.or_true, Bool.true_or, Bool.false_or, decide_true, decide_false, not_true_eq_false, not_false_eq_true, LL.scal_int, LL.scal_bl, LL.scal_str, LL.isInt, LL.isBl, LL.isStr, LL.isLst, LL.isTup, LL.isDic]
      exact bad rfl
theorem itei {p : Prop} [Decidable p] {A B : Prop} (h1 : p → A) (h2 : ¬p → B) : if p then A else B := by
  by_cases h : p
  · rw [if_pos h]; exact h1 h
  · rw [if_neg h]; exact h2 h
def powB : LL.T → Bool
  | .int i => isP i
  | _ => false
def alB (m : Int) : LL.T → Bool
  | .int i => isP i && decide (i ≤ m)
  | _ => false
def sp_is_power : Sp := fun vs H Q _ => ∃ (F : Addr → Prop) (v : V) (t : LL.T), vs = [v] ∧ Dt F H v t ∧ Q (.bl (powB t)) H
theorem use_power_q {F : Addr → Prop} {v : V} {t : LL.T} {H : Hp} {Q : VK} {E : XK} (h : Dt F H v t) (q : Q (.bl (powB t)) H) : sp_is_power [v] H Q E := ⟨F, v, t, rfl, h, q⟩
def sp_need_align (K : PySem.W.Frag) : Sp := fun vs H Q E => ∃ (F : Addr → Prop) (v : V) (t : LL.T) (m : Int) (n : V), vs = [v, .int m, n] ∧ Dt F H v t ∧ (alB m t = true → Q .non H) ∧ (alB m t = false → ∀ d H', BadH H H' d n → E (.ref (aBV K)) (some d) H')

theorem ok_is_power (T : Tx K mg) : FnOk P w K mg base CX0 2 (He.ga K "is_power") T.fd_is_power P_is_power sp_is_power := by
  refine T.F_is_power.ok sc_is_power (fun vs H Q E h => ?_) (fun cdv A outer s H vs Q E hr h => ⟨_, PSs.nox (pss_one (ps_ret ((pe_and (pe_call (ok_is_whole T) hr rfl T.g_is_whole T.F_is_whole.kp (b_is_whole T) .nil pass0 (pa_cons (pv 0) pa_nil)) (pe_and (pe_cmpR op_ge (pv 0) (pe_int) (nomark _)) (pe_one (pe_cmpR op_eq (pe_op op_and (pv 0) (pe_op op_sub (pv 0) (pe_int))) (pe_int) (nomark _)))))))), ?_⟩)
  · obtain ⟨_, _, _, rfl, _⟩ := h
    rfl
  · obtain ⟨F, v, t, rfl, hd, q⟩ := h
    simp only [tSeq, tAsg, tRet, tRetN, tDrop, tNext, tVar, tC, gName, tOp, tUn, rI, rI0, rU, tIfS, tTest, tB, tIf, tAnd, tOr, tNot, tAndV, tOrV, tNotV, tCall, tCons, tNil, tCB, tLst, tTup, tChain, CMul, CDiv, CPow, rEq, rNe, gSub, L2.start, LL.cxK0, LL.cxK1, List.map_cons, List.map_nil, List.length_cons, List.length_nil, List.replicate_succ, List.replicate_zero, List.cons_append, List.nil_append, List.append_nil, List.getElem?_cons_zero, List.getElem?_cons_succ, List.set_cons_zero, List.set_cons_succ, Nat.add_sub_cancel, Nat.reduceAdd, Nat.reduceSub, Option.some.injEq, V.int.injEq, V.bl.injEq, V.ref.injEq, V.str.injEq, List.cons.injEq, and_true, true_and, and_false, false_and, exists_eq_left, exists_eq_left', exists_and_left, exists_and_right, exists_eq, exists_eq', LL.if_dec, reduceCtorEq, exists_false, exists_const, or_false, false_or, if_true, if_false, LL.rInt1, LL.rMx, LL.rMn, and_assoc, Int.reduceNeg, Int.reduceLT, Int.reduceLE, Int.reduceMul, Int.reduceAdd, Int.reduceSub, Int.reducePow, Int.reduceToNat, Nat.reducePow, Nat.reduceLT, true_or, or_true, Bool.not_true, Bool.not_false, Bool.false_eq_true, Bool.or_false, Bool.or_true, Bool.true_or, Bool.false_or, decide_true, decide_false, not_true_eq_false, not_false_eq_true, LL.scal_int, LL.scal_bl, LL.scal_str, LL.isInt, LL.isBl, LL.isStr, LL.isLst, LL.isTup, LL.isDic, N_is_power]
    refine use_isint hd ?_
    cases t with
    | int i =>
      obtain rfl : v = V.int i := hd
      simp only [tSeq, tAsg, tRet, tRetN, tDrop, tNext, tVar, tC, gName, tOp, tUn, rI, rI0, rU, tIfS, tTest, tB, tIf, tAnd, tOr, tNot, tAndV, tOrV, tNotV, tCall, tCons, tNil, tCB, tLst, tTup, tChain, CMul, CDiv, CPow, rEq, rNe, gSub, L2.start, LL.cxK0, LL.cxK1, List.map_cons, List.map_nil, List.length_cons, List.length_nil, List.replicate_succ, List.replicate_zero, List.cons_append, List.nil_append, List.append_nil, List.getElem?_cons_zero, List.getElem?_cons_succ, List.set_cons_zero, List.set_cons_succ, Nat.add_sub_cancel, Nat.reduceAdd, Nat.reduceSub, Option.some.injEq, V.int.injEq, V.bl.injEq, V.ref.injEq, V.str.injEq, List.cons.injEq, and_true, true_and, and_false, false_and, exists_eq_left, exists_eq_left', exists_and_left, exists_and_right, exists_eq, exists_eq', LL.if_dec, reduceCtorEq, exists_false, exists_const, or_false, false_or, if_true, if_false, LL.rInt1, LL.rMx, LL.rMn, and_assoc, Int.reduceNeg, Int.reduceLT, Int.reduceLE, Int.reduceMul, Int.reduceAdd, Int.reduceSub, Int.reducePow, Int.reduceToNat, Nat.reducePow, Nat.reduceLT, true_or, or_true, Bool.not_true, Bool.not_false, Bool.false_eq_true, Bool.or_false, Bool.or_true, Bool.true_or, Bool.false_or, decide_true, decide_false, not_true_eq_false, not_false_eq_true, LL.scal_int, LL.scal_bl, LL.scal_str, LL.isInt, LL.isBl, LL.isStr, LL.isLst, LL.isTup, LL.isDic]
      refine itei (fun h => ?_) (fun h => ?_)
      · rw [show powB (.int i) = decide (Builtin.bitAnd i (i - 1) = 0) by show isP i = _; unfold isP; rw [decide_eq_true h, Bool.true_and]] at q
        first | exact q | exact ⟨scal_int.mpr trivial, q⟩
      · rw [show powB (.int i) = false by show isP i = _; unfold isP; rw [decide_eq_false h, Bool.false_and]] at q
        exact q
    | _ =>
      simp only [tSeq, tAsg, tRet, tRetN, tDrop, tNext, tVar, tC, gName, tOp, tUn, rI, rI0, rU, tIfS, tTest, tB, tIf, tAnd, tOr, tNot, tAndV, tOrV, tNotV, tCall, tCons, tNil, tCB, tLst, tTup, tChain, CMul, CDiv, CPow, rEq, rNe, gSub, L2.start, LL.cxK0, LL.cxK1, List.map_cons, List.map_nil, List.length_cons, List.length_nil, List.replicate_succ, List.replicate_zero, List.cons_append, List.nil_append, List.append_nil, List.getElem?_cons_zero, List.getElem?_cons_succ, List.set_cons_zero, List.set_cons_succ, Nat.add_sub_cancel, Nat.reduceAdd, Nat.reduceSub, Option.some.injEq, V.int.injEq, V.bl.injEq, V.ref.injEq, V.str.injEq, List.cons.injEq, and_true, true_and, and_false, false_and, exists_eq_left, exists_eq_left', exists_and_left, exists_and_right, exists_eq, exists_eq', LL.if_dec, reduceCtorEq, exists_false, exists_const, or_false, false_or, if_true, if_false, LL.rInt1, LL.rMx, LL.rMn, and_assoc, Int.reduceNeg, Int.reduceLT, Int.reduceLE, Int.reduceMul, Int.reduceAdd, Int.reduceSub, Int.reducePow, Int.reduceToNat, Nat.reducePow, Nat.reduceLT, true_or, or_true, Bool.not_true, Bool.not_false, Bool.false_eq_true, Bool.or_false, Bool.or_true, Bool.true_or, Bool.false_or, decide_true, decide_false, not_true_eq_false, not_false_eq_true, LL.scal_int, LL.scal_bl, LL.scal_str, LL.isInt, LL.isBl, LL.isStr, LL.isLst, LL.isTup, LL.isDic]
      exact q
theorem ok_need_align (T : Tx K mg) : FnOk P w K mg base (L2.CX P w) 4 (He.ga K "need_align") T.fd_need_align P_need_align (sp_need_align K) := by
  refine T.F_need_align.ok sc_need_align (fun vs H Q E h => ?_) (fun cdv A outer s H vs Q E hr h => ⟨_, (pss_one (ps_expr (pe_call (ok_need T) hr rfl T.g_need T.F_need.kp (b_need T) .nil (passR (takes_of rfl rfl rfl rfl) (fun _ _ _ _ h => h)) (pa_cons ((pe_and (pe_call (ok_is_power T) (hr.mono (by decide)) rfl T.g_is_power T.F_is_power.kp (b_is_power T) .nil pass0 (pa_cons (pv 0) pa_nil)) (pe_one (pe_cmpR op_le (pv 0) (pv 1) (nomark _))))) (pa_cons (pv 2) pa_nil))))), ?_⟩)
  · obtain ⟨_, _, _, _, _, rfl, _⟩ := h
    rfl
  · obtain ⟨F, v, t, m, n, rfl, hd, q1, q2⟩ := h
    simp only [tSeq, tAsg, tRet, tRetN, tDrop, tNext, tVar, tC, gName, tOp, tUn, rI, rI0, rU, tIfS, tTest, tB, tIf, tAnd, tOr, tNot, tAndV, tOrV, tNotV, tCall, tCons, tNil, tCB, tLst, tTup, tChain, CMul, CDiv, CPow, rEq, rNe, gSub, L2.start, LL.cxK0, LL.cxK1, List.map_cons, List.map_nil, List.length_cons, List.length_nil, List.replicate_succ, List.replicate_zero, List.cons_append, List.nil_append, List.append_nil, List.getElem?_cons_zero, List.getElem?_cons_succ, List.set_cons_zero, List.set_cons_succ, Nat.add_sub_cancel, Nat.reduceAdd, Nat.reduceSub, Option.some.injEq, V.int.injEq, V.bl.injEq, V.ref.injEq, V.str.injEq, List.cons.injEq, and_true, true_and, and_false, false_and, exists_eq_left, exists_eq_left', exists_and_left, exists_and_right, exists_eq, exists_eq', LL.if_dec, reduceCtorEq, exists_false, exists_const, or_false, false_or, if_true, if_false, LL.rInt1, LL.rMx, LL.rMn, and_assoc, Int.reduceNeg, Int.reduceLT, Int.reduceLE, Int.reduceMul, Int.reduceAdd, Int.reduceSub, Int.reducePow, Int.reduceToNat, Nat.reducePow, Nat.reduceLT, true_or, or_true, Bool.not_true, Bool.not_false, Bool.false_eq_true, Bool.or_false, Bool.or_true, Bool.true_or, Bool.false_or, decide_true, decide_false, not_true_eq_false, not_false_eq_true, LL.scal_int, LL.scal_bl, LL.scal_str, LL.isInt, LL.isBl, LL.isStr, LL.isLst, LL.isTup, LL.isDic, N_need_align]
    refine use_power_q hd ⟨_, rfl, itei (fun h => ?_) (fun h => ?_)⟩
    · cases t with
      | int i =>
        obtain rfl : v = V.int i := hd
        refine ⟨_, rfl, ?_⟩
        have e : alB m (.int i) = decide (i ≤ m) := by
          show (isP i && _) = _
          rw [show isP i = true from h, Bool.true_and]
        rw [e] at q1 q2
        exact use_need q1 q2
      | _ => cases h
    · have e : alB m t = false := by
        cases t with
        | int i =>
          show (isP i && _) = false
          rw [show isP i = false by cases hh : isP i; rfl; exact absurd hh h, Bool.false_and]
        | _ => rfl
      exact use_need (fun z => by cases z) (fun _ => q2 e)
def sp_align_down (K : PySem.W.Frag) : Sp := fun vs H Q E => ∃ (F G : Addr → Prop) (v x : V) (t u : LL.T), vs = [v, x] ∧ Dt F H v t ∧ Dt G H x u ∧
  (¬ InR 0 1000000000 t → ∀ d H', BadH H H' d (.str "number") → E (.ref (aBV K)) (some d) H') ∧ (InR 0 1000000000 t → alB 1073741824 u = false → ∀ d H', BadH H H' d (.str "align") → E (.ref (aBV K)) (some d) H') ∧
  (∀ i a, t = .int i → u = .int a → InR 0 1000000000 t → alB 1073741824 u = true → Q (.int (i - i % a)) H)
def sp_align_up (K : PySem.W.Frag) : Sp := fun vs H Q E => ∃ (F G : Addr → Prop) (v x : V) (t u : LL.T), vs = [v, x] ∧ Dt F H v t ∧ Dt G H x u ∧
  (¬ InR 0 1000000000 t → ∀ d H', BadH H H' d (.str "number") → E (.ref (aBV K)) (some d) H') ∧ (InR 0 1000000000 t → alB 1073741824 u = false → ∀ d H', BadH H H' d (.str "align") → E (.ref (aBV K)) (some d) H') ∧
  (∀ i a, t = .int i → u = .int a → InR 0 1000000000 t → alB 1073741824 u = true → Q (.int (i + (-i) % a)) H)
def sp_order_of (K : PySem.W.Frag) : Sp := fun vs H Q E => ∃ (F : Addr → Prop) (v : V) (t : LL.T), vs = [v] ∧ Dt F H v t ∧
  (¬ InR 1 1000000000 t → ∀ d H', BadH H H' d (.str "count") → E (.ref (aBV K)) (some d) H') ∧ (∀ c, t = .int c → InR 1 1000000000 t → Q (.int (Builtin.Int.intBits (c - 1) : Nat)) H)
def sp_power_in (K : PySem.W.Frag) : Sp := fun vs H Q E => ∃ (F : Addr → Prop) (v : V) (t : LL.T), vs = [v] ∧ Dt F H v t ∧
  (¬ InR 1 1000000000 t → ∀ d H', BadH H H' d (.str "number") → E (.ref (aBV K)) (some d) H') ∧ (∀ c, t = .int c → InR 1 1000000000 t → Q (.int (Builtin.bitAnd c (-c))) H)
theorem al_pos {u : LL.T} {m : Int} (h : alB m u = true) : ∃ k : Nat, u = .int (2 ^ k) ∧ (2 : Int) ^ k ≤ m ∧ (0 : Int) < 2 ^ k := by
  cases u with
  | int i =>
    obtain ⟨h1, h2⟩ := Bool.and_eq_true_iff.mp h
    obtain ⟨k, rfl⟩ := isP_of h1
    exact ⟨k, rfl, of_decide_eq_true h2, Int.pow_pos (by decide)⟩
  | _ => cases h
theorem inr_int {lo hi : Int} {t : LL.T} (h : InR lo hi t) : ∃ i, t = .int i ∧ lo ≤ i ∧ i ≤ hi := by
  cases t with
  | int i => exact ⟨i, rfl, h⟩
  | _ => exact h.elim

theorem ok_align_down (T : Tx K mg) : FnOk P w K mg base (L2.CX P w) 5 (He.ga K "align_down") T.fd_align_down P_align_down (sp_align_down K) := by
  refine T.F_align_down.ok sc_align_down (fun vs H Q E h => ?_) (fun cdv A outer s H vs Q E hr h => ⟨_, (pss_cons (ps_expr (pe_call (ok_need_whole T) (hr.mono (by decide)) rfl T.g_need_whole T.F_need_whole.kp (b_need_whole T) .nil (passR (takes_of rfl rfl rfl rfl) (fun _ _ _ _ h => h)) (pa_cons (pv 0) (pa_cons (pe_int) (pa_cons (pe_glob (v := .int 1000000000) rfl T.c_MOST_PLACE.choose_spec ⟨_, rfl⟩) (pa_cons (pe_str) pa_nil)))))) (pss_cons (ps_expr (pe_call (ok_need_align T) hr rfl T.g_need_align T.F_need_align.kp (b_need_align T) .nil (passR (takes_of rfl rfl rfl rfl) (fun _ _ _ _ h => h)) (pa_cons (pv 1) (pa_cons (pe_glob (v := .int 1073741824) rfl T.c_MOST_ALIGN.choose_spec ⟨_, rfl⟩) (pa_cons (pe_str) pa_nil))))) (pss_one (ps_ret (pe_op op_sub (pv 0) (pe_op op_mod (pv 0) (pv 1))))))), ?_⟩)
  · obtain ⟨_, _, _, _, _, _, rfl, _⟩ := h
    rfl
  · obtain ⟨F, G, v, x, t, u, rfl, h1, h2, q1, q2, q3⟩ := h
    simp only [tSeq, tAsg, tRet, tRetN, tDrop, tNext, tVar, tC, gName, tOp, tUn, rI, rI0, rU, tIfS, tTest, tB, tIf, tAnd, tOr, tNot, tAndV, tOrV, tNotV, tCall, tCons, tNil, tCB, tLst, tTup, tChain, CMul, CDiv, CPow, rEq, rNe, gSub, L2.start, LL.cxK0, LL.cxK1, List.map_cons, List.map_nil, List.length_cons, List.length_nil, List.replicate_succ, List.replicate_zero, List.cons_append, List.nil_append, List.append_nil, List.getElem?_cons_zero, List.getElem?_cons_succ, List.set_cons_zero, List.set_cons_succ, Nat.add_sub_cancel, Nat.reduceAdd, Nat.reduceSub, Option.some.injEq, V.int.injEq, V.bl.injEq, V.ref.injEq, V.str.injEq, List.cons.injEq, and_true, true_and, and_false, false_and, exists_eq_left, exists_eq_left', exists_and_left, exists_and_right, exists_eq, exists_eq', LL.if_dec, reduceCtorEq, exists_false, exists_const, or_false, false_or, if_true, if_false, LL.rInt1, LL.rMx, LL.rMn, and_assoc, Int.reduceNeg, Int.reduceLT, Int.reduceLE, Int.reduceMul, Int.reduceAdd, Int.reduceSub, Int.reducePow, Int.reduceToNat, Nat.reducePow, Nat.reduceLT, true_or, or_true, Bool.not_true, Bool.not_false, Bool.false_eq_true, Bool.or_false, Bool.or_true, Bool.true_or, Bool.false_or, decide_true, decide_false, not_true_eq_false, not_false_eq_true, LL.scal_int, LL.scal_bl, LL.scal_str, LL.isInt, LL.isBl, LL.isStr, LL.isLst, LL.isTup, LL.isDic, N_align_down]
    refine ⟨F, v, .str "number", t, 0, 1000000000, rfl, h1, fun r1 => ?_, q1⟩
    refine ⟨G, x, u, 1073741824, .str "align", rfl, h2, fun ha => ?_, q2 r1⟩
    obtain ⟨i, rfl, i0, i1⟩ := inr_int r1
    obtain ⟨k, rfl, k0, k1⟩ := al_pos ha
    obtain rfl : v = V.int i := h1
    obtain rfl : x = V.int (2 ^ k) := h2
    exact ⟨_, rfl, _, rfl, k1, _, rfl, q3 _ _ rfl rfl r1 ha⟩
theorem ok_align_up (T : Tx K mg) : FnOk P w K mg base (L2.CX P w) 5 (He.ga K "align_up") T.fd_align_up P_align_up (sp_align_up K) := by
  refine T.F_align_up.ok sc_align_up (fun vs H Q E h => ?_) (fun cdv A outer s H vs Q E hr h => ⟨_, (pss_cons (ps_expr (pe_call (ok_need_whole T) (hr.mono (by decide)) rfl T.g_need_whole T.F_need_whole.kp (b_need_whole T) .nil (passR (takes_of rfl rfl rfl rfl) (fun _ _ _ _ h => h)) (pa_cons (pv 0) (pa_cons (pe_int) (pa_cons (pe_glob (v := .int 1000000000) rfl T.c_MOST_PLACE.choose_spec ⟨_, rfl⟩) (pa_cons (pe_str) pa_nil)))))) (pss_cons (ps_expr (pe_call (ok_need_align T) hr rfl T.g_need_align T.F_need_align.kp (b_need_align T) .nil (passR (takes_of rfl rfl rfl rfl) (fun _ _ _ _ h => h)) (pa_cons (pv 1) (pa_cons (pe_glob (v := .int 1073741824) rfl T.c_MOST_ALIGN.choose_spec ⟨_, rfl⟩) (pa_cons (pe_str) pa_nil))))) (pss_one (ps_ret (pe_op op_add (pv 0) (pe_op op_mod (pe_un un_neg (pv 0)) (pv 1))))))), ?_⟩)
  · obtain ⟨_, _, _, _, _, _, rfl, _⟩ := h
    rfl
  · obtain ⟨F, G, v, x, t, u, rfl, h1, h2, q1, q2, q3⟩ := h
    simp only [tSeq, tAsg, tRet, tRetN, tDrop, tNext, tVar, tC, gName, tOp, tUn, rI, rI0, rU, tIfS, tTest, tB, tIf, tAnd, tOr, tNot, tAndV, tOrV, tNotV, tCall, tCons, tNil, tCB, tLst, tTup, tChain, CMul, CDiv, CPow, rEq, rNe, gSub, L2.start, LL.cxK0, LL.cxK1, List.map_cons, List.map_nil, List.length_cons, List.length_nil, List.replicate_succ, List.replicate_zero, List.cons_append, List.nil_append, List.append_nil, List.getElem?_cons_zero, List.getElem?_cons_succ, List.set_cons_zero, List.set_cons_succ, Nat.add_sub_cancel, Nat.reduceAdd, Nat.reduceSub, Option.some.injEq, V.int.injEq, V.bl.injEq, V.ref.injEq, V.str.injEq, List.cons.injEq, and_true, true_and, and_false, false_and, exists_eq_left, exists_eq_left', exists_and_left, exists_and_right, exists_eq, exists_eq', LL.if_dec, reduceCtorEq, exists_false, exists_const, or_false, false_or, if_true, if_false, LL.rInt1, LL.rMx, LL.rMn, and_assoc, Int.reduceNeg, Int.reduceLT, Int.reduceLE, Int.reduceMul, Int.reduceAdd, Int.reduceSub, Int.reducePow, Int.reduceToNat, Nat.reducePow, Nat.reduceLT, true_or, or_true, Bool.not_true, Bool.not_false, Bool.false_eq_true, Bool.or_false, Bool.or_true, Bool.true_or, Bool.false_or, decide_true, decide_false, not_true_eq_false, not_false_eq_true, LL.scal_int, LL.scal_bl, LL.scal_str, LL.isInt, LL.isBl, LL.isStr, LL.isLst, LL.isTup, LL.isDic, N_align_up]
    refine ⟨F, v, .str "number", t, 0, 1000000000, rfl, h1, fun r1 => ?_, q1⟩
    refine ⟨G, x, u, 1073741824, .str "align", rfl, h2, fun ha => ?_, q2 r1⟩
    obtain ⟨i, rfl, i0, i1⟩ := inr_int r1
    obtain ⟨k, rfl, k0, k1⟩ := al_pos ha
    obtain rfl : v = V.int i := h1
    obtain rfl : x = V.int (2 ^ k) := h2
    exact ⟨_, rfl, _, rfl, k1, _, rfl, q3 _ _ rfl rfl r1 ha⟩
theorem ok_order_of (T : Tx K mg) : FnOk P w K mg base (L2.CX P w) 4 (He.ga K "order_of") T.fd_order_of P_order_of (sp_order_of K) := by
  refine T.F_order_of.ok sc_order_of (fun vs H Q E h => ?_) (fun cdv A outer s H vs Q E hr h => ⟨_, (pss_cons (ps_expr (pe_call (ok_need_whole T) hr rfl T.g_need_whole T.F_need_whole.kp (b_need_whole T) .nil (passR (takes_of rfl rfl rfl rfl) (fun _ _ _ _ h => h)) (pa_cons (pv 0) (pa_cons (pe_int) (pa_cons (pe_glob (v := .int 1000000000) rfl T.c_MOST_PLACE.choose_spec ⟨_, rfl⟩) (pa_cons (pe_str) pa_nil)))))) (pss_one (ps_ret (pe_bits (pe_op op_sub (pv 0) (pe_int)))))), ?_⟩)
  · obtain ⟨_, _, _, rfl, _⟩ := h
    rfl
  · obtain ⟨F, v, t, rfl, h1, q1, q2⟩ := h
    simp only [tSeq, tAsg, tRet, tRetN, tDrop, tNext, tVar, tC, gName, tOp, tUn, rI, rI0, rU, tIfS, tTest, tB, tIf, tAnd, tOr, tNot, tAndV, tOrV, tNotV, tCall, tCons, tNil, tCB, tLst, tTup, tChain, CMul, CDiv, CPow, rEq, rNe, gSub, L2.start, LL.cxK0, LL.cxK1, List.map_cons, List.map_nil, List.length_cons, List.length_nil, List.replicate_succ, List.replicate_zero, List.cons_append, List.nil_append, List.append_nil, List.getElem?_cons_zero, List.getElem?_cons_succ, List.set_cons_zero, List.set_cons_succ, Nat.add_sub_cancel, Nat.reduceAdd, Nat.reduceSub, Option.some.injEq, V.int.injEq, V.bl.injEq, V.ref.injEq, V.str.injEq, List.cons.injEq, and_true, true_and, and_false, false_and, exists_eq_left, exists_eq_left', exists_and_left, exists_and_right, exists_eq, exists_eq', LL.if_dec, reduceCtorEq, exists_false, exists_const, or_false, false_or, if_true, if_false, LL.rInt1, LL.rMx, LL.rMn, and_assoc, Int.reduceNeg, Int.reduceLT, Int.reduceLE, Int.reduceMul, Int.reduceAdd, Int.reduceSub, Int.reducePow, Int.reduceToNat, Nat.reducePow, Nat.reduceLT, true_or, or_true, Bool.not_true, Bool.not_false, Bool.false_eq_true, Bool.or_false, Bool.or_true, Bool.true_or, Bool.false_or, decide_true, decide_false, not_true_eq_false, not_false_eq_true, LL.scal_int, LL.scal_bl, LL.scal_str, LL.isInt, LL.isBl, LL.isStr, LL.isLst, LL.isTup, LL.isDic, N_order_of]
    refine ⟨F, v, .str "count", t, 1, 1000000000, rfl, h1, fun r1 => ?_, q1⟩
    obtain ⟨i, rfl, i0, i1⟩ := inr_int r1
    obtain rfl : v = V.int i := h1
    exact (by simp only [tBits, tOp, tVar, tC, rI0, rI, List.getElem?_cons_zero, Option.some.injEq, exists_eq_left]; exact ⟨_, rfl, _, _, rfl, rfl, _, rfl, q2 _ rfl r1⟩)
theorem ok_power_in (T : Tx K mg) : FnOk P w K mg base (L2.CX P w) 4 (He.ga K "power_in") T.fd_power_in P_power_in (sp_power_in K) := by
  refine T.F_power_in.ok sc_power_in (fun vs H Q E h => ?_) (fun cdv A outer s H vs Q E hr h => ⟨_, (pss_cons (ps_expr (pe_call (ok_need_whole T) hr rfl T.g_need_whole T.F_need_whole.kp (b_need_whole T) .nil (passR (takes_of rfl rfl rfl rfl) (fun _ _ _ _ h => h)) (pa_cons (pv 0) (pa_cons (pe_int) (pa_cons (pe_glob (v := .int 1000000000) rfl T.c_MOST_PLACE.choose_spec ⟨_, rfl⟩) (pa_cons (pe_str) pa_nil)))))) (pss_one (ps_ret (pe_op op_and (pv 0) (pe_un un_neg (pv 0)))))), ?_⟩)
  · obtain ⟨_, _, _, rfl, _⟩ := h
    rfl
  · obtain ⟨F, v, t, rfl, h1, q1, q2⟩ := h
    simp only [tSeq, tAsg, tRet, tRetN, tDrop, tNext, tVar, tC, gName, tOp, tUn, rI, rI0, rU, tIfS, tTest, tB, tIf, tAnd, tOr, tNot, tAndV, tOrV, tNotV, tCall, tCons, tNil, tCB, tLst, tTup, tChain, CMul, CDiv, CPow, rEq, rNe, gSub, L2.start, LL.cxK0, LL.cxK1, List.map_cons, List.map_nil, List.length_cons, List.length_nil, List.replicate_succ, List.replicate_zero, List.cons_append, List.nil_append, List.append_nil, List.getElem?_cons_zero, List.getElem?_cons_succ, List.set_cons_zero, List.set_cons_succ, Nat.add_sub_cancel, Nat.reduceAdd, Nat.reduceSub, Option.some.injEq, V.int.injEq, V.bl.injEq, V.ref.injEq, V.str.injEq, List.cons.injEq, and_true, true_and, and_false, false_and, exists_eq_left, exists_eq_left', exists_and_left, exists_and_right, exists_eq, exists_eq', LL.if_dec, reduceCtorEq, exists_false, exists_const, or_false, false_or, if_true, if_false, LL.rInt1, LL.rMx, LL.rMn, and_assoc, Int.reduceNeg, Int.reduceLT, Int.reduceLE, Int.reduceMul, Int.reduceAdd, Int.reduceSub, Int.reducePow, Int.reduceToNat, Nat.reducePow, Nat.reduceLT, true_or, or_true, Bool.not_true, Bool.not_false, Bool.false_eq_true, Bool.or_false, Bool.or_true, Bool.true_or, Bool.false_or, decide_true, decide_false, not_true_eq_false, not_false_eq_true, LL.scal_int, LL.scal_bl, LL.scal_str, LL.isInt, LL.isBl, LL.isStr, LL.isLst, LL.isTup, LL.isDic, N_power_in]
    refine ⟨F, v, .str "number", t, 1, 1000000000, rfl, h1, fun r1 => ?_, q1⟩
    obtain ⟨i, rfl, i0, i1⟩ := inr_int r1
    obtain rfl : v = V.int i := h1
    exact ⟨_, rfl, _, rfl, q2 _ rfl r1⟩
end K00

namespace K00
open PySem PySem.Spec PyProof.Rows L2 LL
variable {P : Program} {w : World} {K : PySem.W.Frag} {mg : Str → Option Value} {base : Heap}

theorem okV_BadValue (T : Tx K mg) : FnOk P w K mg base CX0 1 (He.ma K (He.ga K "BadValue") "__init__") T.fd_BadValue P_BadValue (sp_ExV K "BadValue" ["parameter"]) := by
  refine T.F_BadValue.ok sc_BadValue (fun vs H Q E h => ?_) (fun cdv A outer s H vs Q E hr h => ⟨_, PSs.nox (pss_cons (ps_ost (pv 0) (pv 1)) (pss_one (ps_ost (pv 0) (pe_tup (pa_cons pe_str (pa_cons (pe_tup (pa_cons (pv 1) pa_nil)) pa_nil)))))), ?_⟩)
  · obtain ⟨a, ns, rfl, hl, _⟩ := h
    show ns.length + 1 = _
    rw [hl]
    rfl
  · obtain ⟨a, ns, rfl, hl, ha, q⟩ := h
    match ns, hl with
    | [x0], _ =>
      simp only [tSeq, tAsg, tRet, tRetN, tDrop, tNext, tVar, tC, gName, tOp, tUn, rI, rI0, rU, tIfS, tTest, tB, tIf, tAnd, tOr, tNot, tAndV, tOrV, tNotV, tCall, tCons, tNil, tCB, tLst, tTup, tChain, CMul, CDiv, CPow, rEq, rNe, gSub, L2.start, LL.cxK0, LL.cxK1, List.map_cons, List.map_nil, List.length_cons, List.length_nil, List.replicate_succ, List.replicate_zero, List.cons_append, List.nil_append, List.append_nil, List.getElem?_cons_zero, List.getElem?_cons_succ, List.set_cons_zero, List.set_cons_succ, Nat.add_sub_cancel, Nat.reduceAdd, Nat.reduceSub, Option.some.injEq, V.int.injEq, V.bl.injEq, V.ref.injEq, V.str.injEq, List.cons.injEq, and_true, true_and, and_false, false_and, exists_eq_left, exists_eq_left', exists_and_left, exists_and_right, exists_eq, exists_eq', LL.if_dec, reduceCtorEq, exists_false, exists_const, or_false, false_or, if_true, if_false, LL.rInt1, LL.rMx, LL.rMn, and_assoc, Int.reduceNeg, Int.reduceLT, Int.reduceLE, Int.reduceMul, Int.reduceAdd, Int.reduceSub, Int.reducePow, Int.reduceToNat, Nat.reducePow, Nat.reduceLT, true_or, or_true, Bool.not_true, Bool.not_false, Bool.false_eq_true, Bool.or_false, Bool.or_true, Bool.true_or, Bool.false_or, decide_true, decide_false, not_true_eq_false, not_false_eq_true, LL.scal_int, LL.scal_bl, LL.scal_str, LL.isInt, LL.isBl, LL.isStr, LL.isLst, LL.isTup, LL.isDic, P_BadValue, tOst]
      refine ⟨_, T.v_BadValue.oex, T.v_BadValue.no "parameter" (by simp), .inl ⟨ha, fun dx hdx hne => ?_⟩⟩
      have e1 : upd (upd H dx (exd dx [("parameter", x0)])) a (exo a (He.ga K "BadValue") (some dx)) a = some (exo a (He.ga K "BadValue") (some dx)) := upd_same
      have e2 : upd (upd H dx (exd dx [("parameter", x0)])) a (exo a (He.ga K "BadValue") (some dx)) dx = some (exd dx [("parameter", x0)]) := by rw [upd_ne hne, upd_same]
      have e3 : ∀ b o, b ≠ a → H b = some o → upd (upd H dx (exd dx [("parameter", x0)])) a (exo a (He.ga K "BadValue") (some dx)) b = some o := fun b o hb e => by rw [upd_ne hb, upd_ne (ne_of_none e hdx)]; exact e
      generalize upd (upd H dx (exd dx [("parameter", x0)])) a (exo a (He.ga K "BadValue") (some dx)) = H1 at e1 e2 e3 ⊢
      refine ⟨by decide, ?_⟩
      intro p1 np1
      generalize hq : upd H1 p1 _ = H2
      have sH2 : Same H1 H2 := hq ▸ Same.new (Same.refl _) np1
      have ep1 := hq ▸ (upd_same (H := H1) (a := p1))
      clear hq
      replace e1 := sH2 _ _ e1
      replace e2 := sH2 _ _ e2
      refine ⟨by decide, ?_⟩
      intro p2 np2
      generalize hq : upd H2 p2 _ = H3
      have sH3 : Same H2 H3 := hq ▸ Same.new (Same.refl _) np2
      have ep2 := hq ▸ (upd_same (H := H2) (a := p2))
      clear hq
      replace e1 := sH3 _ _ e1
      replace e2 := sH3 _ _ e2
      replace ep1 := sH3 _ _ ep1
      refine ⟨_, T.v_BadValue.oex, T.v_BadValue.no "told" (by simp), .inr ⟨dx, e1, _, e2, by simp, ?_⟩⟩
      have nx1 : p1 ≠ dx := fun z => by rw [z, e2] at ep1; exact (show ¬ exd dx [("parameter", x0)] = .tup _ from exd_tup) (Option.some.inj ep1)
      have nx2 : p2 ≠ dx := fun z => by rw [z, e2] at ep2; exact (show ¬ exd dx [("parameter", x0)] = .tup _ from exd_tup) (Option.some.inj ep2)
      refine q _ ⟨dx, p1, p2, by rw [upd_ne hne.symm]; exact e1, upd_same, by rw [upd_ne nx1]; exact ep1, by rw [upd_ne nx2]; exact ep2⟩ (fun b o hb e => ?_)
      rw [upd_ne (ne_of_none e hdx)]
      exact sH3 _ _ (sH2 _ _ (e3 _ _ hb e))
theorem okV_Broken (T : Tx K mg) : FnOk P w K mg base CX0 1 (He.ma K (He.ga K "Broken") "__init__") T.fd_Broken P_Broken (sp_ExV K "Broken" ["place", "found", "due"]) := by
  refine T.F_Broken.ok sc_Broken (fun vs H Q E h => ?_) (fun cdv A outer s H vs Q E hr h => ⟨_, PSs.nox (pss_cons (ps_ost (pv 0) (pv 1)) (pss_cons (ps_ost (pv 0) (pv 2)) (pss_cons (ps_ost (pv 0) (pv 3)) (pss_one (ps_ost (pv 0) (pe_tup (pa_cons pe_str (pa_cons (pe_tup (pa_cons (pv 1) (pa_cons (pv 2) (pa_cons (pv 3) pa_nil)))) pa_nil)))))))), ?_⟩)
  · obtain ⟨a, ns, rfl, hl, _⟩ := h
    show ns.length + 1 = _
    rw [hl]
    rfl
  · obtain ⟨a, ns, rfl, hl, ha, q⟩ := h
    match ns, hl with
    | [x0, x1, x2], _ =>
      simp only [tSeq, tAsg, tRet, tRetN, tDrop, tNext, tVar, tC, gName, tOp, tUn, rI, rI0, rU, tIfS, tTest, tB, tIf, tAnd, tOr, tNot, tAndV, tOrV, tNotV, tCall, tCons, tNil, tCB, tLst, tTup, tChain, CMul, CDiv, CPow, rEq, rNe, gSub, L2.start, LL.cxK0, LL.cxK1, List.map_cons, List.map_nil, List.length_cons, List.length_nil, List.replicate_succ, List.replicate_zero, List.cons_append, List.nil_append, List.append_nil, List.getElem?_cons_zero, List.getElem?_cons_succ, List.set_cons_zero, List.set_cons_succ, Nat.add_sub_cancel, Nat.reduceAdd, Nat.reduceSub, Option.some.injEq, V.int.injEq, V.bl.injEq, V.ref.injEq, V.str.injEq, List.cons.injEq, and_true, true_and, and_false, false_and, exists_eq_left, exists_eq_left', exists_and_left, exists_and_right, exists_eq, exists_eq', LL.if_dec, reduceCtorEq, exists_false, exists_const, or_false, false_or, if_true, if_false, LL.rInt1, LL.rMx, LL.rMn, and_assoc, Int.reduceNeg, Int.reduceLT, Int.reduceLE, Int.reduceMul, Int.reduceAdd, Int.reduceSub, Int.reducePow, Int.reduceToNat, Nat.reducePow, Nat.reduceLT, true_or, or_true, Bool.not_true, Bool.not_false, Bool.false_eq_true, Bool.or_false, Bool.or_true, Bool.true_or, Bool.false_or, decide_true, decide_false, not_true_eq_false, not_false_eq_true, LL.scal_int, LL.scal_bl, LL.scal_str, LL.isInt, LL.isBl, LL.isStr, LL.isLst, LL.isTup, LL.isDic, P_Broken, tOst]
      refine ⟨_, T.v_Broken.oex, T.v_Broken.no "place" (by simp), .inl ⟨ha, fun dx hdx hne => ?_⟩⟩
      have e1 : upd (upd H dx (exd dx [("place", x0)])) a (exo a (He.ga K "Broken") (some dx)) a = some (exo a (He.ga K "Broken") (some dx)) := upd_same
      have e2 : upd (upd H dx (exd dx [("place", x0)])) a (exo a (He.ga K "Broken") (some dx)) dx = some (exd dx [("place", x0)]) := by rw [upd_ne hne, upd_same]
      have e3 : ∀ b o, b ≠ a → H b = some o → upd (upd H dx (exd dx [("place", x0)])) a (exo a (He.ga K "Broken") (some dx)) b = some o := fun b o hb e => by rw [upd_ne hb, upd_ne (ne_of_none e hdx)]; exact e
      generalize upd (upd H dx (exd dx [("place", x0)])) a (exo a (He.ga K "Broken") (some dx)) = H1 at e1 e2 e3 ⊢
      refine ⟨_, T.v_Broken.oex, T.v_Broken.no "found" (by simp), .inr ⟨dx, e1, _, e2, by simp, ?_⟩⟩
      replace e1 : upd H1 dx (exd dx [("found", x1), ("place", x0)]) a = some (exo a (He.ga K "Broken") (some dx)) := by rw [upd_ne hne.symm]; exact e1
      replace e2 : upd H1 dx (exd dx [("found", x1), ("place", x0)]) dx = some (exd dx [("found", x1), ("place", x0)]) := upd_same
      replace e3 : ∀ b o, b ≠ a → H b = some o → upd H1 dx (exd dx [("found", x1), ("place", x0)]) b = some o := fun b o hb e => by rw [upd_ne (ne_of_none e hdx)]; exact e3 b o hb e
      generalize upd H1 dx (exd dx [("found", x1), ("place", x0)]) = H2 at e1 e2 e3 ⊢
      refine ⟨_, T.v_Broken.oex, T.v_Broken.no "due" (by simp), .inr ⟨dx, e1, _, e2, by simp, ?_⟩⟩
      replace e1 : upd H2 dx (exd dx [("due", x2), ("found", x1), ("place", x0)]) a = some (exo a (He.ga K "Broken") (some dx)) := by rw [upd_ne hne.symm]; exact e1
      replace e2 : upd H2 dx (exd dx [("due", x2), ("found", x1), ("place", x0)]) dx = some (exd dx [("due", x2), ("found", x1), ("place", x0)]) := upd_same
      replace e3 : ∀ b o, b ≠ a → H b = some o → upd H2 dx (exd dx [("due", x2), ("found", x1), ("place", x0)]) b = some o := fun b o hb e => by rw [upd_ne (ne_of_none e hdx)]; exact e3 b o hb e
      generalize upd H2 dx (exd dx [("due", x2), ("found", x1), ("place", x0)]) = H3 at e1 e2 e3 ⊢
      refine ⟨by decide, ?_⟩
      intro p1 np1
      generalize hq : upd H3 p1 _ = H4
      have sH4 : Same H3 H4 := hq ▸ Same.new (Same.refl _) np1
      have ep1 := hq ▸ (upd_same (H := H3) (a := p1))
      clear hq
      replace e1 := sH4 _ _ e1
      replace e2 := sH4 _ _ e2
      refine ⟨by decide, ?_⟩
      intro p2 np2
      generalize hq : upd H4 p2 _ = H5
      have sH5 : Same H4 H5 := hq ▸ Same.new (Same.refl _) np2
      have ep2 := hq ▸ (upd_same (H := H4) (a := p2))
      clear hq
      replace e1 := sH5 _ _ e1
      replace e2 := sH5 _ _ e2
      replace ep1 := sH5 _ _ ep1
      refine ⟨_, T.v_Broken.oex, T.v_Broken.no "told" (by simp), .inr ⟨dx, e1, _, e2, by simp, ?_⟩⟩
      have nx1 : p1 ≠ dx := fun z => by rw [z, e2] at ep1; exact (show ¬ exd dx [("due", x2), ("found", x1), ("place", x0)] = .tup _ from exd_tup) (Option.some.inj ep1)
      have nx2 : p2 ≠ dx := fun z => by rw [z, e2] at ep2; exact (show ¬ exd dx [("due", x2), ("found", x1), ("place", x0)] = .tup _ from exd_tup) (Option.some.inj ep2)
      refine q _ ⟨dx, p1, p2, by rw [upd_ne hne.symm]; exact e1, upd_same, by rw [upd_ne nx1]; exact ep1, by rw [upd_ne nx2]; exact ep2⟩ (fun b o hb e => ?_)
      rw [upd_ne (ne_of_none e hdx)]
      exact sH5 _ _ (sH4 _ _ (e3 _ _ hb e))
theorem okV_Unknown (T : Tx K mg) : FnOk P w K mg base CX0 1 (He.ma K (He.ga K "Unknown") "__init__") T.fd_Unknown P_Unknown (sp_ExV K "Unknown" ["parameter"]) := by
  refine T.F_Unknown.ok sc_Unknown (fun vs H Q E h => ?_) (fun cdv A outer s H vs Q E hr h => ⟨_, PSs.nox (pss_cons (ps_ost (pv 0) (pv 1)) (pss_one (ps_ost (pv 0) (pe_tup (pa_cons pe_str (pa_cons (pe_tup (pa_cons (pv 1) pa_nil)) pa_nil)))))), ?_⟩)
  · obtain ⟨a, ns, rfl, hl, _⟩ := h
    show ns.length + 1 = _
    rw [hl]
    rfl
  · obtain ⟨a, ns, rfl, hl, ha, q⟩ := h
    match ns, hl with
    | [x0], _ =>
      simp only [tSeq, tAsg, tRet, tRetN, tDrop, tNext, tVar, tC, gName, tOp, tUn, rI, rI0, rU, tIfS, tTest, tB, tIf, tAnd, tOr, tNot, tAndV, tOrV, tNotV, tCall, tCons, tNil, tCB, tLst, tTup, tChain, CMul, CDiv, CPow, rEq, rNe, gSub, L2.start, LL.cxK0, LL.cxK1, List.map_cons, List.map_nil, List.length_cons, List.length_nil, List.replicate_succ, List.replicate_zero, List.cons_append, List.nil_append, List.append_nil, List.getElem?_cons_zero, List.getElem?_cons_succ, List.set_cons_zero, List.set_cons_succ, Nat.add_sub_cancel, Nat.reduceAdd, Nat.reduceSub, Option.some.injEq, V.int.injEq, V.bl.injEq, V.ref.injEq, V.str.injEq, List.cons.injEq, and_true, true_and, and_false, false_and, exists_eq_left, exists_eq_left', exists_and_left, exists_and_right, exists_eq, exists_eq', LL.if_dec, reduceCtorEq, exists_false, exists_const, or_false, false_or, if_true, if_false, LL.rInt1, LL.rMx, LL.rMn, and_assoc, Int.reduceNeg, Int.reduceLT, Int.reduceLE, Int.reduceMul, Int.reduceAdd, Int.reduceSub, Int.reducePow, Int.reduceToNat, Nat.reducePow, Nat.reduceLT, true_or, or_true, Bool.not_true, Bool.not_false, Bool.false_eq_true, Bool.or_false, Bool.or_true, Bool.true_or, Bool.false_or, decide_true, decide_false, not_true_eq_false, not_false_eq_true, LL.scal_int, LL.scal_bl, LL.scal_str, LL.isInt, LL.isBl, LL.isStr, LL.isLst, LL.isTup, LL.isDic, P_Unknown, tOst]
      refine ⟨_, T.v_Unknown.oex, T.v_Unknown.no "parameter" (by simp), .inl ⟨ha, fun dx hdx hne => ?_⟩⟩
      have e1 : upd (upd H dx (exd dx [("parameter", x0)])) a (exo a (He.ga K "Unknown") (some dx)) a = some (exo a (He.ga K "Unknown") (some dx)) := upd_same
      have e2 : upd (upd H dx (exd dx [("parameter", x0)])) a (exo a (He.ga K "Unknown") (some dx)) dx = some (exd dx [("parameter", x0)]) := by rw [upd_ne hne, upd_same]
      have e3 : ∀ b o, b ≠ a → H b = some o → upd (upd H dx (exd dx [("parameter", x0)])) a (exo a (He.ga K "Unknown") (some dx)) b = some o := fun b o hb e => by rw [upd_ne hb, upd_ne (ne_of_none e hdx)]; exact e
      generalize upd (upd H dx (exd dx [("parameter", x0)])) a (exo a (He.ga K "Unknown") (some dx)) = H1 at e1 e2 e3 ⊢
      refine ⟨by decide, ?_⟩
      intro p1 np1
      generalize hq : upd H1 p1 _ = H2
      have sH2 : Same H1 H2 := hq ▸ Same.new (Same.refl _) np1
      have ep1 := hq ▸ (upd_same (H := H1) (a := p1))
      clear hq
      replace e1 := sH2 _ _ e1
      replace e2 := sH2 _ _ e2
      refine ⟨by decide, ?_⟩
      intro p2 np2
      generalize hq : upd H2 p2 _ = H3
      have sH3 : Same H2 H3 := hq ▸ Same.new (Same.refl _) np2
      have ep2 := hq ▸ (upd_same (H := H2) (a := p2))
      clear hq
      replace e1 := sH3 _ _ e1
      replace e2 := sH3 _ _ e2
      replace ep1 := sH3 _ _ ep1
      refine ⟨_, T.v_Unknown.oex, T.v_Unknown.no "told" (by simp), .inr ⟨dx, e1, _, e2, by simp, ?_⟩⟩
      have nx1 : p1 ≠ dx := fun z => by rw [z, e2] at ep1; exact (show ¬ exd dx [("parameter", x0)] = .tup _ from exd_tup) (Option.some.inj ep1)
      have nx2 : p2 ≠ dx := fun z => by rw [z, e2] at ep2; exact (show ¬ exd dx [("parameter", x0)] = .tup _ from exd_tup) (Option.some.inj ep2)
      refine q _ ⟨dx, p1, p2, by rw [upd_ne hne.symm]; exact e1, upd_same, by rw [upd_ne nx1]; exact ep1, by rw [upd_ne nx2]; exact ep2⟩ (fun b o hb e => ?_)
      rw [upd_ne (ne_of_none e hdx)]
      exact sH3 _ _ (sH2 _ _ (e3 _ _ hb e))
theorem okV_NotHeld (T : Tx K mg) : FnOk P w K mg base CX0 1 (He.ma K (He.ga K "NotHeld") "__init__") T.fd_NotHeld P_NotHeld (sp_ExV K "NotHeld" ["place", "found"]) := by
  refine T.F_NotHeld.ok sc_NotHeld (fun vs H Q E h => ?_) (fun cdv A outer s H vs Q E hr h => ⟨_, PSs.nox (pss_cons (ps_ost (pv 0) (pv 1)) (pss_cons (ps_ost (pv 0) (pv 2)) (pss_one (ps_ost (pv 0) (pe_tup (pa_cons pe_str (pa_cons (pe_tup (pa_cons (pv 1) (pa_cons (pv 2) pa_nil))) pa_nil))))))), ?_⟩)
  · obtain ⟨a, ns, rfl, hl, _⟩ := h
    show ns.length + 1 = _
    rw [hl]
    rfl
  · obtain ⟨a, ns, rfl, hl, ha, q⟩ := h
    match ns, hl with
    | [x0, x1], _ =>
      simp only [tSeq, tAsg, tRet, tRetN, tDrop, tNext, tVar, tC, gName, tOp, tUn, rI, rI0, rU, tIfS, tTest, tB, tIf, tAnd, tOr, tNot, tAndV, tOrV, tNotV, tCall, tCons, tNil, tCB, tLst, tTup, tChain, CMul, CDiv, CPow, rEq, rNe, gSub, L2.start, LL.cxK0, LL.cxK1, List.map_cons, List.map_nil, List.length_cons, List.length_nil, List.replicate_succ, List.replicate_zero, List.cons_append, List.nil_append, List.append_nil, List.getElem?_cons_zero, List.getElem?_cons_succ, List.set_cons_zero, List.set_cons_succ, Nat.add_sub_cancel, Nat.reduceAdd, Nat.reduceSub, Option.some.injEq, V.int.injEq, V.bl.injEq, V.ref.injEq, V.str.injEq, List.cons.injEq, and_true, true_and, and_false, false_and, exists_eq_left, exists_eq_left', exists_and_left, exists_and_right, exists_eq, exists_eq', LL.if_dec, reduceCtorEq, exists_false, exists_const, or_false, false_or, if_true, if_false, LL.rInt1, LL.rMx, LL.rMn, and_assoc, Int.reduceNeg, Int.reduceLT, Int.reduceLE, Int.reduceMul, Int.reduceAdd, Int.reduceSub, Int.reducePow, Int.reduceToNat, Nat.reducePow, Nat.reduceLT, true_or, or_true, Bool.not_true, Bool.not_false, Bool.false_eq_true, Bool.or_false, Bool.or_true, Bool.true_or, Bool.false_or, decide_true, decide_false, not_true_eq_false, not_false_eq_true, LL.scal_int, LL.scal_bl, LL.scal_str, LL.isInt, LL.isBl, LL.isStr, LL.isLst, LL.isTup, LL.isDic, P_NotHeld, tOst]
      refine ⟨_, T.v_NotHeld.oex, T.v_NotHeld.no "place" (by simp), .inl ⟨ha, fun dx hdx hne => ?_⟩⟩
      have e1 : upd (upd H dx (exd dx [("place", x0)])) a (exo a (He.ga K "NotHeld") (some dx)) a = some (exo a (He.ga K "NotHeld") (some dx)) := upd_same
      have e2 : upd (upd H dx (exd dx [("place", x0)])) a (exo a (He.ga K "NotHeld") (some dx)) dx = some (exd dx [("place", x0)]) := by rw [upd_ne hne, upd_same]
      have e3 : ∀ b o, b ≠ a → H b = some o → upd (upd H dx (exd dx [("place", x0)])) a (exo a (He.ga K "NotHeld") (some dx)) b = some o := fun b o hb e => by rw [upd_ne hb, upd_ne (ne_of_none e hdx)]; exact e
      generalize upd (upd H dx (exd dx [("place", x0)])) a (exo a (He.ga K "NotHeld") (some dx)) = H1 at e1 e2 e3 ⊢
      refine ⟨_, T.v_NotHeld.oex, T.v_NotHeld.no "found" (by simp), .inr ⟨dx, e1, _, e2, by simp, ?_⟩⟩
      replace e1 : upd H1 dx (exd dx [("found", x1), ("place", x0)]) a = some (exo a (He.ga K "NotHeld") (some dx)) := by rw [upd_ne hne.symm]; exact e1
      replace e2 : upd H1 dx (exd dx [("found", x1), ("place", x0)]) dx = some (exd dx [("found", x1), ("place", x0)]) := upd_same
      replace e3 : ∀ b o, b ≠ a → H b = some o → upd H1 dx (exd dx [("found", x1), ("place", x0)]) b = some o := fun b o hb e => by rw [upd_ne (ne_of_none e hdx)]; exact e3 b o hb e
      generalize upd H1 dx (exd dx [("found", x1), ("place", x0)]) = H2 at e1 e2 e3 ⊢
      refine ⟨by decide, ?_⟩
      intro p1 np1
      generalize hq : upd H2 p1 _ = H3
      have sH3 : Same H2 H3 := hq ▸ Same.new (Same.refl _) np1
      have ep1 := hq ▸ (upd_same (H := H2) (a := p1))
      clear hq
      replace e1 := sH3 _ _ e1
      replace e2 := sH3 _ _ e2
      refine ⟨by decide, ?_⟩
      intro p2 np2
      generalize hq : upd H3 p2 _ = H4
      have sH4 : Same H3 H4 := hq ▸ Same.new (Same.refl _) np2
      have ep2 := hq ▸ (upd_same (H := H3) (a := p2))
      clear hq
      replace e1 := sH4 _ _ e1
      replace e2 := sH4 _ _ e2
      replace ep1 := sH4 _ _ ep1
      refine ⟨_, T.v_NotHeld.oex, T.v_NotHeld.no "told" (by simp), .inr ⟨dx, e1, _, e2, by simp, ?_⟩⟩
      have nx1 : p1 ≠ dx := fun z => by rw [z, e2] at ep1; exact (show ¬ exd dx [("found", x1), ("place", x0)] = .tup _ from exd_tup) (Option.some.inj ep1)
      have nx2 : p2 ≠ dx := fun z => by rw [z, e2] at ep2; exact (show ¬ exd dx [("found", x1), ("place", x0)] = .tup _ from exd_tup) (Option.some.inj ep2)
      refine q _ ⟨dx, p1, p2, by rw [upd_ne hne.symm]; exact e1, upd_same, by rw [upd_ne nx1]; exact ep1, by rw [upd_ne nx2]; exact ep2⟩ (fun b o hb e => ?_)
      rw [upd_ne (ne_of_none e hdx)]
      exact sH4 _ _ (sH3 _ _ (e3 _ _ hb e))
theorem okV_Fault (T : Tx K mg) : FnOk P w K mg base CX0 1 (He.ma K (He.ga K "Fault") "__init__") T.fd_Fault P_Fault (sp_ExV K "Fault" ["kind", "place"]) := by
  refine T.F_Fault.ok sc_Fault (fun vs H Q E h => ?_) (fun cdv A outer s H vs Q E hr h => ⟨_, PSs.nox (pss_cons (ps_ost (pv 0) (pv 1)) (pss_cons (ps_ost (pv 0) (pv 2)) (pss_one (ps_ost (pv 0) (pe_tup (pa_cons pe_str (pa_cons (pe_tup (pa_cons (pv 1) (pa_cons (pv 2) pa_nil))) pa_nil))))))), ?_⟩)
  · obtain ⟨a, ns, rfl, hl, _⟩ := h
    show ns.length + 1 = _
    rw [hl]
    rfl
  · obtain ⟨a, ns, rfl, hl, ha, q⟩ := h
    match ns, hl with
    | [x0, x1], _ =>
      simp only [tSeq, tAsg, tRet, tRetN, tDrop, tNext, tVar, tC, gName, tOp, tUn, rI, rI0, rU, tIfS, tTest, tB, tIf, tAnd, tOr, tNot, tAndV, tOrV, tNotV, tCall, tCons, tNil, tCB, tLst, tTup, tChain, CMul, CDiv, CPow, rEq, rNe, gSub, L2.start, LL.cxK0, LL.cxK1, List.map_cons, List.map_nil, List.length_cons, List.length_nil, List.replicate_succ, List.replicate_zero, List.cons_append, List.nil_append, List.append_nil, List.getElem?_cons_zero, List.getElem?_cons_succ, List.set_cons_zero, List.set_cons_succ, Nat.add_sub_cancel, Nat.reduceAdd, Nat.reduceSub, Option.some.injEq, V.int.injEq, V.bl.injEq, V.ref.injEq, V.str.injEq, List.cons.injEq, and_true, true_and, and_false, false_and, exists_eq_left, exists_eq_left', exists_and_left, exists_and_right, exists_eq, exists_eq', LL.if_dec, reduceCtorEq, exists_false, exists_const, or_false, false_or, if_true, if_false, LL.rInt1, LL.rMx, LL.rMn, and_assoc, Int.reduceNeg, Int.reduceLT, Int.reduceLE, Int.reduceMul, Int.reduceAdd, Int.reduceSub, Int.reducePow, Int.reduceToNat, Nat.reducePow, Nat.reduceLT, true_or, or_true, Bool.not_true, Bool.not_false, Bool.false_eq_true, Bool.or_false, Bool.or_true, Bool.true_or, Bool.false_or, decide_true, decide_false, not_true_eq_false, not_false_eq_true, LL.scal_int, LL.scal_bl, LL.scal_str, LL.isInt, LL.isBl, LL.isStr, LL.isLst, LL.isTup, LL.isDic, P_Fault, tOst]
      refine ⟨_, T.v_Fault.oex, T.v_Fault.no "kind" (by simp), .inl ⟨ha, fun dx hdx hne => ?_⟩⟩
      have e1 : upd (upd H dx (exd dx [("kind", x0)])) a (exo a (He.ga K "Fault") (some dx)) a = some (exo a (He.ga K "Fault") (some dx)) := upd_same
      have e2 : upd (upd H dx (exd dx [("kind", x0)])) a (exo a (He.ga K "Fault") (some dx)) dx = some (exd dx [("kind", x0)]) := by rw [upd_ne hne, upd_same]
      have e3 : ∀ b o, b ≠ a → H b = some o → upd (upd H dx (exd dx [("kind", x0)])) a (exo a (He.ga K "Fault") (some dx)) b = some o := fun b o hb e => by rw [upd_ne hb, upd_ne (ne_of_none e hdx)]; exact e
      generalize upd (upd H dx (exd dx [("kind", x0)])) a (exo a (He.ga K "Fault") (some dx)) = H1 at e1 e2 e3 ⊢
      refine ⟨_, T.v_Fault.oex, T.v_Fault.no "place" (by simp), .inr ⟨dx, e1, _, e2, by simp, ?_⟩⟩
      replace e1 : upd H1 dx (exd dx [("place", x1), ("kind", x0)]) a = some (exo a (He.ga K "Fault") (some dx)) := by rw [upd_ne hne.symm]; exact e1
      replace e2 : upd H1 dx (exd dx [("place", x1), ("kind", x0)]) dx = some (exd dx [("place", x1), ("kind", x0)]) := upd_same
      replace e3 : ∀ b o, b ≠ a → H b = some o → upd H1 dx (exd dx [("place", x1), ("kind", x0)]) b = some o := fun b o hb e => by rw [upd_ne (ne_of_none e hdx)]; exact e3 b o hb e
      generalize upd H1 dx (exd dx [("place", x1), ("kind", x0)]) = H2 at e1 e2 e3 ⊢
      refine ⟨by decide, ?_⟩
      intro p1 np1
      generalize hq : upd H2 p1 _ = H3
      have sH3 : Same H2 H3 := hq ▸ Same.new (Same.refl _) np1
      have ep1 := hq ▸ (upd_same (H := H2) (a := p1))
      clear hq
      replace e1 := sH3 _ _ e1
      replace e2 := sH3 _ _ e2
      refine ⟨by decide, ?_⟩
      intro p2 np2
      generalize hq : upd H3 p2 _ = H4
      have sH4 : Same H3 H4 := hq ▸ Same.new (Same.refl _) np2
      have ep2 := hq ▸ (upd_same (H := H3) (a := p2))
      clear hq
      replace e1 := sH4 _ _ e1
      replace e2 := sH4 _ _ e2
      replace ep1 := sH4 _ _ ep1
      refine ⟨_, T.v_Fault.oex, T.v_Fault.no "told" (by simp), .inr ⟨dx, e1, _, e2, by simp, ?_⟩⟩
      have nx1 : p1 ≠ dx := fun z => by rw [z, e2] at ep1; exact (show ¬ exd dx [("place", x1), ("kind", x0)] = .tup _ from exd_tup) (Option.some.inj ep1)
      have nx2 : p2 ≠ dx := fun z => by rw [z, e2] at ep2; exact (show ¬ exd dx [("place", x1), ("kind", x0)] = .tup _ from exd_tup) (Option.some.inj ep2)
      refine q _ ⟨dx, p1, p2, by rw [upd_ne hne.symm]; exact e1, upd_same, by rw [upd_ne nx1]; exact ep1, by rw [upd_ne nx2]; exact ep2⟩ (fun b o hb e => ?_)
      rw [upd_ne (ne_of_none e hdx)]
      exact sH4 _ _ (sH3 _ _ (e3 _ _ hb e))
theorem okV_NoRoom (T : Tx K mg) : FnOk P w K mg base CX0 1 (He.ma K (He.ga K "NoRoom") "__init__") T.fd_NoRoom P_NoRoom (sp_ExV K "NoRoom" ["paper"]) := by
  refine T.F_NoRoom.ok sc_NoRoom (fun vs H Q E h => ?_) (fun cdv A outer s H vs Q E hr h => ⟨_, PSs.nox (pss_cons (ps_ost (pv 0) (pv 1)) (pss_one (ps_ost (pv 0) (pe_tup (pa_cons pe_str (pa_cons (pe_tup (pa_cons (pv 1) pa_nil)) pa_nil)))))), ?_⟩)
  · obtain ⟨a, ns, rfl, hl, _⟩ := h
    show ns.length + 1 = _
    rw [hl]
    rfl
  · obtain ⟨a, ns, rfl, hl, ha, q⟩ := h
    match ns, hl with
    | [x0], _ =>
      simp only [tSeq, tAsg, tRet, tRetN, tDrop, tNext, tVar, tC, gName, tOp, tUn, rI, rI0, rU, tIfS, tTest, tB, tIf, tAnd, tOr, tNot, tAndV, tOrV, tNotV, tCall, tCons, tNil, tCB, tLst, tTup, tChain, CMul, CDiv, CPow, rEq, rNe, gSub, L2.start, LL.cxK0, LL.cxK1, List.map_cons, List.map_nil, List.length_cons, List.length_nil, List.replicate_succ, List.replicate_zero, List.cons_append, List.nil_append, List.append_nil, List.getElem?_cons_zero, List.getElem?_cons_succ, List.set_cons_zero, List.set_cons_succ, Nat.add_sub_cancel, Nat.reduceAdd, Nat.reduceSub, Option.some.injEq, V.int.injEq, V.bl.injEq, V.ref.injEq, V.str.injEq, List.cons.injEq, and_true, true_and, and_false, false_and, exists_eq_left, exists_eq_left', exists_and_left, exists_and_right, exists_eq, exists_eq', LL.if_dec, reduceCtorEq, exists_false, exists_const, or_false, false_or, if_true, if_false, LL.rInt1, LL.rMx, LL.rMn, and_assoc, Int.reduceNeg, Int.reduceLT, Int.reduceLE, Int.reduceMul, Int.reduceAdd, Int.reduceSub, Int.reducePow, Int.reduceToNat, Nat.reducePow, Nat.reduceLT, true_or, or_true, Bool.not_true, Bool.not_false, Bool.false_eq_true, Bool.or_false, Bool.or_true, Bool.true_or, Bool.false_or, decide_true, decide_false, not_true_eq_false, not_false_eq_true, LL.scal_int, LL.scal_bl, LL.scal_str, LL.isInt, LL.isBl, LL.isStr, LL.isLst, LL.isTup, LL.isDic, P_NoRoom, tOst]
      refine ⟨_, T.v_NoRoom.oex, T.v_NoRoom.no "paper" (by simp), .inl ⟨ha, fun dx hdx hne => ?_⟩⟩
      have e1 : upd (upd H dx (exd dx [("paper", x0)])) a (exo a (He.ga K "NoRoom") (some dx)) a = some (exo a (He.ga K "NoRoom") (some dx)) := upd_same
      have e2 : upd (upd H dx (exd dx [("paper", x0)])) a (exo a (He.ga K "NoRoom") (some dx)) dx = some (exd dx [("paper", x0)]) := by rw [upd_ne hne, upd_same]
      have e3 : ∀ b o, b ≠ a → H b = some o → upd (upd H dx (exd dx [("paper", x0)])) a (exo a (He.ga K "NoRoom") (some dx)) b = some o := fun b o hb e => by rw [upd_ne hb, upd_ne (ne_of_none e hdx)]; exact e
      generalize upd (upd H dx (exd dx [("paper", x0)])) a (exo a (He.ga K "NoRoom") (some dx)) = H1 at e1 e2 e3 ⊢
      refine ⟨by decide, ?_⟩
      intro p1 np1
      generalize hq : upd H1 p1 _ = H2
      have sH2 : Same H1 H2 := hq ▸ Same.new (Same.refl _) np1
      have ep1 := hq ▸ (upd_same (H := H1) (a := p1))
      clear hq
      replace e1 := sH2 _ _ e1
      replace e2 := sH2 _ _ e2
      refine ⟨by decide, ?_⟩
      intro p2 np2
      generalize hq : upd H2 p2 _ = H3
      have sH3 : Same H2 H3 := hq ▸ Same.new (Same.refl _) np2
      have ep2 := hq ▸ (upd_same (H := H2) (a := p2))
      clear hq
      replace e1 := sH3 _ _ e1
      replace e2 := sH3 _ _ e2
      replace ep1 := sH3 _ _ ep1
      refine ⟨_, T.v_NoRoom.oex, T.v_NoRoom.no "told" (by simp), .inr ⟨dx, e1, _, e2, by simp, ?_⟩⟩
      have nx1 : p1 ≠ dx := fun z => by rw [z, e2] at ep1; exact (show ¬ exd dx [("paper", x0)] = .tup _ from exd_tup) (Option.some.inj ep1)
      have nx2 : p2 ≠ dx := fun z => by rw [z, e2] at ep2; exact (show ¬ exd dx [("paper", x0)] = .tup _ from exd_tup) (Option.some.inj ep2)
      refine q _ ⟨dx, p1, p2, by rw [upd_ne hne.symm]; exact e1, upd_same, by rw [upd_ne nx1]; exact ep1, by rw [upd_ne nx2]; exact ep2⟩ (fun b o hb e => ?_)
      rw [upd_ne (ne_of_none e hdx)]
      exact sH3 _ _ (sH2 _ _ (e3 _ _ hb e))
theorem okV_Cut (T : Tx K mg) : FnOk P w K mg base CX0 1 (He.ma K (He.ga K "Cut") "__init__") T.fd_Cut P_Cut (sp_ExV K "Cut" ["needed", "left"]) := by
  refine T.F_Cut.ok sc_Cut (fun vs H Q E h => ?_) (fun cdv A outer s H vs Q E hr h => ⟨_, PSs.nox (pss_cons (ps_ost (pv 0) (pv 1)) (pss_cons (ps_ost (pv 0) (pv 2)) (pss_one (ps_ost (pv 0) (pe_tup (pa_cons pe_str (pa_cons (pe_tup (pa_cons (pv 1) (pa_cons (pv 2) pa_nil))) pa_nil))))))), ?_⟩)
  · obtain ⟨a, ns, rfl, hl, _⟩ := h
    show ns.length + 1 = _
    rw [hl]
    rfl
  · obtain ⟨a, ns, rfl, hl, ha, q⟩ := h
    match ns, hl with
    | [x0, x1], _ =>
      simp only [tSeq, tAsg, tRet, tRetN, tDrop, tNext, tVar, tC, gName, tOp, tUn, rI, rI0, rU, tIfS, tTest, tB, tIf, tAnd, tOr, tNot, tAndV, tOrV, tNotV, tCall, tCons, tNil, tCB, tLst, tTup, tChain, CMul, CDiv, CPow, rEq, rNe, gSub, L2.start, LL.cxK0, LL.cxK1, List.map_cons, List.map_nil, List.length_cons, List.length_nil, List.replicate_succ, List.replicate_zero, List.cons_append, List.nil_append, List.append_nil, List.getElem?_cons_zero, List.getElem?_cons_succ, List.set_cons_zero, List.set_cons_succ, Nat.add_sub_cancel, Nat.reduceAdd, Nat.reduceSub, Option.some.injEq, V.int.injEq, V.bl.injEq, V.ref.injEq, V.str.injEq, List.cons.injEq, and_true, true_and, and_false, false_and, exists_eq_left, exists_eq_left', exists_and_left, exists_and_right, exists_eq, exists_eq', LL.if_dec, reduceCtorEq, exists_false, exists_const, or_false, false_or, if_true, if_false, LL.rInt1, LL.rMx, LL.rMn, and_assoc, Int.reduceNeg, Int.reduceLT, Int.reduceLE, Int.reduceMul, Int.reduceAdd, Int.reduceSub, Int.reducePow, Int.reduceToNat, Nat.reducePow, Nat.reduceLT, true_or, or_true, Bool.not_true, Bool.not_false, Bool.false_eq_true, Bool.or_false, Bool.or_true, Bool.true_or, Bool.false_or, decide_true, decide_false, not_true_eq_false, not_false_eq_true, LL.scal_int, LL.scal_bl, LL.scal_str, LL.isInt, LL.isBl, LL.isStr, LL.isLst, LL.isTup, LL.isDic, P_Cut, tOst]
      refine ⟨_, T.v_Cut.oex, T.v_Cut.no "needed" (by simp), .inl ⟨ha, fun dx hdx hne => ?_⟩⟩
      have e1 : upd (upd H dx (exd dx [("needed", x0)])) a (exo a (He.ga K "Cut") (some dx)) a = some (exo a (He.ga K "Cut") (some dx)) := upd_same
      have e2 : upd (upd H dx (exd dx [("needed", x0)])) a (exo a (He.ga K "Cut") (some dx)) dx = some (exd dx [("needed", x0)]) := by rw [upd_ne hne, upd_same]
      have e3 : ∀ b o, b ≠ a → H b = some o → upd (upd H dx (exd dx [("needed", x0)])) a (exo a (He.ga K "Cut") (some dx)) b = some o := fun b o hb e => by rw [upd_ne hb, upd_ne (ne_of_none e hdx)]; exact e
      generalize upd (upd H dx (exd dx [("needed", x0)])) a (exo a (He.ga K "Cut") (some dx)) = H1 at e1 e2 e3 ⊢
      refine ⟨_, T.v_Cut.oex, T.v_Cut.no "left" (by simp), .inr ⟨dx, e1, _, e2, by simp, ?_⟩⟩
      replace e1 : upd H1 dx (exd dx [("left", x1), ("needed", x0)]) a = some (exo a (He.ga K "Cut") (some dx)) := by rw [upd_ne hne.symm]; exact e1
      replace e2 : upd H1 dx (exd dx [("left", x1), ("needed", x0)]) dx = some (exd dx [("left", x1), ("needed", x0)]) := upd_same
      replace e3 : ∀ b o, b ≠ a → H b = some o → upd H1 dx (exd dx [("left", x1), ("needed", x0)]) b = some o := fun b o hb e => by rw [upd_ne (ne_of_none e hdx)]; exact e3 b o hb e
      generalize upd H1 dx (exd dx [("left", x1), ("needed", x0)]) = H2 at e1 e2 e3 ⊢
      refine ⟨by decide, ?_⟩
      intro p1 np1
      generalize hq : upd H2 p1 _ = H3
      have sH3 : Same H2 H3 := hq ▸ Same.new (Same.refl _) np1
      have ep1 := hq ▸ (upd_same (H := H2) (a := p1))
      clear hq
      replace e1 := sH3 _ _ e1
      replace e2 := sH3 _ _ e2
      refine ⟨by decide, ?_⟩
      intro p2 np2
      generalize hq : upd H3 p2 _ = H4
      have sH4 : Same H3 H4 := hq ▸ Same.new (Same.refl _) np2
      have ep2 := hq ▸ (upd_same (H := H3) (a := p2))
      clear hq
      replace e1 := sH4 _ _ e1
      replace e2 := sH4 _ _ e2
      replace ep1 := sH4 _ _ ep1
      refine ⟨_, T.v_Cut.oex, T.v_Cut.no "told" (by simp), .inr ⟨dx, e1, _, e2, by simp, ?_⟩⟩
      have nx1 : p1 ≠ dx := fun z => by rw [z, e2] at ep1; exact (show ¬ exd dx [("left", x1), ("needed", x0)] = .tup _ from exd_tup) (Option.some.inj ep1)
      have nx2 : p2 ≠ dx := fun z => by rw [z, e2] at ep2; exact (show ¬ exd dx [("left", x1), ("needed", x0)] = .tup _ from exd_tup) (Option.some.inj ep2)
      refine q _ ⟨dx, p1, p2, by rw [upd_ne hne.symm]; exact e1, upd_same, by rw [upd_ne nx1]; exact ep1, by rw [upd_ne nx2]; exact ep2⟩ (fun b o hb e => ?_)
      rw [upd_ne (ne_of_none e hdx)]
      exact sH4 _ _ (sH3 _ _ (e3 _ _ hb e))
theorem okV_BadLine (T : Tx K mg) : FnOk P w K mg base CX0 1 (He.ma K (He.ga K "BadLine") "__init__") T.fd_BadLine P_BadLine (sp_ExV K "BadLine" ["line", "column"]) := by
  refine T.F_BadLine.ok sc_BadLine (fun vs H Q E h => ?_) (fun cdv A outer s H vs Q E hr h => ⟨_, PSs.nox (pss_cons (ps_ost (pv 0) (pv 1)) (pss_cons (ps_ost (pv 0) (pv 2)) (pss_one (ps_ost (pv 0) (pe_tup (pa_cons pe_str (pa_cons (pe_tup (pa_cons (pv 1) (pa_cons (pv 2) pa_nil))) pa_nil))))))), ?_⟩)
  · obtain ⟨a, ns, rfl, hl, _⟩ := h
    show ns.length + 1 = _
    rw [hl]
    rfl
  · obtain ⟨a, ns, rfl, hl, ha, q⟩ := h
    match ns, hl with
    | [x0, x1], _ =>
      simp only [tSeq, tAsg, tRet, tRetN, tDrop, tNext, tVar, tC, gName, tOp, tUn, rI, rI0, rU, tIfS, tTest, tB, tIf, tAnd, tOr, tNot, tAndV, tOrV, tNotV, tCall, tCons, tNil, tCB, tLst, tTup, tChain, CMul, CDiv, CPow, rEq, rNe, gSub, L2.start, LL.cxK0, LL.cxK1, List.map_cons, List.map_nil, List.length_cons, List.length_nil, List.replicate_succ, List.replicate_zero, List.cons_append, List.nil_append, List.append_nil, List.getElem?_cons_zero, List.getElem?_cons_succ, List.set_cons_zero, List.set_cons_succ, Nat.add_sub_cancel, Nat.reduceAdd, Nat.reduceSub, Option.some.injEq, V.int.injEq, V.bl.injEq, V.ref.injEq, V.str.injEq, List.cons.injEq, and_true, true_and, and_false, false_and, exists_eq_left, exists_eq_left', exists_and_left, exists_and_right, exists_eq, exists_eq', LL.if_dec, reduceCtorEq, exists_false, exists_const, or_false, false_or, if_true, if_false, LL.rInt1, LL.rMx, LL.rMn, and_assoc, Int.reduceNeg, Int.reduceLT, Int.reduceLE, Int.reduceMul, Int.reduceAdd, Int.reduceSub, Int.reducePow, Int.reduceToNat, Nat.reducePow, Nat.reduceLT, true_or, or_true, Bool.not_true, Bool.not_false, Bool.false_eq_true, Bool.or_false, Bool.or_true, Bool.true_or, Bool.false_or, decide_true, decide_false, not_true_eq_false, not_false_eq_true, LL.scal_int, LL.scal_bl, LL.scal_str, LL.isInt, LL.isBl, LL.isStr, LL.isLst, LL.isTup, LL.isDic, P_BadLine, tOst]
      refine ⟨_, T.v_BadLine.oex, T.v_BadLine.no "line" (by simp), .inl ⟨ha, fun dx hdx hne => ?_⟩⟩
      have e1 : upd (upd H dx (exd dx [("line", x0)])) a (exo a (He.ga K "BadLine") (some dx)) a = some (exo a (He.ga K "BadLine") (some dx)) := upd_same
      have e2 : upd (upd H dx (exd dx [("line", x0)])) a (exo a (He.ga K "BadLine") (some dx)) dx = some (exd dx [("line", x0)]) := by rw [upd_ne hne, upd_same]
      have e3 : ∀ b o, b ≠ a → H b = some o → upd (upd H dx (exd dx [("line", x0)])) a (exo a (He.ga K "BadLine") (some dx)) b = some o := fun b o hb e => by rw [upd_ne hb, upd_ne (ne_of_none e hdx)]; exact e
      generalize upd (upd H dx (exd dx [("line", x0)])) a (exo a (He.ga K "BadLine") (some dx)) = H1 at e1 e2 e3 ⊢
      refine ⟨_, T.v_BadLine.oex, T.v_BadLine.no "column" (by simp), .inr ⟨dx, e1, _, e2, by simp, ?_⟩⟩
      replace e1 : upd H1 dx (exd dx [("column", x1), ("line", x0)]) a = some (exo a (He.ga K "BadLine") (some dx)) := by rw [upd_ne hne.symm]; exact e1
      replace e2 : upd H1 dx (exd dx [("column", x1), ("line", x0)]) dx = some (exd dx [("column", x1), ("line", x0)]) := upd_same
      replace e3 : ∀ b o, b ≠ a → H b = some o → upd H1 dx (exd dx [("column", x1), ("line", x0)]) b = some o := fun b o hb e => by rw [upd_ne (ne_of_none e hdx)]; exact e3 b o hb e
      generalize upd H1 dx (exd dx [("column", x1), ("line", x0)]) = H2 at e1 e2 e3 ⊢
      refine ⟨by decide, ?_⟩
      intro p1 np1
      generalize hq : upd H2 p1 _ = H3
      have sH3 : Same H2 H3 := hq ▸ Same.new (Same.refl _) np1
      have ep1 := hq ▸ (upd_same (H := H2) (a := p1))
      clear hq
      replace e1 := sH3 _ _ e1
      replace e2 := sH3 _ _ e2
      refine ⟨by decide, ?_⟩
      intro p2 np2
      generalize hq : upd H3 p2 _ = H4
      have sH4 : Same H3 H4 := hq ▸ Same.new (Same.refl _) np2
      have ep2 := hq ▸ (upd_same (H := H3) (a := p2))
      clear hq
      replace e1 := sH4 _ _ e1
      replace e2 := sH4 _ _ e2
      replace ep1 := sH4 _ _ ep1
      refine ⟨_, T.v_BadLine.oex, T.v_BadLine.no "told" (by simp), .inr ⟨dx, e1, _, e2, by simp, ?_⟩⟩
      have nx1 : p1 ≠ dx := fun z => by rw [z, e2] at ep1; exact (show ¬ exd dx [("column", x1), ("line", x0)] = .tup _ from exd_tup) (Option.some.inj ep1)
      have nx2 : p2 ≠ dx := fun z => by rw [z, e2] at ep2; exact (show ¬ exd dx [("column", x1), ("line", x0)] = .tup _ from exd_tup) (Option.some.inj ep2)
      refine q _ ⟨dx, p1, p2, by rw [upd_ne hne.symm]; exact e1, upd_same, by rw [upd_ne nx1]; exact ep1, by rw [upd_ne nx2]; exact ep2⟩ (fun b o hb e => ?_)
      rw [upd_ne (ne_of_none e hdx)]
      exact sH4 _ _ (sH3 _ _ (e3 _ _ hb e))
theorem use_isV {K : PySem.W.Frag} {a : Addr} {n title : Str} {fs : List Str} {k : Nat} {vs : List V} {c : V} {cv : Value} {b : Bool} {H : Hp} {Q : VK} (i : Nat) (h : ExAt K n title fs a vs H) (hv : ExV K n fs k) (hc : ClsV c cv) (h1 : (kindsV K)[i]? = some cv) (h2 : (bitsV k)[i]? = some b) (q : Q (.bl b) H) : rIsV K [.ref a, c] H Q := by
  obtain ⟨d, p1, p2, e1, e2, _⟩ := h
  exact ⟨a, _, d, c, cv, b, _, rfl, e1, e2, hv.dd, hc, hv.kit h1 h2, q⟩
def kindsTV (k : Nat) : LL.T := .lst ((bitsV k).map LL.T.bl)
def sp_kindsV (K : PySem.W.Frag) : Sp := fun vs H Q _ => ∃ (a : Addr) (n title : Str) (fs : List Str) (k : Nat) (ws : List V), vs = [.ref a] ∧ ExAt K n title fs a ws H ∧ ExV K n fs k ∧ ∀ r H', Same H H' → Dt (fun b => H b = none) H' r (kindsTV k) → Q r H'
theorem bls_dt {F : Addr → Prop} {H : Hp} : ∀ ns : List Bool, DtL F H (ns.map V.bl) (ns.map LL.T.bl)
  | [] => rfl
  | n :: ns => .cons rfl (bls_dt ns)

theorem okV_law_kinds (T : Tx K mg) : FnOk P w K mg base CX0 1 (He.ga K "_law_kinds") T.fd_law_kinds P_law_kinds (sp_kindsV K) := by
  refine T.F_law_kinds.ok sc_law_kinds (fun vs H Q E h => ?_) (fun cdv A outer s H vs Q E hr h => ⟨_, PSs.nox (pss_one (ps_ret (pe_lst (pa_cons (pe_callB LL.call_isV (by rfl) T.z_isinstance (by decide +kernel) (pa_cons (pv 0) (pa_cons (pe_glob (v := .ref (He.ga K "StoreError")) (u := .ref (He.ga K "StoreError")) rfl T.g_StoreError rfl) pa_nil))) (pa_cons (pe_callB LL.call_isV (by rfl) T.z_isinstance (by decide +kernel) (pa_cons (pv 0) (pa_cons (pe_bltn (v := .ty "ValueError") (u := .type "ValueError") (by rfl) T.z_ValueError (by decide +kernel) rfl) pa_nil))) (pa_cons (pe_callB LL.call_isV (by rfl) T.z_isinstance (by decide +kernel) (pa_cons (pv 0) (pa_cons (pe_glob (v := .ref (He.ga K "BadValue")) (u := .ref (He.ga K "BadValue")) rfl T.g_BadValue rfl) pa_nil))) (pa_cons (pe_callB LL.call_isV (by rfl) T.z_isinstance (by decide +kernel) (pa_cons (pv 0) (pa_cons (pe_glob (v := .ref (He.ga K "Broken")) (u := .ref (He.ga K "Broken")) rfl T.g_Broken rfl) pa_nil))) (pa_cons (pe_callB LL.call_isV (by rfl) T.z_isinstance (by decide +kernel) (pa_cons (pv 0) (pa_cons (pe_glob (v := .ref (He.ga K "Unknown")) (u := .ref (He.ga K "Unknown")) rfl T.g_Unknown rfl) pa_nil))) (pa_cons (pe_callB LL.call_isV (by rfl) T.z_isinstance (by decide +kernel) (pa_cons (pv 0) (pa_cons (pe_glob (v := .ref (He.ga K "NotHeld")) (u := .ref (He.ga K "NotHeld")) rfl T.g_NotHeld rfl) pa_nil))) (pa_cons (pe_callB LL.call_isV (by rfl) T.z_isinstance (by decide +kernel) (pa_cons (pv 0) (pa_cons (pe_glob (v := .ref (He.ga K "Fault")) (u := .ref (He.ga K "Fault")) rfl T.g_Fault rfl) pa_nil))) (pa_cons (pe_callB LL.call_isV (by rfl) T.z_isinstance (by decide +kernel) (pa_cons (pv 0) (pa_cons (pe_glob (v := .ref (He.ga K "NoRoom")) (u := .ref (He.ga K "NoRoom")) rfl T.g_NoRoom rfl) pa_nil))) (pa_cons (pe_callB LL.call_isV (by rfl) T.z_isinstance (by decide +kernel) (pa_cons (pv 0) (pa_cons (pe_glob (v := .ref (He.ga K "Cut")) (u := .ref (He.ga K "Cut")) rfl T.g_Cut rfl) pa_nil))) (pa_cons (pe_callB LL.call_isV (by rfl) T.z_isinstance (by decide +kernel) (pa_cons (pv 0) (pa_cons (pe_glob (v := .ref (He.ga K "BadLine")) (u := .ref (He.ga K "BadLine")) rfl T.g_BadLine rfl) pa_nil))) pa_nil))))))))))))), ?_⟩)
  · obtain ⟨_, _, _, _, _, _, rfl, _⟩ := h
    rfl
  · obtain ⟨a, n, title, fs, k, ws, rfl, h, hv, q⟩ := h
    simp only [tSeq, tAsg, tRet, tRetN, tDrop, tNext, tVar, tC, gName, tOp, tUn, rI, rI0, rU, tIfS, tTest, tB, tIf, tAnd, tOr, tNot, tAndV, tOrV, tNotV, tCall, tCons, tNil, tCB, tLst, tTup, tChain, CMul, CDiv, CPow, rEq, rNe, gSub, L2.start, LL.cxK0, LL.cxK1, List.map_cons, List.map_nil, List.length_cons, List.length_nil, List.replicate_succ, List.replicate_zero, List.cons_append, List.nil_append, List.append_nil, List.getElem?_cons_zero, List.getElem?_cons_succ, List.set_cons_zero, List.set_cons_succ, Nat.add_sub_cancel, Nat.reduceAdd, Nat.reduceSub, Option.some.injEq, V.int.injEq, V.bl.injEq, V.ref.injEq, V.str.injEq, List.cons.injEq, and_true, true_and, and_false, false_and, exists_eq_left, exists_eq_left', exists_and_left, exists_and_right, exists_eq, exists_eq', LL.if_dec, reduceCtorEq, exists_false, exists_const, or_false, false_or, if_true, if_false, LL.rInt1, LL.rMx, LL.rMn, and_assoc, Int.reduceNeg, Int.reduceLT, Int.reduceLE, Int.reduceMul, Int.reduceAdd, Int.reduceSub, Int.reducePow, Int.reduceToNat, Nat.reducePow, Nat.reduceLT, true_or, or_true, Bool.not_true, Bool.not_false, Bool.false_eq_true, Bool.or_false, Bool.or_true, Bool.true_or, Bool.false_or, decide_true, decide_false, not_true_eq_false, not_false_eq_true, LL.scal_int, LL.scal_bl, LL.scal_str, LL.isInt, LL.isBl, LL.isStr, LL.isLst, LL.isTup, LL.isDic, N_law_kinds]
    refine use_isV 0 h hv (.own _) rfl rfl (use_isV 1 h hv (.ty _) rfl rfl (use_isV 2 h hv (.own _) rfl rfl (use_isV 3 h hv (.own _) rfl rfl (use_isV 4 h hv (.own _) rfl rfl (use_isV 5 h hv (.own _) rfl rfl (use_isV 6 h hv (.own _) rfl rfl (use_isV 7 h hv (.own _) rfl rfl (use_isV 8 h hv (.own _) rfl rfl (use_isV 9 h hv (.own _) rfl rfl ?_)))))))))
    refine ⟨by decide, ?_⟩
    intro p np
    generalize hq : upd H p _ = H1
    have sH1 : Same H H1 := hq ▸ Same.new (Same.refl _) np
    have ep := hq ▸ (upd_same (H := H) (a := p))
    clear hq
    exact q _ _ sH1 ⟨p, _, rfl, np, ep, bls_dt (bitsV k), by simp [bitsV]⟩
theorem use_told {K : PySem.W.Frag} {a : Addr} {n title : Str} {fs : List Str} {k : Nat} {vs : List V} {te : TE} {σ : L2.St} {H : Hp} {Q : VK} (ht : ∀ Q : VK, Q (.ref a) H → te σ H Q) (h : ExAt K n title fs a vs H) (hv : ExV K n fs k) (q : ∀ p1 p2, H p1 = some (.tup vs) → H p2 = some (.tup [.str title, .ref p1]) → Q (.ref p2) H) : tXv K "told" te σ H Q := by
  obtain ⟨d, p1, p2, e1, e2, e3, e4⟩ := h
  exact ht _ ⟨a, _, d, _, .ref p2, rfl, e1, e2, hv.xf, hv.no "told" (by simp), by simp [List.lookup], q p1 p2 e3 e4⟩
theorem dep_kindsTV (k : Nat) : dep (kindsTV k) ≤ 1 := by simp [kindsTV, bitsV, dep, depL]
theorem use_mk {K : PySem.W.Frag} {n : Str} {fs : List Str} {ns : List V} {H : Hp} {R : Addr → Hp → Prop} {E : XK} (hl : ns.length = fs.length) (hz : ns.length ≤ 1000) (q : ∀ a H', Same H H' → H a = none → ExAt K n n fs a ns H' → R a H') : ns.length ≤ 1000 ∧ ∀ a, H a = none → sp_ExV K n fs (.ref a :: ns) (upd H a (exo a (He.ga K n) none)) (fun v H2 => v = .non ∧ R a H2) E :=
  ⟨hz, fun a hn => ⟨a, ns, rfl, hl, upd_same, fun H' h k => ⟨rfl, q a H' (same_made hn k) hn h⟩⟩⟩
def ttlV : Nat → Str
  | 0 => "BadValue"
  | 1 => "Broken"
  | 2 => "Unknown"
  | 3 => "NotHeld"
  | 4 => "Fault"
  | 5 => "NoRoom"
  | 6 => "Cut"
  | _ => "BadLine"
theorem titlesV_eq : ∀ k, k < 8 → titles.map (fun x => V.bl (decide (x = V.str (ttlV k)))) = [V.bl (decide (k = 0)), V.bl (decide (k = 1)), V.bl (decide (k = 2)), V.bl (decide (k = 3)), V.bl (decide (k = 4)), V.bl (decide (k = 5)), V.bl (decide (k = 6)), V.bl (decide (k = 7))]
  | 0, _ => by decide +kernel
  | 1, _ => by decide +kernel
  | 2, _ => by decide +kernel
  | 3, _ => by decide +kernel
  | 4, _ => by decide +kernel
  | 5, _ => by decide +kernel
  | 6, _ => by decide +kernel
  | 7, _ => by decide +kernel
theorem titlesV_s (z : Str) : ∀ x ∈ titles, scal x (.str z) = true := by
  intro x hx
  simp only [titles, List.mem_cons, List.not_mem_nil, or_false] at hx
  rcases hx with rfl | rfl | rfl | rfl | rfl | rfl | rfl | rfl <;> exact scal_str.mpr trivial
def refV (k : Nat) (tf : LL.T) : LL.T := .lst [.str "refused", .tup [.str (ttlV k), tf], tf, kindsTV k]
def sp_refusedV : Sp := fun vs H Q _ => ∃ (F : Addr → Prop) (k : Nat) (f : V) (tf : LL.T), vs = [.str (ttlV k), f] ∧ k < 8 ∧ Dt F H f tf ∧ ∀ r H', Same H H' → Dt (fun _ => True) H' r (refV k tf) → Q r H'
theorem use_xv {K : PySem.W.Frag} {a : Addr} {n title : Str} {fs : List Str} {k : Nat} {vs : List V} {f : Str} {v : V} {te : TE} {σ : L2.St} {H : Hp} {Q : VK} (ht : ∀ Q : VK, Q (.ref a) H → te σ H Q) (h : ExAt K n title fs a vs H) (hv : ExV K n fs k) (hm : f ∈ ("told" : Str) :: fs) (hn : (f == ("told" : Str)) = false) (l : List.lookup f (fs.zip vs).reverse = some v) (q : Q v H) : tXv K f te σ H Q := by
  obtain ⟨d, p1, p2, e1, e2, _⟩ := h
  exact ht _ ⟨a, _, d, _, v, rfl, e1, e2, hv.xf, hv.no f hm, by simp only [List.lookup, hn]; exact l, q⟩

theorem okV_law_refused (T : Tx K mg) : FnOk P w K mg base CX0 1 (He.ga K "_law_refused") T.fd_law_refused P_law_refused sp_refusedV := by
  refine T.F_law_refused.ok sc_law_refused (fun vs H Q E h => ?_) (fun cdv A outer s H vs Q E hr h => ⟨_, PSs.nox (pss_cons (ps_set (i := 2) sc_law_refused.nd rfl (Or.inl rfl) (pe_lst (pa_cons (pe_str) (pa_cons (pe_str) (pa_cons (pe_str) (pa_cons (pe_str) (pa_cons (pe_str) (pa_cons (pe_str) (pa_cons (pe_str) (pa_cons (pe_str) pa_nil)))))))))) (pss_one (ps_ret (pe_lst (pa_cons (pe_str) (pa_cons (pe_tup (pa_cons (pv 0) (pa_cons (pv 1) pa_nil))) (pa_cons (pv 1) (pa_cons (pe_op op_cat (pe_lst (pa_cons (pe_bl) (pa_cons (pe_bl) pa_nil))) (pe_lc (own := [("_law_one", 3)]) (by rfl) sc_law_refused.nd (pi_list (pv 2)) (blkOk_by (N := N_law_refused) (sc := defScope s_law_refused) (by decide +kernel)) (fun _ _ _ _ _ => (pg_name (i := 3) sc_law_refused.nd rfl (Or.inl rfl))) (fun _ _ _ _ _ => pts_nil) (fun _ _ _ _ _ => (pe_cmpR op_eq (pv 3) (pv 0) (nomark _))))) pa_nil)))))))), ?_⟩)
  · obtain ⟨_, _, _, _, rfl, _⟩ := h
    rfl
  · obtain ⟨F, k, f, tf, rfl, hk, hf, q⟩ := h
    simp only [tSeq, tAsg, tRet, tRetN, tDrop, tNext, tVar, tC, gName, tOp, tUn, rI, rI0, rU, tIfS, tTest, tB, tIf, tAnd, tOr, tNot, tAndV, tOrV, tNotV, tCall, tCons, tNil, tCB, tLst, tTup, tChain, CMul, CDiv, CPow, rEq, rNe, gSub, L2.start, LL.cxK0, LL.cxK1, List.map_cons, List.map_nil, List.length_cons, List.length_nil, List.replicate_succ, List.replicate_zero, List.cons_append, List.nil_append, List.append_nil, List.getElem?_cons_zero, List.getElem?_cons_succ, List.set_cons_zero, List.set_cons_succ, Nat.add_sub_cancel, Nat.reduceAdd, Nat.reduceSub, Option.some.injEq, V.int.injEq, V.bl.injEq, V.ref.injEq, V.str.injEq, List.cons.injEq, and_true, true_and, and_false, false_and, exists_eq_left, exists_eq_left', exists_and_left, exists_and_right, exists_eq, exists_eq', LL.if_dec, reduceCtorEq, exists_false, exists_const, or_false, false_or, if_true, if_false, LL.rInt1, LL.rMx, LL.rMn, and_assoc, Int.reduceNeg, Int.reduceLT, Int.reduceLE, Int.reduceMul, Int.reduceAdd, Int.reduceSub, Int.reducePow, Int.reduceToNat, Nat.reducePow, Nat.reduceLT, true_or, or_true, Bool.not_true, Bool.not_false, Bool.false_eq_true, Bool.or_false, Bool.or_true, Bool.true_or, Bool.false_or, decide_true, decide_false, not_true_eq_false, not_false_eq_true, LL.scal_int, LL.scal_bl, LL.scal_str, LL.isInt, LL.isBl, LL.isStr, LL.isLst, LL.isTup, LL.isDic, N_law_refused]
    refine ⟨by decide, ?_⟩
    intro p1 np1
    generalize hq : upd H p1 _ = H1
    have sH1 : Same H H1 := hq ▸ Same.new (Same.refl _) np1
    have ep1 := hq ▸ (upd_same (H := H) (a := p1))
    clear hq
    refine ⟨by decide, ?_⟩
    intro p2 np2
    generalize hq : upd H1 p2 _ = H2
    have sH2 : Same H1 H2 := hq ▸ Same.new (Same.refl _) np2
    have ep2 := hq ▸ (upd_same (H := H1) (a := p2))
    clear hq
    replace ep1 := sH2 _ _ ep1
    refine ⟨by decide, ?_⟩
    intro p3 np3
    generalize hq : upd H2 p3 _ = H3
    have sH3 : Same H2 H3 := hq ▸ Same.new (Same.refl _) np3
    have ep3 := hq ▸ (upd_same (H := H2) (a := p3))
    clear hq
    replace ep1 := sH3 _ _ ep1
    replace ep2 := sH3 _ _ ep2
    refine ⟨_, rfl, p1, rfl, ⟨_, SqL.of ep1⟩, fun D hD => ?_⟩
    refine lc_list (K := K) (a := p1) (xs := titles) (fun i H' => Same H3 H' ∧ H' D = some (.lst ((titles.take i).map fun x => V.bl (decide (x = V.str (ttlV k)))))) ⟨Same.new (Same.refl _) hD, upd_same⟩ (fun i H' _ ⟨s1, _⟩ => SqL.of (s1 _ _ ep1)) ?_ ?_
    · rintro i x H' hi ⟨s1, eD⟩
      simp only [tSeq, tAsg, tRet, tRetN, tDrop, tNext, tVar, tC, gName, tOp, tUn, rI, rI0, rU, tIfS, tTest, tB, tIf, tAnd, tOr, tNot, tAndV, tOrV, tNotV, tCall, tCons, tNil, tCB, tLst, tTup, tChain, CMul, CDiv, CPow, rEq, rNe, gSub, L2.start, LL.cxK0, LL.cxK1, List.map_cons, List.map_nil, List.length_cons, List.length_nil, List.replicate_succ, List.replicate_zero, List.cons_append, List.nil_append, List.append_nil, List.getElem?_cons_zero, List.getElem?_cons_succ, List.set_cons_zero, List.set_cons_succ, Nat.add_sub_cancel, Nat.reduceAdd, Nat.reduceSub, Option.some.injEq, V.int.injEq, V.bl.injEq, V.ref.injEq, V.str.injEq, List.cons.injEq, and_true, true_and, and_false, false_and, exists_eq_left, exists_eq_left', exists_and_left, exists_and_right, exists_eq, exists_eq', LL.if_dec, reduceCtorEq, exists_false, exists_const, or_false, false_or, if_true, if_false, LL.rInt1, LL.rMx, LL.rMn, and_assoc, Int.reduceNeg, Int.reduceLT, Int.reduceLE, Int.reduceMul, Int.reduceAdd, Int.reduceSub, Int.reducePow, Int.reduceToNat, Nat.reducePow, Nat.reduceLT, true_or, or_true, Bool.not_true, Bool.not_false, Bool.false_eq_true, Bool.or_false, Bool.or_true, Bool.true_or, Bool.false_or, decide_true, decide_false, not_true_eq_false, not_false_eq_true, LL.scal_int, LL.scal_bl, LL.scal_str, LL.isInt, LL.isBl, LL.isStr, LL.isLst, LL.isTup, LL.isDic, tYes, wipe, List.foldl_cons, List.foldl_nil]
      refine ⟨titlesV_s _ _ (List.mem_of_getElem? hi), _, eD, small_sz (by rw [List.length_map, List.length_take, show titles.length = 8 from rfl]; omega), Same.own s1 hD, ?_⟩
      rw [upd_same, take_one hi, List.map_append]
      rfl
    · rintro H' ⟨s1, eD⟩
      rw [List.take_length, titlesV_eq k hk] at eD
      refine ⟨p3, D, _, _, rfl, rfl, s1 _ _ ep3, eD, Nat.le_of_lt (small_sz (by simp)), ?_⟩
      replace ep2 := s1 _ _ ep2
      intro p4 np4
      generalize hq : upd H' p4 _ = H4
      have sH4 : Same H' H4 := hq ▸ Same.new (Same.refl _) np4
      have ep4 := hq ▸ (upd_same (H := H') (a := p4))
      clear hq
      replace ep2 := sH4 _ _ ep2
      refine ⟨by decide, ?_⟩
      intro p5 np5
      generalize hq : upd H4 p5 _ = H5
      have sH5 : Same H4 H5 := hq ▸ Same.new (Same.refl _) np5
      have ep5 := hq ▸ (upd_same (H := H4) (a := p5))
      clear hq
      replace ep2 := sH5 _ _ ep2
      replace ep4 := sH5 _ _ ep4
      have g : Same H H5 := ((((sH1.trans sH2).trans sH3).trans s1).trans sH4).trans sH5
      have hf5 : Dt (fun _ => True) H5 f tf := (hf.same g).to (fun _ _ => trivial)
      have st : ∀ z : Str, Dt (fun _ => True) H5 (.str z) (.str z) := fun z => rfl
      refine q _ _ g ⟨p5, _, rfl, trivial, ep5, .cons (st _) (.cons ⟨p2, _, rfl, trivial, ep2, .cons (st _) (.one hf5), by simp⟩ (.cons hf5 (.one ⟨p4, _, rfl, trivial, ep4, ?_, by simp [bitsV]⟩))), by simp⟩
      exact bls_dt (bitsV k)
end K00

namespace K00
open PySem PySem.Spec PyProof.Rows L2 LL
variable {P : Program} {w : World} {K : PySem.W.Frag} {mg : Str → Option Value} {base : Heap}

def sp_law_among (K : PySem.W.Frag) : Sp := fun vs H Q _ => ∃ (d s p : Addr) (xs : List V), vs = [.ref d, .ref p] ∧ Drw d s H ∧ p ≠ s ∧ H p = some (.lst xs) ∧ 0 < xs.length ∧ xs.length ≤ 100000 ∧ ∀ x ∈ xs, ∀ H', Aft d s H H' → Drw d s H' → Q x H'

theorem ok_law_among (T : Tx K mg) : FnOk P w K mg base CX0 3 (He.ga K "_law_among") T.fd_law_among P_law_among (sp_law_among K) := by
  refine T.F_law_among.ok sc_law_among (fun vs H Q E h => ?_) (fun cdv A outer s H vs Q E hr h => ⟨_, PSs.nox (pss_one (ps_ret (pe_ix ix_list (pv 1) (pe_call (ok_law_take T) hr rfl T.g_law_take T.F_law_take.kp (b_law_take T) .nil pass0 (pa_cons (pv 0) (pa_cons (pe_callB LL.call_lenL (by rfl) T.z_len (by decide +kernel) (pa_cons (pv 1) pa_nil)) pa_nil))) (fun _ _ => rfl)))), ?_⟩)
  · obtain ⟨_, _, _, _, rfl, _⟩ := h
    rfl
  · obtain ⟨d, s, p, xs, rfl, D, ps, ep, h0, h1, q⟩ := h
    simp only [tSeq, tAsg, tRet, tRetN, tDrop, tNext, tVar, tC, gName, tOp, tUn, rI, rI0, rU, tIfS, tTest, tB, tIf, tAnd, tOr, tNot, tAndV, tOrV, tNotV, tCall, tCons, tNil, tCB, tLst, tTup, tChain, CMul, CDiv, CPow, rEq, rNe, gSub, L2.start, LL.cxK0, LL.cxK1, List.map_cons, List.map_nil, List.length_cons, List.length_nil, List.replicate_succ, List.replicate_zero, List.cons_append, List.nil_append, List.append_nil, List.getElem?_cons_zero, List.getElem?_cons_succ, List.set_cons_zero, List.set_cons_succ, Nat.add_sub_cancel, Nat.reduceAdd, Nat.reduceSub, Option.some.injEq, V.int.injEq, V.bl.injEq, V.ref.injEq, V.str.injEq, List.cons.injEq, and_true, true_and, and_false, false_and, exists_eq_left, exists_eq_left', exists_and_left, exists_and_right, exists_eq, exists_eq', LL.if_dec, reduceCtorEq, exists_false, exists_const, or_false, false_or, if_true, if_false, LL.rInt1, LL.rMx, LL.rMn, and_assoc, Int.reduceNeg, Int.reduceLT, Int.reduceLE, Int.reduceMul, Int.reduceAdd, Int.reduceSub, Int.reducePow, Int.reduceToNat, Nat.reducePow, Nat.reduceLT, true_or, or_true, Bool.not_true, Bool.not_false, Bool.false_eq_true, Bool.or_false, Bool.or_true, Bool.true_or, Bool.false_or, decide_true, decide_false, not_true_eq_false, not_false_eq_true, LL.scal_int, LL.scal_bl, LL.scal_str, LL.isInt, LL.isBl, LL.isStr, LL.isLst, LL.isTup, LL.isDic, N_law_among]
    refine use_lenL ep (use_take D (big_of (by omega) (by omega)) fun v H' a D0 v0 v1 => ?_)
    exact use_pick (a.kp _ _ ps ep) v0 (by omega) fun x hx => q x hx _ a D0
theorem al_big {i m : Int} (h : m < i) : alB m (.int i) = false := by
  show (isP i && decide (i ≤ m)) = false
  rw [decide_eq_false (by omega), Bool.and_false]
theorem big_long : (1073741824 : Int) < 10 ^ 999 := by
  have e : (10 : Int) ^ 999 = ((10 ^ 999 : Nat) : Int) := (Int.natCast_pow 10 999).symm
  rw [e]
  exact Int.ofNat_lt.mpr (by decide +kernel)
theorem pow2_b {n : Nat} (h : n ≤ 3399) : ((2 : Int) ^ n).natAbs < 2 ^ 3400 := by
  rw [Int.natAbs_pow]
  exact Nat.pow_lt_pow_right (by decide) (by omega)

def sp_law_not_alignment (K : PySem.W.Frag) : Sp := fun vs H Q _ => ∃ (d s : Addr), vs = [.ref d, .int 1073741824] ∧ Drw d s H ∧ ∀ v t H', Aft d s H H' → Drw d s H' → Dt (fun a => H a = none) H' v t → dep t ≤ 1 → alB 1073741824 t = false → Q v H'

theorem ok_law_not_alignment (T : Tx K mg) : FnOk P w K mg base CX0 4 (He.ga K "_law_not_alignment") T.fd_law_not_alignment P_law_not_alignment (sp_law_not_alignment K) := by
  refine T.F_law_not_alignment.ok sc_law_not_alignment (fun vs H Q E h => ?_) (fun cdv A outer s H vs Q E hr h => ⟨_, PSs.nox (pss_cons (ps_set (i := 2) sc_law_not_alignment.nd rfl (Or.inl rfl) (pe_call (ok_law_take T) (hr.mono (by decide)) rfl T.g_law_take T.F_law_take.kp (b_law_take T) .nil pass0 (pa_cons (pv 0) (pa_cons (pe_int) pa_nil)))) (pss_cons (ps_if (pt_cmpR op_lt (pv 2) (pe_int) (nomark _)) (pss_one (ps_ret (pe_ix ix_list (pe_lst (pa_cons (pe_int) (pa_cons (pe_un un_neg (pe_int)) (pa_cons (pe_un un_neg (pe_int)) (pa_cons (pe_int) (pa_cons (pe_op op_add (pv 1) (pv 1)) (pa_cons (pe_op op_add (pe_op op_add (pv 1) (pv 1)) (pe_int)) pa_nil))))))) (pv 2) (fun _ _ => rfl)))) pss_nil) (pss_cons (ps_if (pt_cmpR op_eq (pv 2) (pe_int) (nomark _)) (pss_one (ps_ret (pe_call (ok_law_among T) hr rfl T.g_law_among T.F_law_among.kp (b_law_among T) .nil pass0 (pa_cons (pv 0) (pa_cons (pe_lst (pa_cons (pe_int) (pa_cons (pe_int) (pa_cons (pe_op op_pow (pe_int) (pe_int)) (pa_cons (pe_call0 (ok_law_long T) (hr.mono (by decide)) rfl T.g_law_long T.F_law_long.kp (b_law_long T) .nil pass0) (pa_cons (pe_un un_neg (pv 1)) (pa_cons (pe_op op_mul (pv 1) (pe_int)) pa_nil))))))) pa_nil))))) pss_nil) (pss_one (ps_ret (pe_call (ok_law_not_integer T) hr rfl T.g_law_not_integer T.F_law_not_integer.kp (b_law_not_integer T) .nil pass0 (pa_cons (pv 0) pa_nil))))))), ?_⟩)
  · obtain ⟨_, _, rfl, _⟩ := h
    rfl
  · obtain ⟨d, s, rfl, D, q⟩ := h
    simp only [tSeq, tAsg, tRet, tRetN, tDrop, tNext, tVar, tC, gName, tOp, tUn, rI, rI0, rU, tIfS, tTest, tB, tIf, tAnd, tOr, tNot, tAndV, tOrV, tNotV, tCall, tCons, tNil, tCB, tLst, tTup, tChain, CMul, CDiv, CPow, rEq, rNe, gSub, L2.start, LL.cxK0, LL.cxK1, List.map_cons, List.map_nil, List.length_cons, List.length_nil, List.replicate_succ, List.replicate_zero, List.cons_append, List.nil_append, List.append_nil, List.getElem?_cons_zero, List.getElem?_cons_succ, List.set_cons_zero, List.set_cons_succ, Nat.add_sub_cancel, Nat.reduceAdd, Nat.reduceSub, Option.some.injEq, V.int.injEq, V.bl.injEq, V.ref.injEq, V.str.injEq, List.cons.injEq, and_true, true_and, and_false, false_and, exists_eq_left, exists_eq_left', exists_and_left, exists_and_right, exists_eq, exists_eq', LL.if_dec, reduceCtorEq, exists_false, exists_const, or_false, false_or, if_true, if_false, LL.rInt1, LL.rMx, LL.rMn, and_assoc, Int.reduceNeg, Int.reduceLT, Int.reduceLE, Int.reduceMul, Int.reduceAdd, Int.reduceSub, Int.reducePow, Int.reduceToNat, Nat.reducePow, Nat.reduceLT, true_or, or_true, Bool.not_true, Bool.not_false, Bool.false_eq_true, Bool.or_false, Bool.or_true, Bool.true_or, Bool.false_or, decide_true, decide_false, not_true_eq_false, not_false_eq_true, LL.scal_int, LL.scal_bl, LL.scal_str, LL.isInt, LL.isBl, LL.isStr, LL.isLst, LL.isTup, LL.isDic, N_law_not_alignment]
    refine use_take D (by decide +kernel) fun v H1 a1 D1 v0 v1 => ?_
    simp only [tSeq, tAsg, tRet, tRetN, tDrop, tNext, tVar, tC, gName, tOp, tUn, rI, rI0, rU, tIfS, tTest, tB, tIf, tAnd, tOr, tNot, tAndV, tOrV, tNotV, tCall, tCons, tNil, tCB, tLst, tTup, tChain, CMul, CDiv, CPow, rEq, rNe, gSub, L2.start, LL.cxK0, LL.cxK1, List.map_cons, List.map_nil, List.length_cons, List.length_nil, List.replicate_succ, List.replicate_zero, List.cons_append, List.nil_append, List.append_nil, List.getElem?_cons_zero, List.getElem?_cons_succ, List.set_cons_zero, List.set_cons_succ, Nat.add_sub_cancel, Nat.reduceAdd, Nat.reduceSub, Option.some.injEq, V.int.injEq, V.bl.injEq, V.ref.injEq, V.str.injEq, List.cons.injEq, and_true, true_and, and_false, false_and, exists_eq_left, exists_eq_left', exists_and_left, exists_and_right, exists_eq, exists_eq', LL.if_dec, reduceCtorEq, exists_false, exists_const, or_false, false_or, if_true, if_false, LL.rInt1, LL.rMx, LL.rMn, and_assoc, Int.reduceNeg, Int.reduceLT, Int.reduceLE, Int.reduceMul, Int.reduceAdd, Int.reduceSub, Int.reducePow, Int.reduceToNat, Nat.reducePow, Nat.reduceLT, true_or, or_true, Bool.not_true, Bool.not_false, Bool.false_eq_true, Bool.or_false, Bool.or_true, Bool.true_or, Bool.false_or, decide_true, decide_false, not_true_eq_false, not_false_eq_true, LL.scal_int, LL.scal_bl, LL.scal_str, LL.isInt, LL.isBl, LL.isStr, LL.isLst, LL.isTup, LL.isDic]
    refine itei (fun h => ?_) (fun h => itei (fun h2 => ?_) (fun h2 => ?_))
    · refine ⟨by decide, ?_⟩
      intro p np
      generalize hq : upd H1 p _ = H2
      have sH2 : Same H1 H2 := hq ▸ Same.new (Same.refl _) np
      have ep := hq ▸ (upd_same (H := H1) (a := p))
      clear hq
      have A2 : Aft d s H H2 := a1.trans ⟨.same sH2, D1.same sH2⟩
      refine use_pick ep v0 (by simp only [List.length_cons, List.length_nil]; omega) fun x hx => ?_
      simp only [List.mem_cons, List.not_mem_nil, or_false] at hx
      rcases hx with rfl | rfl | rfl | rfl | rfl | rfl <;> exact q _ (.int _) _ A2 A2.dr rfl (by simp [dep]) (by decide +kernel)
    · refine ⟨by decide, rfl, by decide, ?_⟩
      intro p np
      generalize hq : upd H1 p _ = H2
      have sH2 : Same H1 H2 := hq ▸ Same.new (Same.refl _) np
      have ep := hq ▸ (upd_same (H := H1) (a := p))
      clear hq
      have A2 : Aft d s H H2 := a1.trans ⟨.same sH2, D1.same sH2⟩
      refine ⟨d, s, p, _, rfl, A2.dr, D1.ne _ np, ep, by simp, by simp, fun x hx H3 A3 D3 => ?_⟩
      simp only [List.mem_cons, List.not_mem_nil, or_false] at hx
      rcases hx with rfl | rfl | rfl | rfl | rfl | rfl
      all_goals refine q _ (.int _) _ (A2.trans A3) D3 rfl (by simp [dep]) ?_
      case inr.inr.inr.inl => exact al_big big_long
      all_goals decide +kernel
    · exact ⟨d, s, rfl, D1, fun v t H2 a2 D2 hv hd hi => q v t H2 (a1.trans a2) D2 (hv.to fun z hz => a1.free hz) hd (by cases t <;> first | rfl | cases hi)⟩
def sp_law_is_within : Sp := fun vs H Q _ => ∃ (i lo hi : Int), vs = [.int i, .int lo, .int hi] ∧ Q (.bl (decide (lo ≤ i ∧ i ≤ hi))) H

theorem ok_law_is_within (T : Tx K mg) : FnOk P w K mg base CX0 2 (He.ga K "_law_is_within") T.fd_law_is_within P_law_is_within sp_law_is_within := by
  refine T.F_law_is_within.ok sc_law_is_within (fun vs H Q E h => ?_) (fun cdv A outer s H vs Q E hr h => ⟨_, PSs.nox (pss_one (ps_ret ((pe_and (pe_call (ok_law_is_int T) hr rfl T.g_law_is_int T.F_law_is_int.kp (b_law_is_int T) .nil pass0 (pa_cons (pv 0) pa_nil)) (pe_one (pe_chain op_le op_le (pv 1) (pv 0) (pv 2))))))), ?_⟩)
  · obtain ⟨_, _, _, rfl, _⟩ := h
    rfl
  · obtain ⟨i, lo, hi, rfl, q⟩ := h
    simp only [tSeq, tAsg, tRet, tRetN, tDrop, tNext, tVar, tC, gName, tOp, tUn, rI, rI0, rU, tIfS, tTest, tB, tIf, tAnd, tOr, tNot, tAndV, tOrV, tNotV, tCall, tCons, tNil, tCB, tLst, tTup, tChain, CMul, CDiv, CPow, rEq, rNe, gSub, L2.start, LL.cxK0, LL.cxK1, List.map_cons, List.map_nil, List.length_cons, List.length_nil, List.replicate_succ, List.replicate_zero, List.cons_append, List.nil_append, List.append_nil, List.getElem?_cons_zero, List.getElem?_cons_succ, List.set_cons_zero, List.set_cons_succ, Nat.add_sub_cancel, Nat.reduceAdd, Nat.reduceSub, Option.some.injEq, V.int.injEq, V.bl.injEq, V.ref.injEq, V.str.injEq, List.cons.injEq, and_true, true_and, and_false, false_and, exists_eq_left, exists_eq_left', exists_and_left, exists_and_right, exists_eq, exists_eq', LL.if_dec, reduceCtorEq, exists_false, exists_const, or_false, false_or, if_true, if_false, LL.rInt1, LL.rMx, LL.rMn, and_assoc, Int.reduceNeg, Int.reduceLT, Int.reduceLE, Int.reduceMul, Int.reduceAdd, Int.reduceSub, Int.reducePow, Int.reduceToNat, Nat.reducePow, Nat.reduceLT, true_or, or_true, Bool.not_true, Bool.not_false, Bool.false_eq_true, Bool.or_false, Bool.or_true, Bool.true_or, Bool.false_or, decide_true, decide_false, not_true_eq_false, not_false_eq_true, LL.scal_int, LL.scal_bl, LL.scal_str, LL.isInt, LL.isBl, LL.isStr, LL.isLst, LL.isTup, LL.isDic, N_law_is_within]
    refine use_isint (F := fun _ => True) (t := .int i) rfl ⟨true, rfl, ?_⟩
    rw [if_pos rfl]
    refine itei (fun h => ?_) (fun h => ?_)
    · rw [show decide (lo ≤ i ∧ i ≤ hi) = decide (i ≤ hi) from decide_eq_decide.mpr ⟨fun z => z.2, fun z => ⟨h, z⟩⟩] at q
      exact q
    · rw [decide_eq_false (fun z => h z.1)] at q
      exact q
def sp_law_great_power : Sp := fun vs H Q _ => ∃ (d s : Addr), vs = [.ref d] ∧ Drw d s H ∧ ∀ (n : Nat) H', Aft d s H H' → Drw d s H' → n ≤ 3296 → Q (.int (2 ^ n)) H'

theorem ok_law_great_power (T : Tx K mg) : FnOk P w K mg base CX0 5 (He.ga K "_law_great_power") T.fd_law_great_power P_law_great_power sp_law_great_power := by
  refine T.F_law_great_power.ok sc_law_great_power (fun vs H Q E h => ?_) (fun cdv A outer s H vs Q E hr h => ⟨_, PSs.nox (pss_cons (ps_set (i := 1) sc_law_great_power.nd rfl (Or.inl rfl) (pe_int)) (pss_cons (ps_for PassesOwn.never rfl (pi_range1 rfl T.z_range (pa_cons (pe_call (ok_law_take T) (hr.mono (by decide)) rfl T.g_law_take T.F_law_take.kp (b_law_take T) .nil pass0 (pa_cons (pv 0) (pa_cons (pe_int) pa_nil))) pa_nil)) (pg_name (i := 2) sc_law_great_power.nd rfl (Or.inl rfl)) (pss_one (ps_set (i := 1) sc_law_great_power.nd rfl (Or.inl rfl) (pe_op op_mulW (pv 1) (pe_op op_pow (pe_int) (pe_int)))))) (pss_one (ps_ret (pe_op op_mulW (pv 1) (pe_call (ok_law_alignment T) hr rfl T.g_law_alignment T.F_law_alignment.kp (b_law_alignment T) .nil pass0 (pa_cons (pv 0) (pa_cons (pe_int) pa_nil)))))))), ?_⟩)
  · obtain ⟨_, _, rfl, _⟩ := h
    rfl
  · obtain ⟨d, s, rfl, D, q⟩ := h
    simp only [tSeq, tAsg, tRet, tRetN, tDrop, tNext, tVar, tC, gName, tOp, tUn, rI, rI0, rU, tIfS, tTest, tB, tIf, tAnd, tOr, tNot, tAndV, tOrV, tNotV, tCall, tCons, tNil, tCB, tLst, tTup, tChain, CMul, CDiv, CPow, rEq, rNe, gSub, L2.start, LL.cxK0, LL.cxK1, List.map_cons, List.map_nil, List.length_cons, List.length_nil, List.replicate_succ, List.replicate_zero, List.cons_append, List.nil_append, List.append_nil, List.getElem?_cons_zero, List.getElem?_cons_succ, List.set_cons_zero, List.set_cons_succ, Nat.add_sub_cancel, Nat.reduceAdd, Nat.reduceSub, Option.some.injEq, V.int.injEq, V.bl.injEq, V.ref.injEq, V.str.injEq, List.cons.injEq, and_true, true_and, and_false, false_and, exists_eq_left, exists_eq_left', exists_and_left, exists_and_right, exists_eq, exists_eq', LL.if_dec, reduceCtorEq, exists_false, exists_const, or_false, false_or, if_true, if_false, LL.rInt1, LL.rMx, LL.rMn, and_assoc, Int.reduceNeg, Int.reduceLT, Int.reduceLE, Int.reduceMul, Int.reduceAdd, Int.reduceSub, Int.reducePow, Int.reduceToNat, Nat.reducePow, Nat.reduceLT, true_or, or_true, Bool.not_true, Bool.not_false, Bool.false_eq_true, Bool.or_false, Bool.or_true, Bool.true_or, Bool.false_or, decide_true, decide_false, not_true_eq_false, not_false_eq_true, LL.scal_int, LL.scal_bl, LL.scal_str, LL.isInt, LL.isBl, LL.isStr, LL.isLst, LL.isTup, LL.isDic, N_law_great_power]
    refine use_forRX (R := fun j H' => Aft d s H H' ∧ Drw d s H' ∧ 0 ≤ j ∧ j ≤ 51) (fun Q hQ => ?_) (fun z H' h => ⟨by omega, by omega⟩)
      (fun j i σ' H' => Aft d s H H' ∧ Drw d s H' ∧ 0 ≤ j ∧ j ≤ 51 ∧ i ≤ j.toNat ∧ ∃ x : Option V, σ' = [some (.ref d), some (.int (2 ^ (64 * i))), x]) (fun j H' ⟨a, D1, hz, hm⟩ => ⟨a, D1, hz, hm, Nat.zero_le _, _, rfl⟩) ?_ ?_
    · simp only [tSeq, tAsg, tRet, tRetN, tDrop, tNext, tVar, tC, gName, tOp, tUn, rI, rI0, rU, tIfS, tTest, tB, tIf, tAnd, tOr, tNot, tAndV, tOrV, tNotV, tCall, tCons, tNil, tCB, tLst, tTup, tChain, CMul, CDiv, CPow, rEq, rNe, gSub, L2.start, LL.cxK0, LL.cxK1, List.map_cons, List.map_nil, List.length_cons, List.length_nil, List.replicate_succ, List.replicate_zero, List.cons_append, List.nil_append, List.append_nil, List.getElem?_cons_zero, List.getElem?_cons_succ, List.set_cons_zero, List.set_cons_succ, Nat.add_sub_cancel, Nat.reduceAdd, Nat.reduceSub, Option.some.injEq, V.int.injEq, V.bl.injEq, V.ref.injEq, V.str.injEq, List.cons.injEq, and_true, true_and, and_false, false_and, exists_eq_left, exists_eq_left', exists_and_left, exists_and_right, exists_eq, exists_eq', LL.if_dec, reduceCtorEq, exists_false, exists_const, or_false, false_or, if_true, if_false, LL.rInt1, LL.rMx, LL.rMn, and_assoc, Int.reduceNeg, Int.reduceLT, Int.reduceLE, Int.reduceMul, Int.reduceAdd, Int.reduceSub, Int.reducePow, Int.reduceToNat, Nat.reducePow, Nat.reduceLT, true_or, or_true, Bool.not_true, Bool.not_false, Bool.false_eq_true, Bool.or_false, Bool.or_true, Bool.true_or, Bool.false_or, decide_true, decide_false, not_true_eq_false, not_false_eq_true, LL.scal_int, LL.scal_bl, LL.scal_str, LL.isInt, LL.isBl, LL.isStr, LL.isLst, LL.isTup, LL.isDic]
      exact use_take D (big_of (by omega) (by omega)) fun v H' a D' h2 h3 => hQ _ _ ⟨a, D', h2, by omega⟩
    · rintro j i σ' H' hi ⟨a, D1, hz, hm, hi2, x, rfl⟩
      simp only [tSeq, tAsg, tRet, tRetN, tDrop, tNext, tVar, tC, gName, tOp, tUn, rI, rI0, rU, tIfS, tTest, tB, tIf, tAnd, tOr, tNot, tAndV, tOrV, tNotV, tCall, tCons, tNil, tCB, tLst, tTup, tChain, CMul, CDiv, CPow, rEq, rNe, gSub, L2.start, LL.cxK0, LL.cxK1, List.map_cons, List.map_nil, List.length_cons, List.length_nil, List.replicate_succ, List.replicate_zero, List.cons_append, List.nil_append, List.append_nil, List.getElem?_cons_zero, List.getElem?_cons_succ, List.set_cons_zero, List.set_cons_succ, Nat.add_sub_cancel, Nat.reduceAdd, Nat.reduceSub, Option.some.injEq, V.int.injEq, V.bl.injEq, V.ref.injEq, V.str.injEq, List.cons.injEq, and_true, true_and, and_false, false_and, exists_eq_left, exists_eq_left', exists_and_left, exists_and_right, exists_eq, exists_eq', LL.if_dec, reduceCtorEq, exists_false, exists_const, or_false, false_or, if_true, if_false, LL.rInt1, LL.rMx, LL.rMn, and_assoc, Int.reduceNeg, Int.reduceLT, Int.reduceLE, Int.reduceMul, Int.reduceAdd, Int.reduceSub, Int.reducePow, Int.reduceToNat, Nat.reducePow, Nat.reduceLT, true_or, or_true, Bool.not_true, Bool.not_false, Bool.false_eq_true, Bool.or_false, Bool.or_true, Bool.true_or, Bool.false_or, decide_true, decide_false, not_true_eq_false, not_false_eq_true, LL.scal_int, LL.scal_bl, LL.scal_str, LL.isInt, LL.isBl, LL.isStr, LL.isLst, LL.isTup, LL.isDic]
      refine ⟨by decide, wide_mul (a := 3400) (b := 220) (pow2_b (by omega)) (by decide +kernel) (by decide) (by decide) (by decide), a, D1, hz, hm, by omega, ?_⟩
      rw [show (18446744073709551616 : Int) = 2 ^ 64 by decide, ← Int.pow_add, show 64 * i + 64 = 64 * (i + 1) by omega]
    · rintro j σ' H' ⟨a, D1, hz, hm, hi2, x, rfl⟩
      simp only [tSeq, tAsg, tRet, tRetN, tDrop, tNext, tVar, tC, gName, tOp, tUn, rI, rI0, rU, tIfS, tTest, tB, tIf, tAnd, tOr, tNot, tAndV, tOrV, tNotV, tCall, tCons, tNil, tCB, tLst, tTup, tChain, CMul, CDiv, CPow, rEq, rNe, gSub, L2.start, LL.cxK0, LL.cxK1, List.map_cons, List.map_nil, List.length_cons, List.length_nil, List.replicate_succ, List.replicate_zero, List.cons_append, List.nil_append, List.append_nil, List.getElem?_cons_zero, List.getElem?_cons_succ, List.set_cons_zero, List.set_cons_succ, Nat.add_sub_cancel, Nat.reduceAdd, Nat.reduceSub, Option.some.injEq, V.int.injEq, V.bl.injEq, V.ref.injEq, V.str.injEq, List.cons.injEq, and_true, true_and, and_false, false_and, exists_eq_left, exists_eq_left', exists_and_left, exists_and_right, exists_eq, exists_eq', LL.if_dec, reduceCtorEq, exists_false, exists_const, or_false, false_or, if_true, if_false, LL.rInt1, LL.rMx, LL.rMn, and_assoc, Int.reduceNeg, Int.reduceLT, Int.reduceLE, Int.reduceMul, Int.reduceAdd, Int.reduceSub, Int.reducePow, Int.reduceToNat, Nat.reducePow, Nat.reduceLT, true_or, or_true, Bool.not_true, Bool.not_false, Bool.false_eq_true, Bool.or_false, Bool.or_true, Bool.true_or, Bool.false_or, decide_true, decide_false, not_true_eq_false, not_false_eq_true, LL.scal_int, LL.scal_bl, LL.scal_str, LL.isInt, LL.isBl, LL.isStr, LL.isLst, LL.isTup, LL.isDic]
      refine use_alignment D1 (by decide) (by decide) fun i H2 a2 D2 hi => ⟨_, rfl, wide_mul (a := 3400) (b := 3400) (pow2_b (by omega)) (pow2_b (by omega)) (by decide) (by decide) (by decide), ?_⟩
      rw [← Int.pow_add]
      exact q _ _ (a.trans a2) D2 (by omega)
theorem pow_end {k : Nat} {i : Int} (hj : ∀ j : Nat, j < k → (2 : Int) ^ j < i) (h : i < 2 ^ k) : isP i = false := by
  cases hp : isP i with
  | false => rfl
  | true =>
    obtain ⟨m, rfl⟩ := isP_of hp
    by_cases hm : m < k
    · exact absurd (hj m hm) (Int.lt_irrefl _)
    · have e1 : ((2 ^ k : Nat) : Int) = (2 : Int) ^ k := Int.natCast_pow 2 k
      have e2 : ((2 ^ m : Nat) : Int) = (2 : Int) ^ m := Int.natCast_pow 2 m
      have h3 : 2 ^ k ≤ 2 ^ m := Nat.pow_le_pow_right (by decide) (by omega)
      omega
theorem pow_stop {k : Nat} {i : Int} (hj : ∀ j : Nat, j < k → (2 : Int) ^ j < i) (h : i ≤ 2 ^ k) : powB (.int i) = decide ((2 : Int) ^ k = i) := by
  show isP i = _
  by_cases e : (2 : Int) ^ k = i
  · rw [decide_eq_true e, ← e]
    exact isP_pow k
  · rw [decide_eq_false e]
    exact pow_end hj (by omega)

def sp_law_is_power_due : Sp := fun vs H Q _ => ∃ (F : Addr → Prop) (v : V) (t : LL.T), vs = [v] ∧ Dt F H v t ∧ Fit t ∧ Q (.bl (powB t)) H

theorem ok_law_is_power_due (T : Tx K mg) : FnOk P w K mg base CX0 2 (He.ga K "_law_is_power_due") T.fd_law_is_power_due P_law_is_power_due sp_law_is_power_due := by
  refine T.F_law_is_power_due.ok sc_law_is_power_due (fun vs H Q E h => ?_) (fun cdv A outer s H vs Q E hr h => ⟨_, PSs.nox (pss_cons (ps_if (pt_not (pt_val (pe_call (ok_law_is_int T) hr rfl T.g_law_is_int T.F_law_is_int.kp (b_law_is_int T) .nil pass0 (pa_cons (pv 0) pa_nil)))) (pss_one (ps_ret (pe_bl))) pss_nil) (pss_cons (ps_set (i := 1) sc_law_is_power_due.nd rfl (Or.inl rfl) (pe_int)) (pss_cons (ps_for PassesOwn.never rfl (pi_range1 rfl T.z_range (pa_cons (pe_int) pa_nil)) (pg_name (i := 2) sc_law_is_power_due.nd rfl (Or.inl rfl)) (pss_cons (ps_if (pt_cmpR op_ge (pv 1) (pv 0) (nomark _)) (pss_one ps_break) pss_nil) (pss_one (ps_set (i := 1) sc_law_is_power_due.nd rfl (Or.inl rfl) (pe_op op_add (pv 1) (pv 1)))))) (pss_one (ps_ret (pe_cmpR op_eq (pv 1) (pv 0) (nomark _))))))), ?_⟩)
  · obtain ⟨_, _, _, rfl, _⟩ := h
    rfl
  · obtain ⟨F, v, t, rfl, hd, hf, q⟩ := h
    simp only [tSeq, tAsg, tRet, tRetN, tDrop, tNext, tVar, tC, gName, tOp, tUn, rI, rI0, rU, tIfS, tTest, tB, tIf, tAnd, tOr, tNot, tAndV, tOrV, tNotV, tCall, tCons, tNil, tCB, tLst, tTup, tChain, CMul, CDiv, CPow, rEq, rNe, gSub, L2.start, LL.cxK0, LL.cxK1, List.map_cons, List.map_nil, List.length_cons, List.length_nil, List.replicate_succ, List.replicate_zero, List.cons_append, List.nil_append, List.append_nil, List.getElem?_cons_zero, List.getElem?_cons_succ, List.set_cons_zero, List.set_cons_succ, Nat.add_sub_cancel, Nat.reduceAdd, Nat.reduceSub, Option.some.injEq, V.int.injEq, V.bl.injEq, V.ref.injEq, V.str.injEq, List.cons.injEq, and_true, true_and, and_false, false_and, exists_eq_left, exists_eq_left', exists_and_left, exists_and_right, exists_eq, exists_eq', LL.if_dec, reduceCtorEq, exists_false, exists_const, or_false, false_or, if_true, if_false, LL.rInt1, LL.rMx, LL.rMn, and_assoc, Int.reduceNeg, Int.reduceLT, Int.reduceLE, Int.reduceMul, Int.reduceAdd, Int.reduceSub, Int.reducePow, Int.reduceToNat, Nat.reducePow, Nat.reduceLT, true_or, or_true, Bool.not_true, Bool.not_false, Bool.false_eq_true, Bool.or_false, Bool.or_true, Bool.true_or, Bool.false_or, decide_true, decide_false, not_true_eq_false, not_false_eq_true, LL.scal_int, LL.scal_bl, LL.scal_str, LL.isInt, LL.isBl, LL.isStr, LL.isLst, LL.isTup, LL.isDic, N_law_is_power_due]
    refine use_isint hd ⟨_, rfl, ?_⟩
    cases t with
    | int i =>
      obtain rfl : v = V.int i := hd
      rw [if_neg (by simp [LL.isInt])]
      have hf : i.natAbs < 2 ^ 3400 := hf
      refine use_forR (j := 3400) (fun Q q => q) (by decide) (by decide) (fun k σ' H' => H' = H ∧ k ≤ 3400 ∧ (∀ j : Nat, j < k → (2 : Int) ^ j < i) ∧ ∃ z : Option V, σ' = [some (.int i), some (.int (2 ^ k)), z]) ⟨rfl, by decide, fun j hj => absurd hj (Nat.not_lt_zero _), _, rfl⟩ ?_ ?_
      · rintro k σ' H' hk ⟨rfl, k1, hj, z, rfl⟩
        simp only [tSeq, tAsg, tRet, tRetN, tDrop, tNext, tVar, tC, gName, tOp, tUn, rI, rI0, rU, tIfS, tTest, tB, tIf, tAnd, tOr, tNot, tAndV, tOrV, tNotV, tCall, tCons, tNil, tCB, tLst, tTup, tChain, CMul, CDiv, CPow, rEq, rNe, gSub, L2.start, LL.cxK0, LL.cxK1, List.map_cons, List.map_nil, List.length_cons, List.length_nil, List.replicate_succ, List.replicate_zero, List.cons_append, List.nil_append, List.append_nil, List.getElem?_cons_zero, List.getElem?_cons_succ, List.set_cons_zero, List.set_cons_succ, Nat.add_sub_cancel, Nat.reduceAdd, Nat.reduceSub, Option.some.injEq, V.int.injEq, V.bl.injEq, V.ref.injEq, V.str.injEq, List.cons.injEq, and_true, true_and, and_false, false_and, exists_eq_left, exists_eq_left', exists_and_left, exists_and_right, exists_eq, exists_eq', LL.if_dec, reduceCtorEq, exists_false, exists_const, or_false, false_or, if_true, if_false, LL.rInt1, LL.rMx, LL.rMn, and_assoc, Int.reduceNeg, Int.reduceLT, Int.reduceLE, Int.reduceMul, Int.reduceAdd, Int.reduceSub, Int.reducePow, Int.reduceToNat, Nat.reducePow, Nat.reduceLT, true_or, or_true, Bool.not_true, Bool.not_false, Bool.false_eq_true, Bool.or_false, Bool.or_true, Bool.true_or, Bool.false_or, decide_true, decide_false, not_true_eq_false, not_false_eq_true, LL.scal_int, LL.scal_bl, LL.scal_str, LL.isInt, LL.isBl, LL.isStr, LL.isLst, LL.isTup, LL.isDic]
        refine itei (fun h => ?_) (fun h => ?_)
        · simp only [tSeq, tAsg, tRet, tRetN, tDrop, tNext, tVar, tC, gName, tOp, tUn, rI, rI0, rU, tIfS, tTest, tB, tIf, tAnd, tOr, tNot, tAndV, tOrV, tNotV, tCall, tCons, tNil, tCB, tLst, tTup, tChain, CMul, CDiv, CPow, rEq, rNe, gSub, L2.start, LL.cxK0, LL.cxK1, List.map_cons, List.map_nil, List.length_cons, List.length_nil, List.replicate_succ, List.replicate_zero, List.cons_append, List.nil_append, List.append_nil, List.getElem?_cons_zero, List.getElem?_cons_succ, List.set_cons_zero, List.set_cons_succ, Nat.add_sub_cancel, Nat.reduceAdd, Nat.reduceSub, Option.some.injEq, V.int.injEq, V.bl.injEq, V.ref.injEq, V.str.injEq, List.cons.injEq, and_true, true_and, and_false, false_and, exists_eq_left, exists_eq_left', exists_and_left, exists_and_right, exists_eq, exists_eq', LL.if_dec, reduceCtorEq, exists_false, exists_const, or_false, false_or, if_true, if_false, LL.rInt1, LL.rMx, LL.rMn, and_assoc, Int.reduceNeg, Int.reduceLT, Int.reduceLE, Int.reduceMul, Int.reduceAdd, Int.reduceSub, Int.reducePow, Int.reduceToNat, Nat.reducePow, Nat.reduceLT, true_or, or_true, Bool.not_true, Bool.not_false, Bool.false_eq_true, Bool.or_false, Bool.or_true, Bool.true_or, Bool.false_or, decide_true, decide_false, not_true_eq_false, not_false_eq_true, LL.scal_int, LL.scal_bl, LL.scal_str, LL.isInt, LL.isBl, LL.isStr, LL.isLst, LL.isTup, LL.isDic, tBreak]
          rw [show powB (.int i) = decide ((2 : Int) ^ k = i) from pow_stop hj h] at q
          first | exact q | exact ⟨scal_int.mpr trivial, q⟩
        · refine ⟨by have : k < 3400 := hk; omega, fun j hj2 => ?_, by rw [Int.pow_succ]; omega⟩
          by_cases e : j = k
          · rw [e]; omega
          · exact hj j (by omega)
      · rintro σ' H' ⟨rfl, k1, hj, z, rfl⟩
        simp only [tSeq, tAsg, tRet, tRetN, tDrop, tNext, tVar, tC, gName, tOp, tUn, rI, rI0, rU, tIfS, tTest, tB, tIf, tAnd, tOr, tNot, tAndV, tOrV, tNotV, tCall, tCons, tNil, tCB, tLst, tTup, tChain, CMul, CDiv, CPow, rEq, rNe, gSub, L2.start, LL.cxK0, LL.cxK1, List.map_cons, List.map_nil, List.length_cons, List.length_nil, List.replicate_succ, List.replicate_zero, List.cons_append, List.nil_append, List.append_nil, List.getElem?_cons_zero, List.getElem?_cons_succ, List.set_cons_zero, List.set_cons_succ, Nat.add_sub_cancel, Nat.reduceAdd, Nat.reduceSub, Option.some.injEq, V.int.injEq, V.bl.injEq, V.ref.injEq, V.str.injEq, List.cons.injEq, and_true, true_and, and_false, false_and, exists_eq_left, exists_eq_left', exists_and_left, exists_and_right, exists_eq, exists_eq', LL.if_dec, reduceCtorEq, exists_false, exists_const, or_false, false_or, if_true, if_false, LL.rInt1, LL.rMx, LL.rMn, and_assoc, Int.reduceNeg, Int.reduceLT, Int.reduceLE, Int.reduceMul, Int.reduceAdd, Int.reduceSub, Int.reducePow, Int.reduceToNat, Nat.reducePow, Nat.reduceLT, true_or, or_true, Bool.not_true, Bool.not_false, Bool.false_eq_true, Bool.or_false, Bool.or_true, Bool.true_or, Bool.false_or, decide_true, decide_false, not_true_eq_false, not_false_eq_true, LL.scal_int, LL.scal_bl, LL.scal_str, LL.isInt, LL.isBl, LL.isStr, LL.isLst, LL.isTup, LL.isDic]
        have e1 : ((2 ^ 3400 : Nat) : Int) = (2 : Int) ^ 3400 := Int.natCast_pow 2 3400
        have hlt : i < (2 : Int) ^ 3400 := by rw [← e1]; omega
        have e2 : powB (.int i) = false := pow_end (k := 3400) (fun j h => hj j h) hlt
        rw [e2] at q
        rw [decide_eq_false (fun h => by rw [h] at hlt; exact absurd hlt (Int.lt_irrefl _))]
        first | exact q | exact ⟨scal_int.mpr trivial, q⟩
    | _ =>
      rw [if_pos (by simp [LL.isInt])]
      exact q
/-- the titles of the calls -/
def ttl : Nat → Str
  | 0 => "align_up"
  | 1 => "align_down"
  | 2 => "order_of"
  | _ => "power_in"
def valN (k : Nat) (i a : Int) : Int := if k = 0 then i + (-i) % a else if k = 1 then i - i % a else if k = 2 then (Builtin.Int.intBits (i - 1) : Nat) else Builtin.bitAnd i (-i)
def intT : LL.T → Int
  | .int i => i
  | _ => 0
/-- what is told of a call -/
def askT (k : Nat) (t u : LL.T) : LL.T := if k ≤ 1 then (if InR 0 1000000000 t then (if alB 1073741824 u = true then .lst [.str "done", .int (valN k (intT t) (intT u))] else refT "align") else refT "number")
  else if InR 1 1000000000 t then .lst [.str "done", .int (valN k (intT t) (intT u))] else if k = 2 then refT "count" else refT "number"
theorem ask_number {k : Nat} {t u : LL.T} (hk : k ≤ 1) (h : ¬ InR 0 1000000000 t) : askT k t u = refT "number" := by unfold askT; rw [if_pos hk, if_neg h]
theorem ask_align {k : Nat} {t u : LL.T} (hk : k ≤ 1) (h0 : InR 0 1000000000 t) (h : alB 1073741824 u = false) : askT k t u = refT "align" := by unfold askT; rw [if_pos hk, if_pos h0, if_neg (by rw [h]; simp)]
theorem ask_al {k : Nat} {t u : LL.T} (hk : k ≤ 1) (h0 : InR 0 1000000000 t) (h : alB 1073741824 u = true) : askT k t u = .lst [.str "done", .int (valN k (intT t) (intT u))] := by unfold askT; rw [if_pos hk, if_pos h0, if_pos h]
theorem ask_one {k : Nat} {t u : LL.T} (hk : ¬ k ≤ 1) (h0 : InR 1 1000000000 t) : askT k t u = .lst [.str "done", .int (valN k (intT t) (intT u))] := by unfold askT; rw [if_neg hk, if_pos h0]
theorem ask_count {t u : LL.T} (h0 : ¬ InR 1 1000000000 t) : askT 2 t u = refT "count" := by unfold askT; rw [if_neg (by decide), if_neg h0, if_pos rfl]
theorem ask_power {t u : LL.T} (h0 : ¬ InR 1 1000000000 t) : askT 3 t u = refT "number" := by unfold askT; rw [if_neg (by decide), if_neg h0, if_neg (by decide)]
def sp_law_asked : Sp := fun vs H Q _ => ∃ (k : Nat) (F G : Addr → Prop) (v x : V) (t u : LL.T), vs = [.str (ttl k), v, x] ∧ k ≤ 3 ∧ Dt F H v t ∧ Dt G H x u ∧ ∀ r H', Same H H' → Dt (fun a => H a = none) H' r (askT k t u) → Q r H'

theorem ok_law_asked (T : Tx K mg) : FnOk P w K mg base CX0 6 (He.ga K "_law_asked") T.fd_law_asked P_law_asked sp_law_asked := by
  refine T.F_law_asked.ok sc_law_asked (fun vs H Q E h => ?_) (fun cdv A outer s H vs Q E hr h => ⟨_, PSs.nox (pss_one (ps_try_as (i := 3) rfl rfl sc_law_asked.nd rfl rfl ⟨rfl, by decide, Or.inl T.g_BadValue⟩ takes0 (fun W pn xe tk _ => (pss_cons (ps_if (pt_cmpR op_eq (pv 0) (pe_str) (nomark _)) (pss_one (ps_ret (pe_lst (pa_cons (pe_str) (pa_cons (by exact pe_callS (ok_align_up T) hr rfl T.g_align_up T.F_align_up.kp (b_align_up T) (fun σ => passAt tk σ) (by exact (pa_cons (pv 1) (pa_cons (pv 2) pa_nil)))) pa_nil))))) pss_nil) (pss_cons (ps_if (pt_cmpR op_eq (pv 0) (pe_str) (nomark _)) (pss_one (ps_ret (pe_lst (pa_cons (pe_str) (pa_cons (by exact pe_callS (ok_align_down T) hr rfl T.g_align_down T.F_align_down.kp (b_align_down T) (fun σ => passAt tk σ) (by exact (pa_cons (pv 1) (pa_cons (pv 2) pa_nil)))) pa_nil))))) pss_nil) (pss_cons (ps_if (pt_cmpR op_eq (pv 0) (pe_str) (nomark _)) (pss_one (ps_ret (pe_lst (pa_cons (pe_str) (pa_cons (by exact pe_callS (ok_order_of T) (hr.mono (by decide)) rfl T.g_order_of T.F_order_of.kp (b_order_of T) (fun σ => passAt tk σ) (by exact (pa_cons (pv 1) pa_nil))) pa_nil))))) pss_nil) (pss_one (ps_ret (pe_lst (pa_cons (pe_str) (pa_cons (by exact pe_callS (ok_power_in T) (hr.mono (by decide)) rfl T.g_power_in T.F_power_in.kp (b_power_in T) (fun σ => passAt tk σ) (by exact (pa_cons (pv 1) pa_nil))) pa_nil))))))))) (fun a oe cls d pn hz hf => (pss_one (ps_ret (pe_lst (pa_cons (pe_str) (pa_cons (pe_xf T.f_BadValue T.n_BadValue_told hz hf (pv 3)) (pa_cons (pe_tup (pa_cons (pe_xf T.f_BadValue T.n_BadValue_parameter hz hf (pv 3)) pa_nil)) (pa_cons (pe_callZ (ok_law_kinds T) (hr.mono (by decide)) hz hf rfl T.g_law_kinds T.F_law_kinds.kp (b_law_kinds T) (pa_cons (pv 3) pa_nil)) pa_nil)))))))))), ?_⟩)
  · obtain ⟨_, _, _, _, _, _, _, rfl, _⟩ := h
    rfl
  · obtain ⟨k, F, G, v, x, t, u, rfl, hk, h1, h2, q⟩ := h
    simp only [tSeq, tAsg, tRet, tRetN, tDrop, tNext, tVar, tC, gName, tOp, tUn, rI, rI0, rU, tIfS, tTest, tB, tIf, tAnd, tOr, tNot, tAndV, tOrV, tNotV, tCall, tCons, tNil, tCB, tLst, tTup, tChain, CMul, CDiv, CPow, rEq, rNe, gSub, L2.start, LL.cxK0, LL.cxK1, List.map_cons, List.map_nil, List.length_cons, List.length_nil, List.replicate_succ, List.replicate_zero, List.cons_append, List.nil_append, List.append_nil, List.getElem?_cons_zero, List.getElem?_cons_succ, List.set_cons_zero, List.set_cons_succ, Nat.add_sub_cancel, Nat.reduceAdd, Nat.reduceSub, Option.some.injEq, V.int.injEq, V.bl.injEq, V.ref.injEq, V.str.injEq, List.cons.injEq, and_true, true_and, and_false, false_and, exists_eq_left, exists_eq_left', exists_and_left, exists_and_right, exists_eq, exists_eq', LL.if_dec, reduceCtorEq, exists_false, exists_const, or_false, false_or, if_true, if_false, LL.rInt1, LL.rMx, LL.rMn, and_assoc, Int.reduceNeg, Int.reduceLT, Int.reduceLE, Int.reduceMul, Int.reduceAdd, Int.reduceSub, Int.reducePow, Int.reduceToNat, Nat.reducePow, Nat.reduceLT, true_or, or_true, Bool.not_true, Bool.not_false, Bool.false_eq_true, Bool.or_false, Bool.or_true, Bool.true_or, Bool.false_or, decide_true, decide_false, not_true_eq_false, not_false_eq_true, LL.scal_int, LL.scal_bl, LL.scal_str, LL.isInt, LL.isBl, LL.isStr, LL.isLst, LL.isTup, LL.isDic, N_law_asked, tCallS]
    have bad : ∀ (n : Str) (d : Addr) (H' : Hp), BadH H H' d (.str n) → askT k t u = refT n → WE (wAs K (Value.ref (aBV K)) 3 (fun a cls d => tRet (tLst (tCons (tC (V.str "refused")) (tCons (tXf a cls d (aBV K) "told" (tVar 3)) (tCons (tTup (tCons (tXf a cls d (aBV K) "parameter" (tVar 3)) tNil)) (tCons (tCallZ cls d a (sp_law_kinds K) (tCons (tVar 3) tNil)) tNil))))))
        (fun x x_1 x_2 x_3 => False) { nx := fun x H' => Q V.non H', rt := Q }) [some (V.str (ttl k)), some v, some x, none] (.ref (aBV K)) (some d) H' := by
      rintro n d H' ⟨⟨p1, p2, e1, e2, e3, f1, f2⟩, sm, fd⟩ ea
      refine ⟨true, T.m_BadValue, fun _ a na => ?_, fun z => by cases z⟩
      have l1 : List.lookup ("told" : Str) [("told", V.ref p2), ("parameter", V.str n)] = some (V.ref p2) := by simp [List.lookup]
      have l2 : List.lookup ("parameter" : Str) [(("told" : Str), V.ref p2), ("parameter", V.str n)] = some (V.str n) := by
        have h : (("parameter" : Str) == ("told" : Str)) = false := by decide
        simp [List.lookup, h]
      simp only [tSeq, tAsg, tRet, tRetN, tDrop, tNext, tVar, tC, gName, tOp, tUn, rI, rI0, rU, tIfS, tTest, tB, tIf, tAnd, tOr, tNot, tAndV, tOrV, tNotV, tCall, tCons, tNil, tCB, tLst, tTup, tChain, CMul, CDiv, CPow, rEq, rNe, gSub, L2.start, LL.cxK0, LL.cxK1, List.map_cons, List.map_nil, List.length_cons, List.length_nil, List.replicate_succ, List.replicate_zero, List.cons_append, List.nil_append, List.append_nil, List.getElem?_cons_zero, List.getElem?_cons_succ, List.set_cons_zero, List.set_cons_succ, Nat.add_sub_cancel, Nat.reduceAdd, Nat.reduceSub, Option.some.injEq, V.int.injEq, V.bl.injEq, V.ref.injEq, V.str.injEq, List.cons.injEq, and_true, true_and, and_false, false_and, exists_eq_left, exists_eq_left', exists_and_left, exists_and_right, exists_eq, exists_eq', LL.if_dec, reduceCtorEq, exists_false, exists_const, or_false, false_or, if_true, if_false, LL.rInt1, LL.rMx, LL.rMn, and_assoc, Int.reduceNeg, Int.reduceLT, Int.reduceLE, Int.reduceMul, Int.reduceAdd, Int.reduceSub, Int.reducePow, Int.reduceToNat, Nat.reducePow, Nat.reduceLT, true_or, or_true, Bool.not_true, Bool.not_false, Bool.false_eq_true, Bool.or_false, Bool.or_true, Bool.true_or, Bool.false_or, decide_true, decide_false, not_true_eq_false, not_false_eq_true, LL.scal_int, LL.scal_bl, LL.scal_str, LL.isInt, LL.isBl, LL.isStr, LL.isLst, LL.isTup, LL.isDic, tXf, tCallZ]
      refine ⟨_, e1, _, l1, _, e1, _, l2, by decide, ?_⟩
      intro p3 np3
      generalize hq : upd H' p3 _ = H1
      have sH1 : Same H' H1 := hq ▸ Same.new (Same.refl _) np3
      have ep3 := hq ▸ (upd_same (H := H') (a := p3))
      clear hq
      replace e1 := sH1 _ _ e1
      replace e2 := sH1 _ _ e2
      replace e3 := sH1 _ _ e3
      refine ⟨_, rfl, rfl, rfl, ⟨_, e1⟩, fun r H2 s2 hr => ⟨by decide, ?_⟩⟩
      replace e2 := s2 _ _ e2
      replace e3 := s2 _ _ e3
      replace ep3 := s2 _ _ ep3
      intro p4 np4
      generalize hq : upd H2 p4 _ = H3
      have sH3 : Same H2 H3 := hq ▸ Same.new (Same.refl _) np4
      have ep4 := hq ▸ (upd_same (H := H2) (a := p4))
      clear hq
      replace e2 := sH3 _ _ e2
      replace e3 := sH3 _ _ e3
      replace ep3 := sH3 _ _ ep3
      have g1 : Same H H1 := sm.trans sH1
      have g : Same H H3 := (g1.trans s2).trans sH3
      refine q _ _ g ?_
      rw [ea]
      refine ⟨p4, _, rfl, (g1.trans s2).free np4, ep4, .cons rfl (.cons ⟨p2, _, rfl, f2, e3, .cons rfl (.one ⟨p1, _, rfl, f1, e2, .one rfl, by simp⟩), by simp⟩ (.cons ⟨p3, _, rfl, sm.free np3, ep3, .one rfl, by simp⟩ (.one ((hr.same sH3).to fun b hb => g1.free hb)))), by simp⟩
    have good : ∀ (r : V) (z : LL.T) (H' : Hp), Same H H' → Dt (fun a => H a = none) H' r z → askT k t u = .lst [.str "done", z] → 2 ≤ sizeLine ∧ ∀ (p : Addr), H' p = none → Q (V.ref p) (upd H' p (HO.lst [V.str "done", r])) := by
      intro r z H' sm hr ea
      refine ⟨by decide, ?_⟩
      intro p np
      generalize hq : upd H' p _ = H1
      have sH1 : Same H' H1 := hq ▸ Same.new (Same.refl _) np
      have ep := hq ▸ (upd_same (H := H') (a := p))
      clear hq
      refine q _ _ (sm.trans sH1) ?_
      rw [ea]
      exact ⟨p, _, rfl, sm.free np, ep, .cons rfl (.one (hr.same sH1)), by simp⟩
    match k, hk with
    | 0, _ =>
      rw [if_pos (show ttl 0 = Str.ofString "align_up" from rfl)]
      refine ⟨F, G, v, x, t, u, rfl, h1, h2, fun hb d H' B => bad _ d H' B (ask_number (by decide) hb), fun ha hb d H' B => bad _ d H' B (ask_align (by decide) ha hb), fun i a et eu s1 s2 => good _ (.int (i + (-i) % a)) H (Same.refl _) rfl ?_⟩
      subst et eu
      exact ask_al (by decide) s1 s2
    | 1, _ =>
      rw [if_neg (show ¬ ttl 1 = Str.ofString "align_up" by decide), if_pos (show ttl 1 = Str.ofString "align_down" from rfl)]
      refine ⟨F, G, v, x, t, u, rfl, h1, h2, fun hb d H' B => bad _ d H' B (ask_number (by decide) hb), fun ha hb d H' B => bad _ d H' B (ask_align (by decide) ha hb), fun i a et eu s1 s2 => good _ (.int (i - i % a)) H (Same.refl _) rfl ?_⟩
      subst et eu
      exact ask_al (by decide) s1 s2
    | 2, _ =>
      rw [if_neg (show ¬ ttl 2 = Str.ofString "align_up" by decide), if_neg (show ¬ ttl 2 = Str.ofString "align_down" by decide), if_pos (show ttl 2 = Str.ofString "order_of" from rfl)]
      refine ⟨F, v, t, rfl, h1, fun hb d H' B => bad _ d H' B (ask_count hb), fun c et s1 => good _ (.int (Builtin.Int.intBits (c - 1) : Nat)) H (Same.refl _) rfl ?_⟩
      subst et
      exact ask_one (by decide) s1
    | 3, _ =>
      rw [if_neg (show ¬ ttl 3 = Str.ofString "align_up" by decide), if_neg (show ¬ ttl 3 = Str.ofString "align_down" by decide), if_neg (show ¬ ttl 3 = Str.ofString "order_of" by decide)]
      refine ⟨F, v, t, rfl, h1, fun hb d H' B => bad _ d H' B (ask_power hb), fun c et s1 => good _ (.int (Builtin.bitAnd c (-c))) H (Same.refl _) rfl ?_⟩
      subst et
      exact ask_one (by decide) s1
theorem use_asked {F G : Addr → Prop} (k : Nat) {v x : V} {t u : LL.T} {H : Hp} {Q : VK} {E : XK} (hk : k ≤ 3) (h1 : Dt F H v t) (h2 : Dt G H x u) (q : ∀ r H', Same H H' → Dt (fun a => H a = none) H' r (askT k t u) → Q r H') : sp_law_asked [.str (ttl k), v, x] H Q E := ⟨k, F, G, v, x, t, u, rfl, hk, h1, h2, q⟩
theorem use_askI {k : Nat} {i a y : Int} {x : V} {u : LL.T} {H : Hp} {Q : VK} {E : XK} (hk : k ≤ 3) (h2 : Dt (fun _ => True) H x u) (e : askT k (.int i) u = .lst [.str "done", .int y]) (q : ∀ p H', Same H H' → H' p = some (.lst [.str "done", .int y]) → Q (.ref p) H') : sp_law_asked [.str (ttl k), .int i, x] H Q E := by
  refine use_asked (F := fun _ => True) (t := .int i) k hk rfl h2 fun r H' s1 hr => ?_
  rw [e] at hr
  obtain ⟨p, _, rfl, _, ep, ⟨y1, _, rfl, d1, y2, _, rfl, d2, rfl⟩, _⟩ := hr
  obtain rfl : y1 = V.str "done" := d1
  obtain rfl : y2 = V.int y := d2
  exact q p H' s1 ep
def sp_law_aligned_right : Sp := fun vs H Q _ => ∃ (n : Int) (k : Nat), vs = [.int n, .int (2 ^ k)] ∧ 0 ≤ n ∧ n ≤ 1000000000 ∧ k ≤ 30 ∧ ∀ H', Same H H' → Q (.bl true) H'
theorem use_alignedR {n : Int} {k : Nat} {H : Hp} {Q : VK} {E : XK} (h0 : 0 ≤ n) (h1 : n ≤ 1000000000) (h2 : k ≤ 30) (q : ∀ H', Same H H' → Q (.bl true) H') : sp_law_aligned_right [.int n, .int (2 ^ k)] H Q E := ⟨n, k, rfl, h0, h1, h2, q⟩
theorem pow30 {k : Nat} (h : k ≤ 30) : (2 : Int) ^ k ≤ 1073741824 := by
  have e : ((2 ^ k : Nat) : Int) = (2 : Int) ^ k := Int.natCast_pow 2 k
  have h3 : 2 ^ k ≤ 2 ^ 30 := Nat.pow_le_pow_right (by decide) h
  omega
theorem al_pow {k : Nat} (h : k ≤ 30) : alB 1073741824 (.int (2 ^ k)) = true := by
  show (isP (2 ^ k) && _) = true
  rw [isP_pow, decide_eq_true (pow30 h)]
  rfl

theorem ok_law_aligned_right (T : Tx K mg) : FnOk P w K mg base CX0 7 (He.ga K "_law_aligned_right") T.fd_law_aligned_right P_law_aligned_right sp_law_aligned_right := by
  refine T.F_law_aligned_right.ok sc_law_aligned_right (fun vs H Q E h => ?_) (fun cdv A outer s H vs Q E hr h => ⟨_, PSs.nox (pss_cons (ps_set (i := 2) sc_law_aligned_right.nd rfl (Or.inl rfl) (pe_call (ok_law_asked T) hr rfl T.g_law_asked T.F_law_asked.kp (b_law_asked T) .nil pass0 (pa_cons (pe_str) (pa_cons (pv 0) (pa_cons (pv 1) pa_nil))))) (pss_cons (ps_set (i := 3) sc_law_aligned_right.nd rfl (Or.inl rfl) (pe_call (ok_law_asked T) hr rfl T.g_law_asked T.F_law_asked.kp (b_law_asked T) .nil pass0 (pa_cons (pe_str) (pa_cons (pv 0) (pa_cons (pv 1) pa_nil))))) (pss_cons (ps_if (PW.pt (pw_or (pt_cmpR op_ne (pe_ix ix_list (pv 2) (pe_int) (fun _ _ => rfl)) (pe_str) (nomark _)) (pw_or (pt_cmpR op_ne (pe_ix ix_list (pv 3) (pe_int) (fun _ _ => rfl)) (pe_str) (nomark _)) (pw_or (pt_not (pt_val (pe_call (ok_law_is_int T) (hr.mono (by decide)) rfl T.g_law_is_int T.F_law_is_int.kp (b_law_is_int T) .nil pass0 (pa_cons (pe_ix ix_list (pv 2) (pe_int) (fun _ _ => rfl)) pa_nil)))) (pw_or1 (pt_not (pt_val (pe_call (ok_law_is_int T) (hr.mono (by decide)) rfl T.g_law_is_int T.F_law_is_int.kp (b_law_is_int T) .nil pass0 (pa_cons (pe_ix ix_list (pv 3) (pe_int) (fun _ _ => rfl)) pa_nil))))))))) (pss_one (ps_ret (pe_bl))) pss_nil) (pss_cons (ps_if (PW.pt (pw_or (pt_cmpR op_ne (pe_op op_mod (pe_callTy LL.call_intI (by rfl) T.z_int (by decide +kernel) (pa_cons (pe_ix ix_list (pv 2) (pe_int) (fun _ _ => rfl)) pa_nil)) (pv 1)) (pe_int) (nomark _)) (pw_or1 (pt_cmpR op_ne (pe_op op_mod (pe_callTy LL.call_intI (by rfl) T.z_int (by decide +kernel) (pa_cons (pe_ix ix_list (pv 3) (pe_int) (fun _ _ => rfl)) pa_nil)) (pv 1)) (pe_int) (nomark _))))) (pss_one (ps_ret (pe_bl))) pss_nil) (pss_one (ps_ret ((pe_and (pe_chain op_lt op_le (pe_op op_sub (pe_ix ix_list (pv 2) (pe_int) (fun _ _ => rfl)) (pv 1)) (pv 0) (pe_ix ix_list (pv 2) (pe_int) (fun _ _ => rfl))) (pe_one (pe_chain op_le op_lt (pe_ix ix_list (pv 3) (pe_int) (fun _ _ => rfl)) (pv 0) (pe_op op_add (pe_ix ix_list (pv 3) (pe_int) (fun _ _ => rfl)) (pv 1)))))))))))), ?_⟩)
  · obtain ⟨_, _, rfl, _⟩ := h
    rfl
  · obtain ⟨n, k, rfl, n0, n1, hk, q⟩ := h
    simp only [tSeq, tAsg, tRet, tRetN, tDrop, tNext, tVar, tC, gName, tOp, tUn, rI, rI0, rU, tIfS, tTest, tB, tIf, tAnd, tOr, tNot, tAndV, tOrV, tNotV, tCall, tCons, tNil, tCB, tLst, tTup, tChain, CMul, CDiv, CPow, rEq, rNe, gSub, L2.start, LL.cxK0, LL.cxK1, List.map_cons, List.map_nil, List.length_cons, List.length_nil, List.replicate_succ, List.replicate_zero, List.cons_append, List.nil_append, List.append_nil, List.getElem?_cons_zero, List.getElem?_cons_succ, List.set_cons_zero, List.set_cons_succ, Nat.add_sub_cancel, Nat.reduceAdd, Nat.reduceSub, Option.some.injEq, V.int.injEq, V.bl.injEq, V.ref.injEq, V.str.injEq, List.cons.injEq, and_true, true_and, and_false, false_and, exists_eq_left, exists_eq_left', exists_and_left, exists_and_right, exists_eq, exists_eq', LL.if_dec, reduceCtorEq, exists_false, exists_const, or_false, false_or, if_true, if_false, LL.rInt1, LL.rMx, LL.rMn, and_assoc, Int.reduceNeg, Int.reduceLT, Int.reduceLE, Int.reduceMul, Int.reduceAdd, Int.reduceSub, Int.reducePow, Int.reduceToNat, Nat.reducePow, Nat.reduceLT, true_or, or_true, Bool.not_true, Bool.not_false, Bool.false_eq_true, Bool.or_false, Bool.or_true, Bool.true_or, Bool.false_or, decide_true, decide_false, not_true_eq_false, not_false_eq_true, LL.scal_int, LL.scal_bl, LL.scal_str, LL.isInt, LL.isBl, LL.isStr, LL.isLst, LL.isTup, LL.isDic, N_law_aligned_right]
    have hp := pow_pos' k
    refine use_askI (k := 0) (y := n + (-n) % 2 ^ k) (a := 2 ^ k) (u := .int (2 ^ k)) (by decide) rfl (ask_al (by decide) ⟨n0, n1⟩ (al_pow hk)) fun p1 H1 s1 e1 => ?_
    refine use_askI (k := 1) (y := n - n % 2 ^ k) (a := 2 ^ k) (u := .int (2 ^ k)) (by decide) rfl (ask_al (by decide) ⟨n0, n1⟩ (al_pow hk)) fun p2 H2 s2 e2 => ?_
    replace e1 := s2 _ _ e1
    have m1 := Int.emod_nonneg (-n) (show (2 : Int) ^ k ≠ 0 by omega)
    have m2 := Int.emod_lt_of_pos (-n) hp
    have m3 := Int.emod_nonneg n (show (2 : Int) ^ k ≠ 0 by omega)
    have m4 := Int.emod_lt_of_pos n hp
    have d1 : (n + (-n) % 2 ^ k) % 2 ^ k = 0 := Int.emod_eq_zero_of_dvd ⟨-((-n) / 2 ^ k), by rw [Int.emod_def, Int.mul_neg]; omega⟩
    have d2 : (n - n % 2 ^ k) % 2 ^ k = 0 := Int.emod_eq_zero_of_dvd ⟨n / 2 ^ k, by rw [Int.emod_def]; omega⟩
    refine use_ixL e1 rfl ⟨rfl, ?_⟩
    rw [if_neg (by simp)]
    refine use_ixL e2 rfl ⟨rfl, ?_⟩
    rw [if_neg (by simp)]
    refine use_ixL e1 rfl (use_isint (F := fun _ => True) (t := .int _) rfl ⟨true, rfl, ?_⟩)
    rw [if_neg (by simp)]
    refine use_ixL e2 rfl (use_isint (F := fun _ => True) (t := .int _) rfl ⟨true, rfl, ?_⟩)
    rw [if_neg (by simp)]
    refine use_ixL e1 rfl ⟨_, rfl, hp, ?_⟩
    rw [if_neg (by rw [decide_eq_true d1]; simp)]
    refine use_ixL e2 rfl ⟨_, rfl, hp, ?_⟩
    rw [if_neg (by rw [decide_eq_true d2]; simp)]
    refine use_ixL e1 rfl ⟨_, rfl, ?_⟩
    rw [if_pos (by omega)]
    refine use_ixL e1 rfl ⟨_, rfl, ?_⟩
    rw [if_pos (by omega)]
    refine use_ixL e2 rfl ⟨_, rfl, ?_⟩
    rw [if_pos (by omega)]
    refine use_ixL e2 rfl ⟨_, rfl, ?_⟩
    rw [decide_eq_true (by omega)]
    exact q _ (s1.trans s2)
def sp_law_one_right : Sp := fun vs H Q _ => ∃ (n : Int), vs = [.int n] ∧ 1 ≤ n ∧ n ≤ 1000000000 ∧ ∀ H', Same H H' → Q (.bl true) H'
theorem use_oneR {n : Int} {H : Hp} {Q : VK} {E : XK} (h0 : 1 ≤ n) (h1 : n ≤ 1000000000) (q : ∀ H', Same H H' → Q (.bl true) H') : sp_law_one_right [.int n] H Q E := ⟨n, rfl, h0, h1, q⟩

theorem ok_law_order_right (T : Tx K mg) : FnOk P w K mg base CX0 7 (He.ga K "_law_order_right") T.fd_law_order_right P_law_order_right sp_law_one_right := by
  refine T.F_law_order_right.ok sc_law_order_right (fun vs H Q E h => ?_) (fun cdv A outer s H vs Q E hr h => ⟨_, PSs.nox (pss_cons (ps_set (i := 1) sc_law_order_right.nd rfl (Or.inl rfl) (pe_call (ok_law_asked T) hr rfl T.g_law_asked T.F_law_asked.kp (b_law_asked T) .nil pass0 (pa_cons (pe_str) (pa_cons (pv 0) (pa_cons (pe_non) pa_nil))))) (pss_cons (ps_if (PW.pt (pw_or (pt_cmpR op_ne (pe_ix ix_list (pv 1) (pe_int) (fun _ _ => rfl)) (pe_str) (nomark _)) (pw_or1 (pt_not (pt_val (pe_call (ok_law_is_within T) (hr.mono (by decide)) rfl T.g_law_is_within T.F_law_is_within.kp (b_law_is_within T) .nil pass0 (pa_cons (pe_ix ix_list (pv 1) (pe_int) (fun _ _ => rfl)) (pa_cons (pe_int) (pa_cons (pe_int) pa_nil))))))))) (pss_one (ps_ret (pe_bl))) pss_nil) (pss_cons (ps_set (i := 2) sc_law_order_right.nd rfl (Or.inl rfl) (pe_call (ok_law_power T) (hr.mono (by decide)) rfl T.g_law_power T.F_law_power.kp (b_law_power T) .nil pass0 (pa_cons (pe_ix ix_list (pv 1) (pe_int) (fun _ _ => rfl)) pa_nil))) (pss_one (ps_ret ((pe_and (pe_cmpR op_ge (pv 2) (pv 0) (nomark _)) (pe_one ((pe_or (pe_cmpR op_eq (pv 2) (pe_int) (nomark _)) (pe_one (pe_cmpR op_lt (pe_op op_fdiv (pv 2) (pe_int)) (pv 0) (nomark _))))))))))))), ?_⟩)
  · obtain ⟨_, rfl, _⟩ := h
    rfl
  · obtain ⟨n, rfl, n0, n1, q⟩ := h
    simp only [tSeq, tAsg, tRet, tRetN, tDrop, tNext, tVar, tC, gName, tOp, tUn, rI, rI0, rU, tIfS, tTest, tB, tIf, tAnd, tOr, tNot, tAndV, tOrV, tNotV, tCall, tCons, tNil, tCB, tLst, tTup, tChain, CMul, CDiv, CPow, rEq, rNe, gSub, L2.start, LL.cxK0, LL.cxK1, List.map_cons, List.map_nil, List.length_cons, List.length_nil, List.replicate_succ, List.replicate_zero, List.cons_append, List.nil_append, List.append_nil, List.getElem?_cons_zero, List.getElem?_cons_succ, List.set_cons_zero, List.set_cons_succ, Nat.add_sub_cancel, Nat.reduceAdd, Nat.reduceSub, Option.some.injEq, V.int.injEq, V.bl.injEq, V.ref.injEq, V.str.injEq, List.cons.injEq, and_true, true_and, and_false, false_and, exists_eq_left, exists_eq_left', exists_and_left, exists_and_right, exists_eq, exists_eq', LL.if_dec, reduceCtorEq, exists_false, exists_const, or_false, false_or, if_true, if_false, LL.rInt1, LL.rMx, LL.rMn, and_assoc, Int.reduceNeg, Int.reduceLT, Int.reduceLE, Int.reduceMul, Int.reduceAdd, Int.reduceSub, Int.reducePow, Int.reduceToNat, Nat.reducePow, Nat.reduceLT, true_or, or_true, Bool.not_true, Bool.not_false, Bool.false_eq_true, Bool.or_false, Bool.or_true, Bool.true_or, Bool.false_or, decide_true, decide_false, not_true_eq_false, not_false_eq_true, LL.scal_int, LL.scal_bl, LL.scal_str, LL.isInt, LL.isBl, LL.isStr, LL.isLst, LL.isTup, LL.isDic, N_law_order_right]
    refine use_askI (k := 2) (y := (Builtin.Int.intBits (n - 1) : Nat)) (a := 0) (u := .non) (by decide) rfl (ask_one (by decide) ⟨n0, n1⟩) fun p1 H1 s1 e1 => ?_
    obtain ⟨b1, b2⟩ := bits_least n0
    generalize Builtin.Int.intBits (n - 1) = b at b1 b2 e1
    have hb : b ≤ 30 := by
      rcases Nat.lt_or_ge 30 b with h | h
      · exfalso
        have e : ((2 ^ b : Nat) : Int) = (2 : Int) ^ b := Int.natCast_pow 2 b
        have h3 : 2 ^ 31 ≤ 2 ^ b := Nat.pow_le_pow_right (by decide) (by omega)
        rcases b2 with h | h <;> omega
      · exact h
    refine use_ixL e1 rfl ⟨rfl, ?_⟩
    rw [if_neg (by simp)]
    refine use_ixL e1 rfl ⟨_, _, _, rfl, _, rfl, ?_⟩
    rw [decide_eq_true (by omega), if_neg (by simp)]
    refine use_ixL e1 rfl ⟨b, rfl, by omega, _, rfl, ?_⟩
    rw [if_pos b1]
    refine ⟨scal_int.mpr trivial, itei (fun h => q _ s1) (fun h => ⟨_, rfl, ?_⟩)⟩
    rw [decide_eq_true (b2.elim (fun z => absurd (by rw [z]; rfl) h) id)]
    exact q _ s1
theorem ok_law_factor_right (T : Tx K mg) : FnOk P w K mg base CX0 7 (He.ga K "_law_factor_right") T.fd_law_factor_right P_law_factor_right sp_law_one_right := by
  refine T.F_law_factor_right.ok sc_law_factor_right (fun vs H Q E h => ?_) (fun cdv A outer s H vs Q E hr h => ⟨_, PSs.nox (pss_cons (ps_set (i := 1) sc_law_factor_right.nd rfl (Or.inl rfl) (pe_call (ok_law_asked T) hr rfl T.g_law_asked T.F_law_asked.kp (b_law_asked T) .nil pass0 (pa_cons (pe_str) (pa_cons (pv 0) (pa_cons (pe_non) pa_nil))))) (pss_cons (ps_if (PW.pt (pw_or (pt_cmpR op_ne (pe_ix ix_list (pv 1) (pe_int) (fun _ _ => rfl)) (pe_str) (nomark _)) (pw_or1 (pt_not (pt_val (pe_call (ok_law_is_within T) (hr.mono (by decide)) rfl T.g_law_is_within T.F_law_is_within.kp (b_law_is_within T) .nil pass0 (pa_cons (pe_ix ix_list (pv 1) (pe_int) (fun _ _ => rfl)) (pa_cons (pe_int) (pa_cons (pe_op op_pow (pe_int) (pe_int)) pa_nil))))))))) (pss_one (ps_ret (pe_bl))) pss_nil) (pss_cons (ps_set (i := 2) sc_law_factor_right.nd rfl (Or.inl rfl) (pe_ix ix_list (pv 1) (pe_int) (fun _ _ => rfl))) (pss_one (ps_ret ((pe_and (pe_cmpR op_eq (pe_op op_mod (pe_callTy LL.call_intI (by rfl) T.z_int (by decide +kernel) (pa_cons (pe_op op_pow (pe_int) (pe_int)) pa_nil)) (pv 2)) (pe_int) (nomark _)) (pe_and (pe_cmpR op_eq (pe_op op_mod (pe_callTy LL.call_intI (by rfl) T.z_int (by decide +kernel) (pa_cons (pv 0) pa_nil)) (pv 2)) (pe_int) (nomark _)) (pe_one (pe_cmpR op_eq (pe_op op_mod (pe_callTy LL.call_intI (by rfl) T.z_int (by decide +kernel) (pa_cons (pe_op op_fdiv (pv 0) (pv 2)) pa_nil)) (pe_int)) (pe_int) (nomark _))))))))))), ?_⟩)
  · obtain ⟨_, rfl, _⟩ := h
    rfl
  · obtain ⟨n, rfl, n0, n1, q⟩ := h
    simp only [tSeq, tAsg, tRet, tRetN, tDrop, tNext, tVar, tC, gName, tOp, tUn, rI, rI0, rU, tIfS, tTest, tB, tIf, tAnd, tOr, tNot, tAndV, tOrV, tNotV, tCall, tCons, tNil, tCB, tLst, tTup, tChain, CMul, CDiv, CPow, rEq, rNe, gSub, L2.start, LL.cxK0, LL.cxK1, List.map_cons, List.map_nil, List.length_cons, List.length_nil, List.replicate_succ, List.replicate_zero, List.cons_append, List.nil_append, List.append_nil, List.getElem?_cons_zero, List.getElem?_cons_succ, List.set_cons_zero, List.set_cons_succ, Nat.add_sub_cancel, Nat.reduceAdd, Nat.reduceSub, Option.some.injEq, V.int.injEq, V.bl.injEq, V.ref.injEq, V.str.injEq, List.cons.injEq, and_true, true_and, and_false, false_and, exists_eq_left, exists_eq_left', exists_and_left, exists_and_right, exists_eq, exists_eq', LL.if_dec, reduceCtorEq, exists_false, exists_const, or_false, false_or, if_true, if_false, LL.rInt1, LL.rMx, LL.rMn, and_assoc, Int.reduceNeg, Int.reduceLT, Int.reduceLE, Int.reduceMul, Int.reduceAdd, Int.reduceSub, Int.reducePow, Int.reduceToNat, Nat.reducePow, Nat.reduceLT, true_or, or_true, Bool.not_true, Bool.not_false, Bool.false_eq_true, Bool.or_false, Bool.or_true, Bool.true_or, Bool.false_or, decide_true, decide_false, not_true_eq_false, not_false_eq_true, LL.scal_int, LL.scal_bl, LL.scal_str, LL.isInt, LL.isBl, LL.isStr, LL.isLst, LL.isTup, LL.isDic, N_law_factor_right]
    refine use_askI (k := 3) (y := Builtin.bitAnd n (-n)) (a := 0) (u := .non) (by decide) rfl (ask_one (by decide) ⟨n0, n1⟩) fun p1 H1 s1 e1 => ?_
    obtain ⟨k, m, ek, hm, en⟩ := powIn n0
    rw [ek] at e1
    have hp := pow_pos' k
    have hm2 : (0 : Int) ≤ 2 ^ k * (2 * m) := Int.mul_nonneg (by omega) (by omega)
    have hle : (2 : Int) ^ k ≤ n := by rw [en, Int.mul_add, Int.mul_one]; omega
    have hk : k ≤ 29 := by
      rcases Nat.lt_or_ge 29 k with h | h
      · exfalso
        have e : ((2 ^ k : Nat) : Int) = (2 : Int) ^ k := Int.natCast_pow 2 k
        have h3 : 2 ^ 30 ≤ 2 ^ k := Nat.pow_le_pow_right (by decide) (by omega)
        omega
      · exact h
    have d1 : (1073741824 : Int) % 2 ^ k = 0 := Int.emod_eq_zero_of_dvd ⟨2 ^ (30 - k), by rw [← Int.pow_add, show k + (30 - k) = 30 by omega]; rfl⟩
    have d2 : n % 2 ^ k = 0 := Int.emod_eq_zero_of_dvd ⟨_, en⟩
    have d3 : n / 2 ^ k = 2 * m + 1 := by rw [en, Int.mul_ediv_cancel_left _ (by omega)]
    refine use_ixL e1 rfl ⟨rfl, ?_⟩
    rw [if_neg (by simp)]
    refine use_ixL e1 rfl ⟨by decide, _, _, _, rfl, _, rfl, ?_⟩
    rw [decide_eq_true (by omega), if_neg (by simp)]
    refine use_ixL e1 rfl ⟨by decide, _, rfl, hp, ?_⟩
    rw [if_pos d1]
    refine ⟨_, rfl, hp, ?_⟩
    rw [if_pos d2]
    refine ⟨_, rfl, hp, by omega, ?_⟩
    rw [d3, decide_eq_true (by omega)]
    exact q _ s1
theorem ints_dt {F : Addr → Prop} {H : Hp} : ∀ ns : List Int, DtL F H (ns.map V.int) (ns.map LL.T.int)
  | [] => rfl
  | n :: ns => .cons rfl (ints_dt ns)
def sp_law_numbers_right : Sp := fun vs H Q _ => vs = [] ∧ ∀ H', Same H H' → Q (.bl true) H'

theorem ok_law_numbers_right (T : Tx K mg) : FnOk P w K mg base CX0 10 (He.ga K "_law_numbers_right") T.fd_law_numbers_right P_law_numbers_right sp_law_numbers_right := by
  refine T.F_law_numbers_right.ok sc_law_numbers_right (fun vs H Q E h => ?_) (fun cdv A outer s H vs Q E hr h => ⟨_, PSs.nox (pss_cons (ps_set (i := 0) sc_law_numbers_right.nd rfl (Or.inl rfl) (pe_lst (pa_cons (pe_glob (v := .int 65535) rfl T.c_MOST_WORD.choose_spec ⟨_, rfl⟩) (pa_cons (pe_glob (v := .int 0) rfl T.c_NOBODY.choose_spec ⟨_, rfl⟩) (pa_cons (pe_glob (v := .int 21) rfl T.c_MAP.choose_spec ⟨_, rfl⟩) (pa_cons (pe_glob (v := .int 22) rfl T.c_SLAB.choose_spec ⟨_, rfl⟩) (pa_cons (pe_glob (v := .int 23) rfl T.c_EXTENT.choose_spec ⟨_, rfl⟩) (pa_cons (pe_glob (v := .int 24) rfl T.c_HEAP.choose_spec ⟨_, rfl⟩) (pa_cons (pe_glob (v := .int 25) rfl T.c_REGION.choose_spec ⟨_, rfl⟩) (pa_cons (pe_glob (v := .int 26) rfl T.c_HANDLE.choose_spec ⟨_, rfl⟩) (pa_cons (pe_glob (v := .int 27) rfl T.c_MAPPED.choose_spec ⟨_, rfl⟩) (pa_cons (pe_glob (v := .int 28) rfl T.c_NODE.choose_spec ⟨_, rfl⟩) (pa_cons (pe_glob (v := .int 4711) rfl T.c_MAGIC.choose_spec ⟨_, rfl⟩) (pa_cons (pe_glob (v := .int 60001) rfl T.c_RED.choose_spec ⟨_, rfl⟩) (pa_cons (pe_glob (v := .int 60002) rfl T.c_POISON.choose_spec ⟨_, rfl⟩) pa_nil))))))))))))))) (pss_one (ps_ret (pe_call (ok_law_same T 8) hr rfl T.g_law_same T.F_law_same.kp (b_law_same T) .nil pass0 (pa_cons (pv 0) (pa_cons (pe_lst (pa_cons (pe_int) (pa_cons (pe_int) (pa_cons (pe_int) (pa_cons (pe_int) (pa_cons (pe_int) (pa_cons (pe_int) (pa_cons (pe_int) (pa_cons (pe_int) (pa_cons (pe_int) (pa_cons (pe_int) (pa_cons (pe_int) (pa_cons (pe_int) (pa_cons (pe_int) pa_nil)))))))))))))) pa_nil)))))), ?_⟩)
  · obtain ⟨rfl, _⟩ := h
    rfl
  · obtain ⟨rfl, q⟩ := h
    simp only [tSeq, tAsg, tRet, tRetN, tDrop, tNext, tVar, tC, gName, tOp, tUn, rI, rI0, rU, tIfS, tTest, tB, tIf, tAnd, tOr, tNot, tAndV, tOrV, tNotV, tCall, tCons, tNil, tCB, tLst, tTup, tChain, CMul, CDiv, CPow, rEq, rNe, gSub, L2.start, LL.cxK0, LL.cxK1, List.map_cons, List.map_nil, List.length_cons, List.length_nil, List.replicate_succ, List.replicate_zero, List.cons_append, List.nil_append, List.append_nil, List.getElem?_cons_zero, List.getElem?_cons_succ, List.set_cons_zero, List.set_cons_succ, Nat.add_sub_cancel, Nat.reduceAdd, Nat.reduceSub, Option.some.injEq, V.int.injEq, V.bl.injEq, V.ref.injEq, V.str.injEq, List.cons.injEq, and_true, true_and, and_false, false_and, exists_eq_left, exists_eq_left', exists_and_left, exists_and_right, exists_eq, exists_eq', LL.if_dec, reduceCtorEq, exists_false, exists_const, or_false, false_or, if_true, if_false, LL.rInt1, LL.rMx, LL.rMn, and_assoc, Int.reduceNeg, Int.reduceLT, Int.reduceLE, Int.reduceMul, Int.reduceAdd, Int.reduceSub, Int.reducePow, Int.reduceToNat, Nat.reducePow, Nat.reduceLT, true_or, or_true, Bool.not_true, Bool.not_false, Bool.false_eq_true, Bool.or_false, Bool.or_true, Bool.true_or, Bool.false_or, decide_true, decide_false, not_true_eq_false, not_false_eq_true, LL.scal_int, LL.scal_bl, LL.scal_str, LL.isInt, LL.isBl, LL.isStr, LL.isLst, LL.isTup, LL.isDic, N_law_numbers_right]
    refine ⟨by decide, ?_⟩
    intro p1 np1
    generalize hq : upd H p1 _ = H1
    have sH1 : Same H H1 := hq ▸ Same.new (Same.refl _) np1
    have ep1 := hq ▸ (upd_same (H := H) (a := p1))
    clear hq
    refine ⟨by decide, ?_⟩
    intro p2 np2
    generalize hq : upd H1 p2 _ = H2
    have sH2 : Same H1 H2 := hq ▸ Same.new (Same.refl _) np2
    have ep2 := hq ▸ (upd_same (H := H1) (a := p2))
    clear hq
    replace ep1 := sH2 _ _ ep1
    exact use_same (F := fun _ => True) (G := fun _ => True) (t := .lst ([65535, 0, 21, 22, 23, 24, 25, 26, 27, 28, 4711, 60001, 60002].map LL.T.int)) ⟨p1, _, rfl, trivial, ep1, ints_dt [65535, 0, 21, 22, 23, 24, 25, 26, 27, 28, 4711, 60001, 60002], by simp⟩ ⟨p2, _, rfl, trivial, ep2, ints_dt [65535, 0, 21, 22, 23, 24, 25, 26, 27, 28, 4711, 60001, 60002], by simp⟩ (by simp [dep, depL]) fun H3 s3 => q _ ((sH1.trans sH2).trans s3)
def sp_law_judged_right (K : PySem.W.Frag) : Sp := fun vs H Q _ => ∃ (F : Addr → Prop) (p : Addr) (xs : List V) (ts : List LL.T), vs = [.ref p] ∧ H p = some (.lst xs) ∧ DtL F H xs ts ∧ depL ts ≤ 6 ∧ (∀ t ∈ ts, Fit t) ∧ ∀ H', Same H H' → Q (.bl true) H'

theorem ok_law_judged_right (T : Tx K mg) : FnOk P w K mg base CX0 10 (He.ga K "_law_judged_right") T.fd_law_judged_right P_law_judged_right (sp_law_judged_right K) := by
  refine T.F_law_judged_right.ok sc_law_judged_right (fun vs H Q E h => ?_) (fun cdv A outer s H vs Q E hr h => ⟨_, PSs.nox (pss_cons (ps_for PassesOwn.never rfl (pi_list (pv 0)) (pg_name (i := 1) sc_law_judged_right.nd rfl (Or.inl rfl)) (pss_cons (ps_set (i := 2) sc_law_judged_right.nd rfl (Or.inl rfl) (pe_call (ok_law_copy T 8) hr rfl T.g_law_copy T.F_law_copy.kp (b_law_copy T) .nil pass0 (pa_cons (pv 1) pa_nil))) (pss_cons (ps_if (pt_not (pt_val (pe_call (ok_law_same T 8) hr rfl T.g_law_same T.F_law_same.kp (b_law_same T) .nil pass0 (pa_cons (pe_call (ok_is_power T) (hr.mono (by decide)) rfl T.g_is_power T.F_is_power.kp (b_is_power T) .nil pass0 (pa_cons (pv 1) pa_nil)) (pa_cons (pe_call (ok_law_is_power_due T) (hr.mono (by decide)) rfl T.g_law_is_power_due T.F_law_is_power_due.kp (b_law_is_power_due T) .nil pass0 (pa_cons (pv 2) pa_nil)) pa_nil))))) (pss_one (ps_ret (pe_bl))) pss_nil) (pss_one (ps_if (PW.pt (pw_or (pt_not (pt_val (pe_call (ok_law_same T 8) hr rfl T.g_law_same T.F_law_same.kp (b_law_same T) .nil pass0 (pa_cons (pe_call (ok_is_whole T) (hr.mono (by decide)) rfl T.g_is_whole T.F_is_whole.kp (b_is_whole T) .nil pass0 (pa_cons (pv 1) pa_nil)) (pa_cons (pe_call (ok_law_is_int T) (hr.mono (by decide)) rfl T.g_law_is_int T.F_law_is_int.kp (b_law_is_int T) .nil pass0 (pa_cons (pv 2) pa_nil)) pa_nil))))) (pw_or1 (pt_not (pt_val (pe_call (ok_law_same T 8) hr rfl T.g_law_same T.F_law_same.kp (b_law_same T) .nil pass0 (pa_cons (pv 1) (pa_cons (pv 2) pa_nil)))))))) (pss_one (ps_ret (pe_bl))) pss_nil))))) (pss_one (ps_ret (pe_bl)))), ?_⟩)
  · obtain ⟨_, _, _, _, rfl, _⟩ := h
    rfl
  · obtain ⟨F, p, xs, ts, rfl, ep, hx, hd, hfit, q⟩ := h
    simp only [tSeq, tAsg, tRet, tRetN, tDrop, tNext, tVar, tC, gName, tOp, tUn, rI, rI0, rU, tIfS, tTest, tB, tIf, tAnd, tOr, tNot, tAndV, tOrV, tNotV, tCall, tCons, tNil, tCB, tLst, tTup, tChain, CMul, CDiv, CPow, rEq, rNe, gSub, L2.start, LL.cxK0, LL.cxK1, List.map_cons, List.map_nil, List.length_cons, List.length_nil, List.replicate_succ, List.replicate_zero, List.cons_append, List.nil_append, List.append_nil, List.getElem?_cons_zero, List.getElem?_cons_succ, List.set_cons_zero, List.set_cons_succ, Nat.add_sub_cancel, Nat.reduceAdd, Nat.reduceSub, Option.some.injEq, V.int.injEq, V.bl.injEq, V.ref.injEq, V.str.injEq, List.cons.injEq, and_true, true_and, and_false, false_and, exists_eq_left, exists_eq_left', exists_and_left, exists_and_right, exists_eq, exists_eq', LL.if_dec, reduceCtorEq, exists_false, exists_const, or_false, false_or, if_true, if_false, LL.rInt1, LL.rMx, LL.rMn, and_assoc, Int.reduceNeg, Int.reduceLT, Int.reduceLE, Int.reduceMul, Int.reduceAdd, Int.reduceSub, Int.reducePow, Int.reduceToNat, Nat.reducePow, Nat.reduceLT, true_or, or_true, Bool.not_true, Bool.not_false, Bool.false_eq_true, Bool.or_false, Bool.or_true, Bool.true_or, Bool.false_or, decide_true, decide_false, not_true_eq_false, not_false_eq_true, LL.scal_int, LL.scal_bl, LL.scal_str, LL.isInt, LL.isBl, LL.isStr, LL.isLst, LL.isTup, LL.isDic, N_law_judged_right]
    refine use_forL (a := p) (xs := xs) (fun Q q => ⟨_, rfl, q⟩) (fun i σ' H' => Same H H' ∧ ∃ z z2 : Option V, σ' = [some (.ref p), z, z2]) ⟨Same.refl _, _, _, rfl⟩ (fun i σ' H' _ ⟨s1, _⟩ => SqL.of (s1 _ _ ep)) ?_ ?_
    · rintro i y σ' H' hi ⟨s1, z, z2, rfl⟩
      obtain ⟨t, et, dt⟩ := hx.get _ hi
      have hdt := depL_mem et
      have hft := hfit t (List.mem_of_getElem? et)
      simp only [tSeq, tAsg, tRet, tRetN, tDrop, tNext, tVar, tC, gName, tOp, tUn, rI, rI0, rU, tIfS, tTest, tB, tIf, tAnd, tOr, tNot, tAndV, tOrV, tNotV, tCall, tCons, tNil, tCB, tLst, tTup, tChain, CMul, CDiv, CPow, rEq, rNe, gSub, L2.start, LL.cxK0, LL.cxK1, List.map_cons, List.map_nil, List.length_cons, List.length_nil, List.replicate_succ, List.replicate_zero, List.cons_append, List.nil_append, List.append_nil, List.getElem?_cons_zero, List.getElem?_cons_succ, List.set_cons_zero, List.set_cons_succ, Nat.add_sub_cancel, Nat.reduceAdd, Nat.reduceSub, Option.some.injEq, V.int.injEq, V.bl.injEq, V.ref.injEq, V.str.injEq, List.cons.injEq, and_true, true_and, and_false, false_and, exists_eq_left, exists_eq_left', exists_and_left, exists_and_right, exists_eq, exists_eq', LL.if_dec, reduceCtorEq, exists_false, exists_const, or_false, false_or, if_true, if_false, LL.rInt1, LL.rMx, LL.rMn, and_assoc, Int.reduceNeg, Int.reduceLT, Int.reduceLE, Int.reduceMul, Int.reduceAdd, Int.reduceSub, Int.reducePow, Int.reduceToNat, Nat.reducePow, Nat.reduceLT, true_or, or_true, Bool.not_true, Bool.not_false, Bool.false_eq_true, Bool.or_false, Bool.or_true, Bool.true_or, Bool.false_or, decide_true, decide_false, not_true_eq_false, not_false_eq_true, LL.scal_int, LL.scal_bl, LL.scal_str, LL.isInt, LL.isBl, LL.isStr, LL.isLst, LL.isTup, LL.isDic]
      refine use_copy (dt.same s1) (by omega) fun r H2 s2 dr => ?_
      have g2 := s1.trans s2
      refine use_power_q (dt.same g2) ⟨_, _, _, rfl, dr, hft, use_same (F := fun _ => True) (G := fun _ => True) (t := .bl (powB t)) rfl rfl (by simp [dep]) fun H3 s3 => ⟨true, rfl, ?_⟩⟩
      rw [if_neg (by simp)]
      refine use_isint ((dt.same g2).same s3) (use_isint (dr.same s3) (use_same (F := fun _ => True) (G := fun _ => True) (t := .bl (LL.isInt t)) rfl rfl (by simp [dep]) fun H4 s4 => ⟨true, rfl, ?_⟩))
      rw [if_neg (by simp)]
      refine use_same (((dt.same g2).same s3).same s4) ((dr.same s3).same s4) (by omega) fun H5 s5 => ⟨true, rfl, ?_⟩
      rw [if_neg (by simp)]
      exact ((g2.trans s3).trans s4).trans s5
    · rintro σ' H' ⟨s1, z, z2, rfl⟩
      simp only [tSeq, tAsg, tRet, tRetN, tDrop, tNext, tVar, tC, gName, tOp, tUn, rI, rI0, rU, tIfS, tTest, tB, tIf, tAnd, tOr, tNot, tAndV, tOrV, tNotV, tCall, tCons, tNil, tCB, tLst, tTup, tChain, CMul, CDiv, CPow, rEq, rNe, gSub, L2.start, LL.cxK0, LL.cxK1, List.map_cons, List.map_nil, List.length_cons, List.length_nil, List.replicate_succ, List.replicate_zero, List.cons_append, List.nil_append, List.append_nil, List.getElem?_cons_zero, List.getElem?_cons_succ, List.set_cons_zero, List.set_cons_succ, Nat.add_sub_cancel, Nat.reduceAdd, Nat.reduceSub, Option.some.injEq, V.int.injEq, V.bl.injEq, V.ref.injEq, V.str.injEq, List.cons.injEq, and_true, true_and, and_false, false_and, exists_eq_left, exists_eq_left', exists_and_left, exists_and_right, exists_eq, exists_eq', LL.if_dec, reduceCtorEq, exists_false, exists_const, or_false, false_or, if_true, if_false, LL.rInt1, LL.rMx, LL.rMn, and_assoc, Int.reduceNeg, Int.reduceLT, Int.reduceLE, Int.reduceMul, Int.reduceAdd, Int.reduceSub, Int.reducePow, Int.reduceToNat, Nat.reducePow, Nat.reduceLT, true_or, or_true, Bool.not_true, Bool.not_false, Bool.false_eq_true, Bool.or_false, Bool.or_true, Bool.true_or, Bool.false_or, decide_true, decide_false, not_true_eq_false, not_false_eq_true, LL.scal_int, LL.scal_bl, LL.scal_str, LL.isInt, LL.isBl, LL.isStr, LL.isLst, LL.isTup, LL.isDic]
      exact q _ s1
def sp_law_made_right : Sp := fun vs H Q _ => ∃ (F G : Addr → Prop) (v x : V) (t u : LL.T) (n : Int), vs = [v, .int n, x] ∧ Dt F H v t ∧ Dt G H x u ∧ dep t ≤ 4 ∧ dep u ≤ 4 ∧ ∀ H', Same H H' → Q (.bl true) H'

theorem ok_law_made_right (T : Tx K mg) : FnOk P w K mg base CX0 10 (He.ga K "_law_made_right") T.fd_law_made_right P_law_made_right sp_law_made_right := by
  refine T.F_law_made_right.ok sc_law_made_right (fun vs H Q E h => ?_) (fun cdv A outer s H vs Q E hr h => ⟨_, PSs.nox (pss_cons (ps_set (i := 3) sc_law_made_right.nd rfl (Or.inl rfl) (pe_mkv T.v_BadValue.oex T.v_BadValue.ini T.v_BadValue.typ (okV_BadValue T) (hr.mono (by decide)) (b_BadValue T) pass0 rfl T.g_BadValue (pa_cons (pv 0) pa_nil))) (pss_cons (ps_set (i := 4) sc_law_made_right.nd rfl (Or.inl rfl) (pe_mkv T.v_Broken.oex T.v_Broken.ini T.v_Broken.typ (okV_Broken T) (hr.mono (by decide)) (b_Broken T) pass0 rfl T.g_Broken (pa_cons (pv 0) (pa_cons (pv 1) (pa_cons (pv 2) pa_nil))))) (pss_cons (ps_set (i := 5) sc_law_made_right.nd rfl (Or.inl rfl) (pe_mkv T.v_Unknown.oex T.v_Unknown.ini T.v_Unknown.typ (okV_Unknown T) (hr.mono (by decide)) (b_Unknown T) pass0 rfl T.g_Unknown (pa_cons (pv 1) pa_nil))) (pss_cons (ps_set (i := 6) sc_law_made_right.nd rfl (Or.inl rfl) (pe_mkv T.v_NotHeld.oex T.v_NotHeld.ini T.v_NotHeld.typ (okV_NotHeld T) (hr.mono (by decide)) (b_NotHeld T) pass0 rfl T.g_NotHeld (pa_cons (pv 1) (pa_cons (pv 0) pa_nil)))) (pss_cons (ps_set (i := 7) sc_law_made_right.nd rfl (Or.inl rfl) (pe_mkv T.v_Fault.oex T.v_Fault.ini T.v_Fault.typ (okV_Fault T) (hr.mono (by decide)) (b_Fault T) pass0 rfl T.g_Fault (pa_cons (pv 0) (pa_cons (pv 2) pa_nil)))) (pss_cons (ps_set (i := 8) sc_law_made_right.nd rfl (Or.inl rfl) (pe_mkv T.v_NoRoom.oex T.v_NoRoom.ini T.v_NoRoom.typ (okV_NoRoom T) (hr.mono (by decide)) (b_NoRoom T) pass0 rfl T.g_NoRoom (pa_cons (pv 2) pa_nil))) (pss_cons (ps_set (i := 9) sc_law_made_right.nd rfl (Or.inl rfl) (pe_mkv T.v_Cut.oex T.v_Cut.ini T.v_Cut.typ (okV_Cut T) (hr.mono (by decide)) (b_Cut T) pass0 rfl T.g_Cut (pa_cons (pv 2) (pa_cons (pv 1) pa_nil)))) (pss_cons (ps_set (i := 10) sc_law_made_right.nd rfl (Or.inl rfl) (pe_mkv T.v_BadLine.oex T.v_BadLine.ini T.v_BadLine.typ (okV_BadLine T) (hr.mono (by decide)) (b_BadLine T) pass0 rfl T.g_BadLine (pa_cons (pv 1) (pa_cons (pv 2) pa_nil)))) (pss_cons (ps_set (i := 11) sc_law_made_right.nd rfl (Or.inl rfl) (pe_lst (pa_cons (pv 3) (pa_cons (pv 4) (pa_cons (pv 5) (pa_cons (pv 6) (pa_cons (pv 7) (pa_cons (pv 8) (pa_cons (pv 9) (pa_cons (pv 10) pa_nil)))))))))) (pss_cons (ps_set (i := 12) sc_law_made_right.nd rfl (Or.inl rfl) (pe_lst (pa_cons (pe_tup (pa_cons (pe_xv (pv 3)) pa_nil)) (pa_cons (pe_tup (pa_cons (pe_xv (pv 4)) (pa_cons (pe_xv (pv 4)) (pa_cons (pe_xv (pv 4)) pa_nil)))) (pa_cons (pe_tup (pa_cons (pe_xv (pv 5)) pa_nil)) pa_nil))))) (pss_cons (ps_set (i := 12) sc_law_made_right.nd rfl (Or.inl rfl) (pe_op op_cat (pv 12) (pe_lst (pa_cons (pe_tup (pa_cons (pe_xv (pv 6)) (pa_cons (pe_xv (pv 6)) pa_nil))) (pa_cons (pe_tup (pa_cons (pe_xv (pv 7)) (pa_cons (pe_xv (pv 7)) pa_nil))) (pa_cons (pe_tup (pa_cons (pe_xv (pv 8)) pa_nil)) (pa_cons (pe_tup (pa_cons (pe_xv (pv 9)) (pa_cons (pe_xv (pv 9)) pa_nil))) pa_nil))))))) (pss_cons (ps_set (i := 12) sc_law_made_right.nd rfl (Or.inl rfl) (pe_op op_cat (pv 12) (pe_lst (pa_cons (pe_tup (pa_cons (pe_xv (pv 10)) (pa_cons (pe_xv (pv 10)) pa_nil))) pa_nil)))) (pss_cons (ps_set (i := 13) sc_law_made_right.nd rfl (Or.inl rfl) (pe_lst (pa_cons (pe_tup (pa_cons (pv 0) pa_nil)) (pa_cons (pe_tup (pa_cons (pv 0) (pa_cons (pv 1) (pa_cons (pv 2) pa_nil)))) (pa_cons (pe_tup (pa_cons (pv 1) pa_nil)) (pa_cons (pe_tup (pa_cons (pv 1) (pa_cons (pv 0) pa_nil))) (pa_cons (pe_tup (pa_cons (pv 0) (pa_cons (pv 2) pa_nil))) (pa_cons (pe_tup (pa_cons (pv 2) pa_nil)) (pa_cons (pe_tup (pa_cons (pv 2) (pa_cons (pv 1) pa_nil))) (pa_cons (pe_tup (pa_cons (pv 1) (pa_cons (pv 2) pa_nil))) pa_nil)))))))))) (pss_cons (ps_set (i := 14) sc_law_made_right.nd rfl (Or.inl rfl) (pe_lst (pa_cons (pe_str) (pa_cons (pe_str) (pa_cons (pe_str) (pa_cons (pe_str) (pa_cons (pe_str) (pa_cons (pe_str) (pa_cons (pe_str) (pa_cons (pe_str) pa_nil)))))))))) (pss_cons (ps_for PassesOwn.never rfl (pi_range1 rfl T.z_range (pa_cons (pe_int) pa_nil)) (pg_name (i := 15) sc_law_made_right.nd rfl (Or.inl rfl)) (pss_one (ps_if (pt_not (pt_val (pe_call (ok_law_same T 8) hr rfl T.g_law_same T.F_law_same.kp (b_law_same T) .nil pass0 (pa_cons (pe_lst (pa_cons (pe_str) (pa_cons (pe_xv (pe_ix ix_list (pv 11) (pv 15) (fun _ _ => rfl))) (pa_cons (pe_ix ix_list (pv 12) (pv 15) (fun _ _ => rfl)) (pa_cons (pe_call (okV_law_kinds T) (hr.mono (by decide)) rfl T.g_law_kinds T.F_law_kinds.kp (b_law_kinds T) .nil pass0 (pa_cons (pe_ix ix_list (pv 11) (pv 15) (fun _ _ => rfl)) pa_nil)) pa_nil))))) (pa_cons (pe_call (okV_law_refused T) (hr.mono (by decide)) rfl T.g_law_refused T.F_law_refused.kp (b_law_refused T) .nil pass0 (pa_cons (pe_ix ix_list (pv 14) (pv 15) (fun _ _ => rfl)) (pa_cons (pe_ix ix_list (pv 13) (pv 15) (fun _ _ => rfl)) pa_nil))) pa_nil))))) (pss_one (ps_ret (pe_bl))) pss_nil))) (pss_one (ps_ret (pe_bl)))))))))))))))))), ?_⟩)
  · obtain ⟨_, _, _, _, _, _, _, rfl, _⟩ := h
    rfl
  · obtain ⟨F, G, v, x, t, u, n, rfl, h1, h2, dt, du, q⟩ := h
    simp only [tSeq, tAsg, tRet, tRetN, tDrop, tNext, tVar, tC, gName, tOp, tUn, rI, rI0, rU, tIfS, tTest, tB, tIf, tAnd, tOr, tNot, tAndV, tOrV, tNotV, tCall, tCons, tNil, tCB, tLst, tTup, tChain, CMul, CDiv, CPow, rEq, rNe, gSub, L2.start, LL.cxK0, LL.cxK1, List.map_cons, List.map_nil, List.length_cons, List.length_nil, List.replicate_succ, List.replicate_zero, List.cons_append, List.nil_append, List.append_nil, List.getElem?_cons_zero, List.getElem?_cons_succ, List.set_cons_zero, List.set_cons_succ, Nat.add_sub_cancel, Nat.reduceAdd, Nat.reduceSub, Option.some.injEq, V.int.injEq, V.bl.injEq, V.ref.injEq, V.str.injEq, List.cons.injEq, and_true, true_and, and_false, false_and, exists_eq_left, exists_eq_left', exists_and_left, exists_and_right, exists_eq, exists_eq', LL.if_dec, reduceCtorEq, exists_false, exists_const, or_false, false_or, if_true, if_false, LL.rInt1, LL.rMx, LL.rMn, and_assoc, Int.reduceNeg, Int.reduceLT, Int.reduceLE, Int.reduceMul, Int.reduceAdd, Int.reduceSub, Int.reducePow, Int.reduceToNat, Nat.reducePow, Nat.reduceLT, true_or, or_true, Bool.not_true, Bool.not_false, Bool.false_eq_true, Bool.or_false, Bool.or_true, Bool.true_or, Bool.false_or, decide_true, decide_false, not_true_eq_false, not_false_eq_true, LL.scal_int, LL.scal_bl, LL.scal_str, LL.isInt, LL.isBl, LL.isStr, LL.isLst, LL.isTup, LL.isDic, N_law_made_right, tMkV]
    refine use_mk (ns := [v]) rfl (by simp) fun a0 A0 sA0 na0 hE0 => ?_
    refine use_mk (ns := [v, .int n, x]) rfl (by simp) fun a1 A1 sA1 na1 hE1 => ?_
    refine use_mk (ns := [.int n]) rfl (by simp) fun a2 A2 sA2 na2 hE2 => ?_
    refine use_mk (ns := [.int n, v]) rfl (by simp) fun a3 A3 sA3 na3 hE3 => ?_
    refine use_mk (ns := [v, x]) rfl (by simp) fun a4 A4 sA4 na4 hE4 => ?_
    refine use_mk (ns := [x]) rfl (by simp) fun a5 A5 sA5 na5 hE5 => ?_
    refine use_mk (ns := [x, .int n]) rfl (by simp) fun a6 A6 sA6 na6 hE6 => ?_
    refine use_mk (ns := [.int n, x]) rfl (by simp) fun a7 A7 sA7 na7 hE7 => ?_
    have g := (((((((sA0.trans sA1).trans sA2).trans sA3).trans sA4).trans sA5).trans sA6).trans sA7)
    replace hE0 := (((((((hE0.same sA1).same sA2).same sA3).same sA4).same sA5).same sA6).same sA7)
    replace hE1 := ((((((hE1.same sA2).same sA3).same sA4).same sA5).same sA6).same sA7)
    replace hE2 := (((((hE2.same sA3).same sA4).same sA5).same sA6).same sA7)
    replace hE3 := ((((hE3.same sA4).same sA5).same sA6).same sA7)
    replace hE4 := (((hE4.same sA5).same sA6).same sA7)
    replace hE5 := ((hE5.same sA6).same sA7)
    replace hE6 := (hE6.same sA7)
    refine ⟨by decide, ?_⟩
    intro pm npm
    generalize hq : upd A7 pm _ = B1
    have sB1 : Same A7 B1 := hq ▸ Same.new (Same.refl _) npm
    have epm := hq ▸ (upd_same (H := A7) (a := pm))
    clear hq
    replace hE0 := hE0.same sB1
    replace hE1 := hE1.same sB1
    replace hE2 := hE2.same sB1
    replace hE3 := hE3.same sB1
    replace hE4 := hE4.same sB1
    replace hE5 := hE5.same sB1
    replace hE6 := hE6.same sB1
    replace hE7 := hE7.same sB1
    replace g := g.trans sB1
    refine use_xv (fun Q q => ⟨_, rfl, q⟩) hE0 T.v_BadValue (by simp) (by decide) (by rfl) ?_
    refine ⟨by decide, ?_⟩
    intro f0 nf0
    generalize hq : upd B1 f0 _ = B2
    have sB2 : Same B1 B2 := hq ▸ Same.new (Same.refl _) nf0
    have ef0 := hq ▸ (upd_same (H := B1) (a := f0))
    clear hq
    replace epm := sB2 _ _ epm
    replace hE0 := hE0.same sB2
    replace hE1 := hE1.same sB2
    replace hE2 := hE2.same sB2
    replace hE3 := hE3.same sB2
    replace hE4 := hE4.same sB2
    replace hE5 := hE5.same sB2
    replace hE6 := hE6.same sB2
    replace hE7 := hE7.same sB2
    replace g := g.trans sB2
    refine use_xv (fun Q q => ⟨_, rfl, q⟩) hE1 T.v_Broken (by simp) (by decide) (by rfl) ?_
    refine use_xv (fun Q q => ⟨_, rfl, q⟩) hE1 T.v_Broken (by simp) (by decide) (by rfl) ?_
    refine use_xv (fun Q q => ⟨_, rfl, q⟩) hE1 T.v_Broken (by simp) (by decide) (by rfl) ?_
    refine ⟨by decide, ?_⟩
    intro f1 nf1
    generalize hq : upd B2 f1 _ = B3
    have sB3 : Same B2 B3 := hq ▸ Same.new (Same.refl _) nf1
    have ef1 := hq ▸ (upd_same (H := B2) (a := f1))
    clear hq
    replace epm := sB3 _ _ epm
    replace ef0 := sB3 _ _ ef0
    replace hE0 := hE0.same sB3
    replace hE1 := hE1.same sB3
    replace hE2 := hE2.same sB3
    replace hE3 := hE3.same sB3
    replace hE4 := hE4.same sB3
    replace hE5 := hE5.same sB3
    replace hE6 := hE6.same sB3
    replace hE7 := hE7.same sB3
    replace g := g.trans sB3
    refine use_xv (fun Q q => ⟨_, rfl, q⟩) hE2 T.v_Unknown (by simp) (by decide) (by rfl) ?_
    refine ⟨by decide, ?_⟩
    intro f2 nf2
    generalize hq : upd B3 f2 _ = B4
    have sB4 : Same B3 B4 := hq ▸ Same.new (Same.refl _) nf2
    have ef2 := hq ▸ (upd_same (H := B3) (a := f2))
    clear hq
    replace epm := sB4 _ _ epm
    replace ef0 := sB4 _ _ ef0
    replace ef1 := sB4 _ _ ef1
    replace hE0 := hE0.same sB4
    replace hE1 := hE1.same sB4
    replace hE2 := hE2.same sB4
    replace hE3 := hE3.same sB4
    replace hE4 := hE4.same sB4
    replace hE5 := hE5.same sB4
    replace hE6 := hE6.same sB4
    replace hE7 := hE7.same sB4
    replace g := g.trans sB4
    refine ⟨by decide, ?_⟩
    intro l1 nl1
    generalize hq : upd B4 l1 _ = B5
    have sB5 : Same B4 B5 := hq ▸ Same.new (Same.refl _) nl1
    have el1 := hq ▸ (upd_same (H := B4) (a := l1))
    clear hq
    replace epm := sB5 _ _ epm
    replace ef0 := sB5 _ _ ef0
    replace ef1 := sB5 _ _ ef1
    replace ef2 := sB5 _ _ ef2
    replace hE0 := hE0.same sB5
    replace hE1 := hE1.same sB5
    replace hE2 := hE2.same sB5
    replace hE3 := hE3.same sB5
    replace hE4 := hE4.same sB5
    replace hE5 := hE5.same sB5
    replace hE6 := hE6.same sB5
    replace hE7 := hE7.same sB5
    replace g := g.trans sB5
    refine use_xv (fun Q q => ⟨_, rfl, q⟩) hE3 T.v_NotHeld (by simp) (by decide) (by rfl) ?_
    refine use_xv (fun Q q => ⟨_, rfl, q⟩) hE3 T.v_NotHeld (by simp) (by decide) (by rfl) ?_
    refine ⟨by decide, ?_⟩
    intro f3 nf3
    generalize hq : upd B5 f3 _ = B6
    have sB6 : Same B5 B6 := hq ▸ Same.new (Same.refl _) nf3
    have ef3 := hq ▸ (upd_same (H := B5) (a := f3))
    clear hq
    replace epm := sB6 _ _ epm
    replace ef0 := sB6 _ _ ef0
    replace ef1 := sB6 _ _ ef1
    replace ef2 := sB6 _ _ ef2
    replace el1 := sB6 _ _ el1
    replace hE0 := hE0.same sB6
    replace hE1 := hE1.same sB6
    replace hE2 := hE2.same sB6
    replace hE3 := hE3.same sB6
    replace hE4 := hE4.same sB6
    replace hE5 := hE5.same sB6
    replace hE6 := hE6.same sB6
    replace hE7 := hE7.same sB6
    replace g := g.trans sB6
    refine use_xv (fun Q q => ⟨_, rfl, q⟩) hE4 T.v_Fault (by simp) (by decide) (by rfl) ?_
    refine use_xv (fun Q q => ⟨_, rfl, q⟩) hE4 T.v_Fault (by simp) (by decide) (by rfl) ?_
    refine ⟨by decide, ?_⟩
    intro f4 nf4
    generalize hq : upd B6 f4 _ = B7
    have sB7 : Same B6 B7 := hq ▸ Same.new (Same.refl _) nf4
    have ef4 := hq ▸ (upd_same (H := B6) (a := f4))
    clear hq
    replace epm := sB7 _ _ epm
    replace ef0 := sB7 _ _ ef0
    replace ef1 := sB7 _ _ ef1
    replace ef2 := sB7 _ _ ef2
    replace el1 := sB7 _ _ el1
    replace ef3 := sB7 _ _ ef3
    replace hE0 := hE0.same sB7
    replace hE1 := hE1.same sB7
    replace hE2 := hE2.same sB7
    replace hE3 := hE3.same sB7
    replace hE4 := hE4.same sB7
    replace hE5 := hE5.same sB7
    replace hE6 := hE6.same sB7
    replace hE7 := hE7.same sB7
    replace g := g.trans sB7
    refine use_xv (fun Q q => ⟨_, rfl, q⟩) hE5 T.v_NoRoom (by simp) (by decide) (by rfl) ?_
    refine ⟨by decide, ?_⟩
    intro f5 nf5
    generalize hq : upd B7 f5 _ = B8
    have sB8 : Same B7 B8 := hq ▸ Same.new (Same.refl _) nf5
    have ef5 := hq ▸ (upd_same (H := B7) (a := f5))
    clear hq
    replace epm := sB8 _ _ epm
    replace ef0 := sB8 _ _ ef0
    replace ef1 := sB8 _ _ ef1
    replace ef2 := sB8 _ _ ef2
    replace el1 := sB8 _ _ el1
    replace ef3 := sB8 _ _ ef3
    replace ef4 := sB8 _ _ ef4
    replace hE0 := hE0.same sB8
    replace hE1 := hE1.same sB8
    replace hE2 := hE2.same sB8
    replace hE3 := hE3.same sB8
    replace hE4 := hE4.same sB8
    replace hE5 := hE5.same sB8
    replace hE6 := hE6.same sB8
    replace hE7 := hE7.same sB8
    replace g := g.trans sB8
    refine use_xv (fun Q q => ⟨_, rfl, q⟩) hE6 T.v_Cut (by simp) (by decide) (by rfl) ?_
    refine use_xv (fun Q q => ⟨_, rfl, q⟩) hE6 T.v_Cut (by simp) (by decide) (by rfl) ?_
    refine ⟨by decide, ?_⟩
    intro f6 nf6
    generalize hq : upd B8 f6 _ = B9
    have sB9 : Same B8 B9 := hq ▸ Same.new (Same.refl _) nf6
    have ef6 := hq ▸ (upd_same (H := B8) (a := f6))
    clear hq
    replace epm := sB9 _ _ epm
    replace ef0 := sB9 _ _ ef0
    replace ef1 := sB9 _ _ ef1
    replace ef2 := sB9 _ _ ef2
    replace el1 := sB9 _ _ el1
    replace ef3 := sB9 _ _ ef3
    replace ef4 := sB9 _ _ ef4
    replace ef5 := sB9 _ _ ef5
    replace hE0 := hE0.same sB9
    replace hE1 := hE1.same sB9
    replace hE2 := hE2.same sB9
    replace hE3 := hE3.same sB9
    replace hE4 := hE4.same sB9
    replace hE5 := hE5.same sB9
    replace hE6 := hE6.same sB9
    replace hE7 := hE7.same sB9
    replace g := g.trans sB9
    refine ⟨by decide, ?_⟩
    intro l2 nl2
    generalize hq : upd B9 l2 _ = B10
    have sB10 : Same B9 B10 := hq ▸ Same.new (Same.refl _) nl2
    have el2 := hq ▸ (upd_same (H := B9) (a := l2))
    clear hq
    replace epm := sB10 _ _ epm
    replace ef0 := sB10 _ _ ef0
    replace ef1 := sB10 _ _ ef1
    replace ef2 := sB10 _ _ ef2
    replace el1 := sB10 _ _ el1
    replace ef3 := sB10 _ _ ef3
    replace ef4 := sB10 _ _ ef4
    replace ef5 := sB10 _ _ ef5
    replace ef6 := sB10 _ _ ef6
    replace hE0 := hE0.same sB10
    replace hE1 := hE1.same sB10
    replace hE2 := hE2.same sB10
    replace hE3 := hE3.same sB10
    replace hE4 := hE4.same sB10
    replace hE5 := hE5.same sB10
    replace hE6 := hE6.same sB10
    replace hE7 := hE7.same sB10
    replace g := g.trans sB10
    refine ⟨l1, l2, _, _, rfl, rfl, el1, el2, Nat.le_of_lt (small_sz (by simp)), ?_⟩
    intro l3 nl3
    generalize hq : upd B10 l3 _ = B11
    have sB11 : Same B10 B11 := hq ▸ Same.new (Same.refl _) nl3
    have el3 := hq ▸ (upd_same (H := B10) (a := l3))
    clear hq
    replace epm := sB11 _ _ epm
    replace ef0 := sB11 _ _ ef0
    replace ef1 := sB11 _ _ ef1
    replace ef2 := sB11 _ _ ef2
    replace el1 := sB11 _ _ el1
    replace ef3 := sB11 _ _ ef3
    replace ef4 := sB11 _ _ ef4
    replace ef5 := sB11 _ _ ef5
    replace ef6 := sB11 _ _ ef6
    replace el2 := sB11 _ _ el2
    replace hE0 := hE0.same sB11
    replace hE1 := hE1.same sB11
    replace hE2 := hE2.same sB11
    replace hE3 := hE3.same sB11
    replace hE4 := hE4.same sB11
    replace hE5 := hE5.same sB11
    replace hE6 := hE6.same sB11
    replace hE7 := hE7.same sB11
    replace g := g.trans sB11
    refine use_xv (fun Q q => ⟨_, rfl, q⟩) hE7 T.v_BadLine (by simp) (by decide) (by rfl) ?_
    refine use_xv (fun Q q => ⟨_, rfl, q⟩) hE7 T.v_BadLine (by simp) (by decide) (by rfl) ?_
    refine ⟨by decide, ?_⟩
    intro f7 nf7
    generalize hq : upd B11 f7 _ = B12
    have sB12 : Same B11 B12 := hq ▸ Same.new (Same.refl _) nf7
    have ef7 := hq ▸ (upd_same (H := B11) (a := f7))
    clear hq
    replace epm := sB12 _ _ epm
    replace ef0 := sB12 _ _ ef0
    replace ef1 := sB12 _ _ ef1
    replace ef2 := sB12 _ _ ef2
    replace el1 := sB12 _ _ el1
    replace ef3 := sB12 _ _ ef3
    replace ef4 := sB12 _ _ ef4
    replace ef5 := sB12 _ _ ef5
    replace ef6 := sB12 _ _ ef6
    replace el2 := sB12 _ _ el2
    replace el3 := sB12 _ _ el3
    replace hE0 := hE0.same sB12
    replace hE1 := hE1.same sB12
    replace hE2 := hE2.same sB12
    replace hE3 := hE3.same sB12
    replace hE4 := hE4.same sB12
    replace hE5 := hE5.same sB12
    replace hE6 := hE6.same sB12
    replace hE7 := hE7.same sB12
    replace g := g.trans sB12
    refine ⟨by decide, ?_⟩
    intro l4 nl4
    generalize hq : upd B12 l4 _ = B13
    have sB13 : Same B12 B13 := hq ▸ Same.new (Same.refl _) nl4
    have el4 := hq ▸ (upd_same (H := B12) (a := l4))
    clear hq
    replace epm := sB13 _ _ epm
    replace ef0 := sB13 _ _ ef0
    replace ef1 := sB13 _ _ ef1
    replace ef2 := sB13 _ _ ef2
    replace el1 := sB13 _ _ el1
    replace ef3 := sB13 _ _ ef3
    replace ef4 := sB13 _ _ ef4
    replace ef5 := sB13 _ _ ef5
    replace ef6 := sB13 _ _ ef6
    replace el2 := sB13 _ _ el2
    replace el3 := sB13 _ _ el3
    replace ef7 := sB13 _ _ ef7
    replace hE0 := hE0.same sB13
    replace hE1 := hE1.same sB13
    replace hE2 := hE2.same sB13
    replace hE3 := hE3.same sB13
    replace hE4 := hE4.same sB13
    replace hE5 := hE5.same sB13
    replace hE6 := hE6.same sB13
    replace hE7 := hE7.same sB13
    replace g := g.trans sB13
    refine ⟨l3, l4, _, _, rfl, rfl, el3, el4, Nat.le_of_lt (small_sz (by simp)), ?_⟩
    intro l5 nl5
    generalize hq : upd B13 l5 _ = B14
    have sB14 : Same B13 B14 := hq ▸ Same.new (Same.refl _) nl5
    have el5 := hq ▸ (upd_same (H := B13) (a := l5))
    clear hq
    replace epm := sB14 _ _ epm
    replace ef0 := sB14 _ _ ef0
    replace ef1 := sB14 _ _ ef1
    replace ef2 := sB14 _ _ ef2
    replace el1 := sB14 _ _ el1
    replace ef3 := sB14 _ _ ef3
    replace ef4 := sB14 _ _ ef4
    replace ef5 := sB14 _ _ ef5
    replace ef6 := sB14 _ _ ef6
    replace el2 := sB14 _ _ el2
    replace el3 := sB14 _ _ el3
    replace ef7 := sB14 _ _ ef7
    replace el4 := sB14 _ _ el4
    replace hE0 := hE0.same sB14
    replace hE1 := hE1.same sB14
    replace hE2 := hE2.same sB14
    replace hE3 := hE3.same sB14
    replace hE4 := hE4.same sB14
    replace hE5 := hE5.same sB14
    replace hE6 := hE6.same sB14
    replace hE7 := hE7.same sB14
    replace g := g.trans sB14
    refine ⟨by decide, ?_⟩
    intro u0 nu0
    generalize hq : upd B14 u0 _ = B15
    have sB15 : Same B14 B15 := hq ▸ Same.new (Same.refl _) nu0
    have eu0 := hq ▸ (upd_same (H := B14) (a := u0))
    clear hq
    replace epm := sB15 _ _ epm
    replace ef0 := sB15 _ _ ef0
    replace ef1 := sB15 _ _ ef1
    replace ef2 := sB15 _ _ ef2
    replace el1 := sB15 _ _ el1
    replace ef3 := sB15 _ _ ef3
    replace ef4 := sB15 _ _ ef4
    replace ef5 := sB15 _ _ ef5
    replace ef6 := sB15 _ _ ef6
    replace el2 := sB15 _ _ el2
    replace el3 := sB15 _ _ el3
    replace ef7 := sB15 _ _ ef7
    replace el4 := sB15 _ _ el4
    replace el5 := sB15 _ _ el5
    replace hE0 := hE0.same sB15
    replace hE1 := hE1.same sB15
    replace hE2 := hE2.same sB15
    replace hE3 := hE3.same sB15
    replace hE4 := hE4.same sB15
    replace hE5 := hE5.same sB15
    replace hE6 := hE6.same sB15
    replace hE7 := hE7.same sB15
    replace g := g.trans sB15
    refine ⟨by decide, ?_⟩
    intro u1 nu1
    generalize hq : upd B15 u1 _ = B16
    have sB16 : Same B15 B16 := hq ▸ Same.new (Same.refl _) nu1
    have eu1 := hq ▸ (upd_same (H := B15) (a := u1))
    clear hq
    replace epm := sB16 _ _ epm
    replace ef0 := sB16 _ _ ef0
    replace ef1 := sB16 _ _ ef1
    replace ef2 := sB16 _ _ ef2
    replace el1 := sB16 _ _ el1
    replace ef3 := sB16 _ _ ef3
    replace ef4 := sB16 _ _ ef4
    replace ef5 := sB16 _ _ ef5
    replace ef6 := sB16 _ _ ef6
    replace el2 := sB16 _ _ el2
    replace el3 := sB16 _ _ el3
    replace ef7 := sB16 _ _ ef7
    replace el4 := sB16 _ _ el4
    replace el5 := sB16 _ _ el5
    replace eu0 := sB16 _ _ eu0
    replace hE0 := hE0.same sB16
    replace hE1 := hE1.same sB16
    replace hE2 := hE2.same sB16
    replace hE3 := hE3.same sB16
    replace hE4 := hE4.same sB16
    replace hE5 := hE5.same sB16
    replace hE6 := hE6.same sB16
    replace hE7 := hE7.same sB16
    replace g := g.trans sB16
    refine ⟨by decide, ?_⟩
    intro u2 nu2
    generalize hq : upd B16 u2 _ = B17
    have sB17 : Same B16 B17 := hq ▸ Same.new (Same.refl _) nu2
    have eu2 := hq ▸ (upd_same (H := B16) (a := u2))
    clear hq
    replace epm := sB17 _ _ epm
    replace ef0 := sB17 _ _ ef0
    replace ef1 := sB17 _ _ ef1
    replace ef2 := sB17 _ _ ef2
    replace el1 := sB17 _ _ el1
    replace ef3 := sB17 _ _ ef3
    replace ef4 := sB17 _ _ ef4
    replace ef5 := sB17 _ _ ef5
    replace ef6 := sB17 _ _ ef6
    replace el2 := sB17 _ _ el2
    replace el3 := sB17 _ _ el3
    replace ef7 := sB17 _ _ ef7
    replace el4 := sB17 _ _ el4
    replace el5 := sB17 _ _ el5
    replace eu0 := sB17 _ _ eu0
    replace eu1 := sB17 _ _ eu1
    replace hE0 := hE0.same sB17
    replace hE1 := hE1.same sB17
    replace hE2 := hE2.same sB17
    replace hE3 := hE3.same sB17
    replace hE4 := hE4.same sB17
    replace hE5 := hE5.same sB17
    replace hE6 := hE6.same sB17
    replace hE7 := hE7.same sB17
    replace g := g.trans sB17
    refine ⟨by decide, ?_⟩
    intro u3 nu3
    generalize hq : upd B17 u3 _ = B18
    have sB18 : Same B17 B18 := hq ▸ Same.new (Same.refl _) nu3
    have eu3 := hq ▸ (upd_same (H := B17) (a := u3))
    clear hq
    replace epm := sB18 _ _ epm
    replace ef0 := sB18 _ _ ef0
    replace ef1 := sB18 _ _ ef1
    replace ef2 := sB18 _ _ ef2
    replace el1 := sB18 _ _ el1
    replace ef3 := sB18 _ _ ef3
    replace ef4 := sB18 _ _ ef4
    replace ef5 := sB18 _ _ ef5
    replace ef6 := sB18 _ _ ef6
    replace el2 := sB18 _ _ el2
    replace el3 := sB18 _ _ el3
    replace ef7 := sB18 _ _ ef7
    replace el4 := sB18 _ _ el4
    replace el5 := sB18 _ _ el5
    replace eu0 := sB18 _ _ eu0
    replace eu1 := sB18 _ _ eu1
    replace eu2 := sB18 _ _ eu2
    replace hE0 := hE0.same sB18
    replace hE1 := hE1.same sB18
    replace hE2 := hE2.same sB18
    replace hE3 := hE3.same sB18
    replace hE4 := hE4.same sB18
    replace hE5 := hE5.same sB18
    replace hE6 := hE6.same sB18
    replace hE7 := hE7.same sB18
    replace g := g.trans sB18
    refine ⟨by decide, ?_⟩
    intro u4 nu4
    generalize hq : upd B18 u4 _ = B19
    have sB19 : Same B18 B19 := hq ▸ Same.new (Same.refl _) nu4
    have eu4 := hq ▸ (upd_same (H := B18) (a := u4))
    clear hq
    replace epm := sB19 _ _ epm
    replace ef0 := sB19 _ _ ef0
    replace ef1 := sB19 _ _ ef1
    replace ef2 := sB19 _ _ ef2
    replace el1 := sB19 _ _ el1
    replace ef3 := sB19 _ _ ef3
    replace ef4 := sB19 _ _ ef4
    replace ef5 := sB19 _ _ ef5
    replace ef6 := sB19 _ _ ef6
    replace el2 := sB19 _ _ el2
    replace el3 := sB19 _ _ el3
    replace ef7 := sB19 _ _ ef7
    replace el4 := sB19 _ _ el4
    replace el5 := sB19 _ _ el5
    replace eu0 := sB19 _ _ eu0
    replace eu1 := sB19 _ _ eu1
    replace eu2 := sB19 _ _ eu2
    replace eu3 := sB19 _ _ eu3
    replace hE0 := hE0.same sB19
    replace hE1 := hE1.same sB19
    replace hE2 := hE2.same sB19
    replace hE3 := hE3.same sB19
    replace hE4 := hE4.same sB19
    replace hE5 := hE5.same sB19
    replace hE6 := hE6.same sB19
    replace hE7 := hE7.same sB19
    replace g := g.trans sB19
    refine ⟨by decide, ?_⟩
    intro u5 nu5
    generalize hq : upd B19 u5 _ = B20
    have sB20 : Same B19 B20 := hq ▸ Same.new (Same.refl _) nu5
    have eu5 := hq ▸ (upd_same (H := B19) (a := u5))
    clear hq
    replace epm := sB20 _ _ epm
    replace ef0 := sB20 _ _ ef0
    replace ef1 := sB20 _ _ ef1
    replace ef2 := sB20 _ _ ef2
    replace el1 := sB20 _ _ el1
    replace ef3 := sB20 _ _ ef3
    replace ef4 := sB20 _ _ ef4
    replace ef5 := sB20 _ _ ef5
    replace ef6 := sB20 _ _ ef6
    replace el2 := sB20 _ _ el2
    replace el3 := sB20 _ _ el3
    replace ef7 := sB20 _ _ ef7
    replace el4 := sB20 _ _ el4
    replace el5 := sB20 _ _ el5
    replace eu0 := sB20 _ _ eu0
    replace eu1 := sB20 _ _ eu1
    replace eu2 := sB20 _ _ eu2
    replace eu3 := sB20 _ _ eu3
    replace eu4 := sB20 _ _ eu4
    replace hE0 := hE0.same sB20
    replace hE1 := hE1.same sB20
    replace hE2 := hE2.same sB20
    replace hE3 := hE3.same sB20
    replace hE4 := hE4.same sB20
    replace hE5 := hE5.same sB20
    replace hE6 := hE6.same sB20
    replace hE7 := hE7.same sB20
    replace g := g.trans sB20
    refine ⟨by decide, ?_⟩
    intro u6 nu6
    generalize hq : upd B20 u6 _ = B21
    have sB21 : Same B20 B21 := hq ▸ Same.new (Same.refl _) nu6
    have eu6 := hq ▸ (upd_same (H := B20) (a := u6))
    clear hq
    replace epm := sB21 _ _ epm
    replace ef0 := sB21 _ _ ef0
    replace ef1 := sB21 _ _ ef1
    replace ef2 := sB21 _ _ ef2
    replace el1 := sB21 _ _ el1
    replace ef3 := sB21 _ _ ef3
    replace ef4 := sB21 _ _ ef4
    replace ef5 := sB21 _ _ ef5
    replace ef6 := sB21 _ _ ef6
    replace el2 := sB21 _ _ el2
    replace el3 := sB21 _ _ el3
    replace ef7 := sB21 _ _ ef7
    replace el4 := sB21 _ _ el4
    replace el5 := sB21 _ _ el5
    replace eu0 := sB21 _ _ eu0
    replace eu1 := sB21 _ _ eu1
    replace eu2 := sB21 _ _ eu2
    replace eu3 := sB21 _ _ eu3
    replace eu4 := sB21 _ _ eu4
    replace eu5 := sB21 _ _ eu5
    replace hE0 := hE0.same sB21
    replace hE1 := hE1.same sB21
    replace hE2 := hE2.same sB21
    replace hE3 := hE3.same sB21
    replace hE4 := hE4.same sB21
    replace hE5 := hE5.same sB21
    replace hE6 := hE6.same sB21
    replace hE7 := hE7.same sB21
    replace g := g.trans sB21
    refine ⟨by decide, ?_⟩
    intro u7 nu7
    generalize hq : upd B21 u7 _ = B22
    have sB22 : Same B21 B22 := hq ▸ Same.new (Same.refl _) nu7
    have eu7 := hq ▸ (upd_same (H := B21) (a := u7))
    clear hq
    replace epm := sB22 _ _ epm
    replace ef0 := sB22 _ _ ef0
    replace ef1 := sB22 _ _ ef1
    replace ef2 := sB22 _ _ ef2
    replace el1 := sB22 _ _ el1
    replace ef3 := sB22 _ _ ef3
    replace ef4 := sB22 _ _ ef4
    replace ef5 := sB22 _ _ ef5
    replace ef6 := sB22 _ _ ef6
    replace el2 := sB22 _ _ el2
    replace el3 := sB22 _ _ el3
    replace ef7 := sB22 _ _ ef7
    replace el4 := sB22 _ _ el4
    replace el5 := sB22 _ _ el5
    replace eu0 := sB22 _ _ eu0
    replace eu1 := sB22 _ _ eu1
    replace eu2 := sB22 _ _ eu2
    replace eu3 := sB22 _ _ eu3
    replace eu4 := sB22 _ _ eu4
    replace eu5 := sB22 _ _ eu5
    replace eu6 := sB22 _ _ eu6
    replace hE0 := hE0.same sB22
    replace hE1 := hE1.same sB22
    replace hE2 := hE2.same sB22
    replace hE3 := hE3.same sB22
    replace hE4 := hE4.same sB22
    replace hE5 := hE5.same sB22
    replace hE6 := hE6.same sB22
    replace hE7 := hE7.same sB22
    replace g := g.trans sB22
    refine ⟨by decide, ?_⟩
    intro lu nlu
    generalize hq : upd B22 lu _ = B23
    have sB23 : Same B22 B23 := hq ▸ Same.new (Same.refl _) nlu
    have elu := hq ▸ (upd_same (H := B22) (a := lu))
    clear hq
    replace epm := sB23 _ _ epm
    replace ef0 := sB23 _ _ ef0
    replace ef1 := sB23 _ _ ef1
    replace ef2 := sB23 _ _ ef2
    replace el1 := sB23 _ _ el1
    replace ef3 := sB23 _ _ ef3
    replace ef4 := sB23 _ _ ef4
    replace ef5 := sB23 _ _ ef5
    replace ef6 := sB23 _ _ ef6
    replace el2 := sB23 _ _ el2
    replace el3 := sB23 _ _ el3
    replace ef7 := sB23 _ _ ef7
    replace el4 := sB23 _ _ el4
    replace el5 := sB23 _ _ el5
    replace eu0 := sB23 _ _ eu0
    replace eu1 := sB23 _ _ eu1
    replace eu2 := sB23 _ _ eu2
    replace eu3 := sB23 _ _ eu3
    replace eu4 := sB23 _ _ eu4
    replace eu5 := sB23 _ _ eu5
    replace eu6 := sB23 _ _ eu6
    replace eu7 := sB23 _ _ eu7
    replace hE0 := hE0.same sB23
    replace hE1 := hE1.same sB23
    replace hE2 := hE2.same sB23
    replace hE3 := hE3.same sB23
    replace hE4 := hE4.same sB23
    replace hE5 := hE5.same sB23
    replace hE6 := hE6.same sB23
    replace hE7 := hE7.same sB23
    replace g := g.trans sB23
    refine ⟨by decide, ?_⟩
    intro lt nlt
    generalize hq : upd B23 lt _ = B24
    have sB24 : Same B23 B24 := hq ▸ Same.new (Same.refl _) nlt
    have elt := hq ▸ (upd_same (H := B23) (a := lt))
    clear hq
    replace epm := sB24 _ _ epm
    replace ef0 := sB24 _ _ ef0
    replace ef1 := sB24 _ _ ef1
    replace ef2 := sB24 _ _ ef2
    replace el1 := sB24 _ _ el1
    replace ef3 := sB24 _ _ ef3
    replace ef4 := sB24 _ _ ef4
    replace ef5 := sB24 _ _ ef5
    replace ef6 := sB24 _ _ ef6
    replace el2 := sB24 _ _ el2
    replace el3 := sB24 _ _ el3
    replace ef7 := sB24 _ _ ef7
    replace el4 := sB24 _ _ el4
    replace el5 := sB24 _ _ el5
    replace eu0 := sB24 _ _ eu0
    replace eu1 := sB24 _ _ eu1
    replace eu2 := sB24 _ _ eu2
    replace eu3 := sB24 _ _ eu3
    replace eu4 := sB24 _ _ eu4
    replace eu5 := sB24 _ _ eu5
    replace eu6 := sB24 _ _ eu6
    replace eu7 := sB24 _ _ eu7
    replace elu := sB24 _ _ elu
    replace hE0 := hE0.same sB24
    replace hE1 := hE1.same sB24
    replace hE2 := hE2.same sB24
    replace hE3 := hE3.same sB24
    replace hE4 := hE4.same sB24
    replace hE5 := hE5.same sB24
    replace hE6 := hE6.same sB24
    replace hE7 := hE7.same sB24
    replace g := g.trans sB24
    replace h1 := (h1.same g).to (G := fun _ => True) fun _ _ => trivial
    replace h2 := (h2.same g).to (G := fun _ => True) fun _ _ => trivial
    have hn : Dt (fun _ => True) B24 (.int n) (.int n) := rfl
    have row : ∀ i : Nat, i < 8 → ∃ (a f u' : Addr) (nm : Str) (fs : List Str) (ws : List V) (tws : List LL.T), ([V.ref a0, V.ref a1, V.ref a2, V.ref a3, V.ref a4, V.ref a5, V.ref a6, V.ref a7] : List V)[i]? = some (.ref a) ∧ ([V.ref f0, V.ref f1, V.ref f2, V.ref f3, V.ref f4, V.ref f5, V.ref f6, V.ref f7] : List V)[i]? = some (.ref f) ∧ ([V.ref u0, V.ref u1, V.ref u2, V.ref u3, V.ref u4, V.ref u5, V.ref u6, V.ref u7] : List V)[i]? = some (.ref u') ∧ ([V.str "BadValue", V.str "Broken", V.str "Unknown", V.str "NotHeld", V.str "Fault", V.str "NoRoom", V.str "Cut", V.str "BadLine"] : List V)[i]? = some (.str nm) ∧ nm = ttlV i ∧ ExAt K nm nm fs a ws B24 ∧ ExV K nm fs i ∧ B24 f = some (.tup ws) ∧ B24 u' = some (.tup ws) ∧ DtL (fun _ => True) B24 ws tws ∧ depL tws ≤ 4 ∧ tws.length ≤ 3 := by
      intro i hi
      match i, hi with
      | 0, _ => exact ⟨a0, f0, u0, _, _, _, [t], rfl, rfl, rfl, rfl, rfl, hE0, T.v_BadValue, ef0, eu0, (.one h1), by simp [depL, dep]; try omega, by simp⟩
      | 1, _ => exact ⟨a1, f1, u1, _, _, _, [t, .int n, u], rfl, rfl, rfl, rfl, rfl, hE1, T.v_Broken, ef1, eu1, (.cons h1 (.cons hn (.one h2))), by simp [depL, dep]; try omega, by simp⟩
      | 2, _ => exact ⟨a2, f2, u2, _, _, _, [.int n], rfl, rfl, rfl, rfl, rfl, hE2, T.v_Unknown, ef2, eu2, (.one hn), by simp [depL, dep]; try omega, by simp⟩
      | 3, _ => exact ⟨a3, f3, u3, _, _, _, [.int n, t], rfl, rfl, rfl, rfl, rfl, hE3, T.v_NotHeld, ef3, eu3, (.cons hn (.one h1)), by simp [depL, dep]; try omega, by simp⟩
      | 4, _ => exact ⟨a4, f4, u4, _, _, _, [t, u], rfl, rfl, rfl, rfl, rfl, hE4, T.v_Fault, ef4, eu4, (.cons h1 (.one h2)), by simp [depL, dep]; try omega, by simp⟩
      | 5, _ => exact ⟨a5, f5, u5, _, _, _, [u], rfl, rfl, rfl, rfl, rfl, hE5, T.v_NoRoom, ef5, eu5, (.one h2), by simp [depL, dep]; try omega, by simp⟩
      | 6, _ => exact ⟨a6, f6, u6, _, _, _, [u, .int n], rfl, rfl, rfl, rfl, rfl, hE6, T.v_Cut, ef6, eu6, (.cons h2 (.one hn)), by simp [depL, dep]; try omega, by simp⟩
      | 7, _ => exact ⟨a7, f7, u7, _, _, _, [.int n, u], rfl, rfl, rfl, rfl, rfl, hE7, T.v_BadLine, ef7, eu7, (.cons hn (.one h2)), by simp [depL, dep]; try omega, by simp⟩
    refine use_forR (j := 8) (fun Q q => q) (by decide) (by decide) (fun i σ' H' => Same B24 H' ∧ ∃ z : Option V, σ' = [some v, some (V.int n), some x, some (V.ref a0), some (V.ref a1), some (V.ref a2), some (V.ref a3), some (V.ref a4), some (V.ref a5), some (V.ref a6), some (V.ref a7), some (V.ref pm), some (V.ref l5), some (V.ref lu), some (V.ref lt), z]) ⟨Same.refl _, _, rfl⟩ ?_ ?_
    · rintro i σ' H' hi ⟨s1, z, rfl⟩
      obtain ⟨a, f, u', nm, fs, ws, tws, r1, r2, r3, r4, rfl, hE, hV, ef, eu, hw, dw, lw⟩ := row i hi
      simp only [tSeq, tAsg, tRet, tRetN, tDrop, tNext, tVar, tC, gName, tOp, tUn, rI, rI0, rU, tIfS, tTest, tB, tIf, tAnd, tOr, tNot, tAndV, tOrV, tNotV, tCall, tCons, tNil, tCB, tLst, tTup, tChain, CMul, CDiv, CPow, rEq, rNe, gSub, L2.start, LL.cxK0, LL.cxK1, List.map_cons, List.map_nil, List.length_cons, List.length_nil, List.replicate_succ, List.replicate_zero, List.cons_append, List.nil_append, List.append_nil, List.getElem?_cons_zero, List.getElem?_cons_succ, List.set_cons_zero, List.set_cons_succ, Nat.add_sub_cancel, Nat.reduceAdd, Nat.reduceSub, Option.some.injEq, V.int.injEq, V.bl.injEq, V.ref.injEq, V.str.injEq, List.cons.injEq, and_true, true_and, and_false, false_and, exists_eq_left, exists_eq_left', exists_and_left, exists_and_right, exists_eq, exists_eq', LL.if_dec, reduceCtorEq, exists_false, exists_const, or_false, false_or, if_true, if_false, LL.rInt1, LL.rMx, LL.rMn, and_assoc, Int.reduceNeg, Int.reduceLT, Int.reduceLE, Int.reduceMul, Int.reduceAdd, Int.reduceSub, Int.reducePow, Int.reduceToNat, Nat.reducePow, Nat.reduceLT, true_or, or_true, Bool.not_true, Bool.not_false, Bool.false_eq_true, Bool.or_false, Bool.or_true, Bool.true_or, Bool.false_or, decide_true, decide_false, not_true_eq_false, not_false_eq_true, LL.scal_int, LL.scal_bl, LL.scal_str, LL.isInt, LL.isBl, LL.isStr, LL.isLst, LL.isTup, LL.isDic]
      refine use_told (fun Q q => ?_) (hE.same s1) hV ?_
      · simp only [tSeq, tAsg, tRet, tRetN, tDrop, tNext, tVar, tC, gName, tOp, tUn, rI, rI0, rU, tIfS, tTest, tB, tIf, tAnd, tOr, tNot, tAndV, tOrV, tNotV, tCall, tCons, tNil, tCB, tLst, tTup, tChain, CMul, CDiv, CPow, rEq, rNe, gSub, L2.start, LL.cxK0, LL.cxK1, List.map_cons, List.map_nil, List.length_cons, List.length_nil, List.replicate_succ, List.replicate_zero, List.cons_append, List.nil_append, List.append_nil, List.getElem?_cons_zero, List.getElem?_cons_succ, List.set_cons_zero, List.set_cons_succ, Nat.add_sub_cancel, Nat.reduceAdd, Nat.reduceSub, Option.some.injEq, V.int.injEq, V.bl.injEq, V.ref.injEq, V.str.injEq, List.cons.injEq, and_true, true_and, and_false, false_and, exists_eq_left, exists_eq_left', exists_and_left, exists_and_right, exists_eq, exists_eq', LL.if_dec, reduceCtorEq, exists_false, exists_const, or_false, false_or, if_true, if_false, LL.rInt1, LL.rMx, LL.rMn, and_assoc, Int.reduceNeg, Int.reduceLT, Int.reduceLE, Int.reduceMul, Int.reduceAdd, Int.reduceSub, Int.reducePow, Int.reduceToNat, Nat.reducePow, Nat.reduceLT, true_or, or_true, Bool.not_true, Bool.not_false, Bool.false_eq_true, Bool.or_false, Bool.or_true, Bool.true_or, Bool.false_or, decide_true, decide_false, not_true_eq_false, not_false_eq_true, LL.scal_int, LL.scal_bl, LL.scal_str, LL.isInt, LL.isBl, LL.isStr, LL.isLst, LL.isTup, LL.isDic]
        rw [Int.zero_add]
        exact use_ixL (s1 _ _ epm) (atI_nat r1) q
      intro q1 q2 eq1 eq2
      rw [Int.zero_add]
      refine use_ixL (s1 _ _ el5) (atI_nat r2) (use_ixL (s1 _ _ epm) (atI_nat r1) ⟨a, _, _, fs, i, ws, rfl, hE.same s1, hV, fun r H2 s2 hr => ⟨by decide, ?_⟩⟩)
      have g2 := s1.trans s2
      replace eq1 := s2 _ _ eq1
      replace eq2 := s2 _ _ eq2
      intro p4 np4
      generalize hq : upd H2 p4 _ = H3
      have sH3 : Same H2 H3 := hq ▸ Same.new (Same.refl _) np4
      have ep4 := hq ▸ (upd_same (H := H2) (a := p4))
      clear hq
      replace eq1 := sH3 _ _ eq1
      replace eq2 := sH3 _ _ eq2
      have g3 := g2.trans sH3
      have hw3 := hw.same g3
      have tw : ∀ b, H3 b = some (.tup ws) → Dt (fun _ => True) H3 (.ref b) (.tup tws) := fun b hb => ⟨b, ws, rfl, trivial, hb, hw3, by omega⟩
      have hr3 := (hr.same sH3).to (G := fun _ => True) fun _ _ => trivial
      have st : ∀ z : Str, Dt (fun _ => True) H3 (.str z) (.str z) := fun z => rfl
      refine use_ixL (g3 _ _ elt) (atI_nat r4) (use_ixL (g3 _ _ elu) (atI_nat r3) ⟨_, i, _, _, rfl, hi, tw _ (g3 _ _ eu), fun y H4 s4 hy => ?_⟩)
      have ha : Dt (fun _ => True) H3 (.ref p4) (refV i (.tup tws)) := ⟨p4, _, rfl, trivial, ep4, .cons (st _) (.cons ⟨q2, _, rfl, trivial, eq2, .cons (st _) (.one (tw _ eq1)), by simp⟩ (.cons (tw _ (g3 _ _ ef)) (.one hr3))), by simp⟩
      refine use_same (ha.same s4) hy ?_ fun H5 s5 => ⟨true, rfl, ?_⟩
      · have := dep_kindsTV i
        show max 0 (max (max 0 (max (depL tws + 1) 0) + 1) (max (depL tws + 1) (max (dep (kindsTV i)) 0))) + 1 < 8
        omega
      rw [if_neg (by simp)]
      exact (g3.trans s4).trans s5
    · rintro σ' H' ⟨s1, z, rfl⟩
      simp only [tSeq, tAsg, tRet, tRetN, tDrop, tNext, tVar, tC, gName, tOp, tUn, rI, rI0, rU, tIfS, tTest, tB, tIf, tAnd, tOr, tNot, tAndV, tOrV, tNotV, tCall, tCons, tNil, tCB, tLst, tTup, tChain, CMul, CDiv, CPow, rEq, rNe, gSub, L2.start, LL.cxK0, LL.cxK1, List.map_cons, List.map_nil, List.length_cons, List.length_nil, List.replicate_succ, List.replicate_zero, List.cons_append, List.nil_append, List.append_nil, List.getElem?_cons_zero, List.getElem?_cons_succ, List.set_cons_zero, List.set_cons_succ, Nat.add_sub_cancel, Nat.reduceAdd, Nat.reduceSub, Option.some.injEq, V.int.injEq, V.bl.injEq, V.ref.injEq, V.str.injEq, List.cons.injEq, and_true, true_and, and_false, false_and, exists_eq_left, exists_eq_left', exists_and_left, exists_and_right, exists_eq, exists_eq', LL.if_dec, reduceCtorEq, exists_false, exists_const, or_false, false_or, if_true, if_false, LL.rInt1, LL.rMx, LL.rMn, and_assoc, Int.reduceNeg, Int.reduceLT, Int.reduceLE, Int.reduceMul, Int.reduceAdd, Int.reduceSub, Int.reducePow, Int.reduceToNat, Nat.reducePow, Nat.reduceLT, true_or, or_true, Bool.not_true, Bool.not_false, Bool.false_eq_true, Bool.or_false, Bool.or_true, Bool.true_or, Bool.false_or, decide_true, decide_false, not_true_eq_false, not_false_eq_true, LL.scal_int, LL.scal_bl, LL.scal_str, LL.isInt, LL.isBl, LL.isStr, LL.isLst, LL.isTup, LL.isDic]
      exact q _ (g.trans s1)
theorem out_ir {lo hi : Int} {t : LL.T} (h : Out lo hi t) : ¬ InR lo hi t := by
  intro z
  cases t with
  | int i =>
    obtain ⟨z1, z2⟩ : lo ≤ i ∧ i ≤ hi := z
    rcases h with h | h <;> omega
  | _ => exact z
theorem chk {F G : Addr → Prop} (k : Nat) {v x : V} {t u : LL.T} {n : Str} {H : Hp} {Q : VK} (hk : k ≤ 3) (h1 : Dt F H v t) (h2 : Dt G H x u) (e : askT k t u = refT n) (q : ∀ H', Same H H' → Q (.bl true) H') :
    sp_law_asked [.str (ttl k), v, x] H (fun r H1 => 1 ≤ sizeLine ∧ ∀ p, H1 p = none → sp_law_refused [.str "BadValue", .ref p] (upd H1 p (.tup [.str n])) (fun y H2 => sp_law_same 8 [r, y] H2 Q E0) E0) E0 := by
  refine use_asked k hk h1 h2 fun r H1 s1 hr => ⟨by decide, ?_⟩
  intro p np
  generalize hq : upd H1 p _ = H2
  have sH2 : Same H1 H2 := hq ▸ Same.new (Same.refl _) np
  have ep := hq ▸ (upd_same (H := H1) (a := p))
  clear hq
  refine use_refused (F := fun _ => True) ⟨p, _, rfl, trivial, ep, .one rfl, by simp⟩ fun y H3 s3 hy => ?_
  rw [e] at hr
  exact use_same ((hr.same sH2).same s3) hy (by simp [refT, dep, depL]) fun H4 s4 => q _ (((s1.trans sH2).trans s3).trans s4)
def sp_law_refused_right : Sp := fun vs H Q _ => ∃ (d s : Addr) (n : Int) (k : Nat), vs = [.ref d, .int n, .int (2 ^ k)] ∧ Drw d s H ∧ 0 ≤ n ∧ n ≤ 1000000000 ∧ k ≤ 30 ∧ ∀ H', Aft d s H H' → Drw d s H' → Q (.bl true) H'

theorem ok_law_refused_right (T : Tx K mg) : FnOk P w K mg base CX0 10 (He.ga K "_law_refused_right") T.fd_law_refused_right P_law_refused_right sp_law_refused_right := by
  refine T.F_law_refused_right.ok sc_law_refused_right (fun vs H Q E h => ?_) (fun cdv A outer s H vs Q E hr h => ⟨_, PSs.nox (pss_cons (ps_set (i := 3) sc_law_refused_right.nd rfl (Or.inl rfl) (pe_call (ok_law_not_within T) (hr.mono (by decide)) rfl T.g_law_not_within T.F_law_not_within.kp (b_law_not_within T) .nil pass0 (pa_cons (pv 0) (pa_cons (pe_int) (pa_cons (pe_op op_pow (pe_int) (pe_int)) pa_nil))))) (pss_cons (ps_set (i := 4) sc_law_refused_right.nd rfl (Or.inl rfl) (pe_call (ok_law_not_alignment T) (hr.mono (by decide)) rfl T.g_law_not_alignment T.F_law_not_alignment.kp (b_law_not_alignment T) .nil pass0 (pa_cons (pv 0) (pa_cons (pe_op op_pow (pe_int) (pe_int)) pa_nil)))) (pss_cons (ps_set (i := 5) sc_law_refused_right.nd rfl (Or.inl rfl) (pe_call (ok_law_not_within T) (hr.mono (by decide)) rfl T.g_law_not_within T.F_law_not_within.kp (b_law_not_within T) .nil pass0 (pa_cons (pv 0) (pa_cons (pe_int) (pa_cons (pe_op op_pow (pe_int) (pe_int)) pa_nil))))) (pss_cons (ps_set (i := 6) sc_law_refused_right.nd rfl (Or.inl rfl) (pe_call (ok_law_copy T 8) hr rfl T.g_law_copy T.F_law_copy.kp (b_law_copy T) .nil pass0 (pa_cons (pe_lst (pa_cons (pv 3) (pa_cons (pv 4) (pa_cons (pv 5) pa_nil)))) pa_nil))) (pss_cons (ps_for PassesOwn.never rfl (pi_list (pe_lst (pa_cons (pe_str) (pa_cons (pe_str) pa_nil)))) (pg_name (i := 7) sc_law_refused_right.nd rfl (Or.inl rfl)) (pss_cons (ps_if (pt_not (pt_val (pe_call (ok_law_same T 8) hr rfl T.g_law_same T.F_law_same.kp (b_law_same T) .nil pass0 (pa_cons (pe_call (ok_law_asked T) (hr.mono (by decide)) rfl T.g_law_asked T.F_law_asked.kp (b_law_asked T) .nil pass0 (pa_cons (pv 7) (pa_cons (pv 3) (pa_cons (pv 2) pa_nil)))) (pa_cons (pe_call (ok_law_refused T) (hr.mono (by decide)) rfl T.g_law_refused T.F_law_refused.kp (b_law_refused T) .nil pass0 (pa_cons (pe_str) (pa_cons (pe_tup (pa_cons (pe_str) pa_nil)) pa_nil))) pa_nil))))) (pss_one (ps_ret (pe_bl))) pss_nil) (pss_cons (ps_if (pt_not (pt_val (pe_call (ok_law_same T 8) hr rfl T.g_law_same T.F_law_same.kp (b_law_same T) .nil pass0 (pa_cons (pe_call (ok_law_asked T) (hr.mono (by decide)) rfl T.g_law_asked T.F_law_asked.kp (b_law_asked T) .nil pass0 (pa_cons (pv 7) (pa_cons (pv 1) (pa_cons (pv 4) pa_nil)))) (pa_cons (pe_call (ok_law_refused T) (hr.mono (by decide)) rfl T.g_law_refused T.F_law_refused.kp (b_law_refused T) .nil pass0 (pa_cons (pe_str) (pa_cons (pe_tup (pa_cons (pe_str) pa_nil)) pa_nil))) pa_nil))))) (pss_one (ps_ret (pe_bl))) pss_nil) (pss_one (ps_if (pt_not (pt_val (pe_call (ok_law_same T 8) hr rfl T.g_law_same T.F_law_same.kp (b_law_same T) .nil pass0 (pa_cons (pe_call (ok_law_asked T) (hr.mono (by decide)) rfl T.g_law_asked T.F_law_asked.kp (b_law_asked T) .nil pass0 (pa_cons (pv 7) (pa_cons (pv 3) (pa_cons (pv 4) pa_nil)))) (pa_cons (pe_call (ok_law_refused T) (hr.mono (by decide)) rfl T.g_law_refused T.F_law_refused.kp (b_law_refused T) .nil pass0 (pa_cons (pe_str) (pa_cons (pe_tup (pa_cons (pe_str) pa_nil)) pa_nil))) pa_nil))))) (pss_one (ps_ret (pe_bl))) pss_nil))))) (pss_cons (ps_if (pt_not (pt_val (pe_call (ok_law_same T 8) hr rfl T.g_law_same T.F_law_same.kp (b_law_same T) .nil pass0 (pa_cons (pe_call (ok_law_asked T) (hr.mono (by decide)) rfl T.g_law_asked T.F_law_asked.kp (b_law_asked T) .nil pass0 (pa_cons (pe_str) (pa_cons (pv 5) (pa_cons (pe_non) pa_nil)))) (pa_cons (pe_call (ok_law_refused T) (hr.mono (by decide)) rfl T.g_law_refused T.F_law_refused.kp (b_law_refused T) .nil pass0 (pa_cons (pe_str) (pa_cons (pe_tup (pa_cons (pe_str) pa_nil)) pa_nil))) pa_nil))))) (pss_one (ps_ret (pe_bl))) pss_nil) (pss_cons (ps_if (pt_not (pt_val (pe_call (ok_law_same T 8) hr rfl T.g_law_same T.F_law_same.kp (b_law_same T) .nil pass0 (pa_cons (pe_call (ok_law_asked T) (hr.mono (by decide)) rfl T.g_law_asked T.F_law_asked.kp (b_law_asked T) .nil pass0 (pa_cons (pe_str) (pa_cons (pv 5) (pa_cons (pe_non) pa_nil)))) (pa_cons (pe_call (ok_law_refused T) (hr.mono (by decide)) rfl T.g_law_refused T.F_law_refused.kp (b_law_refused T) .nil pass0 (pa_cons (pe_str) (pa_cons (pe_tup (pa_cons (pe_str) pa_nil)) pa_nil))) pa_nil))))) (pss_one (ps_ret (pe_bl))) pss_nil) (pss_one (ps_ret (pe_call (ok_law_same T 8) hr rfl T.g_law_same T.F_law_same.kp (b_law_same T) .nil pass0 (pa_cons (pe_lst (pa_cons (pv 3) (pa_cons (pv 4) (pa_cons (pv 5) pa_nil)))) (pa_cons (pv 6) pa_nil)))))))))))), ?_⟩)
  · obtain ⟨_, _, _, _, rfl, _⟩ := h
    rfl
  · obtain ⟨d, s, n, k, rfl, D, n0, n1, hk, q⟩ := h
    simp only [tSeq, tAsg, tRet, tRetN, tDrop, tNext, tVar, tC, gName, tOp, tUn, rI, rI0, rU, tIfS, tTest, tB, tIf, tAnd, tOr, tNot, tAndV, tOrV, tNotV, tCall, tCons, tNil, tCB, tLst, tTup, tChain, CMul, CDiv, CPow, rEq, rNe, gSub, L2.start, LL.cxK0, LL.cxK1, List.map_cons, List.map_nil, List.length_cons, List.length_nil, List.replicate_succ, List.replicate_zero, List.cons_append, List.nil_append, List.append_nil, List.getElem?_cons_zero, List.getElem?_cons_succ, List.set_cons_zero, List.set_cons_succ, Nat.add_sub_cancel, Nat.reduceAdd, Nat.reduceSub, Option.some.injEq, V.int.injEq, V.bl.injEq, V.ref.injEq, V.str.injEq, List.cons.injEq, and_true, true_and, and_false, false_and, exists_eq_left, exists_eq_left', exists_and_left, exists_and_right, exists_eq, exists_eq', LL.if_dec, reduceCtorEq, exists_false, exists_const, or_false, false_or, if_true, if_false, LL.rInt1, LL.rMx, LL.rMn, and_assoc, Int.reduceNeg, Int.reduceLT, Int.reduceLE, Int.reduceMul, Int.reduceAdd, Int.reduceSub, Int.reducePow, Int.reduceToNat, Nat.reducePow, Nat.reduceLT, true_or, or_true, Bool.not_true, Bool.not_false, Bool.false_eq_true, Bool.or_false, Bool.or_true, Bool.true_or, Bool.false_or, decide_true, decide_false, not_true_eq_false, not_false_eq_true, LL.scal_int, LL.scal_bl, LL.scal_str, LL.isInt, LL.isBl, LL.isStr, LL.isLst, LL.isTup, LL.isDic, N_law_refused_right]
    refine ⟨by decide, use_not_within D (by decide) (by decide) (by decide) (by decide) fun v1 t1 H1 A1 D1 hd1 hp1 ho1 => ?_⟩
    refine ⟨by decide, d, s, rfl, D1, fun v2 t2 H2 A2 D2 hd2 hp2 ho2 => ⟨by decide, use_not_within D2 (by decide) (by decide) (by decide) (by decide) fun v3 t3 H3 A3 D3 hd3 hp3 ho3 => ⟨by decide, ?_⟩⟩⟩
    have hd1 := ((hd1.kp D.ne A2.kp).kp D.ne A3.kp).to (fun _ _ => trivial) (G := fun _ => True)
    have hd2 := (hd2.kp D1.ne A3.kp).to (fun _ _ => trivial) (G := fun _ => True)
    have hd3 := hd3.to (fun _ _ => trivial) (G := fun _ => True)
    intro pk npk
    generalize hq : upd H3 pk _ = H4
    have sH4 : Same H3 H4 := hq ▸ Same.new (Same.refl _) npk
    have epk := hq ▸ (upd_same (H := H3) (a := pk))
    clear hq
    have A4 : Aft d s H H4 := ((A1.trans A2).trans A3).trans ⟨.same sH4, D3.same sH4⟩
    replace hd1 := hd1.same sH4
    replace hd2 := hd2.same sH4
    replace hd3 := hd3.same sH4
    have hdep : dep (.lst [t1, t2, t3]) < 8 := by show max (dep t1) (max (dep t2) (max (dep t3) 0)) + 1 < 8; omega
    refine use_copy (F := fun _ => True) (t := .lst [t1, t2, t3]) ⟨pk, _, rfl, trivial, epk, .cons hd1 (.cons hd2 (.one hd3)), by simp⟩ hdep fun r H5 s5 hr => ?_
    replace hd1 := hd1.same s5
    replace hd2 := hd2.same s5
    replace hd3 := hd3.same s5
    have A5 := A4.trans ⟨.same s5, A4.dr.same s5⟩
    have ir1 := out_ir ho1
    have ir3 := out_ir ho3
    have irn : InR 0 1000000000 (.int n) := ⟨n0, n1⟩
    refine use_forLX (R := fun aa xs H' => Same H5 H' ∧ H' aa = some (.lst xs) ∧ xs = [.str (ttl 0), .str (ttl 1)]) (fun Q hQ => ?_)
      (fun aa xs i σ' H' => Same H5 H' ∧ H' aa = some (.lst xs) ∧ xs = [.str (ttl 0), .str (ttl 1)] ∧ ∃ z : Option V, σ' = [some (.ref d), some (.int n), some (.int (2 ^ k)), some v1, some v2, some v3, some r, z])
      (fun aa xs H' ⟨g1, g2, g3⟩ => ⟨g1, g2, g3, _, rfl⟩) (fun aa xs i σ' H' _ ⟨_, g2, _⟩ => SqL.of g2) ?_ ?_
    · simp only [tSeq, tAsg, tRet, tRetN, tDrop, tNext, tVar, tC, gName, tOp, tUn, rI, rI0, rU, tIfS, tTest, tB, tIf, tAnd, tOr, tNot, tAndV, tOrV, tNotV, tCall, tCons, tNil, tCB, tLst, tTup, tChain, CMul, CDiv, CPow, rEq, rNe, gSub, L2.start, LL.cxK0, LL.cxK1, List.map_cons, List.map_nil, List.length_cons, List.length_nil, List.replicate_succ, List.replicate_zero, List.cons_append, List.nil_append, List.append_nil, List.getElem?_cons_zero, List.getElem?_cons_succ, List.set_cons_zero, List.set_cons_succ, Nat.add_sub_cancel, Nat.reduceAdd, Nat.reduceSub, Option.some.injEq, V.int.injEq, V.bl.injEq, V.ref.injEq, V.str.injEq, List.cons.injEq, and_true, true_and, and_false, false_and, exists_eq_left, exists_eq_left', exists_and_left, exists_and_right, exists_eq, exists_eq', LL.if_dec, reduceCtorEq, exists_false, exists_const, or_false, false_or, if_true, if_false, LL.rInt1, LL.rMx, LL.rMn, and_assoc, Int.reduceNeg, Int.reduceLT, Int.reduceLE, Int.reduceMul, Int.reduceAdd, Int.reduceSub, Int.reducePow, Int.reduceToNat, Nat.reducePow, Nat.reduceLT, true_or, or_true, Bool.not_true, Bool.not_false, Bool.false_eq_true, Bool.or_false, Bool.or_true, Bool.true_or, Bool.false_or, decide_true, decide_false, not_true_eq_false, not_false_eq_true, LL.scal_int, LL.scal_bl, LL.scal_str, LL.isInt, LL.isBl, LL.isStr, LL.isLst, LL.isTup, LL.isDic]
      refine ⟨by decide, ?_⟩
      intro p4 np4
      generalize hq : upd H5 p4 _ = H6
      have sH6 : Same H5 H6 := hq ▸ Same.new (Same.refl _) np4
      have ep4 := hq ▸ (upd_same (H := H5) (a := p4))
      clear hq
      exact hQ _ _ _ ⟨sH6, ep4, rfl⟩
    · rintro aa xs i y σ' H' hi ⟨g1, g2, rfl, z, rfl⟩
      obtain ⟨j, rfl, hj⟩ : ∃ j : Nat, y = V.str (ttl j) ∧ j ≤ 1 := by
        have hy := List.mem_of_getElem? hi
        simp only [List.mem_cons, List.not_mem_nil, or_false] at hy
        rcases hy with rfl | rfl
        · exact ⟨0, rfl, by decide⟩
        · exact ⟨1, rfl, by decide⟩
      simp only [tSeq, tAsg, tRet, tRetN, tDrop, tNext, tVar, tC, gName, tOp, tUn, rI, rI0, rU, tIfS, tTest, tB, tIf, tAnd, tOr, tNot, tAndV, tOrV, tNotV, tCall, tCons, tNil, tCB, tLst, tTup, tChain, CMul, CDiv, CPow, rEq, rNe, gSub, L2.start, LL.cxK0, LL.cxK1, List.map_cons, List.map_nil, List.length_cons, List.length_nil, List.replicate_succ, List.replicate_zero, List.cons_append, List.nil_append, List.append_nil, List.getElem?_cons_zero, List.getElem?_cons_succ, List.set_cons_zero, List.set_cons_succ, Nat.add_sub_cancel, Nat.reduceAdd, Nat.reduceSub, Option.some.injEq, V.int.injEq, V.bl.injEq, V.ref.injEq, V.str.injEq, List.cons.injEq, and_true, true_and, and_false, false_and, exists_eq_left, exists_eq_left', exists_and_left, exists_and_right, exists_eq, exists_eq', LL.if_dec, reduceCtorEq, exists_false, exists_const, or_false, false_or, if_true, if_false, LL.rInt1, LL.rMx, LL.rMn, and_assoc, Int.reduceNeg, Int.reduceLT, Int.reduceLE, Int.reduceMul, Int.reduceAdd, Int.reduceSub, Int.reducePow, Int.reduceToNat, Nat.reducePow, Nat.reduceLT, true_or, or_true, Bool.not_true, Bool.not_false, Bool.false_eq_true, Bool.or_false, Bool.or_true, Bool.true_or, Bool.false_or, decide_true, decide_false, not_true_eq_false, not_false_eq_true, LL.scal_int, LL.scal_bl, LL.scal_str, LL.isInt, LL.isBl, LL.isStr, LL.isLst, LL.isTup, LL.isDic]
      refine chk j (by omega) (hd1.same g1) (G := fun _ => True) (u := .int (2 ^ k)) rfl (ask_number hj ir1) fun Ha ga => ⟨true, rfl, ?_⟩
      rw [if_neg (by simp)]
      refine chk j (by omega) (F := fun _ => True) (t := .int n) rfl ((hd2.same g1).same ga) (ask_align hj irn ho2) fun Hb gb => ⟨true, rfl, ?_⟩
      rw [if_neg (by simp)]
      refine chk j (by omega) (((hd1.same g1).same ga).same gb) (((hd2.same g1).same ga).same gb) (ask_number hj ir1) fun Hc gc => ⟨true, rfl, ?_⟩
      rw [if_neg (by simp)]
      exact ⟨((g1.trans ga).trans gb).trans gc, ((ga.trans gb).trans gc) _ _ g2⟩
    · rintro aa xs σ' H' ⟨g1, g2, rfl, z, rfl⟩
      simp only [tSeq, tAsg, tRet, tRetN, tDrop, tNext, tVar, tC, gName, tOp, tUn, rI, rI0, rU, tIfS, tTest, tB, tIf, tAnd, tOr, tNot, tAndV, tOrV, tNotV, tCall, tCons, tNil, tCB, tLst, tTup, tChain, CMul, CDiv, CPow, rEq, rNe, gSub, L2.start, LL.cxK0, LL.cxK1, List.map_cons, List.map_nil, List.length_cons, List.length_nil, List.replicate_succ, List.replicate_zero, List.cons_append, List.nil_append, List.append_nil, List.getElem?_cons_zero, List.getElem?_cons_succ, List.set_cons_zero, List.set_cons_succ, Nat.add_sub_cancel, Nat.reduceAdd, Nat.reduceSub, Option.some.injEq, V.int.injEq, V.bl.injEq, V.ref.injEq, V.str.injEq, List.cons.injEq, and_true, true_and, and_false, false_and, exists_eq_left, exists_eq_left', exists_and_left, exists_and_right, exists_eq, exists_eq', LL.if_dec, reduceCtorEq, exists_false, exists_const, or_false, false_or, if_true, if_false, LL.rInt1, LL.rMx, LL.rMn, and_assoc, Int.reduceNeg, Int.reduceLT, Int.reduceLE, Int.reduceMul, Int.reduceAdd, Int.reduceSub, Int.reducePow, Int.reduceToNat, Nat.reducePow, Nat.reduceLT, true_or, or_true, Bool.not_true, Bool.not_false, Bool.false_eq_true, Bool.or_false, Bool.or_true, Bool.true_or, Bool.false_or, decide_true, decide_false, not_true_eq_false, not_false_eq_true, LL.scal_int, LL.scal_bl, LL.scal_str, LL.isInt, LL.isBl, LL.isStr, LL.isLst, LL.isTup, LL.isDic]
      refine chk 2 (by omega) (hd3.same g1) (G := fun _ => True) (u := .non) rfl (ask_count ir3) fun Ha ga => ⟨true, rfl, ?_⟩
      rw [if_neg (by simp)]
      refine chk 3 (by omega) ((hd3.same g1).same ga) (G := fun _ => True) (u := .non) rfl (ask_power ir3) fun Hb gb => ⟨true, rfl, ?_⟩
      rw [if_neg (by simp)]
      have gg := (g1.trans ga).trans gb
      refine ⟨by decide, ?_⟩
      intro p5 np5
      generalize hq : upd Hb p5 _ = Hc
      have sHc : Same Hb Hc := hq ▸ Same.new (Same.refl _) np5
      have ep5 := hq ▸ (upd_same (H := Hb) (a := p5))
      clear hq
      refine use_same (F := fun _ => True) (t := .lst [t1, t2, t3]) ⟨p5, _, rfl, trivial, ep5, .cons ((hd1.same gg).same sHc) (.cons ((hd2.same gg).same sHc) (.one ((hd3.same gg).same sHc))), by simp⟩ ((hr.same gg).same sHc) hdep fun Hd sd => ?_
      have gf := (gg.trans sHc).trans sd
      exact q _ (A5.trans ⟨.same gf, A5.dr.same gf⟩) (A5.dr.same gf)
def sp_law (K : PySem.W.Frag) : Sp := fun vs H Q _ => ∃ (a : Addr) (ns : List Int), vs = [.ref a] ∧ SqL K H a (ns.map V.int) ∧ ns.length ≤ 100000 ∧ ∀ H', Q (.bl true) H'

theorem ok_law (T : Tx K mg) : FnOk P w K mg base CX0 12 (He.ga K "law") T.fd_law P_law (sp_law K) := by
  refine T.F_law.ok sc_law (fun vs H Q E h => ?_) (fun cdv A outer s H vs Q E hr h => ⟨_, PSs.nox (pss_cons (ps_set (i := 1) sc_law.nd rfl (Or.inr rfl) (pe_call (ok_law_draws T) (hr.mono (by decide)) rfl T.g_law_draws T.F_law_draws.kp (b_law_draws T) .nil pass0 (pa_cons (pv 0) pa_nil))) (pss_cons (ps_set (i := 2) sc_law.nd rfl (Or.inl rfl) (pe_call (ok_law_number T) (hr.mono (by decide)) rfl T.g_law_number T.F_law_number.kp (b_law_number T) .nil pass0 (pa_cons (pv 1) (pa_cons (pe_int) (pa_cons (pe_op op_pow (pe_int) (pe_int)) pa_nil))))) (pss_cons (ps_set (i := 3) sc_law.nd rfl (Or.inl rfl) (pe_call (ok_law_alignment T) (hr.mono (by decide)) rfl T.g_law_alignment T.F_law_alignment.kp (b_law_alignment T) .nil pass0 (pa_cons (pv 1) (pa_cons (pe_int) pa_nil)))) (pss_cons (ps_if (pt_cmpR op_eq (pe_call (ok_law_take T) (hr.mono (by decide)) rfl T.g_law_take T.F_law_take.kp (b_law_take T) .nil pass0 (pa_cons (pv 1) (pa_cons (pe_int) pa_nil))) (pe_int) (nomark _)) (pss_cons (ps_set (i := 2) sc_law.nd rfl (Or.inl rfl) (pe_op op_sub (pe_op op_add (pe_op op_mul (pv 3) (pe_call (ok_law_take T) (hr.mono (by decide)) rfl T.g_law_take T.F_law_take.kp (b_law_take T) .nil pass0 (pa_cons (pv 1) (pa_cons (pe_op op_add (pe_op op_fdivW (pe_op op_pow (pe_int) (pe_int)) (pv 3)) (pe_int)) pa_nil)))) (pe_call (ok_law_take T) (hr.mono (by decide)) rfl T.g_law_take T.F_law_take.kp (b_law_take T) .nil pass0 (pa_cons (pv 1) (pa_cons (pe_int) pa_nil)))) (pe_int))) (pss_one (ps_set (i := 2) sc_law.nd rfl (Or.inl rfl) (pe_callB (LL.call_mx rfl) (by rfl) T.z_max (by decide +kernel) (pa_cons (pe_int) (pa_cons (pe_callB (LL.call_mn rfl) (by rfl) T.z_min (by decide +kernel) (pa_cons (pe_op op_pow (pe_int) (pe_int)) (pa_cons (pv 2) pa_nil))) pa_nil)))))) pss_nil) (pss_cons (ps_set (i := 4) sc_law.nd rfl (Or.inl rfl) (pe_call (ok_law_number T) (hr.mono (by decide)) rfl T.g_law_number T.F_law_number.kp (b_law_number T) .nil pass0 (pa_cons (pv 1) (pa_cons (pe_int) (pa_cons (pe_op op_pow (pe_int) (pe_int)) pa_nil))))) (pss_cons (ps_if (pt_not (pt_val (pe_call (ok_law_aligned_right T) (hr.mono (by decide)) rfl T.g_law_aligned_right T.F_law_aligned_right.kp (b_law_aligned_right T) .nil pass0 (pa_cons (pv 2) (pa_cons (pv 3) pa_nil))))) (pss_one (ps_ret (pe_bl))) pss_nil) (pss_cons (ps_for PassesOwn.never rfl (pi_list (pe_lst (pa_cons (pv 4) (pa_cons (pe_callB (LL.call_mx rfl) (by rfl) T.z_max (by decide +kernel) (pa_cons (pe_int) (pa_cons (pv 2) pa_nil))) (pa_cons (pe_int) (pa_cons (pe_op op_pow (pe_int) (pe_int)) pa_nil)))))) (pg_name (i := 5) sc_law.nd rfl (Or.inl rfl)) (pss_one (ps_if (PW.pt (pw_or (pt_not (pt_val (pe_call (ok_law_order_right T) (hr.mono (by decide)) rfl T.g_law_order_right T.F_law_order_right.kp (b_law_order_right T) .nil pass0 (pa_cons (pv 5) pa_nil)))) (pw_or1 (pt_not (pt_val (pe_call (ok_law_factor_right T) (hr.mono (by decide)) rfl T.g_law_factor_right T.F_law_factor_right.kp (b_law_factor_right T) .nil pass0 (pa_cons (pv 5) pa_nil))))))) (pss_one (ps_ret (pe_bl))) pss_nil))) (pss_cons (ps_set (i := 6) sc_law.nd rfl (Or.inl rfl) (pe_op op_add (pe_call (ok_law_great_power T) (hr.mono (by decide)) rfl T.g_law_great_power T.F_law_great_power.kp (b_law_great_power T) .nil pass0 (pa_cons (pv 1) pa_nil)) (pe_op op_fdiv (pe_call (ok_law_take T) (hr.mono (by decide)) rfl T.g_law_take T.F_law_take.kp (b_law_take T) .nil pass0 (pa_cons (pv 1) (pa_cons (pe_int) pa_nil))) (pe_int)))) (pss_cons (ps_set (i := 7) sc_law.nd rfl (Or.inl rfl) (pe_lst (pa_cons (pv 2) (pa_cons (pv 3) (pa_cons (pe_un un_neg (pv 3)) (pa_cons (pv 6) (pa_cons (pe_op op_sub (pv 6) (pe_int)) (pa_cons (pe_un un_neg (pv 6)) pa_nil)))))))) (pss_cons (ps_if (pt_not (pt_val (pe_call (ok_law_judged_right T) (hr.mono (by decide)) rfl T.g_law_judged_right T.F_law_judged_right.kp (b_law_judged_right T) .nil pass0 (pa_cons (pe_op op_cat (pv 7) (pe_lc (own := [("_law_k", 8)]) (by rfl) sc_law.nd (pi_range1 rfl T.z_range (pa_cons (pe_int) pa_nil)) (blkOk_by (N := N_law) (sc := defScope s_law) (by decide +kernel)) (fun _ _ _ _ _ => (pg_name (i := 8) sc_law.nd rfl (Or.inl rfl))) (fun _ _ _ _ _ => pts_nil) (fun _ _ _ _ _ => (pe_call (ok_law_plain T 3) hr rfl T.g_law_plain T.F_law_plain.kp (b_law_plain T) .nil pass0 (pa_cons (pv 1) (pa_cons (pe_int) pa_nil)))))) pa_nil)))) (pss_one (ps_ret (pe_bl))) pss_nil) (pss_cons (ps_if (PW.pt (pw_or (pt_not (pt_val (pe_call (ok_law_refused_right T) (hr.mono (by decide)) rfl T.g_law_refused_right T.F_law_refused_right.kp (b_law_refused_right T) .nil pass0 (pa_cons (pv 1) (pa_cons (pv 2) (pa_cons (pv 3) pa_nil)))))) (pw_or1 (pt_not (pt_val (pe_call0 (ok_law_numbers_right T) (hr.mono (by decide)) rfl T.g_law_numbers_right T.F_law_numbers_right.kp (b_law_numbers_right T) .nil pass0)))))) (pss_one (ps_ret (pe_bl))) pss_nil) (pss_cons (ps_if (pt_not (pt_val (pe_call (ok_law_made_right T) (hr.mono (by decide)) rfl T.g_law_made_right T.F_law_made_right.kp (b_law_made_right T) .nil pass0 (pa_cons (pe_call (ok_law_plain T 3) hr rfl T.g_law_plain T.F_law_plain.kp (b_law_plain T) .nil pass0 (pa_cons (pv 1) (pa_cons (pe_int) pa_nil))) (pa_cons (pv 2) (pa_cons (pe_call (ok_law_plain T 3) hr rfl T.g_law_plain T.F_law_plain.kp (b_law_plain T) .nil pass0 (pa_cons (pv 1) (pa_cons (pe_int) pa_nil))) pa_nil)))))) (pss_one (ps_ret (pe_bl))) pss_nil) (pss_one (ps_ret ((pe_and (pe_call (ok_law_aligned_right T) (hr.mono (by decide)) rfl T.g_law_aligned_right T.F_law_aligned_right.kp (b_law_aligned_right T) .nil pass0 (pa_cons (pv 2) (pa_cons (pv 3) pa_nil))) (pe_and (pe_call (ok_law_aligned_right T) (hr.mono (by decide)) rfl T.g_law_aligned_right T.F_law_aligned_right.kp (b_law_aligned_right T) .nil pass0 (pa_cons (pe_op op_pow (pe_int) (pe_int)) (pa_cons (pv 3) pa_nil))) (pe_one (pe_call (ok_law_order_right T) (hr.mono (by decide)) rfl T.g_law_order_right T.F_law_order_right.kp (b_law_order_right T) .nil pass0 (pa_cons (pv 4) pa_nil)))))))))))))))))))), ?_⟩)
  · obtain ⟨_, _, rfl, _⟩ := h
    rfl
  · obtain ⟨a, ns, rfl, hs, hn, q⟩ := h
    simp only [tSeq, tAsg, tRet, tRetN, tDrop, tNext, tVar, tC, gName, tOp, tUn, rI, rI0, rU, tIfS, tTest, tB, tIf, tAnd, tOr, tNot, tAndV, tOrV, tNotV, tCall, tCons, tNil, tCB, tLst, tTup, tChain, CMul, CDiv, CPow, rEq, rNe, gSub, L2.start, LL.cxK0, LL.cxK1, List.map_cons, List.map_nil, List.length_cons, List.length_nil, List.replicate_succ, List.replicate_zero, List.cons_append, List.nil_append, List.append_nil, List.getElem?_cons_zero, List.getElem?_cons_succ, List.set_cons_zero, List.set_cons_succ, Nat.add_sub_cancel, Nat.reduceAdd, Nat.reduceSub, Option.some.injEq, V.int.injEq, V.bl.injEq, V.ref.injEq, V.str.injEq, List.cons.injEq, and_true, true_and, and_false, false_and, exists_eq_left, exists_eq_left', exists_and_left, exists_and_right, exists_eq, exists_eq', LL.if_dec, reduceCtorEq, exists_false, exists_const, or_false, false_or, if_true, if_false, LL.rInt1, LL.rMx, LL.rMn, and_assoc, Int.reduceNeg, Int.reduceLT, Int.reduceLE, Int.reduceMul, Int.reduceAdd, Int.reduceSub, Int.reducePow, Int.reduceToNat, Nat.reducePow, Nat.reduceLT, true_or, or_true, Bool.not_true, Bool.not_false, Bool.false_eq_true, Bool.or_false, Bool.or_true, Bool.true_or, Bool.false_or, decide_true, decide_false, not_true_eq_false, not_false_eq_true, LL.scal_int, LL.scal_bl, LL.scal_str, LL.isInt, LL.isBl, LL.isStr, LL.isLst, LL.isTup, LL.isDic, N_law]
    refine ⟨a, ns, rfl, hs, hn, fun d s H1 s1 D1 nd ns' => ?_⟩
    refine ⟨by decide, use_number D1 (by decide) (by decide) (by decide) (by decide) fun n0 H2 A2 D2 n00 n01 => ?_⟩
    refine use_alignment D2 (by decide) (by decide) fun k H3 A3 D3 hk => ?_
    refine use_take D3 (by decide +kernel) fun v H4 A4 D4 v0 v1 => ⟨scal_int.mpr trivial, ?_⟩
    have hk30 : k ≤ 30 := by omega
    have pk0 := pow_pos' k
    have pk1 := pow30 hk30
    by_cases hv : V.int v = V.int 1
    case' pos =>
      rw [if_pos hv]
      have hdv := (Int.ediv_le_self (2 ^ k) (show (0 : Int) ≤ 1000000000 by decide))
      have hdv0 : (0 : Int) ≤ 1000000000 / 2 ^ k := Int.ediv_nonneg (by decide) (by omega)
      refine ⟨by decide, _, rfl, wide_div (b := 3400) pk0 (pow2_b (by omega)) (by decide) (by decide), use_take D4 (big_of (by omega) (by omega)) fun w H5 A5 D5 w0 w1 => ⟨_, rfl, _, rfl, .inl ⟨by omega, by omega⟩, use_take D5 (by decide +kernel) fun u Hm A6 Dm u0 u1 => ⟨_, rfl, by decide, by decide, ?_⟩⟩⟩
      have hx0 : 0 ≤ max 0 (min 1000000000 (2 ^ k * w + u - 1)) := by omega
      have hx1 : max 0 (min 1000000000 (2 ^ k * w + u - 1)) ≤ 1000000000 := by omega
      have Am : Aft d s H1 Hm := (((A2.trans A3).trans A4).trans A5).trans A6
      generalize max 0 (min 1000000000 (2 ^ k * w + u - 1)) = nn at hx0 hx1 ⊢
    case' neg =>
      rw [if_neg hv]
      obtain ⟨nn, enn⟩ : ∃ nn, nn = n0 := ⟨_, rfl⟩
      rw [← enn]
      have hx0 : 0 ≤ nn := by omega
      have hx1 : nn ≤ 1000000000 := by omega
      obtain ⟨Hm, eHm⟩ : ∃ Hm, Hm = H4 := ⟨_, rfl⟩
      rw [← eHm]
      have Am : Aft d s H1 Hm := eHm ▸ (A2.trans A3).trans A4
      have Dm := Am.dr
      refine ⟨by decide, ?_⟩
    all_goals
      refine use_number Dm (by decide) (by decide) (by decide) (by decide) fun c H7 A7 D7 c0 c1 => ?_
      refine use_alignedR hx0 hx1 hk30 fun H8 s8 => ⟨true, rfl, ?_⟩
      rw [if_neg (by simp)]
      have A8 : Aft d s H1 H8 := (Am.trans A7).trans ⟨.same s8, D7.same s8⟩
      refine use_forLX (R := fun aa xs H' => Same H8 H' ∧ H' aa = some (.lst xs) ∧ ∀ x ∈ xs, ∃ i, x = V.int i ∧ 1 ≤ i ∧ i ≤ 1000000000) (fun Q hQ => ?_)
        (fun aa xs i σ' H' => Same H8 H' ∧ H' aa = some (.lst xs) ∧ (∀ x ∈ xs, ∃ i, x = V.int i ∧ 1 ≤ i ∧ i ≤ 1000000000) ∧ ∃ z : Option V, σ' = [some (.ref a), some (.ref d), some (.int nn), some (.int (2 ^ k)), some (.int c), z, none, none, none])
        (fun aa xs H' ⟨g1, g2, g3⟩ => ⟨g1, g2, g3, _, rfl⟩) (fun aa xs i σ' H' _ ⟨_, g2, _⟩ => SqL.of g2) ?_ ?_
      · simp only [tSeq, tAsg, tRet, tRetN, tDrop, tNext, tVar, tC, gName, tOp, tUn, rI, rI0, rU, tIfS, tTest, tB, tIf, tAnd, tOr, tNot, tAndV, tOrV, tNotV, tCall, tCons, tNil, tCB, tLst, tTup, tChain, CMul, CDiv, CPow, rEq, rNe, gSub, L2.start, LL.cxK0, LL.cxK1, List.map_cons, List.map_nil, List.length_cons, List.length_nil, List.replicate_succ, List.replicate_zero, List.cons_append, List.nil_append, List.append_nil, List.getElem?_cons_zero, List.getElem?_cons_succ, List.set_cons_zero, List.set_cons_succ, Nat.add_sub_cancel, Nat.reduceAdd, Nat.reduceSub, Option.some.injEq, V.int.injEq, V.bl.injEq, V.ref.injEq, V.str.injEq, List.cons.injEq, and_true, true_and, and_false, false_and, exists_eq_left, exists_eq_left', exists_and_left, exists_and_right, exists_eq, exists_eq', LL.if_dec, reduceCtorEq, exists_false, exists_const, or_false, false_or, if_true, if_false, LL.rInt1, LL.rMx, LL.rMn, and_assoc, Int.reduceNeg, Int.reduceLT, Int.reduceLE, Int.reduceMul, Int.reduceAdd, Int.reduceSub, Int.reducePow, Int.reduceToNat, Nat.reducePow, Nat.reduceLT, true_or, or_true, Bool.not_true, Bool.not_false, Bool.false_eq_true, Bool.or_false, Bool.or_true, Bool.true_or, Bool.false_or, decide_true, decide_false, not_true_eq_false, not_false_eq_true, LL.scal_int, LL.scal_bl, LL.scal_str, LL.isInt, LL.isBl, LL.isStr, LL.isLst, LL.isTup, LL.isDic]
        refine ⟨by decide, by decide, ?_⟩
        intro p4 np4
        generalize hq : upd H8 p4 _ = H9
        have sH9 : Same H8 H9 := hq ▸ Same.new (Same.refl _) np4
        have ep4 := hq ▸ (upd_same (H := H8) (a := p4))
        clear hq
        refine hQ _ _ _ ⟨sH9, ep4, fun x hx => ?_⟩
        simp only [List.mem_cons, List.not_mem_nil, or_false] at hx
        rcases hx with rfl | rfl | rfl | rfl <;> exact ⟨_, rfl, by omega, by omega⟩
      · rintro aa xs i y σ' H' hi ⟨g1, g2, g3, z, rfl⟩
        obtain ⟨j, rfl, j0, j1⟩ := g3 y (List.mem_of_getElem? hi)
        simp only [tSeq, tAsg, tRet, tRetN, tDrop, tNext, tVar, tC, gName, tOp, tUn, rI, rI0, rU, tIfS, tTest, tB, tIf, tAnd, tOr, tNot, tAndV, tOrV, tNotV, tCall, tCons, tNil, tCB, tLst, tTup, tChain, CMul, CDiv, CPow, rEq, rNe, gSub, L2.start, LL.cxK0, LL.cxK1, List.map_cons, List.map_nil, List.length_cons, List.length_nil, List.replicate_succ, List.replicate_zero, List.cons_append, List.nil_append, List.append_nil, List.getElem?_cons_zero, List.getElem?_cons_succ, List.set_cons_zero, List.set_cons_succ, Nat.add_sub_cancel, Nat.reduceAdd, Nat.reduceSub, Option.some.injEq, V.int.injEq, V.bl.injEq, V.ref.injEq, V.str.injEq, List.cons.injEq, and_true, true_and, and_false, false_and, exists_eq_left, exists_eq_left', exists_and_left, exists_and_right, exists_eq, exists_eq', LL.if_dec, reduceCtorEq, exists_false, exists_const, or_false, false_or, if_true, if_false, LL.rInt1, LL.rMx, LL.rMn, and_assoc, Int.reduceNeg, Int.reduceLT, Int.reduceLE, Int.reduceMul, Int.reduceAdd, Int.reduceSub, Int.reducePow, Int.reduceToNat, Nat.reducePow, Nat.reduceLT, true_or, or_true, Bool.not_true, Bool.not_false, Bool.false_eq_true, Bool.or_false, Bool.or_true, Bool.true_or, Bool.false_or, decide_true, decide_false, not_true_eq_false, not_false_eq_true, LL.scal_int, LL.scal_bl, LL.scal_str, LL.isInt, LL.isBl, LL.isStr, LL.isLst, LL.isTup, LL.isDic]
        refine use_oneR j0 j1 fun Ha ga => ⟨true, rfl, ?_⟩
        rw [if_neg (by simp)]
        refine use_oneR j0 j1 fun Hb gb => ⟨true, rfl, ?_⟩
        rw [if_neg (by simp)]
        exact ⟨(g1.trans ga).trans gb, (ga.trans gb) _ _ g2, g3⟩
      · rintro aa xs σ' H' ⟨g1, g2, g3, z, rfl⟩
        have A9 : Aft d s H1 H' := A8.trans ⟨.same g1, A8.dr.same g1⟩
        simp only [tSeq, tAsg, tRet, tRetN, tDrop, tNext, tVar, tC, gName, tOp, tUn, rI, rI0, rU, tIfS, tTest, tB, tIf, tAnd, tOr, tNot, tAndV, tOrV, tNotV, tCall, tCons, tNil, tCB, tLst, tTup, tChain, CMul, CDiv, CPow, rEq, rNe, gSub, L2.start, LL.cxK0, LL.cxK1, List.map_cons, List.map_nil, List.length_cons, List.length_nil, List.replicate_succ, List.replicate_zero, List.cons_append, List.nil_append, List.append_nil, List.getElem?_cons_zero, List.getElem?_cons_succ, List.set_cons_zero, List.set_cons_succ, Nat.add_sub_cancel, Nat.reduceAdd, Nat.reduceSub, Option.some.injEq, V.int.injEq, V.bl.injEq, V.ref.injEq, V.str.injEq, List.cons.injEq, and_true, true_and, and_false, false_and, exists_eq_left, exists_eq_left', exists_and_left, exists_and_right, exists_eq, exists_eq', LL.if_dec, reduceCtorEq, exists_false, exists_const, or_false, false_or, if_true, if_false, LL.rInt1, LL.rMx, LL.rMn, and_assoc, Int.reduceNeg, Int.reduceLT, Int.reduceLE, Int.reduceMul, Int.reduceAdd, Int.reduceSub, Int.reducePow, Int.reduceToNat, Nat.reducePow, Nat.reduceLT, true_or, or_true, Bool.not_true, Bool.not_false, Bool.false_eq_true, Bool.or_false, Bool.or_true, Bool.true_or, Bool.false_or, decide_true, decide_false, not_true_eq_false, not_false_eq_true, LL.scal_int, LL.scal_bl, LL.scal_str, LL.isInt, LL.isBl, LL.isStr, LL.isLst, LL.isTup, LL.isDic]
        refine ⟨d, s, rfl, A9.dr, fun m H9 B9 E9 hm => use_take E9 (by decide +kernel) fun w9 H10 B10 E10 w90 w91 => ?_⟩
        refine ⟨_, rfl, _, rfl, by decide, ?_⟩
        have fitG : ∀ y : Int, y.natAbs ≤ ((2 : Int) ^ m).natAbs + 2 → y.natAbs < 2 ^ 3400 := fun y hy => by
          rw [Int.natAbs_pow, show Int.natAbs 2 = 2 from rfl] at hy
          have hX : 2 ^ m ≤ 2 ^ 3399 := Nat.pow_le_pow_right (by decide) (by omega)
          have hB : 2 ^ 3399 + 2 < 2 ^ 3400 := by decide +kernel
          omega
        have hgp := pow_pos' m
        have fits : ∀ t ∈ ([nn, 2 ^ k, -2 ^ k, 2 ^ m + w9 / 2, 2 ^ m + w9 / 2 - 1, -(2 ^ m + w9 / 2)] : List Int).map LL.T.int, Fit t := by
          intro t ht
          simp only [List.map_cons, List.map_nil, List.mem_cons, List.not_mem_nil, or_false] at ht
          rcases ht with rfl | rfl | rfl | rfl | rfl | rfl
          · exact fit_small (by omega) (by omega)
          · exact fit_small (by omega) (by omega)
          · exact fit_small (by omega) (by omega)
          · exact fitG _ (by omega)
          · exact fitG _ (by omega)
          · exact fitG _ (by omega)
        have A10 := (A9.trans B9).trans B10
        intro pl npl
        generalize hq : upd H10 pl _ = H11
        have sH11 : Same H10 H11 := hq ▸ Same.new (Same.refl _) npl
        have epl := hq ▸ (upd_same (H := H10) (a := pl))
        clear hq
        have A11 : Aft d s H1 H11 := A10.trans ⟨.same sH11, E10.same sH11⟩
        have D11 := A11.dr
        have npl2 := E10.ne _ npl
        generalize hG : (2 : Int) ^ m + w9 / 2 = G at epl fits ⊢
        refine use_lcR (R := fun j H' => j = 4 ∧ H' = H11) (fun Q hQ => ?_) (fun j H' h => ⟨by omega, by omega⟩)
          (fun j L i H' => Aft d s H11 H' ∧ j = 4 ∧ i ≤ 4 ∧ H11 L = none ∧ ∃ acc us, H' L = some (.lst acc) ∧ us.length = i ∧ depL us ≤ 6 ∧ (∀ t ∈ us, Fit t) ∧ DtL (fun b => H11 b = none ∧ b ≠ L) H' acc us) ?_ ?_ ?_
        · simp only [tSeq, tAsg, tRet, tRetN, tDrop, tNext, tVar, tC, gName, tOp, tUn, rI, rI0, rU, tIfS, tTest, tB, tIf, tAnd, tOr, tNot, tAndV, tOrV, tNotV, tCall, tCons, tNil, tCB, tLst, tTup, tChain, CMul, CDiv, CPow, rEq, rNe, gSub, L2.start, LL.cxK0, LL.cxK1, List.map_cons, List.map_nil, List.length_cons, List.length_nil, List.replicate_succ, List.replicate_zero, List.cons_append, List.nil_append, List.append_nil, List.getElem?_cons_zero, List.getElem?_cons_succ, List.set_cons_zero, List.set_cons_succ, Nat.add_sub_cancel, Nat.reduceAdd, Nat.reduceSub, Option.some.injEq, V.int.injEq, V.bl.injEq, V.ref.injEq, V.str.injEq, List.cons.injEq, and_true, true_and, and_false, false_and, exists_eq_left, exists_eq_left', exists_and_left, exists_and_right, exists_eq, exists_eq', LL.if_dec, reduceCtorEq, exists_false, exists_const, or_false, false_or, if_true, if_false, LL.rInt1, LL.rMx, LL.rMn, and_assoc, Int.reduceNeg, Int.reduceLT, Int.reduceLE, Int.reduceMul, Int.reduceAdd, Int.reduceSub, Int.reducePow, Int.reduceToNat, Nat.reducePow, Nat.reduceLT, true_or, or_true, Bool.not_true, Bool.not_false, Bool.false_eq_true, Bool.or_false, Bool.or_true, Bool.true_or, Bool.false_or, decide_true, decide_false, not_true_eq_false, not_false_eq_true, LL.scal_int, LL.scal_bl, LL.scal_str, LL.isInt, LL.isBl, LL.isStr, LL.isLst, LL.isTup, LL.isDic]
          exact hQ _ _ ⟨rfl, rfl⟩
        · rintro j H' L ⟨rfl, rfl⟩ hL
          exact ⟨(Aft.refl D11).new hL, rfl, Nat.zero_le _, hL, [], [], upd_same, rfl, Nat.zero_le _, fun _ h => absurd h (by simp), rfl⟩
        · rintro j L i H' hi ⟨aA, rfl, i4, hL, acc, us, eL, hu, hdp, hft, hacc⟩
          simp only [tSeq, tAsg, tRet, tRetN, tDrop, tNext, tVar, tC, gName, tOp, tUn, rI, rI0, rU, tIfS, tTest, tB, tIf, tAnd, tOr, tNot, tAndV, tOrV, tNotV, tCall, tCons, tNil, tCB, tLst, tTup, tChain, CMul, CDiv, CPow, rEq, rNe, gSub, L2.start, LL.cxK0, LL.cxK1, List.map_cons, List.map_nil, List.length_cons, List.length_nil, List.replicate_succ, List.replicate_zero, List.cons_append, List.nil_append, List.append_nil, List.getElem?_cons_zero, List.getElem?_cons_succ, List.set_cons_zero, List.set_cons_succ, Nat.add_sub_cancel, Nat.reduceAdd, Nat.reduceSub, Option.some.injEq, V.int.injEq, V.bl.injEq, V.ref.injEq, V.str.injEq, List.cons.injEq, and_true, true_and, and_false, false_and, exists_eq_left, exists_eq_left', exists_and_left, exists_and_right, exists_eq, exists_eq', LL.if_dec, reduceCtorEq, exists_false, exists_const, or_false, false_or, if_true, if_false, LL.rInt1, LL.rMx, LL.rMn, and_assoc, Int.reduceNeg, Int.reduceLT, Int.reduceLE, Int.reduceMul, Int.reduceAdd, Int.reduceSub, Int.reducePow, Int.reduceToNat, Nat.reducePow, Nat.reduceLT, true_or, or_true, Bool.not_true, Bool.not_false, Bool.false_eq_true, Bool.or_false, Bool.or_true, Bool.true_or, Bool.false_or, decide_true, decide_false, not_true_eq_false, not_false_eq_true, LL.scal_int, LL.scal_bl, LL.scal_str, LL.isInt, LL.isBl, LL.isStr, LL.isLst, LL.isTup, LL.isDic, tYes, wipe, List.foldl_cons, List.foldl_nil]
          refine use_plain (m := 2) aA.dr (by decide) (by decide) fun x t H3 a3 D3 hx hd3 hfx => ?_
          obtain ⟨g1, g2⟩ := growA D11 hL aA a3 hacc (new_ofA aA eL) hx
          have hal : acc.length = i := by rw [hacc.len, hu]
          refine ⟨acc, a3.kp _ _ (D11.ne _ hL) eL, small_sz (by omega), g1, by omega, hL, _, upd_same, us ++ [t], by rw [List.length_append, hu]; rfl, ?_, ?_, g2⟩
          · rw [depL_app]
            show max (depL us) (max (dep t) 0) ≤ 6
            omega
          · intro t' ht'
            rcases List.mem_append.mp ht' with h | h
            · exact hft t' h
            · rw [List.mem_singleton.mp h]; exact hfx
        · rintro j L H' ⟨aA, rfl, i4, hL, acc, us, eL, hu, hdp, hft, hacc⟩
          have hlen : acc.length ≤ 4 := by rw [hacc.len, hu]; omega
          refine ⟨pl, L, _, _, rfl, rfl, aA.kp _ _ npl2 epl, eL, Nat.le_of_lt (small_sz (by simp; omega)), ?_⟩
          have A12 := A11.trans aA
          have D12 := A12.dr
          intro l5 nl5
          generalize hq : upd H' l5 _ = H16
          have sH16 : Same H' H16 := hq ▸ Same.new (Same.refl _) nl5
          have el5 := hq ▸ (upd_same (H := H') (a := l5))
          clear hq
          have A16 : Aft d s H1 H16 := A12.trans ⟨.same sH16, D12.same sH16⟩
          have hall := (DtL.app _ (ints_dt (F := fun _ => True) (H := H') [nn, 2 ^ k, -2 ^ k, G, G - 1, -G]) (hacc.to (G := fun _ => True) fun _ _ => trivial)).same sH16
          refine ⟨_, l5, _, _, rfl, el5, hall, by rw [depL_app]; simp [dep, depL]; omega, fun t ht => ?_, fun H17 s17 => ⟨true, rfl, ?_⟩⟩
          · rcases List.mem_append.mp ht with h | h
            · exact fits t h
            · exact hft t h
          rw [if_neg (by simp)]
          have A17 : Aft d s H1 H17 := A16.trans ⟨.same s17, A16.dr.same s17⟩
          refine ⟨d, s, nn, k, rfl, A17.dr, hx0, hx1, hk30, fun H18 A18 D18 => ⟨true, rfl, ?_⟩⟩
          rw [if_neg (by simp)]
          refine ⟨rfl, fun H19 s19 => ⟨true, rfl, ?_⟩⟩
          rw [if_neg (by simp)]
          have D19 := D18.same s19
          refine use_plain (m := 1) D19 (by decide) (by decide) fun y1 t1 H20 A20 D20 hy1 hd1 _ => ?_
          refine use_plain (m := 1) D20 (by decide) (by decide) fun y2 t2 H21 A21 D21 hy2 hd2 _ => ?_
          refine ⟨_, _, y1, y2, t1, t2, nn, rfl, hy1.kp D19.ne A21.kp, hy2, by omega, by omega, fun H22 s22 => ⟨true, rfl, ?_⟩⟩
          rw [if_neg (by simp)]
          refine use_alignedR hx0 hx1 hk30 fun H23 s23 => ⟨true, rfl, ?_⟩
          rw [if_pos rfl]
          refine ⟨by decide, use_alignedR (by decide) (by decide) hk30 fun H24 s24 => ⟨true, rfl, ?_⟩⟩
          rw [if_pos rfl]
          exact use_oneR c0 c1 fun H25 s25 => q _
end K00

namespace K00
open PySem PySem.Spec PyProof.Rows L2 LL
variable {P : Program} {w : World} {K : PySem.W.Frag} {mg : Str → Option Value} {base : Heap}

def dd_is_whole : He.DefD := ⟨("is_whole", none), "is_whole", "is_whole", defArgs s_is_whole, defBody s_is_whole, defScope s_is_whole, [], []⟩
def dd_need : He.DefD := ⟨("need", none), "need", "need", defArgs s_need, defBody s_need, defScope s_need, [], []⟩
def dd_need_whole : He.DefD := ⟨("need_whole", none), "need_whole", "need_whole", defArgs s_need_whole, defBody s_need_whole, defScope s_need_whole, [], []⟩
def dd_is_power : He.DefD := ⟨("is_power", none), "is_power", "is_power", defArgs s_is_power, defBody s_is_power, defScope s_is_power, [], []⟩
def dd_need_align : He.DefD := ⟨("need_align", none), "need_align", "need_align", defArgs s_need_align, defBody s_need_align, defScope s_need_align, [], []⟩
def dd_align_down : He.DefD := ⟨("align_down", none), "align_down", "align_down", defArgs s_align_down, defBody s_align_down, defScope s_align_down, [], []⟩
def dd_align_up : He.DefD := ⟨("align_up", none), "align_up", "align_up", defArgs s_align_up, defBody s_align_up, defScope s_align_up, [], []⟩
def dd_order_of : He.DefD := ⟨("order_of", none), "order_of", "order_of", defArgs s_order_of, defBody s_order_of, defScope s_order_of, [], []⟩
def dd_power_in : He.DefD := ⟨("power_in", none), "power_in", "power_in", defArgs s_power_in, defBody s_power_in, defScope s_power_in, [], []⟩
def dd_law_draws : He.DefD := ⟨("_law_draws", none), "_law_draws", "_law_draws", defArgs s_law_draws, defBody s_law_draws, defScope s_law_draws, [], []⟩
def dd_law_next_cell : He.DefD := ⟨("_law_next_cell", none), "_law_next_cell", "_law_next_cell", defArgs s_law_next_cell, defBody s_law_next_cell, defScope s_law_next_cell, [], []⟩
def dd_law_mixed : He.DefD := ⟨("_law_mixed", none), "_law_mixed", "_law_mixed", defArgs s_law_mixed, defBody s_law_mixed, defScope s_law_mixed, [], []⟩
def dd_law_take : He.DefD := ⟨("_law_take", none), "_law_take", "_law_take", defArgs s_law_take, defBody s_law_take, defScope s_law_take, [], []⟩
def dd_law_among : He.DefD := ⟨("_law_among", none), "_law_among", "_law_among", defArgs s_law_among, defBody s_law_among, defScope s_law_among, [], []⟩
def dd_law_between : He.DefD := ⟨("_law_between", none), "_law_between", "_law_between", defArgs s_law_between, defBody s_law_between, defScope s_law_between, [], []⟩
def dd_law_number : He.DefD := ⟨("_law_number", none), "_law_number", "_law_number", defArgs s_law_number, defBody s_law_number, defScope s_law_number, [], []⟩
def dd_law_alignment : He.DefD := ⟨("_law_alignment", none), "_law_alignment", "_law_alignment", defArgs s_law_alignment, defBody s_law_alignment, defScope s_law_alignment, [], []⟩
def dd_law_power : He.DefD := ⟨("_law_power", none), "_law_power", "_law_power", defArgs s_law_power, defBody s_law_power, defScope s_law_power, [], []⟩
def dd_law_long : He.DefD := ⟨("_law_long", none), "_law_long", "_law_long", defArgs s_law_long, defBody s_law_long, defScope s_law_long, [], []⟩
def dd_law_integer : He.DefD := ⟨("_law_integer", none), "_law_integer", "_law_integer", defArgs s_law_integer, defBody s_law_integer, defScope s_law_integer, [], []⟩
def dd_law_chars : He.DefD := ⟨("_law_chars", none), "_law_chars", "_law_chars", defArgs s_law_chars, defBody s_law_chars, defScope s_law_chars, [], []⟩
def dd_law_text : He.DefD := ⟨("_law_text", none), "_law_text", "_law_text", defArgs s_law_text, defBody s_law_text, defScope s_law_text, [], []⟩
def dd_law_plain : He.DefD := ⟨("_law_plain", none), "_law_plain", "_law_plain", defArgs s_law_plain, defBody s_law_plain, defScope s_law_plain, [], []⟩
def dd_law_not_integer : He.DefD := ⟨("_law_not_integer", none), "_law_not_integer", "_law_not_integer", defArgs s_law_not_integer, defBody s_law_not_integer, defScope s_law_not_integer, [], []⟩
def dd_law_not_within : He.DefD := ⟨("_law_not_within", none), "_law_not_within", "_law_not_within", defArgs s_law_not_within, defBody s_law_not_within, defScope s_law_not_within, [], []⟩
def dd_law_not_alignment : He.DefD := ⟨("_law_not_alignment", none), "_law_not_alignment", "_law_not_alignment", defArgs s_law_not_alignment, defBody s_law_not_alignment, defScope s_law_not_alignment, [], []⟩
def dd_law_is_int : He.DefD := ⟨("_law_is_int", none), "_law_is_int", "_law_is_int", defArgs s_law_is_int, defBody s_law_is_int, defScope s_law_is_int, [], []⟩
def dd_law_is_within : He.DefD := ⟨("_law_is_within", none), "_law_is_within", "_law_is_within", defArgs s_law_is_within, defBody s_law_is_within, defScope s_law_is_within, [], []⟩
def dd_law_same : He.DefD := ⟨("_law_same", none), "_law_same", "_law_same", defArgs s_law_same, defBody s_law_same, defScope s_law_same, [], []⟩
def dd_law_copy : He.DefD := ⟨("_law_copy", none), "_law_copy", "_law_copy", defArgs s_law_copy, defBody s_law_copy, defScope s_law_copy, [], []⟩
def dd_law_kinds : He.DefD := ⟨("_law_kinds", none), "_law_kinds", "_law_kinds", defArgs s_law_kinds, defBody s_law_kinds, defScope s_law_kinds, [], []⟩
def dd_law_refused : He.DefD := ⟨("_law_refused", none), "_law_refused", "_law_refused", defArgs s_law_refused, defBody s_law_refused, defScope s_law_refused, [], []⟩
def dd_law_made_right : He.DefD := ⟨("_law_made_right", none), "_law_made_right", "_law_made_right", defArgs s_law_made_right, defBody s_law_made_right, defScope s_law_made_right, [], []⟩
def dd_law_numbers_right : He.DefD := ⟨("_law_numbers_right", none), "_law_numbers_right", "_law_numbers_right", defArgs s_law_numbers_right, defBody s_law_numbers_right, defScope s_law_numbers_right, [], []⟩
def dd_law_asked : He.DefD := ⟨("_law_asked", none), "_law_asked", "_law_asked", defArgs s_law_asked, defBody s_law_asked, defScope s_law_asked, [], []⟩
def dd_law_aligned_right : He.DefD := ⟨("_law_aligned_right", none), "_law_aligned_right", "_law_aligned_right", defArgs s_law_aligned_right, defBody s_law_aligned_right, defScope s_law_aligned_right, [], []⟩
def dd_law_order_right : He.DefD := ⟨("_law_order_right", none), "_law_order_right", "_law_order_right", defArgs s_law_order_right, defBody s_law_order_right, defScope s_law_order_right, [], []⟩
def dd_law_factor_right : He.DefD := ⟨("_law_factor_right", none), "_law_factor_right", "_law_factor_right", defArgs s_law_factor_right, defBody s_law_factor_right, defScope s_law_factor_right, [], []⟩
def dd_law_great_power : He.DefD := ⟨("_law_great_power", none), "_law_great_power", "_law_great_power", defArgs s_law_great_power, defBody s_law_great_power, defScope s_law_great_power, [], []⟩
def dd_law_is_power_due : He.DefD := ⟨("_law_is_power_due", none), "_law_is_power_due", "_law_is_power_due", defArgs s_law_is_power_due, defBody s_law_is_power_due, defScope s_law_is_power_due, [], []⟩
def dd_law_judged_right : He.DefD := ⟨("_law_judged_right", none), "_law_judged_right", "_law_judged_right", defArgs s_law_judged_right, defBody s_law_judged_right, defScope s_law_judged_right, [], []⟩
def dd_law_refused_right : He.DefD := ⟨("_law_refused_right", none), "_law_refused_right", "_law_refused_right", defArgs s_law_refused_right, defBody s_law_refused_right, defScope s_law_refused_right, [], []⟩
def dd_law : He.DefD := ⟨("law", none), "law", "law", defArgs s_law, defBody s_law, defScope s_law, [], []⟩
def dd_BadValue : He.DefD := ⟨("BadValue", some "__init__"), "__init__", "BadValue.__init__", defArgs s_BadValue, defBody s_BadValue, defScope s_BadValue, [], []⟩
def dd_Broken : He.DefD := ⟨("Broken", some "__init__"), "__init__", "Broken.__init__", defArgs s_Broken, defBody s_Broken, defScope s_Broken, [], []⟩
def dd_Unknown : He.DefD := ⟨("Unknown", some "__init__"), "__init__", "Unknown.__init__", defArgs s_Unknown, defBody s_Unknown, defScope s_Unknown, [], []⟩
def dd_NotHeld : He.DefD := ⟨("NotHeld", some "__init__"), "__init__", "NotHeld.__init__", defArgs s_NotHeld, defBody s_NotHeld, defScope s_NotHeld, [], []⟩
def dd_Fault : He.DefD := ⟨("Fault", some "__init__"), "__init__", "Fault.__init__", defArgs s_Fault, defBody s_Fault, defScope s_Fault, [], []⟩
def dd_NoRoom : He.DefD := ⟨("NoRoom", some "__init__"), "__init__", "NoRoom.__init__", defArgs s_NoRoom, defBody s_NoRoom, defScope s_NoRoom, [], []⟩
def dd_Cut : He.DefD := ⟨("Cut", some "__init__"), "__init__", "Cut.__init__", defArgs s_Cut, defBody s_Cut, defScope s_Cut, [], []⟩
def dd_BadLine : He.DefD := ⟨("BadLine", some "__init__"), "__init__", "BadLine.__init__", defArgs s_BadLine, defBody s_BadLine, defScope s_BadLine, [], []⟩
def fn : List He.DefD := [dd_is_whole, dd_need, dd_need_whole, dd_is_power, dd_need_align, dd_align_down, dd_align_up, dd_order_of, dd_power_in, dd_law_draws, dd_law_next_cell, dd_law_mixed, dd_law_take, dd_law_among, dd_law_between, dd_law_number, dd_law_alignment, dd_law_power, dd_law_long, dd_law_integer, dd_law_chars, dd_law_text, dd_law_plain, dd_law_not_integer, dd_law_not_within, dd_law_not_alignment, dd_law_is_int, dd_law_is_within, dd_law_same, dd_law_copy, dd_law_kinds, dd_law_refused, dd_law_made_right, dd_law_numbers_right, dd_law_asked, dd_law_aligned_right, dd_law_order_right, dd_law_factor_right, dd_law_great_power, dd_law_is_power_due, dd_law_judged_right, dd_law_refused_right, dd_law, dd_BadValue, dd_Broken, dd_Unknown, dd_NotHeld, dd_Fault, dd_NoRoom, dd_Cut, dd_BadLine]
def fa : List He.Fa := [.glo "is_whole", .glo "need", .glo "need_whole", .glo "is_power", .glo "need_align", .glo "align_down", .glo "align_up", .glo "order_of", .glo "power_in", .glo "_law_draws", .glo "_law_next_cell", .glo "_law_mixed", .glo "_law_take", .glo "_law_among", .glo "_law_between", .glo "_law_number", .glo "_law_alignment", .glo "_law_power", .glo "_law_long", .glo "_law_integer", .glo "_law_chars", .glo "_law_text", .glo "_law_plain", .glo "_law_not_integer", .glo "_law_not_within", .glo "_law_not_alignment", .glo "_law_is_int", .glo "_law_is_within", .glo "_law_same", .glo "_law_copy", .glo "_law_kinds", .glo "_law_refused", .glo "_law_made_right", .glo "_law_numbers_right", .glo "_law_asked", .glo "_law_aligned_right", .glo "_law_order_right", .glo "_law_factor_right", .glo "_law_great_power", .glo "_law_is_power_due", .glo "_law_judged_right", .glo "_law_refused_right", .glo "law", .int "EXTENT" 23, .int "HANDLE" 26, .int "HEAP" 24, .int "MAGIC" 4711, .int "MAP" 21, .int "MAPPED" 27, .int "MOST_ALIGN" 1073741824, .int "MOST_PLACE" 1000000000, .int "MOST_WORD" 65535, .int "NOBODY" 0, .int "NODE" 28, .int "POISON" 60002, .int "RED" 60001, .int "REGION" 25, .int "SLAB" 22, .glo "BadLine", .glo "BadValue", .glo "Broken", .glo "Cut", .glo "Fault", .glo "NoRoom", .glo "NotHeld", .glo "StoreError", .glo "Unknown", .free "ValueError", .free "bool", .free "dict", .free "int", .free "isinstance", .free "len", .free "list", .free "max", .free "min", .free "range", .free "str", .free "tuple"]
def exs : List (PySem.W.Frag → Bool) := [fun K => oexB K (He.ga K "BadValue"),
  fun K => decide (PySem.W.findIn K (.ref (He.ga K "BadValue")) "__init__" = some (some (.ref (He.ma K (He.ga K "BadValue") "__init__")))),
  fun K => decide (PySem.W.typeIn K (.ref (He.ma K (He.ga K "BadValue") "__init__")) = some (.type "function")),
  fun K => decide (PySem.W.findIn K (.ref (He.ga K "BadValue")) "parameter" = some none),
  fun K => decide (PySem.W.findIn K (.ref (He.ga K "BadValue")) "told" = some none),
  fun K => xfB K (He.ga K "BadValue"),
  fun K => excdB K (He.ga K "BadValue"),
  fun K => decide (PySem.W.exmOne K (.ref (He.ga K "BadValue")) (.ref (He.ga K "BadValue")) = some true),
  fun K => decide (PySem.W.kitOne K (.ref (He.ga K "BadValue")) (.type "ValueError") = some true),
  fun K => decide (PySem.W.kitOne K (.ref (He.ga K "BadValue")) (.ref (He.ga K "StoreError")) = some true),
  fun K => decide (PySem.W.kitOne K (.ref (He.ga K "BadValue")) (.ref (He.ga K "BadValue")) = some true),
  fun K => decide (PySem.W.kitOne K (.ref (He.ga K "BadValue")) (.ref (He.ga K "Broken")) = some false),
  fun K => decide (PySem.W.kitOne K (.ref (He.ga K "BadValue")) (.ref (He.ga K "Unknown")) = some false),
  fun K => decide (PySem.W.kitOne K (.ref (He.ga K "BadValue")) (.ref (He.ga K "NotHeld")) = some false),
  fun K => decide (PySem.W.kitOne K (.ref (He.ga K "BadValue")) (.ref (He.ga K "Fault")) = some false),
  fun K => decide (PySem.W.kitOne K (.ref (He.ga K "BadValue")) (.ref (He.ga K "NoRoom")) = some false),
  fun K => decide (PySem.W.kitOne K (.ref (He.ga K "BadValue")) (.ref (He.ga K "Cut")) = some false),
  fun K => decide (PySem.W.kitOne K (.ref (He.ga K "BadValue")) (.ref (He.ga K "BadLine")) = some false),
  fun K => exvB K "BadValue" ["parameter"] 0,
  fun K => exvB K "Broken" ["place", "found", "due"] 1,
  fun K => exvB K "Unknown" ["parameter"] 2,
  fun K => exvB K "NotHeld" ["place", "found"] 3,
  fun K => exvB K "Fault" ["kind", "place"] 4,
  fun K => exvB K "NoRoom" ["paper"] 5,
  fun K => exvB K "Cut" ["needed", "left"] 6,
  fun K => exvB K "BadLine" ["line", "column"] 7]
def names : List Str := (["is_whole", "need", "need_whole", "is_power", "need_align", "align_down", "align_up", "order_of", "power_in", "_law_draws", "_law_next_cell", "_law_mixed", "_law_take", "_law_among", "_law_between", "_law_number", "_law_alignment", "_law_power", "_law_long", "_law_integer"] : List Str) ++ (["_law_chars", "_law_text", "_law_plain", "_law_not_integer", "_law_not_within", "_law_not_alignment", "_law_is_int", "_law_is_within", "_law_same", "_law_copy", "_law_kinds", "_law_refused", "_law_made_right", "_law_numbers_right", "_law_asked", "_law_aligned_right", "_law_order_right", "_law_factor_right", "_law_great_power", "_law_is_power_due"] : List Str) ++ (["_law_judged_right", "_law_refused_right", "StoreError", "BadValue", "Broken", "Unknown", "NotHeld", "Fault", "NoRoom", "Cut", "BadLine", "MOST_WORD", "NOBODY", "MAP", "SLAB", "EXTENT", "HEAP", "REGION", "HANDLE", "MAPPED"] : List Str) ++ (["NODE", "MAGIC", "RED", "POISON", "MOST_PLACE", "MOST_ALIGN"] : List Str)
abbrev R : PySem.W.OpenRow := PySem.W.OpenLaw.row PySem.Challenge.rw_allgivenback_k00_align
abbrev hk : PySem.W.Hook := hookY 6 fa fn (fun K => exs.all fun e => e K)
def ob (s : PySem.W.SharedT) : AlY := obsY 6 fa fn (fun K => exs.all fun e => e K) (HandSHeadRun.getT s)
theorem ob_eq (s : PySem.W.SharedT) : ob s = hk.obs s.abs := obsY_eq (HandSHeadRun.getT_eq s)
theorem run (w : World) : HandSHeadRun.RunEq R (PySem.W.view R.prog [70]) hk ob 4000 names w := by
  intro os
  kernel_rfl
theorem tx_of {K : PySem.W.Frag} {h : Heap} {mg : Str → Option Value} (X : K.In h) (G : h.Ns mainGlobals mg) (c : SaysY fa fn (fun K => exs.all fun e => e K) K) : Nonempty (Tx K mg) := by
  obtain ⟨fd_is_whole, F_is_whole⟩ := c.d.def_ 0 (d := dd_is_whole) rfl
  obtain ⟨fd_need, F_need⟩ := c.d.def_ 1 (d := dd_need) rfl
  obtain ⟨fd_need_whole, F_need_whole⟩ := c.d.def_ 2 (d := dd_need_whole) rfl
  obtain ⟨fd_is_power, F_is_power⟩ := c.d.def_ 3 (d := dd_is_power) rfl
  obtain ⟨fd_need_align, F_need_align⟩ := c.d.def_ 4 (d := dd_need_align) rfl
  obtain ⟨fd_align_down, F_align_down⟩ := c.d.def_ 5 (d := dd_align_down) rfl
  obtain ⟨fd_align_up, F_align_up⟩ := c.d.def_ 6 (d := dd_align_up) rfl
  obtain ⟨fd_order_of, F_order_of⟩ := c.d.def_ 7 (d := dd_order_of) rfl
  obtain ⟨fd_power_in, F_power_in⟩ := c.d.def_ 8 (d := dd_power_in) rfl
  obtain ⟨fd_law_draws, F_law_draws⟩ := c.d.def_ 9 (d := dd_law_draws) rfl
  obtain ⟨fd_law_next_cell, F_law_next_cell⟩ := c.d.def_ 10 (d := dd_law_next_cell) rfl
  obtain ⟨fd_law_mixed, F_law_mixed⟩ := c.d.def_ 11 (d := dd_law_mixed) rfl
  obtain ⟨fd_law_take, F_law_take⟩ := c.d.def_ 12 (d := dd_law_take) rfl
  obtain ⟨fd_law_among, F_law_among⟩ := c.d.def_ 13 (d := dd_law_among) rfl
  obtain ⟨fd_law_between, F_law_between⟩ := c.d.def_ 14 (d := dd_law_between) rfl
  obtain ⟨fd_law_number, F_law_number⟩ := c.d.def_ 15 (d := dd_law_number) rfl
  obtain ⟨fd_law_alignment, F_law_alignment⟩ := c.d.def_ 16 (d := dd_law_alignment) rfl
  obtain ⟨fd_law_power, F_law_power⟩ := c.d.def_ 17 (d := dd_law_power) rfl
  obtain ⟨fd_law_long, F_law_long⟩ := c.d.def_ 18 (d := dd_law_long) rfl
  obtain ⟨fd_law_integer, F_law_integer⟩ := c.d.def_ 19 (d := dd_law_integer) rfl
  obtain ⟨fd_law_chars, F_law_chars⟩ := c.d.def_ 20 (d := dd_law_chars) rfl
  obtain ⟨fd_law_text, F_law_text⟩ := c.d.def_ 21 (d := dd_law_text) rfl
  obtain ⟨fd_law_plain, F_law_plain⟩ := c.d.def_ 22 (d := dd_law_plain) rfl
  obtain ⟨fd_law_not_integer, F_law_not_integer⟩ := c.d.def_ 23 (d := dd_law_not_integer) rfl
  obtain ⟨fd_law_not_within, F_law_not_within⟩ := c.d.def_ 24 (d := dd_law_not_within) rfl
  obtain ⟨fd_law_not_alignment, F_law_not_alignment⟩ := c.d.def_ 25 (d := dd_law_not_alignment) rfl
  obtain ⟨fd_law_is_int, F_law_is_int⟩ := c.d.def_ 26 (d := dd_law_is_int) rfl
  obtain ⟨fd_law_is_within, F_law_is_within⟩ := c.d.def_ 27 (d := dd_law_is_within) rfl
  obtain ⟨fd_law_same, F_law_same⟩ := c.d.def_ 28 (d := dd_law_same) rfl
  obtain ⟨fd_law_copy, F_law_copy⟩ := c.d.def_ 29 (d := dd_law_copy) rfl
  obtain ⟨fd_law_kinds, F_law_kinds⟩ := c.d.def_ 30 (d := dd_law_kinds) rfl
  obtain ⟨fd_law_refused, F_law_refused⟩ := c.d.def_ 31 (d := dd_law_refused) rfl
  obtain ⟨fd_law_made_right, F_law_made_right⟩ := c.d.def_ 32 (d := dd_law_made_right) rfl
  obtain ⟨fd_law_numbers_right, F_law_numbers_right⟩ := c.d.def_ 33 (d := dd_law_numbers_right) rfl
  obtain ⟨fd_law_asked, F_law_asked⟩ := c.d.def_ 34 (d := dd_law_asked) rfl
  obtain ⟨fd_law_aligned_right, F_law_aligned_right⟩ := c.d.def_ 35 (d := dd_law_aligned_right) rfl
  obtain ⟨fd_law_order_right, F_law_order_right⟩ := c.d.def_ 36 (d := dd_law_order_right) rfl
  obtain ⟨fd_law_factor_right, F_law_factor_right⟩ := c.d.def_ 37 (d := dd_law_factor_right) rfl
  obtain ⟨fd_law_great_power, F_law_great_power⟩ := c.d.def_ 38 (d := dd_law_great_power) rfl
  obtain ⟨fd_law_is_power_due, F_law_is_power_due⟩ := c.d.def_ 39 (d := dd_law_is_power_due) rfl
  obtain ⟨fd_law_judged_right, F_law_judged_right⟩ := c.d.def_ 40 (d := dd_law_judged_right) rfl
  obtain ⟨fd_law_refused_right, F_law_refused_right⟩ := c.d.def_ 41 (d := dd_law_refused_right) rfl
  obtain ⟨fd_law, F_law⟩ := c.d.def_ 42 (d := dd_law) rfl
  obtain ⟨fd_BadValue, F_BadValue⟩ := c.d.def_ 43 (d := dd_BadValue) rfl
  obtain ⟨fd_Broken, F_Broken⟩ := c.d.def_ 44 (d := dd_Broken) rfl
  obtain ⟨fd_Unknown, F_Unknown⟩ := c.d.def_ 45 (d := dd_Unknown) rfl
  obtain ⟨fd_NotHeld, F_NotHeld⟩ := c.d.def_ 46 (d := dd_NotHeld) rfl
  obtain ⟨fd_Fault, F_Fault⟩ := c.d.def_ 47 (d := dd_Fault) rfl
  obtain ⟨fd_NoRoom, F_NoRoom⟩ := c.d.def_ 48 (d := dd_NoRoom) rfl
  obtain ⟨fd_Cut, F_Cut⟩ := c.d.def_ 49 (d := dd_Cut) rfl
  obtain ⟨fd_BadLine, F_BadLine⟩ := c.d.def_ 50 (d := dd_BadLine) rfl
  exact ⟨{ fd_is_whole := fd_is_whole, F_is_whole := F_is_whole, g_is_whole := He.glo_ok X G (c.d.fact 0 (f := .glo "is_whole") rfl), fd_need := fd_need, F_need := F_need, g_need := He.glo_ok X G (c.d.fact 1 (f := .glo "need") rfl), fd_need_whole := fd_need_whole, F_need_whole := F_need_whole, g_need_whole := He.glo_ok X G (c.d.fact 2 (f := .glo "need_whole") rfl), fd_is_power := fd_is_power, F_is_power := F_is_power, g_is_power := He.glo_ok X G (c.d.fact 3 (f := .glo "is_power") rfl), fd_need_align := fd_need_align, F_need_align := F_need_align, g_need_align := He.glo_ok X G (c.d.fact 4 (f := .glo "need_align") rfl), fd_align_down := fd_align_down, F_align_down := F_align_down, g_align_down := He.glo_ok X G (c.d.fact 5 (f := .glo "align_down") rfl), fd_align_up := fd_align_up, F_align_up := F_align_up, g_align_up := He.glo_ok X G (c.d.fact 6 (f := .glo "align_up") rfl), fd_order_of := fd_order_of, F_order_of := F_order_of, g_order_of := He.glo_ok X G (c.d.fact 7 (f := .glo "order_of") rfl), fd_power_in := fd_power_in, F_power_in := F_power_in, g_power_in := He.glo_ok X G (c.d.fact 8 (f := .glo "power_in") rfl), fd_law_draws := fd_law_draws, F_law_draws := F_law_draws, g_law_draws := He.glo_ok X G (c.d.fact 9 (f := .glo "_law_draws") rfl), fd_law_next_cell := fd_law_next_cell, F_law_next_cell := F_law_next_cell, g_law_next_cell := He.glo_ok X G (c.d.fact 10 (f := .glo "_law_next_cell") rfl), fd_law_mixed := fd_law_mixed, F_law_mixed := F_law_mixed, g_law_mixed := He.glo_ok X G (c.d.fact 11 (f := .glo "_law_mixed") rfl), fd_law_take := fd_law_take, F_law_take := F_law_take, g_law_take := He.glo_ok X G (c.d.fact 12 (f := .glo "_law_take") rfl), fd_law_among := fd_law_among, F_law_among := F_law_among, g_law_among := He.glo_ok X G (c.d.fact 13 (f := .glo "_law_among") rfl), fd_law_between := fd_law_between, F_law_between := F_law_between, g_law_between := He.glo_ok X G (c.d.fact 14 (f := .glo "_law_between") rfl), fd_law_number := fd_law_number, F_law_number := F_law_number, g_law_number := He.glo_ok X G (c.d.fact 15 (f := .glo "_law_number") rfl), fd_law_alignment := fd_law_alignment, F_law_alignment := F_law_alignment, g_law_alignment := He.glo_ok X G (c.d.fact 16 (f := .glo "_law_alignment") rfl), fd_law_power := fd_law_power, F_law_power := F_law_power, g_law_power := He.glo_ok X G (c.d.fact 17 (f := .glo "_law_power") rfl), fd_law_long := fd_law_long, F_law_long := F_law_long, g_law_long := He.glo_ok X G (c.d.fact 18 (f := .glo "_law_long") rfl), fd_law_integer := fd_law_integer, F_law_integer := F_law_integer, g_law_integer := He.glo_ok X G (c.d.fact 19 (f := .glo "_law_integer") rfl), fd_law_chars := fd_law_chars, F_law_chars := F_law_chars, g_law_chars := He.glo_ok X G (c.d.fact 20 (f := .glo "_law_chars") rfl), fd_law_text := fd_law_text, F_law_text := F_law_text, g_law_text := He.glo_ok X G (c.d.fact 21 (f := .glo "_law_text") rfl), fd_law_plain := fd_law_plain, F_law_plain := F_law_plain, g_law_plain := He.glo_ok X G (c.d.fact 22 (f := .glo "_law_plain") rfl), fd_law_not_integer := fd_law_not_integer, F_law_not_integer := F_law_not_integer, g_law_not_integer := He.glo_ok X G (c.d.fact 23 (f := .glo "_law_not_integer") rfl), fd_law_not_within := fd_law_not_within, F_law_not_within := F_law_not_within, g_law_not_within := He.glo_ok X G (c.d.fact 24 (f := .glo "_law_not_within") rfl), fd_law_not_alignment := fd_law_not_alignment, F_law_not_alignment := F_law_not_alignment, g_law_not_alignment := He.glo_ok X G (c.d.fact 25 (f := .glo "_law_not_alignment") rfl), fd_law_is_int := fd_law_is_int, F_law_is_int := F_law_is_int, g_law_is_int := He.glo_ok X G (c.d.fact 26 (f := .glo "_law_is_int") rfl), fd_law_is_within := fd_law_is_within, F_law_is_within := F_law_is_within, g_law_is_within := He.glo_ok X G (c.d.fact 27 (f := .glo "_law_is_within") rfl), fd_law_same := fd_law_same, F_law_same := F_law_same, g_law_same := He.glo_ok X G (c.d.fact 28 (f := .glo "_law_same") rfl), fd_law_copy := fd_law_copy, F_law_copy := F_law_copy, g_law_copy := He.glo_ok X G (c.d.fact 29 (f := .glo "_law_copy") rfl), fd_law_kinds := fd_law_kinds, F_law_kinds := F_law_kinds, g_law_kinds := He.glo_ok X G (c.d.fact 30 (f := .glo "_law_kinds") rfl), fd_law_refused := fd_law_refused, F_law_refused := F_law_refused, g_law_refused := He.glo_ok X G (c.d.fact 31 (f := .glo "_law_refused") rfl), fd_law_made_right := fd_law_made_right, F_law_made_right := F_law_made_right, g_law_made_right := He.glo_ok X G (c.d.fact 32 (f := .glo "_law_made_right") rfl), fd_law_numbers_right := fd_law_numbers_right, F_law_numbers_right := F_law_numbers_right, g_law_numbers_right := He.glo_ok X G (c.d.fact 33 (f := .glo "_law_numbers_right") rfl), fd_law_asked := fd_law_asked, F_law_asked := F_law_asked, g_law_asked := He.glo_ok X G (c.d.fact 34 (f := .glo "_law_asked") rfl), fd_law_aligned_right := fd_law_aligned_right, F_law_aligned_right := F_law_aligned_right, g_law_aligned_right := He.glo_ok X G (c.d.fact 35 (f := .glo "_law_aligned_right") rfl), fd_law_order_right := fd_law_order_right, F_law_order_right := F_law_order_right, g_law_order_right := He.glo_ok X G (c.d.fact 36 (f := .glo "_law_order_right") rfl), fd_law_factor_right := fd_law_factor_right, F_law_factor_right := F_law_factor_right, g_law_factor_right := He.glo_ok X G (c.d.fact 37 (f := .glo "_law_factor_right") rfl), fd_law_great_power := fd_law_great_power, F_law_great_power := F_law_great_power, g_law_great_power := He.glo_ok X G (c.d.fact 38 (f := .glo "_law_great_power") rfl), fd_law_is_power_due := fd_law_is_power_due, F_law_is_power_due := F_law_is_power_due, g_law_is_power_due := He.glo_ok X G (c.d.fact 39 (f := .glo "_law_is_power_due") rfl), fd_law_judged_right := fd_law_judged_right, F_law_judged_right := F_law_judged_right, g_law_judged_right := He.glo_ok X G (c.d.fact 40 (f := .glo "_law_judged_right") rfl), fd_law_refused_right := fd_law_refused_right, F_law_refused_right := F_law_refused_right, g_law_refused_right := He.glo_ok X G (c.d.fact 41 (f := .glo "_law_refused_right") rfl), fd_law := fd_law, F_law := F_law, g_law := He.glo_ok X G (c.d.fact 42 (f := .glo "law") rfl), c_EXTENT := He.int_ok X G (c.d.fact 43 (f := .int "EXTENT" 23) rfl), c_HANDLE := He.int_ok X G (c.d.fact 44 (f := .int "HANDLE" 26) rfl), c_HEAP := He.int_ok X G (c.d.fact 45 (f := .int "HEAP" 24) rfl), c_MAGIC := He.int_ok X G (c.d.fact 46 (f := .int "MAGIC" 4711) rfl), c_MAP := He.int_ok X G (c.d.fact 47 (f := .int "MAP" 21) rfl), c_MAPPED := He.int_ok X G (c.d.fact 48 (f := .int "MAPPED" 27) rfl), c_MOST_ALIGN := He.int_ok X G (c.d.fact 49 (f := .int "MOST_ALIGN" 1073741824) rfl), c_MOST_PLACE := He.int_ok X G (c.d.fact 50 (f := .int "MOST_PLACE" 1000000000) rfl), c_MOST_WORD := He.int_ok X G (c.d.fact 51 (f := .int "MOST_WORD" 65535) rfl), c_NOBODY := He.int_ok X G (c.d.fact 52 (f := .int "NOBODY" 0) rfl), c_NODE := He.int_ok X G (c.d.fact 53 (f := .int "NODE" 28) rfl), c_POISON := He.int_ok X G (c.d.fact 54 (f := .int "POISON" 60002) rfl), c_RED := He.int_ok X G (c.d.fact 55 (f := .int "RED" 60001) rfl), c_REGION := He.int_ok X G (c.d.fact 56 (f := .int "REGION" 25) rfl), c_SLAB := He.int_ok X G (c.d.fact 57 (f := .int "SLAB" 22) rfl), g_BadLine := He.glo_ok X G (c.d.fact 58 (f := .glo "BadLine") rfl), g_BadValue := He.glo_ok X G (c.d.fact 59 (f := .glo "BadValue") rfl), g_Broken := He.glo_ok X G (c.d.fact 60 (f := .glo "Broken") rfl), g_Cut := He.glo_ok X G (c.d.fact 61 (f := .glo "Cut") rfl), g_Fault := He.glo_ok X G (c.d.fact 62 (f := .glo "Fault") rfl), g_NoRoom := He.glo_ok X G (c.d.fact 63 (f := .glo "NoRoom") rfl), g_NotHeld := He.glo_ok X G (c.d.fact 64 (f := .glo "NotHeld") rfl), g_StoreError := He.glo_ok X G (c.d.fact 65 (f := .glo "StoreError") rfl), g_Unknown := He.glo_ok X G (c.d.fact 66 (f := .glo "Unknown") rfl), z_ValueError := He.free_ok X G (c.d.fact 67 (f := .free "ValueError") rfl), z_bool := He.free_ok X G (c.d.fact 68 (f := .free "bool") rfl), z_dict := He.free_ok X G (c.d.fact 69 (f := .free "dict") rfl), z_int := He.free_ok X G (c.d.fact 70 (f := .free "int") rfl), z_isinstance := He.free_ok X G (c.d.fact 71 (f := .free "isinstance") rfl), z_len := He.free_ok X G (c.d.fact 72 (f := .free "len") rfl), z_list := He.free_ok X G (c.d.fact 73 (f := .free "list") rfl), z_max := He.free_ok X G (c.d.fact 74 (f := .free "max") rfl), z_min := He.free_ok X G (c.d.fact 75 (f := .free "min") rfl), z_range := He.free_ok X G (c.d.fact 76 (f := .free "range") rfl), z_str := He.free_ok X G (c.d.fact 77 (f := .free "str") rfl), z_tuple := He.free_ok X G (c.d.fact 78 (f := .free "tuple") rfl), fd_BadValue := fd_BadValue, F_BadValue := F_BadValue, fd_Broken := fd_Broken, F_Broken := F_Broken, fd_Unknown := fd_Unknown, F_Unknown := F_Unknown, fd_NotHeld := fd_NotHeld, F_NotHeld := F_NotHeld, fd_Fault := fd_Fault, F_Fault := F_Fault, fd_NoRoom := fd_NoRoom, F_NoRoom := F_NoRoom, fd_Cut := fd_Cut, F_Cut := F_Cut, fd_BadLine := fd_BadLine, F_BadLine := F_BadLine, x_BadValue := oexB_ok (c.ex 0 (e := fun K => oexB K (He.ga K "BadValue")) rfl), i_BadValue := of_decide_eq_true (c.ex 1 (e := fun K => decide (PySem.W.findIn K (.ref (He.ga K "BadValue")) "__init__" = some (some (.ref (He.ma K (He.ga K "BadValue") "__init__"))))) rfl), t_BadValue := of_decide_eq_true (c.ex 2 (e := fun K => decide (PySem.W.typeIn K (.ref (He.ma K (He.ga K "BadValue") "__init__")) = some (.type "function"))) rfl), n_BadValue_parameter := of_decide_eq_true (c.ex 3 (e := fun K => decide (PySem.W.findIn K (.ref (He.ga K "BadValue")) "parameter" = some none)) rfl), n_BadValue_told := of_decide_eq_true (c.ex 4 (e := fun K => decide (PySem.W.findIn K (.ref (He.ga K "BadValue")) "told" = some none)) rfl), f_BadValue := xfB_ok (c.ex 5 (e := fun K => xfB K (He.ga K "BadValue")) rfl), d_BadValue := excdB_ok (c.ex 6 (e := fun K => excdB K (He.ga K "BadValue")) rfl), m_BadValue := of_decide_eq_true (c.ex 7 (e := fun K => decide (PySem.W.exmOne K (.ref (He.ga K "BadValue")) (.ref (He.ga K "BadValue")) = some true)) rfl), k_ValueError := of_decide_eq_true (c.ex 8 (e := fun K => decide (PySem.W.kitOne K (.ref (He.ga K "BadValue")) (.type "ValueError") = some true)) rfl), k_StoreError := of_decide_eq_true (c.ex 9 (e := fun K => decide (PySem.W.kitOne K (.ref (He.ga K "BadValue")) (.ref (He.ga K "StoreError")) = some true)) rfl), k_BadValue := of_decide_eq_true (c.ex 10 (e := fun K => decide (PySem.W.kitOne K (.ref (He.ga K "BadValue")) (.ref (He.ga K "BadValue")) = some true)) rfl), k_Broken := of_decide_eq_true (c.ex 11 (e := fun K => decide (PySem.W.kitOne K (.ref (He.ga K "BadValue")) (.ref (He.ga K "Broken")) = some false)) rfl), k_Unknown := of_decide_eq_true (c.ex 12 (e := fun K => decide (PySem.W.kitOne K (.ref (He.ga K "BadValue")) (.ref (He.ga K "Unknown")) = some false)) rfl), k_NotHeld := of_decide_eq_true (c.ex 13 (e := fun K => decide (PySem.W.kitOne K (.ref (He.ga K "BadValue")) (.ref (He.ga K "NotHeld")) = some false)) rfl), k_Fault := of_decide_eq_true (c.ex 14 (e := fun K => decide (PySem.W.kitOne K (.ref (He.ga K "BadValue")) (.ref (He.ga K "Fault")) = some false)) rfl), k_NoRoom := of_decide_eq_true (c.ex 15 (e := fun K => decide (PySem.W.kitOne K (.ref (He.ga K "BadValue")) (.ref (He.ga K "NoRoom")) = some false)) rfl), k_Cut := of_decide_eq_true (c.ex 16 (e := fun K => decide (PySem.W.kitOne K (.ref (He.ga K "BadValue")) (.ref (He.ga K "Cut")) = some false)) rfl), k_BadLine := of_decide_eq_true (c.ex 17 (e := fun K => decide (PySem.W.kitOne K (.ref (He.ga K "BadValue")) (.ref (He.ga K "BadLine")) = some false)) rfl), v_BadValue := exvB_ok (c.ex 18 (e := fun K => exvB K "BadValue" ["parameter"] 0) rfl), v_Broken := exvB_ok (c.ex 19 (e := fun K => exvB K "Broken" ["place", "found", "due"] 1) rfl), v_Unknown := exvB_ok (c.ex 20 (e := fun K => exvB K "Unknown" ["parameter"] 2) rfl), v_NotHeld := exvB_ok (c.ex 21 (e := fun K => exvB K "NotHeld" ["place", "found"] 3) rfl), v_Fault := exvB_ok (c.ex 22 (e := fun K => exvB K "Fault" ["kind", "place"] 4) rfl), v_NoRoom := exvB_ok (c.ex 23 (e := fun K => exvB K "NoRoom" ["paper"] 5) rfl), v_Cut := exvB_ok (c.ex 24 (e := fun K => exvB K "Cut" ["needed", "left"] 6) rfl), v_BadLine := exvB_ok (c.ex 25 (e := fun K => exvB K "BadLine" ["line", "column"] 7) rfl) }⟩
theorem facts {P : Program} {w : World} {K : PySem.W.Frag} {h : Heap} {mg : Str → Option Value} {f : Addr} (X : K.In h) (G : h.Ns mainGlobals mg) (hfa : mg ("law" : Str) = some (.ref f)) (c : SaysY fa fn (fun K => exs.all fun e => e K) K) :
    ∃ fd : FuncData, (∀ (s : Shared) (v : Value), BindsTo s fd ⟨[v], []⟩ [("_law_script", v)]) ∧ ∀ base : Heap, K.In base → base.Ns mainGlobals mg → FnOk P w K mg base CX0 12 f fd ["_law_script"] (sp_law K) := by
  obtain ⟨T⟩ := tx_of X G c
  have e := hfa.symm.trans T.g_law
  cases e
  have b := FunD.bindsA (ps := ["_law_script"]) T.F_law fun _ _ _ _ _ _ us hl => match us, hl with | [_], _ => rfl
  exact ⟨T.fd_law, fun s v => b s [v] rfl, fun base _ _ => ok_law T⟩
end K00
open PySem PySem.W PySem.Calls PyProof.Rows
set_option maxHeartbeats 0 in
theorem PySem.Challenge.cw_allgivenback_k00_align_holds : PySem.Challenge.rw_allgivenback_k00_align.Holds := by
  w_on; o_law
  refine HandSHeadRun.head_any (r := OpenLaw.row PySem.Challenge.rw_allgivenback_k00_align) (q := view (OpenLaw.row PySem.Challenge.rw_allgivenback_k00_align).prog [70]) (H := K00.hk) (ob := K00.ob) (M := 4000) (loose := K00.names) (d := HandSHeadRun.topDef (OpenLaw.row PySem.Challenge.rw_allgivenback_k00_align).prog 70) (kwd := []) K00.ob_eq
    (by kernel_rfl) (fun s => by kernel_rfl) K00.run (by kernel_rfl) (by kernel_rfl) (by kernel_rfl) (by rfl) (by first | assumption | decide +kernel) (by decide +kernel) ⟨rfl, rfl, rfl, rfl, rfl, by decide +kernel⟩ ?hw ?hc
  case hw => w_witness2
  case hc =>
    refine L2.walk_ofE (l := PySem.Challenge.rw_allgivenback_k00_align) (n := 63) (k := 12) (x := "_law_script") (CX := L2.CX0) rfl (by decide) (by kernel_rfl) ⟨rfl, by decide, by decide⟩ ?F (fun _ _ _ _ z => z)
    intro w mg fa h Y G hmg0
    obtain ⟨K, KX, c⟩ := Y
    have hmg : mg ("law" : PySem.Str) = some (.ref fa) := by
      have e : (HandSHeadRun.topDef (OpenLaw.row PySem.Challenge.rw_allgivenback_k00_align).prog 70).name = ("law" : PySem.Str) := by kernel_rfl
      rw [← e]
      exact hmg0
    obtain ⟨fd, hb, hF⟩ := K00.facts (P := (PySem.Challenge.rw_allgivenback_k00_align).prog) (w := w) KX G hmg c
    exact ⟨K, fd, K00.sp_law K, KX, hb, fun H a ns hl _ hS => ⟨a, ns, rfl, hS, Nat.le_trans hl (by decide), fun _ => rfl⟩, hF⟩

