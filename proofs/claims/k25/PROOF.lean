import PyProof.Rows.All
import Wide.All
import OpenK.AllK
import Wide.FinOn
import HandS.ForExc
import HandS.Defaults
import HandS.Dict
import HandS.Comp
import HandS.Wide
import HandS.WideBits
import HandS.IsInst
import HandS.More
import HandS.WordsDict
import HandS.Text
import HandS.HeadHook1
import HandS.HeadHook2
import KE.KExcIs
import HandS.ExcInit
import HandS.ExcField
import HandS.HotCalls
import KE.KStateDown
import Lean
import HandS.Head0
import HandS.Head1
import HandS.Head2
import HandS.HeadEnd
import HandS.Iter
import HandS.Conv
import PySem.Challenge.RW_allgivenback_k25_shape
set_option Elab.async false
set_option linter.all false
set_option maxRecDepth 100000
set_option maxHeartbeats 4000000
namespace LL
open PySem PySem.Spec PyProof.Rows L2
section
variable {CX : CXT} {P : Program} {w : World} {K : PySem.W.Frag} {mg : Str → Option Value} {base : Heap} {N : List Str} {q : Str} {sc : Scope} {f : Addr} {cd : Value} {A : Around} {outer : List Env} {s : Shared} {H : Hp} {E : XK}
theorem cxK0 : (cxOf CX P w K mg base N q sc f cd A outer s H E).nox.K = K := rfl
theorem cxK1 : (cxOf CX P w K mg base N q sc f cd A outer s H E).K = K := rfl
end
theorem dec_eq {p : Prop} [Decidable p] : (decide p = true) = p := by simp
theorem bl_inj {a b : Bool} : (V.bl a = V.bl b) = (a = b) := by simp
theorem if_dec {p A B : Prop} [Decidable p] : (if decide p = true then A else B) = (if p then A else B) := by by_cases h : p <;> simp [h]
/-- what is told of a value that is written next to ∃ -/
theorem ex_eq {α : Sort _} {p : α → Prop} {a : α} : (∃ x, a = x ∧ p x) = p a := by simp
theorem ex_eq' {α : Sort _} {p : α → Prop} {a : α} : (∃ x, x = a ∧ p x) = p a := by simp

/-! ### heaps: all but s is kept -/
def Kp (s : Addr) (H H' : Hp) : Prop := ∀ b o, b ≠ s → H b = some o → H' b = some o
theorem Kp.refl {s : Addr} {H : Hp} : Kp s H H := fun _ _ _ h => h
theorem Kp.trans {s : Addr} {H H1 H2 : Hp} (a : Kp s H H1) (b : Kp s H1 H2) : Kp s H H2 := fun c o n h => b c o n (a c o n h)
theorem Kp.same {s : Addr} {H H' : Hp} (h : Same H H') : Kp s H H' := fun b o _ e => h b o e
theorem Kp.new {s : Addr} {H H1 : Hp} {p : Addr} {o : HO} (a : Kp s H H1) (n : H1 p = none) : Kp s H (upd H1 p o) := fun b u hb e => by
  have e1 := a b u hb e
  rw [upd_ne (ne_of_none e1 n)]
  exact e1
theorem Kp.at_ {s : Addr} {H H1 : Hp} {o : HO} (a : Kp s H H1) : Kp s H (upd H1 s o) := fun b u hb e => by
  rw [upd_ne hb]
  exact a b u hb e
/-- a thing that was not there at the start is changed -/
theorem Kp.own {s : Addr} {H H1 : Hp} {p : Addr} {o : HO} (a : Kp s H H1) (n : H p = none) : Kp s H (upd H1 p o) := fun b u hb e => by
  rw [upd_ne (ne_of_none e n)]
  exact a b u hb e
theorem Same.new {H H1 : Hp} {p : Addr} {o : HO} (a : Same H H1) (n : H1 p = none) : Same H (upd H1 p o) := fun b u e => by
  have e1 := a b u e
  rw [upd_ne (ne_of_none e1 n)]
  exact e1
theorem Same.own {H H1 : Hp} {p : Addr} {o : HO} (a : Same H H1) (n : H p = none) : Same H (upd H1 p o) := fun b u e => by
  rw [upd_ne (ne_of_none e n)]
  exact a b u e
theorem Kp.free {s : Addr} {H H' : Hp} (a : Kp s H H') {p : Addr} (hp : p ≠ s) (n : H' p = none) : H p = none := by
  cases e : H p with
  | none => rfl
  | some o =>
    rw [a p o hp e] at n
    cases n

/-! ### the draws -/
/-- the five numbers of the draws' state -/
def StAt (s : Addr) (H : Hp) : Prop := ∃ i v k t g : Int, 0 ≤ i ∧ H s = some (.lst [.int i, .int v, .int k, .int t, .int g])
structure Drw (d s : Addr) (H : Hp) : Prop where
  cs : ∃ c, H d = some (.lst [.ref c, .ref s]) ∧ c ≠ s ∧ ∃ ns : List Int, H c = some (.lst (ns.map V.int))
  st : StAt s H
  ds : d ≠ s
theorem Drw.kp {d s : Addr} {H H' : Hp} (D : Drw d s H) (k : Kp s H H') (st : StAt s H') : Drw d s H' := by
  obtain ⟨c, h1, h2, ns, h3⟩ := D.cs
  exact ⟨⟨c, k _ _ D.ds h1, h2, ns, k _ _ h2 h3⟩, st, D.ds⟩
/-- what a def that draws leaves: the draws are drawn on, all else is kept -/
structure Aft (d s : Addr) (H H' : Hp) : Prop where
  kp : Kp s H H'
  dr : Drw d s H'
theorem Aft.trans {d s : Addr} {H H1 H2 : Hp} (a : Aft d s H H1) (b : Aft d s H1 H2) : Aft d s H H2 := ⟨a.kp.trans b.kp, b.dr⟩
theorem Aft.refl {d s : Addr} {H : Hp} (D : Drw d s H) : Aft d s H H := ⟨.refl, D⟩
theorem Drw.same {d s : Addr} {H H' : Hp} (D : Drw d s H) (k : Same H H') : Drw d s H' := by
  obtain ⟨i, v, kk, t, g, h0, h1⟩ := D.st
  exact D.kp (.same k) ⟨i, v, kk, t, g, h0, k _ _ h1⟩
theorem Aft.new {d s : Addr} {H H1 : Hp} {p : Addr} {o : HO} (a : Aft d s H H1) (n : H1 p = none) : Aft d s H (upd H1 p o) :=
  ⟨a.kp.new n, a.dr.same (Same.new (Same.refl _) n)⟩

/-! ### small readings -/
theorem use_ixL {K : PySem.W.Frag} {p : Addr} {xs : List V} {i : Int} {v : V} {H : Hp} {Q : VK} (h : H p = some (.lst xs)) (e : atI xs i = some v) (q : Q v H) : rIxL K (.ref p) (.int i) H Q := ⟨p, xs, i, v, rfl, rfl, SqL.of h, e, q⟩
theorem use_ixT {K : PySem.W.Frag} {p : Addr} {xs : List V} {i : Int} {v : V} {H : Hp} {Q : VK} (h : H p = some (.tup xs)) (e : atI xs i = some v) (q : Q v H) : rIxT K (.ref p) (.int i) H Q := ⟨p, xs, i, v, rfl, rfl, SqT.of h, e, q⟩
theorem use_setL {p : Addr} {xs : List V} {k : Int} {j : Nat} {v : V} {H : Hp} {Q : Hp → Prop} (h : H p = some (.lst xs)) (e : ixN xs.length k = some j) (q : Q (upd H p (.lst (xs.set j v)))) : rSetL (.ref p) (.int k) v H Q := ⟨p, xs, k, j, rfl, rfl, h, e, q⟩
theorem Aft.st {d s : Addr} {H : Hp} (D : Drw d s H) {i v k t g : Int} (h0 : 0 ≤ i) : Aft d s H (upd H s (.lst [.int i, .int v, .int k, .int t, .int g])) :=
  have k1 : Kp s H (upd H s (.lst [.int i, .int v, .int k, .int t, .int g])) := Kp.refl.at_
  ⟨k1, D.kp k1 ⟨i, v, k, t, g, h0, upd_same⟩⟩
theorem Aft.st2 {d s : Addr} {H H1 : Hp} (a : Aft d s H H1) {i v k t g : Int} (h0 : 0 ≤ i) : Aft d s H (upd H1 s (.lst [.int i, .int v, .int k, .int t, .int g])) := a.trans (Aft.st a.dr h0)
theorem atI_cons0 {α : Type} {x : α} {xs : List α} : atI (x :: xs) 0 = some x := atI_nat (j := 0) rfl
theorem atI_int {xs : List Int} {i : Int} (h0 : 0 ≤ i) (h : i < (xs.map V.int).length) : ∃ n, atI (xs.map V.int) i = some (V.int n) := by
  obtain ⟨j, rfl⟩ := Int.eq_ofNat_of_zero_le h0
  have hj : j < (xs.map V.int).length := by omega
  have hj2 : j < xs.length := by rw [List.length_map] at hj; exact hj
  refine ⟨xs[j], atI_nat ?_⟩
  rw [List.getElem?_map, List.getElem?_eq_getElem hj2]
  rfl
/-! ### calls of built-ins, by ints and lists alone -/
section
variable {X : Cx}
def rInt1 : List V → Hp → VK → Prop := fun xs H Q => ∃ i, xs = [.int i] ∧ Q (.int i) H
theorem call_intI : CallR X (.type "int") rInt1 := fun pins s σ H xs us Q I r h => call_int1 pins s σ H xs us Q I r (.inl h)
def rLenL : List V → Hp → VK → Prop := fun vs H Q => ∃ p xs, vs = [.ref p] ∧ H p = some (.lst xs) ∧ Q (.int xs.length) H
theorem call_lenL : CallR X (.builtin "len") rLenL := fun pins s σ H vs us Q I r h => by
  obtain ⟨p, xs, rfl, e, q⟩ := h
  exact call_len_seq pins s σ H _ us Q I r ⟨p, xs, rfl, .inl (SqL.of e), q⟩
def rLenT : List V → Hp → VK → Prop := fun vs H Q => ∃ p xs, vs = [.ref p] ∧ H p = some (.tup xs) ∧ Q (.int xs.length) H
theorem call_lenT : CallR X (.builtin "len") rLenT := fun pins s σ H vs us Q I r h => by
  obtain ⟨p, xs, rfl, e, q⟩ := h
  exact call_len_seq pins s σ H _ us Q I r ⟨p, xs, rfl, .inr (SqT.of e), q⟩
end
theorem use_lenL {p : Addr} {xs : List V} {H : Hp} {Q : VK} (h : H p = some (.lst xs)) (q : Q (.int xs.length) H) : rLenL [.ref p] H Q := ⟨p, xs, rfl, h, q⟩
theorem use_lenT {p : Addr} {xs : List V} {H : Hp} {Q : VK} (h : H p = some (.tup xs)) (q : Q (.int xs.length) H) : rLenT [.ref p] H Q := ⟨p, xs, rfl, h, q⟩
/-! ### loops -/
theorem use_forL {K : PySem.W.Frag} {te : TE} {a : Addr} {xs : List V} {g : TG} {tb : TS} {D : Ends} {σ : L2.St} {H : Hp} (ht : ∀ Q : VK, Q (.ref a) H → te σ H Q) (Pv : Nat → L2.St → Hp → Prop) (h0 : Pv 0 σ H) (hl : ∀ i σ H, i ≤ xs.length → Pv i σ H → SqL K H a xs)
    (hs : ∀ i x σ H, xs[i]? = some x → Pv i σ H → g x σ H fun σ2 H2 => tb { D with nx := Pv (i + 1), ct := Pv (i + 1), bk := D.nx } σ2 H2) (hd : ∀ σ H, Pv xs.length σ H → D.nx σ H) : tFor (iList K te) g tb D σ H :=
  ht _ ⟨a, rfl, ⟨xs, hl 0 σ H (Nat.zero_le _) h0⟩, for_list Pv h0 hl hs hd⟩
theorem use_forR {te : TE} {j : Int} {g : TG} {tb : TS} {D : Ends} {σ : L2.St} {H : Hp} (ht : ∀ Q : VK, Q (.int j) H → te σ H Q) (h1 : j < 2 ^ 62) (h2 : -(2 ^ 62) ≤ j) (Pv : Nat → L2.St → Hp → Prop) (h0 : Pv 0 σ H)
    (hs : ∀ i σ H, i < j.toNat → Pv i σ H → g (.int (0 + (i : Int))) σ H fun σ2 H2 => tb { D with nx := Pv (i + 1), ct := Pv (i + 1), bk := D.nx } σ2 H2) (hd : ∀ σ H, Pv j.toNat σ H → D.nx σ H) : tFor (iRng1 (tCons te tNil)) g tb D σ H :=
  ht _ ⟨j, rfl, h2, h1, for_range Pv h0 hs hd⟩
theorem use_while {c : TT} {tb : TS} {D : Ends} {σ : L2.St} {H : Hp} (Pv : Nat → L2.St → Hp → Prop) (m0 : Nat) (h0 : Pv m0 σ H)
    (hs : ∀ m σ H, Pv m σ H → c σ H fun b H1 => if b = true then ∃ N : L2.St → Hp → Prop, (∀ σ' H', N σ' H' → ∃ m', m' < m ∧ Pv m' σ' H') ∧ tb { D with nx := N, ct := N, bk := D.nx } σ H1 else D.nx σ H1) : tWhile c tb D σ H := ⟨Pv, ⟨m0, h0⟩, hs⟩
theorem use_forRX {te : TE} {g : TG} {tb : TS} {D : Ends} {σ : L2.St} {H : Hp} {R : Int → Hp → Prop} (ht : ∀ Q : VK, (∀ j H', R j H' → Q (.int j) H') → te σ H Q) (hb : ∀ j H', R j H' → -(2 ^ 62) ≤ j ∧ j < 2 ^ 62) (Pv : Int → Nat → L2.St → Hp → Prop) (h0 : ∀ j H', R j H' → Pv j 0 σ H')
    (hs : ∀ j i σ H, i < j.toNat → Pv j i σ H → g (.int (0 + (i : Int))) σ H fun σ2 H2 => tb { D with nx := Pv j (i + 1), ct := Pv j (i + 1), bk := D.nx } σ2 H2) (hd : ∀ j σ H, Pv j j.toNat σ H → D.nx σ H) : tFor (iRng1 (tCons te tNil)) g tb D σ H :=
  ht _ fun j H' r => ⟨j, rfl, (hb j H' r).1, (hb j H' r).2, for_range (Pv j) (h0 j H' r) (hs j) (hd j)⟩
theorem use_forLX {K : PySem.W.Frag} {te : TE} {g : TG} {tb : TS} {D : Ends} {σ : L2.St} {H : Hp} {R : Addr → List V → Hp → Prop} (ht : ∀ Q : VK, (∀ a xs H', R a xs H' → Q (.ref a) H') → te σ H Q) (Pv : Addr → List V → Nat → L2.St → Hp → Prop) (h0 : ∀ a xs H', R a xs H' → Pv a xs 0 σ H')
    (hl : ∀ a xs i σ H, i ≤ xs.length → Pv a xs i σ H → SqL K H a xs)
    (hs : ∀ a xs i x σ H, xs[i]? = some x → Pv a xs i σ H → g x σ H fun σ2 H2 => tb { D with nx := Pv a xs (i + 1), ct := Pv a xs (i + 1), bk := D.nx } σ2 H2) (hd : ∀ a xs σ H, Pv a xs xs.length σ H → D.nx σ H) : tFor (iList K te) g tb D σ H :=
  ht _ fun a xs H' r => ⟨a, rfl, ⟨xs, hl a xs 0 σ H' (Nat.zero_le _) (h0 a xs H' r)⟩, for_list (Pv a xs) (h0 a xs H' r) (hl a xs) (hs a xs) (hd a xs)⟩
/-! ### plain data -/
inductive T where
  | non | bl (b : Bool) | int (i : Int) | str (x : Str) | lst (ts : List T) | tup (ts : List T) | dic (t : T)
/-! v is the data t, every object of which is at an address of F -/
mutual
def Dt (F : Addr → Prop) (H : Hp) : V → T → Prop
  | v, .non => v = .non
  | v, .bl b => v = .bl b
  | v, .int i => v = .int i
  | v, .str x => v = .str x
  | v, .lst ts => ∃ a xs, v = .ref a ∧ F a ∧ H a = some (.lst xs) ∧ DtL F H xs ts ∧ ts.length ≤ 100000
  | v, .tup ts => ∃ a xs, v = .ref a ∧ F a ∧ H a = some (.tup xs) ∧ DtL F H xs ts ∧ ts.length ≤ 100000
  | v, .dic t => ∃ a x, v = .ref a ∧ F a ∧ H a = some (.dK [(Sum.inr "a", x)]) ∧ Dt F H x t
def DtL (F : Addr → Prop) (H : Hp) : List V → List T → Prop
  | xs, [] => xs = []
  | xs, t :: ts => ∃ v vs, xs = v :: vs ∧ Dt F H v t ∧ DtL F H vs ts
end
mutual
def dep : T → Nat
  | .lst ts => depL ts + 1
  | .tup ts => depL ts + 1
  | .dic t => dep t + 1
  | _ => 0
def depL : List T → Nat
  | [] => 0
  | t :: ts => max (dep t) (depL ts)
end
section
variable {F G : Addr → Prop} {H H' : Hp}
mutual
theorem Dt.imp (hF : ∀ a o, F a → H a = some o → G a ∧ H' a = some o) : ∀ {v : V} (t : T), Dt F H v t → Dt G H' v t
  | _, .non, h => h
  | _, .bl _, h => h
  | _, .int _, h => h
  | _, .str _, h => h
  | _, .lst ts, h => by
    obtain ⟨a, xs, e, f, ha, hx, hz⟩ := h
    exact ⟨a, xs, e, (hF a _ f ha).1, (hF a _ f ha).2, DtL.imp hF ts hx, hz⟩
  | _, .tup ts, h => by
    obtain ⟨a, xs, e, f, ha, hx, hz⟩ := h
    exact ⟨a, xs, e, (hF a _ f ha).1, (hF a _ f ha).2, DtL.imp hF ts hx, hz⟩
  | _, .dic t, h => by
    obtain ⟨a, x, e, f, ha, hx⟩ := h
    exact ⟨a, x, e, (hF a _ f ha).1, (hF a _ f ha).2, Dt.imp hF t hx⟩
theorem DtL.imp (hF : ∀ a o, F a → H a = some o → G a ∧ H' a = some o) : ∀ {xs : List V} (ts : List T), DtL F H xs ts → DtL G H' xs ts
  | _, [], h => h
  | _, t :: ts, h => by
    obtain ⟨v, vs, e, h1, h2⟩ := h
    exact ⟨v, vs, e, Dt.imp hF t h1, DtL.imp hF ts h2⟩
end
theorem Dt.same {v : V} {t : T} (h : Dt F H v t) (k : Same H H') : Dt F H' v t := Dt.imp (fun a o f e => ⟨f, k a o e⟩) t h
theorem DtL.same {v : List V} {t : List T} (h : DtL F H v t) (k : Same H H') : DtL F H' v t := DtL.imp (fun a o f e => ⟨f, k a o e⟩) t h
theorem Dt.kp {s : Addr} {v : V} {t : T} (h : Dt F H v t) (hs : ∀ a, F a → a ≠ s) (k : Kp s H H') : Dt F H' v t := Dt.imp (fun a o f e => ⟨f, k a o (hs a f) e⟩) t h
theorem DtL.kp {s : Addr} {v : List V} {t : List T} (h : DtL F H v t) (hs : ∀ a, F a → a ≠ s) (k : Kp s H H') : DtL F H' v t := DtL.imp (fun a o f e => ⟨f, k a o (hs a f) e⟩) t h
theorem Dt.to {v : V} {t : T} (h : Dt F H v t) (hs : ∀ a, F a → G a) : Dt G H v t := Dt.imp (fun a o f e => ⟨hs a f, e⟩) t h
theorem DtL.to {v : List V} {t : List T} (h : DtL F H v t) (hs : ∀ a, F a → G a) : DtL G H v t := DtL.imp (fun a o f e => ⟨hs a f, e⟩) t h
theorem DtL.len : ∀ {xs : List V} (ts : List T), DtL F H xs ts → xs.length = ts.length
  | _, [], h => by rw [show _ = [] from h]; rfl
  | _, t :: ts, h => by
    obtain ⟨v, vs, rfl, h1, h2⟩ := h
    rw [List.length_cons, List.length_cons, DtL.len ts h2]
theorem DtL.get : ∀ {xs : List V} (ts : List T) {i : Nat} {x : V}, DtL F H xs ts → xs[i]? = some x → ∃ t, ts[i]? = some t ∧ Dt F H x t
  | _, [], _, _, h, e => by rw [show _ = [] from h] at e; cases e
  | _, t :: ts, 0, x, h, e => by
    obtain ⟨v, vs, rfl, h1, h2⟩ := h
    cases e
    exact ⟨t, rfl, h1⟩
  | _, t :: ts, i + 1, x, h, e => by
    obtain ⟨v, vs, rfl, h1, h2⟩ := h
    exact DtL.get ts (i := i) h2 e
theorem DtL.get' {xs : List V} {ts : List T} {i : Nat} {t : T} (h : DtL F H xs ts) (e : ts[i]? = some t) : ∃ x, xs[i]? = some x ∧ Dt F H x t := by
  have hi := (List.getElem?_eq_some_iff.mp e).1
  have hx : i < xs.length := by rw [DtL.len ts h]; exact hi
  obtain ⟨t', e', d⟩ := DtL.get ts h (List.getElem?_eq_getElem hx)
  rw [e] at e'
  cases e'
  exact ⟨_, List.getElem?_eq_getElem hx, d⟩
theorem DtL.app : ∀ {xs ys : List V} (ts : List T) {us : List T}, DtL F H xs ts → DtL F H ys us → DtL F H (xs ++ ys) (ts ++ us)
  | _, _, [], _, h, k => by rw [show _ = [] from h]; exact k
  | _, _, t :: ts, _, h, k => by
    obtain ⟨v, vs, rfl, h1, h2⟩ := h
    exact ⟨v, vs ++ _, rfl, h1, DtL.app ts h2 k⟩
theorem DtL.one {v : V} {t : T} (h : Dt F H v t) : DtL F H [v] [t] := ⟨v, [], rfl, h, rfl⟩
theorem DtL.cons {v : V} {t : T} {vs : List V} {ts : List T} (h : Dt F H v t) (k : DtL F H vs ts) : DtL F H (v :: vs) (t :: ts) := ⟨v, vs, rfl, h, k⟩
theorem depL_mem : ∀ {ts : List T} {i : Nat} {t : T}, ts[i]? = some t → dep t ≤ depL ts
  | [], _, _, e => by cases e
  | u :: ts, 0, t, e => by
    cases e
    exact Nat.le_max_left _ _
  | u :: ts, i + 1, t, e => Nat.le_trans (depL_mem (ts := ts) (i := i) e) (Nat.le_max_right _ _)
end
/-! ### what kind of data it is -/
def tyN : T → String
  | .non => "NoneType"
  | .bl _ => "bool"
  | .int _ => "int"
  | .str _ => "str"
  | .lst _ => "list"
  | .tup _ => "tuple"
  | .dic _ => "dict"
theorem tyx {K : PySem.W.Frag} {F : Addr → Prop} {H : Hp} {v : V} {t : T} (h : Dt F H v t) : TyX K H v (.type (tyN t)) := by
  cases t with
  | non => rw [show v = _ from h]; exact .base .non
  | bl b => rw [show v = _ from h]; exact .base (.bl b)
  | int i => rw [show v = _ from h]; exact .base (.int i)
  | str x => rw [show v = _ from h]; exact .base (.str x)
  | lst ts =>
    obtain ⟨a, xs, rfl, _, e, _⟩ := h
    exact .base (.lst e)
  | tup ts =>
    obtain ⟨a, xs, rfl, _, e, _⟩ := h
    exact .base (.tup e)
  | dic t =>
    obtain ⟨a, x, rfl, _, e, _⟩ := h
    exact .base (.dK e)
theorem use_isi {K : PySem.W.Frag} {F : Addr → Prop} {H : Hp} {v : V} {t : T} {n : String} {b : Bool} {Q : VK} (h : Dt F H v t) (k : kitB (tyN t) n = some b) (q : Q (.bl b) H) : rIsi K [v, .ty n] H Q :=
  ⟨v, .ty n, _, _, b, rfl, .ty n, tyx h, kit_ty k, q⟩
def isInt : T → Bool
  | .int _ => true
  | _ => false
def isBl : T → Bool
  | .bl _ => true
  | _ => false
def isStr : T → Bool
  | .str _ => true
  | _ => false
def isLst : T → Bool
  | .lst _ => true
  | _ => false
def isTup : T → Bool
  | .tup _ => true
  | _ => false
def isDic : T → Bool
  | .dic _ => true
  | _ => false
theorem kit_int (t : T) : kitB (tyN t) "int" = some (isInt t || isBl t) := by
  cases t <;> simp only [tyN, isInt, isBl, isStr, isLst, isTup, isDic] <;> decide +kernel
theorem kit_bool (t : T) : kitB (tyN t) "bool" = some (isBl t) := by
  cases t <;> simp only [tyN, isInt, isBl, isStr, isLst, isTup, isDic] <;> decide +kernel
theorem kit_str (t : T) : kitB (tyN t) "str" = some (isStr t) := by
  cases t <;> simp only [tyN, isInt, isBl, isStr, isLst, isTup, isDic] <;> decide +kernel
theorem kit_list (t : T) : kitB (tyN t) "list" = some (isLst t) := by
  cases t <;> simp only [tyN, isInt, isBl, isStr, isLst, isTup, isDic] <;> decide +kernel
theorem kit_tuple (t : T) : kitB (tyN t) "tuple" = some (isTup t) := by
  cases t <;> simp only [tyN, isInt, isBl, isStr, isLst, isTup, isDic] <;> decide +kernel
theorem kit_dict (t : T) : kitB (tyN t) "dict" = some (isDic t) := by
  cases t <;> simp only [tyN, isInt, isBl, isStr, isLst, isTup, isDic] <;> decide +kernel
section
variable {X : Cx}
/-- len of a list, a tuple, a dict -/
def rLenD : List V → Hp → VK → Prop := fun vs H Q => ∃ p kvs, vs = [.ref p] ∧ H p = some (.dK kvs) ∧ Q (.int kvs.length) H
def rLenA : List V → Hp → VK → Prop := fun vs H Q => rLenL vs H Q ∨ rLenT vs H Q ∨ rLenD vs H Q
theorem call_lenA : CallR X (.builtin "len") rLenA := fun pins s σ H vs us Q I r h => by
  rcases h with h | h | h
  · exact call_lenL pins s σ H vs us Q I r h
  · exact call_lenT pins s σ H vs us Q I r h
  · obtain ⟨p, kvs, rfl, e, q⟩ := h
    exact call_lenD pins s σ H _ us Q I r ⟨p, kvs, rfl, e, q⟩
/-- list(d), a dict -/
def rLstD : List V → Hp → VK → Prop := fun vs H Q => ∃ p kvs, vs = [.ref p] ∧ H p = some (.dK kvs) ∧ ∀ l, H l = none → Q (.ref l) (upd H l (.lst (kvs.map fun kv => kV kv.1)))
theorem call_lstD (hc : X.calm = true) : CallR X (.type "list") rLstD := fun pins s σ H vs us Q I r h => by
  obtain ⟨p, kvs, rfl, e, q⟩ := h
  exact call_listD hc pins s σ H _ us Q I r ⟨p, kvs, rfl, .inl e, q⟩
/-- tuple(list) -/
def rTupL : List V → Hp → VK → Prop := fun vs H Q => ∃ p ys, vs = [.ref p] ∧ H p = some (.lst ys) ∧ ∀ l, H l = none → Q (.ref l) (upd H l (.tup ys))
theorem call_tupL : CallR X (.type "tuple") rTupL := fun pins s σ H vs us Q I r h => by
  obtain ⟨p, ys, rfl, e, q⟩ := h
  exact call_tuple_of pins s σ H _ us Q I r ⟨p, ys, rfl, .inl ⟨SqL.of e, q⟩⟩
/-- xs[i], a list or a tuple -/
def rIxA (K : PySem.W.Frag) : R2 := fun x y H Q => rIxL K x y H Q ∨ rIxT K x y H Q
theorem ix_A : IxR X (rIxA X.K) := ix_list.or ix_tup
end
theorem use_pick {K : PySem.W.Frag} {p : Addr} {xs : List V} {i : Int} {H : Hp} {Q : VK} (h : H p = some (.lst xs)) (h0 : 0 ≤ i) (h1 : i < xs.length) (q : ∀ x ∈ xs, Q x H) : rIxL K (.ref p) (.int i) H Q := by
  obtain ⟨j, rfl⟩ := Int.eq_ofNat_of_zero_le h0
  have hj : j < xs.length := by omega
  exact use_ixL h (atI_nat (List.getElem?_eq_getElem hj)) (q _ (List.getElem_mem hj))
section
variable {X : Cx}
def rMx : List V → Hp → VK → Prop := fun vs H Q => ∃ i j, vs = [.int i, .int j] ∧ Q (.int (max i j)) H
def rMn : List V → Hp → VK → Prop := fun vs H Q => ∃ i j, vs = [.int i, .int j] ∧ Q (.int (min i j)) H
theorem call_mx (hc : X.calm = true) : CallR X (.builtin "max") rMx := fun pins s σ H vs us Q I r h => by
  obtain ⟨i, j, rfl, q⟩ := h
  refine call_max2 hc pins s σ H _ us Q I r ⟨i, j, rfl, ?_⟩
  have e : (if j > i then j else i) = max i j := by omega
  rw [e]
  exact q
theorem call_mn (hc : X.calm = true) : CallR X (.builtin "min") rMn := fun pins s σ H vs us Q I r h => by
  obtain ⟨i, j, rfl, q⟩ := h
  refine call_min2 hc pins s σ H _ us Q I r ⟨i, j, rfl, ?_⟩
  have e : (if j < i then j else i) = min i j := by omega
  rw [e]
  exact q
end
theorem freshS {s : Addr} {H : Hp} {o : HO} (h : H s = some o) : ∀ a, H a = none → a ≠ s := fun a e z => by
  rw [z, h] at e
  cases e
theorem StAt.ne {s : Addr} {H : Hp} (h : StAt s H) : ∀ a, H a = none → a ≠ s := by
  obtain ⟨_, _, _, _, _, _, e⟩ := h
  exact freshS e
theorem Drw.ne {d s : Addr} {H : Hp} (h : Drw d s H) : ∀ a, H a = none → a ≠ s := h.st.ne
theorem Aft.free {d s : Addr} {H H' : Hp} (a : Aft d s H H') {b : Addr} (n : H' b = none) : H b = none := a.kp.free (a.dr.ne b n) n
theorem use_forT {K : PySem.W.Frag} {te : TE} {a : Addr} {xs : List V} {g : TG} {tb : TS} {D : Ends} {σ : L2.St} {H : Hp} (ht : ∀ Q : VK, Q (.ref a) H → te σ H Q) (Pv : Nat → L2.St → Hp → Prop) (h0 : Pv 0 σ H) (hl : ∀ i σ H, i ≤ xs.length → Pv i σ H → SqT K H a xs)
    (hs : ∀ i x σ H, xs[i]? = some x → Pv i σ H → g x σ H fun σ2 H2 => tb { D with nx := Pv (i + 1), ct := Pv (i + 1), bk := D.nx } σ2 H2) (hd : ∀ σ H, Pv xs.length σ H → D.nx σ H) : tFor (iTup K te) g tb D σ H :=
  ht _ ⟨a, rfl, ⟨xs, hl 0 σ H (Nat.zero_le _) h0⟩, for_tup Pv h0 hl hs hd⟩
theorem scal_int {a b : Int} : (scal (V.int a) (V.int b) = true) = True := by simp [scal]
theorem scal_bl {a b : Bool} : (scal (V.bl a) (V.bl b) = true) = True := by simp [scal]
theorem scal_str {a b : Str} : (scal (V.str a) (V.str b) = true) = True := by simp [scal]
theorem scal_is {a : Int} {b : Str} : (scal (V.str b) (V.int a) = true) = True := by simp [scal]
theorem ty_list {K : PySem.W.Frag} {p : Addr} {xs : List V} {H : Hp} (h : H p = some (.lst xs)) : tyV K "list" (.ref p) H := Or.inl ⟨rfl, _, Or.inl (Or.inl h)⟩
theorem use_append {l : Addr} {xs : List V} {y : V} {H : Hp} {Q : VK} (h : H l = some (.lst xs)) (n : xs.length < sizeLine) (q : Q .non (upd H l (.lst (xs ++ [y])))) : rAppend (.ref l) [y] H Q := ⟨l, xs, y, rfl, rfl, h, n, q⟩
theorem small_sz {n : Nat} (h : n ≤ 200000) : n < sizeLine := Nat.lt_of_le_of_lt h (by decide)
/-- a list at D that is being made gets one more datum -/
theorem grow {G : Addr → Prop} {H H' H4 : Hp} {D : Addr} {acc : List V} {us : List T} {r : V} {t : T} (hD : H D = none) (s1 : Same H H') (s4 : Same H' H4) (hacc : DtL (fun a => H a = none ∧ a ≠ D) H' acc us) (hG : ∀ a, G a → H a = none ∧ a ≠ D) (dr : Dt G H4 r t) :
    Same H (upd H4 D (.lst (acc ++ [r]))) ∧ DtL (fun a => H a = none ∧ a ≠ D) (upd H4 D (.lst (acc ++ [r]))) (acc ++ [r]) (us ++ [t]) := by
  refine ⟨Same.own (s1.trans s4) hD, DtL.app _ (DtL.imp (fun a o fa ea => ⟨fa, ?_⟩) _ hacc) (.one (Dt.imp (fun a o fa ea => ⟨hG a fa, ?_⟩) _ dr))⟩
  · rw [upd_ne fa.2]
    exact s4 _ _ ea
  · rw [upd_ne (hG a fa).2]
    exact ea
theorem new_of {H H' : Hp} {D : Addr} {o : HO} (s1 : Same H H') (eD : H' D = some o) : ∀ a, H' a = none → H a = none ∧ a ≠ D := fun a n => ⟨s1.free n, fun z => by rw [z, eD] at n; cases n⟩
theorem take_one {α : Type} {l : List α} {i : Nat} {x : α} (h : l[i]? = some x) : l.take (i + 1) = l.take i ++ [x] := by
  rw [List.take_add_one, h]
  rfl
theorem use_lcR {te tel : TE} {g : TG} {vs : List Nat} {σ : L2.St} {H : Hp} {Q : VK} {R : Int → Hp → Prop} (ht : ∀ Q : VK, (∀ j H', R j H' → Q (.int j) H') → te σ H Q) (hb : ∀ j H', R j H' → -(2 ^ 62) ≤ j ∧ j < 2 ^ 62) (Pv : Int → Addr → Nat → Hp → Prop)
    (h0 : ∀ j H' D, R j H' → H' D = none → Pv j D 0 (upd H' D (.lst [])))
    (hs : ∀ j D i H', i < j.toNat → Pv j D i H' → g (.int (0 + (i : Int))) (wipe σ vs) H' fun σ2 H2 => wipe σ2 vs = wipe σ vs ∧ tYes σ2 H2 fun b H3 => if b = true then tel σ2 H3 fun y H4 => ∃ acc, H4 D = some (.lst acc) ∧ acc.length < sizeLine ∧ Pv j D (i + 1) (upd H4 D (.lst (acc ++ [y]))) else Pv j D (i + 1) H3)
    (hd : ∀ j D H', Pv j D j.toNat H' → Q (.ref D) H') : tLc (iRng1 (tCons te tNil)) g tYes tel vs σ H Q :=
  ht _ fun j H' r => ⟨j, rfl, (hb j H' r).1, (hb j H' r).2, fun D hD => lc_range (Pv j D) (h0 j H' D r hD) (hs j D) (hd j D)⟩
theorem Aft.own {d s : Addr} {H H4 : Hp} {D : Addr} {o : HO} (D0 : Drw d s H) (a : Aft d s H H4) (hD : H D = none) : Aft d s H (upd H4 D o) := by
  have k : Kp s H (upd H4 D o) := a.kp.own hD
  obtain ⟨i, v, kk, t, g, h0, e⟩ := a.dr.st
  exact ⟨k, D0.kp k ⟨i, v, kk, t, g, h0, by rw [upd_ne (D0.ne D hD).symm]; exact e⟩⟩
/-- a list at D that is being made while something is drawn gets one more datum -/
theorem growA {G : Addr → Prop} {d s : Addr} {H H' H4 : Hp} {D : Addr} {acc : List V} {us : List T} {r : V} {t : T} (D0 : Drw d s H) (hD : H D = none) (a1 : Aft d s H H') (a4 : Aft d s H' H4) (hacc : DtL (fun a => H a = none ∧ a ≠ D) H' acc us) (hG : ∀ a, G a → H a = none ∧ a ≠ D) (dr : Dt G H4 r t) :
    Aft d s H (upd H4 D (.lst (acc ++ [r]))) ∧ DtL (fun a => H a = none ∧ a ≠ D) (upd H4 D (.lst (acc ++ [r]))) (acc ++ [r]) (us ++ [t]) := by
  refine ⟨Aft.own D0 (a1.trans a4) hD, DtL.app _ (DtL.imp (fun a o fa ea => ⟨fa, ?_⟩) _ hacc) (.one (Dt.imp (fun a o fa ea => ⟨hG a fa, ?_⟩) _ dr))⟩
  · rw [upd_ne fa.2]
    exact a4.kp _ _ (D0.ne a fa.1) ea
  · rw [upd_ne (hG a fa).2]
    exact ea
theorem new_ofA {d s : Addr} {H H' : Hp} {D : Addr} {o : HO} (a : Aft d s H H') (eD : H' D = some o) : ∀ b, H' b = none → H b = none ∧ b ≠ D := fun b n => ⟨a.free n, fun z => by rw [z, eD] at n; cases n⟩
theorem depL_app : ∀ (ts us : List T), depL (ts ++ us) = max (depL ts) (depL us)
  | [], us => by simp [depL]
  | t :: ts, us => by
    show max (dep t) (depL (ts ++ us)) = max (max (dep t) (depL ts)) (depL us)
    rw [depL_app ts us]
    omega
end LL

namespace LL
open PySem PySem.Spec PyProof.Rows L2 L2H
/-! ### defs that are called within an except suite, on the exception that it holds -/
/-- a: the exception, D its class, dd its dict -/
structure FnZ (P : Program) (w : World) (K : PySem.W.Frag) (mg : Str → Option Value) (base : Heap) (k : Nat) (f : Addr) (fd : FuncData) (ps : List Str) (sp : Addr → Addr → Addr → Sp) : Prop where
  len : ∀ a D dd vs H Q E, sp a D dd vs H Q E → vs.length = ps.length
  run : ∀ (A : Around) (outer : List Env) (s : Shared) (H : Hp) (args : Args) (us : List Value) (vs : List V) (Q : VK) (E : XK) (p : Addr × Obj) (D dd : Addr),
    RoomH k A → Zc (.ref D) (some dd) p.2 → (∃ fs, p.2.data = .fields fs) → PinOk outer H s p → Env0 P w K mg base A outer s H → BindsTo s fd args (ps.zip us) → Vals vs us → sp p.1 D dd vs H Q E →
    codeAny (model P w) A (.call (.ref f) args) (CR CX0 outer P w H s Q E) s
section
variable {P : Program} {w : World} {K : PySem.W.Frag} {mg : Str → Option Value} {base : Heap} {k : Nat} {f : Addr} {fd : FuncData} {N ps : List Str} {sp : Addr → Addr → Addr → Sp} {x qual : Str} {pa : Arguments} {bd : List Stmt} {sc : Scope} {kws : List (Str × V)}
theorem okZ (F : FunD K x qual pa bd sc [] kws f fd) (S : FnScope N ps sc) (len : ∀ a D dd vs H Q E, sp a D dd vs H Q E → vs.length = ps.length)
    (hb : ∀ (cdv : Value) (A : Around) (outer : List Env) (s : Shared) (H : Hp) (vs : List V) (Q : VK) (E : XK) (p : Addr × Obj) (D dd : Addr), RoomH k (A.deeper (envOfC qual sc s.heap.objs.size f cdv)) →
      Zc (.ref D) (some dd) p.2 → (∃ fs, p.2.data = .fields fs) → sp p.1 D dd vs H Q E →
      ∃ t, PSs (cxH CX0 P w K mg base N qual sc f cdv A outer s H E p) bd t ∧ t { nx := fun _ H' => Q .non H', rt := Q } (L2.start N vs) H) : FnZ P w K mg base (k + 1) f fd ps sp := by
  obtain ⟨oc, od, dV, kV, doc, pm, an, cdv, ct, osl, rfl, lk, hcd, _, _⟩ := F.ex
  constructor
  · exact len
  · intro A outer s H args us vs Q E p D dd hr hz hf hpin e0 hbi r hsp
    have KX : K.In s.heap := e0.mod.kin.keeps (fun b o e => (e0.bs b o e).1)
    have lim : s.heap.NoLimit := e0.mod.nolimit.keeps (fun b o e => (e0.bs b o e).1)
    have hl : vs.length = ps.length := len _ _ _ _ _ _ _ hsp
    refine codeAny_call_function hr.depth (KX _ _ lk) rfl S.co S.gen rfl (PySem.W.codeRec_of KX hcd) (hbi _ _ _ _ (wpAny_newFunctionEnv_cells S.kind ?_ ?_))
    · rintro ⟨n, v⟩ hy
      cases S.par n (List.of_mem_zip hy).1 with
      | inl q => exact Or.inl q
      | inr q => exact Or.inr ⟨q, PySem.W.cellsFrom_some _ _ _ (Or.inl q)⟩
    · rintro env he s1 xx
      subst he
      obtain ⟨t, ht, hq⟩ := hb cdv A outer s H vs Q E p D dd (hr.deeper _) hz hf hsp
      have I := inv_startH (CX := CX0) (E := E) S hpin e0 hl r xx
      refine ⟨lim.keeps xx.toInCall.keep, codeAny_func (wpAny_mono (ht.run [] s1 _ H _ I hq) ?_ (fun e s' hs => hs))⟩
      intro fl s' hs
      cases fl with
      | ret u =>
        obtain ⟨v, σ', H', J, rv, q⟩ := hs
        exact ⟨v, H', J.os, J.bare, J.base, J.hok, rv, q⟩
      | next =>
        obtain ⟨σ', H', J, q⟩ := hs
        exact ⟨.non, H', J.os, J.bare, J.base, J.hok, rfl, q⟩
      | brk =>
        obtain ⟨_, _, _, q⟩ := hs
        exact q.elim
      | cont =>
        obtain ⟨_, _, _, q⟩ := hs
        exact q.elim
end
/-- f(e, ..) within the suite that holds the exception a -/
def tCallZ (cls : Value) (d : Option Addr) (a : Addr) (sp : Addr → Addr → Addr → Sp) (t : TA) : TE := fun σ H Q => t σ H fun vs H1 => ∃ D dd : Addr, cls = .ref D ∧ d = some dd ∧ sp a D dd vs H1 Q E0
theorem pe_callZ {X : Cx} {k : Nat} {f a : Addr} {fd : FuncData} {ps : List Str} {sp : Addr → Addr → Addr → Sp} {x : Str} {q pos : Pos} {e : Expr} {es : List Expr} {t : TA} {oe : Obj} {cls : Value} {d : Option Addr} {pn : List (Addr × Obj)}
    (F : FnZ X.prog X.w X.K X.mg X.base k f fd ps sp) (hr : Room k X.A) (hz : Zc cls d oe) (hf : ∃ fs, oe.data = .fields fs) (hg : Gl X x) (hm : X.mg x = some (.ref f)) (hk : PySem.W.keepIn X.K (.ref f) = true) (hb : Binds X.K fd ps [])
    (ha : PA (X.suite a ((a, oe) :: pn)) (e :: es) t) (hdb : (x == ("__debug__" : Str)) = false := by decide) (he : starEach (e :: es) X.env = (false, eval e X.env) :: starEach es X.env := by rfl) (hpl : (backTo pos (starEach es X.env)).any (·.1) = false := by rfl) :
    PE (X.suite a ((a, oe) :: pn)) (.Call (.Name x q) (e :: es) [] pos) (tCallZ cls d a sp t) := by
  refine ⟨fun pins s σ H Q I h => ?_⟩
  refine wpAny_Call_Name_kw (ld_glob (X := X.suite a ((a, oe) :: pn)) I hg hm ?_ hdb)
  refine PySem.W.callWith_K (h₀ := X.base) I.ok.mod.kin hk (thn (ha.run pos pins s σ H _ I h) ?_) he hpl
  rintro us s1 ⟨vs, H1, I1, r, D, dd, e1, e2, q1⟩
  subst e1 e2
  refine ⟨I1.kIn, ?_⟩
  have hl : us.length = ps.length := r.length.symm.trans (F.len _ _ _ _ _ _ _ q1)
  have b := hb s1 us I1.kIn (by rw [List.append_nil]; exact hl)
  rw [List.append_nil] at b
  obtain ⟨g1, g2, g3, g4, g5⟩ := I1.pin (a, oe) (List.mem_append.mpr (.inl List.mem_cons_self))
  have hpin : PinOk X.stack H1 s1 (a, oe) := ⟨g1, g2, fun hm => (List.mem_cons.mp (I1.stkSub a hm)).elim g3 g4, g5⟩
  refine wpAny_call (codeAny_mono (F.run (X.A.mark (some (.ref a))) X.stack s1 H1 ⟨us, []⟩ us vs Q E0 (a, oe) D dd ⟨hr.dp, hr.un⟩ hz hf hpin I1.env0 b r q1) ?_)
  intro r2 s2 hq
  cases r2 with
  | error e3 => exact hq.elim
  | ok fl =>
    cases fl with
    | ret u => exact I1.after hq
    | next => exact hq.elim
    | brk => exact hq.elim
    | cont => exact hq.elim
/-- what an exception class must say, that isinstance asks its instances rightly -/
structure ExcD (K : PySem.W.Frag) (D : Addr) : Prop where
  hc : (PySem.W.clsIn K D).isSome = true
  hg : PySem.W.findIn K (.ref D) "__getattribute__" = some (some (.builtin "BaseException.__getattribute__"))
  hk : PySem.W.findIn K (.ref D) "__getattr__" = some none
  hs : PySem.W.subIn K (.ref D) (.type "BaseException") = some true
  ha : PySem.W.findIn K (.ref D) "__class__" = some (some (.builtin "object.__class__"))
  hn : PySem.W.specialIn K (.builtin "object.__class__") "__get__" = some (some (.builtin "getset_descriptor.__get__"))
  ht : PySem.W.takesIn K (.builtin "object.__class__") = some true
  hm : PySem.W.mroIn K D (.type "object") = some true
def excdB (K : PySem.W.Frag) (D : Addr) : Bool := (PySem.W.clsIn K D).isSome && (decide (PySem.W.findIn K (.ref D) "__getattribute__" = some (some (.builtin "BaseException.__getattribute__"))) && (decide (PySem.W.findIn K (.ref D) "__getattr__" = some none) &&
  (decide (PySem.W.subIn K (.ref D) (.type "BaseException") = some true) && (decide (PySem.W.findIn K (.ref D) "__class__" = some (some (.builtin "object.__class__"))) && (decide (PySem.W.specialIn K (.builtin "object.__class__") "__get__" = some (some (.builtin "getset_descriptor.__get__"))) &&
  (decide (PySem.W.takesIn K (.builtin "object.__class__") = some true) && decide (PySem.W.mroIn K D (.type "object") = some true)))))))
theorem excdB_ok {K : PySem.W.Frag} {D : Addr} (h : excdB K D = true) : ExcD K D := by
  obtain ⟨h1, h⟩ := Bool.and_eq_true_iff.mp h
  obtain ⟨h2, h⟩ := Bool.and_eq_true_iff.mp h
  obtain ⟨h3, h⟩ := Bool.and_eq_true_iff.mp h
  obtain ⟨h4, h⟩ := Bool.and_eq_true_iff.mp h
  obtain ⟨h5, h⟩ := Bool.and_eq_true_iff.mp h
  obtain ⟨h6, h⟩ := Bool.and_eq_true_iff.mp h
  obtain ⟨h7, h8⟩ := Bool.and_eq_true_iff.mp h
  exact ⟨h1, of_decide_eq_true h2, of_decide_eq_true h3, of_decide_eq_true h4, of_decide_eq_true h5, of_decide_eq_true h6, of_decide_eq_true h7, of_decide_eq_true h8⟩
/-- isinstance(e, c), e the exception -/
def rIsX (K : PySem.W.Frag) (a D dd : Addr) : List V → Hp → VK → Prop := fun xs H Q => ∃ (c : V) (cv : Value) (b : Bool) (fs : List (Str × V)), xs = [.ref a, c] ∧ ClsV c cv ∧ PySem.W.kitOne K (.ref D) cv = some b ∧ H dd = some (.xd fs) ∧ Q (.bl b) H
theorem call_isX {X : Cx} {p : Addr × Obj} {D dd : Addr} (hp : p ∈ X.pn) (C : ExcD X.K D) (hz : Zc (.ref D) (some dd) p.2) (hf : ∃ fs, p.2.data = .fields fs) : CallR X (.builtin "isinstance") (rIsX X.K p.1 D dd) := by
  intro pins s σ H xs us Q I r h
  obtain ⟨c, cv, b, fs, rfl, hcv, e, hd, q⟩ := h
  obtain ⟨u1, u2, rfl, r1, r2⟩ := vals2 r
  cases (show u1 = Value.ref p.1 from r1)
  have e2 := hcv.eq r2
  subst e2
  obtain ⟨hget, _⟩ := I.pin p (List.mem_append_left _ hp)
  have hx : ObjOk X.prog X.w H s.heap dd (.xd fs) := I.hok dd _ hd
  obtain ⟨mA, ⟨od, es, ep, ho, hr⟩, _⟩ := hx
  obtain ⟨vs, hv⟩ := hf
  have J : PySem.W.InstAt s.heap p.1 p.2 D (some od) := ⟨hget, hz.1, by unfold PySem.W.notCls; rw [hv] <;> rfl, by rw [hz.2]; exact ho⟩
  exact PySem.W.kia_one (PySem.W.kitx_exc C.hc C.hg C.hk C.hs C.ha C.hn C.ht C.hm) I.kIn J e (fun z => nomatch z) fun tk => ⟨.bl b, H, I.tok tk, rfl, q⟩
/-- what the written part says of an exception class with its own __init__, as a Bool -/
def oexB (K : PySem.W.Frag) (C : Addr) : Bool := (match K.lookup C with
    | some ⟨.type "type", _, .cls cd, sl⟩ => (match cd.mro, sl.toList with
      | .ref C' :: bm, [_, _, _, _, some (.builtin n), _] => decide (C' = C) && (decide (n = "ValueError.__new__") && (!cd.hasDel && (cd.hasDict && PySem.HandSPX.refsVE bm)))
      | _, _ => false)
    | _ => false) && (decide (PySem.W.findIn K (.ref C) "__setattr__" = some (some (.builtin "object.__setattr__"))) && (decide (PySem.W.subIn K (.ref C) (.type "BaseException") = some true) &&
  (decide (PySem.W.typeIn K (.ref C) = some (.type "type")) && PySem.W.keepIn K (.ref C))))
theorem oexB_ok {K : PySem.W.Frag} {C : Addr} (h : oexB K C = true) : OexC K C := by
  obtain ⟨h1, h⟩ := Bool.and_eq_true_iff.mp h
  obtain ⟨h2, h⟩ := Bool.and_eq_true_iff.mp h
  obtain ⟨h3, h⟩ := Bool.and_eq_true_iff.mp h
  obtain ⟨h4, h5⟩ := Bool.and_eq_true_iff.mp h
  refine ⟨?_, of_decide_eq_true h2, of_decide_eq_true h3, of_decide_eq_true h4, h5⟩
  split at h1
  · rename_i dd cd sl ho
    split at h1
    · rename_i C' bm k0 k1 k2 k3 n k5 hm hs
      simp only [Bool.and_eq_true, decide_eq_true_eq, Bool.not_eq_true'] at h1
      obtain ⟨rfl, rfl, hdel, hdct, hr⟩ := h1
      obtain ⟨nm, bs, mro, ns, qn, hd, sn, sub, ab, col, del⟩ := cd
      dsimp only at hm hdel hdct
      subst hm hdel hdct
      have hsl : sl = #[k0, k1, k2, k3, some (.builtin "ValueError.__new__"), k5] := by
        obtain ⟨l⟩ := sl
        dsimp only at hs
        rw [hs]
      subst hsl
      exact ⟨nm, qn, ns, bs, bm, sn, sub, ab, col, dd, k0, k1, k2, k3, k5, ho, hr⟩
    · cases h1
  · cases h1
theorem passR {X : Cx} {W : WX} {E : XK} (tk : Takes X W) (hW : ∀ cls d σ H, E cls d H → W cls d σ H) : Passes (L2.CX X.prog X.w) X E := passes_call tk hW
end LL

namespace LL
open PySem PySem.Spec PyProof.Rows L2
/-! ### the head's facts, and one more Bool of the written part -/
abbrev AlY : Type := He.AlD × Bool
def obsY (n : Nat) (fa : List He.Fa) (fn : List He.DefD) (ex : PySem.W.Frag → Bool) (g : Addr → Option Obj) : AlY := (He.obsD fa fn (He.frG g (He.asD g n)), ex (He.frG g (He.asD g n)))
structure SaysY (fa : List He.Fa) (fn : List He.DefD) (ex : PySem.W.Frag → Bool) (K : PySem.W.Frag) : Prop where
  d : He.SaysD fa fn K
  x : ex K = true
def hookY (n : Nat) (fa : List He.Fa) (fn : List He.DefD) (ex : PySem.W.Frag → Bool) : PySem.W.Hook where
  α := AlY
  obs := fun s => obsY n fa fn ex s.heap.get?
  val := fun _ => (He.valD fn, true)
  says := fun _ h => ∃ K : PySem.W.Frag, K.In h ∧ SaysY fa fn ex K
  of := fun _ _ e => ⟨_, He.frG_in, ⟨congrArg (fun z : AlY => z.1) e, congrArg (fun z : AlY => z.2) e⟩⟩
  keeps := fun _ _ _ ⟨K, hK, c⟩ k => ⟨K, PySem.W.Frag.In.keeps hK k, c⟩
theorem obsY_eq {n : Nat} {fa : List He.Fa} {fn : List He.DefD} {ex : PySem.W.Frag → Bool} {g : Addr → Option Obj} {s : Shared} (h : ∀ a, g a = s.heap.get? a) : obsY n fa fn ex g = (hookY n fa fn ex).obs s := by
  have e : g = s.heap.get? := funext h
  rw [e]
  rfl
theorem SaysY.ex {fa : List He.Fa} {fn : List He.DefD} {exs : List (PySem.W.Frag → Bool)} {K : PySem.W.Frag} (c : SaysY fa fn (fun K => exs.all fun e => e K) K) (i : Nat) {e : PySem.W.Frag → Bool} (h : exs[i]? = some e := by rfl) : e K = true :=
  List.all_eq_true.mp c.x e (List.mem_of_getElem? h)
end LL

namespace LL
open PySem PySem.Spec PyProof.Rows L2 L2H
/-- a field of the exception that a def called in an except suite is handed -/
theorem pe_xfP {X : Cx} {p : Addr × Obj} {C : Addr} {cls : Value} {d : Option Addr} {e : Expr} {te : TE} {pos : Pos} {n : Str} (hp : p ∈ X.pn) (T : XfC X.K C) (hno : PySem.W.findIn X.K (.ref C) n = some none)
    (hz : Zc cls d p.2) (hf : ∃ vs, p.2.data = .fields vs) (he : PE X e te) (hb : attributeBase e n X.env (eval e X.env) = eval e X.env := by rfl) :
    PE X (.Attribute e n pos) (tXf p.1 cls d C n te) := by
  refine ⟨fun pins s σ H Q I h => ?_⟩
  refine attr_of hb (thn (he.run pins s σ H _ I h) fun u s1 hh => ?_)
  obtain ⟨x, H1, I1, rx, ex, ec, dd, fs, v, ed, ea, l, q⟩ := hh
  subst ex
  obtain rfl : u = Value.ref p.1 := rx
  subst ec
  subst ed
  obtain ⟨ha, _⟩ := I1.pin p (List.mem_append_left _ hp)
  obtain ⟨vs, hd⟩ := hf
  have hx : ObjOk X.prog X.w H1 s1.heap dd (.xd fs) := I1.hok dd _ ea
  obtain ⟨mA, hns, hr⟩ := hx
  obtain ⟨od, ho, hl⟩ := lookIn_ns hns
  obtain ⟨u, hu, ru⟩ := RelO.some_of (v := v) (o := mA n) (by rw [← l]; exact hr n)
  have J : PySem.W.InstAt s1.heap p.1 p.2 C (some od) := ⟨ha, hz.1, by unfold PySem.W.notCls; rw [hd] <;> rfl, by rw [hz.2]; exact ho⟩
  exact HandSPX.exc_get I1.kIn J T.ga T.gg T.exC (PySem.W.findObj_own T.hdC hno rfl (by rw [hl, hu])) (handed_of ru) ⟨v, H1, I1.tok _, ru, q⟩
/-- isinstance(e, c) in the suite that holds e -/
def rIsXC (K : PySem.W.Frag) (a D : Addr) (cls : Value) (d : Option Addr) : List V → Hp → VK → Prop := fun xs H Q => ∃ (dd : Addr) (c : V) (cv : Value) (b : Bool) (fs : List (Str × V)), cls = .ref D ∧ d = some dd ∧ xs = [.ref a, c] ∧ ClsV c cv ∧ PySem.W.kitOne K (.ref D) cv = some b ∧ H dd = some (.xd fs) ∧ Q (.bl b) H
theorem call_isXC {X : Cx} {p : Addr × Obj} {D : Addr} {cls : Value} {d : Option Addr} (hp : p ∈ X.pn) (C : ExcD X.K D) (hz : Zc cls d p.2) (hf : ∃ fs, p.2.data = .fields fs) : CallR X (.builtin "isinstance") (rIsXC X.K p.1 D cls d) := by
  rintro pins s σ H xs us Q I r ⟨dd, c, cv, b, fs, rfl, rfl, rfl, h1, h2, h3, q⟩
  exact call_isX hp C hz hf pins s σ H _ us Q I r ⟨c, cv, b, fs, rfl, h1, h2, h3, q⟩
theorem use_isXC {K : PySem.W.Frag} {a D dd : Addr} {c : V} {cv : Value} {b : Bool} {fs : List (Str × V)} {H : Hp} {Q : VK} (hc : ClsV c cv) (hk : PySem.W.kitOne K (.ref D) cv = some b) (hd : H dd = some (.xd fs)) (q : Q (.bl b) H) : rIsXC K a D (.ref D) (some dd) [.ref a, c] H Q := ⟨dd, c, cv, b, fs, rfl, rfl, rfl, hc, hk, hd, q⟩
/-- a def that may raise, called where it does not -/
theorem passE0 {X : Cx} : Passes (L2.CX X.prog X.w) X E0 := fun _ _ _ _ _ _ _ h => by
  obtain ⟨_, _, _, _, _, _, _, _, _, _, _, _, hE⟩ := h
  exact hE.elim
theorem use_for2 {ta : TA} {g : TG} {tb : TS} {D : Ends} {σ : L2.St} {H : Hp} (lo hi : Int) (ht : ∀ Q : List V → Hp → Prop, Q [.int lo, .int hi] H → ta σ H Q) (b0 : -(2 ^ 62) ≤ lo) (b1 : lo < 2 ^ 62) (b2 : -(2 ^ 62) ≤ hi) (b3 : hi < 2 ^ 62) (Pv : Nat → L2.St → Hp → Prop) (h0 : Pv 0 σ H)
    (hs : ∀ i σ H, i < (hi - lo).toNat → Pv i σ H → g (.int (lo + (i : Int))) σ H fun σ2 H2 => tb { D with nx := Pv (i + 1), ct := Pv (i + 1), bk := D.nx } σ2 H2) (hd : ∀ σ H, Pv (hi - lo).toNat σ H → D.nx σ H) : tFor (iRng2 ta) g tb D σ H :=
  ht _ ⟨lo, hi, rfl, ⟨b0, b1, b2, b3⟩, for_range Pv h0 hs hd⟩
theorem use_lenA_L {p : Addr} {xs : List V} {H : Hp} {Q : VK} (h : H p = some (.lst xs)) (q : Q (.int xs.length) H) : rLenA [.ref p] H Q := .inl (use_lenL h q)
theorem use_lenA_T {p : Addr} {xs : List V} {H : Hp} {Q : VK} (h : H p = some (.tup xs)) (q : Q (.int xs.length) H) : rLenA [.ref p] H Q := .inr (.inl (use_lenT h q))
theorem use_ixA_L {K : PySem.W.Frag} {p : Addr} {xs : List V} {i : Int} {v : V} {H : Hp} {Q : VK} (h : H p = some (.lst xs)) (e : atI xs i = some v) (q : Q v H) : rIxA K (.ref p) (.int i) H Q := .inl (use_ixL h e q)
theorem use_ixA_T {K : PySem.W.Frag} {p : Addr} {xs : List V} {i : Int} {v : V} {H : Hp} {Q : VK} (h : H p = some (.tup xs)) (e : atI xs i = some v) (q : Q v H) : rIxA K (.ref p) (.int i) H Q := .inr (use_ixT h e q)
/-- a list or a tuple -/
def SeqH (H : Hp) (p : Addr) (xs : List V) : Prop := H p = some (.lst xs) ∨ H p = some (.tup xs)
theorem SeqH.same {H H' : Hp} {p : Addr} {xs : List V} (h : SeqH H p xs) (s : Same H H') : SeqH H' p xs := h.imp (s _ _) (s _ _)
theorem SeqH.kp {s : Addr} {H H' : Hp} {p : Addr} {xs : List V} (h : SeqH H p xs) (n : p ≠ s) (k : Kp s H H') : SeqH H' p xs := h.imp (k _ _ n) (k _ _ n)
theorem use_ixA {K : PySem.W.Frag} {p : Addr} {xs : List V} {i : Int} {v : V} {H : Hp} {Q : VK} (h : SeqH H p xs) (e : atI xs i = some v) (q : Q v H) : rIxA K (.ref p) (.int i) H Q := h.elim (fun h => use_ixA_L h e q) fun h => use_ixA_T h e q
mutual
/-- no dict in it -/
def noDic : T → Bool
  | .dic _ => false
  | .lst ts => noDics ts
  | .tup ts => noDics ts
  | _ => true
def noDics : List T → Bool
  | [] => true
  | t :: ts => noDic t && noDics ts
end
theorem noDicL : ∀ {ts : List T} {i : Nat} {t : T}, ts[i]? = some t → noDics ts = true → noDic t = true
  | [], _, _, e, _ => by cases e
  | u :: ts, 0, t, e, h => by
    cases e
    exact (Bool.and_eq_true_iff.mp h).1
  | u :: ts, i + 1, t, e, h => noDicL (ts := ts) (i := i) e (Bool.and_eq_true_iff.mp h).2
theorem Aft.same {d s : Addr} {H H' : Hp} (D : Drw d s H) (k : Same H H') : Aft d s H H' := ⟨.same k, D.same k⟩
theorem Aft.at {d s : Addr} {H H' : Hp} (a : Aft d s H H') {p : Addr} {o : HO} (h : H p = some o) (n : p ≠ s) : H' p = some o := a.kp _ _ n h
/-- a list of bools that is all True, made by a comprehension over range(n) -/
theorem rAll_true {K : PySem.W.Frag} {D : Addr} {n : Nat} {H : Hp} {Q : VK} (h : H D = some (.lst (List.replicate n (V.bl true)))) (q : Q (.bl true) H) : rAll K [.ref D] H Q :=
  ⟨D, List.replicate n true, rfl, .inl (.inl (by rw [List.map_replicate]; exact h)), by rw [show (List.replicate n true).all id = true by simp]; exact q⟩
theorem repl_succ {n : Nat} : List.replicate n (V.bl true) ++ [V.bl true] = List.replicate (n + 1) (V.bl true) := by rw [List.replicate_succ']
theorem itei {p : Prop} [Decidable p] {A B : Prop} (h1 : p → A) (h2 : ¬p → B) : if p then A else B := by
  by_cases h : p
  · rw [if_pos h]; exact h1 h
  · rw [if_neg h]; exact h2 h
/-- over enumerate(list), a list that the body leaves as it is -/
theorem use_forE {K : PySem.W.Frag} {ta : TA} {a : Addr} {xs : List V} {g : TG} {tb : TS} {D : Ends} {σ : L2.St} {H : Hp} (ht : ∀ Q : List V → Hp → Prop, Q [.ref a] H → ta σ H Q) (Pv : Nat → L2.St → Hp → Prop) (h0 : Pv 0 σ H) (hl : ∀ i σ H, i ≤ xs.length → Pv i σ H → SqL K H a xs)
    (hs : ∀ i x T σ H, xs[i]? = some x → Pv i σ H → H T = none → g (.ref T) σ (upd H T (.tup [.int (i : Nat), x])) fun σ2 H2 => tb { D with nx := Pv (i + 1), ct := Pv (i + 1), bk := D.nx } σ2 H2)
    (hd : ∀ σ H, Pv xs.length σ H → D.nx σ H) : tFor (iEnum K ta) g tb D σ H := by
  refine ht _ ⟨a, xs, rfl, hl 0 σ H (Nat.zero_le _) h0, fun i m σ H => i ≤ xs.length ∧ m + i = xs.length ∧ Pv i σ H, ⟨xs.length, Nat.zero_le _, Nat.add_zero _, h0⟩, ?_⟩
  rintro i m σ H ⟨hi, hm, p⟩
  have q := hl i σ H hi p
  rcases Nat.lt_or_ge i xs.length with hlt | hge
  · refine .inr ⟨⟨xs, xs[i], q, List.getElem?_eq_getElem hlt⟩, Pv (i + 1), fun σ' H' p' => ⟨m - 1, by omega, hlt, by omega, p'⟩, ?_⟩
    rintro z H' ⟨T, x, rfl, hT, rfl, hx⟩
    exact hs i x T σ H (hx xs q) p hT
  · obtain rfl : i = xs.length := by omega
    exact .inl ⟨⟨xs, q, Nat.le_refl _⟩, hd σ H p⟩
theorem use_forEX {K : PySem.W.Frag} {ta : TA} {g : TG} {tb : TS} {D : Ends} {σ : L2.St} {H : Hp} {R : Addr → List V → Hp → Prop} (ht : ∀ Q : List V → Hp → Prop, (∀ a xs H', R a xs H' → Q [.ref a] H') → ta σ H Q) (Pv : Addr → List V → Nat → L2.St → Hp → Prop) (h0 : ∀ a xs H', R a xs H' → Pv a xs 0 σ H')
    (hl : ∀ a xs i σ H, i ≤ xs.length → Pv a xs i σ H → SqL K H a xs)
    (hs : ∀ a xs i x T σ H, xs[i]? = some x → Pv a xs i σ H → H T = none → g (.ref T) σ (upd H T (.tup [.int (i : Nat), x])) fun σ2 H2 => tb { D with nx := Pv a xs (i + 1), ct := Pv a xs (i + 1), bk := D.nx } σ2 H2)
    (hd : ∀ a xs σ H, Pv a xs xs.length σ H → D.nx σ H) : tFor (iEnum K ta) g tb D σ H := by
  refine ht _ fun a xs H' r => ?_
  have p0 := h0 a xs H' r
  refine ⟨a, xs, rfl, hl a xs 0 σ H' (Nat.zero_le _) p0, fun i m σ H => i ≤ xs.length ∧ m + i = xs.length ∧ Pv a xs i σ H, ⟨xs.length, Nat.zero_le _, Nat.add_zero _, p0⟩, ?_⟩
  rintro i m σ H ⟨hi, hm, p⟩
  have q := hl a xs i σ H hi p
  rcases Nat.lt_or_ge i xs.length with hlt | hge
  · refine .inr ⟨⟨xs, xs[i], q, List.getElem?_eq_getElem hlt⟩, Pv a xs (i + 1), fun σ' H' p' => ⟨m - 1, by omega, hlt, by omega, p'⟩, ?_⟩
    rintro z H' ⟨T, x, rfl, hT, rfl, hx⟩
    exact hs a xs i x T σ H (hx xs q) p hT
  · obtain rfl : i = xs.length := by omega
    exact .inl ⟨⟨xs, q, Nat.le_refl _⟩, hd a xs σ H p⟩
theorem DtL.set {F : Addr → Prop} {H : Hp} : ∀ {xs : List V} {ts : List T} {i : Nat} {v : V} {t : T}, DtL F H xs ts → Dt F H v t → DtL F H (xs.set i v) (ts.set i t)
  | _, [], i, v, t, h, _ => by rw [show _ = [] from h]; rfl
  | _, u :: us, 0, v, t, h, d => by
    obtain ⟨x, xs, rfl, h1, h2⟩ := h
    exact ⟨v, xs, rfl, d, h2⟩
  | _, u :: us, i + 1, v, t, h, d => by
    obtain ⟨x, xs, rfl, h1, h2⟩ := h
    exact ⟨x, _, rfl, h1, DtL.set h2 d⟩
theorem DtL.off {F : Addr → Prop} {H : Hp} {r : Addr} {o : HO} {xs : List V} {ts : List T} (hF : ∀ a, F a → a ≠ r) (h : DtL F H xs ts) : DtL F (upd H r o) xs ts := DtL.imp (fun a u f e => ⟨f, by rw [upd_ne (hF a f)]; exact e⟩) _ h
theorem Dt.off {F : Addr → Prop} {H : Hp} {r : Addr} {o : HO} {v : V} {t : T} (hF : ∀ a, F a → a ≠ r) (h : Dt F H v t) : Dt F (upd H r o) v t := Dt.imp (fun a u f e => ⟨f, by rw [upd_ne (hF a f)]; exact e⟩) _ h
end LL

namespace LL
open PySem PySem.Spec PyProof.Rows L2 L2H
/-! ### list(range(i, j, k)) -/
def stepV (i k : Int) (n : Nat) : List V := (List.range n).map fun j => V.int (i + (j : Nat) * k)
theorem stepV_len {i k : Int} {n : Nat} : (stepV i k n).length = n := by unfold stepV; rw [List.length_map, List.length_range]
theorem size_step {i k : Int} {n : Nat} (hk : 0 < k) : Builtin.Range.rangeSize i (i + n * k) k = n := by
  unfold Builtin.Range.rangeSize
  rw [if_pos hk]
  cases n with
  | zero => rw [if_neg (by simp)]; rfl
  | succ m =>
    have e : ((m + 1 : Nat) : Int) * k = k + (m : Int) * k := by rw [show ((m + 1 : Nat) : Int) = 1 + m by omega, Int.add_mul, Int.one_mul]
    have hm : 0 ≤ (m : Int) * k := Int.mul_nonneg (by omega) (by omega)
    rw [if_pos (by omega), show i + ((m + 1 : Nat) : Int) * k - i - 1 = (k - 1) + (m : Int) * k by omega, Int.add_mul_ediv_right _ _ (by omega), Int.ediv_eq_zero_of_lt (by omega) (by omega)]
    omega
theorem small_step {i k : Int} {n : Nat} (hk : 0 < k) (k1 : k ≤ 1000000) (i0 : 0 ≤ i) (i1 : i ≤ 1000000) (hn : n ≤ 100000) : Builtin.Range.small i (i + n * k) k = true := by
  have h1 : (n : Int) * k ≤ 100000 * 1000000 := Int.mul_le_mul (by omega) k1 (by omega) (by omega)
  have h0 : 0 ≤ (n : Int) * k := Int.mul_nonneg (by omega) (by omega)
  unfold Builtin.Range.small
  rw [size_step hk]
  simp only [Builtin.Range.rangeFitsLong, Bool.and_eq_true, Bool.or_eq_true, decide_eq_true_eq, beq_iff_eq]
  have : k > 0 := hk
  simp only [this, if_true]
  generalize (n : Int) * k = z at h0 h1 ⊢
  refine ⟨⟨⟨⟨⟨by omega, by omega⟩, by omega, by omega⟩, by omega, by omega⟩, by omega, by omega⟩, .inr ?_⟩
  rw [decide_eq_true (by omega), decide_eq_true (by omega)]
  rfl
def tLstRg3 (ta : TA) : TE := fun σ H Q => ta σ H fun vs H1 => ∃ (i k : Int) (n : Nat), vs = [.int i, .int (i + n * k), .int k] ∧ 0 < k ∧ k ≤ 1000000 ∧ 0 ≤ i ∧ i ≤ 1000000 ∧ n ≤ 100000 ∧ ∀ q, H1 q = none → Q (.ref q) (upd H1 q (.lst (stepV i k n)))
theorem vals_step {i k : Int} {n : Nat} {acc : Array Value} (h : ItemsOf (fun j v => ∃ t, v = .int (i + j * k) t) acc n) : Vals (stepV i k n) acc.toList := by
  have e : acc.toList.length = n := by rw [Array.length_toList]; exact h.1
  unfold stepV
  rw [← e]
  refine vals_of_get acc.toList (fun j => V.int (i + (j : Nat) * k)) fun j u hj => ?_
  obtain ⟨t, rfl⟩ := h.2 j u (by rw [← hj, Array.getElem?_toList])
  exact ⟨t, rfl⟩
theorem pe_listRg3 {X : Cx} {a b c : Expr} {ta : TA} {p p2 pos pos2 : Pos} (hcalm : X.calm = true) (hl : Gl X "list") (ml : X.mg "list" = none) (hg : Gl X "range") (hm : X.mg "range" = none) (ha : PA X [a, b, c] ta)
    (hs : starEach [a, b, c] X.env = (false, eval a X.env) :: starEach [b, c] X.env := by rfl) (hpl : (backTo pos (starEach [b, c] X.env)).any (·.1) = false := by rfl)
    (na : starEach [Expr.Call (.Name "range" p) [a, b, c] [] pos] X.env = (false, eval (Expr.Call (.Name "range" p) [a, b, c] [] pos) X.env) :: starEach [] X.env := by rfl) :
    PE X (.Call (.Name "list" p2) [.Call (.Name "range" p) [a, b, c] [] pos] [] pos2) (tLstRg3 ta) := by
  refine ⟨fun pins s σ H Q I h => ?_⟩
  have hr : wpAny (model X.prog X.w) X.A (eval (Expr.Call (.Name "range" p) [a, b, c] [] pos) X.env)
      (fun x s' => ∃ r i k n t u v H', x = .ref r ∧ IsRange s'.heap r i (i + (n : Nat) * k) k t u v ∧ Inv X pins σ H' s' ∧ (0 < k ∧ k ≤ 1000000 ∧ 0 ≤ i ∧ i ≤ 1000000 ∧ n ≤ 100000) ∧ ∀ q, H' q = none → Q (.ref q) (upd H' q (.lst (stepV i k n)))) X.xe s := by
    refine Call_ (ld_blt I hg hm boot_range (PyProof.Rows.callWith_type1 (thn (ha.run pos pins s σ H _ I h) fun us s1 ⟨vs, H1, I1, r1, q1⟩ => ?_) hs hpl))
    obtain ⟨i, k, n, e, k0, k1, i0, i1, hn, q⟩ := q1
    subst e
    cases r1 with
    | cons x1 rr =>
      cases rr with
      | cons x2 rr =>
        cases rr with
        | cons x3 rr =>
          cases rr
          obtain ⟨t1, rfl⟩ := x1
          obtain ⟨t2, rfl⟩ := x2
          obtain ⟨t3, rfl⟩ := x3
          refine call_range_3 (show k ≠ 0 by omega) ?_ (.inl (PyProof.noPylong_small (by omega)))
          exact ⟨_, i, k, n, _, _, _, H1, rfl, IsRange.new _ _ _ _ _ _ _, I1.kept (t' := s1.toks) fun b u e => Heap.get?_push_of_some _ e, ⟨k0, k1, i0, i1, hn⟩, q⟩
  refine Call_ (ld_blt I hl ml boot_list (PyProof.Rows.callWith_type1 (args_cons (thn hr fun x s1 ⟨r, i, k, n, t, u, v, H1, ex, hrg, I1, ⟨k0, k1, i0, i1, hn⟩, q⟩ => args_nil ?_) na) na))
  subst ex
  refine call_list_range (n := n) (I1.ok.hd hcalm) hrg (small_step k0 k1 i0 i1 hn) (size_step k0) (by omega) fun h' tk acc c' hk e' hi => ?_
  refine ⟨.ref s1.heap.objs.size, upd H1 s1.heap.objs.size (.lst (stepV i k n)), I1.laid hk (Nat.le_refl _) (show ObjOk X.prog X.w _ _ _ (.lst (stepV i k n)) from ⟨?_, acc.toList, c', vals_step hi, ?_⟩), rfl, q _ (I1.hok.fresh (Nat.le_refl _))⟩
  · rw [stepV_len]; exact Nat.le_of_lt (small_sz (by omega))
  · rw [Array.toArray_toList]; exact e'
end LL

namespace LL
open PySem PySem.Spec PyProof.Rows L2 L2H
/-! ### powers of two -/
theorem land_even (a b : Nat) : (2 * a) &&& (2 * b + 1) = 2 * (a &&& b) := by
  refine Nat.eq_of_testBit_eq fun i => ?_
  cases i with
  | zero => simp [Nat.testBit_zero]
  | succ i =>
    have h1 : ∀ x : Nat, (2 * x).testBit (i + 1) = x.testBit i := fun x => by rw [Nat.testBit_succ, Nat.mul_div_cancel_left _ (by decide)]
    have h2 : (2 * b + 1).testBit (i + 1) = b.testBit i := by rw [Nat.testBit_succ, show (2 * b + 1) / 2 = b by omega]
    rw [Nat.testBit_and, h1, h2, h1, Nat.testBit_and]
theorem land_odd (a b : Nat) : (2 * a + 1) &&& (2 * b) = 2 * (a &&& b) := by
  rw [Nat.and_comm, land_even, Nat.and_comm]
theorem land_pred : ∀ (k m : Nat), (2 ^ k * (2 * m + 1)) &&& (2 ^ k * (2 * m + 1) - 1) = 2 ^ k * (2 * m)
  | 0, m => by
    rw [Nat.pow_zero, Nat.one_mul, Nat.one_mul, show 2 * m + 1 - 1 = 2 * m by omega, land_odd, Nat.and_self]
  | k + 1, m => by
    have h := land_pred k m
    have hp : 0 < 2 ^ k * (2 * m + 1) := Nat.mul_pos (Nat.pow_pos (by decide)) (by omega)
    have e : 2 ^ (k + 1) * (2 * m + 1) = 2 * (2 ^ k * (2 * m + 1)) := by rw [Nat.pow_succ, Nat.mul_comm (2 ^ k) 2, Nat.mul_assoc]
    have e2 : 2 ^ (k + 1) * (2 * m) = 2 * (2 ^ k * (2 * m)) := by rw [Nat.pow_succ, Nat.mul_comm (2 ^ k) 2, Nat.mul_assoc]
    rw [e, e2]
    generalize 2 ^ k * (2 * m + 1) = x at h hp
    rw [show 2 * x - 1 = 2 * (x - 1) + 1 by omega, land_even, h]
theorem odd_part : ∀ n : Nat, 0 < n → ∃ k m, n = 2 ^ k * (2 * m + 1) := by
  intro n
  induction n using Nat.strongRecOn with
  | ind n ih =>
    intro hn
    by_cases h : n % 2 = 1
    · exact ⟨0, n / 2, by rw [Nat.pow_zero]; omega⟩
    · obtain ⟨k, m, e⟩ := ih (n / 2) (by omega) (by omega)
      refine ⟨k + 1, m, ?_⟩
      rw [Nat.pow_succ, Nat.mul_comm (2 ^ k) 2, Nat.mul_assoc, ← e]
      omega
theorem bitAnd_nat (a b : Nat) : Builtin.bitAnd (a : Int) (b : Int) = ((a &&& b : Nat) : Int) := by
  unfold Builtin.bitAnd
  rw [decide_eq_true (show (0 : Int) ≤ (a : Int) by omega), decide_eq_true (show (0 : Int) ≤ (b : Int) by omega)]
  rfl
theorem bitAnd_neg (n : Nat) (h : 0 < n) : Builtin.bitAnd (n : Int) (-(n : Int)) = (n : Int) - ((n &&& (n - 1) : Nat) : Int) := by
  unfold Builtin.bitAnd
  rw [decide_eq_true (show (0 : Int) ≤ (n : Int) by omega), decide_eq_false (show ¬ (0 : Int) ≤ -(n : Int) by omega)]
  show (n : Int) - (((n : Int).toNat &&& (Builtin.bitNot (-(n : Int))).toNat : Nat) : Int) = _
  rw [show (Builtin.bitNot (-(n : Int))).toNat = n - 1 by show (- -(n : Int) - 1).toNat = n - 1; omega, Int.toNat_natCast]
/-- i is a power of two -/
def isP (i : Int) : Bool := decide (1 ≤ i) && decide (Builtin.bitAnd i (i - 1) = 0)
theorem isP_pow (k : Nat) : isP (2 ^ k) = true := by
  have h := land_pred k 0
  rw [Nat.mul_zero, Nat.zero_add, Nat.mul_one, Nat.mul_zero] at h
  have hp : 0 < 2 ^ k := Nat.pow_pos (by decide)
  have e : (2 : Int) ^ k = ((2 ^ k : Nat) : Int) := by simp
  unfold isP
  rw [e, show ((2 ^ k : Nat) : Int) - 1 = ((2 ^ k - 1 : Nat) : Int) by omega, bitAnd_nat, h, decide_eq_true (show (1 : Int) ≤ ((2 ^ k : Nat) : Int) by omega)]
  rfl
theorem isP_of {i : Int} (h : isP i = true) : ∃ k : Nat, i = 2 ^ k := by
  obtain ⟨h1, h2⟩ := Bool.and_eq_true_iff.mp h
  have h1 := of_decide_eq_true h1
  have h2 := of_decide_eq_true h2
  obtain ⟨n, rfl⟩ : ∃ n : Nat, i = n := ⟨i.toNat, by omega⟩
  rw [show (n : Int) - 1 = ((n - 1 : Nat) : Int) by omega, bitAnd_nat] at h2
  obtain ⟨k, m, e⟩ := odd_part n (by omega)
  rw [e, land_pred] at h2
  have h3 : 2 ^ k * (2 * m) = 0 := by omega
  have hp : 0 < 2 ^ k := Nat.pow_pos (by decide)
  have hm : m = 0 := by
    rcases Nat.mul_eq_zero.mp h3 with h | h <;> omega
  refine ⟨k, ?_⟩
  rw [e, hm]
  simp
/-- the greatest power of two in n -/
theorem powIn {n : Int} (h : 1 ≤ n) : ∃ (k : Nat) (m : Int), Builtin.bitAnd n (-n) = 2 ^ k ∧ 0 ≤ m ∧ n = 2 ^ k * (2 * m + 1) := by
  obtain ⟨a, rfl⟩ : ∃ a : Nat, n = a := ⟨n.toNat, by omega⟩
  obtain ⟨k, m, e⟩ := odd_part a (by omega)
  have hl := land_pred k m
  refine ⟨k, m, ?_, by omega, by rw [e]; simp⟩
  rw [bitAnd_neg a (by omega), e, hl]
  have : 2 ^ k * (2 * m + 1) = 2 ^ k * (2 * m) + 2 ^ k := by rw [Nat.mul_add, Nat.mul_one]
  rw [this]
  have e3 : ((2 ^ k : Nat) : Int) = (2 : Int) ^ k := by simp
  omega
/-- bit_length of c - 1: the least exponent -/
theorem bits_least {c : Int} (h : 1 ≤ c) : c ≤ 2 ^ (Builtin.Int.intBits (c - 1)) ∧ (Builtin.Int.intBits (c - 1) = 0 ∨ (2 : Int) ^ (Builtin.Int.intBits (c - 1)) / 2 < c) := by
  obtain ⟨n, rfl⟩ : ∃ n : Nat, c = (n : Int) + 1 := ⟨(c - 1).toNat, by omega⟩
  rw [show (n : Int) + 1 - 1 = n by omega]
  unfold Builtin.Int.intBits
  by_cases hn : n = 0
  · subst hn
    exact ⟨by decide, .inl rfl⟩
  · rw [if_neg (show ¬ ((n : Int) == 0) = true by simpa using hn), Int.natAbs_natCast]
    have h1 : n < 2 ^ (n.log2 + 1) := Nat.lt_log2_self
    have h2 : 2 ^ n.log2 ≤ n := Nat.log2_self_le hn
    have e1 : ((2 ^ (n.log2 + 1) : Nat) : Int) = (2 : Int) ^ (n.log2 + 1) := by simp
    have e2 : ((2 ^ n.log2 : Nat) : Int) = (2 : Int) ^ n.log2 := by simp
    have e3 : (2 : Int) ^ (n.log2 + 1) = 2 * (2 : Int) ^ n.log2 := by rw [Int.pow_succ, Int.mul_comm]
    exact ⟨by omega, .inr (by omega)⟩
end LL

namespace K25
open PySem PySem.Spec PyProof.Rows L2 LL
def top (i : Nat) : Stmt := PySem.Challenge.pw_allgivenback_k25_shape.main.body.getD i (.Pass ⟨0, 0, 0, 0⟩)
abbrev FnP (K : PySem.W.Frag) (x : Str) (st : Stmt) (f : Addr) (fd : FuncData) : Prop := FunD K x x (defArgs st) (defBody st) (defScope st) [] [] f fd
def p_BadValue : { s : Stmt // inClass (top 2) 0 = s } := by
  refine ⟨?s, ?h⟩
  case h => conv => lhs; whnf
abbrev s_BadValue : Stmt := p_BadValue.1
abbrev P_BadValue : List Str := ["self", "parameter"]
theorem sc_BadValue : FnScope P_BadValue P_BadValue (defScope s_BadValue) := ⟨rfl, rfl, rfl, by decide +kernel, rfl, by decide +kernel, by decide +kernel⟩
abbrev aBV (K : PySem.W.Frag) : Addr := He.ga K "BadValue"
abbrev iBV (K : PySem.W.Frag) : Addr := He.ma K (He.ga K "BadValue") "__init__"
def p_is_whole : { s : Stmt // top 4 = s } := by
  refine ⟨?s, ?h⟩
  case h => conv => lhs; whnf
abbrev s_is_whole : Stmt := p_is_whole.1
abbrev N_is_whole : List Str := ["value"]
abbrev P_is_whole : List Str := ["value"]
theorem sc_is_whole : FnScope N_is_whole P_is_whole (defScope s_is_whole) := ⟨rfl, rfl, rfl, by decide +kernel, rfl, by decide +kernel, by decide +kernel⟩
def p_need : { s : Stmt // top 6 = s } := by
  refine ⟨?s, ?h⟩
  case h => conv => lhs; whnf
abbrev s_need : Stmt := p_need.1
abbrev N_need : List Str := ["holds", "parameter"]
abbrev P_need : List Str := ["holds", "parameter"]
theorem sc_need : FnScope N_need P_need (defScope s_need) := ⟨rfl, rfl, rfl, by decide +kernel, rfl, by decide +kernel, by decide +kernel⟩
def p_need_whole : { s : Stmt // top 7 = s } := by
  refine ⟨?s, ?h⟩
  case h => conv => lhs; whnf
abbrev s_need_whole : Stmt := p_need_whole.1
abbrev N_need_whole : List Str := ["value", "low", "high", "parameter"]
abbrev P_need_whole : List Str := ["value", "low", "high", "parameter"]
theorem sc_need_whole : FnScope N_need_whole P_need_whole (defScope s_need_whole) := ⟨rfl, rfl, rfl, by decide +kernel, rfl, by decide +kernel, by decide +kernel⟩
def p_is_width : { s : Stmt // top 11 = s } := by
  refine ⟨?s, ?h⟩
  case h => conv => lhs; whnf
abbrev s_is_width : Stmt := p_is_width.1
abbrev N_is_width : List Str := ["value"]
abbrev P_is_width : List Str := ["value"]
theorem sc_is_width : FnScope N_is_width P_is_width (defScope s_is_width) := ⟨rfl, rfl, rfl, by decide +kernel, rfl, by decide +kernel, by decide +kernel⟩
def p_is_power : { s : Stmt // top 14 = s } := by
  refine ⟨?s, ?h⟩
  case h => conv => lhs; whnf
abbrev s_is_power : Stmt := p_is_power.1
abbrev N_is_power : List Str := ["value"]
abbrev P_is_power : List Str := ["value"]
theorem sc_is_power : FnScope N_is_power P_is_power (defScope s_is_power) := ⟨rfl, rfl, rfl, by decide +kernel, rfl, by decide +kernel, by decide +kernel⟩
def p_need_align : { s : Stmt // top 15 = s } := by
  refine ⟨?s, ?h⟩
  case h => conv => lhs; whnf
abbrev s_need_align : Stmt := p_need_align.1
abbrev N_need_align : List Str := ["value", "most", "parameter"]
abbrev P_need_align : List Str := ["value", "most", "parameter"]
theorem sc_need_align : FnScope N_need_align P_need_align (defScope s_need_align) := ⟨rfl, rfl, rfl, by decide +kernel, rfl, by decide +kernel, by decide +kernel⟩
def p_need_shape : { s : Stmt // top 18 = s } := by
  refine ⟨?s, ?h⟩
  case h => conv => lhs; whnf
abbrev s_need_shape : Stmt := p_need_shape.1
abbrev N_need_shape : List Str := ["width", "order", "size", "align"]
abbrev P_need_shape : List Str := ["width", "order", "size", "align"]
theorem sc_need_shape : FnScope N_need_shape P_need_shape (defScope s_need_shape) := ⟨rfl, rfl, rfl, by decide +kernel, rfl, by decide +kernel, by decide +kernel⟩
def p_slab_shape : { s : Stmt // top 19 = s } := by
  refine ⟨?s, ?h⟩
  case h => conv => lhs; whnf
abbrev s_slab_shape : Stmt := p_slab_shape.1
abbrev N_slab_shape : List Str := ["width", "order", "size", "align", "room", "stride", "slots"]
abbrev P_slab_shape : List Str := ["width", "order", "size", "align"]
theorem sc_slab_shape : FnScope N_slab_shape P_slab_shape (defScope s_slab_shape) := ⟨rfl, rfl, rfl, by decide +kernel, rfl, by decide +kernel, by decide +kernel⟩
def p_slot_starts : { s : Stmt // top 20 = s } := by
  refine ⟨?s, ?h⟩
  case h => conv => lhs; whnf
abbrev s_slot_starts : Stmt := p_slot_starts.1
abbrev N_slot_starts : List Str := ["width", "order", "size", "align", "page", "shape", "colour", "first", "stride", "slots", "colours"]
abbrev P_slot_starts : List Str := ["width", "order", "size", "align", "page"]
theorem sc_slot_starts : FnScope N_slot_starts P_slot_starts (defScope s_slot_starts) := ⟨rfl, rfl, rfl, by decide +kernel, rfl, by decide +kernel, by decide +kernel⟩
def p_law_draws : { s : Stmt // top 22 = s } := by
  refine ⟨?s, ?h⟩
  case h => conv => lhs; whnf
abbrev s_law_draws : Stmt := p_law_draws.1
abbrev N_law_draws : List Str := ["_law_script", "_law_cell"]
abbrev P_law_draws : List Str := ["_law_script"]
theorem sc_law_draws : FnScope N_law_draws P_law_draws (defScope s_law_draws) := ⟨rfl, rfl, rfl, by decide +kernel, rfl, by decide +kernel, by decide +kernel⟩
def p_law_next_cell : { s : Stmt // top 23 = s } := by
  refine ⟨?s, ?h⟩
  case h => conv => lhs; whnf
abbrev s_law_next_cell : Stmt := p_law_next_cell.1
abbrev N_law_next_cell : List Str := ["_law_draws_here", "_law_cells", "_law_state", "_law_cell"]
abbrev P_law_next_cell : List Str := ["_law_draws_here"]
theorem sc_law_next_cell : FnScope N_law_next_cell P_law_next_cell (defScope s_law_next_cell) := ⟨rfl, rfl, rfl, by decide +kernel, rfl, by decide +kernel, by decide +kernel⟩
def p_law_mixed : { s : Stmt // top 24 = s } := by
  refine ⟨?s, ?h⟩
  case h => conv => lhs; whnf
abbrev s_law_mixed : Stmt := p_law_mixed.1
abbrev N_law_mixed : List Str := ["_law_seed", "_law_turn", "_law_many", "_law_value", "_law_k", "_law_first", "_law_second"]
abbrev P_law_mixed : List Str := ["_law_seed", "_law_turn", "_law_many"]
theorem sc_law_mixed : FnScope N_law_mixed P_law_mixed (defScope s_law_mixed) := ⟨rfl, rfl, rfl, by decide +kernel, rfl, by decide +kernel, by decide +kernel⟩
def p_law_take : { s : Stmt // top 25 = s } := by
  refine ⟨?s, ?h⟩
  case h => conv => lhs; whnf
abbrev s_law_take : Stmt := p_law_take.1
abbrev N_law_take : List Str := ["_law_draws_here", "_law_many", "_law_state", "_law_value"]
abbrev P_law_take : List Str := ["_law_draws_here", "_law_many"]
theorem sc_law_take : FnScope N_law_take P_law_take (defScope s_law_take) := ⟨rfl, rfl, rfl, by decide +kernel, rfl, by decide +kernel, by decide +kernel⟩
def p_law_among : { s : Stmt // top 26 = s } := by
  refine ⟨?s, ?h⟩
  case h => conv => lhs; whnf
abbrev s_law_among : Stmt := p_law_among.1
abbrev N_law_among : List Str := ["_law_draws_here", "_law_row"]
abbrev P_law_among : List Str := ["_law_draws_here", "_law_row"]
theorem sc_law_among : FnScope N_law_among P_law_among (defScope s_law_among) := ⟨rfl, rfl, rfl, by decide +kernel, rfl, by decide +kernel, by decide +kernel⟩
def p_law_between : { s : Stmt // top 27 = s } := by
  refine ⟨?s, ?h⟩
  case h => conv => lhs; whnf
abbrev s_law_between : Stmt := p_law_between.1
abbrev N_law_between : List Str := ["_law_draws_here", "_law_low", "_law_high", "_law_kind"]
abbrev P_law_between : List Str := ["_law_draws_here", "_law_low", "_law_high"]
theorem sc_law_between : FnScope N_law_between P_law_between (defScope s_law_between) := ⟨rfl, rfl, rfl, by decide +kernel, rfl, by decide +kernel, by decide +kernel⟩
def p_law_number : { s : Stmt // top 28 = s } := by
  refine ⟨?s, ?h⟩
  case h => conv => lhs; whnf
abbrev s_law_number : Stmt := p_law_number.1
abbrev N_law_number : List Str := ["_law_draws_here", "_law_low", "_law_high", "_law_kind"]
abbrev P_law_number : List Str := ["_law_draws_here", "_law_low", "_law_high"]
theorem sc_law_number : FnScope N_law_number P_law_number (defScope s_law_number) := ⟨rfl, rfl, rfl, by decide +kernel, rfl, by decide +kernel, by decide +kernel⟩
def p_law_alignment : { s : Stmt // top 29 = s } := by
  refine ⟨?s, ?h⟩
  case h => conv => lhs; whnf
abbrev s_law_alignment : Stmt := p_law_alignment.1
abbrev N_law_alignment : List Str := ["_law_draws_here", "_law_most", "_law_value", "_law_k"]
abbrev P_law_alignment : List Str := ["_law_draws_here", "_law_most"]
theorem sc_law_alignment : FnScope N_law_alignment P_law_alignment (defScope s_law_alignment) := ⟨rfl, rfl, rfl, by decide +kernel, rfl, by decide +kernel, by decide +kernel⟩
def p_law_power : { s : Stmt // top 30 = s } := by
  refine ⟨?s, ?h⟩
  case h => conv => lhs; whnf
abbrev s_law_power : Stmt := p_law_power.1
abbrev N_law_power : List Str := ["_law_number_here", "_law_value", "_law_k"]
abbrev P_law_power : List Str := ["_law_number_here"]
theorem sc_law_power : FnScope N_law_power P_law_power (defScope s_law_power) := ⟨rfl, rfl, rfl, by decide +kernel, rfl, by decide +kernel, by decide +kernel⟩
def p_law_long : { s : Stmt // top 31 = s } := by
  refine ⟨?s, ?h⟩
  case h => conv => lhs; whnf
abbrev s_law_long : Stmt := p_law_long.1
abbrev N_law_long : List Str := ["_law_value", "_law_k"]
abbrev P_law_long : List Str := []
theorem sc_law_long : FnScope N_law_long P_law_long (defScope s_law_long) := ⟨rfl, rfl, rfl, by decide +kernel, rfl, by decide +kernel, by decide +kernel⟩
def p_law_not_integer : { s : Stmt // top 32 = s } := by
  refine ⟨?s, ?h⟩
  case h => conv => lhs; whnf
abbrev s_law_not_integer : Stmt := p_law_not_integer.1
abbrev N_law_not_integer : List Str := ["_law_draws_here"]
abbrev P_law_not_integer : List Str := ["_law_draws_here"]
theorem sc_law_not_integer : FnScope N_law_not_integer P_law_not_integer (defScope s_law_not_integer) := ⟨rfl, rfl, rfl, by decide +kernel, rfl, by decide +kernel, by decide +kernel⟩
def p_law_not_within : { s : Stmt // top 33 = s } := by
  refine ⟨?s, ?h⟩
  case h => conv => lhs; whnf
abbrev s_law_not_within : Stmt := p_law_not_within.1
abbrev N_law_not_within : List Str := ["_law_draws_here", "_law_low", "_law_high", "_law_kind"]
abbrev P_law_not_within : List Str := ["_law_draws_here", "_law_low", "_law_high"]
theorem sc_law_not_within : FnScope N_law_not_within P_law_not_within (defScope s_law_not_within) := ⟨rfl, rfl, rfl, by decide +kernel, rfl, by decide +kernel, by decide +kernel⟩
def p_law_not_among : { s : Stmt // top 34 = s } := by
  refine ⟨?s, ?h⟩
  case h => conv => lhs; whnf
abbrev s_law_not_among : Stmt := p_law_not_among.1
abbrev N_law_not_among : List Str := ["_law_draws_here", "_law_row", "_law_rest", "_law_value", "_law_known", "_law_member"]
abbrev P_law_not_among : List Str := ["_law_draws_here", "_law_row"]
theorem sc_law_not_among : FnScope N_law_not_among P_law_not_among (defScope s_law_not_among) := ⟨rfl, rfl, rfl, by decide +kernel, rfl, by decide +kernel, by decide +kernel⟩
def p_law_not_alignment : { s : Stmt // top 35 = s } := by
  refine ⟨?s, ?h⟩
  case h => conv => lhs; whnf
abbrev s_law_not_alignment : Stmt := p_law_not_alignment.1
abbrev N_law_not_alignment : List Str := ["_law_draws_here", "_law_most", "_law_kind"]
abbrev P_law_not_alignment : List Str := ["_law_draws_here", "_law_most"]
theorem sc_law_not_alignment : FnScope N_law_not_alignment P_law_not_alignment (defScope s_law_not_alignment) := ⟨rfl, rfl, rfl, by decide +kernel, rfl, by decide +kernel, by decide +kernel⟩
def p_law_is_int : { s : Stmt // top 36 = s } := by
  refine ⟨?s, ?h⟩
  case h => conv => lhs; whnf
abbrev s_law_is_int : Stmt := p_law_is_int.1
abbrev N_law_is_int : List Str := ["_law_value"]
abbrev P_law_is_int : List Str := ["_law_value"]
theorem sc_law_is_int : FnScope N_law_is_int P_law_is_int (defScope s_law_is_int) := ⟨rfl, rfl, rfl, by decide +kernel, rfl, by decide +kernel, by decide +kernel⟩
def p_law_is_ints : { s : Stmt // top 37 = s } := by
  refine ⟨?s, ?h⟩
  case h => conv => lhs; whnf
abbrev s_law_is_ints : Stmt := p_law_is_ints.1
abbrev N_law_is_ints : List Str := ["_law_value", "_law_listed", "_law_many", "_law_one"]
abbrev P_law_is_ints : List Str := ["_law_value", "_law_listed", "_law_many"]
theorem sc_law_is_ints : FnScope N_law_is_ints P_law_is_ints (defScope s_law_is_ints) := ⟨rfl, rfl, rfl, by decide +kernel, rfl, by decide +kernel, by decide +kernel⟩
def p_law_same : { s : Stmt // top 38 = s } := by
  refine ⟨?s, ?h⟩
  case h => conv => lhs; whnf
abbrev s_law_same : Stmt := p_law_same.1
abbrev N_law_same : List Str := ["_law_actual", "_law_expected", "_law_k", "_law_key"]
abbrev P_law_same : List Str := ["_law_actual", "_law_expected"]
theorem sc_law_same : FnScope N_law_same P_law_same (defScope s_law_same) := ⟨rfl, rfl, rfl, by decide +kernel, rfl, by decide +kernel, by decide +kernel⟩
def p_law_shape_ask : { s : Stmt // top 39 = s } := by
  refine ⟨?s, ?h⟩
  case h => conv => lhs; whnf
abbrev s_law_shape_ask : Stmt := p_law_shape_ask.1
abbrev N_law_shape_ask : List Str := ["_law_draws_here", "_law_page_width", "_law_power_here", "_law_alignment_here", "_law_whole", "_law_kind", "_law_size", "_law_page"]
abbrev P_law_shape_ask : List Str := ["_law_draws_here"]
theorem sc_law_shape_ask : FnScope N_law_shape_ask P_law_shape_ask (defScope s_law_shape_ask) := ⟨rfl, rfl, rfl, by decide +kernel, rfl, by decide +kernel, by decide +kernel⟩
def p_law_is_shape : { s : Stmt // top 40 = s } := by
  refine ⟨?s, ?h⟩
  case h => conv => lhs; whnf
abbrev s_law_is_shape : Stmt := p_law_is_shape.1
abbrev N_law_is_shape : List Str := ["_law_ask", "_law_told", "_law_whole", "_law_rest", "_law_page_width", "_law_power_here", "_law_size", "_law_alignment_here", "_law_page", "_law_stride", "_law_slots", "_law_colours"]
abbrev P_law_is_shape : List Str := ["_law_ask", "_law_told"]
theorem sc_law_is_shape : FnScope N_law_is_shape P_law_is_shape (defScope s_law_is_shape) := ⟨rfl, rfl, rfl, by decide +kernel, rfl, by decide +kernel, by decide +kernel⟩
def p_law_are_starts : { s : Stmt // top 41 = s } := by
  refine ⟨?s, ?h⟩
  case h => conv => lhs; whnf
abbrev s_law_are_starts : Stmt := p_law_are_starts.1
abbrev N_law_are_starts : List Str := ["_law_ask", "_law_told", "_law_starts", "_law_low", "_law_colour", "_law_k", "_law_behind", "_law_page_width", "_law_power_here", "_law_size", "_law_alignment_here", "_law_page"]
abbrev P_law_are_starts : List Str := ["_law_ask", "_law_told", "_law_starts"]
theorem sc_law_are_starts : FnScope N_law_are_starts P_law_are_starts (defScope s_law_are_starts) := ⟨rfl, rfl, rfl, by decide +kernel, rfl, by decide +kernel, by decide +kernel⟩
def p_law_refusal : { s : Stmt // top 42 = s } := by
  refine ⟨?s, ?h⟩
  case h => conv => lhs; whnf
abbrev s_law_refusal : Stmt := p_law_refusal.1
abbrev N_law_refusal : List Str := ["_law_row", "_law_is_starts", "e", "_law_kinds"]
abbrev P_law_refusal : List Str := ["_law_row", "_law_is_starts"]
theorem sc_law_refusal : FnScope N_law_refusal P_law_refusal (defScope s_law_refusal) := ⟨rfl, rfl, rfl, by decide +kernel, rfl, by decide +kernel, by decide +kernel⟩
def p_law_refuses : { s : Stmt // top 43 = s } := by
  refine ⟨?s, ?h⟩
  case h => conv => lhs; whnf
abbrev s_law_refuses : Stmt := p_law_refuses.1
abbrev N_law_refuses : List Str := ["_law_draws_here", "_law_ask", "_law_at", "_law_row", "_law_second", "_law_name", "_law_due", "_law_told", "_law_page_width", "_law_power_here", "_law_size", "_law_alignment_here", "_law_page"]
abbrev P_law_refuses : List Str := ["_law_draws_here", "_law_ask"]
theorem sc_law_refuses : FnScope N_law_refuses P_law_refuses (defScope s_law_refuses) := ⟨rfl, rfl, rfl, by decide +kernel, rfl, by decide +kernel, by decide +kernel⟩
def p_law : { s : Stmt // top 44 = s } := by
  refine ⟨?s, ?h⟩
  case h => conv => lhs; whnf
abbrev s_law : Stmt := p_law.1
abbrev N_law : List Str := ["_law_script", "_law_draws_here", "_law_asks", "_law_kept", "_law_k", "_law_page_width", "_law_power_here", "_law_size", "_law_alignment_here", "_law_page", "_law_ask", "_law_told", "_law_starts"]
abbrev P_law : List Str := ["_law_script"]
theorem sc_law : FnScope N_law P_law (defScope s_law) := ⟨rfl, rfl, rfl, by decide +kernel, rfl, by decide +kernel, by decide +kernel⟩
structure Tx (K : PySem.W.Frag) (mg : Str → Option Value) where
  fd_is_whole : FuncData
  F_is_whole : FnP K "is_whole" s_is_whole (He.ga K "is_whole") fd_is_whole
  g_is_whole : mg "is_whole" = some (.ref (He.ga K "is_whole"))
  fd_need : FuncData
  F_need : FnP K "need" s_need (He.ga K "need") fd_need
  g_need : mg "need" = some (.ref (He.ga K "need"))
  fd_need_whole : FuncData
  F_need_whole : FnP K "need_whole" s_need_whole (He.ga K "need_whole") fd_need_whole
  g_need_whole : mg "need_whole" = some (.ref (He.ga K "need_whole"))
  fd_is_width : FuncData
  F_is_width : FnP K "is_width" s_is_width (He.ga K "is_width") fd_is_width
  g_is_width : mg "is_width" = some (.ref (He.ga K "is_width"))
  fd_is_power : FuncData
  F_is_power : FnP K "is_power" s_is_power (He.ga K "is_power") fd_is_power
  g_is_power : mg "is_power" = some (.ref (He.ga K "is_power"))
  fd_need_align : FuncData
  F_need_align : FnP K "need_align" s_need_align (He.ga K "need_align") fd_need_align
  g_need_align : mg "need_align" = some (.ref (He.ga K "need_align"))
  fd_need_shape : FuncData
  F_need_shape : FnP K "need_shape" s_need_shape (He.ga K "need_shape") fd_need_shape
  g_need_shape : mg "need_shape" = some (.ref (He.ga K "need_shape"))
  fd_slab_shape : FuncData
  F_slab_shape : FnP K "slab_shape" s_slab_shape (He.ga K "slab_shape") fd_slab_shape
  g_slab_shape : mg "slab_shape" = some (.ref (He.ga K "slab_shape"))
  fd_slot_starts : FuncData
  F_slot_starts : FnP K "slot_starts" s_slot_starts (He.ga K "slot_starts") fd_slot_starts
  g_slot_starts : mg "slot_starts" = some (.ref (He.ga K "slot_starts"))
  fd_law_draws : FuncData
  F_law_draws : FnP K "_law_draws" s_law_draws (He.ga K "_law_draws") fd_law_draws
  g_law_draws : mg "_law_draws" = some (.ref (He.ga K "_law_draws"))
  fd_law_next_cell : FuncData
  F_law_next_cell : FnP K "_law_next_cell" s_law_next_cell (He.ga K "_law_next_cell") fd_law_next_cell
  g_law_next_cell : mg "_law_next_cell" = some (.ref (He.ga K "_law_next_cell"))
  fd_law_mixed : FuncData
  F_law_mixed : FnP K "_law_mixed" s_law_mixed (He.ga K "_law_mixed") fd_law_mixed
  g_law_mixed : mg "_law_mixed" = some (.ref (He.ga K "_law_mixed"))
  fd_law_take : FuncData
  F_law_take : FnP K "_law_take" s_law_take (He.ga K "_law_take") fd_law_take
  g_law_take : mg "_law_take" = some (.ref (He.ga K "_law_take"))
  fd_law_among : FuncData
  F_law_among : FnP K "_law_among" s_law_among (He.ga K "_law_among") fd_law_among
  g_law_among : mg "_law_among" = some (.ref (He.ga K "_law_among"))
  fd_law_between : FuncData
  F_law_between : FnP K "_law_between" s_law_between (He.ga K "_law_between") fd_law_between
  g_law_between : mg "_law_between" = some (.ref (He.ga K "_law_between"))
  fd_law_number : FuncData
  F_law_number : FnP K "_law_number" s_law_number (He.ga K "_law_number") fd_law_number
  g_law_number : mg "_law_number" = some (.ref (He.ga K "_law_number"))
  fd_law_alignment : FuncData
  F_law_alignment : FnP K "_law_alignment" s_law_alignment (He.ga K "_law_alignment") fd_law_alignment
  g_law_alignment : mg "_law_alignment" = some (.ref (He.ga K "_law_alignment"))
  fd_law_power : FuncData
  F_law_power : FnP K "_law_power" s_law_power (He.ga K "_law_power") fd_law_power
  g_law_power : mg "_law_power" = some (.ref (He.ga K "_law_power"))
  fd_law_long : FuncData
  F_law_long : FnP K "_law_long" s_law_long (He.ga K "_law_long") fd_law_long
  g_law_long : mg "_law_long" = some (.ref (He.ga K "_law_long"))
  fd_law_not_integer : FuncData
  F_law_not_integer : FnP K "_law_not_integer" s_law_not_integer (He.ga K "_law_not_integer") fd_law_not_integer
  g_law_not_integer : mg "_law_not_integer" = some (.ref (He.ga K "_law_not_integer"))
  fd_law_not_within : FuncData
  F_law_not_within : FnP K "_law_not_within" s_law_not_within (He.ga K "_law_not_within") fd_law_not_within
  g_law_not_within : mg "_law_not_within" = some (.ref (He.ga K "_law_not_within"))
  fd_law_not_among : FuncData
  F_law_not_among : FnP K "_law_not_among" s_law_not_among (He.ga K "_law_not_among") fd_law_not_among
  g_law_not_among : mg "_law_not_among" = some (.ref (He.ga K "_law_not_among"))
  fd_law_not_alignment : FuncData
  F_law_not_alignment : FnP K "_law_not_alignment" s_law_not_alignment (He.ga K "_law_not_alignment") fd_law_not_alignment
  g_law_not_alignment : mg "_law_not_alignment" = some (.ref (He.ga K "_law_not_alignment"))
  fd_law_is_int : FuncData
  F_law_is_int : FnP K "_law_is_int" s_law_is_int (He.ga K "_law_is_int") fd_law_is_int
  g_law_is_int : mg "_law_is_int" = some (.ref (He.ga K "_law_is_int"))
  fd_law_is_ints : FuncData
  F_law_is_ints : FnP K "_law_is_ints" s_law_is_ints (He.ga K "_law_is_ints") fd_law_is_ints
  g_law_is_ints : mg "_law_is_ints" = some (.ref (He.ga K "_law_is_ints"))
  fd_law_same : FuncData
  F_law_same : FnP K "_law_same" s_law_same (He.ga K "_law_same") fd_law_same
  g_law_same : mg "_law_same" = some (.ref (He.ga K "_law_same"))
  fd_law_shape_ask : FuncData
  F_law_shape_ask : FnP K "_law_shape_ask" s_law_shape_ask (He.ga K "_law_shape_ask") fd_law_shape_ask
  g_law_shape_ask : mg "_law_shape_ask" = some (.ref (He.ga K "_law_shape_ask"))
  fd_law_is_shape : FuncData
  F_law_is_shape : FnP K "_law_is_shape" s_law_is_shape (He.ga K "_law_is_shape") fd_law_is_shape
  g_law_is_shape : mg "_law_is_shape" = some (.ref (He.ga K "_law_is_shape"))
  fd_law_are_starts : FuncData
  F_law_are_starts : FnP K "_law_are_starts" s_law_are_starts (He.ga K "_law_are_starts") fd_law_are_starts
  g_law_are_starts : mg "_law_are_starts" = some (.ref (He.ga K "_law_are_starts"))
  fd_law_refusal : FuncData
  F_law_refusal : FnP K "_law_refusal" s_law_refusal (He.ga K "_law_refusal") fd_law_refusal
  g_law_refusal : mg "_law_refusal" = some (.ref (He.ga K "_law_refusal"))
  fd_law_refuses : FuncData
  F_law_refuses : FnP K "_law_refuses" s_law_refuses (He.ga K "_law_refuses") fd_law_refuses
  g_law_refuses : mg "_law_refuses" = some (.ref (He.ga K "_law_refuses"))
  fd_law : FuncData
  F_law : FnP K "law" s_law (He.ga K "law") fd_law
  g_law : mg "law" = some (.ref (He.ga K "law"))
  c_MOST_ORDER : ∃ t, mg "MOST_ORDER" = some (.int 8 t)
  c_MOST_PAGES : ∃ t, mg "MOST_PAGES" = some (.int 256 t)
  c_MOST_SLOT : ∃ t, mg "MOST_SLOT" = some (.int 4096 t)
  g_WIDTHS : mg "WIDTHS" = some (.ref (He.ga K "WIDTHS"))
  w_WIDTHS : ∀ H : Hp, SqT K H (He.ga K "WIDTHS") [.int 16, .int 32, .int 64]
  g_BadValue : mg "BadValue" = some (.ref (He.ga K "BadValue"))
  g_StoreError : mg "StoreError" = some (.ref (He.ga K "StoreError"))
  g_Unknown : mg "Unknown" = some (.ref (He.ga K "Unknown"))
  z_ValueError : mg "ValueError" = none
  z_bool : mg "bool" = none
  z_dict : mg "dict" = none
  z_int : mg "int" = none
  z_isinstance : mg "isinstance" = none
  z_len : mg "len" = none
  z_list : mg "list" = none
  z_max : mg "max" = none
  z_min : mg "min" = none
  z_range : mg "range" = none
  z_str : mg "str" = none
  z_tuple : mg "tuple" = none
  fd_BadValue : FuncData
  F_BadValue : FunD K "__init__" "BadValue.__init__" (defArgs s_BadValue) (defBody s_BadValue) (defScope s_BadValue) [] [] (iBV K) fd_BadValue
  x_BadValue : OexC K (aBV K)
  i_BadValue : PySem.W.findIn K (.ref (aBV K)) "__init__" = some (some (.ref (iBV K)))
  t_BadValue : PySem.W.typeIn K (.ref (iBV K)) = some (.type "function")
  n_BadValue_parameter : PySem.W.findIn K (.ref (aBV K)) "parameter" = some none
  n_BadValue_told : PySem.W.findIn K (.ref (aBV K)) "told" = some none
  f_BadValue : XfC K (aBV K)
  d_BadValue : ExcD K (aBV K)
  m_BadValue : PySem.W.exmOne K (.ref (aBV K)) (.ref (aBV K)) = some true
  k_ValueError : PySem.W.kitOne K (.ref (aBV K)) (.type "ValueError") = some true
  k_StoreError : PySem.W.kitOne K (.ref (aBV K)) (.ref (He.ga K "StoreError")) = some true
  k_BadValue : PySem.W.kitOne K (.ref (aBV K)) (.ref (He.ga K "BadValue")) = some true
  k_Unknown : PySem.W.kitOne K (.ref (aBV K)) (.ref (He.ga K "Unknown")) = some false
variable {P : Program} {w : World} {K : PySem.W.Frag} {mg : Str → Option Value} {base : Heap}
theorem b_is_whole (T : Tx K mg) : Binds K T.fd_is_whole P_is_whole [] := T.F_is_whole.bindsN fun _ _ _ _ _ _ us hl => match us, hl with | [_], _ => rfl
theorem b_need (T : Tx K mg) : Binds K T.fd_need P_need [] := T.F_need.bindsN fun _ _ _ _ _ _ us hl => match us, hl with | [_, _], _ => rfl
theorem b_need_whole (T : Tx K mg) : Binds K T.fd_need_whole P_need_whole [] := T.F_need_whole.bindsN fun _ _ _ _ _ _ us hl => match us, hl with | [_, _, _, _], _ => rfl
theorem b_is_width (T : Tx K mg) : Binds K T.fd_is_width P_is_width [] := T.F_is_width.bindsN fun _ _ _ _ _ _ us hl => match us, hl with | [_], _ => rfl
theorem b_is_power (T : Tx K mg) : Binds K T.fd_is_power P_is_power [] := T.F_is_power.bindsN fun _ _ _ _ _ _ us hl => match us, hl with | [_], _ => rfl
theorem b_need_align (T : Tx K mg) : Binds K T.fd_need_align P_need_align [] := T.F_need_align.bindsN fun _ _ _ _ _ _ us hl => match us, hl with | [_, _, _], _ => rfl
theorem b_need_shape (T : Tx K mg) : Binds K T.fd_need_shape P_need_shape [] := T.F_need_shape.bindsN fun _ _ _ _ _ _ us hl => match us, hl with | [_, _, _, _], _ => rfl
theorem b_slab_shape (T : Tx K mg) : Binds K T.fd_slab_shape P_slab_shape [] := T.F_slab_shape.bindsN fun _ _ _ _ _ _ us hl => match us, hl with | [_, _, _, _], _ => rfl
theorem b_slot_starts (T : Tx K mg) : Binds K T.fd_slot_starts P_slot_starts [] := T.F_slot_starts.bindsN fun _ _ _ _ _ _ us hl => match us, hl with | [_, _, _, _, _], _ => rfl
theorem b_law_draws (T : Tx K mg) : Binds K T.fd_law_draws P_law_draws [] := T.F_law_draws.bindsN fun _ _ _ _ _ _ us hl => match us, hl with | [_], _ => rfl
theorem b_law_next_cell (T : Tx K mg) : Binds K T.fd_law_next_cell P_law_next_cell [] := T.F_law_next_cell.bindsN fun _ _ _ _ _ _ us hl => match us, hl with | [_], _ => rfl
theorem b_law_mixed (T : Tx K mg) : Binds K T.fd_law_mixed P_law_mixed [] := T.F_law_mixed.bindsN fun _ _ _ _ _ _ us hl => match us, hl with | [_, _, _], _ => rfl
theorem b_law_take (T : Tx K mg) : Binds K T.fd_law_take P_law_take [] := T.F_law_take.bindsN fun _ _ _ _ _ _ us hl => match us, hl with | [_, _], _ => rfl
theorem b_law_among (T : Tx K mg) : Binds K T.fd_law_among P_law_among [] := T.F_law_among.bindsN fun _ _ _ _ _ _ us hl => match us, hl with | [_, _], _ => rfl
theorem b_law_between (T : Tx K mg) : Binds K T.fd_law_between P_law_between [] := T.F_law_between.bindsN fun _ _ _ _ _ _ us hl => match us, hl with | [_, _, _], _ => rfl
theorem b_law_number (T : Tx K mg) : Binds K T.fd_law_number P_law_number [] := T.F_law_number.bindsN fun _ _ _ _ _ _ us hl => match us, hl with | [_, _, _], _ => rfl
theorem b_law_alignment (T : Tx K mg) : Binds K T.fd_law_alignment P_law_alignment [] := T.F_law_alignment.bindsN fun _ _ _ _ _ _ us hl => match us, hl with | [_, _], _ => rfl
theorem b_law_power (T : Tx K mg) : Binds K T.fd_law_power P_law_power [] := T.F_law_power.bindsN fun _ _ _ _ _ _ us hl => match us, hl with | [_], _ => rfl
theorem b_law_long (T : Tx K mg) : Binds K T.fd_law_long P_law_long [] := T.F_law_long.bindsN fun _ _ _ _ _ _ us hl => match us, hl with | [], _ => rfl
theorem b_law_not_integer (T : Tx K mg) : Binds K T.fd_law_not_integer P_law_not_integer [] := T.F_law_not_integer.bindsN fun _ _ _ _ _ _ us hl => match us, hl with | [_], _ => rfl
theorem b_law_not_within (T : Tx K mg) : Binds K T.fd_law_not_within P_law_not_within [] := T.F_law_not_within.bindsN fun _ _ _ _ _ _ us hl => match us, hl with | [_, _, _], _ => rfl
theorem b_law_not_among (T : Tx K mg) : Binds K T.fd_law_not_among P_law_not_among [] := T.F_law_not_among.bindsN fun _ _ _ _ _ _ us hl => match us, hl with | [_, _], _ => rfl
theorem b_law_not_alignment (T : Tx K mg) : Binds K T.fd_law_not_alignment P_law_not_alignment [] := T.F_law_not_alignment.bindsN fun _ _ _ _ _ _ us hl => match us, hl with | [_, _], _ => rfl
theorem b_law_is_int (T : Tx K mg) : Binds K T.fd_law_is_int P_law_is_int [] := T.F_law_is_int.bindsN fun _ _ _ _ _ _ us hl => match us, hl with | [_], _ => rfl
theorem b_law_is_ints (T : Tx K mg) : Binds K T.fd_law_is_ints P_law_is_ints [] := T.F_law_is_ints.bindsN fun _ _ _ _ _ _ us hl => match us, hl with | [_, _, _], _ => rfl
theorem b_law_same (T : Tx K mg) : Binds K T.fd_law_same P_law_same [] := T.F_law_same.bindsN fun _ _ _ _ _ _ us hl => match us, hl with | [_, _], _ => rfl
theorem b_law_shape_ask (T : Tx K mg) : Binds K T.fd_law_shape_ask P_law_shape_ask [] := T.F_law_shape_ask.bindsN fun _ _ _ _ _ _ us hl => match us, hl with | [_], _ => rfl
theorem b_law_is_shape (T : Tx K mg) : Binds K T.fd_law_is_shape P_law_is_shape [] := T.F_law_is_shape.bindsN fun _ _ _ _ _ _ us hl => match us, hl with | [_, _], _ => rfl
theorem b_law_are_starts (T : Tx K mg) : Binds K T.fd_law_are_starts P_law_are_starts [] := T.F_law_are_starts.bindsN fun _ _ _ _ _ _ us hl => match us, hl with | [_, _, _], _ => rfl
theorem b_law_refusal (T : Tx K mg) : Binds K T.fd_law_refusal P_law_refusal [] := T.F_law_refusal.bindsN fun _ _ _ _ _ _ us hl => match us, hl with | [_, _], _ => rfl
theorem b_law_refuses (T : Tx K mg) : Binds K T.fd_law_refuses P_law_refuses [] := T.F_law_refuses.bindsN fun _ _ _ _ _ _ us hl => match us, hl with | [_, _], _ => rfl
theorem b_law (T : Tx K mg) : Binds K T.fd_law P_law [] := T.F_law.bindsN fun _ _ _ _ _ _ us hl => match us, hl with | [_], _ => rfl
theorem b_BadValue (T : Tx K mg) : Binds K T.fd_BadValue P_BadValue [] := T.F_BadValue.bindsN fun _ _ _ _ _ _ us hl => match us, hl with | [_, _], _ => rfl
end K25

namespace K25
open PySem PySem.Spec PyProof.Rows L2 LL
variable {P : Program} {w : World} {K : PySem.W.Frag} {mg : Str → Option Value} {base : Heap}

/-- 0 < many: a number of 0 .. many - 1 -/
def sp_law_mixed : Sp := fun vs H Q _ => ∃ a b m : Int, vs = [.int a, .int b, .int m] ∧ 0 < m ∧ ∀ v : Int, 0 ≤ v → v < m → Q (.int v) H
def sp_law_next_cell : Sp := fun vs H Q _ => ∃ d s, vs = [.ref d] ∧ Drw d s H ∧ ∀ H', Aft d s H H' → Q .non H'
def sp_law_take : Sp := fun vs H Q _ => ∃ d s m, vs = [.ref d, .int m] ∧ Drw d s H ∧ m.natAbs < 2 ^ 4000 ∧ ∀ v H', Aft d s H H' → 0 ≤ v → (v < m ∨ v = 0) → Q (.int v) H'
theorem use_take {d s : Addr} {m : Int} {H : Hp} {Q : VK} {E : XK} (D : Drw d s H) (hm : m.natAbs < 2 ^ 4000) (q : ∀ v H', Aft d s H H' → Drw d s H' → 0 ≤ v → (v < m ∨ v = 0) → Q (.int v) H') : sp_law_take [.ref d, .int m] H Q E :=
  ⟨d, s, m, rfl, D, hm, fun v H' a => q v H' a a.dr⟩

theorem ok_law_mixed (T : Tx K mg) : FnOk P w K mg base CX0 1 (He.ga K "_law_mixed") T.fd_law_mixed P_law_mixed sp_law_mixed := by
  refine T.F_law_mixed.ok sc_law_mixed (fun vs H Q E h => ?_) (fun cdv A outer s H vs Q E hr h => ⟨_, PSs.nox (pss_cons (ps_set (i := 3) sc_law_mixed.nd rfl (Or.inl rfl) (pe_int)) (pss_cons (ps_for PassesOwn.never rfl (pi_range1 rfl T.z_range (pa_cons (pe_int) pa_nil)) (pg_name (i := 4) sc_law_mixed.nd rfl (Or.inl rfl)) (pss_cons (ps_set (i := 5) sc_law_mixed.nd rfl (Or.inl rfl) (pe_op op_mod (pe_callTy LL.call_intI (by rfl) T.z_int (by decide +kernel) (pa_cons (pe_op op_mul (pe_op op_add (pe_op op_add (pv 0) (pe_int)) (pe_op op_mul (pe_op op_add (pe_op op_mul (pe_int) (pv 1)) (pv 4)) (pe_int))) (pe_int)) pa_nil)) (pe_int))) (pss_cons (ps_set (i := 6) sc_law_mixed.nd rfl (Or.inl rfl) (pe_op op_mod (pe_callTy LL.call_intI (by rfl) T.z_int (by decide +kernel) (pa_cons (pe_op op_add (pe_op op_add (pe_op op_mul (pv 5) (pv 5)) (pe_op op_mul (pe_op op_fdiv (pv 5) (pe_int)) (pe_int))) (pv 1)) pa_nil)) (pe_int))) (pss_one (ps_set (i := 3) sc_law_mixed.nd rfl (Or.inl rfl) (pe_op op_add (pe_op op_mul (pv 3) (pe_int)) (pe_op op_fdiv (pv 6) (pe_int)))))))) (pss_one (ps_ret (pe_op op_mod (pe_callTy LL.call_intI (by rfl) T.z_int (by decide +kernel) (pa_cons (pv 3) pa_nil)) (pv 2)))))), ?_⟩)
  · obtain ⟨_, _, _, rfl, _⟩ := h
    rfl
  · obtain ⟨a, b, m, rfl, hm, q⟩ := h
    simp only [tSeq, tAsg, tRet, tRetN, tDrop, tNext, tVar, tC, gName, tOp, tUn, rI, rI0, rU, tIfS, tTest, tB, tIf, tAnd, tOr, tNot, tAndV, tOrV, tNotV, tCall, tCons, tNil, tCB, tLst, tTup, tChain, CMul, CDiv, CPow, rEq, rNe, gSub, L2.start, LL.cxK0, LL.cxK1, List.map_cons, List.map_nil, List.length_cons, List.length_nil, List.replicate_succ, List.replicate_zero, List.cons_append, List.nil_append, List.append_nil, List.getElem?_cons_zero, List.getElem?_cons_succ, List.set_cons_zero, List.set_cons_succ, Nat.add_sub_cancel, Nat.reduceAdd, Nat.reduceSub, Option.some.injEq, V.int.injEq, V.bl.injEq, V.ref.injEq, V.str.injEq, List.cons.injEq, and_true, true_and, and_false, false_and, exists_eq_left, exists_eq_left', exists_and_left, exists_and_right, exists_eq, exists_eq', LL.if_dec, reduceCtorEq, exists_false, exists_const, or_false, false_or, if_true, if_false, LL.rInt1, LL.rMx, LL.rMn, and_assoc, Int.reduceNeg, Int.reduceLT, Int.reduceLE, Int.reduceMul, Int.reduceAdd, Int.reduceSub, Int.reducePow, Int.reduceToNat, Nat.reducePow, Nat.reduceLT, true_or, or_true, Bool.not_true, Bool.not_false, Bool.false_eq_true, Bool.or_false, Bool.or_true, Bool.true_or, Bool.false_or, decide_true, decide_false, not_true_eq_false, not_false_eq_true, LL.scal_int, LL.scal_bl, LL.scal_str, LL.isInt, LL.isBl, LL.isStr, LL.isLst, LL.isTup, LL.isDic, N_law_mixed]
    refine use_forR (j := 2) (fun Q q => q) (by decide) (by decide) (fun i σ' H' => H' = H ∧ ∃ (v : Int) (x1 x2 x3 : Option V), σ' = [some (.int a), some (.int b), some (.int m), some (.int v), x1, x2, x3]) ⟨rfl, _, _, _, _, rfl⟩ ?_ ?_
    · rintro i σ' H' hi ⟨rfl, v, x1, x2, x3, rfl⟩
      simp only [tSeq, tAsg, tRet, tRetN, tDrop, tNext, tVar, tC, gName, tOp, tUn, rI, rI0, rU, tIfS, tTest, tB, tIf, tAnd, tOr, tNot, tAndV, tOrV, tNotV, tCall, tCons, tNil, tCB, tLst, tTup, tChain, CMul, CDiv, CPow, rEq, rNe, gSub, L2.start, LL.cxK0, LL.cxK1, List.map_cons, List.map_nil, List.length_cons, List.length_nil, List.replicate_succ, List.replicate_zero, List.cons_append, List.nil_append, List.append_nil, List.getElem?_cons_zero, List.getElem?_cons_succ, List.set_cons_zero, List.set_cons_succ, Nat.add_sub_cancel, Nat.reduceAdd, Nat.reduceSub, Option.some.injEq, V.int.injEq, V.bl.injEq, V.ref.injEq, V.str.injEq, List.cons.injEq, and_true, true_and, and_false, false_and, exists_eq_left, exists_eq_left', exists_and_left, exists_and_right, exists_eq, exists_eq', LL.if_dec, reduceCtorEq, exists_false, exists_const, or_false, false_or, if_true, if_false, LL.rInt1, LL.rMx, LL.rMn, and_assoc, Int.reduceNeg, Int.reduceLT, Int.reduceLE, Int.reduceMul, Int.reduceAdd, Int.reduceSub, Int.reducePow, Int.reduceToNat, Nat.reducePow, Nat.reduceLT, true_or, or_true, Bool.not_true, Bool.not_false, Bool.false_eq_true, Bool.or_false, Bool.or_true, Bool.true_or, Bool.false_or, decide_true, decide_false, not_true_eq_false, not_false_eq_true, LL.scal_int, LL.scal_bl, LL.scal_str, LL.isInt, LL.isBl, LL.isStr, LL.isLst, LL.isTup, LL.isDic]
      have h1 := Int.emod_nonneg ((a + 7 + (2 * b + (0 + (i : Int))) * 1000003) * 48271) (show (2147483647 : Int) ≠ 0 by decide)
      have h2 := Int.emod_lt_of_pos ((a + 7 + (2 * b + (0 + (i : Int))) * 1000003) * 48271) (show (0 : Int) < 2147483647 by decide)
      exact Or.inl ⟨by omega, by omega⟩
    · rintro σ' H' ⟨rfl, v, x1, x2, x3, rfl⟩
      simp only [tSeq, tAsg, tRet, tRetN, tDrop, tNext, tVar, tC, gName, tOp, tUn, rI, rI0, rU, tIfS, tTest, tB, tIf, tAnd, tOr, tNot, tAndV, tOrV, tNotV, tCall, tCons, tNil, tCB, tLst, tTup, tChain, CMul, CDiv, CPow, rEq, rNe, gSub, L2.start, LL.cxK0, LL.cxK1, List.map_cons, List.map_nil, List.length_cons, List.length_nil, List.replicate_succ, List.replicate_zero, List.cons_append, List.nil_append, List.append_nil, List.getElem?_cons_zero, List.getElem?_cons_succ, List.set_cons_zero, List.set_cons_succ, Nat.add_sub_cancel, Nat.reduceAdd, Nat.reduceSub, Option.some.injEq, V.int.injEq, V.bl.injEq, V.ref.injEq, V.str.injEq, List.cons.injEq, and_true, true_and, and_false, false_and, exists_eq_left, exists_eq_left', exists_and_left, exists_and_right, exists_eq, exists_eq', LL.if_dec, reduceCtorEq, exists_false, exists_const, or_false, false_or, if_true, if_false, LL.rInt1, LL.rMx, LL.rMn, and_assoc, Int.reduceNeg, Int.reduceLT, Int.reduceLE, Int.reduceMul, Int.reduceAdd, Int.reduceSub, Int.reducePow, Int.reduceToNat, Nat.reducePow, Nat.reduceLT, true_or, or_true, Bool.not_true, Bool.not_false, Bool.false_eq_true, Bool.or_false, Bool.or_true, Bool.true_or, Bool.false_or, decide_true, decide_false, not_true_eq_false, not_false_eq_true, LL.scal_int, LL.scal_bl, LL.scal_str, LL.isInt, LL.isBl, LL.isStr, LL.isLst, LL.isTup, LL.isDic]
      exact ⟨hm, q _ (Int.emod_nonneg _ (by omega)) (Int.emod_lt_of_pos _ hm)⟩
theorem ok_law_next_cell (T : Tx K mg) : FnOk P w K mg base CX0 1 (He.ga K "_law_next_cell") T.fd_law_next_cell P_law_next_cell sp_law_next_cell := by
  refine T.F_law_next_cell.ok sc_law_next_cell (fun vs H Q E h => ?_) (fun cdv A outer s H vs Q E hr h => ⟨_, PSs.nox (pss_cons (ps_set (i := 1) sc_law_next_cell.nd rfl (Or.inl rfl) (pe_ix (show IxR _ (rIxL K) from ix_list) (pv 0) (pe_int) (fun _ _ => rfl))) (pss_cons (ps_set (i := 2) sc_law_next_cell.nd rfl (Or.inl rfl) (pe_ix (show IxR _ (rIxL K) from ix_list) (pv 0) (pe_int) (fun _ _ => rfl))) (pss_one (ps_if (pt_cmpR op_lt (pe_ix (show IxR _ (rIxL K) from ix_list) (pv 2) (pe_int) (fun _ _ => rfl)) (pe_callB LL.call_lenL (by rfl) T.z_len (by decide +kernel) (pa_cons (pv 1) pa_nil)) (nomark _)) (pss_cons (ps_set (i := 3) sc_law_next_cell.nd rfl (Or.inl rfl) (pe_callTy LL.call_intI (by rfl) T.z_int (by decide +kernel) (pa_cons (pe_ix (show IxR _ (rIxL K) from ix_list) (pv 1) (pe_ix (show IxR _ (rIxL K) from ix_list) (pv 2) (pe_int) (fun _ _ => rfl)) (fun _ _ => rfl)) pa_nil))) (pss_cons (ps_asg (pe_op op_add (pe_ix (show IxR _ (rIxL K) from ix_list) (pv 2) (pe_int) (fun _ _ => rfl)) (pe_int)) (pg_sub (pv 2) (pe_int) set_list)) (pss_cons (ps_asg (pe_op op_mod (pe_callTy LL.call_intI (by rfl) T.z_int (by decide +kernel) (pa_cons (pe_op op_add (pe_op op_add (pe_op op_mul (pe_ix (show IxR _ (rIxL K) from ix_list) (pv 2) (pe_int) (fun _ _ => rfl)) (pe_int)) (pe_op op_mod (pv 3) (pe_int))) (pe_int)) pa_nil)) (pe_int)) (pg_sub (pv 2) (pe_int) set_list)) (pss_one (ps_if (pt_cmpR op_ge (pv 3) (pe_op op_pow (pe_int) (pe_int)) (nomark _)) (pss_one (ps_asg (pv 3) (pg_sub (pv 2) (pe_int) set_list))) (pss_one (ps_asg (pe_int) (pg_sub (pv 2) (pe_int) set_list)))))))) pss_nil)))), ?_⟩)
  · obtain ⟨_, _, rfl, _⟩ := h
    rfl
  · obtain ⟨d, s, rfl, D, q⟩ := h
    obtain ⟨⟨c, hd, hcs, ns, hc⟩, ⟨i, v, k, t, gg, hi, hs⟩, hds⟩ := _root_.id D
    simp only [tSeq, tAsg, tRet, tRetN, tDrop, tNext, tVar, tC, gName, tOp, tUn, rI, rI0, rU, tIfS, tTest, tB, tIf, tAnd, tOr, tNot, tAndV, tOrV, tNotV, tCall, tCons, tNil, tCB, tLst, tTup, tChain, CMul, CDiv, CPow, rEq, rNe, gSub, L2.start, LL.cxK0, LL.cxK1, List.map_cons, List.map_nil, List.length_cons, List.length_nil, List.replicate_succ, List.replicate_zero, List.cons_append, List.nil_append, List.append_nil, List.getElem?_cons_zero, List.getElem?_cons_succ, List.set_cons_zero, List.set_cons_succ, Nat.add_sub_cancel, Nat.reduceAdd, Nat.reduceSub, Option.some.injEq, V.int.injEq, V.bl.injEq, V.ref.injEq, V.str.injEq, List.cons.injEq, and_true, true_and, and_false, false_and, exists_eq_left, exists_eq_left', exists_and_left, exists_and_right, exists_eq, exists_eq', LL.if_dec, reduceCtorEq, exists_false, exists_const, or_false, false_or, if_true, if_false, LL.rInt1, LL.rMx, LL.rMn, and_assoc, Int.reduceNeg, Int.reduceLT, Int.reduceLE, Int.reduceMul, Int.reduceAdd, Int.reduceSub, Int.reducePow, Int.reduceToNat, Nat.reducePow, Nat.reduceLT, true_or, or_true, Bool.not_true, Bool.not_false, Bool.false_eq_true, Bool.or_false, Bool.or_true, Bool.true_or, Bool.false_or, decide_true, decide_false, not_true_eq_false, not_false_eq_true, LL.scal_int, LL.scal_bl, LL.scal_str, LL.isInt, LL.isBl, LL.isStr, LL.isLst, LL.isTup, LL.isDic, N_law_next_cell]
    refine use_ixL hd rfl (use_ixL hd rfl (use_ixL hs rfl ?_))
    refine use_lenL hc ?_
    simp only [tSeq, tAsg, tRet, tRetN, tDrop, tNext, tVar, tC, gName, tOp, tUn, rI, rI0, rU, tIfS, tTest, tB, tIf, tAnd, tOr, tNot, tAndV, tOrV, tNotV, tCall, tCons, tNil, tCB, tLst, tTup, tChain, CMul, CDiv, CPow, rEq, rNe, gSub, L2.start, LL.cxK0, LL.cxK1, List.map_cons, List.map_nil, List.length_cons, List.length_nil, List.replicate_succ, List.replicate_zero, List.cons_append, List.nil_append, List.append_nil, List.getElem?_cons_zero, List.getElem?_cons_succ, List.set_cons_zero, List.set_cons_succ, Nat.add_sub_cancel, Nat.reduceAdd, Nat.reduceSub, Option.some.injEq, V.int.injEq, V.bl.injEq, V.ref.injEq, V.str.injEq, List.cons.injEq, and_true, true_and, and_false, false_and, exists_eq_left, exists_eq_left', exists_and_left, exists_and_right, exists_eq, exists_eq', LL.if_dec, reduceCtorEq, exists_false, exists_const, or_false, false_or, if_true, if_false, LL.rInt1, LL.rMx, LL.rMn, and_assoc, Int.reduceNeg, Int.reduceLT, Int.reduceLE, Int.reduceMul, Int.reduceAdd, Int.reduceSub, Int.reducePow, Int.reduceToNat, Nat.reducePow, Nat.reduceLT, true_or, or_true, Bool.not_true, Bool.not_false, Bool.false_eq_true, Bool.or_false, Bool.or_true, Bool.true_or, Bool.false_or, decide_true, decide_false, not_true_eq_false, not_false_eq_true, LL.scal_int, LL.scal_bl, LL.scal_str, LL.isInt, LL.isBl, LL.isStr, LL.isLst, LL.isTup, LL.isDic]
    split
    · rename_i hlt
      obtain ⟨n, hn⟩ := atI_int hi (by simpa using hlt)
      refine use_ixL hs rfl (use_ixL hc hn ?_)
      simp only [tSeq, tAsg, tRet, tRetN, tDrop, tNext, tVar, tC, gName, tOp, tUn, rI, rI0, rU, tIfS, tTest, tB, tIf, tAnd, tOr, tNot, tAndV, tOrV, tNotV, tCall, tCons, tNil, tCB, tLst, tTup, tChain, CMul, CDiv, CPow, rEq, rNe, gSub, L2.start, LL.cxK0, LL.cxK1, List.map_cons, List.map_nil, List.length_cons, List.length_nil, List.replicate_succ, List.replicate_zero, List.cons_append, List.nil_append, List.append_nil, List.getElem?_cons_zero, List.getElem?_cons_succ, List.set_cons_zero, List.set_cons_succ, Nat.add_sub_cancel, Nat.reduceAdd, Nat.reduceSub, Option.some.injEq, V.int.injEq, V.bl.injEq, V.ref.injEq, V.str.injEq, List.cons.injEq, and_true, true_and, and_false, false_and, exists_eq_left, exists_eq_left', exists_and_left, exists_and_right, exists_eq, exists_eq', LL.if_dec, reduceCtorEq, exists_false, exists_const, or_false, false_or, if_true, if_false, LL.rInt1, LL.rMx, LL.rMn, and_assoc, Int.reduceNeg, Int.reduceLT, Int.reduceLE, Int.reduceMul, Int.reduceAdd, Int.reduceSub, Int.reducePow, Int.reduceToNat, Nat.reducePow, Nat.reduceLT, true_or, or_true, Bool.not_true, Bool.not_false, Bool.false_eq_true, Bool.or_false, Bool.or_true, Bool.true_or, Bool.false_or, decide_true, decide_false, not_true_eq_false, not_false_eq_true, LL.scal_int, LL.scal_bl, LL.scal_str, LL.isInt, LL.isBl, LL.isStr, LL.isLst, LL.isTup, LL.isDic]
      refine use_ixL hs rfl ?_
      simp only [tSeq, tAsg, tRet, tRetN, tDrop, tNext, tVar, tC, gName, tOp, tUn, rI, rI0, rU, tIfS, tTest, tB, tIf, tAnd, tOr, tNot, tAndV, tOrV, tNotV, tCall, tCons, tNil, tCB, tLst, tTup, tChain, CMul, CDiv, CPow, rEq, rNe, gSub, L2.start, LL.cxK0, LL.cxK1, List.map_cons, List.map_nil, List.length_cons, List.length_nil, List.replicate_succ, List.replicate_zero, List.cons_append, List.nil_append, List.append_nil, List.getElem?_cons_zero, List.getElem?_cons_succ, List.set_cons_zero, List.set_cons_succ, Nat.add_sub_cancel, Nat.reduceAdd, Nat.reduceSub, Option.some.injEq, V.int.injEq, V.bl.injEq, V.ref.injEq, V.str.injEq, List.cons.injEq, and_true, true_and, and_false, false_and, exists_eq_left, exists_eq_left', exists_and_left, exists_and_right, exists_eq, exists_eq', LL.if_dec, reduceCtorEq, exists_false, exists_const, or_false, false_or, if_true, if_false, LL.rInt1, LL.rMx, LL.rMn, and_assoc, Int.reduceNeg, Int.reduceLT, Int.reduceLE, Int.reduceMul, Int.reduceAdd, Int.reduceSub, Int.reducePow, Int.reduceToNat, Nat.reducePow, Nat.reduceLT, true_or, or_true, Bool.not_true, Bool.not_false, Bool.false_eq_true, Bool.or_false, Bool.or_true, Bool.true_or, Bool.false_or, decide_true, decide_false, not_true_eq_false, not_false_eq_true, LL.scal_int, LL.scal_bl, LL.scal_str, LL.isInt, LL.isBl, LL.isStr, LL.isLst, LL.isTup, LL.isDic]
      refine use_setL hs rfl ?_
      refine use_ixL upd_same rfl ?_
      simp only [tSeq, tAsg, tRet, tRetN, tDrop, tNext, tVar, tC, gName, tOp, tUn, rI, rI0, rU, tIfS, tTest, tB, tIf, tAnd, tOr, tNot, tAndV, tOrV, tNotV, tCall, tCons, tNil, tCB, tLst, tTup, tChain, CMul, CDiv, CPow, rEq, rNe, gSub, L2.start, LL.cxK0, LL.cxK1, List.map_cons, List.map_nil, List.length_cons, List.length_nil, List.replicate_succ, List.replicate_zero, List.cons_append, List.nil_append, List.append_nil, List.getElem?_cons_zero, List.getElem?_cons_succ, List.set_cons_zero, List.set_cons_succ, Nat.add_sub_cancel, Nat.reduceAdd, Nat.reduceSub, Option.some.injEq, V.int.injEq, V.bl.injEq, V.ref.injEq, V.str.injEq, List.cons.injEq, and_true, true_and, and_false, false_and, exists_eq_left, exists_eq_left', exists_and_left, exists_and_right, exists_eq, exists_eq', LL.if_dec, reduceCtorEq, exists_false, exists_const, or_false, false_or, if_true, if_false, LL.rInt1, LL.rMx, LL.rMn, and_assoc, Int.reduceNeg, Int.reduceLT, Int.reduceLE, Int.reduceMul, Int.reduceAdd, Int.reduceSub, Int.reducePow, Int.reduceToNat, Nat.reducePow, Nat.reduceLT, true_or, or_true, Bool.not_true, Bool.not_false, Bool.false_eq_true, Bool.or_false, Bool.or_true, Bool.true_or, Bool.false_or, decide_true, decide_false, not_true_eq_false, not_false_eq_true, LL.scal_int, LL.scal_bl, LL.scal_str, LL.isInt, LL.isBl, LL.isStr, LL.isLst, LL.isTup, LL.isDic]
      refine use_setL upd_same rfl ?_
      rw [upd_upd]
      refine ⟨by decide, ?_⟩
      split
      · exact use_setL upd_same rfl (by rw [upd_upd]; exact q _ (Aft.st D (by omega)))
      · exact use_setL upd_same rfl (by rw [upd_upd]; exact q _ (Aft.st D (by omega)))
    · exact q _ (Aft.refl D)
theorem ok_law_take (T : Tx K mg) : FnOk P w K mg base CX0 2 (He.ga K "_law_take") T.fd_law_take P_law_take sp_law_take := by
  refine T.F_law_take.ok sc_law_take (fun vs H Q E h => ?_) (fun cdv A outer s H vs Q E hr h => ⟨_, PSs.nox (pss_cons (ps_if (pt_cmpR op_lt (pv 1) (pe_int) (nomark _)) (pss_one (ps_ret (pe_int))) pss_nil) (pss_cons (ps_set (i := 2) sc_law_take.nd rfl (Or.inl rfl) (pe_ix (show IxR _ (rIxL K) from ix_list) (pv 0) (pe_int) (fun _ _ => rfl))) (pss_cons (ps_asg (pe_op op_add (pe_ix (show IxR _ (rIxL K) from ix_list) (pv 2) (pe_int) (fun _ _ => rfl)) (pe_int)) (pg_sub (pv 2) (pe_int) set_list)) (pss_cons (ps_if (PW.pt (pw_and (pt_cmpR op_lt (pe_ix (show IxR _ (rIxL K) from ix_list) (pv 2) (pe_int) (fun _ _ => rfl)) (pe_int) (nomark _)) (pw_and1 (pt_cmpR op_lt (pe_ix (show IxR _ (rIxL K) from ix_list) (pv 2) (pe_int) (fun _ _ => rfl)) (pe_int) (nomark _))))) (pss_one (ps_expr (pe_call (ok_law_next_cell T) hr rfl T.g_law_next_cell T.F_law_next_cell.kp (b_law_next_cell T) .nil pass0 (pa_cons (pv 0) pa_nil)))) pss_nil) (pss_cons (ps_if (pt_cmpR op_gt (pe_ix (show IxR _ (rIxL K) from ix_list) (pv 2) (pe_int) (fun _ _ => rfl)) (pe_int) (nomark _)) (pss_cons (ps_set (i := 3) sc_law_take.nd rfl (Or.inl rfl) (pe_op op_mod (pe_callTy LL.call_intI (by rfl) T.z_int (by decide +kernel) (pa_cons (pe_ix (show IxR _ (rIxL K) from ix_list) (pv 2) (pe_int) (fun _ _ => rfl)) pa_nil)) (pv 1))) (pss_cons (ps_asg (pe_op op_fdivW (pe_ix (show IxR _ (rIxL K) from ix_list) (pv 2) (pe_int) (fun _ _ => rfl)) (pv 1)) (pg_sub (pv 2) (pe_int) set_list)) (pss_one (ps_ret (pv 3))))) pss_nil) (pss_cons (ps_if (pt_cmpR op_gt (pe_ix (show IxR _ (rIxL K) from ix_list) (pv 2) (pe_int) (fun _ _ => rfl)) (pe_int) (nomark _)) (pss_one (ps_asg (pe_op op_sub (pe_ix (show IxR _ (rIxL K) from ix_list) (pv 2) (pe_int) (fun _ _ => rfl)) (pe_int)) (pg_sub (pv 2) (pe_int) set_list))) pss_nil) (pss_one (ps_ret (pe_call (ok_law_mixed T) hr rfl T.g_law_mixed T.F_law_mixed.kp (b_law_mixed T) .nil pass0 (pa_cons (pe_ix (show IxR _ (rIxL K) from ix_list) (pv 2) (pe_int) (fun _ _ => rfl)) (pa_cons (pe_ix (show IxR _ (rIxL K) from ix_list) (pv 2) (pe_int) (fun _ _ => rfl)) (pa_cons (pv 1) pa_nil)))))))))))), ?_⟩)
  · obtain ⟨_, _, _, rfl, _⟩ := h
    rfl
  · obtain ⟨d, s, m, rfl, D, hmb, q⟩ := h
    obtain ⟨⟨c, hd, hcs, ns, hc⟩, ⟨i, v, k, t, gg, hi, hs⟩, hds⟩ := _root_.id D
    simp only [tSeq, tAsg, tRet, tRetN, tDrop, tNext, tVar, tC, gName, tOp, tUn, rI, rI0, rU, tIfS, tTest, tB, tIf, tAnd, tOr, tNot, tAndV, tOrV, tNotV, tCall, tCons, tNil, tCB, tLst, tTup, tChain, CMul, CDiv, CPow, rEq, rNe, gSub, L2.start, LL.cxK0, LL.cxK1, List.map_cons, List.map_nil, List.length_cons, List.length_nil, List.replicate_succ, List.replicate_zero, List.cons_append, List.nil_append, List.append_nil, List.getElem?_cons_zero, List.getElem?_cons_succ, List.set_cons_zero, List.set_cons_succ, Nat.add_sub_cancel, Nat.reduceAdd, Nat.reduceSub, Option.some.injEq, V.int.injEq, V.bl.injEq, V.ref.injEq, V.str.injEq, List.cons.injEq, and_true, true_and, and_false, false_and, exists_eq_left, exists_eq_left', exists_and_left, exists_and_right, exists_eq, exists_eq', LL.if_dec, reduceCtorEq, exists_false, exists_const, or_false, false_or, if_true, if_false, LL.rInt1, LL.rMx, LL.rMn, and_assoc, Int.reduceNeg, Int.reduceLT, Int.reduceLE, Int.reduceMul, Int.reduceAdd, Int.reduceSub, Int.reducePow, Int.reduceToNat, Nat.reducePow, Nat.reduceLT, true_or, or_true, Bool.not_true, Bool.not_false, Bool.false_eq_true, Bool.or_false, Bool.or_true, Bool.true_or, Bool.false_or, decide_true, decide_false, not_true_eq_false, not_false_eq_true, LL.scal_int, LL.scal_bl, LL.scal_str, LL.isInt, LL.isBl, LL.isStr, LL.isLst, LL.isTup, LL.isDic, N_law_take]
    split
    · exact q _ _ (Aft.refl D) (by decide) (.inr rfl)
    · rename_i hm
      have hm0 : 0 < m := by omega
      refine use_ixL hd rfl (use_ixL hs rfl ?_)
      simp only [tSeq, tAsg, tRet, tRetN, tDrop, tNext, tVar, tC, gName, tOp, tUn, rI, rI0, rU, tIfS, tTest, tB, tIf, tAnd, tOr, tNot, tAndV, tOrV, tNotV, tCall, tCons, tNil, tCB, tLst, tTup, tChain, CMul, CDiv, CPow, rEq, rNe, gSub, L2.start, LL.cxK0, LL.cxK1, List.map_cons, List.map_nil, List.length_cons, List.length_nil, List.replicate_succ, List.replicate_zero, List.cons_append, List.nil_append, List.append_nil, List.getElem?_cons_zero, List.getElem?_cons_succ, List.set_cons_zero, List.set_cons_succ, Nat.add_sub_cancel, Nat.reduceAdd, Nat.reduceSub, Option.some.injEq, V.int.injEq, V.bl.injEq, V.ref.injEq, V.str.injEq, List.cons.injEq, and_true, true_and, and_false, false_and, exists_eq_left, exists_eq_left', exists_and_left, exists_and_right, exists_eq, exists_eq', LL.if_dec, reduceCtorEq, exists_false, exists_const, or_false, false_or, if_true, if_false, LL.rInt1, LL.rMx, LL.rMn, and_assoc, Int.reduceNeg, Int.reduceLT, Int.reduceLE, Int.reduceMul, Int.reduceAdd, Int.reduceSub, Int.reducePow, Int.reduceToNat, Nat.reducePow, Nat.reduceLT, true_or, or_true, Bool.not_true, Bool.not_false, Bool.false_eq_true, Bool.or_false, Bool.or_true, Bool.true_or, Bool.false_or, decide_true, decide_false, not_true_eq_false, not_false_eq_true, LL.scal_int, LL.scal_bl, LL.scal_str, LL.isInt, LL.isBl, LL.isStr, LL.isLst, LL.isTup, LL.isDic]
      refine use_setL hs rfl (use_ixL upd_same rfl ?_)
      simp only [tSeq, tAsg, tRet, tRetN, tDrop, tNext, tVar, tC, gName, tOp, tUn, rI, rI0, rU, tIfS, tTest, tB, tIf, tAnd, tOr, tNot, tAndV, tOrV, tNotV, tCall, tCons, tNil, tCB, tLst, tTup, tChain, CMul, CDiv, CPow, rEq, rNe, gSub, L2.start, LL.cxK0, LL.cxK1, List.map_cons, List.map_nil, List.length_cons, List.length_nil, List.replicate_succ, List.replicate_zero, List.cons_append, List.nil_append, List.append_nil, List.getElem?_cons_zero, List.getElem?_cons_succ, List.set_cons_zero, List.set_cons_succ, Nat.add_sub_cancel, Nat.reduceAdd, Nat.reduceSub, Option.some.injEq, V.int.injEq, V.bl.injEq, V.ref.injEq, V.str.injEq, List.cons.injEq, and_true, true_and, and_false, false_and, exists_eq_left, exists_eq_left', exists_and_left, exists_and_right, exists_eq, exists_eq', LL.if_dec, reduceCtorEq, exists_false, exists_const, or_false, false_or, if_true, if_false, LL.rInt1, LL.rMx, LL.rMn, and_assoc, Int.reduceNeg, Int.reduceLT, Int.reduceLE, Int.reduceMul, Int.reduceAdd, Int.reduceSub, Int.reducePow, Int.reduceToNat, Nat.reducePow, Nat.reduceLT, true_or, or_true, Bool.not_true, Bool.not_false, Bool.false_eq_true, Bool.or_false, Bool.or_true, Bool.true_or, Bool.false_or, decide_true, decide_false, not_true_eq_false, not_false_eq_true, LL.scal_int, LL.scal_bl, LL.scal_str, LL.isInt, LL.isBl, LL.isStr, LL.isLst, LL.isTup, LL.isDic]
      have a1 : Aft d s H (upd H s (.lst [.int i, .int v, .int k, .int (t + 1), .int gg])) := Aft.st D hi
      show (if v < 2 then rIxL K (V.ref s) (V.int 2) (upd H s (.lst [.int i, .int v, .int k, .int (t + 1), .int gg])) _ else rIxL K (V.ref s) (V.int 1) (upd H s (.lst [.int i, .int v, .int k, .int (t + 1), .int gg])) _)
      generalize upd H s (.lst [.int i, .int v, .int k, .int (t + 1), .int gg]) = H1 at a1 ⊢
      clear hs
      have tail : ∀ H1, Aft d s H H1 → rIxL K (V.ref s) (V.int 1) H1 (fun x H1 => ∃ i, x = V.int i ∧ if 1 < i then rIxL K (V.ref s) (V.int 1) H1 (fun x H1 => ∃ i, x = V.int i ∧ 0 < m ∧ rIxL K (V.ref s) (V.int 1) H1 (fun x H1 => ∃ i_1, x = V.int i_1 ∧ CDivW i_1 m ∧ rSetL (V.ref s) (V.int 1) (V.int (i_1 / m)) H1 fun H3 => Q (V.int (i % m)) H3))
          else rIxL K (V.ref s) (V.int 2) H1 (fun x H1 => ∃ i, x = V.int i ∧ if 0 < i then rIxL K (V.ref s) (V.int 2) H1 (fun x H1 => ∃ i, x = V.int i ∧ rSetL (V.ref s) (V.int 2) (V.int (i - 1)) H1 fun H3 => rIxL K (V.ref s) (V.int 4) H3 fun x H1 => rIxL K (V.ref s) (V.int 3) H1 fun x_1 H1 => sp_law_mixed [x, x_1, V.int m] H1 Q E0)
            else rIxL K (V.ref s) (V.int 4) H1 fun x H1 => rIxL K (V.ref s) (V.int 3) H1 fun x_1 H1 => sp_law_mixed [x, x_1, V.int m] H1 Q E0)) := by
        intro H2 a2
        obtain ⟨⟨c2, hd2, hcs2, ns2, hc2⟩, ⟨i2, v2, k2, t2, gg2, hi2, hs2⟩, _⟩ := _root_.id a2.dr
        refine use_ixL hs2 rfl ⟨_, rfl, ?_⟩
        split
        · refine use_ixL hs2 rfl ⟨_, rfl, hm0, use_ixL hs2 rfl ⟨_, rfl, wide_div hm0 hmb (by decide) (by decide), ?_⟩⟩
          exact use_setL hs2 rfl (q _ _ (a2.st2 hi2) (Int.emod_nonneg _ (by omega)) (.inl (Int.emod_lt_of_pos _ hm0)))
        · refine use_ixL hs2 rfl ⟨_, rfl, ?_⟩
          split
          · refine use_ixL hs2 rfl ⟨_, rfl, use_setL hs2 rfl (use_ixL upd_same rfl (use_ixL upd_same rfl ?_))⟩
            exact ⟨_, _, _, rfl, hm0, fun v h0 h1 => q _ _ (a2.st2 hi2) h0 (.inl h1)⟩
          · refine use_ixL hs2 rfl (use_ixL hs2 rfl ?_)
            exact ⟨_, _, _, rfl, hm0, fun v h0 h1 => q _ _ a2 h0 (.inl h1)⟩
      split
      · obtain ⟨_, ⟨i3, v3, k3, t3, gg3, hi3, hs3⟩, _⟩ := _root_.id a1.dr
        refine use_ixL hs3 rfl ⟨_, rfl, ?_⟩
        split
        · exact ⟨d, s, rfl, a1.dr, fun H' a2 => tail _ (a1.trans a2)⟩
        · exact tail _ a1
      · exact tail _ a1
def sp_law_between : Sp := fun vs H Q _ => ∃ (d s : Addr) (lo hi : Int), vs = [.ref d, .int lo, .int hi] ∧ Drw d s H ∧ (hi - lo + 1).natAbs < 2 ^ 4000 ∧ ∀ v H', Aft d s H H' → Drw d s H' → lo ≤ v → (v ≤ hi ∨ v = lo) → Q (.int v) H'
theorem use_between {d s : Addr} {lo hi : Int} {H : Hp} {Q : VK} {E : XK} (D : Drw d s H) (hm : (hi - lo + 1).natAbs < 2 ^ 4000) (q : ∀ v H', Aft d s H H' → Drw d s H' → lo ≤ v → (v ≤ hi ∨ v = lo) → Q (.int v) H') : sp_law_between [.ref d, .int lo, .int hi] H Q E :=
  ⟨d, s, lo, hi, rfl, D, hm, q⟩
theorem big_of {n : Int} (h0 : -1000000000000 ≤ n) (h : n ≤ 1000000000000) : n.natAbs < 2 ^ 4000 := Nat.lt_of_le_of_lt (show n.natAbs ≤ 1000000000000 by omega) (by decide +kernel)

theorem ok_law_between (T : Tx K mg) : FnOk P w K mg base CX0 3 (He.ga K "_law_between") T.fd_law_between P_law_between sp_law_between := by
  refine T.F_law_between.ok sc_law_between (fun vs H Q E h => ?_) (fun cdv A outer s H vs Q E hr h => ⟨_, PSs.nox (pss_cons (ps_if (pt_cmpR op_le (pv 2) (pv 1) (nomark _)) (pss_one (ps_ret (pv 1))) pss_nil) (pss_cons (ps_set (i := 3) sc_law_between.nd rfl (Or.inl rfl) (pe_call (ok_law_take T) hr rfl T.g_law_take T.F_law_take.kp (b_law_take T) .nil pass0 (pa_cons (pv 0) (pa_cons (pe_int) pa_nil)))) (pss_cons (ps_if (pt_cmpR op_eq (pv 3) (pe_int) (nomark _)) (pss_one (ps_ret (pv 1))) pss_nil) (pss_cons (ps_if (pt_cmpR op_eq (pv 3) (pe_int) (nomark _)) (pss_one (ps_ret (pv 2))) pss_nil) (pss_one (ps_ret (pe_op op_add (pv 1) (pe_call (ok_law_take T) hr rfl T.g_law_take T.F_law_take.kp (b_law_take T) .nil pass0 (pa_cons (pv 0) (pa_cons (pe_op op_add (pe_op op_sub (pv 2) (pv 1)) (pe_int)) pa_nil)))))))))), ?_⟩)
  · obtain ⟨_, _, _, _, rfl, _⟩ := h
    rfl
  · obtain ⟨d, s, lo, hi, rfl, D, hb, q⟩ := h
    simp only [tSeq, tAsg, tRet, tRetN, tDrop, tNext, tVar, tC, gName, tOp, tUn, rI, rI0, rU, tIfS, tTest, tB, tIf, tAnd, tOr, tNot, tAndV, tOrV, tNotV, tCall, tCons, tNil, tCB, tLst, tTup, tChain, CMul, CDiv, CPow, rEq, rNe, gSub, L2.start, LL.cxK0, LL.cxK1, List.map_cons, List.map_nil, List.length_cons, List.length_nil, List.replicate_succ, List.replicate_zero, List.cons_append, List.nil_append, List.append_nil, List.getElem?_cons_zero, List.getElem?_cons_succ, List.set_cons_zero, List.set_cons_succ, Nat.add_sub_cancel, Nat.reduceAdd, Nat.reduceSub, Option.some.injEq, V.int.injEq, V.bl.injEq, V.ref.injEq, V.str.injEq, List.cons.injEq, and_true, true_and, and_false, false_and, exists_eq_left, exists_eq_left', exists_and_left, exists_and_right, exists_eq, exists_eq', LL.if_dec, reduceCtorEq, exists_false, exists_const, or_false, false_or, if_true, if_false, LL.rInt1, LL.rMx, LL.rMn, and_assoc, Int.reduceNeg, Int.reduceLT, Int.reduceLE, Int.reduceMul, Int.reduceAdd, Int.reduceSub, Int.reducePow, Int.reduceToNat, Nat.reducePow, Nat.reduceLT, true_or, or_true, Bool.not_true, Bool.not_false, Bool.false_eq_true, Bool.or_false, Bool.or_true, Bool.true_or, Bool.false_or, decide_true, decide_false, not_true_eq_false, not_false_eq_true, LL.scal_int, LL.scal_bl, LL.scal_str, LL.isInt, LL.isBl, LL.isStr, LL.isLst, LL.isTup, LL.isDic, N_law_between]
    split
    · exact q _ _ (Aft.refl D) D (by omega) (.inr rfl)
    · rename_i hlt
      refine use_take D (by decide +kernel) fun v H' a D' h0 h1 => ?_
      simp only [tSeq, tAsg, tRet, tRetN, tDrop, tNext, tVar, tC, gName, tOp, tUn, rI, rI0, rU, tIfS, tTest, tB, tIf, tAnd, tOr, tNot, tAndV, tOrV, tNotV, tCall, tCons, tNil, tCB, tLst, tTup, tChain, CMul, CDiv, CPow, rEq, rNe, gSub, L2.start, LL.cxK0, LL.cxK1, List.map_cons, List.map_nil, List.length_cons, List.length_nil, List.replicate_succ, List.replicate_zero, List.cons_append, List.nil_append, List.append_nil, List.getElem?_cons_zero, List.getElem?_cons_succ, List.set_cons_zero, List.set_cons_succ, Nat.add_sub_cancel, Nat.reduceAdd, Nat.reduceSub, Option.some.injEq, V.int.injEq, V.bl.injEq, V.ref.injEq, V.str.injEq, List.cons.injEq, and_true, true_and, and_false, false_and, exists_eq_left, exists_eq_left', exists_and_left, exists_and_right, exists_eq, exists_eq', LL.if_dec, reduceCtorEq, exists_false, exists_const, or_false, false_or, if_true, if_false, LL.rInt1, LL.rMx, LL.rMn, and_assoc, Int.reduceNeg, Int.reduceLT, Int.reduceLE, Int.reduceMul, Int.reduceAdd, Int.reduceSub, Int.reducePow, Int.reduceToNat, Nat.reducePow, Nat.reduceLT, true_or, or_true, Bool.not_true, Bool.not_false, Bool.false_eq_true, Bool.or_false, Bool.or_true, Bool.true_or, Bool.false_or, decide_true, decide_false, not_true_eq_false, not_false_eq_true, LL.scal_int, LL.scal_bl, LL.scal_str, LL.isInt, LL.isBl, LL.isStr, LL.isLst, LL.isTup, LL.isDic]
      split
      · exact q _ _ a D' (by omega) (.inr rfl)
      · split
        · exact q _ _ a D' (by omega) (.inl (by omega))
        · refine use_take D' hb fun v2 H2 a2 D2 h2 h3 => ?_
          simp only [tSeq, tAsg, tRet, tRetN, tDrop, tNext, tVar, tC, gName, tOp, tUn, rI, rI0, rU, tIfS, tTest, tB, tIf, tAnd, tOr, tNot, tAndV, tOrV, tNotV, tCall, tCons, tNil, tCB, tLst, tTup, tChain, CMul, CDiv, CPow, rEq, rNe, gSub, L2.start, LL.cxK0, LL.cxK1, List.map_cons, List.map_nil, List.length_cons, List.length_nil, List.replicate_succ, List.replicate_zero, List.cons_append, List.nil_append, List.append_nil, List.getElem?_cons_zero, List.getElem?_cons_succ, List.set_cons_zero, List.set_cons_succ, Nat.add_sub_cancel, Nat.reduceAdd, Nat.reduceSub, Option.some.injEq, V.int.injEq, V.bl.injEq, V.ref.injEq, V.str.injEq, List.cons.injEq, and_true, true_and, and_false, false_and, exists_eq_left, exists_eq_left', exists_and_left, exists_and_right, exists_eq, exists_eq', LL.if_dec, reduceCtorEq, exists_false, exists_const, or_false, false_or, if_true, if_false, LL.rInt1, LL.rMx, LL.rMn, and_assoc, Int.reduceNeg, Int.reduceLT, Int.reduceLE, Int.reduceMul, Int.reduceAdd, Int.reduceSub, Int.reducePow, Int.reduceToNat, Nat.reducePow, Nat.reduceLT, true_or, or_true, Bool.not_true, Bool.not_false, Bool.false_eq_true, Bool.or_false, Bool.or_true, Bool.true_or, Bool.false_or, decide_true, decide_false, not_true_eq_false, not_false_eq_true, LL.scal_int, LL.scal_bl, LL.scal_str, LL.isInt, LL.isBl, LL.isStr, LL.isLst, LL.isTup, LL.isDic]
          exact q _ _ (a.trans a2) D2 (by omega) (by omega)
def sp_law_number : Sp := fun vs H Q _ => ∃ (d s : Addr) (lo hi : Int), vs = [.ref d, .int lo, .int hi] ∧ Drw d s H ∧ -1000000000000 ≤ lo ∧ lo ≤ hi ∧ hi ≤ 100000000000 ∧ hi - lo ≤ 100000000000 ∧ ∀ v H', Aft d s H H' → Drw d s H' → lo ≤ v → v ≤ hi → Q (.int v) H'
theorem use_number {d s : Addr} {lo hi : Int} {H : Hp} {Q : VK} {E : XK} (D : Drw d s H) (h0 : -1000000000000 ≤ lo) (h1 : lo ≤ hi) (h2 : hi ≤ 100000000000) (h3 : hi - lo ≤ 100000000000) (q : ∀ v H', Aft d s H H' → Drw d s H' → lo ≤ v → v ≤ hi → Q (.int v) H') : sp_law_number [.ref d, .int lo, .int hi] H Q E :=
  ⟨d, s, lo, hi, rfl, D, h0, h1, h2, h3, q⟩
def sp_law_count : Sp := fun vs H Q _ => ∃ (d s : Addr) (lo hi : Int), vs = [.ref d, .int lo, .int hi] ∧ Drw d s H ∧ 0 ≤ lo ∧ lo ≤ hi ∧ hi ≤ 100000000000 ∧ ∀ v H', Aft d s H H' → Drw d s H' → 0 ≤ v → v ≤ hi → Q (.int v) H'
def sp_law_alignment : Sp := fun vs H Q _ => ∃ (d s : Addr) (m : Int), vs = [.ref d, .int m] ∧ Drw d s H ∧ 0 ≤ m ∧ m ≤ 64 ∧ ∀ (j : Nat) H', Aft d s H H' → Drw d s H' → (j : Int) ≤ m → Q (.int (2 ^ j)) H'
theorem use_alignment {d s : Addr} {m : Int} {H : Hp} {Q : VK} {E : XK} (D : Drw d s H) (h0 : 0 ≤ m) (h1 : m ≤ 64) (q : ∀ (j : Nat) H', Aft d s H H' → Drw d s H' → (j : Int) ≤ m → Q (.int (2 ^ j)) H') : sp_law_alignment [.ref d, .int m] H Q E :=
  ⟨d, s, m, rfl, D, h0, h1, q⟩
def sp_law_power : Sp := fun vs H Q _ => ∃ n : Nat, vs = [.int n] ∧ n ≤ 60 ∧ Q (.int (2 ^ n)) H
theorem pow_lt {j n : Nat} (h : j ≤ n) (hn : n ≤ 63) : (2 : Int) ^ j < 2 ^ 64 := by
  have h1 : (2 : Nat) ^ j < 2 ^ 64 := Nat.pow_lt_pow_right (by decide) (by omega)
  have h2 : ((2 ^ j : Nat) : Int) = (2 : Int) ^ j := by simp
  omega
theorem pow_pos' (j : Nat) : (0 : Int) < 2 ^ j := Int.pow_pos (by decide)

theorem ok_law_alignment (T : Tx K mg) : FnOk P w K mg base CX0 4 (He.ga K "_law_alignment") T.fd_law_alignment P_law_alignment sp_law_alignment := by
  refine T.F_law_alignment.ok sc_law_alignment (fun vs H Q E h => ?_) (fun cdv A outer s H vs Q E hr h => ⟨_, PSs.nox (pss_cons (ps_set (i := 2) sc_law_alignment.nd rfl (Or.inl rfl) (pe_int)) (pss_cons (ps_for PassesOwn.never rfl (pi_range1 rfl T.z_range (pa_cons (pe_call (ok_law_between T) hr rfl T.g_law_between T.F_law_between.kp (b_law_between T) .nil pass0 (pa_cons (pv 0) (pa_cons (pe_int) (pa_cons (pv 1) pa_nil)))) pa_nil)) (pg_name (i := 3) sc_law_alignment.nd rfl (Or.inl rfl)) (pss_one (ps_set (i := 2) sc_law_alignment.nd rfl (Or.inl rfl) (pe_op op_mul (pv 2) (pe_int))))) (pss_one (ps_ret (pv 2))))), ?_⟩)
  · obtain ⟨_, _, _, rfl, _⟩ := h
    rfl
  · obtain ⟨d, s, m, rfl, D, h0, h1, q⟩ := h
    simp only [tSeq, tAsg, tRet, tRetN, tDrop, tNext, tVar, tC, gName, tOp, tUn, rI, rI0, rU, tIfS, tTest, tB, tIf, tAnd, tOr, tNot, tAndV, tOrV, tNotV, tCall, tCons, tNil, tCB, tLst, tTup, tChain, CMul, CDiv, CPow, rEq, rNe, gSub, L2.start, LL.cxK0, LL.cxK1, List.map_cons, List.map_nil, List.length_cons, List.length_nil, List.replicate_succ, List.replicate_zero, List.cons_append, List.nil_append, List.append_nil, List.getElem?_cons_zero, List.getElem?_cons_succ, List.set_cons_zero, List.set_cons_succ, Nat.add_sub_cancel, Nat.reduceAdd, Nat.reduceSub, Option.some.injEq, V.int.injEq, V.bl.injEq, V.ref.injEq, V.str.injEq, List.cons.injEq, and_true, true_and, and_false, false_and, exists_eq_left, exists_eq_left', exists_and_left, exists_and_right, exists_eq, exists_eq', LL.if_dec, reduceCtorEq, exists_false, exists_const, or_false, false_or, if_true, if_false, LL.rInt1, LL.rMx, LL.rMn, and_assoc, Int.reduceNeg, Int.reduceLT, Int.reduceLE, Int.reduceMul, Int.reduceAdd, Int.reduceSub, Int.reducePow, Int.reduceToNat, Nat.reducePow, Nat.reduceLT, true_or, or_true, Bool.not_true, Bool.not_false, Bool.false_eq_true, Bool.or_false, Bool.or_true, Bool.true_or, Bool.false_or, decide_true, decide_false, not_true_eq_false, not_false_eq_true, LL.scal_int, LL.scal_bl, LL.scal_str, LL.isInt, LL.isBl, LL.isStr, LL.isLst, LL.isTup, LL.isDic, N_law_alignment]
    refine use_forRX (R := fun j H' => Aft d s H H' ∧ Drw d s H' ∧ 0 ≤ j ∧ j ≤ m) (fun Q hQ => ?_) (fun z H' h => ⟨by omega, by omega⟩)
      (fun j i σ' H' => Aft d s H H' ∧ Drw d s H' ∧ 0 ≤ j ∧ j ≤ m ∧ i ≤ j.toNat ∧ ∃ x : Option V, σ' = [some (.ref d), some (.int m), some (.int (2 ^ i)), x]) (fun j H' ⟨a, D1, hz, hm⟩ => ⟨a, D1, hz, hm, Nat.zero_le _, _, rfl⟩) ?_ ?_
    · simp only [tSeq, tAsg, tRet, tRetN, tDrop, tNext, tVar, tC, gName, tOp, tUn, rI, rI0, rU, tIfS, tTest, tB, tIf, tAnd, tOr, tNot, tAndV, tOrV, tNotV, tCall, tCons, tNil, tCB, tLst, tTup, tChain, CMul, CDiv, CPow, rEq, rNe, gSub, L2.start, LL.cxK0, LL.cxK1, List.map_cons, List.map_nil, List.length_cons, List.length_nil, List.replicate_succ, List.replicate_zero, List.cons_append, List.nil_append, List.append_nil, List.getElem?_cons_zero, List.getElem?_cons_succ, List.set_cons_zero, List.set_cons_succ, Nat.add_sub_cancel, Nat.reduceAdd, Nat.reduceSub, Option.some.injEq, V.int.injEq, V.bl.injEq, V.ref.injEq, V.str.injEq, List.cons.injEq, and_true, true_and, and_false, false_and, exists_eq_left, exists_eq_left', exists_and_left, exists_and_right, exists_eq, exists_eq', LL.if_dec, reduceCtorEq, exists_false, exists_const, or_false, false_or, if_true, if_false, LL.rInt1, LL.rMx, LL.rMn, and_assoc, Int.reduceNeg, Int.reduceLT, Int.reduceLE, Int.reduceMul, Int.reduceAdd, Int.reduceSub, Int.reducePow, Int.reduceToNat, Nat.reducePow, Nat.reduceLT, true_or, or_true, Bool.not_true, Bool.not_false, Bool.false_eq_true, Bool.or_false, Bool.or_true, Bool.true_or, Bool.false_or, decide_true, decide_false, not_true_eq_false, not_false_eq_true, LL.scal_int, LL.scal_bl, LL.scal_str, LL.isInt, LL.isBl, LL.isStr, LL.isLst, LL.isTup, LL.isDic]
      exact use_between D (big_of (by omega) (by omega)) fun v H' a D' h2 h3 => hQ _ _ ⟨a, D', h2, by omega⟩
    · rintro j i σ' H' hi ⟨a, D1, hz, hm, hi2, x, rfl⟩
      simp only [tSeq, tAsg, tRet, tRetN, tDrop, tNext, tVar, tC, gName, tOp, tUn, rI, rI0, rU, tIfS, tTest, tB, tIf, tAnd, tOr, tNot, tAndV, tOrV, tNotV, tCall, tCons, tNil, tCB, tLst, tTup, tChain, CMul, CDiv, CPow, rEq, rNe, gSub, L2.start, LL.cxK0, LL.cxK1, List.map_cons, List.map_nil, List.length_cons, List.length_nil, List.replicate_succ, List.replicate_zero, List.cons_append, List.nil_append, List.append_nil, List.getElem?_cons_zero, List.getElem?_cons_succ, List.set_cons_zero, List.set_cons_succ, Nat.add_sub_cancel, Nat.reduceAdd, Nat.reduceSub, Option.some.injEq, V.int.injEq, V.bl.injEq, V.ref.injEq, V.str.injEq, List.cons.injEq, and_true, true_and, and_false, false_and, exists_eq_left, exists_eq_left', exists_and_left, exists_and_right, exists_eq, exists_eq', LL.if_dec, reduceCtorEq, exists_false, exists_const, or_false, false_or, if_true, if_false, LL.rInt1, LL.rMx, LL.rMn, and_assoc, Int.reduceNeg, Int.reduceLT, Int.reduceLE, Int.reduceMul, Int.reduceAdd, Int.reduceSub, Int.reducePow, Int.reduceToNat, Nat.reducePow, Nat.reduceLT, true_or, or_true, Bool.not_true, Bool.not_false, Bool.false_eq_true, Bool.or_false, Bool.or_true, Bool.true_or, Bool.false_or, decide_true, decide_false, not_true_eq_false, not_false_eq_true, LL.scal_int, LL.scal_bl, LL.scal_str, LL.isInt, LL.isBl, LL.isStr, LL.isLst, LL.isTup, LL.isDic]
      have := pow_lt (j := i) (n := 63) (by omega) (by decide)
      have := pow_pos' i
      exact ⟨a, D1, hz, hm, hi, by rw [Int.pow_succ]⟩
    · rintro j σ' H' ⟨a, D1, hz, hm, hi2, x, rfl⟩
      simp only [tSeq, tAsg, tRet, tRetN, tDrop, tNext, tVar, tC, gName, tOp, tUn, rI, rI0, rU, tIfS, tTest, tB, tIf, tAnd, tOr, tNot, tAndV, tOrV, tNotV, tCall, tCons, tNil, tCB, tLst, tTup, tChain, CMul, CDiv, CPow, rEq, rNe, gSub, L2.start, LL.cxK0, LL.cxK1, List.map_cons, List.map_nil, List.length_cons, List.length_nil, List.replicate_succ, List.replicate_zero, List.cons_append, List.nil_append, List.append_nil, List.getElem?_cons_zero, List.getElem?_cons_succ, List.set_cons_zero, List.set_cons_succ, Nat.add_sub_cancel, Nat.reduceAdd, Nat.reduceSub, Option.some.injEq, V.int.injEq, V.bl.injEq, V.ref.injEq, V.str.injEq, List.cons.injEq, and_true, true_and, and_false, false_and, exists_eq_left, exists_eq_left', exists_and_left, exists_and_right, exists_eq, exists_eq', LL.if_dec, reduceCtorEq, exists_false, exists_const, or_false, false_or, if_true, if_false, LL.rInt1, LL.rMx, LL.rMn, and_assoc, Int.reduceNeg, Int.reduceLT, Int.reduceLE, Int.reduceMul, Int.reduceAdd, Int.reduceSub, Int.reducePow, Int.reduceToNat, Nat.reducePow, Nat.reduceLT, true_or, or_true, Bool.not_true, Bool.not_false, Bool.false_eq_true, Bool.or_false, Bool.or_true, Bool.true_or, Bool.false_or, decide_true, decide_false, not_true_eq_false, not_false_eq_true, LL.scal_int, LL.scal_bl, LL.scal_str, LL.isInt, LL.isBl, LL.isStr, LL.isLst, LL.isTup, LL.isDic]
      exact q _ _ a D1 (by omega)
theorem ok_law_power (T : Tx K mg) : FnOk P w K mg base CX0 1 (He.ga K "_law_power") T.fd_law_power P_law_power sp_law_power := by
  refine T.F_law_power.ok sc_law_power (fun vs H Q E h => ?_) (fun cdv A outer s H vs Q E hr h => ⟨_, PSs.nox (pss_cons (ps_set (i := 1) sc_law_power.nd rfl (Or.inl rfl) (pe_int)) (pss_cons (ps_for PassesOwn.never rfl (pi_range1 rfl T.z_range (pa_cons (pv 0) pa_nil)) (pg_name (i := 2) sc_law_power.nd rfl (Or.inl rfl)) (pss_one (ps_set (i := 1) sc_law_power.nd rfl (Or.inl rfl) (pe_op op_mul (pv 1) (pe_int))))) (pss_one (ps_ret (pv 1))))), ?_⟩)
  · obtain ⟨_, rfl, _⟩ := h
    rfl
  · obtain ⟨n, rfl, hn, q⟩ := h
    simp only [tSeq, tAsg, tRet, tRetN, tDrop, tNext, tVar, tC, gName, tOp, tUn, rI, rI0, rU, tIfS, tTest, tB, tIf, tAnd, tOr, tNot, tAndV, tOrV, tNotV, tCall, tCons, tNil, tCB, tLst, tTup, tChain, CMul, CDiv, CPow, rEq, rNe, gSub, L2.start, LL.cxK0, LL.cxK1, List.map_cons, List.map_nil, List.length_cons, List.length_nil, List.replicate_succ, List.replicate_zero, List.cons_append, List.nil_append, List.append_nil, List.getElem?_cons_zero, List.getElem?_cons_succ, List.set_cons_zero, List.set_cons_succ, Nat.add_sub_cancel, Nat.reduceAdd, Nat.reduceSub, Option.some.injEq, V.int.injEq, V.bl.injEq, V.ref.injEq, V.str.injEq, List.cons.injEq, and_true, true_and, and_false, false_and, exists_eq_left, exists_eq_left', exists_and_left, exists_and_right, exists_eq, exists_eq', LL.if_dec, reduceCtorEq, exists_false, exists_const, or_false, false_or, if_true, if_false, LL.rInt1, LL.rMx, LL.rMn, and_assoc, Int.reduceNeg, Int.reduceLT, Int.reduceLE, Int.reduceMul, Int.reduceAdd, Int.reduceSub, Int.reducePow, Int.reduceToNat, Nat.reducePow, Nat.reduceLT, true_or, or_true, Bool.not_true, Bool.not_false, Bool.false_eq_true, Bool.or_false, Bool.or_true, Bool.true_or, Bool.false_or, decide_true, decide_false, not_true_eq_false, not_false_eq_true, LL.scal_int, LL.scal_bl, LL.scal_str, LL.isInt, LL.isBl, LL.isStr, LL.isLst, LL.isTup, LL.isDic, N_law_power]
    refine use_forR (j := n) (fun Q q => ⟨_, rfl, q⟩) (by omega) (by omega) (fun i σ' H' => H' = H ∧ i ≤ n ∧ ∃ x : Option V, σ' = [some (.int n), some (.int (2 ^ i)), x]) ⟨rfl, Nat.zero_le _, _, rfl⟩ ?_ ?_
    · rintro i σ' H' hi ⟨rfl, h1, x, rfl⟩
      simp only [tSeq, tAsg, tRet, tRetN, tDrop, tNext, tVar, tC, gName, tOp, tUn, rI, rI0, rU, tIfS, tTest, tB, tIf, tAnd, tOr, tNot, tAndV, tOrV, tNotV, tCall, tCons, tNil, tCB, tLst, tTup, tChain, CMul, CDiv, CPow, rEq, rNe, gSub, L2.start, LL.cxK0, LL.cxK1, List.map_cons, List.map_nil, List.length_cons, List.length_nil, List.replicate_succ, List.replicate_zero, List.cons_append, List.nil_append, List.append_nil, List.getElem?_cons_zero, List.getElem?_cons_succ, List.set_cons_zero, List.set_cons_succ, Nat.add_sub_cancel, Nat.reduceAdd, Nat.reduceSub, Option.some.injEq, V.int.injEq, V.bl.injEq, V.ref.injEq, V.str.injEq, List.cons.injEq, and_true, true_and, and_false, false_and, exists_eq_left, exists_eq_left', exists_and_left, exists_and_right, exists_eq, exists_eq', LL.if_dec, reduceCtorEq, exists_false, exists_const, or_false, false_or, if_true, if_false, LL.rInt1, LL.rMx, LL.rMn, and_assoc, Int.reduceNeg, Int.reduceLT, Int.reduceLE, Int.reduceMul, Int.reduceAdd, Int.reduceSub, Int.reducePow, Int.reduceToNat, Nat.reducePow, Nat.reduceLT, true_or, or_true, Bool.not_true, Bool.not_false, Bool.false_eq_true, Bool.or_false, Bool.or_true, Bool.true_or, Bool.false_or, decide_true, decide_false, not_true_eq_false, not_false_eq_true, LL.scal_int, LL.scal_bl, LL.scal_str, LL.isInt, LL.isBl, LL.isStr, LL.isLst, LL.isTup, LL.isDic]
      exact ⟨by omega, by rw [Int.pow_succ]⟩
    · rintro σ' H' ⟨rfl, h1, x, rfl⟩
      simp only [tSeq, tAsg, tRet, tRetN, tDrop, tNext, tVar, tC, gName, tOp, tUn, rI, rI0, rU, tIfS, tTest, tB, tIf, tAnd, tOr, tNot, tAndV, tOrV, tNotV, tCall, tCons, tNil, tCB, tLst, tTup, tChain, CMul, CDiv, CPow, rEq, rNe, gSub, L2.start, LL.cxK0, LL.cxK1, List.map_cons, List.map_nil, List.length_cons, List.length_nil, List.replicate_succ, List.replicate_zero, List.cons_append, List.nil_append, List.append_nil, List.getElem?_cons_zero, List.getElem?_cons_succ, List.set_cons_zero, List.set_cons_succ, Nat.add_sub_cancel, Nat.reduceAdd, Nat.reduceSub, Option.some.injEq, V.int.injEq, V.bl.injEq, V.ref.injEq, V.str.injEq, List.cons.injEq, and_true, true_and, and_false, false_and, exists_eq_left, exists_eq_left', exists_and_left, exists_and_right, exists_eq, exists_eq', LL.if_dec, reduceCtorEq, exists_false, exists_const, or_false, false_or, if_true, if_false, LL.rInt1, LL.rMx, LL.rMn, and_assoc, Int.reduceNeg, Int.reduceLT, Int.reduceLE, Int.reduceMul, Int.reduceAdd, Int.reduceSub, Int.reducePow, Int.reduceToNat, Nat.reducePow, Nat.reduceLT, true_or, or_true, Bool.not_true, Bool.not_false, Bool.false_eq_true, Bool.or_false, Bool.or_true, Bool.true_or, Bool.false_or, decide_true, decide_false, not_true_eq_false, not_false_eq_true, LL.scal_int, LL.scal_bl, LL.scal_str, LL.isInt, LL.isBl, LL.isStr, LL.isLst, LL.isTup, LL.isDic]
      exact q
theorem ok_law_number (T : Tx K mg) : FnOk P w K mg base CX0 5 (He.ga K "_law_number") T.fd_law_number P_law_number sp_law_number := by
  refine T.F_law_number.ok sc_law_number (fun vs H Q E h => ?_) (fun cdv A outer s H vs Q E hr h => ⟨_, PSs.nox (pss_cons (ps_if (pt_cmpR op_lt (pe_op op_sub (pv 2) (pv 1)) (pe_int) (nomark _)) (pss_one (ps_ret (pe_call (ok_law_between T) (hr.mono (by decide)) rfl T.g_law_between T.F_law_between.kp (b_law_between T) .nil pass0 (pa_cons (pv 0) (pa_cons (pv 1) (pa_cons (pv 2) pa_nil)))))) pss_nil) (pss_cons (ps_set (i := 3) sc_law_number.nd rfl (Or.inl rfl) (pe_call (ok_law_take T) (hr.mono (by decide)) rfl T.g_law_take T.F_law_take.kp (b_law_take T) .nil pass0 (pa_cons (pv 0) (pa_cons (pe_int) pa_nil)))) (pss_cons (ps_if (pt_cmpR op_lt (pv 3) (pe_int) (nomark _)) (pss_one (ps_ret (pe_ix (show IxR _ (rIxL K) from ix_list) (pe_lst (pa_cons (pv 1) (pa_cons (pv 2) (pa_cons (pe_op op_add (pv 1) (pe_int)) (pa_cons (pe_op op_sub (pv 2) (pe_int)) pa_nil))))) (pv 3) (fun _ _ => rfl)))) pss_nil) (pss_cons (ps_if (pt_cmpR op_lt (pv 3) (pe_int) (nomark _)) (pss_one (ps_ret (pe_op op_add (pv 1) (pe_call (ok_law_take T) (hr.mono (by decide)) rfl T.g_law_take T.F_law_take.kp (b_law_take T) .nil pass0 (pa_cons (pv 0) (pa_cons (pe_op op_add (pe_callB (LL.call_mn rfl) (by rfl) T.z_min (by decide +kernel) (pa_cons (pe_op op_sub (pv 2) (pv 1)) (pa_cons (pe_int) pa_nil))) (pe_int)) pa_nil)))))) pss_nil) (pss_cons (ps_if (pt_cmpR op_eq (pv 3) (pe_int) (nomark _)) (pss_one (ps_ret (pe_callB (LL.call_mx rfl) (by rfl) T.z_max (by decide +kernel) (pa_cons (pv 1) (pa_cons (pe_callB (LL.call_mn rfl) (by rfl) T.z_min (by decide +kernel) (pa_cons (pv 2) (pa_cons (pe_op op_sub (pe_op op_add (pe_call (ok_law_alignment T) hr rfl T.g_law_alignment T.F_law_alignment.kp (b_law_alignment T) .nil pass0 (pa_cons (pv 0) (pa_cons (pe_int) pa_nil))) (pe_call (ok_law_take T) (hr.mono (by decide)) rfl T.g_law_take T.F_law_take.kp (b_law_take T) .nil pass0 (pa_cons (pv 0) (pa_cons (pe_int) pa_nil)))) (pe_int)) pa_nil))) pa_nil))))) pss_nil) (pss_one (ps_ret (pe_op op_add (pv 1) (pe_call (ok_law_take T) (hr.mono (by decide)) rfl T.g_law_take T.F_law_take.kp (b_law_take T) .nil pass0 (pa_cons (pv 0) (pa_cons (pe_op op_add (pe_op op_sub (pv 2) (pv 1)) (pe_int)) pa_nil))))))))))), ?_⟩)
  · obtain ⟨_, _, _, _, rfl, _⟩ := h
    rfl
  · obtain ⟨d, s, lo, hi, rfl, D, h0, h1, h2, h3, q⟩ := h
    simp only [tSeq, tAsg, tRet, tRetN, tDrop, tNext, tVar, tC, gName, tOp, tUn, rI, rI0, rU, tIfS, tTest, tB, tIf, tAnd, tOr, tNot, tAndV, tOrV, tNotV, tCall, tCons, tNil, tCB, tLst, tTup, tChain, CMul, CDiv, CPow, rEq, rNe, gSub, L2.start, LL.cxK0, LL.cxK1, List.map_cons, List.map_nil, List.length_cons, List.length_nil, List.replicate_succ, List.replicate_zero, List.cons_append, List.nil_append, List.append_nil, List.getElem?_cons_zero, List.getElem?_cons_succ, List.set_cons_zero, List.set_cons_succ, Nat.add_sub_cancel, Nat.reduceAdd, Nat.reduceSub, Option.some.injEq, V.int.injEq, V.bl.injEq, V.ref.injEq, V.str.injEq, List.cons.injEq, and_true, true_and, and_false, false_and, exists_eq_left, exists_eq_left', exists_and_left, exists_and_right, exists_eq, exists_eq', LL.if_dec, reduceCtorEq, exists_false, exists_const, or_false, false_or, if_true, if_false, LL.rInt1, LL.rMx, LL.rMn, and_assoc, Int.reduceNeg, Int.reduceLT, Int.reduceLE, Int.reduceMul, Int.reduceAdd, Int.reduceSub, Int.reducePow, Int.reduceToNat, Nat.reducePow, Nat.reduceLT, true_or, or_true, Bool.not_true, Bool.not_false, Bool.false_eq_true, Bool.or_false, Bool.or_true, Bool.true_or, Bool.false_or, decide_true, decide_false, not_true_eq_false, not_false_eq_true, LL.scal_int, LL.scal_bl, LL.scal_str, LL.isInt, LL.isBl, LL.isStr, LL.isLst, LL.isTup, LL.isDic, N_law_number]
    split
    · exact use_between D (big_of (by omega) (by omega)) fun v H' a D' h2 h3 => q _ _ a D' h2 (by omega)
    · refine use_take D (by decide +kernel) fun v H' a D' v0 v1 => ?_
      simp only [tSeq, tAsg, tRet, tRetN, tDrop, tNext, tVar, tC, gName, tOp, tUn, rI, rI0, rU, tIfS, tTest, tB, tIf, tAnd, tOr, tNot, tAndV, tOrV, tNotV, tCall, tCons, tNil, tCB, tLst, tTup, tChain, CMul, CDiv, CPow, rEq, rNe, gSub, L2.start, LL.cxK0, LL.cxK1, List.map_cons, List.map_nil, List.length_cons, List.length_nil, List.replicate_succ, List.replicate_zero, List.cons_append, List.nil_append, List.append_nil, List.getElem?_cons_zero, List.getElem?_cons_succ, List.set_cons_zero, List.set_cons_succ, Nat.add_sub_cancel, Nat.reduceAdd, Nat.reduceSub, Option.some.injEq, V.int.injEq, V.bl.injEq, V.ref.injEq, V.str.injEq, List.cons.injEq, and_true, true_and, and_false, false_and, exists_eq_left, exists_eq_left', exists_and_left, exists_and_right, exists_eq, exists_eq', LL.if_dec, reduceCtorEq, exists_false, exists_const, or_false, false_or, if_true, if_false, LL.rInt1, LL.rMx, LL.rMn, and_assoc, Int.reduceNeg, Int.reduceLT, Int.reduceLE, Int.reduceMul, Int.reduceAdd, Int.reduceSub, Int.reducePow, Int.reduceToNat, Nat.reducePow, Nat.reduceLT, true_or, or_true, Bool.not_true, Bool.not_false, Bool.false_eq_true, Bool.or_false, Bool.or_true, Bool.true_or, Bool.false_or, decide_true, decide_false, not_true_eq_false, not_false_eq_true, LL.scal_int, LL.scal_bl, LL.scal_str, LL.isInt, LL.isBl, LL.isStr, LL.isLst, LL.isTup, LL.isDic]
      split
      · refine ⟨by decide, fun p hp => ?_⟩
        refine use_pick upd_same v0 (by simp only [List.length_cons, List.length_nil]; omega) ?_
        have a2 := a.new (o := .lst [.int lo, .int hi, .int (lo + 1), .int (hi - 1)]) hp
        intro x hx
        simp only [List.mem_cons, List.not_mem_nil, or_false] at hx
        rcases hx with rfl | rfl | rfl | rfl <;> exact q _ _ a2 a2.dr (by omega) (by omega)
      · split
        · refine use_take D' (big_of (by omega) (by omega)) fun v2 H2 a2 D2 h4 h5 => ?_
          simp only [tSeq, tAsg, tRet, tRetN, tDrop, tNext, tVar, tC, gName, tOp, tUn, rI, rI0, rU, tIfS, tTest, tB, tIf, tAnd, tOr, tNot, tAndV, tOrV, tNotV, tCall, tCons, tNil, tCB, tLst, tTup, tChain, CMul, CDiv, CPow, rEq, rNe, gSub, L2.start, LL.cxK0, LL.cxK1, List.map_cons, List.map_nil, List.length_cons, List.length_nil, List.replicate_succ, List.replicate_zero, List.cons_append, List.nil_append, List.append_nil, List.getElem?_cons_zero, List.getElem?_cons_succ, List.set_cons_zero, List.set_cons_succ, Nat.add_sub_cancel, Nat.reduceAdd, Nat.reduceSub, Option.some.injEq, V.int.injEq, V.bl.injEq, V.ref.injEq, V.str.injEq, List.cons.injEq, and_true, true_and, and_false, false_and, exists_eq_left, exists_eq_left', exists_and_left, exists_and_right, exists_eq, exists_eq', LL.if_dec, reduceCtorEq, exists_false, exists_const, or_false, false_or, if_true, if_false, LL.rInt1, LL.rMx, LL.rMn, and_assoc, Int.reduceNeg, Int.reduceLT, Int.reduceLE, Int.reduceMul, Int.reduceAdd, Int.reduceSub, Int.reducePow, Int.reduceToNat, Nat.reducePow, Nat.reduceLT, true_or, or_true, Bool.not_true, Bool.not_false, Bool.false_eq_true, Bool.or_false, Bool.or_true, Bool.true_or, Bool.false_or, decide_true, decide_false, not_true_eq_false, not_false_eq_true, LL.scal_int, LL.scal_bl, LL.scal_str, LL.isInt, LL.isBl, LL.isStr, LL.isLst, LL.isTup, LL.isDic]
          exact q _ _ (a.trans a2) D2 (by omega) (by omega)
        · split
          · refine use_alignment D' (by decide) (by decide) fun j H2 a2 D2 hj => ?_
            simp only [tSeq, tAsg, tRet, tRetN, tDrop, tNext, tVar, tC, gName, tOp, tUn, rI, rI0, rU, tIfS, tTest, tB, tIf, tAnd, tOr, tNot, tAndV, tOrV, tNotV, tCall, tCons, tNil, tCB, tLst, tTup, tChain, CMul, CDiv, CPow, rEq, rNe, gSub, L2.start, LL.cxK0, LL.cxK1, List.map_cons, List.map_nil, List.length_cons, List.length_nil, List.replicate_succ, List.replicate_zero, List.cons_append, List.nil_append, List.append_nil, List.getElem?_cons_zero, List.getElem?_cons_succ, List.set_cons_zero, List.set_cons_succ, Nat.add_sub_cancel, Nat.reduceAdd, Nat.reduceSub, Option.some.injEq, V.int.injEq, V.bl.injEq, V.ref.injEq, V.str.injEq, List.cons.injEq, and_true, true_and, and_false, false_and, exists_eq_left, exists_eq_left', exists_and_left, exists_and_right, exists_eq, exists_eq', LL.if_dec, reduceCtorEq, exists_false, exists_const, or_false, false_or, if_true, if_false, LL.rInt1, LL.rMx, LL.rMn, and_assoc, Int.reduceNeg, Int.reduceLT, Int.reduceLE, Int.reduceMul, Int.reduceAdd, Int.reduceSub, Int.reducePow, Int.reduceToNat, Nat.reducePow, Nat.reduceLT, true_or, or_true, Bool.not_true, Bool.not_false, Bool.false_eq_true, Bool.or_false, Bool.or_true, Bool.true_or, Bool.false_or, decide_true, decide_false, not_true_eq_false, not_false_eq_true, LL.scal_int, LL.scal_bl, LL.scal_str, LL.isInt, LL.isBl, LL.isStr, LL.isLst, LL.isTup, LL.isDic]
            refine use_take D2 (by decide +kernel) fun v3 H3 a3 D3 h4 h5 => ?_
            simp only [tSeq, tAsg, tRet, tRetN, tDrop, tNext, tVar, tC, gName, tOp, tUn, rI, rI0, rU, tIfS, tTest, tB, tIf, tAnd, tOr, tNot, tAndV, tOrV, tNotV, tCall, tCons, tNil, tCB, tLst, tTup, tChain, CMul, CDiv, CPow, rEq, rNe, gSub, L2.start, LL.cxK0, LL.cxK1, List.map_cons, List.map_nil, List.length_cons, List.length_nil, List.replicate_succ, List.replicate_zero, List.cons_append, List.nil_append, List.append_nil, List.getElem?_cons_zero, List.getElem?_cons_succ, List.set_cons_zero, List.set_cons_succ, Nat.add_sub_cancel, Nat.reduceAdd, Nat.reduceSub, Option.some.injEq, V.int.injEq, V.bl.injEq, V.ref.injEq, V.str.injEq, List.cons.injEq, and_true, true_and, and_false, false_and, exists_eq_left, exists_eq_left', exists_and_left, exists_and_right, exists_eq, exists_eq', LL.if_dec, reduceCtorEq, exists_false, exists_const, or_false, false_or, if_true, if_false, LL.rInt1, LL.rMx, LL.rMn, and_assoc, Int.reduceNeg, Int.reduceLT, Int.reduceLE, Int.reduceMul, Int.reduceAdd, Int.reduceSub, Int.reducePow, Int.reduceToNat, Nat.reducePow, Nat.reduceLT, true_or, or_true, Bool.not_true, Bool.not_false, Bool.false_eq_true, Bool.or_false, Bool.or_true, Bool.true_or, Bool.false_or, decide_true, decide_false, not_true_eq_false, not_false_eq_true, LL.scal_int, LL.scal_bl, LL.scal_str, LL.isInt, LL.isBl, LL.isStr, LL.isLst, LL.isTup, LL.isDic]
            exact q _ _ ((a.trans a2).trans a3) D3 (by omega) (by omega)
          · refine use_take D' (big_of (by omega) (by omega)) fun v2 H2 a2 D2 h4 h5 => ?_
            simp only [tSeq, tAsg, tRet, tRetN, tDrop, tNext, tVar, tC, gName, tOp, tUn, rI, rI0, rU, tIfS, tTest, tB, tIf, tAnd, tOr, tNot, tAndV, tOrV, tNotV, tCall, tCons, tNil, tCB, tLst, tTup, tChain, CMul, CDiv, CPow, rEq, rNe, gSub, L2.start, LL.cxK0, LL.cxK1, List.map_cons, List.map_nil, List.length_cons, List.length_nil, List.replicate_succ, List.replicate_zero, List.cons_append, List.nil_append, List.append_nil, List.getElem?_cons_zero, List.getElem?_cons_succ, List.set_cons_zero, List.set_cons_succ, Nat.add_sub_cancel, Nat.reduceAdd, Nat.reduceSub, Option.some.injEq, V.int.injEq, V.bl.injEq, V.ref.injEq, V.str.injEq, List.cons.injEq, and_true, true_and, and_false, false_and, exists_eq_left, exists_eq_left', exists_and_left, exists_and_right, exists_eq, exists_eq', LL.if_dec, reduceCtorEq, exists_false, exists_const, or_false, false_or, if_true, if_false, LL.rInt1, LL.rMx, LL.rMn, and_assoc, Int.reduceNeg, Int.reduceLT, Int.reduceLE, Int.reduceMul, Int.reduceAdd, Int.reduceSub, Int.reducePow, Int.reduceToNat, Nat.reducePow, Nat.reduceLT, true_or, or_true, Bool.not_true, Bool.not_false, Bool.false_eq_true, Bool.or_false, Bool.or_true, Bool.true_or, Bool.false_or, decide_true, decide_false, not_true_eq_false, not_false_eq_true, LL.scal_int, LL.scal_bl, LL.scal_str, LL.isInt, LL.isBl, LL.isStr, LL.isLst, LL.isTup, LL.isDic]
            exact q _ _ (a.trans a2) D2 (by omega) (by omega)
def sp_law_long : Sp := fun vs H Q _ => vs = [] ∧ Q (.int (10 ^ 999)) H
theorem long_b (n : Nat) (h : n ≤ 15) : ((10 : Int) ^ (39 + 64 * n)).natAbs < 2 ^ 3400 := by
  have e : ((10 : Int) ^ (39 + 64 * n)).natAbs = 10 ^ (39 + 64 * n) := by rw [Int.natAbs_pow]; rfl
  rw [e]
  exact Nat.lt_of_le_of_lt (Nat.pow_le_pow_right (by decide) (by omega : 39 + 64 * n ≤ 999)) (by decide +kernel)

theorem ok_law_long (T : Tx K mg) : FnOk P w K mg base CX0 1 (He.ga K "_law_long") T.fd_law_long P_law_long sp_law_long := by
  refine T.F_law_long.ok sc_law_long (fun vs H Q E h => ?_) (fun cdv A outer s H vs Q E hr h => ⟨_, PSs.nox (pss_cons (ps_set (i := 0) sc_law_long.nd rfl (Or.inl rfl) (pe_op op_pow (pe_int) (pe_int))) (pss_cons (ps_for PassesOwn.never rfl (pi_range1 rfl T.z_range (pa_cons (pe_int) pa_nil)) (pg_name (i := 1) sc_law_long.nd rfl (Or.inl rfl)) (pss_one (ps_set (i := 0) sc_law_long.nd rfl (Or.inl rfl) (pe_op op_mulW (pv 0) (pe_op op_pow (pe_int) (pe_int)))))) (pss_one (ps_ret (pv 0))))), ?_⟩)
  · obtain ⟨rfl, _⟩ := h
    rfl
  · obtain ⟨rfl, q⟩ := h
    simp only [tSeq, tAsg, tRet, tRetN, tDrop, tNext, tVar, tC, gName, tOp, tUn, rI, rI0, rU, tIfS, tTest, tB, tIf, tAnd, tOr, tNot, tAndV, tOrV, tNotV, tCall, tCons, tNil, tCB, tLst, tTup, tChain, CMul, CDiv, CPow, rEq, rNe, gSub, L2.start, LL.cxK0, LL.cxK1, List.map_cons, List.map_nil, List.length_cons, List.length_nil, List.replicate_succ, List.replicate_zero, List.cons_append, List.nil_append, List.append_nil, List.getElem?_cons_zero, List.getElem?_cons_succ, List.set_cons_zero, List.set_cons_succ, Nat.add_sub_cancel, Nat.reduceAdd, Nat.reduceSub, Option.some.injEq, V.int.injEq, V.bl.injEq, V.ref.injEq, V.str.injEq, List.cons.injEq, and_true, true_and, and_false, false_and, exists_eq_left, exists_eq_left', exists_and_left, exists_and_right, exists_eq, exists_eq', LL.if_dec, reduceCtorEq, exists_false, exists_const, or_false, false_or, if_true, if_false, LL.rInt1, LL.rMx, LL.rMn, and_assoc, Int.reduceNeg, Int.reduceLT, Int.reduceLE, Int.reduceMul, Int.reduceAdd, Int.reduceSub, Int.reducePow, Int.reduceToNat, Nat.reducePow, Nat.reduceLT, true_or, or_true, Bool.not_true, Bool.not_false, Bool.false_eq_true, Bool.or_false, Bool.or_true, Bool.true_or, Bool.false_or, decide_true, decide_false, not_true_eq_false, not_false_eq_true, LL.scal_int, LL.scal_bl, LL.scal_str, LL.isInt, LL.isBl, LL.isStr, LL.isLst, LL.isTup, LL.isDic, N_law_long]
    refine ⟨by decide, use_forR (j := 15) (fun Q q => q) (by decide) (by decide) (fun i σ' H' => H' = H ∧ i ≤ 15 ∧ ∃ x : Option V, σ' = [some (.int (10 ^ (39 + 64 * i))), x]) ⟨rfl, by decide, _, rfl⟩ ?_ ?_⟩
    · rintro i σ' H' hi ⟨rfl, h1, x, rfl⟩
      simp only [tSeq, tAsg, tRet, tRetN, tDrop, tNext, tVar, tC, gName, tOp, tUn, rI, rI0, rU, tIfS, tTest, tB, tIf, tAnd, tOr, tNot, tAndV, tOrV, tNotV, tCall, tCons, tNil, tCB, tLst, tTup, tChain, CMul, CDiv, CPow, rEq, rNe, gSub, L2.start, LL.cxK0, LL.cxK1, List.map_cons, List.map_nil, List.length_cons, List.length_nil, List.replicate_succ, List.replicate_zero, List.cons_append, List.nil_append, List.append_nil, List.getElem?_cons_zero, List.getElem?_cons_succ, List.set_cons_zero, List.set_cons_succ, Nat.add_sub_cancel, Nat.reduceAdd, Nat.reduceSub, Option.some.injEq, V.int.injEq, V.bl.injEq, V.ref.injEq, V.str.injEq, List.cons.injEq, and_true, true_and, and_false, false_and, exists_eq_left, exists_eq_left', exists_and_left, exists_and_right, exists_eq, exists_eq', LL.if_dec, reduceCtorEq, exists_false, exists_const, or_false, false_or, if_true, if_false, LL.rInt1, LL.rMx, LL.rMn, and_assoc, Int.reduceNeg, Int.reduceLT, Int.reduceLE, Int.reduceMul, Int.reduceAdd, Int.reduceSub, Int.reducePow, Int.reduceToNat, Nat.reducePow, Nat.reduceLT, true_or, or_true, Bool.not_true, Bool.not_false, Bool.false_eq_true, Bool.or_false, Bool.or_true, Bool.true_or, Bool.false_or, decide_true, decide_false, not_true_eq_false, not_false_eq_true, LL.scal_int, LL.scal_bl, LL.scal_str, LL.isInt, LL.isBl, LL.isStr, LL.isLst, LL.isTup, LL.isDic]
      have e : (10 : Int) ^ (39 + 64 * i) * 10 ^ 64 = 10 ^ (39 + 64 * (i + 1)) := by
        rw [← Int.pow_add, show 39 + 64 * i + 64 = 39 + 64 * (i + 1) by omega]
      refine ⟨by decide, wide_mul (a := 3400) (b := 220) (long_b i h1) (by decide +kernel) (by decide) (by decide) (by decide), by omega, ?_⟩
      exact e
    · rintro σ' H' ⟨rfl, h1, x, rfl⟩
      simp only [tSeq, tAsg, tRet, tRetN, tDrop, tNext, tVar, tC, gName, tOp, tUn, rI, rI0, rU, tIfS, tTest, tB, tIf, tAnd, tOr, tNot, tAndV, tOrV, tNotV, tCall, tCons, tNil, tCB, tLst, tTup, tChain, CMul, CDiv, CPow, rEq, rNe, gSub, L2.start, LL.cxK0, LL.cxK1, List.map_cons, List.map_nil, List.length_cons, List.length_nil, List.replicate_succ, List.replicate_zero, List.cons_append, List.nil_append, List.append_nil, List.getElem?_cons_zero, List.getElem?_cons_succ, List.set_cons_zero, List.set_cons_succ, Nat.add_sub_cancel, Nat.reduceAdd, Nat.reduceSub, Option.some.injEq, V.int.injEq, V.bl.injEq, V.ref.injEq, V.str.injEq, List.cons.injEq, and_true, true_and, and_false, false_and, exists_eq_left, exists_eq_left', exists_and_left, exists_and_right, exists_eq, exists_eq', LL.if_dec, reduceCtorEq, exists_false, exists_const, or_false, false_or, if_true, if_false, LL.rInt1, LL.rMx, LL.rMn, and_assoc, Int.reduceNeg, Int.reduceLT, Int.reduceLE, Int.reduceMul, Int.reduceAdd, Int.reduceSub, Int.reducePow, Int.reduceToNat, Nat.reducePow, Nat.reduceLT, true_or, or_true, Bool.not_true, Bool.not_false, Bool.false_eq_true, Bool.or_false, Bool.or_true, Bool.true_or, Bool.false_or, decide_true, decide_false, not_true_eq_false, not_false_eq_true, LL.scal_int, LL.scal_bl, LL.scal_str, LL.isInt, LL.isBl, LL.isStr, LL.isLst, LL.isTup, LL.isDic]
      exact q
/-- data that is no integer -/
def sp_law_not_integer : Sp := fun vs H Q _ => ∃ (d s : Addr), vs = [.ref d] ∧ Drw d s H ∧ ∀ v t H', Aft d s H H' → Drw d s H' → Dt (fun a => H a = none) H' v t → dep t ≤ 1 → isInt t = false → Q v H'

theorem ok_law_not_integer (T : Tx K mg) : FnOk P w K mg base CX0 3 (He.ga K "_law_not_integer") T.fd_law_not_integer P_law_not_integer sp_law_not_integer := by
  refine T.F_law_not_integer.ok sc_law_not_integer (fun vs H Q E h => ?_) (fun cdv A outer s H vs Q E hr h => ⟨_, PSs.nox (pss_one (ps_ret (pe_ix (show IxR _ (rIxL K) from ix_list) (pe_lst (pa_cons (pe_bl) (pa_cons (pe_bl) (pa_cons (pe_non) (pa_cons (pe_str) (pa_cons (pe_str) (pa_cons (pe_str) (pa_cons (pe_lst pa_nil) (pa_cons (pe_tup pa_nil) (pa_cons (pe_lst (pa_cons (pe_int) pa_nil)) (pa_cons (pe_tup (pa_cons (pe_int) pa_nil)) (pa_cons (pe_disp (pps_cons (pe_str) (pe_int) pps_nil) (by rfl) (by rfl) (fun z => by cases z) (by decide)) pa_nil)))))))))))) (pe_call (ok_law_take T) hr rfl T.g_law_take T.F_law_take.kp (b_law_take T) .nil pass0 (pa_cons (pv 0) (pa_cons (pe_int) pa_nil))) (fun _ _ => rfl)))), ?_⟩)
  · obtain ⟨_, _, rfl, _⟩ := h
    rfl
  · obtain ⟨d, s, rfl, D, q⟩ := h
    simp only [tSeq, tAsg, tRet, tRetN, tDrop, tNext, tVar, tC, gName, tOp, tUn, rI, rI0, rU, tIfS, tTest, tB, tIf, tAnd, tOr, tNot, tAndV, tOrV, tNotV, tCall, tCons, tNil, tCB, tLst, tTup, tChain, CMul, CDiv, CPow, rEq, rNe, gSub, L2.start, LL.cxK0, LL.cxK1, List.map_cons, List.map_nil, List.length_cons, List.length_nil, List.replicate_succ, List.replicate_zero, List.cons_append, List.nil_append, List.append_nil, List.getElem?_cons_zero, List.getElem?_cons_succ, List.set_cons_zero, List.set_cons_succ, Nat.add_sub_cancel, Nat.reduceAdd, Nat.reduceSub, Option.some.injEq, V.int.injEq, V.bl.injEq, V.ref.injEq, V.str.injEq, List.cons.injEq, and_true, true_and, and_false, false_and, exists_eq_left, exists_eq_left', exists_and_left, exists_and_right, exists_eq, exists_eq', LL.if_dec, reduceCtorEq, exists_false, exists_const, or_false, false_or, if_true, if_false, LL.rInt1, LL.rMx, LL.rMn, and_assoc, Int.reduceNeg, Int.reduceLT, Int.reduceLE, Int.reduceMul, Int.reduceAdd, Int.reduceSub, Int.reducePow, Int.reduceToNat, Nat.reducePow, Nat.reduceLT, true_or, or_true, Bool.not_true, Bool.not_false, Bool.false_eq_true, Bool.or_false, Bool.or_true, Bool.true_or, Bool.false_or, decide_true, decide_false, not_true_eq_false, not_false_eq_true, LL.scal_int, LL.scal_bl, LL.scal_str, LL.isInt, LL.isBl, LL.isStr, LL.isLst, LL.isTup, LL.isDic, N_law_not_integer]
    refine ⟨by decide, ?_⟩
    intro p1 np1
    generalize hq : upd H p1 _ = H1
    have sH1 : Same H H1 := hq ▸ Same.new (Same.refl _) np1
    have ep1 := hq ▸ (upd_same (H := H) (a := p1))
    clear hq
    refine ⟨by decide, ?_⟩
    intro p2 np2
    generalize hq : upd H1 p2 _ = H2
    have sH2 : Same H1 H2 := hq ▸ Same.new (Same.refl _) np2
    have ep2 := hq ▸ (upd_same (H := H1) (a := p2))
    clear hq
    replace ep1 := sH2 _ _ ep1
    refine ⟨by decide, ?_⟩
    intro p3 np3
    generalize hq : upd H2 p3 _ = H3
    have sH3 : Same H2 H3 := hq ▸ Same.new (Same.refl _) np3
    have ep3 := hq ▸ (upd_same (H := H2) (a := p3))
    clear hq
    replace ep1 := sH3 _ _ ep1
    replace ep2 := sH3 _ _ ep2
    refine ⟨by decide, ?_⟩
    intro p4 np4
    generalize hq : upd H3 p4 _ = H4
    have sH4 : Same H3 H4 := hq ▸ Same.new (Same.refl _) np4
    have ep4 := hq ▸ (upd_same (H := H3) (a := p4))
    clear hq
    replace ep1 := sH4 _ _ ep1
    replace ep2 := sH4 _ _ ep2
    replace ep3 := sH4 _ _ ep3
    unfold tDisp
    intro p5 np5
    generalize hq : upd H4 p5 _ = H5
    have sH5 : Same H4 H5 := hq ▸ Same.new (Same.refl _) np5
    have ep5 := hq ▸ (upd_same (H := H4) (a := p5))
    clear hq
    simp only [tPairs, tC]
    refine ⟨ep5, [(Sum.inr "a", .int 1)], rfl, by decide, ?_⟩
    have n5 : H4 p5 = none := np5
    generalize hq : upd H5 p5 _ = H6
    have e5 : H6 p5 = some (.dK [(Sum.inr "a", .int 1)]) := hq ▸ upd_same
    have s6 : Same H4 H6 := hq ▸ Same.own sH5 n5
    clear hq
    replace ep1 := s6 _ _ ep1
    replace ep2 := s6 _ _ ep2
    replace ep3 := s6 _ _ ep3
    replace ep4 := s6 _ _ ep4
    refine ⟨by decide, ?_⟩
    have g6 : Same H H6 := (((sH1.trans sH2).trans sH3).trans sH4).trans s6
    intro p6 np6
    generalize hq : upd H6 p6 _ = H7
    have sH7 : Same H6 H7 := hq ▸ Same.new (Same.refl _) np6
    have ep6 := hq ▸ (upd_same (H := H6) (a := p6))
    clear hq
    replace ep1 := sH7 _ _ ep1
    replace ep2 := sH7 _ _ ep2
    replace ep3 := sH7 _ _ ep3
    replace ep4 := sH7 _ _ ep4
    replace e5 := sH7 _ _ e5
    have g7 := g6.trans sH7
    refine use_take (D.same g7) (by decide +kernel) fun v H' a D' v0 v1 => ?_
    refine use_pick (a.kp _ _ ((D.same g6).ne _ np6) ep6) v0 (by simp only [List.length_cons, List.length_nil]; omega) ?_
    have A : Aft d s H H' := ⟨(Kp.same g7).trans a.kp, D'⟩
    have f1 : H p1 = none := np1
    have f2 : H p2 = none := sH1.free np2
    have f3 : H p3 = none := (sH1.trans sH2).free np3
    have f4 : H p4 = none := ((sH1.trans sH2).trans sH3).free np4
    have f5 : H p5 = none := (((sH1.trans sH2).trans sH3).trans sH4).free n5
    replace ep1 := a.kp _ _ (D.ne _ f1) ep1
    replace ep2 := a.kp _ _ (D.ne _ f2) ep2
    replace ep3 := a.kp _ _ (D.ne _ f3) ep3
    replace ep4 := a.kp _ _ (D.ne _ f4) ep4
    replace e5 := a.kp _ _ (D.ne _ f5) e5
    intro x hx
    simp only [List.mem_cons, List.not_mem_nil, or_false] at hx
    rcases hx with rfl | rfl | rfl | rfl | rfl | rfl | rfl | rfl | rfl | rfl | rfl
    · exact q _ (.bl true) _ A D' rfl (by decide) rfl
    · exact q _ (.bl false) _ A D' rfl (by decide) rfl
    · exact q _ .non _ A D' rfl (by decide) rfl
    · exact q _ (.str _) _ A D' rfl (by simp [dep]) rfl
    · exact q _ (.str _) _ A D' rfl (by simp [dep]) rfl
    · exact q _ (.str _) _ A D' rfl (by simp [dep]) rfl
    · exact q _ (.lst []) _ A D' ⟨_, _, rfl, f1, ep1, rfl, by decide⟩ (by decide) rfl
    · exact q _ (.tup []) _ A D' ⟨_, _, rfl, f2, ep2, rfl, by decide⟩ (by decide) rfl
    · exact q _ (.lst [.int 1]) _ A D' ⟨_, _, rfl, f3, ep3, .one rfl, by simp⟩ (by decide) rfl
    · exact q _ (.tup [.int 0]) _ A D' ⟨_, _, rfl, f4, ep4, .one rfl, by simp⟩ (by decide) rfl
    · exact q _ (.dic (.int 1)) _ A D' ⟨_, _, rfl, f5, e5, rfl⟩ (by decide) rfl
/-- an integer out of the range, or data that is none -/
def Out (lo hi : Int) : T → Prop
  | .int i => i < lo ∨ hi < i
  | _ => True
theorem out_of {lo hi : Int} {t : T} (h : isInt t = false) : Out lo hi t := by cases t <;> first | trivial | cases h
def sp_law_not_within : Sp := fun vs H Q _ => ∃ (d s : Addr) (lo hi : Int), vs = [.ref d, .int lo, .int hi] ∧ Drw d s H ∧ -1000000000000 ≤ lo ∧ lo ≤ 1000000000000 ∧ -1000000000000 ≤ hi ∧ hi ≤ 1000000000000 ∧
  ∀ v t H', Aft d s H H' → Drw d s H' → Dt (fun a => H a = none) H' v t → dep t ≤ 1 → Out lo hi t → Q v H'
theorem use_not_within {d s : Addr} {lo hi : Int} {H : Hp} {Q : VK} {E : XK} (D : Drw d s H) (h0 : -1000000000000 ≤ lo) (h1 : lo ≤ 1000000000000) (h2 : -1000000000000 ≤ hi) (h3 : hi ≤ 1000000000000)
    (q : ∀ v t H', Aft d s H H' → Drw d s H' → Dt (fun a => H a = none) H' v t → dep t ≤ 1 → Out lo hi t → Q v H') : sp_law_not_within [.ref d, .int lo, .int hi] H Q E := ⟨d, s, lo, hi, rfl, D, h0, h1, h2, h3, q⟩
theorem ten30 : ((1000000000000000000000000000000 : Int)).natAbs < 2 ^ 4000 := by decide +kernel
theorem ten999 : (1000000000001 : Int) ≤ 10 ^ 999 := by decide +kernel

theorem ok_law_not_within (T : Tx K mg) : FnOk P w K mg base CX0 4 (He.ga K "_law_not_within") T.fd_law_not_within P_law_not_within sp_law_not_within := by
  refine T.F_law_not_within.ok sc_law_not_within (fun vs H Q E h => ?_) (fun cdv A outer s H vs Q E hr h => ⟨_, PSs.nox (pss_cons (ps_set (i := 3) sc_law_not_within.nd rfl (Or.inl rfl) (pe_call (ok_law_take T) (hr.mono (by decide)) rfl T.g_law_take T.F_law_take.kp (b_law_take T) .nil pass0 (pa_cons (pv 0) (pa_cons (pe_int) pa_nil)))) (pss_cons (ps_if (pt_cmpR op_lt (pv 3) (pe_int) (nomark _)) (pss_one (ps_ret (pe_ix (show IxR _ (rIxL K) from ix_list) (pe_lst (pa_cons (pe_op op_sub (pv 1) (pe_int)) (pa_cons (pe_op op_add (pv 2) (pe_int)) pa_nil))) (pv 3) (fun _ _ => rfl)))) pss_nil) (pss_cons (ps_if (pt_cmpR op_eq (pv 3) (pe_int) (nomark _)) (pss_one (ps_ret (pe_op op_add (pe_op op_add (pv 2) (pe_int)) (pe_call (ok_law_take T) (hr.mono (by decide)) rfl T.g_law_take T.F_law_take.kp (b_law_take T) .nil pass0 (pa_cons (pv 0) (pa_cons (pe_op op_pow (pe_int) (pe_int)) pa_nil)))))) pss_nil) (pss_cons (ps_if (pt_cmpR op_eq (pv 3) (pe_int) (nomark _)) (pss_one (ps_ret (pe_op op_sub (pe_op op_sub (pv 1) (pe_int)) (pe_call (ok_law_take T) (hr.mono (by decide)) rfl T.g_law_take T.F_law_take.kp (b_law_take T) .nil pass0 (pa_cons (pv 0) (pa_cons (pe_op op_pow (pe_int) (pe_int)) pa_nil)))))) pss_nil) (pss_cons (ps_if (pt_cmpR op_eq (pv 3) (pe_int) (nomark _)) (pss_one (ps_ret (pe_ix (show IxR _ (rIxL K) from ix_list) (pe_lst (pa_cons (pe_call0 (ok_law_long T) (hr.mono (by decide)) rfl T.g_law_long T.F_law_long.kp (b_law_long T) .nil pass0) (pa_cons (pe_un un_neg (pe_call0 (ok_law_long T) (hr.mono (by decide)) rfl T.g_law_long T.F_law_long.kp (b_law_long T) .nil pass0)) pa_nil))) (pe_call (ok_law_take T) (hr.mono (by decide)) rfl T.g_law_take T.F_law_take.kp (b_law_take T) .nil pass0 (pa_cons (pv 0) (pa_cons (pe_int) pa_nil))) (fun _ _ => rfl)))) pss_nil) (pss_one (ps_ret (pe_call (ok_law_not_integer T) hr rfl T.g_law_not_integer T.F_law_not_integer.kp (b_law_not_integer T) .nil pass0 (pa_cons (pv 0) pa_nil))))))))), ?_⟩)
  · obtain ⟨_, _, _, _, rfl, _⟩ := h
    rfl
  · obtain ⟨d, s, lo, hi, rfl, D, h0, h1, h2, h3, q⟩ := h
    simp only [tSeq, tAsg, tRet, tRetN, tDrop, tNext, tVar, tC, gName, tOp, tUn, rI, rI0, rU, tIfS, tTest, tB, tIf, tAnd, tOr, tNot, tAndV, tOrV, tNotV, tCall, tCons, tNil, tCB, tLst, tTup, tChain, CMul, CDiv, CPow, rEq, rNe, gSub, L2.start, LL.cxK0, LL.cxK1, List.map_cons, List.map_nil, List.length_cons, List.length_nil, List.replicate_succ, List.replicate_zero, List.cons_append, List.nil_append, List.append_nil, List.getElem?_cons_zero, List.getElem?_cons_succ, List.set_cons_zero, List.set_cons_succ, Nat.add_sub_cancel, Nat.reduceAdd, Nat.reduceSub, Option.some.injEq, V.int.injEq, V.bl.injEq, V.ref.injEq, V.str.injEq, List.cons.injEq, and_true, true_and, and_false, false_and, exists_eq_left, exists_eq_left', exists_and_left, exists_and_right, exists_eq, exists_eq', LL.if_dec, reduceCtorEq, exists_false, exists_const, or_false, false_or, if_true, if_false, LL.rInt1, LL.rMx, LL.rMn, and_assoc, Int.reduceNeg, Int.reduceLT, Int.reduceLE, Int.reduceMul, Int.reduceAdd, Int.reduceSub, Int.reducePow, Int.reduceToNat, Nat.reducePow, Nat.reduceLT, true_or, or_true, Bool.not_true, Bool.not_false, Bool.false_eq_true, Bool.or_false, Bool.or_true, Bool.true_or, Bool.false_or, decide_true, decide_false, not_true_eq_false, not_false_eq_true, LL.scal_int, LL.scal_bl, LL.scal_str, LL.isInt, LL.isBl, LL.isStr, LL.isLst, LL.isTup, LL.isDic, N_law_not_within]
    refine use_take D (by decide +kernel) fun v H' a D' v0 v1 => ?_
    simp only [tSeq, tAsg, tRet, tRetN, tDrop, tNext, tVar, tC, gName, tOp, tUn, rI, rI0, rU, tIfS, tTest, tB, tIf, tAnd, tOr, tNot, tAndV, tOrV, tNotV, tCall, tCons, tNil, tCB, tLst, tTup, tChain, CMul, CDiv, CPow, rEq, rNe, gSub, L2.start, LL.cxK0, LL.cxK1, List.map_cons, List.map_nil, List.length_cons, List.length_nil, List.replicate_succ, List.replicate_zero, List.cons_append, List.nil_append, List.append_nil, List.getElem?_cons_zero, List.getElem?_cons_succ, List.set_cons_zero, List.set_cons_succ, Nat.add_sub_cancel, Nat.reduceAdd, Nat.reduceSub, Option.some.injEq, V.int.injEq, V.bl.injEq, V.ref.injEq, V.str.injEq, List.cons.injEq, and_true, true_and, and_false, false_and, exists_eq_left, exists_eq_left', exists_and_left, exists_and_right, exists_eq, exists_eq', LL.if_dec, reduceCtorEq, exists_false, exists_const, or_false, false_or, if_true, if_false, LL.rInt1, LL.rMx, LL.rMn, and_assoc, Int.reduceNeg, Int.reduceLT, Int.reduceLE, Int.reduceMul, Int.reduceAdd, Int.reduceSub, Int.reducePow, Int.reduceToNat, Nat.reducePow, Nat.reduceLT, true_or, or_true, Bool.not_true, Bool.not_false, Bool.false_eq_true, Bool.or_false, Bool.or_true, Bool.true_or, Bool.false_or, decide_true, decide_false, not_true_eq_false, not_false_eq_true, LL.scal_int, LL.scal_bl, LL.scal_str, LL.isInt, LL.isBl, LL.isStr, LL.isLst, LL.isTup, LL.isDic]
    split
    · refine ⟨by decide, fun p hp => ?_⟩
      refine use_pick upd_same v0 (by simp only [List.length_cons, List.length_nil]; omega) ?_
      have a2 := a.new (o := .lst [.int (lo - 1), .int (hi + 1)]) hp
      intro x hx
      simp only [List.mem_cons, List.not_mem_nil, or_false] at hx
      rcases hx with rfl | rfl
      · exact q _ (.int _) _ a2 a2.dr rfl (by simp [dep]) (.inl (by omega))
      · exact q _ (.int _) _ a2 a2.dr rfl (by simp [dep]) (.inr (by omega))
    · split
      · refine ⟨by decide, use_take D' (by decide +kernel) fun v2 H2 a2 D2 h4 h5 => ?_⟩
        simp only [tSeq, tAsg, tRet, tRetN, tDrop, tNext, tVar, tC, gName, tOp, tUn, rI, rI0, rU, tIfS, tTest, tB, tIf, tAnd, tOr, tNot, tAndV, tOrV, tNotV, tCall, tCons, tNil, tCB, tLst, tTup, tChain, CMul, CDiv, CPow, rEq, rNe, gSub, L2.start, LL.cxK0, LL.cxK1, List.map_cons, List.map_nil, List.length_cons, List.length_nil, List.replicate_succ, List.replicate_zero, List.cons_append, List.nil_append, List.append_nil, List.getElem?_cons_zero, List.getElem?_cons_succ, List.set_cons_zero, List.set_cons_succ, Nat.add_sub_cancel, Nat.reduceAdd, Nat.reduceSub, Option.some.injEq, V.int.injEq, V.bl.injEq, V.ref.injEq, V.str.injEq, List.cons.injEq, and_true, true_and, and_false, false_and, exists_eq_left, exists_eq_left', exists_and_left, exists_and_right, exists_eq, exists_eq', LL.if_dec, reduceCtorEq, exists_false, exists_const, or_false, false_or, if_true, if_false, LL.rInt1, LL.rMx, LL.rMn, and_assoc, Int.reduceNeg, Int.reduceLT, Int.reduceLE, Int.reduceMul, Int.reduceAdd, Int.reduceSub, Int.reducePow, Int.reduceToNat, Nat.reducePow, Nat.reduceLT, true_or, or_true, Bool.not_true, Bool.not_false, Bool.false_eq_true, Bool.or_false, Bool.or_true, Bool.true_or, Bool.false_or, decide_true, decide_false, not_true_eq_false, not_false_eq_true, LL.scal_int, LL.scal_bl, LL.scal_str, LL.isInt, LL.isBl, LL.isStr, LL.isLst, LL.isTup, LL.isDic]
        exact q _ (.int _) _ (a.trans a2) D2 rfl (by simp [dep]) (.inr (by omega))
      · split
        · refine ⟨by decide, use_take D' (by decide +kernel) fun v2 H2 a2 D2 h4 h5 => ?_⟩
          simp only [tSeq, tAsg, tRet, tRetN, tDrop, tNext, tVar, tC, gName, tOp, tUn, rI, rI0, rU, tIfS, tTest, tB, tIf, tAnd, tOr, tNot, tAndV, tOrV, tNotV, tCall, tCons, tNil, tCB, tLst, tTup, tChain, CMul, CDiv, CPow, rEq, rNe, gSub, L2.start, LL.cxK0, LL.cxK1, List.map_cons, List.map_nil, List.length_cons, List.length_nil, List.replicate_succ, List.replicate_zero, List.cons_append, List.nil_append, List.append_nil, List.getElem?_cons_zero, List.getElem?_cons_succ, List.set_cons_zero, List.set_cons_succ, Nat.add_sub_cancel, Nat.reduceAdd, Nat.reduceSub, Option.some.injEq, V.int.injEq, V.bl.injEq, V.ref.injEq, V.str.injEq, List.cons.injEq, and_true, true_and, and_false, false_and, exists_eq_left, exists_eq_left', exists_and_left, exists_and_right, exists_eq, exists_eq', LL.if_dec, reduceCtorEq, exists_false, exists_const, or_false, false_or, if_true, if_false, LL.rInt1, LL.rMx, LL.rMn, and_assoc, Int.reduceNeg, Int.reduceLT, Int.reduceLE, Int.reduceMul, Int.reduceAdd, Int.reduceSub, Int.reducePow, Int.reduceToNat, Nat.reducePow, Nat.reduceLT, true_or, or_true, Bool.not_true, Bool.not_false, Bool.false_eq_true, Bool.or_false, Bool.or_true, Bool.true_or, Bool.false_or, decide_true, decide_false, not_true_eq_false, not_false_eq_true, LL.scal_int, LL.scal_bl, LL.scal_str, LL.isInt, LL.isBl, LL.isStr, LL.isLst, LL.isTup, LL.isDic]
          exact q _ (.int _) _ (a.trans a2) D2 rfl (by simp [dep]) (.inl (by omega))
        · split
          · refine ⟨rfl, ⟨rfl, ?_⟩⟩
            simp only [tSeq, tAsg, tRet, tRetN, tDrop, tNext, tVar, tC, gName, tOp, tUn, rI, rI0, rU, tIfS, tTest, tB, tIf, tAnd, tOr, tNot, tAndV, tOrV, tNotV, tCall, tCons, tNil, tCB, tLst, tTup, tChain, CMul, CDiv, CPow, rEq, rNe, gSub, L2.start, LL.cxK0, LL.cxK1, List.map_cons, List.map_nil, List.length_cons, List.length_nil, List.replicate_succ, List.replicate_zero, List.cons_append, List.nil_append, List.append_nil, List.getElem?_cons_zero, List.getElem?_cons_succ, List.set_cons_zero, List.set_cons_succ, Nat.add_sub_cancel, Nat.reduceAdd, Nat.reduceSub, Option.some.injEq, V.int.injEq, V.bl.injEq, V.ref.injEq, V.str.injEq, List.cons.injEq, and_true, true_and, and_false, false_and, exists_eq_left, exists_eq_left', exists_and_left, exists_and_right, exists_eq, exists_eq', LL.if_dec, reduceCtorEq, exists_false, exists_const, or_false, false_or, if_true, if_false, LL.rInt1, LL.rMx, LL.rMn, and_assoc, Int.reduceNeg, Int.reduceLT, Int.reduceLE, Int.reduceMul, Int.reduceAdd, Int.reduceSub, Int.reducePow, Int.reduceToNat, Nat.reducePow, Nat.reduceLT, true_or, or_true, Bool.not_true, Bool.not_false, Bool.false_eq_true, Bool.or_false, Bool.or_true, Bool.true_or, Bool.false_or, decide_true, decide_false, not_true_eq_false, not_false_eq_true, LL.scal_int, LL.scal_bl, LL.scal_str, LL.isInt, LL.isBl, LL.isStr, LL.isLst, LL.isTup, LL.isDic]
            refine ⟨by decide, ?_⟩
            intro p np
            generalize hq : upd H' p _ = H1
            have sH1 : Same H' H1 := hq ▸ Same.new (Same.refl _) np
            have ep := hq ▸ (upd_same (H := H') (a := p))
            clear hq
            refine use_take (D'.same sH1) (by decide +kernel) fun v2 H2 a2 D2 h4 h5 => ?_
            refine use_pick (a2.kp _ _ (D'.ne _ np) ep) h4 (by simp only [List.length_cons, List.length_nil]; omega) ?_
            have A : Aft d s H H2 := a.trans ⟨(Kp.same sH1).trans a2.kp, D2⟩
            have := ten999
            intro x hx
            simp only [List.mem_cons, List.not_mem_nil, or_false] at hx
            rcases hx with rfl | rfl
            · exact q _ (.int _) _ A D2 rfl (by simp [dep]) (.inr (by generalize (10 : Int) ^ 999 = z at *; omega))
            · exact q _ (.int _) _ A D2 rfl (by simp [dep]) (.inl (by generalize (10 : Int) ^ 999 = z at *; omega))
          · refine ⟨d, s, rfl, D', fun v t H2 a2 D2 hd hp ht => ?_⟩
            exact q v t H2 (a.trans a2) D2 (hd.to fun b hb => a.free hb) hp (out_of ht)
end K25

namespace K25
open PySem PySem.Spec PyProof.Rows L2 LL
variable {P : Program} {w : World} {K : PySem.W.Frag} {mg : Str → Option Value} {base : Heap}

def sp_isint : Sp := fun vs H Q _ => ∃ (F : Addr → Prop) (v : V) (t : LL.T), vs = [v] ∧ Dt F H v t ∧ Q (.bl (LL.isInt t)) H
theorem use_isint {F : Addr → Prop} {v : V} {t : LL.T} {H : Hp} {Q : VK} {E : XK} (h : Dt F H v t) (q : Q (.bl (LL.isInt t)) H) : sp_isint [v] H Q E := ⟨F, v, t, rfl, h, q⟩

theorem ok_law_is_int (T : Tx K mg) : FnOk P w K mg base CX0 1 (He.ga K "_law_is_int") T.fd_law_is_int P_law_is_int sp_isint := by
  refine T.F_law_is_int.ok sc_law_is_int (fun vs H Q E h => ?_) (fun cdv A outer s H vs Q E hr h => ⟨_, PSs.nox (pss_one (ps_ret ((pe_and (pe_callB call_isi (by rfl) T.z_isinstance (by decide +kernel) (pa_cons (pv 0) (pa_cons (pe_bltn (v := .ty "int") (u := .type "int") (by rfl) T.z_int (by decide +kernel) rfl) pa_nil))) (pe_one (pe_not (pe_callB call_isi (by rfl) T.z_isinstance (by decide +kernel) (pa_cons (pv 0) (pa_cons (pe_bltn (v := .ty "bool") (u := .type "bool") (by rfl) T.z_bool (by decide +kernel) rfl) pa_nil))))))))), ?_⟩)
  · obtain ⟨_, _, _, rfl, _⟩ := h
    rfl
  · obtain ⟨F, v, t, rfl, hd, q⟩ := h
    simp only [tSeq, tAsg, tRet, tRetN, tDrop, tNext, tVar, tC, gName, tOp, tUn, rI, rI0, rU, tIfS, tTest, tB, tIf, tAnd, tOr, tNot, tAndV, tOrV, tNotV, tCall, tCons, tNil, tCB, tLst, tTup, tChain, CMul, CDiv, CPow, rEq, rNe, gSub, L2.start, LL.cxK0, LL.cxK1, List.map_cons, List.map_nil, List.length_cons, List.length_nil, List.replicate_succ, List.replicate_zero, List.cons_append, List.nil_append, List.append_nil, List.getElem?_cons_zero, List.getElem?_cons_succ, List.set_cons_zero, List.set_cons_succ, Nat.add_sub_cancel, Nat.reduceAdd, Nat.reduceSub, Option.some.injEq, V.int.injEq, V.bl.injEq, V.ref.injEq, V.str.injEq, List.cons.injEq, and_true, true_and, and_false, false_and, exists_eq_left, exists_eq_left', exists_and_left, exists_and_right, exists_eq, exists_eq', LL.if_dec, reduceCtorEq, exists_false, exists_const, or_false, false_or, if_true, if_false, LL.rInt1, LL.rMx, LL.rMn, and_assoc, Int.reduceNeg, Int.reduceLT, Int.reduceLE, Int.reduceMul, Int.reduceAdd, Int.reduceSub, Int.reducePow, Int.reduceToNat, Nat.reducePow, Nat.reduceLT, true_or, or_true, Bool.not_true, Bool.not_false, Bool.false_eq_true, Bool.or_false, Bool.or_true, Bool.true_or, Bool.false_or, decide_true, decide_false, not_true_eq_false, not_false_eq_true, LL.scal_int, LL.scal_bl, LL.scal_str, LL.isInt, LL.isBl, LL.isStr, LL.isLst, LL.isTup, LL.isDic, N_law_is_int]
    cases t
    all_goals
      repeat (first | refine use_isi hd (kit_int _) ?_ | refine use_isi hd (kit_bool _) ?_ | refine use_isi hd (kit_str _) ?_ | refine use_isi hd (kit_list _) ?_ | refine use_isi hd (kit_tuple _) ?_ | refine use_isi hd (kit_dict _) ?_ | refine And.intro (show scal _ _ = true from rfl) ?_ | simp only [tSeq, tAsg, tRet, tRetN, tDrop, tNext, tVar, tC, gName, tOp, tUn, rI, rI0, rU, tIfS, tTest, tB, tIf, tAnd, tOr, tNot, tAndV, tOrV, tNotV, tCall, tCons, tNil, tCB, tLst, tTup, tChain, CMul, CDiv, CPow, rEq, rNe, gSub, L2.start, LL.cxK0, LL.cxK1, List.map_cons, List.map_nil, List.length_cons, List.length_nil, List.replicate_succ, List.replicate_zero, List.cons_append, List.nil_append, List.append_nil, List.getElem?_cons_zero, List.getElem?_cons_succ, List.set_cons_zero, List.set_cons_succ, Nat.add_sub_cancel, Nat.reduceAdd, Nat.reduceSub, Option.some.injEq, V.int.injEq, V.bl.injEq, V.ref.injEq, V.str.injEq, List.cons.injEq, and_true, true_and, and_false, false_and, exists_eq_left, exists_eq_left', exists_and_left, exists_and_right, exists_eq, exists_eq', LL.if_dec, reduceCtorEq, exists_false, exists_const, or_false, false_or, if_true, if_false, LL.rInt1, LL.rMx, LL.rMn, and_assoc, Int.reduceNeg, Int.reduceLT, Int.reduceLE, Int.reduceMul, Int.reduceAdd, Int.reduceSub, Int.reducePow, Int.reduceToNat, Nat.reducePow, Nat.reduceLT, true_or, or_true, Bool.not_true, Bool.not_false, Bool.false_eq_true, Bool.or_false, Bool.or_true, Bool.true_or, Bool.false_or, decide_true, decide_false, not_true_eq_false, not_false_eq_true, LL.scal_int, LL.scal_bl, LL.scal_str, LL.isInt, LL.isBl, LL.isStr, LL.isLst, LL.isTup, LL.isDic])
      exact q
theorem ok_is_whole (T : Tx K mg) : FnOk P w K mg base CX0 1 (He.ga K "is_whole") T.fd_is_whole P_is_whole sp_isint := by
  refine T.F_is_whole.ok sc_is_whole (fun vs H Q E h => ?_) (fun cdv A outer s H vs Q E hr h => ⟨_, PSs.nox (pss_one (ps_ret ((pe_and (pe_callB call_isi (by rfl) T.z_isinstance (by decide +kernel) (pa_cons (pv 0) (pa_cons (pe_bltn (v := .ty "int") (u := .type "int") (by rfl) T.z_int (by decide +kernel) rfl) pa_nil))) (pe_one (pe_not (pe_callB call_isi (by rfl) T.z_isinstance (by decide +kernel) (pa_cons (pv 0) (pa_cons (pe_bltn (v := .ty "bool") (u := .type "bool") (by rfl) T.z_bool (by decide +kernel) rfl) pa_nil))))))))), ?_⟩)
  · obtain ⟨_, _, _, rfl, _⟩ := h
    rfl
  · obtain ⟨F, v, t, rfl, hd, q⟩ := h
    simp only [tSeq, tAsg, tRet, tRetN, tDrop, tNext, tVar, tC, gName, tOp, tUn, rI, rI0, rU, tIfS, tTest, tB, tIf, tAnd, tOr, tNot, tAndV, tOrV, tNotV, tCall, tCons, tNil, tCB, tLst, tTup, tChain, CMul, CDiv, CPow, rEq, rNe, gSub, L2.start, LL.cxK0, LL.cxK1, List.map_cons, List.map_nil, List.length_cons, List.length_nil, List.replicate_succ, List.replicate_zero, List.cons_append, List.nil_append, List.append_nil, List.getElem?_cons_zero, List.getElem?_cons_succ, List.set_cons_zero, List.set_cons_succ, Nat.add_sub_cancel, Nat.reduceAdd, Nat.reduceSub, Option.some.injEq, V.int.injEq, V.bl.injEq, V.ref.injEq, V.str.injEq, List.cons.injEq, and_true, true_and, and_false, false_and, exists_eq_left, exists_eq_left', exists_and_left, exists_and_right, exists_eq, exists_eq', LL.if_dec, reduceCtorEq, exists_false, exists_const, or_false, false_or, if_true, if_false, LL.rInt1, LL.rMx, LL.rMn, and_assoc, Int.reduceNeg, Int.reduceLT, Int.reduceLE, Int.reduceMul, Int.reduceAdd, Int.reduceSub, Int.reducePow, Int.reduceToNat, Nat.reducePow, Nat.reduceLT, true_or, or_true, Bool.not_true, Bool.not_false, Bool.false_eq_true, Bool.or_false, Bool.or_true, Bool.true_or, Bool.false_or, decide_true, decide_false, not_true_eq_false, not_false_eq_true, LL.scal_int, LL.scal_bl, LL.scal_str, LL.isInt, LL.isBl, LL.isStr, LL.isLst, LL.isTup, LL.isDic, N_is_whole]
    cases t
    all_goals
      repeat (first | refine use_isi hd (kit_int _) ?_ | refine use_isi hd (kit_bool _) ?_ | refine use_isi hd (kit_str _) ?_ | refine use_isi hd (kit_list _) ?_ | refine use_isi hd (kit_tuple _) ?_ | refine use_isi hd (kit_dict _) ?_ | refine And.intro (show scal _ _ = true from rfl) ?_ | simp only [tSeq, tAsg, tRet, tRetN, tDrop, tNext, tVar, tC, gName, tOp, tUn, rI, rI0, rU, tIfS, tTest, tB, tIf, tAnd, tOr, tNot, tAndV, tOrV, tNotV, tCall, tCons, tNil, tCB, tLst, tTup, tChain, CMul, CDiv, CPow, rEq, rNe, gSub, L2.start, LL.cxK0, LL.cxK1, List.map_cons, List.map_nil, List.length_cons, List.length_nil, List.replicate_succ, List.replicate_zero, List.cons_append, List.nil_append, List.append_nil, List.getElem?_cons_zero, List.getElem?_cons_succ, List.set_cons_zero, List.set_cons_succ, Nat.add_sub_cancel, Nat.reduceAdd, Nat.reduceSub, Option.some.injEq, V.int.injEq, V.bl.injEq, V.ref.injEq, V.str.injEq, List.cons.injEq, and_true, true_and, and_false, false_and, exists_eq_left, exists_eq_left', exists_and_left, exists_and_right, exists_eq, exists_eq', LL.if_dec, reduceCtorEq, exists_false, exists_const, or_false, false_or, if_true, if_false, LL.rInt1, LL.rMx, LL.rMn, and_assoc, Int.reduceNeg, Int.reduceLT, Int.reduceLE, Int.reduceMul, Int.reduceAdd, Int.reduceSub, Int.reducePow, Int.reduceToNat, Nat.reducePow, Nat.reduceLT, true_or, or_true, Bool.not_true, Bool.not_false, Bool.false_eq_true, Bool.or_false, Bool.or_true, Bool.true_or, Bool.false_or, decide_true, decide_false, not_true_eq_false, not_false_eq_true, LL.scal_int, LL.scal_bl, LL.scal_str, LL.isInt, LL.isBl, LL.isStr, LL.isLst, LL.isTup, LL.isDic])
      exact q
/-- a tuple of two integers -/
def pairB : LL.T → Bool
  | .tup [.int _, .int _] => true
  | _ => false
theorem pair_all {us : List LL.T} (h : us.length = 2) : pairB (.tup us) = us.all LL.isInt := by
  match us, h with
  | [x, y], _ => cases x <;> cases y <;> rfl
theorem pair_len {us : List LL.T} (h : ¬ us.length = 2) : pairB (.tup us) = false := by
  match us, h with
  | [], _ => rfl
  | [x], _ => cases x <;> rfl
  | [x, y], h => exact absurd rfl h
  | x :: y :: z :: r, _ => cases x <;> cases y <;> rfl
def sp_law_is_ints : Sp := fun vs H Q _ => ∃ (F : Addr → Prop) (v : V) (t : LL.T), vs = [v, .bl false, .int 2] ∧ Dt F H v t ∧ Q (.bl (pairB t)) H
theorem use_pairB {F : Addr → Prop} {v : V} {t : LL.T} {H : Hp} {Q : VK} {E : XK} (h : Dt F H v t) (q : Q (.bl (pairB t)) H) : sp_law_is_ints [v, .bl false, .int 2] H Q E := ⟨F, v, t, rfl, h, q⟩
theorem use_ints {F : Addr → Prop} {v : V} {a b : Int} {H : Hp} {Q : VK} {E : XK} (h : Dt F H v (.tup [.int a, .int b])) (q : Q (.bl true) H) : sp_law_is_ints [v, .bl false, .int 2] H Q E := ⟨F, v, _, rfl, h, q⟩

/-- the same data gives True -/
def sp_law_same (n : Nat) : Sp := fun vs H Q _ => ∃ (F G : Addr → Prop) (v x : V) (t : LL.T), vs = [v, x] ∧ Dt F H v t ∧ Dt G H x t ∧ dep t < n ∧ ∀ H', Same H H' → Q (.bl true) H'
theorem use_same {n : Nat} {F G : Addr → Prop} {v x : V} {t : LL.T} {H : Hp} {Q : VK} {E : XK} (h1 : Dt F H v t) (h2 : Dt G H x t) (hn : dep t < n) (q : ∀ H', Same H H' → Q (.bl true) H') : sp_law_same n [v, x] H Q E := ⟨F, G, v, x, t, rfl, h1, h2, hn, q⟩

theorem ok_law_same (T : Tx K mg) : ∀ n : Nat, FnOk P w K mg base CX0 (n + 1) (He.ga K "_law_same") T.fd_law_same P_law_same (sp_law_same n) := by
  intro n
  induction n with
  | zero => exact ⟨fun vs H Q E h => by obtain ⟨_, _, _, _, _, _, _, _, h, _⟩ := h; exact absurd h (Nat.not_lt_zero _), fun A outer s H args us vs Q E hr he hb hv h => by obtain ⟨_, _, _, _, _, _, _, _, h, _⟩ := h; exact absurd h (Nat.not_lt_zero _)⟩
  | succ n ih =>
    refine T.F_law_same.ok sc_law_same (fun vs H Q E h => ?_) (fun cdv A outer s H vs Q E hr h => ⟨_, PSs.nox (pss_cons (ps_if (PW.pt (pw_or (pt_cmpR op_isN (pv 0) (pe_non) (nomark _)) (pw_or1 (pt_cmpR op_isN (pv 1) (pe_non) (nomark _))))) (pss_one (ps_ret ((pe_and (pe_cmpR op_isN (pv 0) (pe_non) (nomark _)) (pe_one (pe_cmpR op_isN (pv 1) (pe_non) (nomark _))))))) pss_nil) (pss_cons (ps_if (PW.pt (pw_or (pt_val (pe_callB call_isi (by rfl) T.z_isinstance (by decide +kernel) (pa_cons (pv 0) (pa_cons (pe_bltn (v := .ty "bool") (u := .type "bool") (by rfl) T.z_bool (by decide +kernel) rfl) pa_nil)))) (pw_or1 (pt_val (pe_callB call_isi (by rfl) T.z_isinstance (by decide +kernel) (pa_cons (pv 1) (pa_cons (pe_bltn (v := .ty "bool") (u := .type "bool") (by rfl) T.z_bool (by decide +kernel) rfl) pa_nil))))))) (pss_one (ps_ret ((pe_and (pe_callB call_isi (by rfl) T.z_isinstance (by decide +kernel) (pa_cons (pv 0) (pa_cons (pe_bltn (v := .ty "bool") (u := .type "bool") (by rfl) T.z_bool (by decide +kernel) rfl) pa_nil))) (pe_and (pe_callB call_isi (by rfl) T.z_isinstance (by decide +kernel) (pa_cons (pv 1) (pa_cons (pe_bltn (v := .ty "bool") (u := .type "bool") (by rfl) T.z_bool (by decide +kernel) rfl) pa_nil))) (pe_one (pe_cmpR op_eq (pv 0) (pv 1) (nomark _)))))))) pss_nil) (pss_cons (ps_if (pt_val (pe_callB call_isi (by rfl) T.z_isinstance (by decide +kernel) (pa_cons (pv 1) (pa_cons (pe_bltn (v := .ty "int") (u := .type "int") (by rfl) T.z_int (by decide +kernel) rfl) pa_nil)))) (pss_one (ps_ret ((pe_and (pe_callB call_isi (by rfl) T.z_isinstance (by decide +kernel) (pa_cons (pv 0) (pa_cons (pe_bltn (v := .ty "int") (u := .type "int") (by rfl) T.z_int (by decide +kernel) rfl) pa_nil))) (pe_one (pe_cmpR op_eq (pv 0) (pv 1) (nomark _))))))) pss_nil) (pss_cons (ps_if (pt_val (pe_callB call_isi (by rfl) T.z_isinstance (by decide +kernel) (pa_cons (pv 1) (pa_cons (pe_bltn (v := .ty "str") (u := .type "str") (by rfl) T.z_str (by decide +kernel) rfl) pa_nil)))) (pss_one (ps_ret ((pe_and (pe_callB call_isi (by rfl) T.z_isinstance (by decide +kernel) (pa_cons (pv 0) (pa_cons (pe_bltn (v := .ty "str") (u := .type "str") (by rfl) T.z_str (by decide +kernel) rfl) pa_nil))) (pe_one (pe_cmpR op_eq (pv 0) (pv 1) (nomark _))))))) pss_nil) (pss_cons (ps_if (pt_val (pe_callB call_isi (by rfl) T.z_isinstance (by decide +kernel) (pa_cons (pv 1) (pa_cons (pe_bltn (v := .ty "dict") (u := .type "dict") (by rfl) T.z_dict (by decide +kernel) rfl) pa_nil)))) (pss_cons (ps_if (PW.pt (pw_or (pt_not (pt_val (pe_callB call_isi (by rfl) T.z_isinstance (by decide +kernel) (pa_cons (pv 0) (pa_cons (pe_bltn (v := .ty "dict") (u := .type "dict") (by rfl) T.z_dict (by decide +kernel) rfl) pa_nil))))) (pw_or1 (pt_cmpR op_ne (pe_callB LL.call_lenA (by rfl) T.z_len (by decide +kernel) (pa_cons (pv 0) pa_nil)) (pe_callB LL.call_lenA (by rfl) T.z_len (by decide +kernel) (pa_cons (pv 1) pa_nil)) (nomark _))))) (pss_one (ps_ret (pe_bl))) pss_nil) (pss_cons (ps_for PassesOwn.never rfl (pi_list (pe_callTy (LL.call_lstD rfl) (by rfl) T.z_list (by decide +kernel) (pa_cons (pv 1) pa_nil))) (pg_name (i := 3) sc_law_same.nd rfl (Or.inl rfl)) (pss_one (ps_if (PW.pt (pw_or (pt_cmp (pc_dnotin (hu_of hr) (pv 3) (pv 0))) (pw_or1 (pt_not (pt_val (pe_call ih hr rfl T.g_law_same T.F_law_same.kp (b_law_same T) .nil pass0 (pa_cons (pe_dget (hu_of hr) (pv 0) (pv 3) (fun _ _ => rfl)) (pa_cons (pe_dget (hu_of hr) (pv 1) (pv 3) (fun _ _ => rfl)) pa_nil)))))))) (pss_one (ps_ret (pe_bl))) pss_nil))) (pss_one (ps_ret (pe_bl))))) pss_nil) (pss_cons (ps_if (pt_cmpR op_ne (pe_callB call_isi (by rfl) T.z_isinstance (by decide +kernel) (pa_cons (pv 1) (pa_cons (pe_bltn (v := .ty "list") (u := .type "list") (by rfl) T.z_list (by decide +kernel) rfl) pa_nil))) (pe_callB call_isi (by rfl) T.z_isinstance (by decide +kernel) (pa_cons (pv 0) (pa_cons (pe_bltn (v := .ty "list") (u := .type "list") (by rfl) T.z_list (by decide +kernel) rfl) pa_nil))) (nomark _)) (pss_one (ps_ret (pe_bl))) pss_nil) (pss_cons (ps_if (pt_cmpR op_ne (pe_callB call_isi (by rfl) T.z_isinstance (by decide +kernel) (pa_cons (pv 1) (pa_cons (pe_bltn (v := .ty "tuple") (u := .type "tuple") (by rfl) T.z_tuple (by decide +kernel) rfl) pa_nil))) (pe_callB call_isi (by rfl) T.z_isinstance (by decide +kernel) (pa_cons (pv 0) (pa_cons (pe_bltn (v := .ty "tuple") (u := .type "tuple") (by rfl) T.z_tuple (by decide +kernel) rfl) pa_nil))) (nomark _)) (pss_one (ps_ret (pe_bl))) pss_nil) (pss_cons (ps_if (PW.pt (pw_or (PW.pt (pw_and (pt_not (pt_val (pe_callB call_isi (by rfl) T.z_isinstance (by decide +kernel) (pa_cons (pv 1) (pa_cons (pe_bltn (v := .ty "list") (u := .type "list") (by rfl) T.z_list (by decide +kernel) rfl) pa_nil))))) (pw_and1 (pt_not (pt_val (pe_callB call_isi (by rfl) T.z_isinstance (by decide +kernel) (pa_cons (pv 1) (pa_cons (pe_bltn (v := .ty "tuple") (u := .type "tuple") (by rfl) T.z_tuple (by decide +kernel) rfl) pa_nil)))))))) (pw_or1 (pt_cmpR op_ne (pe_callB LL.call_lenA (by rfl) T.z_len (by decide +kernel) (pa_cons (pv 0) pa_nil)) (pe_callB LL.call_lenA (by rfl) T.z_len (by decide +kernel) (pa_cons (pv 1) pa_nil)) (nomark _))))) (pss_one (ps_ret (pe_bl))) pss_nil) (pss_cons (ps_for PassesOwn.never rfl (pi_range1 rfl T.z_range (pa_cons (pe_callB LL.call_lenA (by rfl) T.z_len (by decide +kernel) (pa_cons (pv 1) pa_nil)) pa_nil)) (pg_name (i := 2) sc_law_same.nd rfl (Or.inl rfl)) (pss_one (ps_if (pt_not (pt_val (pe_call ih hr rfl T.g_law_same T.F_law_same.kp (b_law_same T) .nil pass0 (pa_cons (pe_ix (show IxR _ (LL.rIxA K) from LL.ix_A) (pv 0) (pv 2) (fun _ _ => rfl)) (pa_cons (pe_ix (show IxR _ (LL.rIxA K) from LL.ix_A) (pv 1) (pv 2) (fun _ _ => rfl)) pa_nil))))) (pss_one (ps_ret (pe_bl))) pss_nil))) (pss_one (ps_ret (pe_bl)))))))))))), ?_⟩)
    · obtain ⟨_, _, _, _, _, rfl, _⟩ := h
      rfl
    · obtain ⟨F, G, v, x, t, rfl, h1, h2, hn, q⟩ := h
      cases t with
      | non =>
        obtain rfl : v = .non := h1
        obtain rfl : x = .non := h2
        simp only [tSeq, tAsg, tRet, tRetN, tDrop, tNext, tVar, tC, gName, tOp, tUn, rI, rI0, rU, tIfS, tTest, tB, tIf, tAnd, tOr, tNot, tAndV, tOrV, tNotV, tCall, tCons, tNil, tCB, tLst, tTup, tChain, CMul, CDiv, CPow, rEq, rNe, gSub, L2.start, LL.cxK0, LL.cxK1, List.map_cons, List.map_nil, List.length_cons, List.length_nil, List.replicate_succ, List.replicate_zero, List.cons_append, List.nil_append, List.append_nil, List.getElem?_cons_zero, List.getElem?_cons_succ, List.set_cons_zero, List.set_cons_succ, Nat.add_sub_cancel, Nat.reduceAdd, Nat.reduceSub, Option.some.injEq, V.int.injEq, V.bl.injEq, V.ref.injEq, V.str.injEq, List.cons.injEq, and_true, true_and, and_false, false_and, exists_eq_left, exists_eq_left', exists_and_left, exists_and_right, exists_eq, exists_eq', LL.if_dec, reduceCtorEq, exists_false, exists_const, or_false, false_or, if_true, if_false, LL.rInt1, LL.rMx, LL.rMn, and_assoc, Int.reduceNeg, Int.reduceLT, Int.reduceLE, Int.reduceMul, Int.reduceAdd, Int.reduceSub, Int.reducePow, Int.reduceToNat, Nat.reducePow, Nat.reduceLT, true_or, or_true, Bool.not_true, Bool.not_false, Bool.false_eq_true, Bool.or_false, Bool.or_true, Bool.true_or, Bool.false_or, decide_true, decide_false, not_true_eq_false, not_false_eq_true, LL.scal_int, LL.scal_bl, LL.scal_str, LL.isInt, LL.isBl, LL.isStr, LL.isLst, LL.isTup, LL.isDic, N_law_same]
        exact q _ (Same.refl _)
      | bl b =>
        obtain rfl : v = .bl b := h1
        obtain rfl : x = .bl b := h2
        have h1 : Dt F H (.bl b) (.bl b) := rfl
        simp only [tSeq, tAsg, tRet, tRetN, tDrop, tNext, tVar, tC, gName, tOp, tUn, rI, rI0, rU, tIfS, tTest, tB, tIf, tAnd, tOr, tNot, tAndV, tOrV, tNotV, tCall, tCons, tNil, tCB, tLst, tTup, tChain, CMul, CDiv, CPow, rEq, rNe, gSub, L2.start, LL.cxK0, LL.cxK1, List.map_cons, List.map_nil, List.length_cons, List.length_nil, List.replicate_succ, List.replicate_zero, List.cons_append, List.nil_append, List.append_nil, List.getElem?_cons_zero, List.getElem?_cons_succ, List.set_cons_zero, List.set_cons_succ, Nat.add_sub_cancel, Nat.reduceAdd, Nat.reduceSub, Option.some.injEq, V.int.injEq, V.bl.injEq, V.ref.injEq, V.str.injEq, List.cons.injEq, and_true, true_and, and_false, false_and, exists_eq_left, exists_eq_left', exists_and_left, exists_and_right, exists_eq, exists_eq', LL.if_dec, reduceCtorEq, exists_false, exists_const, or_false, false_or, if_true, if_false, LL.rInt1, LL.rMx, LL.rMn, and_assoc, Int.reduceNeg, Int.reduceLT, Int.reduceLE, Int.reduceMul, Int.reduceAdd, Int.reduceSub, Int.reducePow, Int.reduceToNat, Nat.reducePow, Nat.reduceLT, true_or, or_true, Bool.not_true, Bool.not_false, Bool.false_eq_true, Bool.or_false, Bool.or_true, Bool.true_or, Bool.false_or, decide_true, decide_false, not_true_eq_false, not_false_eq_true, LL.scal_int, LL.scal_bl, LL.scal_str, LL.isInt, LL.isBl, LL.isStr, LL.isLst, LL.isTup, LL.isDic, N_law_same]
        repeat (first | refine use_isi h1 (kit_int _) ?_ | refine use_isi h1 (kit_bool _) ?_ | refine use_isi h1 (kit_str _) ?_ | refine use_isi h1 (kit_list _) ?_ | refine use_isi h1 (kit_tuple _) ?_ | refine use_isi h1 (kit_dict _) ?_ | refine And.intro (show scal _ _ = true from rfl) ?_ | simp only [tSeq, tAsg, tRet, tRetN, tDrop, tNext, tVar, tC, gName, tOp, tUn, rI, rI0, rU, tIfS, tTest, tB, tIf, tAnd, tOr, tNot, tAndV, tOrV, tNotV, tCall, tCons, tNil, tCB, tLst, tTup, tChain, CMul, CDiv, CPow, rEq, rNe, gSub, L2.start, LL.cxK0, LL.cxK1, List.map_cons, List.map_nil, List.length_cons, List.length_nil, List.replicate_succ, List.replicate_zero, List.cons_append, List.nil_append, List.append_nil, List.getElem?_cons_zero, List.getElem?_cons_succ, List.set_cons_zero, List.set_cons_succ, Nat.add_sub_cancel, Nat.reduceAdd, Nat.reduceSub, Option.some.injEq, V.int.injEq, V.bl.injEq, V.ref.injEq, V.str.injEq, List.cons.injEq, and_true, true_and, and_false, false_and, exists_eq_left, exists_eq_left', exists_and_left, exists_and_right, exists_eq, exists_eq', LL.if_dec, reduceCtorEq, exists_false, exists_const, or_false, false_or, if_true, if_false, LL.rInt1, LL.rMx, LL.rMn, and_assoc, Int.reduceNeg, Int.reduceLT, Int.reduceLE, Int.reduceMul, Int.reduceAdd, Int.reduceSub, Int.reducePow, Int.reduceToNat, Nat.reducePow, Nat.reduceLT, true_or, or_true, Bool.not_true, Bool.not_false, Bool.false_eq_true, Bool.or_false, Bool.or_true, Bool.true_or, Bool.false_or, decide_true, decide_false, not_true_eq_false, not_false_eq_true, LL.scal_int, LL.scal_bl, LL.scal_str, LL.isInt, LL.isBl, LL.isStr, LL.isLst, LL.isTup, LL.isDic])
        exact q _ (Same.refl _)
      | int i =>
        obtain rfl : v = .int i := h1
        obtain rfl : x = .int i := h2
        have h1 : Dt F H (.int i) (.int i) := rfl
        simp only [tSeq, tAsg, tRet, tRetN, tDrop, tNext, tVar, tC, gName, tOp, tUn, rI, rI0, rU, tIfS, tTest, tB, tIf, tAnd, tOr, tNot, tAndV, tOrV, tNotV, tCall, tCons, tNil, tCB, tLst, tTup, tChain, CMul, CDiv, CPow, rEq, rNe, gSub, L2.start, LL.cxK0, LL.cxK1, List.map_cons, List.map_nil, List.length_cons, List.length_nil, List.replicate_succ, List.replicate_zero, List.cons_append, List.nil_append, List.append_nil, List.getElem?_cons_zero, List.getElem?_cons_succ, List.set_cons_zero, List.set_cons_succ, Nat.add_sub_cancel, Nat.reduceAdd, Nat.reduceSub, Option.some.injEq, V.int.injEq, V.bl.injEq, V.ref.injEq, V.str.injEq, List.cons.injEq, and_true, true_and, and_false, false_and, exists_eq_left, exists_eq_left', exists_and_left, exists_and_right, exists_eq, exists_eq', LL.if_dec, reduceCtorEq, exists_false, exists_const, or_false, false_or, if_true, if_false, LL.rInt1, LL.rMx, LL.rMn, and_assoc, Int.reduceNeg, Int.reduceLT, Int.reduceLE, Int.reduceMul, Int.reduceAdd, Int.reduceSub, Int.reducePow, Int.reduceToNat, Nat.reducePow, Nat.reduceLT, true_or, or_true, Bool.not_true, Bool.not_false, Bool.false_eq_true, Bool.or_false, Bool.or_true, Bool.true_or, Bool.false_or, decide_true, decide_false, not_true_eq_false, not_false_eq_true, LL.scal_int, LL.scal_bl, LL.scal_str, LL.isInt, LL.isBl, LL.isStr, LL.isLst, LL.isTup, LL.isDic, N_law_same]
        repeat (first | refine use_isi h1 (kit_int _) ?_ | refine use_isi h1 (kit_bool _) ?_ | refine use_isi h1 (kit_str _) ?_ | refine use_isi h1 (kit_list _) ?_ | refine use_isi h1 (kit_tuple _) ?_ | refine use_isi h1 (kit_dict _) ?_ | refine And.intro (show scal _ _ = true from rfl) ?_ | simp only [tSeq, tAsg, tRet, tRetN, tDrop, tNext, tVar, tC, gName, tOp, tUn, rI, rI0, rU, tIfS, tTest, tB, tIf, tAnd, tOr, tNot, tAndV, tOrV, tNotV, tCall, tCons, tNil, tCB, tLst, tTup, tChain, CMul, CDiv, CPow, rEq, rNe, gSub, L2.start, LL.cxK0, LL.cxK1, List.map_cons, List.map_nil, List.length_cons, List.length_nil, List.replicate_succ, List.replicate_zero, List.cons_append, List.nil_append, List.append_nil, List.getElem?_cons_zero, List.getElem?_cons_succ, List.set_cons_zero, List.set_cons_succ, Nat.add_sub_cancel, Nat.reduceAdd, Nat.reduceSub, Option.some.injEq, V.int.injEq, V.bl.injEq, V.ref.injEq, V.str.injEq, List.cons.injEq, and_true, true_and, and_false, false_and, exists_eq_left, exists_eq_left', exists_and_left, exists_and_right, exists_eq, exists_eq', LL.if_dec, reduceCtorEq, exists_false, exists_const, or_false, false_or, if_true, if_false, LL.rInt1, LL.rMx, LL.rMn, and_assoc, Int.reduceNeg, Int.reduceLT, Int.reduceLE, Int.reduceMul, Int.reduceAdd, Int.reduceSub, Int.reducePow, Int.reduceToNat, Nat.reducePow, Nat.reduceLT, true_or, or_true, Bool.not_true, Bool.not_false, Bool.false_eq_true, Bool.or_false, Bool.or_true, Bool.true_or, Bool.false_or, decide_true, decide_false, not_true_eq_false, not_false_eq_true, LL.scal_int, LL.scal_bl, LL.scal_str, LL.isInt, LL.isBl, LL.isStr, LL.isLst, LL.isTup, LL.isDic])
        exact q _ (Same.refl _)
      | str z =>
        obtain rfl : v = .str z := h1
        obtain rfl : x = .str z := h2
        have h1 : Dt F H (.str z) (.str z) := rfl
        simp only [tSeq, tAsg, tRet, tRetN, tDrop, tNext, tVar, tC, gName, tOp, tUn, rI, rI0, rU, tIfS, tTest, tB, tIf, tAnd, tOr, tNot, tAndV, tOrV, tNotV, tCall, tCons, tNil, tCB, tLst, tTup, tChain, CMul, CDiv, CPow, rEq, rNe, gSub, L2.start, LL.cxK0, LL.cxK1, List.map_cons, List.map_nil, List.length_cons, List.length_nil, List.replicate_succ, List.replicate_zero, List.cons_append, List.nil_append, List.append_nil, List.getElem?_cons_zero, List.getElem?_cons_succ, List.set_cons_zero, List.set_cons_succ, Nat.add_sub_cancel, Nat.reduceAdd, Nat.reduceSub, Option.some.injEq, V.int.injEq, V.bl.injEq, V.ref.injEq, V.str.injEq, List.cons.injEq, and_true, true_and, and_false, false_and, exists_eq_left, exists_eq_left', exists_and_left, exists_and_right, exists_eq, exists_eq', LL.if_dec, reduceCtorEq, exists_false, exists_const, or_false, false_or, if_true, if_false, LL.rInt1, LL.rMx, LL.rMn, and_assoc, Int.reduceNeg, Int.reduceLT, Int.reduceLE, Int.reduceMul, Int.reduceAdd, Int.reduceSub, Int.reducePow, Int.reduceToNat, Nat.reducePow, Nat.reduceLT, true_or, or_true, Bool.not_true, Bool.not_false, Bool.false_eq_true, Bool.or_false, Bool.or_true, Bool.true_or, Bool.false_or, decide_true, decide_false, not_true_eq_false, not_false_eq_true, LL.scal_int, LL.scal_bl, LL.scal_str, LL.isInt, LL.isBl, LL.isStr, LL.isLst, LL.isTup, LL.isDic, N_law_same]
        repeat (first | refine use_isi h1 (kit_int _) ?_ | refine use_isi h1 (kit_bool _) ?_ | refine use_isi h1 (kit_str _) ?_ | refine use_isi h1 (kit_list _) ?_ | refine use_isi h1 (kit_tuple _) ?_ | refine use_isi h1 (kit_dict _) ?_ | refine And.intro (show scal _ _ = true from rfl) ?_ | simp only [tSeq, tAsg, tRet, tRetN, tDrop, tNext, tVar, tC, gName, tOp, tUn, rI, rI0, rU, tIfS, tTest, tB, tIf, tAnd, tOr, tNot, tAndV, tOrV, tNotV, tCall, tCons, tNil, tCB, tLst, tTup, tChain, CMul, CDiv, CPow, rEq, rNe, gSub, L2.start, LL.cxK0, LL.cxK1, List.map_cons, List.map_nil, List.length_cons, List.length_nil, List.replicate_succ, List.replicate_zero, List.cons_append, List.nil_append, List.append_nil, List.getElem?_cons_zero, List.getElem?_cons_succ, List.set_cons_zero, List.set_cons_succ, Nat.add_sub_cancel, Nat.reduceAdd, Nat.reduceSub, Option.some.injEq, V.int.injEq, V.bl.injEq, V.ref.injEq, V.str.injEq, List.cons.injEq, and_true, true_and, and_false, false_and, exists_eq_left, exists_eq_left', exists_and_left, exists_and_right, exists_eq, exists_eq', LL.if_dec, reduceCtorEq, exists_false, exists_const, or_false, false_or, if_true, if_false, LL.rInt1, LL.rMx, LL.rMn, and_assoc, Int.reduceNeg, Int.reduceLT, Int.reduceLE, Int.reduceMul, Int.reduceAdd, Int.reduceSub, Int.reducePow, Int.reduceToNat, Nat.reducePow, Nat.reduceLT, true_or, or_true, Bool.not_true, Bool.not_false, Bool.false_eq_true, Bool.or_false, Bool.or_true, Bool.true_or, Bool.false_or, decide_true, decide_false, not_true_eq_false, not_false_eq_true, LL.scal_int, LL.scal_bl, LL.scal_str, LL.isInt, LL.isBl, LL.isStr, LL.isLst, LL.isTup, LL.isDic])
        exact q _ (Same.refl _)
      | lst ts =>
        obtain ⟨p, xs, rfl, fp, ep, hx, hz⟩ := _root_.id h1
        obtain ⟨p2, ys, rfl, fp2, ep2, hy, _⟩ := _root_.id h2
        have lx := hx.len
        have ly := hy.len
        simp only [tSeq, tAsg, tRet, tRetN, tDrop, tNext, tVar, tC, gName, tOp, tUn, rI, rI0, rU, tIfS, tTest, tB, tIf, tAnd, tOr, tNot, tAndV, tOrV, tNotV, tCall, tCons, tNil, tCB, tLst, tTup, tChain, CMul, CDiv, CPow, rEq, rNe, gSub, L2.start, LL.cxK0, LL.cxK1, List.map_cons, List.map_nil, List.length_cons, List.length_nil, List.replicate_succ, List.replicate_zero, List.cons_append, List.nil_append, List.append_nil, List.getElem?_cons_zero, List.getElem?_cons_succ, List.set_cons_zero, List.set_cons_succ, Nat.add_sub_cancel, Nat.reduceAdd, Nat.reduceSub, Option.some.injEq, V.int.injEq, V.bl.injEq, V.ref.injEq, V.str.injEq, List.cons.injEq, and_true, true_and, and_false, false_and, exists_eq_left, exists_eq_left', exists_and_left, exists_and_right, exists_eq, exists_eq', LL.if_dec, reduceCtorEq, exists_false, exists_const, or_false, false_or, if_true, if_false, LL.rInt1, LL.rMx, LL.rMn, and_assoc, Int.reduceNeg, Int.reduceLT, Int.reduceLE, Int.reduceMul, Int.reduceAdd, Int.reduceSub, Int.reducePow, Int.reduceToNat, Nat.reducePow, Nat.reduceLT, true_or, or_true, Bool.not_true, Bool.not_false, Bool.false_eq_true, Bool.or_false, Bool.or_true, Bool.true_or, Bool.false_or, decide_true, decide_false, not_true_eq_false, not_false_eq_true, LL.scal_int, LL.scal_bl, LL.scal_str, LL.isInt, LL.isBl, LL.isStr, LL.isLst, LL.isTup, LL.isDic, N_law_same]
        repeat (first | refine use_isi h1 (kit_int _) ?_ | refine use_isi h1 (kit_bool _) ?_ | refine use_isi h1 (kit_str _) ?_ | refine use_isi h1 (kit_list _) ?_ | refine use_isi h1 (kit_tuple _) ?_ | refine use_isi h1 (kit_dict _) ?_ | refine use_isi h2 (kit_int _) ?_ | refine use_isi h2 (kit_bool _) ?_ | refine use_isi h2 (kit_str _) ?_ | refine use_isi h2 (kit_list _) ?_ | refine use_isi h2 (kit_tuple _) ?_ | refine use_isi h2 (kit_dict _) ?_ | refine And.intro (show scal _ _ = true from rfl) ?_ | simp only [tSeq, tAsg, tRet, tRetN, tDrop, tNext, tVar, tC, gName, tOp, tUn, rI, rI0, rU, tIfS, tTest, tB, tIf, tAnd, tOr, tNot, tAndV, tOrV, tNotV, tCall, tCons, tNil, tCB, tLst, tTup, tChain, CMul, CDiv, CPow, rEq, rNe, gSub, L2.start, LL.cxK0, LL.cxK1, List.map_cons, List.map_nil, List.length_cons, List.length_nil, List.replicate_succ, List.replicate_zero, List.cons_append, List.nil_append, List.append_nil, List.getElem?_cons_zero, List.getElem?_cons_succ, List.set_cons_zero, List.set_cons_succ, Nat.add_sub_cancel, Nat.reduceAdd, Nat.reduceSub, Option.some.injEq, V.int.injEq, V.bl.injEq, V.ref.injEq, V.str.injEq, List.cons.injEq, and_true, true_and, and_false, false_and, exists_eq_left, exists_eq_left', exists_and_left, exists_and_right, exists_eq, exists_eq', LL.if_dec, reduceCtorEq, exists_false, exists_const, or_false, false_or, if_true, if_false, LL.rInt1, LL.rMx, LL.rMn, and_assoc, Int.reduceNeg, Int.reduceLT, Int.reduceLE, Int.reduceMul, Int.reduceAdd, Int.reduceSub, Int.reducePow, Int.reduceToNat, Nat.reducePow, Nat.reduceLT, true_or, or_true, Bool.not_true, Bool.not_false, Bool.false_eq_true, Bool.or_false, Bool.or_true, Bool.true_or, Bool.false_or, decide_true, decide_false, not_true_eq_false, not_false_eq_true, LL.scal_int, LL.scal_bl, LL.scal_str, LL.isInt, LL.isBl, LL.isStr, LL.isLst, LL.isTup, LL.isDic])
        refine .inl (use_lenL ep ?_)
        refine .inl (use_lenL ep2 (And.intro (show scal _ _ = true from rfl) ?_))
        rw [if_neg (by rw [lx, ly]; simp)]
        refine use_forR (j := ys.length) (fun Q q => ⟨_, rfl, .inl (use_lenL ep2 q)⟩) (by omega) (by omega) (fun i σ' H' => Same H H' ∧ i ≤ ys.length ∧ ∃ z : Option V, σ' = [some (.ref p), some (.ref p2), z, none]) ⟨Same.refl _, Nat.zero_le _, _, rfl⟩ ?_ ?_
        · rintro i σ' H' hi ⟨s1, _, zz, rfl⟩
          have hi2 : i < ts.length := by omega
          obtain ⟨x1, e1, d1⟩ := hx.get' (List.getElem?_eq_getElem hi2)
          obtain ⟨x2, e2, d2⟩ := hy.get' (List.getElem?_eq_getElem hi2)
          simp only [tSeq, tAsg, tRet, tRetN, tDrop, tNext, tVar, tC, gName, tOp, tUn, rI, rI0, rU, tIfS, tTest, tB, tIf, tAnd, tOr, tNot, tAndV, tOrV, tNotV, tCall, tCons, tNil, tCB, tLst, tTup, tChain, CMul, CDiv, CPow, rEq, rNe, gSub, L2.start, LL.cxK0, LL.cxK1, List.map_cons, List.map_nil, List.length_cons, List.length_nil, List.replicate_succ, List.replicate_zero, List.cons_append, List.nil_append, List.append_nil, List.getElem?_cons_zero, List.getElem?_cons_succ, List.set_cons_zero, List.set_cons_succ, Nat.add_sub_cancel, Nat.reduceAdd, Nat.reduceSub, Option.some.injEq, V.int.injEq, V.bl.injEq, V.ref.injEq, V.str.injEq, List.cons.injEq, and_true, true_and, and_false, false_and, exists_eq_left, exists_eq_left', exists_and_left, exists_and_right, exists_eq, exists_eq', LL.if_dec, reduceCtorEq, exists_false, exists_const, or_false, false_or, if_true, if_false, LL.rInt1, LL.rMx, LL.rMn, and_assoc, Int.reduceNeg, Int.reduceLT, Int.reduceLE, Int.reduceMul, Int.reduceAdd, Int.reduceSub, Int.reducePow, Int.reduceToNat, Nat.reducePow, Nat.reduceLT, true_or, or_true, Bool.not_true, Bool.not_false, Bool.false_eq_true, Bool.or_false, Bool.or_true, Bool.true_or, Bool.false_or, decide_true, decide_false, not_true_eq_false, not_false_eq_true, LL.scal_int, LL.scal_bl, LL.scal_str, LL.isInt, LL.isBl, LL.isStr, LL.isLst, LL.isTup, LL.isDic]
          rw [Int.zero_add]
          refine .inl (use_ixL (s1 _ _ ep) (atI_nat e1) (.inl (use_ixL (s1 _ _ ep2) (atI_nat e2) ?_)))
          refine use_same (d1.same s1) (d2.same s1) (by have := depL_mem (List.getElem?_eq_getElem hi2); simp only [dep] at hn; omega) fun H2 s2 => ?_
          simp only [tSeq, tAsg, tRet, tRetN, tDrop, tNext, tVar, tC, gName, tOp, tUn, rI, rI0, rU, tIfS, tTest, tB, tIf, tAnd, tOr, tNot, tAndV, tOrV, tNotV, tCall, tCons, tNil, tCB, tLst, tTup, tChain, CMul, CDiv, CPow, rEq, rNe, gSub, L2.start, LL.cxK0, LL.cxK1, List.map_cons, List.map_nil, List.length_cons, List.length_nil, List.replicate_succ, List.replicate_zero, List.cons_append, List.nil_append, List.append_nil, List.getElem?_cons_zero, List.getElem?_cons_succ, List.set_cons_zero, List.set_cons_succ, Nat.add_sub_cancel, Nat.reduceAdd, Nat.reduceSub, Option.some.injEq, V.int.injEq, V.bl.injEq, V.ref.injEq, V.str.injEq, List.cons.injEq, and_true, true_and, and_false, false_and, exists_eq_left, exists_eq_left', exists_and_left, exists_and_right, exists_eq, exists_eq', LL.if_dec, reduceCtorEq, exists_false, exists_const, or_false, false_or, if_true, if_false, LL.rInt1, LL.rMx, LL.rMn, and_assoc, Int.reduceNeg, Int.reduceLT, Int.reduceLE, Int.reduceMul, Int.reduceAdd, Int.reduceSub, Int.reducePow, Int.reduceToNat, Nat.reducePow, Nat.reduceLT, true_or, or_true, Bool.not_true, Bool.not_false, Bool.false_eq_true, Bool.or_false, Bool.or_true, Bool.true_or, Bool.false_or, decide_true, decide_false, not_true_eq_false, not_false_eq_true, LL.scal_int, LL.scal_bl, LL.scal_str, LL.isInt, LL.isBl, LL.isStr, LL.isLst, LL.isTup, LL.isDic]
          exact ⟨s1.trans s2, by omega⟩
        · rintro σ' H' ⟨s1, _, zz, rfl⟩
          simp only [tSeq, tAsg, tRet, tRetN, tDrop, tNext, tVar, tC, gName, tOp, tUn, rI, rI0, rU, tIfS, tTest, tB, tIf, tAnd, tOr, tNot, tAndV, tOrV, tNotV, tCall, tCons, tNil, tCB, tLst, tTup, tChain, CMul, CDiv, CPow, rEq, rNe, gSub, L2.start, LL.cxK0, LL.cxK1, List.map_cons, List.map_nil, List.length_cons, List.length_nil, List.replicate_succ, List.replicate_zero, List.cons_append, List.nil_append, List.append_nil, List.getElem?_cons_zero, List.getElem?_cons_succ, List.set_cons_zero, List.set_cons_succ, Nat.add_sub_cancel, Nat.reduceAdd, Nat.reduceSub, Option.some.injEq, V.int.injEq, V.bl.injEq, V.ref.injEq, V.str.injEq, List.cons.injEq, and_true, true_and, and_false, false_and, exists_eq_left, exists_eq_left', exists_and_left, exists_and_right, exists_eq, exists_eq', LL.if_dec, reduceCtorEq, exists_false, exists_const, or_false, false_or, if_true, if_false, LL.rInt1, LL.rMx, LL.rMn, and_assoc, Int.reduceNeg, Int.reduceLT, Int.reduceLE, Int.reduceMul, Int.reduceAdd, Int.reduceSub, Int.reducePow, Int.reduceToNat, Nat.reducePow, Nat.reduceLT, true_or, or_true, Bool.not_true, Bool.not_false, Bool.false_eq_true, Bool.or_false, Bool.or_true, Bool.true_or, Bool.false_or, decide_true, decide_false, not_true_eq_false, not_false_eq_true, LL.scal_int, LL.scal_bl, LL.scal_str, LL.isInt, LL.isBl, LL.isStr, LL.isLst, LL.isTup, LL.isDic]
          exact q _ s1
      | tup ts =>
        obtain ⟨p, xs, rfl, fp, ep, hx, hz⟩ := _root_.id h1
        obtain ⟨p2, ys, rfl, fp2, ep2, hy, _⟩ := _root_.id h2
        have lx := hx.len
        have ly := hy.len
        simp only [tSeq, tAsg, tRet, tRetN, tDrop, tNext, tVar, tC, gName, tOp, tUn, rI, rI0, rU, tIfS, tTest, tB, tIf, tAnd, tOr, tNot, tAndV, tOrV, tNotV, tCall, tCons, tNil, tCB, tLst, tTup, tChain, CMul, CDiv, CPow, rEq, rNe, gSub, L2.start, LL.cxK0, LL.cxK1, List.map_cons, List.map_nil, List.length_cons, List.length_nil, List.replicate_succ, List.replicate_zero, List.cons_append, List.nil_append, List.append_nil, List.getElem?_cons_zero, List.getElem?_cons_succ, List.set_cons_zero, List.set_cons_succ, Nat.add_sub_cancel, Nat.reduceAdd, Nat.reduceSub, Option.some.injEq, V.int.injEq, V.bl.injEq, V.ref.injEq, V.str.injEq, List.cons.injEq, and_true, true_and, and_false, false_and, exists_eq_left, exists_eq_left', exists_and_left, exists_and_right, exists_eq, exists_eq', LL.if_dec, reduceCtorEq, exists_false, exists_const, or_false, false_or, if_true, if_false, LL.rInt1, LL.rMx, LL.rMn, and_assoc, Int.reduceNeg, Int.reduceLT, Int.reduceLE, Int.reduceMul, Int.reduceAdd, Int.reduceSub, Int.reducePow, Int.reduceToNat, Nat.reducePow, Nat.reduceLT, true_or, or_true, Bool.not_true, Bool.not_false, Bool.false_eq_true, Bool.or_false, Bool.or_true, Bool.true_or, Bool.false_or, decide_true, decide_false, not_true_eq_false, not_false_eq_true, LL.scal_int, LL.scal_bl, LL.scal_str, LL.isInt, LL.isBl, LL.isStr, LL.isLst, LL.isTup, LL.isDic, N_law_same]
        repeat (first | refine use_isi h1 (kit_int _) ?_ | refine use_isi h1 (kit_bool _) ?_ | refine use_isi h1 (kit_str _) ?_ | refine use_isi h1 (kit_list _) ?_ | refine use_isi h1 (kit_tuple _) ?_ | refine use_isi h1 (kit_dict _) ?_ | refine use_isi h2 (kit_int _) ?_ | refine use_isi h2 (kit_bool _) ?_ | refine use_isi h2 (kit_str _) ?_ | refine use_isi h2 (kit_list _) ?_ | refine use_isi h2 (kit_tuple _) ?_ | refine use_isi h2 (kit_dict _) ?_ | refine And.intro (show scal _ _ = true from rfl) ?_ | simp only [tSeq, tAsg, tRet, tRetN, tDrop, tNext, tVar, tC, gName, tOp, tUn, rI, rI0, rU, tIfS, tTest, tB, tIf, tAnd, tOr, tNot, tAndV, tOrV, tNotV, tCall, tCons, tNil, tCB, tLst, tTup, tChain, CMul, CDiv, CPow, rEq, rNe, gSub, L2.start, LL.cxK0, LL.cxK1, List.map_cons, List.map_nil, List.length_cons, List.length_nil, List.replicate_succ, List.replicate_zero, List.cons_append, List.nil_append, List.append_nil, List.getElem?_cons_zero, List.getElem?_cons_succ, List.set_cons_zero, List.set_cons_succ, Nat.add_sub_cancel, Nat.reduceAdd, Nat.reduceSub, Option.some.injEq, V.int.injEq, V.bl.injEq, V.ref.injEq, V.str.injEq, List.cons.injEq, and_true, true_and, and_false, false_and, exists_eq_left, exists_eq_left', exists_and_left, exists_and_right, exists_eq, exists_eq', LL.if_dec, reduceCtorEq, exists_false, exists_const, or_false, false_or, if_true, if_false, LL.rInt1, LL.rMx, LL.rMn, and_assoc, Int.reduceNeg, Int.reduceLT, Int.reduceLE, Int.reduceMul, Int.reduceAdd, Int.reduceSub, Int.reducePow, Int.reduceToNat, Nat.reducePow, Nat.reduceLT, true_or, or_true, Bool.not_true, Bool.not_false, Bool.false_eq_true, Bool.or_false, Bool.or_true, Bool.true_or, Bool.false_or, decide_true, decide_false, not_true_eq_false, not_false_eq_true, LL.scal_int, LL.scal_bl, LL.scal_str, LL.isInt, LL.isBl, LL.isStr, LL.isLst, LL.isTup, LL.isDic])
        refine .inr (.inl (use_lenT ep ?_))
        refine .inr (.inl (use_lenT ep2 (And.intro (show scal _ _ = true from rfl) ?_)))
        rw [if_neg (by rw [lx, ly]; simp)]
        refine use_forR (j := ys.length) (fun Q q => ⟨_, rfl, .inr (.inl (use_lenT ep2 q))⟩) (by omega) (by omega) (fun i σ' H' => Same H H' ∧ i ≤ ys.length ∧ ∃ z : Option V, σ' = [some (.ref p), some (.ref p2), z, none]) ⟨Same.refl _, Nat.zero_le _, _, rfl⟩ ?_ ?_
        · rintro i σ' H' hi ⟨s1, _, zz, rfl⟩
          have hi2 : i < ts.length := by omega
          obtain ⟨x1, e1, d1⟩ := hx.get' (List.getElem?_eq_getElem hi2)
          obtain ⟨x2, e2, d2⟩ := hy.get' (List.getElem?_eq_getElem hi2)
          simp only [tSeq, tAsg, tRet, tRetN, tDrop, tNext, tVar, tC, gName, tOp, tUn, rI, rI0, rU, tIfS, tTest, tB, tIf, tAnd, tOr, tNot, tAndV, tOrV, tNotV, tCall, tCons, tNil, tCB, tLst, tTup, tChain, CMul, CDiv, CPow, rEq, rNe, gSub, L2.start, LL.cxK0, LL.cxK1, List.map_cons, List.map_nil, List.length_cons, List.length_nil, List.replicate_succ, List.replicate_zero, List.cons_append, List.nil_append, List.append_nil, List.getElem?_cons_zero, List.getElem?_cons_succ, List.set_cons_zero, List.set_cons_succ, Nat.add_sub_cancel, Nat.reduceAdd, Nat.reduceSub, Option.some.injEq, V.int.injEq, V.bl.injEq, V.ref.injEq, V.str.injEq, List.cons.injEq, and_true, true_and, and_false, false_and, exists_eq_left, exists_eq_left', exists_and_left, exists_and_right, exists_eq, exists_eq', LL.if_dec, reduceCtorEq, exists_false, exists_const, or_false, false_or, if_true, if_false, LL.rInt1, LL.rMx, LL.rMn, and_assoc, Int.reduceNeg, Int.reduceLT, Int.reduceLE, Int.reduceMul, Int.reduceAdd, Int.reduceSub, Int.reducePow, Int.reduceToNat, Nat.reducePow, Nat.reduceLT, true_or, or_true, Bool.not_true, Bool.not_false, Bool.false_eq_true, Bool.or_false, Bool.or_true, Bool.true_or, Bool.false_or, decide_true, decide_false, not_true_eq_false, not_false_eq_true, LL.scal_int, LL.scal_bl, LL.scal_str, LL.isInt, LL.isBl, LL.isStr, LL.isLst, LL.isTup, LL.isDic]
          rw [Int.zero_add]
          refine .inr (use_ixT (s1 _ _ ep) (atI_nat e1) (.inr (use_ixT (s1 _ _ ep2) (atI_nat e2) ?_)))
          refine use_same (d1.same s1) (d2.same s1) (by have := depL_mem (List.getElem?_eq_getElem hi2); simp only [dep] at hn; omega) fun H2 s2 => ?_
          simp only [tSeq, tAsg, tRet, tRetN, tDrop, tNext, tVar, tC, gName, tOp, tUn, rI, rI0, rU, tIfS, tTest, tB, tIf, tAnd, tOr, tNot, tAndV, tOrV, tNotV, tCall, tCons, tNil, tCB, tLst, tTup, tChain, CMul, CDiv, CPow, rEq, rNe, gSub, L2.start, LL.cxK0, LL.cxK1, List.map_cons, List.map_nil, List.length_cons, List.length_nil, List.replicate_succ, List.replicate_zero, List.cons_append, List.nil_append, List.append_nil, List.getElem?_cons_zero, List.getElem?_cons_succ, List.set_cons_zero, List.set_cons_succ, Nat.add_sub_cancel, Nat.reduceAdd, Nat.reduceSub, Option.some.injEq, V.int.injEq, V.bl.injEq, V.ref.injEq, V.str.injEq, List.cons.injEq, and_true, true_and, and_false, false_and, exists_eq_left, exists_eq_left', exists_and_left, exists_and_right, exists_eq, exists_eq', LL.if_dec, reduceCtorEq, exists_false, exists_const, or_false, false_or, if_true, if_false, LL.rInt1, LL.rMx, LL.rMn, and_assoc, Int.reduceNeg, Int.reduceLT, Int.reduceLE, Int.reduceMul, Int.reduceAdd, Int.reduceSub, Int.reducePow, Int.reduceToNat, Nat.reducePow, Nat.reduceLT, true_or, or_true, Bool.not_true, Bool.not_false, Bool.false_eq_true, Bool.or_false, Bool.or_true, Bool.true_or, Bool.false_or, decide_true, decide_false, not_true_eq_false, not_false_eq_true, LL.scal_int, LL.scal_bl, LL.scal_str, LL.isInt, LL.isBl, LL.isStr, LL.isLst, LL.isTup, LL.isDic]
          exact ⟨s1.trans s2, by omega⟩
        · rintro σ' H' ⟨s1, _, zz, rfl⟩
          simp only [tSeq, tAsg, tRet, tRetN, tDrop, tNext, tVar, tC, gName, tOp, tUn, rI, rI0, rU, tIfS, tTest, tB, tIf, tAnd, tOr, tNot, tAndV, tOrV, tNotV, tCall, tCons, tNil, tCB, tLst, tTup, tChain, CMul, CDiv, CPow, rEq, rNe, gSub, L2.start, LL.cxK0, LL.cxK1, List.map_cons, List.map_nil, List.length_cons, List.length_nil, List.replicate_succ, List.replicate_zero, List.cons_append, List.nil_append, List.append_nil, List.getElem?_cons_zero, List.getElem?_cons_succ, List.set_cons_zero, List.set_cons_succ, Nat.add_sub_cancel, Nat.reduceAdd, Nat.reduceSub, Option.some.injEq, V.int.injEq, V.bl.injEq, V.ref.injEq, V.str.injEq, List.cons.injEq, and_true, true_and, and_false, false_and, exists_eq_left, exists_eq_left', exists_and_left, exists_and_right, exists_eq, exists_eq', LL.if_dec, reduceCtorEq, exists_false, exists_const, or_false, false_or, if_true, if_false, LL.rInt1, LL.rMx, LL.rMn, and_assoc, Int.reduceNeg, Int.reduceLT, Int.reduceLE, Int.reduceMul, Int.reduceAdd, Int.reduceSub, Int.reducePow, Int.reduceToNat, Nat.reducePow, Nat.reduceLT, true_or, or_true, Bool.not_true, Bool.not_false, Bool.false_eq_true, Bool.or_false, Bool.or_true, Bool.true_or, Bool.false_or, decide_true, decide_false, not_true_eq_false, not_false_eq_true, LL.scal_int, LL.scal_bl, LL.scal_str, LL.isInt, LL.isBl, LL.isStr, LL.isLst, LL.isTup, LL.isDic]
          exact q _ s1
      | dic u =>
        obtain ⟨p, z, rfl, fp, ep, hz⟩ := _root_.id h1
        obtain ⟨p2, z2, rfl, fp2, ep2, hz2⟩ := _root_.id h2
        simp only [tSeq, tAsg, tRet, tRetN, tDrop, tNext, tVar, tC, gName, tOp, tUn, rI, rI0, rU, tIfS, tTest, tB, tIf, tAnd, tOr, tNot, tAndV, tOrV, tNotV, tCall, tCons, tNil, tCB, tLst, tTup, tChain, CMul, CDiv, CPow, rEq, rNe, gSub, L2.start, LL.cxK0, LL.cxK1, List.map_cons, List.map_nil, List.length_cons, List.length_nil, List.replicate_succ, List.replicate_zero, List.cons_append, List.nil_append, List.append_nil, List.getElem?_cons_zero, List.getElem?_cons_succ, List.set_cons_zero, List.set_cons_succ, Nat.add_sub_cancel, Nat.reduceAdd, Nat.reduceSub, Option.some.injEq, V.int.injEq, V.bl.injEq, V.ref.injEq, V.str.injEq, List.cons.injEq, and_true, true_and, and_false, false_and, exists_eq_left, exists_eq_left', exists_and_left, exists_and_right, exists_eq, exists_eq', LL.if_dec, reduceCtorEq, exists_false, exists_const, or_false, false_or, if_true, if_false, LL.rInt1, LL.rMx, LL.rMn, and_assoc, Int.reduceNeg, Int.reduceLT, Int.reduceLE, Int.reduceMul, Int.reduceAdd, Int.reduceSub, Int.reducePow, Int.reduceToNat, Nat.reducePow, Nat.reduceLT, true_or, or_true, Bool.not_true, Bool.not_false, Bool.false_eq_true, Bool.or_false, Bool.or_true, Bool.true_or, Bool.false_or, decide_true, decide_false, not_true_eq_false, not_false_eq_true, LL.scal_int, LL.scal_bl, LL.scal_str, LL.isInt, LL.isBl, LL.isStr, LL.isLst, LL.isTup, LL.isDic, N_law_same]
        repeat (first | refine use_isi h1 (kit_int _) ?_ | refine use_isi h1 (kit_bool _) ?_ | refine use_isi h1 (kit_str _) ?_ | refine use_isi h1 (kit_list _) ?_ | refine use_isi h1 (kit_tuple _) ?_ | refine use_isi h1 (kit_dict _) ?_ | refine use_isi h2 (kit_int _) ?_ | refine use_isi h2 (kit_bool _) ?_ | refine use_isi h2 (kit_str _) ?_ | refine use_isi h2 (kit_list _) ?_ | refine use_isi h2 (kit_tuple _) ?_ | refine use_isi h2 (kit_dict _) ?_ | refine And.intro (show scal _ _ = true from rfl) ?_ | simp only [tSeq, tAsg, tRet, tRetN, tDrop, tNext, tVar, tC, gName, tOp, tUn, rI, rI0, rU, tIfS, tTest, tB, tIf, tAnd, tOr, tNot, tAndV, tOrV, tNotV, tCall, tCons, tNil, tCB, tLst, tTup, tChain, CMul, CDiv, CPow, rEq, rNe, gSub, L2.start, LL.cxK0, LL.cxK1, List.map_cons, List.map_nil, List.length_cons, List.length_nil, List.replicate_succ, List.replicate_zero, List.cons_append, List.nil_append, List.append_nil, List.getElem?_cons_zero, List.getElem?_cons_succ, List.set_cons_zero, List.set_cons_succ, Nat.add_sub_cancel, Nat.reduceAdd, Nat.reduceSub, Option.some.injEq, V.int.injEq, V.bl.injEq, V.ref.injEq, V.str.injEq, List.cons.injEq, and_true, true_and, and_false, false_and, exists_eq_left, exists_eq_left', exists_and_left, exists_and_right, exists_eq, exists_eq', LL.if_dec, reduceCtorEq, exists_false, exists_const, or_false, false_or, if_true, if_false, LL.rInt1, LL.rMx, LL.rMn, and_assoc, Int.reduceNeg, Int.reduceLT, Int.reduceLE, Int.reduceMul, Int.reduceAdd, Int.reduceSub, Int.reducePow, Int.reduceToNat, Nat.reducePow, Nat.reduceLT, true_or, or_true, Bool.not_true, Bool.not_false, Bool.false_eq_true, Bool.or_false, Bool.or_true, Bool.true_or, Bool.false_or, decide_true, decide_false, not_true_eq_false, not_false_eq_true, LL.scal_int, LL.scal_bl, LL.scal_str, LL.isInt, LL.isBl, LL.isStr, LL.isLst, LL.isTup, LL.isDic])
        refine .inr (.inr ⟨_, _, rfl, ep, ?_⟩)
        refine .inr (.inr ⟨_, _, rfl, ep2, And.intro (show scal _ _ = true from rfl) ?_⟩)
        rw [if_neg (by simp)]
        refine use_forLX (R := fun a xs H' => Same H H' ∧ H' a = some (.lst xs) ∧ xs = [.str "a"]) (fun Q hQ => ⟨_, rfl, _, _, rfl, ep2, ?_⟩) (fun a xs i σ' H' => Same H H' ∧ H' a = some (.lst xs) ∧ xs = [.str "a"] ∧ ∃ z1 z2 : Option V, σ' = [some (.ref p), some (.ref p2), z1, z2]) (fun a xs H' ⟨s1, e1, e2⟩ => ⟨s1, e1, e2, _, _, rfl⟩) (fun a xs i σ' H' _ ⟨_, e1, _⟩ => SqL.of e1) ?_ ?_
        · show ∀ l, H l = none → Q (V.ref l) _
          intro l nl
          generalize hq : upd H l _ = H1
          have sH1 : Same H H1 := hq ▸ Same.new (Same.refl _) nl
          have el := hq ▸ (upd_same (H := H) (a := l))
          clear hq
          exact hQ _ _ _ ⟨sH1, el, rfl⟩
        · rintro a xs i y σ' H' hy ⟨s1, e1, rfl, z3, z4, rfl⟩
          obtain rfl : y = V.str "a" := by
            rcases i with _ | i
            · exact (Option.some.inj hy).symm
            · cases hy
          simp only [tSeq, tAsg, tRet, tRetN, tDrop, tNext, tVar, tC, gName, tOp, tUn, rI, rI0, rU, tIfS, tTest, tB, tIf, tAnd, tOr, tNot, tAndV, tOrV, tNotV, tCall, tCons, tNil, tCB, tLst, tTup, tChain, CMul, CDiv, CPow, rEq, rNe, gSub, L2.start, LL.cxK0, LL.cxK1, List.map_cons, List.map_nil, List.length_cons, List.length_nil, List.replicate_succ, List.replicate_zero, List.cons_append, List.nil_append, List.append_nil, List.getElem?_cons_zero, List.getElem?_cons_succ, List.set_cons_zero, List.set_cons_succ, Nat.add_sub_cancel, Nat.reduceAdd, Nat.reduceSub, Option.some.injEq, V.int.injEq, V.bl.injEq, V.ref.injEq, V.str.injEq, List.cons.injEq, and_true, true_and, and_false, false_and, exists_eq_left, exists_eq_left', exists_and_left, exists_and_right, exists_eq, exists_eq', LL.if_dec, reduceCtorEq, exists_false, exists_const, or_false, false_or, if_true, if_false, LL.rInt1, LL.rMx, LL.rMn, and_assoc, Int.reduceNeg, Int.reduceLT, Int.reduceLE, Int.reduceMul, Int.reduceAdd, Int.reduceSub, Int.reducePow, Int.reduceToNat, Nat.reducePow, Nat.reduceLT, true_or, or_true, Bool.not_true, Bool.not_false, Bool.false_eq_true, Bool.or_false, Bool.or_true, Bool.true_or, Bool.false_or, decide_true, decide_false, not_true_eq_false, not_false_eq_true, LL.scal_int, LL.scal_bl, LL.scal_str, LL.isInt, LL.isBl, LL.isStr, LL.isLst, LL.isTup, LL.isDic, tDNotIn, tDGet]
          have ev : ∀ (q : Addr) (zz : V), H' q = some (.dK [(Sum.inr "a", zz)]) → DGet H' q (.str "a") (some zz) := fun q zz e => by
            have g := DGet.k (k := Sum.inr "a") e
            have e2 : valV [((Sum.inr "a" : Key), zz)] (Sum.inr "a") = some zz := by simp [valV]
            rw [e2] at g
            exact g
          refine ⟨_, ev _ _ (s1 _ _ ep), ?_⟩
          simp only [tSeq, tAsg, tRet, tRetN, tDrop, tNext, tVar, tC, gName, tOp, tUn, rI, rI0, rU, tIfS, tTest, tB, tIf, tAnd, tOr, tNot, tAndV, tOrV, tNotV, tCall, tCons, tNil, tCB, tLst, tTup, tChain, CMul, CDiv, CPow, rEq, rNe, gSub, L2.start, LL.cxK0, LL.cxK1, List.map_cons, List.map_nil, List.length_cons, List.length_nil, List.replicate_succ, List.replicate_zero, List.cons_append, List.nil_append, List.append_nil, List.getElem?_cons_zero, List.getElem?_cons_succ, List.set_cons_zero, List.set_cons_succ, Nat.add_sub_cancel, Nat.reduceAdd, Nat.reduceSub, Option.some.injEq, V.int.injEq, V.bl.injEq, V.ref.injEq, V.str.injEq, List.cons.injEq, and_true, true_and, and_false, false_and, exists_eq_left, exists_eq_left', exists_and_left, exists_and_right, exists_eq, exists_eq', LL.if_dec, reduceCtorEq, exists_false, exists_const, or_false, false_or, if_true, if_false, LL.rInt1, LL.rMx, LL.rMn, and_assoc, Int.reduceNeg, Int.reduceLT, Int.reduceLE, Int.reduceMul, Int.reduceAdd, Int.reduceSub, Int.reducePow, Int.reduceToNat, Nat.reducePow, Nat.reduceLT, true_or, or_true, Bool.not_true, Bool.not_false, Bool.false_eq_true, Bool.or_false, Bool.or_true, Bool.true_or, Bool.false_or, decide_true, decide_false, not_true_eq_false, not_false_eq_true, LL.scal_int, LL.scal_bl, LL.scal_str, LL.isInt, LL.isBl, LL.isStr, LL.isLst, LL.isTup, LL.isDic, Option.isSome_some]
          refine ⟨_, ev _ _ (s1 _ _ ep), ?_⟩
          refine ⟨_, ev _ _ (s1 _ _ ep2), ?_⟩
          refine use_same (hz.same s1) (hz2.same s1) (by simp only [dep] at hn; omega) fun H2 s2 => ?_
          simp only [tSeq, tAsg, tRet, tRetN, tDrop, tNext, tVar, tC, gName, tOp, tUn, rI, rI0, rU, tIfS, tTest, tB, tIf, tAnd, tOr, tNot, tAndV, tOrV, tNotV, tCall, tCons, tNil, tCB, tLst, tTup, tChain, CMul, CDiv, CPow, rEq, rNe, gSub, L2.start, LL.cxK0, LL.cxK1, List.map_cons, List.map_nil, List.length_cons, List.length_nil, List.replicate_succ, List.replicate_zero, List.cons_append, List.nil_append, List.append_nil, List.getElem?_cons_zero, List.getElem?_cons_succ, List.set_cons_zero, List.set_cons_succ, Nat.add_sub_cancel, Nat.reduceAdd, Nat.reduceSub, Option.some.injEq, V.int.injEq, V.bl.injEq, V.ref.injEq, V.str.injEq, List.cons.injEq, and_true, true_and, and_false, false_and, exists_eq_left, exists_eq_left', exists_and_left, exists_and_right, exists_eq, exists_eq', LL.if_dec, reduceCtorEq, exists_false, exists_const, or_false, false_or, if_true, if_false, LL.rInt1, LL.rMx, LL.rMn, and_assoc, Int.reduceNeg, Int.reduceLT, Int.reduceLE, Int.reduceMul, Int.reduceAdd, Int.reduceSub, Int.reducePow, Int.reduceToNat, Nat.reducePow, Nat.reduceLT, true_or, or_true, Bool.not_true, Bool.not_false, Bool.false_eq_true, Bool.or_false, Bool.or_true, Bool.true_or, Bool.false_or, decide_true, decide_false, not_true_eq_false, not_false_eq_true, LL.scal_int, LL.scal_bl, LL.scal_str, LL.isInt, LL.isBl, LL.isStr, LL.isLst, LL.isTup, LL.isDic]
          exact ⟨s1.trans s2, s2 _ _ e1⟩
        · rintro a xs σ' H' ⟨s1, e1, rfl, z3, z4, rfl⟩
          simp only [tSeq, tAsg, tRet, tRetN, tDrop, tNext, tVar, tC, gName, tOp, tUn, rI, rI0, rU, tIfS, tTest, tB, tIf, tAnd, tOr, tNot, tAndV, tOrV, tNotV, tCall, tCons, tNil, tCB, tLst, tTup, tChain, CMul, CDiv, CPow, rEq, rNe, gSub, L2.start, LL.cxK0, LL.cxK1, List.map_cons, List.map_nil, List.length_cons, List.length_nil, List.replicate_succ, List.replicate_zero, List.cons_append, List.nil_append, List.append_nil, List.getElem?_cons_zero, List.getElem?_cons_succ, List.set_cons_zero, List.set_cons_succ, Nat.add_sub_cancel, Nat.reduceAdd, Nat.reduceSub, Option.some.injEq, V.int.injEq, V.bl.injEq, V.ref.injEq, V.str.injEq, List.cons.injEq, and_true, true_and, and_false, false_and, exists_eq_left, exists_eq_left', exists_and_left, exists_and_right, exists_eq, exists_eq', LL.if_dec, reduceCtorEq, exists_false, exists_const, or_false, false_or, if_true, if_false, LL.rInt1, LL.rMx, LL.rMn, and_assoc, Int.reduceNeg, Int.reduceLT, Int.reduceLE, Int.reduceMul, Int.reduceAdd, Int.reduceSub, Int.reducePow, Int.reduceToNat, Nat.reducePow, Nat.reduceLT, true_or, or_true, Bool.not_true, Bool.not_false, Bool.false_eq_true, Bool.or_false, Bool.or_true, Bool.true_or, Bool.false_or, decide_true, decide_false, not_true_eq_false, not_false_eq_true, LL.scal_int, LL.scal_bl, LL.scal_str, LL.isInt, LL.isBl, LL.isStr, LL.isLst, LL.isTup, LL.isDic]
          exact q _ s1
/-- the same data, made anew -/
def sp_law_copy (n : Nat) : Sp := fun vs H Q _ => ∃ (F : Addr → Prop) (v : V) (t : LL.T), vs = [v] ∧ Dt F H v t ∧ dep t < n ∧ ∀ r H', Same H H' → Dt (fun a => H a = none) H' r t → Q r H'
theorem use_copy {n : Nat} {F : Addr → Prop} {v : V} {t : LL.T} {H : Hp} {Q : VK} {E : XK} (h1 : Dt F H v t) (hn : dep t < n) (q : ∀ r H', Same H H' → Dt (fun a => H a = none) H' r t → Q r H') : sp_law_copy n [v] H Q E := ⟨F, v, t, rfl, h1, hn, q⟩

/-- what is told of a BadValue with that name -/
def refT (n : Str) : LL.T := .lst [.str "refused", .tup [.str "BadValue", .tup [.str n]], .tup [.str n], .lst [.bl true, .bl true, .bl true, .bl false, .bl false, .bl false, .bl false, .bl false, .bl false, .bl false]]
def sp_law_refused : Sp := fun vs H Q _ => ∃ (F : Addr → Prop) (f : V) (n : Str), vs = [.str "BadValue", f] ∧ Dt F H f (.tup [.str n]) ∧ ∀ r H', Same H H' → Dt (fun _ => True) H' r (refT n) → Q r H'
theorem use_refused {F : Addr → Prop} {f : V} {n : Str} {H : Hp} {Q : VK} {E : XK} (hf : Dt F H f (.tup [.str n])) (q : ∀ r H', Same H H' → Dt (fun _ => True) H' r (refT n) → Q r H') : sp_law_refused [.str "BadValue", f] H Q E := ⟨F, f, n, rfl, hf, q⟩
def titles : List V := [.str "BadValue", .str "Broken", .str "Unknown", .str "NotHeld", .str "Fault", .str "NoRoom", .str "Cut", .str "BadLine"]
theorem titles_eq : titles.map (fun x => V.bl (decide (x = V.str "BadValue"))) = [.bl true, .bl false, .bl false, .bl false, .bl false, .bl false, .bl false, .bl false] := by decide +kernel
theorem titles_s : ∀ x ∈ titles, scal x (.str "BadValue") = true := by decide +kernel

def sp_law_draws (K : PySem.W.Frag) : Sp := fun vs H Q _ => ∃ (a : Addr) (ns : List Int), vs = [.ref a] ∧ SqL K H a (ns.map V.int) ∧ ns.length ≤ 100000 ∧ ∀ d s H', Same H H' → Drw d s H' → H d = none → H s = none → Q (.ref d) H'

theorem ok_law_draws (T : Tx K mg) : FnOk P w K mg base CX0 1 (He.ga K "_law_draws") T.fd_law_draws P_law_draws (sp_law_draws K) := by
  refine T.F_law_draws.ok sc_law_draws (fun vs H Q E h => ?_) (fun cdv A outer s H vs Q E hr h => ⟨_, PSs.nox (pss_one (ps_ret (pe_lst (pa_cons (pe_lc (own := [("_law_cell", 1)]) (by rfl) sc_law_draws.nd (pi_list (pv 0)) (blkOk_by (N := N_law_draws) (sc := defScope s_law_draws) (by decide +kernel)) (fun _ _ _ _ _ => (pg_name (i := 1) sc_law_draws.nd rfl (Or.inl rfl))) (fun _ _ _ _ _ => pts_nil) (fun _ _ _ _ _ => (pe_callTy LL.call_intI (by rfl) T.z_int (by decide +kernel) (pa_cons (pv 1) pa_nil)))) (pa_cons (pe_lst (pa_cons (pe_int) (pa_cons (pe_int) (pa_cons (pe_int) (pa_cons (pe_int) (pa_cons (pe_int) pa_nil)))))) pa_nil))))), ?_⟩)
  · obtain ⟨_, _, rfl, _⟩ := h
    rfl
  · obtain ⟨a, ns, rfl, hs, hn, q⟩ := h
    simp only [tSeq, tAsg, tRet, tRetN, tDrop, tNext, tVar, tC, gName, tOp, tUn, rI, rI0, rU, tIfS, tTest, tB, tIf, tAnd, tOr, tNot, tAndV, tOrV, tNotV, tCall, tCons, tNil, tCB, tLst, tTup, tChain, CMul, CDiv, CPow, rEq, rNe, gSub, L2.start, LL.cxK0, LL.cxK1, List.map_cons, List.map_nil, List.length_cons, List.length_nil, List.replicate_succ, List.replicate_zero, List.cons_append, List.nil_append, List.append_nil, List.getElem?_cons_zero, List.getElem?_cons_succ, List.set_cons_zero, List.set_cons_succ, Nat.add_sub_cancel, Nat.reduceAdd, Nat.reduceSub, Option.some.injEq, V.int.injEq, V.bl.injEq, V.ref.injEq, V.str.injEq, List.cons.injEq, and_true, true_and, and_false, false_and, exists_eq_left, exists_eq_left', exists_and_left, exists_and_right, exists_eq, exists_eq', LL.if_dec, reduceCtorEq, exists_false, exists_const, or_false, false_or, if_true, if_false, LL.rInt1, LL.rMx, LL.rMn, and_assoc, Int.reduceNeg, Int.reduceLT, Int.reduceLE, Int.reduceMul, Int.reduceAdd, Int.reduceSub, Int.reducePow, Int.reduceToNat, Nat.reducePow, Nat.reduceLT, true_or, or_true, Bool.not_true, Bool.not_false, Bool.false_eq_true, Bool.or_false, Bool.or_true, Bool.true_or, Bool.false_or, decide_true, decide_false, not_true_eq_false, not_false_eq_true, LL.scal_int, LL.scal_bl, LL.scal_str, LL.isInt, LL.isBl, LL.isStr, LL.isLst, LL.isTup, LL.isDic, N_law_draws]
    refine ⟨_, rfl, a, rfl, ⟨_, hs⟩, fun D hD => ?_⟩
    refine lc_list (K := K) (a := a) (xs := ns.map V.int) (fun i H' => Same H H' ∧ H' D = some (.lst ((ns.take i).map V.int))) ⟨Same.new (Same.refl _) hD, upd_same⟩ (fun i H' _ ⟨s1, _⟩ => s1.seq hs) ?_ ?_
    · rintro i x H' hi ⟨s1, eD⟩
      rw [List.getElem?_map] at hi
      obtain ⟨n, hn2, rfl⟩ := Option.map_eq_some_iff.mp hi
      simp only [tSeq, tAsg, tRet, tRetN, tDrop, tNext, tVar, tC, gName, tOp, tUn, rI, rI0, rU, tIfS, tTest, tB, tIf, tAnd, tOr, tNot, tAndV, tOrV, tNotV, tCall, tCons, tNil, tCB, tLst, tTup, tChain, CMul, CDiv, CPow, rEq, rNe, gSub, L2.start, LL.cxK0, LL.cxK1, List.map_cons, List.map_nil, List.length_cons, List.length_nil, List.replicate_succ, List.replicate_zero, List.cons_append, List.nil_append, List.append_nil, List.getElem?_cons_zero, List.getElem?_cons_succ, List.set_cons_zero, List.set_cons_succ, Nat.add_sub_cancel, Nat.reduceAdd, Nat.reduceSub, Option.some.injEq, V.int.injEq, V.bl.injEq, V.ref.injEq, V.str.injEq, List.cons.injEq, and_true, true_and, and_false, false_and, exists_eq_left, exists_eq_left', exists_and_left, exists_and_right, exists_eq, exists_eq', LL.if_dec, reduceCtorEq, exists_false, exists_const, or_false, false_or, if_true, if_false, LL.rInt1, LL.rMx, LL.rMn, and_assoc, Int.reduceNeg, Int.reduceLT, Int.reduceLE, Int.reduceMul, Int.reduceAdd, Int.reduceSub, Int.reducePow, Int.reduceToNat, Nat.reducePow, Nat.reduceLT, true_or, or_true, Bool.not_true, Bool.not_false, Bool.false_eq_true, Bool.or_false, Bool.or_true, Bool.true_or, Bool.false_or, decide_true, decide_false, not_true_eq_false, not_false_eq_true, LL.scal_int, LL.scal_bl, LL.scal_str, LL.isInt, LL.isBl, LL.isStr, LL.isLst, LL.isTup, LL.isDic, tYes, wipe, List.foldl_cons, List.foldl_nil]
      refine ⟨_, eD, small_sz (by rw [List.length_map, List.length_take]; omega), Same.own s1 hD, ?_⟩
      rw [upd_same, take_one hn2, List.map_append]
      rfl
    · rintro H' ⟨s1, eD⟩
      rw [List.length_map, List.take_length] at eD
      refine ⟨by decide, ?_⟩
      have nD : ∀ b, H' b = none → b ≠ D := fun b nb z => by rw [z, eD] at nb; cases nb
      intro p2 np2
      generalize hq : upd H' p2 _ = H2
      have sH2 : Same H' H2 := hq ▸ Same.new (Same.refl _) np2
      have ep2 := hq ▸ (upd_same (H := H') (a := p2))
      clear hq
      replace eD := sH2 _ _ eD
      refine ⟨by decide, ?_⟩
      intro p3 np3
      generalize hq : upd H2 p3 _ = H3
      have sH3 : Same H2 H3 := hq ▸ Same.new (Same.refl _) np3
      have ep3 := hq ▸ (upd_same (H := H2) (a := p3))
      clear hq
      replace eD := sH3 _ _ eD
      replace ep2 := sH3 _ _ ep2
      refine q p3 p2 H3 ((s1.trans sH2).trans sH3) ⟨⟨D, ep3, (nD _ np2).symm, ns, eD⟩, ⟨0, 0, 0, 0, 11, by decide, ep2⟩, fun z => by rw [z] at np3; rw [z] at ep3; rw [ep3] at ep2; cases ep2⟩ ((s1.trans sH2).free np3) (s1.free np2)
end K25

namespace K25
open PySem PySem.Spec PyProof.Rows L2 LL
variable {P : Program} {w : World} {K : PySem.W.Frag} {mg : Str → Option Value} {base : Heap}

/-- behind a raised BadValue: its own dict d, new, holds what it tells -/
structure BadH (H H' : Hp) (d : Addr) (n : V) : Prop where
  ex : ∃ p1 p2, H' d = some (.xd [("told", .ref p2), ("parameter", n)]) ∧ H' p1 = some (.tup [n]) ∧ H' p2 = some (.tup [.str "BadValue", .ref p1]) ∧ H p1 = none ∧ H p2 = none
  same : Same H H'
  new : H d = none
/-- BadValue.__init__ -/
def sp_BadValue (K : PySem.W.Frag) : Sp := fun vs H Q _ => ∃ (a : Addr) (n : V), vs = [.ref a, n] ∧ H a = some (exo a (aBV K) none) ∧
  ∀ d p1 p2 H', H d = none → d ≠ a → H' a = some (exo a (aBV K) (some d)) → H' d = some (exd d [("told", .ref p2), ("parameter", n)]) → H' p1 = some (.tup [n]) → H' p2 = some (.tup [.str "BadValue", .ref p1]) → H p1 = none → H p2 = none → (∀ b o, b ≠ a → H b = some o → H' b = some o) → Q .non H'
theorem ok_BadValue (T : Tx K mg) : FnOk P w K mg base CX0 1 (iBV K) T.fd_BadValue P_BadValue (sp_BadValue K) := by
  refine T.F_BadValue.ok sc_BadValue (fun vs H Q E h => ?_) (fun cdv A outer s H vs Q E hr h => ⟨_, PSs.nox (pss_cons (ps_ost (pv 0) (pv 1)) (pss_one (ps_ost (pv 0) (pe_tup (pa_cons pe_str (pa_cons (pe_tup (pa_cons (pv 1) pa_nil)) pa_nil)))))), ?_⟩)
  · obtain ⟨_, _, rfl, _⟩ := h
    rfl
  · obtain ⟨a, n, rfl, ha, q⟩ := h
    simp only [tSeq, tAsg, tRet, tRetN, tDrop, tNext, tVar, tC, gName, tOp, tUn, rI, rI0, rU, tIfS, tTest, tB, tIf, tAnd, tOr, tNot, tAndV, tOrV, tNotV, tCall, tCons, tNil, tCB, tLst, tTup, tChain, CMul, CDiv, CPow, rEq, rNe, gSub, L2.start, LL.cxK0, LL.cxK1, List.map_cons, List.map_nil, List.length_cons, List.length_nil, List.replicate_succ, List.replicate_zero, List.cons_append, List.nil_append, List.append_nil, List.getElem?_cons_zero, List.getElem?_cons_succ, List.set_cons_zero, List.set_cons_succ, Nat.add_sub_cancel, Nat.reduceAdd, Nat.reduceSub, Option.some.injEq, V.int.injEq, V.bl.injEq, V.ref.injEq, V.str.injEq, List.cons.injEq, and_true, true_and, and_false, false_and, exists_eq_left, exists_eq_left', exists_and_left, exists_and_right, exists_eq, exists_eq', LL.if_dec, reduceCtorEq, exists_false, exists_const, or_false, false_or, if_true, if_false, LL.rInt1, LL.rMx, LL.rMn, and_assoc, Int.reduceNeg, Int.reduceLT, Int.reduceLE, Int.reduceMul, Int.reduceAdd, Int.reduceSub, Int.reducePow, Int.reduceToNat, Nat.reducePow, Nat.reduceLT, true_or, or_true, Bool.not_true, Bool.not_false, Bool.false_eq_true, Bool.or_false, Bool.or_true, Bool.true_or, Bool.false_or, decide_true, decide_false, not_true_eq_false, not_false_eq_true, LL.scal_int, LL.scal_bl, LL.scal_str, LL.isInt, LL.isBl, LL.isStr, LL.isLst, LL.isTup, LL.isDic, P_BadValue, tOst]
    refine ⟨_, T.x_BadValue, T.n_BadValue_parameter, .inl ⟨ha, fun dx hdx hne => ?_⟩⟩
    have e1 : upd (upd H dx (exd dx [("parameter", n)])) a (exo a (aBV K) (some dx)) a = some (exo a (aBV K) (some dx)) := upd_same
    have e2 : upd (upd H dx (exd dx [("parameter", n)])) a (exo a (aBV K) (some dx)) dx = some (exd dx [("parameter", n)]) := by rw [upd_ne hne, upd_same]
    have e3 : ∀ b o, b ≠ a → H b = some o → upd (upd H dx (exd dx [("parameter", n)])) a (exo a (aBV K) (some dx)) b = some o := fun b o hb e => by rw [upd_ne hb, upd_ne (ne_of_none e hdx)]; exact e
    have e4 : ∀ b, upd (upd H dx (exd dx [("parameter", n)])) a (exo a (aBV K) (some dx)) b = none → H b = none := fun b hb => by
      by_cases c : b = a
      · rw [c, upd_same] at hb; cases hb
      · rw [upd_ne c] at hb
        by_cases c2 : b = dx
        · rw [c2]; exact hdx
        · rw [upd_ne c2] at hb; exact hb
    generalize upd (upd H dx (exd dx [("parameter", n)])) a (exo a (aBV K) (some dx)) = H1 at e1 e2 e3 e4 ⊢
    refine ⟨by decide, ?_⟩
    intro p1 np1
    generalize hq : upd H1 p1 _ = H2
    have sH2 : Same H1 H2 := hq ▸ Same.new (Same.refl _) np1
    have ep1 := hq ▸ (upd_same (H := H1) (a := p1))
    clear hq
    replace e1 := sH2 _ _ e1
    replace e2 := sH2 _ _ e2
    refine ⟨by decide, ?_⟩
    intro p2 np2
    generalize hq : upd H2 p2 _ = H3
    have sH3 : Same H2 H3 := hq ▸ Same.new (Same.refl _) np2
    have ep2 := hq ▸ (upd_same (H := H2) (a := p2))
    clear hq
    replace e1 := sH3 _ _ e1
    replace e2 := sH3 _ _ e2
    replace ep1 := sH3 _ _ ep1
    refine ⟨_, T.x_BadValue, T.n_BadValue_told, .inr ⟨dx, e1, _, e2, by simp, ?_⟩⟩
    have f1 := e4 _ np1
    have f2 := e4 _ (sH2.free np2)
    have x1 : p1 ≠ dx := fun z => by rw [z, e2] at ep1; exact (show ¬ exd dx [("parameter", n)] = .tup [n] from exd_tup) (Option.some.inj ep1)
    have x2 : p2 ≠ dx := fun z => by rw [z, e2] at ep2; exact (show ¬ exd dx [("parameter", n)] = .tup [.str "BadValue", .ref p1] from exd_tup) (Option.some.inj ep2)
    refine q dx p1 p2 _ hdx hne (by rw [upd_ne hne.symm]; exact e1) upd_same (by rw [upd_ne x1]; exact ep1) (by rw [upd_ne x2]; exact ep2) f1 f2 (fun b o hb e => ?_)
    rw [upd_ne (ne_of_none e hdx)]
    exact sH3 _ _ (sH2 _ _ (e3 _ _ hb e))
/-- t is an integer within the range -/
def InR (lo hi : Int) : LL.T → Prop
  | .int i => lo ≤ i ∧ i ≤ hi
  | _ => False
instance (lo hi : Int) (t : LL.T) : Decidable (InR lo hi t) := by
  cases t <;> unfold InR <;> infer_instance
def sp_need_whole (K : PySem.W.Frag) : Sp := fun vs H Q E => ∃ (F : Addr → Prop) (v n : V) (t : LL.T) (lo hi : Int), vs = [v, .int lo, .int hi, n] ∧ Dt F H v t ∧ (InR lo hi t → Q .non H) ∧ (¬ InR lo hi t → ∀ d H', BadH H H' d n → E (.ref (aBV K)) (some d) H')

theorem ok_need_whole (T : Tx K mg) : FnOk P w K mg base (L2.CX P w) 3 (He.ga K "need_whole") T.fd_need_whole P_need_whole (sp_need_whole K) := by
  refine T.F_need_whole.ok sc_need_whole (fun vs H Q E h => ?_) (fun cdv A outer s H vs Q E hr h => ⟨_, (pss_one (ps_if (PW.pt (pw_or (pt_not (pt_val (pe_call (ok_is_whole T) (hr.mono (by decide)) rfl T.g_is_whole T.F_is_whole.kp (b_is_whole T) .nil pass0 (pa_cons (pv 0) pa_nil)))) (pw_or1 (pt_not (pt_chain op_le op_le (pv 1) (pv 0) (pv 2)))))) (pss_one (ps_raise rfl (takes_of rfl rfl rfl rfl) (pmk_oex T.x_BadValue T.i_BadValue T.t_BadValue (ok_BadValue T) hr (b_BadValue T) .nil pass0 rfl T.g_BadValue (pa_cons (pv 3) pa_nil)))) pss_nil)), ?_⟩)
  · obtain ⟨_, _, _, _, _, _, rfl, _⟩ := h
    rfl
  · obtain ⟨F, v, n, t, lo, hi, rfl, hd, q1, q2⟩ := h
    have bad : ¬ InR lo hi t → tMkO (aBV K) (sp_BadValue K) [] (tCons (tVar 3) tNil) [some v, some (.int lo), some (.int hi), some n] H (fun cls d H' => E cls d H') := by
      intro hb
      simp only [tMkO]
      simp only [tSeq, tAsg, tRet, tRetN, tDrop, tNext, tVar, tC, gName, tOp, tUn, rI, rI0, rU, tIfS, tTest, tB, tIf, tAnd, tOr, tNot, tAndV, tOrV, tNotV, tCall, tCons, tNil, tCB, tLst, tTup, tChain, CMul, CDiv, CPow, rEq, rNe, gSub, L2.start, LL.cxK0, LL.cxK1, List.map_cons, List.map_nil, List.length_cons, List.length_nil, List.replicate_succ, List.replicate_zero, List.cons_append, List.nil_append, List.append_nil, List.getElem?_cons_zero, List.getElem?_cons_succ, List.set_cons_zero, List.set_cons_succ, Nat.add_sub_cancel, Nat.reduceAdd, Nat.reduceSub, Option.some.injEq, V.int.injEq, V.bl.injEq, V.ref.injEq, V.str.injEq, List.cons.injEq, and_true, true_and, and_false, false_and, exists_eq_left, exists_eq_left', exists_and_left, exists_and_right, exists_eq, exists_eq', LL.if_dec, reduceCtorEq, exists_false, exists_const, or_false, false_or, if_true, if_false, LL.rInt1, LL.rMx, LL.rMn, and_assoc, Int.reduceNeg, Int.reduceLT, Int.reduceLE, Int.reduceMul, Int.reduceAdd, Int.reduceSub, Int.reducePow, Int.reduceToNat, Nat.reducePow, Nat.reduceLT, true_or, or_true, Bool.not_true, Bool.not_false, Bool.false_eq_true, Bool.or_false, Bool.or_true, Bool.true_or, Bool.false_or, decide_true, decide_false, not_true_eq_false, not_false_eq_true, LL.scal_int, LL.scal_bl, LL.scal_str, LL.isInt, LL.isBl, LL.isStr, LL.isLst, LL.isTup, LL.isDic]
      refine ⟨by decide, fun a na => ?_⟩
      refine ⟨a, n, rfl, upd_same, fun d p1 p2 H' hd hne e1 e2 e3 e4 f1 f2 k => ⟨rfl, d, e1, _, e2, ?_, ?_⟩⟩
      · rw [upd_ne hne] at hd; exact hd
      · have fd : H d = none := by rw [upd_ne hne] at hd; exact hd
        have na1 : p1 ≠ a := fun z => by rw [z, upd_same] at f1; cases f1
        have na2 : p2 ≠ a := fun z => by rw [z, upd_same] at f2; cases f2
        have nd1 : p1 ≠ d := fun z => by rw [z, e2] at e3; exact (show ¬ exd d [("told", V.ref p2), ("parameter", n)] = .tup [n] from exd_tup) (Option.some.inj e3)
        have nd2 : p2 ≠ d := fun z => by rw [z, e2] at e4; exact (show ¬ exd d [("told", V.ref p2), ("parameter", n)] = .tup [.str "BadValue", .ref p1] from exd_tup) (Option.some.inj e4)
        rw [upd_ne na1] at f1
        rw [upd_ne na2] at f2
        refine q2 hb d _ ⟨⟨p1, p2, upd_same, by rw [upd_ne nd1, del_ne na1]; exact e3, by rw [upd_ne nd2, del_ne na2]; exact e4, f1, f2⟩, fun b o e => ?_, fd⟩
        have nba : b ≠ a := ne_of_none e na
        rw [upd_ne (ne_of_none e fd), del_ne nba]
        exact k b o nba (by rw [upd_ne nba]; exact e)
    simp only [tSeq, tAsg, tRet, tRetN, tDrop, tNext, tVar, tC, gName, tOp, tUn, rI, rI0, rU, tIfS, tTest, tB, tIf, tAnd, tOr, tNot, tAndV, tOrV, tNotV, tCall, tCons, tNil, tCB, tLst, tTup, tChain, CMul, CDiv, CPow, rEq, rNe, gSub, L2.start, LL.cxK0, LL.cxK1, List.map_cons, List.map_nil, List.length_cons, List.length_nil, List.replicate_succ, List.replicate_zero, List.cons_append, List.nil_append, List.append_nil, List.getElem?_cons_zero, List.getElem?_cons_succ, List.set_cons_zero, List.set_cons_succ, Nat.add_sub_cancel, Nat.reduceAdd, Nat.reduceSub, Option.some.injEq, V.int.injEq, V.bl.injEq, V.ref.injEq, V.str.injEq, List.cons.injEq, and_true, true_and, and_false, false_and, exists_eq_left, exists_eq_left', exists_and_left, exists_and_right, exists_eq, exists_eq', LL.if_dec, reduceCtorEq, exists_false, exists_const, or_false, false_or, if_true, if_false, LL.rInt1, LL.rMx, LL.rMn, and_assoc, Int.reduceNeg, Int.reduceLT, Int.reduceLE, Int.reduceMul, Int.reduceAdd, Int.reduceSub, Int.reducePow, Int.reduceToNat, Nat.reducePow, Nat.reduceLT, true_or, or_true, Bool.not_true, Bool.not_false, Bool.false_eq_true, Bool.or_false, Bool.or_true, Bool.true_or, Bool.false_or, decide_true, decide_false, not_true_eq_false, not_false_eq_true, LL.scal_int, LL.scal_bl, LL.scal_str, LL.isInt, LL.isBl, LL.isStr, LL.isLst, LL.isTup, LL.isDic, N_need_whole]
    refine use_isint hd ?_
    cases t with
    | int i =>
      obtain rfl : v = .int i := hd
      simp only [tSeq, tAsg, tRet, tRetN, tDrop, tNext, tVar, tC, gName, tOp, tUn, rI, rI0, rU, tIfS, tTest, tB, tIf, tAnd, tOr, tNot, tAndV, tOrV, tNotV, tCall, tCons, tNil, tCB, tLst, tTup, tChain, CMul, CDiv, CPow, rEq, rNe, gSub, L2.start, LL.cxK0, LL.cxK1, List.map_cons, List.map_nil, List.length_cons, List.length_nil, List.replicate_succ, List.replicate_zero, List.cons_append, List.nil_append, List.append_nil, List.getElem?_cons_zero, List.getElem?_cons_succ, List.set_cons_zero, List.set_cons_succ, Nat.add_sub_cancel, Nat.reduceAdd, Nat.reduceSub, Option.some.injEq, V.int.injEq, V.bl.injEq, V.ref.injEq, V.str.injEq, List.cons.injEq, and_true, true_and, and_false, false_and, exists_eq_left, exists_eq_left', exists_and_left, exists_and_right, exists_eq, exists_eq', LL.if_dec, reduceCtorEq, exists_false, exists_const, or_false, false_or, if_true, if_false, LL.rInt1, LL.rMx, LL.rMn, and_assoc, Int.reduceNeg, Int.reduceLT, Int.reduceLE, Int.reduceMul, Int.reduceAdd, Int.reduceSub, Int.reducePow, Int.reduceToNat, Nat.reducePow, Nat.reduceLT, true_or, or_true, Bool.not_true, Bool.not_false, Bool.false_eq_true, Bool.or_false, Bool.or_true, Bool.true_or, Bool.false_or, decide_true, decide_false, not_true_eq_false, not_false_eq_true, LL.scal_int, LL.scal_bl, LL.scal_str, LL.isInt, LL.isBl, LL.isStr, LL.isLst, LL.isTup, LL.isDic]
      by_cases h1 : lo ≤ i
      · rw [if_pos h1]
        by_cases h2 : i ≤ hi
        · rw [if_neg (by simp [h2])]
          exact q1 ⟨h1, h2⟩
        · rw [if_pos (by simp [h2])]
          exact bad (fun z => h2 z.2)
      · rw [if_neg h1]
        exact bad (fun z => h1 z.1)
    | _ =>
      simp only [tSeq, tAsg, tRet, tRetN, tDrop, tNext, tVar, tC, gName, tOp, tUn, rI, rI0, rU, tIfS, tTest, tB, tIf, tAnd, tOr, tNot, tAndV, tOrV, tNotV, tCall, tCons, tNil, tCB, tLst, tTup, tChain, CMul, CDiv, CPow, rEq, rNe, gSub, L2.start, LL.cxK0, LL.cxK1, List.map_cons, List.map_nil, List.length_cons, List.length_nil, List.replicate_succ, List.replicate_zero, List.cons_append, List.nil_append, List.append_nil, List.getElem?_cons_zero, List.getElem?_cons_succ, List.set_cons_zero, List.set_cons_succ, Nat.add_sub_cancel, Nat.reduceAdd, Nat.reduceSub, Option.some.injEq, V.int.injEq, V.bl.injEq, V.ref.injEq, V.str.injEq, List.cons.injEq, and_true, true_and, and_false, false_and, exists_eq_left, exists_eq_left', exists_and_left, exists_and_right, exists_eq, exists_eq', LL.if_dec, reduceCtorEq, exists_false, exists_const, or_false, false_or, if_true, if_false, LL.rInt1, LL.rMx, LL.rMn, and_assoc, Int.reduceNeg, Int.reduceLT, Int.reduceLE, Int.reduceMul, Int.reduceAdd, Int.reduceSub, Int.reducePow, Int.reduceToNat, Nat.reducePow, Nat.reduceLT, true_or, or_true, Bool.not_true, Bool.not_false, Bool.false_eq_true, Bool.or_false, Bool.or_true, Bool.true_or, Bool.false_or, decide_true, decide_false, not_true_eq_false, not_false_eq_true, LL.scal_int, LL.scal_bl, LL.scal_str, LL.isInt, LL.isBl, LL.isStr, LL.isLst, LL.isTup, LL.isDic]
      exact bad (fun z => z)
def kindsT : LL.T := .lst [.bl true, .bl true, .bl true, .bl false, .bl false, .bl false, .bl false, .bl false, .bl false, .bl false]
def sp_law_kinds (K : PySem.W.Frag) : Addr → Addr → Addr → Sp := fun a D dd vs H Q _ => vs = [.ref a] ∧ D = aBV K ∧ (∃ fs, H dd = some (.xd fs)) ∧ ∀ r H', Same H H' → Dt (fun b => H b = none) H' r kindsT → Q r H'
theorem use_isX {K : PySem.W.Frag} {a D dd : Addr} {c : V} {cv : Value} {b : Bool} {fs : List (Str × V)} {H : Hp} {Q : VK} (hc : ClsV c cv) (hk : PySem.W.kitOne K (.ref D) cv = some b) (hd : H dd = some (.xd fs)) (q : Q (.bl b) H) : rIsX K a D dd [.ref a, c] H Q := ⟨c, cv, b, fs, rfl, hc, hk, hd, q⟩

def sp_need (K : PySem.W.Frag) : Sp := fun vs H Q E => ∃ (b : Bool) (n : V), vs = [.bl b, n] ∧ (b = true → Q .non H) ∧ (b = false → ∀ d H', BadH H H' d n → E (.ref (aBV K)) (some d) H')
theorem use_need {K : PySem.W.Frag} {b : Bool} {n : V} {H : Hp} {Q : VK} {E : XK} (q1 : b = true → Q .non H) (q2 : b = false → ∀ d H', BadH H H' d n → E (.ref (aBV K)) (some d) H') : sp_need K [.bl b, n] H Q E := ⟨b, n, rfl, q1, q2⟩

theorem ok_need (T : Tx K mg) : FnOk P w K mg base (L2.CX P w) 3 (He.ga K "need") T.fd_need P_need (sp_need K) := by
  refine T.F_need.ok sc_need (fun vs H Q E h => ?_) (fun cdv A outer s H vs Q E hr h => ⟨_, (pss_one (ps_if (pt_not (pt_val (pv 0))) (pss_one (ps_raise rfl (takes_of rfl rfl rfl rfl) (pmk_oex T.x_BadValue T.i_BadValue T.t_BadValue (ok_BadValue T) hr (b_BadValue T) .nil pass0 rfl T.g_BadValue (pa_cons (pv 1) pa_nil)))) pss_nil)), ?_⟩)
  · obtain ⟨_, _, rfl, _⟩ := h
    rfl
  · obtain ⟨b, n, rfl, q1, q2⟩ := h
    have bad : b = false → tMkO (aBV K) (sp_BadValue K) [] (tCons (tVar 1) tNil) [some (.bl b), some n] H (fun cls d H' => E cls d H') := by
      intro hb
      simp only [tMkO]
      simp only [tSeq, tAsg, tRet, tRetN, tDrop, tNext, tVar, tC, gName, tOp, tUn, rI, rI0, rU, tIfS, tTest, tB, tIf, tAnd, tOr, tNot, tAndV, tOrV, tNotV, tCall, tCons, tNil, tCB, tLst, tTup, tChain, CMul, CDiv, CPow, rEq, rNe, gSub, L2.start, LL.cxK0, LL.cxK1, List.map_cons, List.map_nil, List.length_cons, List.length_nil, List.replicate_succ, List.replicate_zero, List.cons_append, List.nil_append, List.append_nil, List.getElem?_cons_zero, List.getElem?_cons_succ, List.set_cons_zero, List.set_cons_succ, Nat.add_sub_cancel, Nat.reduceAdd, Nat.reduceSub, Option.some.injEq, V.int.injEq, V.bl.injEq, V.ref.injEq, V.str.injEq, List.cons.injEq, and_true, true_and, and_false, false_and, exists_eq_left, exists_eq_left', exists_and_left, exists_and_right, exists_eq, exists_eq', LL.if_dec, reduceCtorEq, exists_false, exists_const, or_false, false_or, if_true, if_false, LL.rInt1, LL.rMx, LL.rMn, and_assoc, Int.reduceNeg, Int.reduceLT, Int.reduceLE, Int.reduceMul, Int.reduceAdd, Int.reduceSub, Int.reducePow, Int.reduceToNat, Nat.reducePow, Nat.reduceLT, true_or, or_true, Bool.not_true, Bool.not_false, Bool.false_eq_true, Bool.or_false, Bool.or_true, Bool.true_or, Bool.false_or, decide_true, decide_false, not_true_eq_false, not_false_eq_true, LL.scal_int, LL.scal_bl, LL.scal_str, LL.isInt, LL.isBl, LL.isStr, LL.isLst, LL.isTup, LL.isDic]
      refine ⟨by decide, fun a na => ?_⟩
      refine ⟨a, n, rfl, upd_same, fun d p1 p2 H' hd hne e1 e2 e3 e4 f1 f2 k => ⟨rfl, d, e1, _, e2, ?_, ?_⟩⟩
      · rw [upd_ne hne] at hd; exact hd
      · have fd : H d = none := by rw [upd_ne hne] at hd; exact hd
        have na1 : p1 ≠ a := fun z => by rw [z, upd_same] at f1; cases f1
        have na2 : p2 ≠ a := fun z => by rw [z, upd_same] at f2; cases f2
        have nd1 : p1 ≠ d := fun z => by rw [z, e2] at e3; exact (show ¬ exd d [("told", V.ref p2), ("parameter", n)] = .tup [n] from exd_tup) (Option.some.inj e3)
        have nd2 : p2 ≠ d := fun z => by rw [z, e2] at e4; exact (show ¬ exd d [("told", V.ref p2), ("parameter", n)] = .tup [.str "BadValue", .ref p1] from exd_tup) (Option.some.inj e4)
        rw [upd_ne na1] at f1
        rw [upd_ne na2] at f2
        refine q2 hb d _ ⟨⟨p1, p2, upd_same, by rw [upd_ne nd1, del_ne na1]; exact e3, by rw [upd_ne nd2, del_ne na2]; exact e4, f1, f2⟩, fun b o e => ?_, fd⟩
        have nba : b ≠ a := ne_of_none e na
        rw [upd_ne (ne_of_none e fd), del_ne nba]
        exact k b o nba (by rw [upd_ne nba]; exact e)
    simp only [tSeq, tAsg, tRet, tRetN, tDrop, tNext, tVar, tC, gName, tOp, tUn, rI, rI0, rU, tIfS, tTest, tB, tIf, tAnd, tOr, tNot, tAndV, tOrV, tNotV, tCall, tCons, tNil, tCB, tLst, tTup, tChain, CMul, CDiv, CPow, rEq, rNe, gSub, L2.start, LL.cxK0, LL.cxK1, List.map_cons, List.map_nil, List.length_cons, List.length_nil, List.replicate_succ, List.replicate_zero, List.cons_append, List.nil_append, List.append_nil, List.getElem?_cons_zero, List.getElem?_cons_succ, List.set_cons_zero, List.set_cons_succ, Nat.add_sub_cancel, Nat.reduceAdd, Nat.reduceSub, Option.some.injEq, V.int.injEq, V.bl.injEq, V.ref.injEq, V.str.injEq, List.cons.injEq, and_true, true_and, and_false, false_and, exists_eq_left, exists_eq_left', exists_and_left, exists_and_right, exists_eq, exists_eq', LL.if_dec, reduceCtorEq, exists_false, exists_const, or_false, false_or, if_true, if_false, LL.rInt1, LL.rMx, LL.rMn, and_assoc, Int.reduceNeg, Int.reduceLT, Int.reduceLE, Int.reduceMul, Int.reduceAdd, Int.reduceSub, Int.reducePow, Int.reduceToNat, Nat.reducePow, Nat.reduceLT, true_or, or_true, Bool.not_true, Bool.not_false, Bool.false_eq_true, Bool.or_false, Bool.or_true, Bool.true_or, Bool.false_or, decide_true, decide_false, not_true_eq_false, not_false_eq_true, LL.scal_int, LL.scal_bl, LL.scal_str, LL.isInt, LL.isBl, LL.isStr, LL.isLst, LL.isTup, LL.isDic, N_need]
    cases b with
    | true =>
      simp only [tSeq, tAsg, tRet, tRetN, tDrop, tNext, tVar, tC, gName, tOp, tUn, rI, rI0, rU, tIfS, tTest, tB, tIf, tAnd, tOr, tNot, tAndV, tOrV, tNotV, tCall, tCons, tNil, tCB, tLst, tTup, tChain, CMul, CDiv, CPow, rEq, rNe, gSub, L2.start, LL.cxK0, LL.cxK1, List.map_cons, List.map_nil, List.length_cons, List.length_nil, List.replicate_succ, List.replicate_zero, List.cons_append, List.nil_append, List.append_nil, List.getElem?_cons_zero, List.getElem?_cons_succ, List.set_cons_zero, List.set_cons_succ, Nat.add_sub_cancel, Nat.reduceAdd, Nat.reduceSub, Option.some.injEq, V.int.injEq, V.bl.injEq, V.ref.injEq, V.str.injEq, List.cons.injEq, and_true, true_and, and_false, false_and, exists_eq_left, exists_eq_left', exists_and_left, exists_and_right, exists_eq, exists_eq', LL.if_dec, reduceCtorEq, exists_false, exists_const, or_false, false_or, if_true, if_false, LL.rInt1, LL.rMx, LL.rMn, and_assoc, Int.reduceNeg, Int.reduceLT, Int.reduceLE, Int.reduceMul, Int.reduceAdd, Int.reduceSub, Int.reducePow, Int.reduceToNat, Nat.reducePow, Nat.reduceLT, true_or, or_true, Bool.not_true, Bool.not_false, Bool.false_eq_true, Bool.or_false, Bool.or_true, Bool.true_or, Bool.false_or, decide_true, decide_false, not_true_eq_false, not_false_eq_true, LL.scal_int, LL.scal_bl, LL.scal_str, LL.isInt, LL.isBl, LL.isStr, LL.isLst, LL.isTup, LL.isDic]
      exact q1 rfl
    | false =>
      simp only [tSeq, tAsg, tRet, tRetN, tDrop, tNext, tVar, tC, gName, tOp, tUn, rI, rI0, rU, tIfS, tTest, tB, tIf, tAnd, tOr, tNot, tAndV, tOrV, tNotV, tCall, tCons, tNil, tCB, tLst, tTup, tChain, CMul, CDiv, CPow, rEq, rNe, gSub, L2.start, LL.cxK0, LL.cxK1, List.map_cons, List.map_nil, List.length_cons, List.length_nil, List.replicate_succ, List.replicate_zero, List.cons_append, List.nil_append, List.append_nil, List.getElem?_cons_zero, List.getElem?_cons_succ, List.set_cons_zero, List.set_cons_succ, Nat.add_sub_cancel, Nat.reduceAdd, Nat.reduceSub, Option.some.injEq, V.int.injEq, V.bl.injEq, V.ref.injEq, V.str.injEq, List.cons.injEq, and_true, true_and, and_false, false_and, exists_eq_left, exists_eq_left', exists_and_left, exists_and_right, exists_eq, exists_eq', LL.if_dec, reduceCtorEq, exists_false, exists_const, or_false, false_or, if_true, if_false, LL.rInt1, LL.rMx, LL.rMn, and_assoc, Int.reduceNeg, Int.reduceLT, Int.reduceLE, Int.reduceMul, Int.reduceAdd, Int.reduceSub, Int.reducePow, Int.reduceToNat, Nat.reducePow, Nat.reduceLT, true_or, or_true, Bool.not_true, Bool.not_false, Bool.false_eq_true, Bool.or_false, Bool.or_true, Bool.true_or, Bool.false_or, decide_true, decide_false, not_true_eq_false, not_false_eq_true, LL.scal_int, LL.scal_bl, LL.scal_str, LL.isInt, LL.isBl, LL.isStr, LL.isLst, LL.isTup, LL.isDic]
      exact bad rfl
theorem itei {p : Prop} [Decidable p] {A B : Prop} (h1 : p → A) (h2 : ¬p → B) : if p then A else B := by
  by_cases h : p
  · rw [if_pos h]; exact h1 h
  · rw [if_neg h]; exact h2 h
def powB : LL.T → Bool
  | .int i => isP i
  | _ => false
def alB (m : Int) : LL.T → Bool
  | .int i => isP i && decide (i ≤ m)
  | _ => false
def sp_is_power : Sp := fun vs H Q _ => ∃ (F : Addr → Prop) (v : V) (t : LL.T), vs = [v] ∧ Dt F H v t ∧ Q (.bl (powB t)) H
theorem use_power_q {F : Addr → Prop} {v : V} {t : LL.T} {H : Hp} {Q : VK} {E : XK} (h : Dt F H v t) (q : Q (.bl (powB t)) H) : sp_is_power [v] H Q E := ⟨F, v, t, rfl, h, q⟩
def sp_need_align (K : PySem.W.Frag) : Sp := fun vs H Q E => ∃ (F : Addr → Prop) (v : V) (t : LL.T) (m : Int) (n : V), vs = [v, .int m, n] ∧ Dt F H v t ∧ (alB m t = true → Q .non H) ∧ (alB m t = false → ∀ d H', BadH H H' d n → E (.ref (aBV K)) (some d) H')

theorem ok_is_power (T : Tx K mg) : FnOk P w K mg base CX0 2 (He.ga K "is_power") T.fd_is_power P_is_power sp_is_power := by
  refine T.F_is_power.ok sc_is_power (fun vs H Q E h => ?_) (fun cdv A outer s H vs Q E hr h => ⟨_, PSs.nox (pss_one (ps_ret ((pe_and (pe_call (ok_is_whole T) hr rfl T.g_is_whole T.F_is_whole.kp (b_is_whole T) .nil pass0 (pa_cons (pv 0) pa_nil)) (pe_and (pe_cmpR op_ge (pv 0) (pe_int) (nomark _)) (pe_one (pe_cmpR op_eq (pe_op op_and (pv 0) (pe_op op_sub (pv 0) (pe_int))) (pe_int) (nomark _)))))))), ?_⟩)
  · obtain ⟨_, _, _, rfl, _⟩ := h
    rfl
  · obtain ⟨F, v, t, rfl, hd, q⟩ := h
    simp only [tSeq, tAsg, tRet, tRetN, tDrop, tNext, tVar, tC, gName, tOp, tUn, rI, rI0, rU, tIfS, tTest, tB, tIf, tAnd, tOr, tNot, tAndV, tOrV, tNotV, tCall, tCons, tNil, tCB, tLst, tTup, tChain, CMul, CDiv, CPow, rEq, rNe, gSub, L2.start, LL.cxK0, LL.cxK1, List.map_cons, List.map_nil, List.length_cons, List.length_nil, List.replicate_succ, List.replicate_zero, List.cons_append, List.nil_append, List.append_nil, List.getElem?_cons_zero, List.getElem?_cons_succ, List.set_cons_zero, List.set_cons_succ, Nat.add_sub_cancel, Nat.reduceAdd, Nat.reduceSub, Option.some.injEq, V.int.injEq, V.bl.injEq, V.ref.injEq, V.str.injEq, List.cons.injEq, and_true, true_and, and_false, false_and, exists_eq_left, exists_eq_left', exists_and_left, exists_and_right, exists_eq, exists_eq', LL.if_dec, reduceCtorEq, exists_false, exists_const, or_false, false_or, if_true, if_false, LL.rInt1, LL.rMx, LL.rMn, and_assoc, Int.reduceNeg, Int.reduceLT, Int.reduceLE, Int.reduceMul, Int.reduceAdd, Int.reduceSub, Int.reducePow, Int.reduceToNat, Nat.reducePow, Nat.reduceLT, true_or, or_true, Bool.not_true, Bool.not_false, Bool.false_eq_true, Bool.or_false, Bool.or_true, Bool.true_or, Bool.false_or, decide_true, decide_false, not_true_eq_false, not_false_eq_true, LL.scal_int, LL.scal_bl, LL.scal_str, LL.isInt, LL.isBl, LL.isStr, LL.isLst, LL.isTup, LL.isDic, N_is_power]
    refine use_isint hd ?_
    cases t with
    | int i =>
      obtain rfl : v = V.int i := hd
      simp only [tSeq, tAsg, tRet, tRetN, tDrop, tNext, tVar, tC, gName, tOp, tUn, rI, rI0, rU, tIfS, tTest, tB, tIf, tAnd, tOr, tNot, tAndV, tOrV, tNotV, tCall, tCons, tNil, tCB, tLst, tTup, tChain, CMul, CDiv, CPow, rEq, rNe, gSub, L2.start, LL.cxK0, LL.cxK1, List.map_cons, List.map_nil, List.length_cons, List.length_nil, List.replicate_succ, List.replicate_zero, List.cons_append, List.nil_append, List.append_nil, List.getElem?_cons_zero, List.getElem?_cons_succ, List.set_cons_zero, List.set_cons_succ, Nat.add_sub_cancel, Nat.reduceAdd, Nat.reduceSub, Option.some.injEq, V.int.injEq, V.bl.injEq, V.ref.injEq, V.str.injEq, List.cons.injEq, and_true, true_and, and_false, false_and, exists_eq_left, exists_eq_left', exists_and_left, exists_and_right, exists_eq, exists_eq', LL.if_dec, reduceCtorEq, exists_false, exists_const, or_false, false_or, if_true, if_false, LL.rInt1, LL.rMx, LL.rMn, and_assoc, Int.reduceNeg, Int.reduceLT, Int.reduceLE, Int.reduceMul, Int.reduceAdd, Int.reduceSub, Int.reducePow, Int.reduceToNat, Nat.reducePow, Nat.reduceLT, true_or, or_true, Bool.not_true, Bool.not_false, Bool.false_eq_true, Bool.or_false, Bool.or_true, Bool.true_or, Bool.false_or, decide_true, decide_false, not_true_eq_false, not_false_eq_true, LL.scal_int, LL.scal_bl, LL.scal_str, LL.isInt, LL.isBl, LL.isStr, LL.isLst, LL.isTup, LL.isDic]
      refine itei (fun h => ?_) (fun h => ?_)
      · rw [show powB (.int i) = decide (Builtin.bitAnd i (i - 1) = 0) by show isP i = _; unfold isP; rw [decide_eq_true h, Bool.true_and]] at q
        first | exact q | exact ⟨scal_int.mpr trivial, q⟩
      · rw [show powB (.int i) = false by show isP i = _; unfold isP; rw [decide_eq_false h, Bool.false_and]] at q
        exact q
    | _ =>
      simp only [tSeq, tAsg, tRet, tRetN, tDrop, tNext, tVar, tC, gName, tOp, tUn, rI, rI0, rU, tIfS, tTest, tB, tIf, tAnd, tOr, tNot, tAndV, tOrV, tNotV, tCall, tCons, tNil, tCB, tLst, tTup, tChain, CMul, CDiv, CPow, rEq, rNe, gSub, L2.start, LL.cxK0, LL.cxK1, List.map_cons, List.map_nil, List.length_cons, List.length_nil, List.replicate_succ, List.replicate_zero, List.cons_append, List.nil_append, List.append_nil, List.getElem?_cons_zero, List.getElem?_cons_succ, List.set_cons_zero, List.set_cons_succ, Nat.add_sub_cancel, Nat.reduceAdd, Nat.reduceSub, Option.some.injEq, V.int.injEq, V.bl.injEq, V.ref.injEq, V.str.injEq, List.cons.injEq, and_true, true_and, and_false, false_and, exists_eq_left, exists_eq_left', exists_and_left, exists_and_right, exists_eq, exists_eq', LL.if_dec, reduceCtorEq, exists_false, exists_const, or_false, false_or, if_true, if_false, LL.rInt1, LL.rMx, LL.rMn, and_assoc, Int.reduceNeg, Int.reduceLT, Int.reduceLE, Int.reduceMul, Int.reduceAdd, Int.reduceSub, Int.reducePow, Int.reduceToNat, Nat.reducePow, Nat.reduceLT, true_or, or_true, Bool.not_true, Bool.not_false, Bool.false_eq_true, Bool.or_false, Bool.or_true, Bool.true_or, Bool.false_or, decide_true, decide_false, not_true_eq_false, not_false_eq_true, LL.scal_int, LL.scal_bl, LL.scal_str, LL.isInt, LL.isBl, LL.isStr, LL.isLst, LL.isTup, LL.isDic]
      exact q
theorem ok_need_align (T : Tx K mg) : FnOk P w K mg base (L2.CX P w) 4 (He.ga K "need_align") T.fd_need_align P_need_align (sp_need_align K) := by
  refine T.F_need_align.ok sc_need_align (fun vs H Q E h => ?_) (fun cdv A outer s H vs Q E hr h => ⟨_, (pss_one (ps_expr (pe_call (ok_need T) hr rfl T.g_need T.F_need.kp (b_need T) .nil (passR (takes_of rfl rfl rfl rfl) (fun _ _ _ _ h => h)) (pa_cons ((pe_and (pe_call (ok_is_power T) (hr.mono (by decide)) rfl T.g_is_power T.F_is_power.kp (b_is_power T) .nil pass0 (pa_cons (pv 0) pa_nil)) (pe_one (pe_cmpR op_le (pv 0) (pv 1) (nomark _))))) (pa_cons (pv 2) pa_nil))))), ?_⟩)
  · obtain ⟨_, _, _, _, _, rfl, _⟩ := h
    rfl
  · obtain ⟨F, v, t, m, n, rfl, hd, q1, q2⟩ := h
    simp only [tSeq, tAsg, tRet, tRetN, tDrop, tNext, tVar, tC, gName, tOp, tUn, rI, rI0, rU, tIfS, tTest, tB, tIf, tAnd, tOr, tNot, tAndV, tOrV, tNotV, tCall, tCons, tNil, tCB, tLst, tTup, tChain, CMul, CDiv, CPow, rEq, rNe, gSub, L2.start, LL.cxK0, LL.cxK1, List.map_cons, List.map_nil, List.length_cons, List.length_nil, List.replicate_succ, List.replicate_zero, List.cons_append, List.nil_append, List.append_nil, List.getElem?_cons_zero, List.getElem?_cons_succ, List.set_cons_zero, List.set_cons_succ, Nat.add_sub_cancel, Nat.reduceAdd, Nat.reduceSub, Option.some.injEq, V.int.injEq, V.bl.injEq, V.ref.injEq, V.str.injEq, List.cons.injEq, and_true, true_and, and_false, false_and, exists_eq_left, exists_eq_left', exists_and_left, exists_and_right, exists_eq, exists_eq', LL.if_dec, reduceCtorEq, exists_false, exists_const, or_false, false_or, if_true, if_false, LL.rInt1, LL.rMx, LL.rMn, and_assoc, Int.reduceNeg, Int.reduceLT, Int.reduceLE, Int.reduceMul, Int.reduceAdd, Int.reduceSub, Int.reducePow, Int.reduceToNat, Nat.reducePow, Nat.reduceLT, true_or, or_true, Bool.not_true, Bool.not_false, Bool.false_eq_true, Bool.or_false, Bool.or_true, Bool.true_or, Bool.false_or, decide_true, decide_false, not_true_eq_false, not_false_eq_true, LL.scal_int, LL.scal_bl, LL.scal_str, LL.isInt, LL.isBl, LL.isStr, LL.isLst, LL.isTup, LL.isDic, N_need_align]
    refine use_power_q hd ⟨_, rfl, itei (fun h => ?_) (fun h => ?_)⟩
    · cases t with
      | int i =>
        obtain rfl : v = V.int i := hd
        refine ⟨_, rfl, ?_⟩
        have e : alB m (.int i) = decide (i ≤ m) := by
          show (isP i && _) = _
          rw [show isP i = true from h, Bool.true_and]
        rw [e] at q1 q2
        exact use_need q1 q2
      | _ => cases h
    · have e : alB m t = false := by
        cases t with
        | int i =>
          show (isP i && _) = false
          rw [show isP i = false by cases hh : isP i; rfl; exact absurd hh h, Bool.false_and]
        | _ => rfl
      exact use_need (fun z => by cases z) (fun _ => q2 e)
def sp_align_down (K : PySem.W.Frag) : Sp := fun vs H Q E => ∃ (F G : Addr → Prop) (v x : V) (t u : LL.T), vs = [v, x] ∧ Dt F H v t ∧ Dt G H x u ∧
  (¬ InR 0 1000000000 t → ∀ d H', BadH H H' d (.str "number") → E (.ref (aBV K)) (some d) H') ∧ (InR 0 1000000000 t → alB 1073741824 u = false → ∀ d H', BadH H H' d (.str "align") → E (.ref (aBV K)) (some d) H') ∧
  (∀ i a, t = .int i → u = .int a → InR 0 1000000000 t → alB 1073741824 u = true → Q (.int (i - i % a)) H)
def sp_align_up (K : PySem.W.Frag) : Sp := fun vs H Q E => ∃ (F G : Addr → Prop) (v x : V) (t u : LL.T), vs = [v, x] ∧ Dt F H v t ∧ Dt G H x u ∧
  (¬ InR 0 1000000000 t → ∀ d H', BadH H H' d (.str "number") → E (.ref (aBV K)) (some d) H') ∧ (InR 0 1000000000 t → alB 1073741824 u = false → ∀ d H', BadH H H' d (.str "align") → E (.ref (aBV K)) (some d) H') ∧
  (∀ i a, t = .int i → u = .int a → InR 0 1000000000 t → alB 1073741824 u = true → Q (.int (i + (-i) % a)) H)
def sp_order_of (K : PySem.W.Frag) : Sp := fun vs H Q E => ∃ (F : Addr → Prop) (v : V) (t : LL.T), vs = [v] ∧ Dt F H v t ∧
  (¬ InR 1 1000000000 t → ∀ d H', BadH H H' d (.str "count") → E (.ref (aBV K)) (some d) H') ∧ (∀ c, t = .int c → InR 1 1000000000 t → Q (.int (Builtin.Int.intBits (c - 1) : Nat)) H)
def sp_power_in (K : PySem.W.Frag) : Sp := fun vs H Q E => ∃ (F : Addr → Prop) (v : V) (t : LL.T), vs = [v] ∧ Dt F H v t ∧
  (¬ InR 1 1000000000 t → ∀ d H', BadH H H' d (.str "number") → E (.ref (aBV K)) (some d) H') ∧ (∀ c, t = .int c → InR 1 1000000000 t → Q (.int (Builtin.bitAnd c (-c))) H)
theorem al_pos {u : LL.T} {m : Int} (h : alB m u = true) : ∃ k : Nat, u = .int (2 ^ k) ∧ (2 : Int) ^ k ≤ m ∧ (0 : Int) < 2 ^ k := by
  cases u with
  | int i =>
    obtain ⟨h1, h2⟩ := Bool.and_eq_true_iff.mp h
    obtain ⟨k, rfl⟩ := isP_of h1
    exact ⟨k, rfl, of_decide_eq_true h2, Int.pow_pos (by decide)⟩
  | _ => cases h
theorem inr_int {lo hi : Int} {t : LL.T} (h : InR lo hi t) : ∃ i, t = .int i ∧ lo ≤ i ∧ i ≤ hi := by
  cases t with
  | int i => exact ⟨i, rfl, h⟩
  | _ => exact h.elim

end K25

namespace K25
open PySem PySem.Spec PyProof.Rows L2 LL
variable {P : Program} {w : World} {K : PySem.W.Frag} {mg : Str → Option Value} {base : Heap}

def sp_law_among (K : PySem.W.Frag) : Sp := fun vs H Q _ => ∃ (d s p : Addr) (xs : List V), vs = [.ref d, .ref p] ∧ Drw d s H ∧ p ≠ s ∧ H p = some (.lst xs) ∧ 0 < xs.length ∧ xs.length ≤ 100000 ∧ ∀ x ∈ xs, ∀ H', Aft d s H H' → Drw d s H' → Q x H'
theorem use_among {K : PySem.W.Frag} {d s p : Addr} {xs : List V} {H : Hp} {Q : VK} {E : XK} (D : Drw d s H) (hp : p ≠ s) (ep : H p = some (.lst xs)) (h0 : 0 < xs.length) (h1 : xs.length ≤ 100000) (q : ∀ x ∈ xs, ∀ H', Aft d s H H' → Drw d s H' → Q x H') : sp_law_among K [.ref d, .ref p] H Q E := ⟨d, s, p, xs, rfl, D, hp, ep, h0, h1, q⟩

theorem ok_law_among (T : Tx K mg) : FnOk P w K mg base CX0 3 (He.ga K "_law_among") T.fd_law_among P_law_among (sp_law_among K) := by
  refine T.F_law_among.ok sc_law_among (fun vs H Q E h => ?_) (fun cdv A outer s H vs Q E hr h => ⟨_, PSs.nox (pss_one (ps_ret (pe_ix (show IxR _ (rIxL K) from ix_list) (pv 1) (pe_call (ok_law_take T) hr rfl T.g_law_take T.F_law_take.kp (b_law_take T) .nil pass0 (pa_cons (pv 0) (pa_cons (pe_callB LL.call_lenL (by rfl) T.z_len (by decide +kernel) (pa_cons (pv 1) pa_nil)) pa_nil))) (fun _ _ => rfl)))), ?_⟩)
  · obtain ⟨_, _, _, _, rfl, _⟩ := h
    rfl
  · obtain ⟨d, s, p, xs, rfl, D, ps, ep, h0, h1, q⟩ := h
    simp only [tSeq, tAsg, tRet, tRetN, tDrop, tNext, tVar, tC, gName, tOp, tUn, rI, rI0, rU, tIfS, tTest, tB, tIf, tAnd, tOr, tNot, tAndV, tOrV, tNotV, tCall, tCons, tNil, tCB, tLst, tTup, tChain, CMul, CDiv, CPow, rEq, rNe, gSub, L2.start, LL.cxK0, LL.cxK1, List.map_cons, List.map_nil, List.length_cons, List.length_nil, List.replicate_succ, List.replicate_zero, List.cons_append, List.nil_append, List.append_nil, List.getElem?_cons_zero, List.getElem?_cons_succ, List.set_cons_zero, List.set_cons_succ, Nat.add_sub_cancel, Nat.reduceAdd, Nat.reduceSub, Option.some.injEq, V.int.injEq, V.bl.injEq, V.ref.injEq, V.str.injEq, List.cons.injEq, and_true, true_and, and_false, false_and, exists_eq_left, exists_eq_left', exists_and_left, exists_and_right, exists_eq, exists_eq', LL.if_dec, reduceCtorEq, exists_false, exists_const, or_false, false_or, if_true, if_false, LL.rInt1, LL.rMx, LL.rMn, and_assoc, Int.reduceNeg, Int.reduceLT, Int.reduceLE, Int.reduceMul, Int.reduceAdd, Int.reduceSub, Int.reducePow, Int.reduceToNat, Nat.reducePow, Nat.reduceLT, true_or, or_true, Bool.not_true, Bool.not_false, Bool.false_eq_true, Bool.or_false, Bool.or_true, Bool.true_or, Bool.false_or, decide_true, decide_false, not_true_eq_false, not_false_eq_true, LL.scal_int, LL.scal_bl, LL.scal_str, LL.isInt, LL.isBl, LL.isStr, LL.isLst, LL.isTup, LL.isDic, N_law_among]
    refine use_lenL ep (use_take D (big_of (by omega) (by omega)) fun v H' a D0 v0 v1 => ?_)
    exact use_pick (a.kp _ _ ps ep) v0 (by omega) fun x hx => q x hx _ a D0
theorem al_big {i m : Int} (h : m < i) : alB m (.int i) = false := by
  show (isP i && decide (i ≤ m)) = false
  rw [decide_eq_false (by omega), Bool.and_false]
theorem al_low {i m : Int} (h : i < 1) : alB m (.int i) = false := by
  show (isP i && decide (i ≤ m)) = false
  unfold isP
  rw [decide_eq_false (show ¬ 1 ≤ i by omega), Bool.false_and, Bool.false_and]
theorem al_no {i m : Int} (h : isP i = false) : alB m (.int i) = false := by
  show (isP i && decide (i ≤ m)) = false
  rw [h, Bool.false_and]
theorem big_long' : (2 : Int) ^ 40 < 10 ^ 999 := by
  have e : (10 : Int) ^ 999 = ((10 ^ 999 : Nat) : Int) := (Int.natCast_pow 10 999).symm
  rw [e]
  exact Int.ofNat_lt.mpr (by decide +kernel)
def sp_law_not_alignment : Sp := fun vs H Q _ => ∃ (d s : Addr) (M : Int), vs = [.ref d, .int M] ∧ Drw d s H ∧ 1 ≤ M ∧ M ≤ 2 ^ 40 ∧ ∀ v t H', Aft d s H H' → Drw d s H' → Dt (fun a => H a = none) H' v t → dep t ≤ 1 → noDic t = true ∨ LL.isInt t = false → alB M t = false → Q v H'
theorem use_not_alignment {d s : Addr} {M : Int} {H : Hp} {Q : VK} {E : XK} (D : Drw d s H) (h0 : 1 ≤ M) (h1 : M ≤ 2 ^ 40) (q : ∀ v t H', Aft d s H H' → Drw d s H' → Dt (fun a => H a = none) H' v t → dep t ≤ 1 → alB M t = false → Q v H') : sp_law_not_alignment [.ref d, .int M] H Q E := ⟨d, s, M, rfl, D, h0, h1, fun v t H' a D' hv hd _ hal => q v t H' a D' hv hd hal⟩

theorem ok_law_not_alignment (T : Tx K mg) : FnOk P w K mg base CX0 4 (He.ga K "_law_not_alignment") T.fd_law_not_alignment P_law_not_alignment sp_law_not_alignment := by
  refine T.F_law_not_alignment.ok sc_law_not_alignment (fun vs H Q E h => ?_) (fun cdv A outer s H vs Q E hr h => ⟨_, PSs.nox (pss_cons (ps_set (i := 2) sc_law_not_alignment.nd rfl (Or.inl rfl) (pe_call (ok_law_take T) (hr.mono (by decide)) rfl T.g_law_take T.F_law_take.kp (b_law_take T) .nil pass0 (pa_cons (pv 0) (pa_cons (pe_int) pa_nil)))) (pss_cons (ps_if (pt_cmpR op_lt (pv 2) (pe_int) (nomark _)) (pss_one (ps_ret (pe_ix (show IxR _ (rIxL K) from ix_list) (pe_lst (pa_cons (pe_int) (pa_cons (pe_un un_neg (pe_int)) (pa_cons (pe_un un_neg (pe_int)) (pa_cons (pe_int) (pa_cons (pe_op op_add (pv 1) (pv 1)) (pa_cons (pe_op op_add (pe_op op_add (pv 1) (pv 1)) (pe_int)) pa_nil))))))) (pv 2) (fun _ _ => rfl)))) pss_nil) (pss_cons (ps_if (pt_cmpR op_eq (pv 2) (pe_int) (nomark _)) (pss_one (ps_ret (pe_call (ok_law_among T) hr rfl T.g_law_among T.F_law_among.kp (b_law_among T) .nil pass0 (pa_cons (pv 0) (pa_cons (pe_lst (pa_cons (pe_int) (pa_cons (pe_int) (pa_cons (pe_op op_pow (pe_int) (pe_int)) (pa_cons (pe_call0 (ok_law_long T) (hr.mono (by decide)) rfl T.g_law_long T.F_law_long.kp (b_law_long T) .nil pass0) (pa_cons (pe_un un_neg (pv 1)) (pa_cons (pe_op op_mul (pv 1) (pe_int)) pa_nil))))))) pa_nil))))) pss_nil) (pss_one (ps_ret (pe_call (ok_law_not_integer T) hr rfl T.g_law_not_integer T.F_law_not_integer.kp (b_law_not_integer T) .nil pass0 (pa_cons (pv 0) pa_nil))))))), ?_⟩)
  · obtain ⟨_, _, _, rfl, _⟩ := h
    rfl
  · obtain ⟨d, s, M, rfl, D, M0, M1, q⟩ := h
    simp only [tSeq, tAsg, tRet, tRetN, tDrop, tNext, tVar, tC, gName, tOp, tUn, rI, rI0, rU, tIfS, tTest, tB, tIf, tAnd, tOr, tNot, tAndV, tOrV, tNotV, tCall, tCons, tNil, tCB, tLst, tTup, tChain, CMul, CDiv, CPow, rEq, rNe, gSub, L2.start, LL.cxK0, LL.cxK1, List.map_cons, List.map_nil, List.length_cons, List.length_nil, List.replicate_succ, List.replicate_zero, List.cons_append, List.nil_append, List.append_nil, List.getElem?_cons_zero, List.getElem?_cons_succ, List.set_cons_zero, List.set_cons_succ, Nat.add_sub_cancel, Nat.reduceAdd, Nat.reduceSub, Option.some.injEq, V.int.injEq, V.bl.injEq, V.ref.injEq, V.str.injEq, List.cons.injEq, and_true, true_and, and_false, false_and, exists_eq_left, exists_eq_left', exists_and_left, exists_and_right, exists_eq, exists_eq', LL.if_dec, reduceCtorEq, exists_false, exists_const, or_false, false_or, if_true, if_false, LL.rInt1, LL.rMx, LL.rMn, and_assoc, Int.reduceNeg, Int.reduceLT, Int.reduceLE, Int.reduceMul, Int.reduceAdd, Int.reduceSub, Int.reducePow, Int.reduceToNat, Nat.reducePow, Nat.reduceLT, true_or, or_true, Bool.not_true, Bool.not_false, Bool.false_eq_true, Bool.or_false, Bool.or_true, Bool.true_or, Bool.false_or, decide_true, decide_false, not_true_eq_false, not_false_eq_true, LL.scal_int, LL.scal_bl, LL.scal_str, LL.isInt, LL.isBl, LL.isStr, LL.isLst, LL.isTup, LL.isDic, N_law_not_alignment]
    have M2 : M ≤ 1099511627776 := M1
    refine use_take D (by decide +kernel) fun v H1 a1 D1 v0 v1 => ?_
    simp only [tSeq, tAsg, tRet, tRetN, tDrop, tNext, tVar, tC, gName, tOp, tUn, rI, rI0, rU, tIfS, tTest, tB, tIf, tAnd, tOr, tNot, tAndV, tOrV, tNotV, tCall, tCons, tNil, tCB, tLst, tTup, tChain, CMul, CDiv, CPow, rEq, rNe, gSub, L2.start, LL.cxK0, LL.cxK1, List.map_cons, List.map_nil, List.length_cons, List.length_nil, List.replicate_succ, List.replicate_zero, List.cons_append, List.nil_append, List.append_nil, List.getElem?_cons_zero, List.getElem?_cons_succ, List.set_cons_zero, List.set_cons_succ, Nat.add_sub_cancel, Nat.reduceAdd, Nat.reduceSub, Option.some.injEq, V.int.injEq, V.bl.injEq, V.ref.injEq, V.str.injEq, List.cons.injEq, and_true, true_and, and_false, false_and, exists_eq_left, exists_eq_left', exists_and_left, exists_and_right, exists_eq, exists_eq', LL.if_dec, reduceCtorEq, exists_false, exists_const, or_false, false_or, if_true, if_false, LL.rInt1, LL.rMx, LL.rMn, and_assoc, Int.reduceNeg, Int.reduceLT, Int.reduceLE, Int.reduceMul, Int.reduceAdd, Int.reduceSub, Int.reducePow, Int.reduceToNat, Nat.reducePow, Nat.reduceLT, true_or, or_true, Bool.not_true, Bool.not_false, Bool.false_eq_true, Bool.or_false, Bool.or_true, Bool.true_or, Bool.false_or, decide_true, decide_false, not_true_eq_false, not_false_eq_true, LL.scal_int, LL.scal_bl, LL.scal_str, LL.isInt, LL.isBl, LL.isStr, LL.isLst, LL.isTup, LL.isDic]
    refine itei (fun h => ?_) (fun h => itei (fun h2 => ?_) (fun h2 => ?_))
    · refine ⟨by decide, ?_⟩
      intro p np
      generalize hq : upd H1 p _ = H2
      have sH2 : Same H1 H2 := hq ▸ Same.new (Same.refl _) np
      have ep := hq ▸ (upd_same (H := H1) (a := p))
      clear hq
      have A2 : Aft d s H H2 := a1.trans ⟨.same sH2, D1.same sH2⟩
      refine use_pick ep v0 (by simp only [List.length_cons, List.length_nil]; omega) fun x hx => ?_
      simp only [List.mem_cons, List.not_mem_nil, or_false] at hx
      rcases hx with rfl | rfl | rfl | rfl | rfl | rfl
      all_goals refine q _ (.int _) _ A2 A2.dr rfl (by simp [dep]) (.inl rfl) ?_
      · exact al_low (by decide)
      · exact al_low (by decide)
      · exact al_low (by decide)
      · exact al_no (by decide +kernel)
      · exact al_big (by omega)
      · exact al_big (by omega)
    · refine ⟨by decide, rfl, by decide, ?_⟩
      intro p np
      generalize hq : upd H1 p _ = H2
      have sH2 : Same H1 H2 := hq ▸ Same.new (Same.refl _) np
      have ep := hq ▸ (upd_same (H := H1) (a := p))
      clear hq
      have A2 : Aft d s H H2 := a1.trans ⟨.same sH2, D1.same sH2⟩
      refine ⟨d, s, p, _, rfl, A2.dr, D1.ne _ np, ep, by simp, by simp, fun x hx H3 A3 D3 => ?_⟩
      simp only [List.mem_cons, List.not_mem_nil, or_false] at hx
      rcases hx with rfl | rfl | rfl | rfl | rfl | rfl
      all_goals refine q _ (.int _) _ (A2.trans A3) D3 rfl (by simp [dep]) (.inl rfl) ?_
      · exact al_no (by decide +kernel)
      · exact al_no (by decide +kernel)
      · exact al_big (by omega)
      · exact al_big (Int.lt_of_le_of_lt M1 big_long')
      · exact al_low (by omega)
      · exact al_big (by omega)
    · exact ⟨d, s, rfl, D1, fun v t H2 a2 D2 hv hd hi => q v t H2 (a1.trans a2) D2 (hv.to fun z hz => a1.free hz) hd (.inr hi) (by cases t <;> first | rfl | cases hi)⟩
end K25

namespace K25
open PySem PySem.Spec PyProof.Rows L2 LL
variable {P : Program} {w : World} {K : PySem.W.Frag} {mg : Str → Option Value} {base : Heap}

/-- a list, or a tuple, of integers; of how many -/
def intsB (l : Bool) (m : Int) : LL.T → Bool
  | .lst us => l && ((decide (m < 0) || decide ((us.length : Int) = m)) && us.all LL.isInt)
  | .tup us => !l && ((decide (m < 0) || decide ((us.length : Int) = m)) && us.all LL.isInt)
  | _ => false
def sp_ints (l : Bool) : Sp := fun vs H Q _ => ∃ (F : Addr → Prop) (v : V) (t : LL.T) (m : Int), vs = [v, .bl l, .int m] ∧ Dt F H v t ∧ Q (.bl (intsB l m t)) H
theorem use_intsB {l : Bool} {F : Addr → Prop} {v : V} {t : LL.T} {m : Int} {H : Hp} {Q : VK} {E : XK} (h : Dt F H v t) (q : Q (.bl (intsB l m t)) H) : sp_ints l [v, .bl l, .int m] H Q E := ⟨F, v, t, m, rfl, h, q⟩

theorem ok_law_is_intsT (T : Tx K mg) : FnOk P w K mg base CX0 2 (He.ga K "_law_is_ints") T.fd_law_is_ints P_law_is_ints (sp_ints false) := by
  refine T.F_law_is_ints.ok sc_law_is_ints (fun vs H Q E h => ?_) (fun cdv A outer s H vs Q E hr h => ⟨_, PSs.nox (pss_cons (ps_if (PW.pt (pw_or (PW.pt (pw_and (pt_val (pv 1)) (pw_and1 (pt_not (pt_val (pe_callB call_isi (by rfl) T.z_isinstance (by decide +kernel) (pa_cons (pv 0) (pa_cons (pe_bltn (v := .ty "list") (u := .type "list") (by rfl) T.z_list (by decide +kernel) rfl) pa_nil)))))))) (pw_or1 (PW.pt (pw_and (pt_not (pt_val (pv 1))) (pw_and1 (pt_not (pt_val (pe_callB call_isi (by rfl) T.z_isinstance (by decide +kernel) (pa_cons (pv 0) (pa_cons (pe_bltn (v := .ty "tuple") (u := .type "tuple") (by rfl) T.z_tuple (by decide +kernel) rfl) pa_nil))))))))))) (pss_one (ps_ret (pe_bl))) pss_nil) (pss_cons (ps_if (PW.pt (pw_and (pt_cmpR op_ge (pv 2) (pe_int) (nomark _)) (pw_and1 (pt_cmpR op_ne (pe_callB LL.call_lenT (by rfl) T.z_len (by decide +kernel) (pa_cons (pv 0) pa_nil)) (pv 2) (nomark _))))) (pss_one (ps_ret (pe_bl))) pss_nil) (pss_cons (ps_for PassesOwn.never rfl (pi_tup (pv 0)) (pg_name (i := 3) sc_law_is_ints.nd rfl (Or.inl rfl)) (pss_one (ps_if (pt_not (pt_val (pe_call (ok_law_is_int T) hr rfl T.g_law_is_int T.F_law_is_int.kp (b_law_is_int T) .nil pass0 (pa_cons (pv 3) pa_nil)))) (pss_one (ps_ret (pe_bl))) pss_nil))) (pss_one (ps_ret (pe_bl)))))), ?_⟩)
  · obtain ⟨_, _, _, _, rfl, _⟩ := h
    rfl
  · obtain ⟨F, v, t, m, rfl, hd, q⟩ := h
    simp only [tSeq, tAsg, tRet, tRetN, tDrop, tNext, tVar, tC, gName, tOp, tUn, rI, rI0, rU, tIfS, tTest, tB, tIf, tAnd, tOr, tNot, tAndV, tOrV, tNotV, tCall, tCons, tNil, tCB, tLst, tTup, tChain, CMul, CDiv, CPow, rEq, rNe, gSub, L2.start, LL.cxK0, LL.cxK1, List.map_cons, List.map_nil, List.length_cons, List.length_nil, List.replicate_succ, List.replicate_zero, List.cons_append, List.nil_append, List.append_nil, List.getElem?_cons_zero, List.getElem?_cons_succ, List.set_cons_zero, List.set_cons_succ, Nat.add_sub_cancel, Nat.reduceAdd, Nat.reduceSub, Option.some.injEq, V.int.injEq, V.bl.injEq, V.ref.injEq, V.str.injEq, List.cons.injEq, and_true, true_and, and_false, false_and, exists_eq_left, exists_eq_left', exists_and_left, exists_and_right, exists_eq, exists_eq', LL.if_dec, reduceCtorEq, exists_false, exists_const, or_false, false_or, if_true, if_false, LL.rInt1, LL.rMx, LL.rMn, and_assoc, Int.reduceNeg, Int.reduceLT, Int.reduceLE, Int.reduceMul, Int.reduceAdd, Int.reduceSub, Int.reducePow, Int.reduceToNat, Nat.reducePow, Nat.reduceLT, true_or, or_true, Bool.not_true, Bool.not_false, Bool.false_eq_true, Bool.or_false, Bool.or_true, Bool.true_or, Bool.false_or, decide_true, decide_false, not_true_eq_false, not_false_eq_true, LL.scal_int, LL.scal_bl, LL.scal_str, LL.isInt, LL.isBl, LL.isStr, LL.isLst, LL.isTup, LL.isDic, N_law_is_ints]
    cases t with
    | tup us =>
      obtain ⟨p, xs, rfl, fp, ep, hx, hz⟩ := _root_.id hd
      repeat (first | refine use_isi hd (kit_int _) ?_ | refine use_isi hd (kit_bool _) ?_ | refine use_isi hd (kit_str _) ?_ | refine use_isi hd (kit_list _) ?_ | refine use_isi hd (kit_tuple _) ?_ | refine use_isi hd (kit_dict _) ?_ | refine And.intro (show scal _ _ = true from rfl) ?_ | simp only [tSeq, tAsg, tRet, tRetN, tDrop, tNext, tVar, tC, gName, tOp, tUn, rI, rI0, rU, tIfS, tTest, tB, tIf, tAnd, tOr, tNot, tAndV, tOrV, tNotV, tCall, tCons, tNil, tCB, tLst, tTup, tChain, CMul, CDiv, CPow, rEq, rNe, gSub, L2.start, LL.cxK0, LL.cxK1, List.map_cons, List.map_nil, List.length_cons, List.length_nil, List.replicate_succ, List.replicate_zero, List.cons_append, List.nil_append, List.append_nil, List.getElem?_cons_zero, List.getElem?_cons_succ, List.set_cons_zero, List.set_cons_succ, Nat.add_sub_cancel, Nat.reduceAdd, Nat.reduceSub, Option.some.injEq, V.int.injEq, V.bl.injEq, V.ref.injEq, V.str.injEq, List.cons.injEq, and_true, true_and, and_false, false_and, exists_eq_left, exists_eq_left', exists_and_left, exists_and_right, exists_eq, exists_eq', LL.if_dec, reduceCtorEq, exists_false, exists_const, or_false, false_or, if_true, if_false, LL.rInt1, LL.rMx, LL.rMn, and_assoc, Int.reduceNeg, Int.reduceLT, Int.reduceLE, Int.reduceMul, Int.reduceAdd, Int.reduceSub, Int.reducePow, Int.reduceToNat, Nat.reducePow, Nat.reduceLT, true_or, or_true, Bool.not_true, Bool.not_false, Bool.false_eq_true, Bool.or_false, Bool.or_true, Bool.true_or, Bool.false_or, decide_true, decide_false, not_true_eq_false, not_false_eq_true, LL.scal_int, LL.scal_bl, LL.scal_str, LL.isInt, LL.isBl, LL.isStr, LL.isLst, LL.isTup, LL.isDic])
      have hall : (us.all LL.isInt = true → Q (.bl true) H) → (us.all LL.isInt = false → Q (.bl false) H) → tFor (iTup K (tVar 0)) (gName 3) (tIfS (tNot (tB (tCall sp_isint [] E0 (tCons (tVar 3) tNil)))) (tRet (tC (V.bl false))) tNext) { nx := tRet (tC (V.bl true)) { nx := fun x H' => Q V.non H', rt := Q }, rt := Q } [some (.ref p), some (.bl false), some (.int m), none] H := by
        intro q1 q2
        refine use_forT (a := p) (xs := xs) (fun Q q => ⟨_, rfl, q⟩) (fun i σ' H' => H' = H ∧ (∀ t ∈ us.take i, LL.isInt t = true) ∧ ∃ z : Option V, σ' = [some (.ref p), some (.bl false), some (.int m), z]) ⟨rfl, by simp, _, rfl⟩ (fun i σ' H' _ ⟨e, _⟩ => e ▸ SqT.of ep) ?_ ?_
        · rintro i z σ' H' hz ⟨rfl, hall, zz, rfl⟩
          obtain ⟨t, et, dt⟩ := hx.get _ hz
          simp only [tSeq, tAsg, tRet, tRetN, tDrop, tNext, tVar, tC, gName, tOp, tUn, rI, rI0, rU, tIfS, tTest, tB, tIf, tAnd, tOr, tNot, tAndV, tOrV, tNotV, tCall, tCons, tNil, tCB, tLst, tTup, tChain, CMul, CDiv, CPow, rEq, rNe, gSub, L2.start, LL.cxK0, LL.cxK1, List.map_cons, List.map_nil, List.length_cons, List.length_nil, List.replicate_succ, List.replicate_zero, List.cons_append, List.nil_append, List.append_nil, List.getElem?_cons_zero, List.getElem?_cons_succ, List.set_cons_zero, List.set_cons_succ, Nat.add_sub_cancel, Nat.reduceAdd, Nat.reduceSub, Option.some.injEq, V.int.injEq, V.bl.injEq, V.ref.injEq, V.str.injEq, List.cons.injEq, and_true, true_and, and_false, false_and, exists_eq_left, exists_eq_left', exists_and_left, exists_and_right, exists_eq, exists_eq', LL.if_dec, reduceCtorEq, exists_false, exists_const, or_false, false_or, if_true, if_false, LL.rInt1, LL.rMx, LL.rMn, and_assoc, Int.reduceNeg, Int.reduceLT, Int.reduceLE, Int.reduceMul, Int.reduceAdd, Int.reduceSub, Int.reducePow, Int.reduceToNat, Nat.reducePow, Nat.reduceLT, true_or, or_true, Bool.not_true, Bool.not_false, Bool.false_eq_true, Bool.or_false, Bool.or_true, Bool.true_or, Bool.false_or, decide_true, decide_false, not_true_eq_false, not_false_eq_true, LL.scal_int, LL.scal_bl, LL.scal_str, LL.isInt, LL.isBl, LL.isStr, LL.isLst, LL.isTup, LL.isDic]
          refine use_isint dt ⟨_, rfl, ?_⟩
          cases hi : LL.isInt t with
          | true =>
            simp only [tSeq, tAsg, tRet, tRetN, tDrop, tNext, tVar, tC, gName, tOp, tUn, rI, rI0, rU, tIfS, tTest, tB, tIf, tAnd, tOr, tNot, tAndV, tOrV, tNotV, tCall, tCons, tNil, tCB, tLst, tTup, tChain, CMul, CDiv, CPow, rEq, rNe, gSub, L2.start, LL.cxK0, LL.cxK1, List.map_cons, List.map_nil, List.length_cons, List.length_nil, List.replicate_succ, List.replicate_zero, List.cons_append, List.nil_append, List.append_nil, List.getElem?_cons_zero, List.getElem?_cons_succ, List.set_cons_zero, List.set_cons_succ, Nat.add_sub_cancel, Nat.reduceAdd, Nat.reduceSub, Option.some.injEq, V.int.injEq, V.bl.injEq, V.ref.injEq, V.str.injEq, List.cons.injEq, and_true, true_and, and_false, false_and, exists_eq_left, exists_eq_left', exists_and_left, exists_and_right, exists_eq, exists_eq', LL.if_dec, reduceCtorEq, exists_false, exists_const, or_false, false_or, if_true, if_false, LL.rInt1, LL.rMx, LL.rMn, and_assoc, Int.reduceNeg, Int.reduceLT, Int.reduceLE, Int.reduceMul, Int.reduceAdd, Int.reduceSub, Int.reducePow, Int.reduceToNat, Nat.reducePow, Nat.reduceLT, true_or, or_true, Bool.not_true, Bool.not_false, Bool.false_eq_true, Bool.or_false, Bool.or_true, Bool.true_or, Bool.false_or, decide_true, decide_false, not_true_eq_false, not_false_eq_true, LL.scal_int, LL.scal_bl, LL.scal_str, LL.isInt, LL.isBl, LL.isStr, LL.isLst, LL.isTup, LL.isDic]
            rw [take_one et]
            intro u hu
            rcases List.mem_append.mp hu with h | h
            · exact hall u h
            · rw [List.mem_singleton.mp h]; exact hi
          | false =>
            simp only [tSeq, tAsg, tRet, tRetN, tDrop, tNext, tVar, tC, gName, tOp, tUn, rI, rI0, rU, tIfS, tTest, tB, tIf, tAnd, tOr, tNot, tAndV, tOrV, tNotV, tCall, tCons, tNil, tCB, tLst, tTup, tChain, CMul, CDiv, CPow, rEq, rNe, gSub, L2.start, LL.cxK0, LL.cxK1, List.map_cons, List.map_nil, List.length_cons, List.length_nil, List.replicate_succ, List.replicate_zero, List.cons_append, List.nil_append, List.append_nil, List.getElem?_cons_zero, List.getElem?_cons_succ, List.set_cons_zero, List.set_cons_succ, Nat.add_sub_cancel, Nat.reduceAdd, Nat.reduceSub, Option.some.injEq, V.int.injEq, V.bl.injEq, V.ref.injEq, V.str.injEq, List.cons.injEq, and_true, true_and, and_false, false_and, exists_eq_left, exists_eq_left', exists_and_left, exists_and_right, exists_eq, exists_eq', LL.if_dec, reduceCtorEq, exists_false, exists_const, or_false, false_or, if_true, if_false, LL.rInt1, LL.rMx, LL.rMn, and_assoc, Int.reduceNeg, Int.reduceLT, Int.reduceLE, Int.reduceMul, Int.reduceAdd, Int.reduceSub, Int.reducePow, Int.reduceToNat, Nat.reducePow, Nat.reduceLT, true_or, or_true, Bool.not_true, Bool.not_false, Bool.false_eq_true, Bool.or_false, Bool.or_true, Bool.true_or, Bool.false_or, decide_true, decide_false, not_true_eq_false, not_false_eq_true, LL.scal_int, LL.scal_bl, LL.scal_str, LL.isInt, LL.isBl, LL.isStr, LL.isLst, LL.isTup, LL.isDic]
            refine q2 ?_
            cases h : us.all LL.isInt with
            | false => rfl
            | true =>
              have := List.all_eq_true.mp h t (List.mem_of_getElem? et)
              rw [hi] at this
              cases this
        · rintro σ' H' ⟨rfl, hall, zz, rfl⟩
          simp only [tSeq, tAsg, tRet, tRetN, tDrop, tNext, tVar, tC, gName, tOp, tUn, rI, rI0, rU, tIfS, tTest, tB, tIf, tAnd, tOr, tNot, tAndV, tOrV, tNotV, tCall, tCons, tNil, tCB, tLst, tTup, tChain, CMul, CDiv, CPow, rEq, rNe, gSub, L2.start, LL.cxK0, LL.cxK1, List.map_cons, List.map_nil, List.length_cons, List.length_nil, List.replicate_succ, List.replicate_zero, List.cons_append, List.nil_append, List.append_nil, List.getElem?_cons_zero, List.getElem?_cons_succ, List.set_cons_zero, List.set_cons_succ, Nat.add_sub_cancel, Nat.reduceAdd, Nat.reduceSub, Option.some.injEq, V.int.injEq, V.bl.injEq, V.ref.injEq, V.str.injEq, List.cons.injEq, and_true, true_and, and_false, false_and, exists_eq_left, exists_eq_left', exists_and_left, exists_and_right, exists_eq, exists_eq', LL.if_dec, reduceCtorEq, exists_false, exists_const, or_false, false_or, if_true, if_false, LL.rInt1, LL.rMx, LL.rMn, and_assoc, Int.reduceNeg, Int.reduceLT, Int.reduceLE, Int.reduceMul, Int.reduceAdd, Int.reduceSub, Int.reducePow, Int.reduceToNat, Nat.reducePow, Nat.reduceLT, true_or, or_true, Bool.not_true, Bool.not_false, Bool.false_eq_true, Bool.or_false, Bool.or_true, Bool.true_or, Bool.false_or, decide_true, decide_false, not_true_eq_false, not_false_eq_true, LL.scal_int, LL.scal_bl, LL.scal_str, LL.isInt, LL.isBl, LL.isStr, LL.isLst, LL.isTup, LL.isDic]
          rw [hx.len, List.take_length] at hall
          exact q1 (List.all_eq_true.mpr hall)
      have lx : (xs.length : Int) = us.length := by rw [hx.len]
      have eq : intsB false m (.tup us) = ((decide (m < 0) || decide ((us.length : Int) = m)) && us.all LL.isInt) := by simp [intsB]
      rw [eq] at q
      refine itei (fun h => ?_) (fun h => hall (fun e => ?_) (fun e => ?_))
      · refine use_lenT ep ⟨scal_int.mpr trivial, ?_⟩
        by_cases hl : (us.length : Int) = m
        · rw [if_neg (by simp [lx, hl])]
          refine hall (fun e => ?_) (fun e => ?_)
          · rw [e, decide_eq_true hl, Bool.or_true] at q; exact q
          · rw [e, Bool.and_false] at q; exact q
        · rw [if_pos (by simp [lx, hl])]
          rw [decide_eq_false hl, decide_eq_false (show ¬ m < 0 by omega)] at q; exact q
      · rw [e, decide_eq_true (show m < 0 by omega)] at q; exact q
      · rw [e, Bool.and_false] at q; exact q
    | _ =>
      repeat (first | refine use_isi hd (kit_int _) ?_ | refine use_isi hd (kit_bool _) ?_ | refine use_isi hd (kit_str _) ?_ | refine use_isi hd (kit_list _) ?_ | refine use_isi hd (kit_tuple _) ?_ | refine use_isi hd (kit_dict _) ?_ | refine And.intro (show scal _ _ = true from rfl) ?_ | simp only [tSeq, tAsg, tRet, tRetN, tDrop, tNext, tVar, tC, gName, tOp, tUn, rI, rI0, rU, tIfS, tTest, tB, tIf, tAnd, tOr, tNot, tAndV, tOrV, tNotV, tCall, tCons, tNil, tCB, tLst, tTup, tChain, CMul, CDiv, CPow, rEq, rNe, gSub, L2.start, LL.cxK0, LL.cxK1, List.map_cons, List.map_nil, List.length_cons, List.length_nil, List.replicate_succ, List.replicate_zero, List.cons_append, List.nil_append, List.append_nil, List.getElem?_cons_zero, List.getElem?_cons_succ, List.set_cons_zero, List.set_cons_succ, Nat.add_sub_cancel, Nat.reduceAdd, Nat.reduceSub, Option.some.injEq, V.int.injEq, V.bl.injEq, V.ref.injEq, V.str.injEq, List.cons.injEq, and_true, true_and, and_false, false_and, exists_eq_left, exists_eq_left', exists_and_left, exists_and_right, exists_eq, exists_eq', LL.if_dec, reduceCtorEq, exists_false, exists_const, or_false, false_or, if_true, if_false, LL.rInt1, LL.rMx, LL.rMn, and_assoc, Int.reduceNeg, Int.reduceLT, Int.reduceLE, Int.reduceMul, Int.reduceAdd, Int.reduceSub, Int.reducePow, Int.reduceToNat, Nat.reducePow, Nat.reduceLT, true_or, or_true, Bool.not_true, Bool.not_false, Bool.false_eq_true, Bool.or_false, Bool.or_true, Bool.true_or, Bool.false_or, decide_true, decide_false, not_true_eq_false, not_false_eq_true, LL.scal_int, LL.scal_bl, LL.scal_str, LL.isInt, LL.isBl, LL.isStr, LL.isLst, LL.isTup, LL.isDic])
      exact q
theorem ok_law_is_intsL (T : Tx K mg) : FnOk P w K mg base CX0 2 (He.ga K "_law_is_ints") T.fd_law_is_ints P_law_is_ints (sp_ints true) := by
  refine T.F_law_is_ints.ok sc_law_is_ints (fun vs H Q E h => ?_) (fun cdv A outer s H vs Q E hr h => ⟨_, PSs.nox (pss_cons (ps_if (PW.pt (pw_or (PW.pt (pw_and (pt_val (pv 1)) (pw_and1 (pt_not (pt_val (pe_callB call_isi (by rfl) T.z_isinstance (by decide +kernel) (pa_cons (pv 0) (pa_cons (pe_bltn (v := .ty "list") (u := .type "list") (by rfl) T.z_list (by decide +kernel) rfl) pa_nil)))))))) (pw_or1 (PW.pt (pw_and (pt_not (pt_val (pv 1))) (pw_and1 (pt_not (pt_val (pe_callB call_isi (by rfl) T.z_isinstance (by decide +kernel) (pa_cons (pv 0) (pa_cons (pe_bltn (v := .ty "tuple") (u := .type "tuple") (by rfl) T.z_tuple (by decide +kernel) rfl) pa_nil))))))))))) (pss_one (ps_ret (pe_bl))) pss_nil) (pss_cons (ps_if (PW.pt (pw_and (pt_cmpR op_ge (pv 2) (pe_int) (nomark _)) (pw_and1 (pt_cmpR op_ne (pe_callB LL.call_lenL (by rfl) T.z_len (by decide +kernel) (pa_cons (pv 0) pa_nil)) (pv 2) (nomark _))))) (pss_one (ps_ret (pe_bl))) pss_nil) (pss_cons (ps_for PassesOwn.never rfl (pi_list (pv 0)) (pg_name (i := 3) sc_law_is_ints.nd rfl (Or.inl rfl)) (pss_one (ps_if (pt_not (pt_val (pe_call (ok_law_is_int T) hr rfl T.g_law_is_int T.F_law_is_int.kp (b_law_is_int T) .nil pass0 (pa_cons (pv 3) pa_nil)))) (pss_one (ps_ret (pe_bl))) pss_nil))) (pss_one (ps_ret (pe_bl)))))), ?_⟩)
  · obtain ⟨_, _, _, _, rfl, _⟩ := h
    rfl
  · obtain ⟨F, v, t, m, rfl, hd, q⟩ := h
    simp only [tSeq, tAsg, tRet, tRetN, tDrop, tNext, tVar, tC, gName, tOp, tUn, rI, rI0, rU, tIfS, tTest, tB, tIf, tAnd, tOr, tNot, tAndV, tOrV, tNotV, tCall, tCons, tNil, tCB, tLst, tTup, tChain, CMul, CDiv, CPow, rEq, rNe, gSub, L2.start, LL.cxK0, LL.cxK1, List.map_cons, List.map_nil, List.length_cons, List.length_nil, List.replicate_succ, List.replicate_zero, List.cons_append, List.nil_append, List.append_nil, List.getElem?_cons_zero, List.getElem?_cons_succ, List.set_cons_zero, List.set_cons_succ, Nat.add_sub_cancel, Nat.reduceAdd, Nat.reduceSub, Option.some.injEq, V.int.injEq, V.bl.injEq, V.ref.injEq, V.str.injEq, List.cons.injEq, and_true, true_and, and_false, false_and, exists_eq_left, exists_eq_left', exists_and_left, exists_and_right, exists_eq, exists_eq', LL.if_dec, reduceCtorEq, exists_false, exists_const, or_false, false_or, if_true, if_false, LL.rInt1, LL.rMx, LL.rMn, and_assoc, Int.reduceNeg, Int.reduceLT, Int.reduceLE, Int.reduceMul, Int.reduceAdd, Int.reduceSub, Int.reducePow, Int.reduceToNat, Nat.reducePow, Nat.reduceLT, true_or, or_true, Bool.not_true, Bool.not_false, Bool.false_eq_true, Bool.or_false, Bool.or_true, Bool.true_or, Bool.false_or, decide_true, decide_false, not_true_eq_false, not_false_eq_true, LL.scal_int, LL.scal_bl, LL.scal_str, LL.isInt, LL.isBl, LL.isStr, LL.isLst, LL.isTup, LL.isDic, N_law_is_ints]
    cases t with
    | lst us =>
      obtain ⟨p, xs, rfl, fp, ep, hx, hz⟩ := _root_.id hd
      repeat (first | refine use_isi hd (kit_int _) ?_ | refine use_isi hd (kit_bool _) ?_ | refine use_isi hd (kit_str _) ?_ | refine use_isi hd (kit_list _) ?_ | refine use_isi hd (kit_tuple _) ?_ | refine use_isi hd (kit_dict _) ?_ | refine And.intro (show scal _ _ = true from rfl) ?_ | simp only [tSeq, tAsg, tRet, tRetN, tDrop, tNext, tVar, tC, gName, tOp, tUn, rI, rI0, rU, tIfS, tTest, tB, tIf, tAnd, tOr, tNot, tAndV, tOrV, tNotV, tCall, tCons, tNil, tCB, tLst, tTup, tChain, CMul, CDiv, CPow, rEq, rNe, gSub, L2.start, LL.cxK0, LL.cxK1, List.map_cons, List.map_nil, List.length_cons, List.length_nil, List.replicate_succ, List.replicate_zero, List.cons_append, List.nil_append, List.append_nil, List.getElem?_cons_zero, List.getElem?_cons_succ, List.set_cons_zero, List.set_cons_succ, Nat.add_sub_cancel, Nat.reduceAdd, Nat.reduceSub, Option.some.injEq, V.int.injEq, V.bl.injEq, V.ref.injEq, V.str.injEq, List.cons.injEq, and_true, true_and, and_false, false_and, exists_eq_left, exists_eq_left', exists_and_left, exists_and_right, exists_eq, exists_eq', LL.if_dec, reduceCtorEq, exists_false, exists_const, or_false, false_or, if_true, if_false, LL.rInt1, LL.rMx, LL.rMn, and_assoc, Int.reduceNeg, Int.reduceLT, Int.reduceLE, Int.reduceMul, Int.reduceAdd, Int.reduceSub, Int.reducePow, Int.reduceToNat, Nat.reducePow, Nat.reduceLT, true_or, or_true, Bool.not_true, Bool.not_false, Bool.false_eq_true, Bool.or_false, Bool.or_true, Bool.true_or, Bool.false_or, decide_true, decide_false, not_true_eq_false, not_false_eq_true, LL.scal_int, LL.scal_bl, LL.scal_str, LL.isInt, LL.isBl, LL.isStr, LL.isLst, LL.isTup, LL.isDic])
      have hall : (us.all LL.isInt = true → Q (.bl true) H) → (us.all LL.isInt = false → Q (.bl false) H) → tFor (iList K (tVar 0)) (gName 3) (tIfS (tNot (tB (tCall sp_isint [] E0 (tCons (tVar 3) tNil)))) (tRet (tC (V.bl false))) tNext) { nx := tRet (tC (V.bl true)) { nx := fun x H' => Q V.non H', rt := Q }, rt := Q } [some (.ref p), some (.bl true), some (.int m), none] H := by
        intro q1 q2
        refine use_forL (a := p) (xs := xs) (fun Q q => ⟨_, rfl, q⟩) (fun i σ' H' => H' = H ∧ (∀ t ∈ us.take i, LL.isInt t = true) ∧ ∃ z : Option V, σ' = [some (.ref p), some (.bl true), some (.int m), z]) ⟨rfl, by simp, _, rfl⟩ (fun i σ' H' _ ⟨e, _⟩ => e ▸ SqL.of ep) ?_ ?_
        · rintro i z σ' H' hz ⟨rfl, hall, zz, rfl⟩
          obtain ⟨t, et, dt⟩ := hx.get _ hz
          simp only [tSeq, tAsg, tRet, tRetN, tDrop, tNext, tVar, tC, gName, tOp, tUn, rI, rI0, rU, tIfS, tTest, tB, tIf, tAnd, tOr, tNot, tAndV, tOrV, tNotV, tCall, tCons, tNil, tCB, tLst, tTup, tChain, CMul, CDiv, CPow, rEq, rNe, gSub, L2.start, LL.cxK0, LL.cxK1, List.map_cons, List.map_nil, List.length_cons, List.length_nil, List.replicate_succ, List.replicate_zero, List.cons_append, List.nil_append, List.append_nil, List.getElem?_cons_zero, List.getElem?_cons_succ, List.set_cons_zero, List.set_cons_succ, Nat.add_sub_cancel, Nat.reduceAdd, Nat.reduceSub, Option.some.injEq, V.int.injEq, V.bl.injEq, V.ref.injEq, V.str.injEq, List.cons.injEq, and_true, true_and, and_false, false_and, exists_eq_left, exists_eq_left', exists_and_left, exists_and_right, exists_eq, exists_eq', LL.if_dec, reduceCtorEq, exists_false, exists_const, or_false, false_or, if_true, if_false, LL.rInt1, LL.rMx, LL.rMn, and_assoc, Int.reduceNeg, Int.reduceLT, Int.reduceLE, Int.reduceMul, Int.reduceAdd, Int.reduceSub, Int.reducePow, Int.reduceToNat, Nat.reducePow, Nat.reduceLT, true_or, or_true, Bool.not_true, Bool.not_false, Bool.false_eq_true, Bool.or_false, Bool.or_true, Bool.true_or, Bool.false_or, decide_true, decide_false, not_true_eq_false, not_false_eq_true, LL.scal_int, LL.scal_bl, LL.scal_str, LL.isInt, LL.isBl, LL.isStr, LL.isLst, LL.isTup, LL.isDic]
          refine use_isint dt ⟨_, rfl, ?_⟩
          cases hi : LL.isInt t with
          | true =>
            simp only [tSeq, tAsg, tRet, tRetN, tDrop, tNext, tVar, tC, gName, tOp, tUn, rI, rI0, rU, tIfS, tTest, tB, tIf, tAnd, tOr, tNot, tAndV, tOrV, tNotV, tCall, tCons, tNil, tCB, tLst, tTup, tChain, CMul, CDiv, CPow, rEq, rNe, gSub, L2.start, LL.cxK0, LL.cxK1, List.map_cons, List.map_nil, List.length_cons, List.length_nil, List.replicate_succ, List.replicate_zero, List.cons_append, List.nil_append, List.append_nil, List.getElem?_cons_zero, List.getElem?_cons_succ, List.set_cons_zero, List.set_cons_succ, Nat.add_sub_cancel, Nat.reduceAdd, Nat.reduceSub, Option.some.injEq, V.int.injEq, V.bl.injEq, V.ref.injEq, V.str.injEq, List.cons.injEq, and_true, true_and, and_false, false_and, exists_eq_left, exists_eq_left', exists_and_left, exists_and_right, exists_eq, exists_eq', LL.if_dec, reduceCtorEq, exists_false, exists_const, or_false, false_or, if_true, if_false, LL.rInt1, LL.rMx, LL.rMn, and_assoc, Int.reduceNeg, Int.reduceLT, Int.reduceLE, Int.reduceMul, Int.reduceAdd, Int.reduceSub, Int.reducePow, Int.reduceToNat, Nat.reducePow, Nat.reduceLT, true_or, or_true, Bool.not_true, Bool.not_false, Bool.false_eq_true, Bool.or_false, Bool.or_true, Bool.true_or, Bool.false_or, decide_true, decide_false, not_true_eq_false, not_false_eq_true, LL.scal_int, LL.scal_bl, LL.scal_str, LL.isInt, LL.isBl, LL.isStr, LL.isLst, LL.isTup, LL.isDic]
            rw [take_one et]
            intro u hu
            rcases List.mem_append.mp hu with h | h
            · exact hall u h
            · rw [List.mem_singleton.mp h]; exact hi
          | false =>
            simp only [tSeq, tAsg, tRet, tRetN, tDrop, tNext, tVar, tC, gName, tOp, tUn, rI, rI0, rU, tIfS, tTest, tB, tIf, tAnd, tOr, tNot, tAndV, tOrV, tNotV, tCall, tCons, tNil, tCB, tLst, tTup, tChain, CMul, CDiv, CPow, rEq, rNe, gSub, L2.start, LL.cxK0, LL.cxK1, List.map_cons, List.map_nil, List.length_cons, List.length_nil, List.replicate_succ, List.replicate_zero, List.cons_append, List.nil_append, List.append_nil, List.getElem?_cons_zero, List.getElem?_cons_succ, List.set_cons_zero, List.set_cons_succ, Nat.add_sub_cancel, Nat.reduceAdd, Nat.reduceSub, Option.some.injEq, V.int.injEq, V.bl.injEq, V.ref.injEq, V.str.injEq, List.cons.injEq, and_true, true_and, and_false, false_and, exists_eq_left, exists_eq_left', exists_and_left, exists_and_right, exists_eq, exists_eq', LL.if_dec, reduceCtorEq, exists_false, exists_const, or_false, false_or, if_true, if_false, LL.rInt1, LL.rMx, LL.rMn, and_assoc, Int.reduceNeg, Int.reduceLT, Int.reduceLE, Int.reduceMul, Int.reduceAdd, Int.reduceSub, Int.reducePow, Int.reduceToNat, Nat.reducePow, Nat.reduceLT, true_or, or_true, Bool.not_true, Bool.not_false, Bool.false_eq_true, Bool.or_false, Bool.or_true, Bool.true_or, Bool.false_or, decide_true, decide_false, not_true_eq_false, not_false_eq_true, LL.scal_int, LL.scal_bl, LL.scal_str, LL.isInt, LL.isBl, LL.isStr, LL.isLst, LL.isTup, LL.isDic]
            refine q2 ?_
            cases h : us.all LL.isInt with
            | false => rfl
            | true =>
              have := List.all_eq_true.mp h t (List.mem_of_getElem? et)
              rw [hi] at this
              cases this
        · rintro σ' H' ⟨rfl, hall, zz, rfl⟩
          simp only [tSeq, tAsg, tRet, tRetN, tDrop, tNext, tVar, tC, gName, tOp, tUn, rI, rI0, rU, tIfS, tTest, tB, tIf, tAnd, tOr, tNot, tAndV, tOrV, tNotV, tCall, tCons, tNil, tCB, tLst, tTup, tChain, CMul, CDiv, CPow, rEq, rNe, gSub, L2.start, LL.cxK0, LL.cxK1, List.map_cons, List.map_nil, List.length_cons, List.length_nil, List.replicate_succ, List.replicate_zero, List.cons_append, List.nil_append, List.append_nil, List.getElem?_cons_zero, List.getElem?_cons_succ, List.set_cons_zero, List.set_cons_succ, Nat.add_sub_cancel, Nat.reduceAdd, Nat.reduceSub, Option.some.injEq, V.int.injEq, V.bl.injEq, V.ref.injEq, V.str.injEq, List.cons.injEq, and_true, true_and, and_false, false_and, exists_eq_left, exists_eq_left', exists_and_left, exists_and_right, exists_eq, exists_eq', LL.if_dec, reduceCtorEq, exists_false, exists_const, or_false, false_or, if_true, if_false, LL.rInt1, LL.rMx, LL.rMn, and_assoc, Int.reduceNeg, Int.reduceLT, Int.reduceLE, Int.reduceMul, Int.reduceAdd, Int.reduceSub, Int.reducePow, Int.reduceToNat, Nat.reducePow, Nat.reduceLT, true_or, or_true, Bool.not_true, Bool.not_false, Bool.false_eq_true, Bool.or_false, Bool.or_true, Bool.true_or, Bool.false_or, decide_true, decide_false, not_true_eq_false, not_false_eq_true, LL.scal_int, LL.scal_bl, LL.scal_str, LL.isInt, LL.isBl, LL.isStr, LL.isLst, LL.isTup, LL.isDic]
          rw [hx.len, List.take_length] at hall
          exact q1 (List.all_eq_true.mpr hall)
      have lx : (xs.length : Int) = us.length := by rw [hx.len]
      have eq : intsB true m (.lst us) = ((decide (m < 0) || decide ((us.length : Int) = m)) && us.all LL.isInt) := by simp [intsB]
      rw [eq] at q
      refine itei (fun h => ?_) (fun h => hall (fun e => ?_) (fun e => ?_))
      · refine use_lenL ep ⟨scal_int.mpr trivial, ?_⟩
        by_cases hl : (us.length : Int) = m
        · rw [if_neg (by simp [lx, hl])]
          refine hall (fun e => ?_) (fun e => ?_)
          · rw [e, decide_eq_true hl, Bool.or_true] at q; exact q
          · rw [e, Bool.and_false] at q; exact q
        · rw [if_pos (by simp [lx, hl])]
          rw [decide_eq_false hl, decide_eq_false (show ¬ m < 0 by omega)] at q; exact q
      · rw [e, decide_eq_true (show m < 0 by omega)] at q; exact q
      · rw [e, Bool.and_false] at q; exact q
    | _ =>
      repeat (first | refine use_isi hd (kit_int _) ?_ | refine use_isi hd (kit_bool _) ?_ | refine use_isi hd (kit_str _) ?_ | refine use_isi hd (kit_list _) ?_ | refine use_isi hd (kit_tuple _) ?_ | refine use_isi hd (kit_dict _) ?_ | refine And.intro (show scal _ _ = true from rfl) ?_ | simp only [tSeq, tAsg, tRet, tRetN, tDrop, tNext, tVar, tC, gName, tOp, tUn, rI, rI0, rU, tIfS, tTest, tB, tIf, tAnd, tOr, tNot, tAndV, tOrV, tNotV, tCall, tCons, tNil, tCB, tLst, tTup, tChain, CMul, CDiv, CPow, rEq, rNe, gSub, L2.start, LL.cxK0, LL.cxK1, List.map_cons, List.map_nil, List.length_cons, List.length_nil, List.replicate_succ, List.replicate_zero, List.cons_append, List.nil_append, List.append_nil, List.getElem?_cons_zero, List.getElem?_cons_succ, List.set_cons_zero, List.set_cons_succ, Nat.add_sub_cancel, Nat.reduceAdd, Nat.reduceSub, Option.some.injEq, V.int.injEq, V.bl.injEq, V.ref.injEq, V.str.injEq, List.cons.injEq, and_true, true_and, and_false, false_and, exists_eq_left, exists_eq_left', exists_and_left, exists_and_right, exists_eq, exists_eq', LL.if_dec, reduceCtorEq, exists_false, exists_const, or_false, false_or, if_true, if_false, LL.rInt1, LL.rMx, LL.rMn, and_assoc, Int.reduceNeg, Int.reduceLT, Int.reduceLE, Int.reduceMul, Int.reduceAdd, Int.reduceSub, Int.reducePow, Int.reduceToNat, Nat.reducePow, Nat.reduceLT, true_or, or_true, Bool.not_true, Bool.not_false, Bool.false_eq_true, Bool.or_false, Bool.or_true, Bool.true_or, Bool.false_or, decide_true, decide_false, not_true_eq_false, not_false_eq_true, LL.scal_int, LL.scal_bl, LL.scal_str, LL.isInt, LL.isBl, LL.isStr, LL.isLst, LL.isTup, LL.isDic])
      exact q
end K25

namespace K25
open PySem PySem.Spec PyProof.Rows L2 LL
variable {P : Program} {w : World} {K : PySem.W.Frag} {mg : Str → Option Value} {base : Heap}

def eqI (m : Int) : LL.T → Bool
  | .int i => decide (i = m)
  | _ => false
def sp_same_int : Sp := fun vs H Q _ => ∃ (F : Addr → Prop) (v : V) (t : LL.T) (m : Int), vs = [v, .int m] ∧ Dt F H v t ∧ Q (.bl (eqI m t)) H
theorem ok_law_sameI (T : Tx K mg) : FnOk P w K mg base CX0 10 (He.ga K "_law_same") T.fd_law_same P_law_same sp_same_int := by
  have ih := ok_law_same (P := P) (w := w) (base := base) T 8
  refine T.F_law_same.ok sc_law_same (fun vs H Q E h => ?_) (fun cdv A outer s H vs Q E hr h => ⟨_, PSs.nox (pss_cons (ps_if (PW.pt (pw_or (pt_cmpR op_isN (pv 0) (pe_non) (nomark _)) (pw_or1 (pt_cmpR op_isN (pv 1) (pe_non) (nomark _))))) (pss_one (ps_ret ((pe_and (pe_cmpR op_isN (pv 0) (pe_non) (nomark _)) (pe_one (pe_cmpR op_isN (pv 1) (pe_non) (nomark _))))))) pss_nil) (pss_cons (ps_if (PW.pt (pw_or (pt_val (pe_callB call_isi (by rfl) T.z_isinstance (by decide +kernel) (pa_cons (pv 0) (pa_cons (pe_bltn (v := .ty "bool") (u := .type "bool") (by rfl) T.z_bool (by decide +kernel) rfl) pa_nil)))) (pw_or1 (pt_val (pe_callB call_isi (by rfl) T.z_isinstance (by decide +kernel) (pa_cons (pv 1) (pa_cons (pe_bltn (v := .ty "bool") (u := .type "bool") (by rfl) T.z_bool (by decide +kernel) rfl) pa_nil))))))) (pss_one (ps_ret ((pe_and (pe_callB call_isi (by rfl) T.z_isinstance (by decide +kernel) (pa_cons (pv 0) (pa_cons (pe_bltn (v := .ty "bool") (u := .type "bool") (by rfl) T.z_bool (by decide +kernel) rfl) pa_nil))) (pe_and (pe_callB call_isi (by rfl) T.z_isinstance (by decide +kernel) (pa_cons (pv 1) (pa_cons (pe_bltn (v := .ty "bool") (u := .type "bool") (by rfl) T.z_bool (by decide +kernel) rfl) pa_nil))) (pe_one (pe_cmpR op_eq (pv 0) (pv 1) (nomark _)))))))) pss_nil) (pss_cons (ps_if (pt_val (pe_callB call_isi (by rfl) T.z_isinstance (by decide +kernel) (pa_cons (pv 1) (pa_cons (pe_bltn (v := .ty "int") (u := .type "int") (by rfl) T.z_int (by decide +kernel) rfl) pa_nil)))) (pss_one (ps_ret ((pe_and (pe_callB call_isi (by rfl) T.z_isinstance (by decide +kernel) (pa_cons (pv 0) (pa_cons (pe_bltn (v := .ty "int") (u := .type "int") (by rfl) T.z_int (by decide +kernel) rfl) pa_nil))) (pe_one (pe_cmpR op_eq (pv 0) (pv 1) (nomark _))))))) pss_nil) (pss_cons (ps_if (pt_val (pe_callB call_isi (by rfl) T.z_isinstance (by decide +kernel) (pa_cons (pv 1) (pa_cons (pe_bltn (v := .ty "str") (u := .type "str") (by rfl) T.z_str (by decide +kernel) rfl) pa_nil)))) (pss_one (ps_ret ((pe_and (pe_callB call_isi (by rfl) T.z_isinstance (by decide +kernel) (pa_cons (pv 0) (pa_cons (pe_bltn (v := .ty "str") (u := .type "str") (by rfl) T.z_str (by decide +kernel) rfl) pa_nil))) (pe_one (pe_cmpR op_eq (pv 0) (pv 1) (nomark _))))))) pss_nil) (pss_cons (ps_if (pt_val (pe_callB call_isi (by rfl) T.z_isinstance (by decide +kernel) (pa_cons (pv 1) (pa_cons (pe_bltn (v := .ty "dict") (u := .type "dict") (by rfl) T.z_dict (by decide +kernel) rfl) pa_nil)))) (pss_cons (ps_if (PW.pt (pw_or (pt_not (pt_val (pe_callB call_isi (by rfl) T.z_isinstance (by decide +kernel) (pa_cons (pv 0) (pa_cons (pe_bltn (v := .ty "dict") (u := .type "dict") (by rfl) T.z_dict (by decide +kernel) rfl) pa_nil))))) (pw_or1 (pt_cmpR op_ne (pe_callB LL.call_lenA (by rfl) T.z_len (by decide +kernel) (pa_cons (pv 0) pa_nil)) (pe_callB LL.call_lenA (by rfl) T.z_len (by decide +kernel) (pa_cons (pv 1) pa_nil)) (nomark _))))) (pss_one (ps_ret (pe_bl))) pss_nil) (pss_cons (ps_for PassesOwn.never rfl (pi_list (pe_callTy (LL.call_lstD rfl) (by rfl) T.z_list (by decide +kernel) (pa_cons (pv 1) pa_nil))) (pg_name (i := 3) sc_law_same.nd rfl (Or.inl rfl)) (pss_one (ps_if (PW.pt (pw_or (pt_cmp (pc_dnotin (hu_of hr) (pv 3) (pv 0))) (pw_or1 (pt_not (pt_val (pe_call ih hr rfl T.g_law_same T.F_law_same.kp (b_law_same T) .nil pass0 (pa_cons (pe_dget (hu_of hr) (pv 0) (pv 3) (fun _ _ => rfl)) (pa_cons (pe_dget (hu_of hr) (pv 1) (pv 3) (fun _ _ => rfl)) pa_nil)))))))) (pss_one (ps_ret (pe_bl))) pss_nil))) (pss_one (ps_ret (pe_bl))))) pss_nil) (pss_cons (ps_if (pt_cmpR op_ne (pe_callB call_isi (by rfl) T.z_isinstance (by decide +kernel) (pa_cons (pv 1) (pa_cons (pe_bltn (v := .ty "list") (u := .type "list") (by rfl) T.z_list (by decide +kernel) rfl) pa_nil))) (pe_callB call_isi (by rfl) T.z_isinstance (by decide +kernel) (pa_cons (pv 0) (pa_cons (pe_bltn (v := .ty "list") (u := .type "list") (by rfl) T.z_list (by decide +kernel) rfl) pa_nil))) (nomark _)) (pss_one (ps_ret (pe_bl))) pss_nil) (pss_cons (ps_if (pt_cmpR op_ne (pe_callB call_isi (by rfl) T.z_isinstance (by decide +kernel) (pa_cons (pv 1) (pa_cons (pe_bltn (v := .ty "tuple") (u := .type "tuple") (by rfl) T.z_tuple (by decide +kernel) rfl) pa_nil))) (pe_callB call_isi (by rfl) T.z_isinstance (by decide +kernel) (pa_cons (pv 0) (pa_cons (pe_bltn (v := .ty "tuple") (u := .type "tuple") (by rfl) T.z_tuple (by decide +kernel) rfl) pa_nil))) (nomark _)) (pss_one (ps_ret (pe_bl))) pss_nil) (pss_cons (ps_if (PW.pt (pw_or (PW.pt (pw_and (pt_not (pt_val (pe_callB call_isi (by rfl) T.z_isinstance (by decide +kernel) (pa_cons (pv 1) (pa_cons (pe_bltn (v := .ty "list") (u := .type "list") (by rfl) T.z_list (by decide +kernel) rfl) pa_nil))))) (pw_and1 (pt_not (pt_val (pe_callB call_isi (by rfl) T.z_isinstance (by decide +kernel) (pa_cons (pv 1) (pa_cons (pe_bltn (v := .ty "tuple") (u := .type "tuple") (by rfl) T.z_tuple (by decide +kernel) rfl) pa_nil)))))))) (pw_or1 (pt_cmpR op_ne (pe_callB LL.call_lenA (by rfl) T.z_len (by decide +kernel) (pa_cons (pv 0) pa_nil)) (pe_callB LL.call_lenA (by rfl) T.z_len (by decide +kernel) (pa_cons (pv 1) pa_nil)) (nomark _))))) (pss_one (ps_ret (pe_bl))) pss_nil) (pss_cons (ps_for PassesOwn.never rfl (pi_range1 rfl T.z_range (pa_cons (pe_callB LL.call_lenA (by rfl) T.z_len (by decide +kernel) (pa_cons (pv 1) pa_nil)) pa_nil)) (pg_name (i := 2) sc_law_same.nd rfl (Or.inl rfl)) (pss_one (ps_if (pt_not (pt_val (pe_call ih hr rfl T.g_law_same T.F_law_same.kp (b_law_same T) .nil pass0 (pa_cons (pe_ix (show IxR _ (LL.rIxA K) from LL.ix_A) (pv 0) (pv 2) (fun _ _ => rfl)) (pa_cons (pe_ix (show IxR _ (LL.rIxA K) from LL.ix_A) (pv 1) (pv 2) (fun _ _ => rfl)) pa_nil))))) (pss_one (ps_ret (pe_bl))) pss_nil))) (pss_one (ps_ret (pe_bl)))))))))))), ?_⟩)
  · obtain ⟨_, _, _, _, rfl, _⟩ := h
    rfl
  · obtain ⟨F, v, t, m, rfl, h1, q⟩ := h
    have h2 : Dt F H (.int m) (.int m) := rfl
    cases t with
    | non =>
      obtain rfl : v = .non := h1
      simp only [tSeq, tAsg, tRet, tRetN, tDrop, tNext, tVar, tC, gName, tOp, tUn, rI, rI0, rU, tIfS, tTest, tB, tIf, tAnd, tOr, tNot, tAndV, tOrV, tNotV, tCall, tCons, tNil, tCB, tLst, tTup, tChain, CMul, CDiv, CPow, rEq, rNe, gSub, L2.start, LL.cxK0, LL.cxK1, List.map_cons, List.map_nil, List.length_cons, List.length_nil, List.replicate_succ, List.replicate_zero, List.cons_append, List.nil_append, List.append_nil, List.getElem?_cons_zero, List.getElem?_cons_succ, List.set_cons_zero, List.set_cons_succ, Nat.add_sub_cancel, Nat.reduceAdd, Nat.reduceSub, Option.some.injEq, V.int.injEq, V.bl.injEq, V.ref.injEq, V.str.injEq, List.cons.injEq, and_true, true_and, and_false, false_and, exists_eq_left, exists_eq_left', exists_and_left, exists_and_right, exists_eq, exists_eq', LL.if_dec, reduceCtorEq, exists_false, exists_const, or_false, false_or, if_true, if_false, LL.rInt1, LL.rMx, LL.rMn, and_assoc, Int.reduceNeg, Int.reduceLT, Int.reduceLE, Int.reduceMul, Int.reduceAdd, Int.reduceSub, Int.reducePow, Int.reduceToNat, Nat.reducePow, Nat.reduceLT, true_or, or_true, Bool.not_true, Bool.not_false, Bool.false_eq_true, Bool.or_false, Bool.or_true, Bool.true_or, Bool.false_or, decide_true, decide_false, not_true_eq_false, not_false_eq_true, LL.scal_int, LL.scal_bl, LL.scal_str, LL.isInt, LL.isBl, LL.isStr, LL.isLst, LL.isTup, LL.isDic, N_law_same]
      exact q
    | int i =>
      obtain rfl : v = .int i := h1
      have h1 : Dt F H (.int i) (.int i) := rfl
      simp only [tSeq, tAsg, tRet, tRetN, tDrop, tNext, tVar, tC, gName, tOp, tUn, rI, rI0, rU, tIfS, tTest, tB, tIf, tAnd, tOr, tNot, tAndV, tOrV, tNotV, tCall, tCons, tNil, tCB, tLst, tTup, tChain, CMul, CDiv, CPow, rEq, rNe, gSub, L2.start, LL.cxK0, LL.cxK1, List.map_cons, List.map_nil, List.length_cons, List.length_nil, List.replicate_succ, List.replicate_zero, List.cons_append, List.nil_append, List.append_nil, List.getElem?_cons_zero, List.getElem?_cons_succ, List.set_cons_zero, List.set_cons_succ, Nat.add_sub_cancel, Nat.reduceAdd, Nat.reduceSub, Option.some.injEq, V.int.injEq, V.bl.injEq, V.ref.injEq, V.str.injEq, List.cons.injEq, and_true, true_and, and_false, false_and, exists_eq_left, exists_eq_left', exists_and_left, exists_and_right, exists_eq, exists_eq', LL.if_dec, reduceCtorEq, exists_false, exists_const, or_false, false_or, if_true, if_false, LL.rInt1, LL.rMx, LL.rMn, and_assoc, Int.reduceNeg, Int.reduceLT, Int.reduceLE, Int.reduceMul, Int.reduceAdd, Int.reduceSub, Int.reducePow, Int.reduceToNat, Nat.reducePow, Nat.reduceLT, true_or, or_true, Bool.not_true, Bool.not_false, Bool.false_eq_true, Bool.or_false, Bool.or_true, Bool.true_or, Bool.false_or, decide_true, decide_false, not_true_eq_false, not_false_eq_true, LL.scal_int, LL.scal_bl, LL.scal_str, LL.isInt, LL.isBl, LL.isStr, LL.isLst, LL.isTup, LL.isDic, N_law_same]
      repeat (first | refine use_isi h1 (kit_int _) ?_ | refine use_isi h1 (kit_bool _) ?_ | refine use_isi h1 (kit_str _) ?_ | refine use_isi h1 (kit_list _) ?_ | refine use_isi h1 (kit_tuple _) ?_ | refine use_isi h1 (kit_dict _) ?_ | refine use_isi h2 (kit_int _) ?_ | refine use_isi h2 (kit_bool _) ?_ | refine use_isi h2 (kit_str _) ?_ | refine use_isi h2 (kit_list _) ?_ | refine use_isi h2 (kit_tuple _) ?_ | refine use_isi h2 (kit_dict _) ?_ | refine And.intro (show scal _ _ = true from rfl) ?_ | simp only [tSeq, tAsg, tRet, tRetN, tDrop, tNext, tVar, tC, gName, tOp, tUn, rI, rI0, rU, tIfS, tTest, tB, tIf, tAnd, tOr, tNot, tAndV, tOrV, tNotV, tCall, tCons, tNil, tCB, tLst, tTup, tChain, CMul, CDiv, CPow, rEq, rNe, gSub, L2.start, LL.cxK0, LL.cxK1, List.map_cons, List.map_nil, List.length_cons, List.length_nil, List.replicate_succ, List.replicate_zero, List.cons_append, List.nil_append, List.append_nil, List.getElem?_cons_zero, List.getElem?_cons_succ, List.set_cons_zero, List.set_cons_succ, Nat.add_sub_cancel, Nat.reduceAdd, Nat.reduceSub, Option.some.injEq, V.int.injEq, V.bl.injEq, V.ref.injEq, V.str.injEq, List.cons.injEq, and_true, true_and, and_false, false_and, exists_eq_left, exists_eq_left', exists_and_left, exists_and_right, exists_eq, exists_eq', LL.if_dec, reduceCtorEq, exists_false, exists_const, or_false, false_or, if_true, if_false, LL.rInt1, LL.rMx, LL.rMn, and_assoc, Int.reduceNeg, Int.reduceLT, Int.reduceLE, Int.reduceMul, Int.reduceAdd, Int.reduceSub, Int.reducePow, Int.reduceToNat, Nat.reducePow, Nat.reduceLT, true_or, or_true, Bool.not_true, Bool.not_false, Bool.false_eq_true, Bool.or_false, Bool.or_true, Bool.true_or, Bool.false_or, decide_true, decide_false, not_true_eq_false, not_false_eq_true, LL.scal_int, LL.scal_bl, LL.scal_str, LL.isInt, LL.isBl, LL.isStr, LL.isLst, LL.isTup, LL.isDic])
      exact q
    | bl b =>
      obtain rfl : v = .bl b := h1
      have h1 : Dt F H (.bl b) (.bl b) := rfl
      simp only [tSeq, tAsg, tRet, tRetN, tDrop, tNext, tVar, tC, gName, tOp, tUn, rI, rI0, rU, tIfS, tTest, tB, tIf, tAnd, tOr, tNot, tAndV, tOrV, tNotV, tCall, tCons, tNil, tCB, tLst, tTup, tChain, CMul, CDiv, CPow, rEq, rNe, gSub, L2.start, LL.cxK0, LL.cxK1, List.map_cons, List.map_nil, List.length_cons, List.length_nil, List.replicate_succ, List.replicate_zero, List.cons_append, List.nil_append, List.append_nil, List.getElem?_cons_zero, List.getElem?_cons_succ, List.set_cons_zero, List.set_cons_succ, Nat.add_sub_cancel, Nat.reduceAdd, Nat.reduceSub, Option.some.injEq, V.int.injEq, V.bl.injEq, V.ref.injEq, V.str.injEq, List.cons.injEq, and_true, true_and, and_false, false_and, exists_eq_left, exists_eq_left', exists_and_left, exists_and_right, exists_eq, exists_eq', LL.if_dec, reduceCtorEq, exists_false, exists_const, or_false, false_or, if_true, if_false, LL.rInt1, LL.rMx, LL.rMn, and_assoc, Int.reduceNeg, Int.reduceLT, Int.reduceLE, Int.reduceMul, Int.reduceAdd, Int.reduceSub, Int.reducePow, Int.reduceToNat, Nat.reducePow, Nat.reduceLT, true_or, or_true, Bool.not_true, Bool.not_false, Bool.false_eq_true, Bool.or_false, Bool.or_true, Bool.true_or, Bool.false_or, decide_true, decide_false, not_true_eq_false, not_false_eq_true, LL.scal_int, LL.scal_bl, LL.scal_str, LL.isInt, LL.isBl, LL.isStr, LL.isLst, LL.isTup, LL.isDic, N_law_same]
      repeat (first | refine use_isi h1 (kit_int _) ?_ | refine use_isi h1 (kit_bool _) ?_ | refine use_isi h1 (kit_str _) ?_ | refine use_isi h1 (kit_list _) ?_ | refine use_isi h1 (kit_tuple _) ?_ | refine use_isi h1 (kit_dict _) ?_ | refine use_isi h2 (kit_int _) ?_ | refine use_isi h2 (kit_bool _) ?_ | refine use_isi h2 (kit_str _) ?_ | refine use_isi h2 (kit_list _) ?_ | refine use_isi h2 (kit_tuple _) ?_ | refine use_isi h2 (kit_dict _) ?_ | refine And.intro (show scal _ _ = true from rfl) ?_ | simp only [tSeq, tAsg, tRet, tRetN, tDrop, tNext, tVar, tC, gName, tOp, tUn, rI, rI0, rU, tIfS, tTest, tB, tIf, tAnd, tOr, tNot, tAndV, tOrV, tNotV, tCall, tCons, tNil, tCB, tLst, tTup, tChain, CMul, CDiv, CPow, rEq, rNe, gSub, L2.start, LL.cxK0, LL.cxK1, List.map_cons, List.map_nil, List.length_cons, List.length_nil, List.replicate_succ, List.replicate_zero, List.cons_append, List.nil_append, List.append_nil, List.getElem?_cons_zero, List.getElem?_cons_succ, List.set_cons_zero, List.set_cons_succ, Nat.add_sub_cancel, Nat.reduceAdd, Nat.reduceSub, Option.some.injEq, V.int.injEq, V.bl.injEq, V.ref.injEq, V.str.injEq, List.cons.injEq, and_true, true_and, and_false, false_and, exists_eq_left, exists_eq_left', exists_and_left, exists_and_right, exists_eq, exists_eq', LL.if_dec, reduceCtorEq, exists_false, exists_const, or_false, false_or, if_true, if_false, LL.rInt1, LL.rMx, LL.rMn, and_assoc, Int.reduceNeg, Int.reduceLT, Int.reduceLE, Int.reduceMul, Int.reduceAdd, Int.reduceSub, Int.reducePow, Int.reduceToNat, Nat.reducePow, Nat.reduceLT, true_or, or_true, Bool.not_true, Bool.not_false, Bool.false_eq_true, Bool.or_false, Bool.or_true, Bool.true_or, Bool.false_or, decide_true, decide_false, not_true_eq_false, not_false_eq_true, LL.scal_int, LL.scal_bl, LL.scal_str, LL.isInt, LL.isBl, LL.isStr, LL.isLst, LL.isTup, LL.isDic])
      exact q
    | str z =>
      obtain rfl : v = .str z := h1
      have h1 : Dt F H (.str z) (.str z) := rfl
      simp only [tSeq, tAsg, tRet, tRetN, tDrop, tNext, tVar, tC, gName, tOp, tUn, rI, rI0, rU, tIfS, tTest, tB, tIf, tAnd, tOr, tNot, tAndV, tOrV, tNotV, tCall, tCons, tNil, tCB, tLst, tTup, tChain, CMul, CDiv, CPow, rEq, rNe, gSub, L2.start, LL.cxK0, LL.cxK1, List.map_cons, List.map_nil, List.length_cons, List.length_nil, List.replicate_succ, List.replicate_zero, List.cons_append, List.nil_append, List.append_nil, List.getElem?_cons_zero, List.getElem?_cons_succ, List.set_cons_zero, List.set_cons_succ, Nat.add_sub_cancel, Nat.reduceAdd, Nat.reduceSub, Option.some.injEq, V.int.injEq, V.bl.injEq, V.ref.injEq, V.str.injEq, List.cons.injEq, and_true, true_and, and_false, false_and, exists_eq_left, exists_eq_left', exists_and_left, exists_and_right, exists_eq, exists_eq', LL.if_dec, reduceCtorEq, exists_false, exists_const, or_false, false_or, if_true, if_false, LL.rInt1, LL.rMx, LL.rMn, and_assoc, Int.reduceNeg, Int.reduceLT, Int.reduceLE, Int.reduceMul, Int.reduceAdd, Int.reduceSub, Int.reducePow, Int.reduceToNat, Nat.reducePow, Nat.reduceLT, true_or, or_true, Bool.not_true, Bool.not_false, Bool.false_eq_true, Bool.or_false, Bool.or_true, Bool.true_or, Bool.false_or, decide_true, decide_false, not_true_eq_false, not_false_eq_true, LL.scal_int, LL.scal_bl, LL.scal_str, LL.isInt, LL.isBl, LL.isStr, LL.isLst, LL.isTup, LL.isDic, N_law_same]
      repeat (first | refine use_isi h1 (kit_int _) ?_ | refine use_isi h1 (kit_bool _) ?_ | refine use_isi h1 (kit_str _) ?_ | refine use_isi h1 (kit_list _) ?_ | refine use_isi h1 (kit_tuple _) ?_ | refine use_isi h1 (kit_dict _) ?_ | refine use_isi h2 (kit_int _) ?_ | refine use_isi h2 (kit_bool _) ?_ | refine use_isi h2 (kit_str _) ?_ | refine use_isi h2 (kit_list _) ?_ | refine use_isi h2 (kit_tuple _) ?_ | refine use_isi h2 (kit_dict _) ?_ | refine And.intro (show scal _ _ = true from rfl) ?_ | simp only [tSeq, tAsg, tRet, tRetN, tDrop, tNext, tVar, tC, gName, tOp, tUn, rI, rI0, rU, tIfS, tTest, tB, tIf, tAnd, tOr, tNot, tAndV, tOrV, tNotV, tCall, tCons, tNil, tCB, tLst, tTup, tChain, CMul, CDiv, CPow, rEq, rNe, gSub, L2.start, LL.cxK0, LL.cxK1, List.map_cons, List.map_nil, List.length_cons, List.length_nil, List.replicate_succ, List.replicate_zero, List.cons_append, List.nil_append, List.append_nil, List.getElem?_cons_zero, List.getElem?_cons_succ, List.set_cons_zero, List.set_cons_succ, Nat.add_sub_cancel, Nat.reduceAdd, Nat.reduceSub, Option.some.injEq, V.int.injEq, V.bl.injEq, V.ref.injEq, V.str.injEq, List.cons.injEq, and_true, true_and, and_false, false_and, exists_eq_left, exists_eq_left', exists_and_left, exists_and_right, exists_eq, exists_eq', LL.if_dec, reduceCtorEq, exists_false, exists_const, or_false, false_or, if_true, if_false, LL.rInt1, LL.rMx, LL.rMn, and_assoc, Int.reduceNeg, Int.reduceLT, Int.reduceLE, Int.reduceMul, Int.reduceAdd, Int.reduceSub, Int.reducePow, Int.reduceToNat, Nat.reducePow, Nat.reduceLT, true_or, or_true, Bool.not_true, Bool.not_false, Bool.false_eq_true, Bool.or_false, Bool.or_true, Bool.true_or, Bool.false_or, decide_true, decide_false, not_true_eq_false, not_false_eq_true, LL.scal_int, LL.scal_bl, LL.scal_str, LL.isInt, LL.isBl, LL.isStr, LL.isLst, LL.isTup, LL.isDic])
      exact q
    | lst us =>
      obtain ⟨p, xs, rfl, _⟩ := _root_.id h1
      simp only [tSeq, tAsg, tRet, tRetN, tDrop, tNext, tVar, tC, gName, tOp, tUn, rI, rI0, rU, tIfS, tTest, tB, tIf, tAnd, tOr, tNot, tAndV, tOrV, tNotV, tCall, tCons, tNil, tCB, tLst, tTup, tChain, CMul, CDiv, CPow, rEq, rNe, gSub, L2.start, LL.cxK0, LL.cxK1, List.map_cons, List.map_nil, List.length_cons, List.length_nil, List.replicate_succ, List.replicate_zero, List.cons_append, List.nil_append, List.append_nil, List.getElem?_cons_zero, List.getElem?_cons_succ, List.set_cons_zero, List.set_cons_succ, Nat.add_sub_cancel, Nat.reduceAdd, Nat.reduceSub, Option.some.injEq, V.int.injEq, V.bl.injEq, V.ref.injEq, V.str.injEq, List.cons.injEq, and_true, true_and, and_false, false_and, exists_eq_left, exists_eq_left', exists_and_left, exists_and_right, exists_eq, exists_eq', LL.if_dec, reduceCtorEq, exists_false, exists_const, or_false, false_or, if_true, if_false, LL.rInt1, LL.rMx, LL.rMn, and_assoc, Int.reduceNeg, Int.reduceLT, Int.reduceLE, Int.reduceMul, Int.reduceAdd, Int.reduceSub, Int.reducePow, Int.reduceToNat, Nat.reducePow, Nat.reduceLT, true_or, or_true, Bool.not_true, Bool.not_false, Bool.false_eq_true, Bool.or_false, Bool.or_true, Bool.true_or, Bool.false_or, decide_true, decide_false, not_true_eq_false, not_false_eq_true, LL.scal_int, LL.scal_bl, LL.scal_str, LL.isInt, LL.isBl, LL.isStr, LL.isLst, LL.isTup, LL.isDic, N_law_same]
      repeat (first | refine use_isi h1 (kit_int _) ?_ | refine use_isi h1 (kit_bool _) ?_ | refine use_isi h1 (kit_str _) ?_ | refine use_isi h1 (kit_list _) ?_ | refine use_isi h1 (kit_tuple _) ?_ | refine use_isi h1 (kit_dict _) ?_ | refine use_isi h2 (kit_int _) ?_ | refine use_isi h2 (kit_bool _) ?_ | refine use_isi h2 (kit_str _) ?_ | refine use_isi h2 (kit_list _) ?_ | refine use_isi h2 (kit_tuple _) ?_ | refine use_isi h2 (kit_dict _) ?_ | refine And.intro (show scal _ _ = true from rfl) ?_ | simp only [tSeq, tAsg, tRet, tRetN, tDrop, tNext, tVar, tC, gName, tOp, tUn, rI, rI0, rU, tIfS, tTest, tB, tIf, tAnd, tOr, tNot, tAndV, tOrV, tNotV, tCall, tCons, tNil, tCB, tLst, tTup, tChain, CMul, CDiv, CPow, rEq, rNe, gSub, L2.start, LL.cxK0, LL.cxK1, List.map_cons, List.map_nil, List.length_cons, List.length_nil, List.replicate_succ, List.replicate_zero, List.cons_append, List.nil_append, List.append_nil, List.getElem?_cons_zero, List.getElem?_cons_succ, List.set_cons_zero, List.set_cons_succ, Nat.add_sub_cancel, Nat.reduceAdd, Nat.reduceSub, Option.some.injEq, V.int.injEq, V.bl.injEq, V.ref.injEq, V.str.injEq, List.cons.injEq, and_true, true_and, and_false, false_and, exists_eq_left, exists_eq_left', exists_and_left, exists_and_right, exists_eq, exists_eq', LL.if_dec, reduceCtorEq, exists_false, exists_const, or_false, false_or, if_true, if_false, LL.rInt1, LL.rMx, LL.rMn, and_assoc, Int.reduceNeg, Int.reduceLT, Int.reduceLE, Int.reduceMul, Int.reduceAdd, Int.reduceSub, Int.reducePow, Int.reduceToNat, Nat.reducePow, Nat.reduceLT, true_or, or_true, Bool.not_true, Bool.not_false, Bool.false_eq_true, Bool.or_false, Bool.or_true, Bool.true_or, Bool.false_or, decide_true, decide_false, not_true_eq_false, not_false_eq_true, LL.scal_int, LL.scal_bl, LL.scal_str, LL.isInt, LL.isBl, LL.isStr, LL.isLst, LL.isTup, LL.isDic])
      exact q
    | tup us =>
      obtain ⟨p, xs, rfl, _⟩ := _root_.id h1
      simp only [tSeq, tAsg, tRet, tRetN, tDrop, tNext, tVar, tC, gName, tOp, tUn, rI, rI0, rU, tIfS, tTest, tB, tIf, tAnd, tOr, tNot, tAndV, tOrV, tNotV, tCall, tCons, tNil, tCB, tLst, tTup, tChain, CMul, CDiv, CPow, rEq, rNe, gSub, L2.start, LL.cxK0, LL.cxK1, List.map_cons, List.map_nil, List.length_cons, List.length_nil, List.replicate_succ, List.replicate_zero, List.cons_append, List.nil_append, List.append_nil, List.getElem?_cons_zero, List.getElem?_cons_succ, List.set_cons_zero, List.set_cons_succ, Nat.add_sub_cancel, Nat.reduceAdd, Nat.reduceSub, Option.some.injEq, V.int.injEq, V.bl.injEq, V.ref.injEq, V.str.injEq, List.cons.injEq, and_true, true_and, and_false, false_and, exists_eq_left, exists_eq_left', exists_and_left, exists_and_right, exists_eq, exists_eq', LL.if_dec, reduceCtorEq, exists_false, exists_const, or_false, false_or, if_true, if_false, LL.rInt1, LL.rMx, LL.rMn, and_assoc, Int.reduceNeg, Int.reduceLT, Int.reduceLE, Int.reduceMul, Int.reduceAdd, Int.reduceSub, Int.reducePow, Int.reduceToNat, Nat.reducePow, Nat.reduceLT, true_or, or_true, Bool.not_true, Bool.not_false, Bool.false_eq_true, Bool.or_false, Bool.or_true, Bool.true_or, Bool.false_or, decide_true, decide_false, not_true_eq_false, not_false_eq_true, LL.scal_int, LL.scal_bl, LL.scal_str, LL.isInt, LL.isBl, LL.isStr, LL.isLst, LL.isTup, LL.isDic, N_law_same]
      repeat (first | refine use_isi h1 (kit_int _) ?_ | refine use_isi h1 (kit_bool _) ?_ | refine use_isi h1 (kit_str _) ?_ | refine use_isi h1 (kit_list _) ?_ | refine use_isi h1 (kit_tuple _) ?_ | refine use_isi h1 (kit_dict _) ?_ | refine use_isi h2 (kit_int _) ?_ | refine use_isi h2 (kit_bool _) ?_ | refine use_isi h2 (kit_str _) ?_ | refine use_isi h2 (kit_list _) ?_ | refine use_isi h2 (kit_tuple _) ?_ | refine use_isi h2 (kit_dict _) ?_ | refine And.intro (show scal _ _ = true from rfl) ?_ | simp only [tSeq, tAsg, tRet, tRetN, tDrop, tNext, tVar, tC, gName, tOp, tUn, rI, rI0, rU, tIfS, tTest, tB, tIf, tAnd, tOr, tNot, tAndV, tOrV, tNotV, tCall, tCons, tNil, tCB, tLst, tTup, tChain, CMul, CDiv, CPow, rEq, rNe, gSub, L2.start, LL.cxK0, LL.cxK1, List.map_cons, List.map_nil, List.length_cons, List.length_nil, List.replicate_succ, List.replicate_zero, List.cons_append, List.nil_append, List.append_nil, List.getElem?_cons_zero, List.getElem?_cons_succ, List.set_cons_zero, List.set_cons_succ, Nat.add_sub_cancel, Nat.reduceAdd, Nat.reduceSub, Option.some.injEq, V.int.injEq, V.bl.injEq, V.ref.injEq, V.str.injEq, List.cons.injEq, and_true, true_and, and_false, false_and, exists_eq_left, exists_eq_left', exists_and_left, exists_and_right, exists_eq, exists_eq', LL.if_dec, reduceCtorEq, exists_false, exists_const, or_false, false_or, if_true, if_false, LL.rInt1, LL.rMx, LL.rMn, and_assoc, Int.reduceNeg, Int.reduceLT, Int.reduceLE, Int.reduceMul, Int.reduceAdd, Int.reduceSub, Int.reducePow, Int.reduceToNat, Nat.reducePow, Nat.reduceLT, true_or, or_true, Bool.not_true, Bool.not_false, Bool.false_eq_true, Bool.or_false, Bool.or_true, Bool.true_or, Bool.false_or, decide_true, decide_false, not_true_eq_false, not_false_eq_true, LL.scal_int, LL.scal_bl, LL.scal_str, LL.isInt, LL.isBl, LL.isStr, LL.isLst, LL.isTup, LL.isDic])
      exact q
    | dic u =>
      obtain ⟨p, xs, rfl, _⟩ := _root_.id h1
      simp only [tSeq, tAsg, tRet, tRetN, tDrop, tNext, tVar, tC, gName, tOp, tUn, rI, rI0, rU, tIfS, tTest, tB, tIf, tAnd, tOr, tNot, tAndV, tOrV, tNotV, tCall, tCons, tNil, tCB, tLst, tTup, tChain, CMul, CDiv, CPow, rEq, rNe, gSub, L2.start, LL.cxK0, LL.cxK1, List.map_cons, List.map_nil, List.length_cons, List.length_nil, List.replicate_succ, List.replicate_zero, List.cons_append, List.nil_append, List.append_nil, List.getElem?_cons_zero, List.getElem?_cons_succ, List.set_cons_zero, List.set_cons_succ, Nat.add_sub_cancel, Nat.reduceAdd, Nat.reduceSub, Option.some.injEq, V.int.injEq, V.bl.injEq, V.ref.injEq, V.str.injEq, List.cons.injEq, and_true, true_and, and_false, false_and, exists_eq_left, exists_eq_left', exists_and_left, exists_and_right, exists_eq, exists_eq', LL.if_dec, reduceCtorEq, exists_false, exists_const, or_false, false_or, if_true, if_false, LL.rInt1, LL.rMx, LL.rMn, and_assoc, Int.reduceNeg, Int.reduceLT, Int.reduceLE, Int.reduceMul, Int.reduceAdd, Int.reduceSub, Int.reducePow, Int.reduceToNat, Nat.reducePow, Nat.reduceLT, true_or, or_true, Bool.not_true, Bool.not_false, Bool.false_eq_true, Bool.or_false, Bool.or_true, Bool.true_or, Bool.false_or, decide_true, decide_false, not_true_eq_false, not_false_eq_true, LL.scal_int, LL.scal_bl, LL.scal_str, LL.isInt, LL.isBl, LL.isStr, LL.isLst, LL.isTup, LL.isDic, N_law_same]
      repeat (first | refine use_isi h1 (kit_int _) ?_ | refine use_isi h1 (kit_bool _) ?_ | refine use_isi h1 (kit_str _) ?_ | refine use_isi h1 (kit_list _) ?_ | refine use_isi h1 (kit_tuple _) ?_ | refine use_isi h1 (kit_dict _) ?_ | refine use_isi h2 (kit_int _) ?_ | refine use_isi h2 (kit_bool _) ?_ | refine use_isi h2 (kit_str _) ?_ | refine use_isi h2 (kit_list _) ?_ | refine use_isi h2 (kit_tuple _) ?_ | refine use_isi h2 (kit_dict _) ?_ | refine And.intro (show scal _ _ = true from rfl) ?_ | simp only [tSeq, tAsg, tRet, tRetN, tDrop, tNext, tVar, tC, gName, tOp, tUn, rI, rI0, rU, tIfS, tTest, tB, tIf, tAnd, tOr, tNot, tAndV, tOrV, tNotV, tCall, tCons, tNil, tCB, tLst, tTup, tChain, CMul, CDiv, CPow, rEq, rNe, gSub, L2.start, LL.cxK0, LL.cxK1, List.map_cons, List.map_nil, List.length_cons, List.length_nil, List.replicate_succ, List.replicate_zero, List.cons_append, List.nil_append, List.append_nil, List.getElem?_cons_zero, List.getElem?_cons_succ, List.set_cons_zero, List.set_cons_succ, Nat.add_sub_cancel, Nat.reduceAdd, Nat.reduceSub, Option.some.injEq, V.int.injEq, V.bl.injEq, V.ref.injEq, V.str.injEq, List.cons.injEq, and_true, true_and, and_false, false_and, exists_eq_left, exists_eq_left', exists_and_left, exists_and_right, exists_eq, exists_eq', LL.if_dec, reduceCtorEq, exists_false, exists_const, or_false, false_or, if_true, if_false, LL.rInt1, LL.rMx, LL.rMn, and_assoc, Int.reduceNeg, Int.reduceLT, Int.reduceLE, Int.reduceMul, Int.reduceAdd, Int.reduceSub, Int.reducePow, Int.reduceToNat, Nat.reducePow, Nat.reduceLT, true_or, or_true, Bool.not_true, Bool.not_false, Bool.false_eq_true, Bool.or_false, Bool.or_true, Bool.true_or, Bool.false_or, decide_true, decide_false, not_true_eq_false, not_false_eq_true, LL.scal_int, LL.scal_bl, LL.scal_str, LL.isInt, LL.isBl, LL.isStr, LL.isLst, LL.isTup, LL.isDic])
      exact q
/-- the values of which one that is not among the row is handed out -/
def oddT : List LL.T := [.int (-1), .int 0, .int 1, .int 2, .int 8, .int 15, .int 17, .int 33, .int 48, .int 128, .bl true, .bl false, .non, .str "", .str "worst", .str "16", .lst [], .tup [], .lst [.int 16], .tup [.str "best"]]
def notIn (ns : List Int) (t : LL.T) : Bool := ns.all fun n => !eqI n t
theorem odd_dep : ∀ t ∈ oddT, dep t ≤ 1 := by decide +kernel
def sp_law_not_among (K : PySem.W.Frag) : Sp := fun vs H Q _ => ∃ (d s p : Addr) (ns : List Int), vs = [.ref d, .ref p] ∧ Drw d s H ∧ p ≠ s ∧ H p = some (.lst (ns.map V.int)) ∧ ns.length ≤ 1000 ∧ ∀ v t H', Aft d s H H' → Drw d s H' → Dt (fun a => H a = none) H' v t → dep t ≤ 1 → (∀ n ∈ ns, t ≠ .int n) → Q v H'
theorem use_not_among {K : PySem.W.Frag} {d s p : Addr} {ns : List Int} {H : Hp} {Q : VK} {E : XK} (D : Drw d s H) (hp : p ≠ s) (ep : H p = some (.lst (ns.map V.int))) (hl : ns.length ≤ 1000) (q : ∀ v t H', Aft d s H H' → Drw d s H' → Dt (fun a => H a = none) H' v t → dep t ≤ 1 → (∀ n ∈ ns, t ≠ .int n) → Q v H') : sp_law_not_among K [.ref d, .ref p] H Q E := ⟨d, s, p, ns, rfl, D, hp, ep, hl, q⟩

theorem ok_law_not_among (T : Tx K mg) : FnOk P w K mg base CX0 11 (He.ga K "_law_not_among") T.fd_law_not_among P_law_not_among (sp_law_not_among K) := by
  refine T.F_law_not_among.ok sc_law_not_among (fun vs H Q E h => ?_) (fun cdv A outer s H vs Q E hr h => ⟨_, PSs.nox (pss_cons (ps_set (i := 2) sc_law_not_among.nd rfl (Or.inl rfl) (pe_lst pa_nil)) (pss_cons (ps_for PassesOwn.never rfl (pi_list (pe_lst (pa_cons (pe_un un_neg (pe_int)) (pa_cons (pe_int) (pa_cons (pe_int) (pa_cons (pe_int) (pa_cons (pe_int) (pa_cons (pe_int) (pa_cons (pe_int) (pa_cons (pe_int) (pa_cons (pe_int) (pa_cons (pe_int) (pa_cons (pe_bl) (pa_cons (pe_bl) (pa_cons (pe_non) (pa_cons (pe_str) (pa_cons (pe_str) (pa_cons (pe_str) (pa_cons (pe_lst pa_nil) (pa_cons (pe_tup pa_nil) (pa_cons (pe_lst (pa_cons (pe_int) pa_nil)) (pa_cons (pe_tup (pa_cons (pe_str) pa_nil)) pa_nil)))))))))))))))))))))) (pg_name (i := 3) sc_law_not_among.nd rfl (Or.inl rfl)) (pss_cons (ps_set (i := 4) sc_law_not_among.nd rfl (Or.inl rfl) (pe_bl)) (pss_cons (ps_for PassesOwn.never rfl (pi_list (pv 1)) (pg_name (i := 5) sc_law_not_among.nd rfl (Or.inl rfl)) (pss_one (ps_if (pt_val (pe_call (ok_law_sameI T) (hr.mono (by decide)) rfl T.g_law_same T.F_law_same.kp (b_law_same T) .nil pass0 (pa_cons (pv 3) (pa_cons (pv 5) pa_nil)))) (pss_one (ps_set (i := 4) sc_law_not_among.nd rfl (Or.inl rfl) (pe_bl))) pss_nil))) (pss_one (ps_if (pt_not (pt_val (pv 4))) (pss_one (ps_expr (pe_bm PySem.F.plainAttrs_list PySem.F.slot_list_append PySem.F.type_list_append mt_append (pv 2) (pa_cons (pv 3) pa_nil)))) pss_nil))))) (pss_one (ps_ret (pe_call (ok_law_among T) (hr.mono (by decide)) rfl T.g_law_among T.F_law_among.kp (b_law_among T) .nil pass0 (pa_cons (pv 0) (pa_cons (pv 2) pa_nil))))))), ?_⟩)
  · obtain ⟨_, _, _, _, rfl, _⟩ := h
    rfl
  · obtain ⟨d, s, p, ns, rfl, D, hp, ep, hl, q⟩ := h
    simp only [tSeq, tAsg, tRet, tRetN, tDrop, tNext, tVar, tC, gName, tOp, tUn, rI, rI0, rU, tIfS, tTest, tB, tIf, tAnd, tOr, tNot, tAndV, tOrV, tNotV, tCall, tCons, tNil, tCB, tLst, tTup, tChain, CMul, CDiv, CPow, rEq, rNe, gSub, L2.start, LL.cxK0, LL.cxK1, List.map_cons, List.map_nil, List.length_cons, List.length_nil, List.replicate_succ, List.replicate_zero, List.cons_append, List.nil_append, List.append_nil, List.getElem?_cons_zero, List.getElem?_cons_succ, List.set_cons_zero, List.set_cons_succ, Nat.add_sub_cancel, Nat.reduceAdd, Nat.reduceSub, Option.some.injEq, V.int.injEq, V.bl.injEq, V.ref.injEq, V.str.injEq, List.cons.injEq, and_true, true_and, and_false, false_and, exists_eq_left, exists_eq_left', exists_and_left, exists_and_right, exists_eq, exists_eq', LL.if_dec, reduceCtorEq, exists_false, exists_const, or_false, false_or, if_true, if_false, LL.rInt1, LL.rMx, LL.rMn, and_assoc, Int.reduceNeg, Int.reduceLT, Int.reduceLE, Int.reduceMul, Int.reduceAdd, Int.reduceSub, Int.reducePow, Int.reduceToNat, Nat.reducePow, Nat.reduceLT, true_or, or_true, Bool.not_true, Bool.not_false, Bool.false_eq_true, Bool.or_false, Bool.or_true, Bool.true_or, Bool.false_or, decide_true, decide_false, not_true_eq_false, not_false_eq_true, LL.scal_int, LL.scal_bl, LL.scal_str, LL.isInt, LL.isBl, LL.isStr, LL.isLst, LL.isTup, LL.isDic, N_law_not_among]
    have ep0 := ep
    refine ⟨by decide, ?_⟩
    intro rs nrs
    generalize hq : upd H rs _ = H1
    have sH1 : Same H H1 := hq ▸ Same.new (Same.refl _) nrs
    have ers := hq ▸ (upd_same (H := H) (a := rs))
    clear hq
    replace ep := sH1 _ _ ep
    have nrs2 : ∀ b, H1 b = none → b ≠ rs := fun b hb z => by rw [z, ers] at hb; cases hb
    have hrs := nrs
    replace nrs := D.ne _ nrs
    refine use_forLX (R := fun a xs H' => Same H1 H' ∧ H' a = some (.lst xs) ∧ a ≠ rs ∧ DtL (fun b => H1 b = none) H' xs oddT) (fun Q hQ => ?_)
      (fun a xs i σ' H' => Same H H' ∧ H' a = some (.lst xs) ∧ a ≠ rs ∧ DtL (fun b => H1 b = none) H' xs oddT ∧ (∃ acc, H' rs = some (.lst acc) ∧ DtL (fun b => H1 b = none) H' acc ((oddT.take i).filter (notIn ns))) ∧ ∃ x y z : Option V, σ' = [some (.ref d), some (.ref p), some (.ref rs), x, y, z]) ?_ (fun a xs i σ' H' _ ⟨_, e, _⟩ => SqL.of e) ?_ ?_
    · simp only [tSeq, tAsg, tRet, tRetN, tDrop, tNext, tVar, tC, gName, tOp, tUn, rI, rI0, rU, tIfS, tTest, tB, tIf, tAnd, tOr, tNot, tAndV, tOrV, tNotV, tCall, tCons, tNil, tCB, tLst, tTup, tChain, CMul, CDiv, CPow, rEq, rNe, gSub, L2.start, LL.cxK0, LL.cxK1, List.map_cons, List.map_nil, List.length_cons, List.length_nil, List.replicate_succ, List.replicate_zero, List.cons_append, List.nil_append, List.append_nil, List.getElem?_cons_zero, List.getElem?_cons_succ, List.set_cons_zero, List.set_cons_succ, Nat.add_sub_cancel, Nat.reduceAdd, Nat.reduceSub, Option.some.injEq, V.int.injEq, V.bl.injEq, V.ref.injEq, V.str.injEq, List.cons.injEq, and_true, true_and, and_false, false_and, exists_eq_left, exists_eq_left', exists_and_left, exists_and_right, exists_eq, exists_eq', LL.if_dec, reduceCtorEq, exists_false, exists_const, or_false, false_or, if_true, if_false, LL.rInt1, LL.rMx, LL.rMn, and_assoc, Int.reduceNeg, Int.reduceLT, Int.reduceLE, Int.reduceMul, Int.reduceAdd, Int.reduceSub, Int.reducePow, Int.reduceToNat, Nat.reducePow, Nat.reduceLT, true_or, or_true, Bool.not_true, Bool.not_false, Bool.false_eq_true, Bool.or_false, Bool.or_true, Bool.true_or, Bool.false_or, decide_true, decide_false, not_true_eq_false, not_false_eq_true, LL.scal_int, LL.scal_bl, LL.scal_str, LL.isInt, LL.isBl, LL.isStr, LL.isLst, LL.isTup, LL.isDic]
      refine ⟨by decide, ?_⟩
      intro q1 nq1
      generalize hq : upd H1 q1 _ = H2
      have sH2 : Same H1 H2 := hq ▸ Same.new (Same.refl _) nq1
      have eq1 := hq ▸ (upd_same (H := H1) (a := q1))
      clear hq
      refine ⟨by decide, ?_⟩
      intro q2 nq2
      generalize hq : upd H2 q2 _ = H3
      have sH3 : Same H2 H3 := hq ▸ Same.new (Same.refl _) nq2
      have eq2 := hq ▸ (upd_same (H := H2) (a := q2))
      clear hq
      replace eq1 := sH3 _ _ eq1
      refine ⟨by decide, ?_⟩
      intro q3 nq3
      generalize hq : upd H3 q3 _ = H4
      have sH4 : Same H3 H4 := hq ▸ Same.new (Same.refl _) nq3
      have eq3 := hq ▸ (upd_same (H := H3) (a := q3))
      clear hq
      replace eq1 := sH4 _ _ eq1
      replace eq2 := sH4 _ _ eq2
      refine ⟨by decide, ?_⟩
      intro q4 nq4
      generalize hq : upd H4 q4 _ = H5
      have sH5 : Same H4 H5 := hq ▸ Same.new (Same.refl _) nq4
      have eq4 := hq ▸ (upd_same (H := H4) (a := q4))
      clear hq
      replace eq1 := sH5 _ _ eq1
      replace eq2 := sH5 _ _ eq2
      replace eq3 := sH5 _ _ eq3
      refine ⟨by decide, ?_⟩
      intro q5 nq5
      generalize hq : upd H5 q5 _ = H6
      have sH6 : Same H5 H6 := hq ▸ Same.new (Same.refl _) nq5
      have eq5 := hq ▸ (upd_same (H := H5) (a := q5))
      clear hq
      replace eq1 := sH6 _ _ eq1
      replace eq2 := sH6 _ _ eq2
      replace eq3 := sH6 _ _ eq3
      replace eq4 := sH6 _ _ eq4
      have f2 := sH2.free nq2
      have f3 := (sH2.trans sH3).free nq3
      have f4 := ((sH2.trans sH3).trans sH4).free nq4
      have f5 := (((sH2.trans sH3).trans sH4).trans sH5).free nq5
      refine hQ _ _ _ ⟨(((sH2.trans sH3).trans sH4).trans sH5).trans sH6, eq5, nrs2 _ f5, ?_⟩
      have it : ∀ i : Int, Dt (fun b => H1 b = none) H6 (.int i) (.int i) := fun _ => rfl
      have bt : ∀ i : Bool, Dt (fun b => H1 b = none) H6 (.bl i) (.bl i) := fun _ => rfl
      have st : ∀ i : Str, Dt (fun b => H1 b = none) H6 (.str i) (.str i) := fun _ => rfl
      exact .cons (it _) (.cons (it _) (.cons (it _) (.cons (it _) (.cons (it _) (.cons (it _) (.cons (it _) (.cons (it _) (.cons (it _) (.cons (it _) (.cons (bt _) (.cons (bt _) (.cons rfl (.cons (st _) (.cons (st _) (.cons (st _) (.cons ⟨q1, _, rfl, nq1, eq1, rfl, by simp⟩ (.cons ⟨q2, _, rfl, f2, eq2, rfl, by simp⟩ (.cons ⟨q3, _, rfl, f3, eq3, .one rfl, by simp⟩ (.one ⟨q4, _, rfl, f4, eq4, .one rfl, by simp⟩)))))))))))))))))))
    · rintro a xs H' ⟨s1, ea, na, hx⟩
      exact ⟨sH1.trans s1, ea, na, hx, ⟨[], s1 _ _ ers, rfl⟩, _, _, _, rfl⟩
    · rintro a xs i x σ' H' hi ⟨s1, ea, na, hx, ⟨acc, er, hacc⟩, y1, y2, y3, rfl⟩
      obtain ⟨t, et, dt⟩ := hx.get _ hi
      simp only [tSeq, tAsg, tRet, tRetN, tDrop, tNext, tVar, tC, gName, tOp, tUn, rI, rI0, rU, tIfS, tTest, tB, tIf, tAnd, tOr, tNot, tAndV, tOrV, tNotV, tCall, tCons, tNil, tCB, tLst, tTup, tChain, CMul, CDiv, CPow, rEq, rNe, gSub, L2.start, LL.cxK0, LL.cxK1, List.map_cons, List.map_nil, List.length_cons, List.length_nil, List.replicate_succ, List.replicate_zero, List.cons_append, List.nil_append, List.append_nil, List.getElem?_cons_zero, List.getElem?_cons_succ, List.set_cons_zero, List.set_cons_succ, Nat.add_sub_cancel, Nat.reduceAdd, Nat.reduceSub, Option.some.injEq, V.int.injEq, V.bl.injEq, V.ref.injEq, V.str.injEq, List.cons.injEq, and_true, true_and, and_false, false_and, exists_eq_left, exists_eq_left', exists_and_left, exists_and_right, exists_eq, exists_eq', LL.if_dec, reduceCtorEq, exists_false, exists_const, or_false, false_or, if_true, if_false, LL.rInt1, LL.rMx, LL.rMn, and_assoc, Int.reduceNeg, Int.reduceLT, Int.reduceLE, Int.reduceMul, Int.reduceAdd, Int.reduceSub, Int.reducePow, Int.reduceToNat, Nat.reducePow, Nat.reduceLT, true_or, or_true, Bool.not_true, Bool.not_false, Bool.false_eq_true, Bool.or_false, Bool.or_true, Bool.true_or, Bool.false_or, decide_true, decide_false, not_true_eq_false, not_false_eq_true, LL.scal_int, LL.scal_bl, LL.scal_str, LL.isInt, LL.isBl, LL.isStr, LL.isLst, LL.isTup, LL.isDic]
      refine use_forL (a := p) (xs := ns.map V.int) (fun Q q => ⟨_, rfl, q⟩) (fun j σ' H2 => H2 = H' ∧ ∃ z : Option V, σ' = [some (.ref d), some (.ref p), some (.ref rs), some x, some (.bl (!notIn (ns.take j) t)), z]) ⟨rfl, _, rfl⟩ (fun j σ' H2 _ ⟨e, _⟩ => by rw [e]; exact SqL.of (s1 _ _ ep0)) ?_ ?_
      · rintro j m σ' H2 hj ⟨rfl, z, rfl⟩
        rw [List.getElem?_map] at hj
        obtain ⟨n, hn, rfl⟩ := Option.map_eq_some_iff.mp hj
        simp only [tSeq, tAsg, tRet, tRetN, tDrop, tNext, tVar, tC, gName, tOp, tUn, rI, rI0, rU, tIfS, tTest, tB, tIf, tAnd, tOr, tNot, tAndV, tOrV, tNotV, tCall, tCons, tNil, tCB, tLst, tTup, tChain, CMul, CDiv, CPow, rEq, rNe, gSub, L2.start, LL.cxK0, LL.cxK1, List.map_cons, List.map_nil, List.length_cons, List.length_nil, List.replicate_succ, List.replicate_zero, List.cons_append, List.nil_append, List.append_nil, List.getElem?_cons_zero, List.getElem?_cons_succ, List.set_cons_zero, List.set_cons_succ, Nat.add_sub_cancel, Nat.reduceAdd, Nat.reduceSub, Option.some.injEq, V.int.injEq, V.bl.injEq, V.ref.injEq, V.str.injEq, List.cons.injEq, and_true, true_and, and_false, false_and, exists_eq_left, exists_eq_left', exists_and_left, exists_and_right, exists_eq, exists_eq', LL.if_dec, reduceCtorEq, exists_false, exists_const, or_false, false_or, if_true, if_false, LL.rInt1, LL.rMx, LL.rMn, and_assoc, Int.reduceNeg, Int.reduceLT, Int.reduceLE, Int.reduceMul, Int.reduceAdd, Int.reduceSub, Int.reducePow, Int.reduceToNat, Nat.reducePow, Nat.reduceLT, true_or, or_true, Bool.not_true, Bool.not_false, Bool.false_eq_true, Bool.or_false, Bool.or_true, Bool.true_or, Bool.false_or, decide_true, decide_false, not_true_eq_false, not_false_eq_true, LL.scal_int, LL.scal_bl, LL.scal_str, LL.isInt, LL.isBl, LL.isStr, LL.isLst, LL.isTup, LL.isDic]
        refine ⟨_, _, t, n, rfl, dt, _, rfl, ?_⟩
        have e1 : notIn (ns.take (j + 1)) t = (notIn (ns.take j) t && !eqI n t) := by unfold notIn; rw [take_one hn, List.all_append]; simp
        refine itei (fun h => ⟨rfl, ?_⟩) (fun h => ⟨rfl, ?_⟩)
        · rw [e1, h]; simp
        · rw [e1, show eqI n t = false by cases hh : eqI n t; rfl; exact absurd hh h]; simp
      · rintro σ' H2 ⟨rfl, z, rfl⟩
        simp only [tSeq, tAsg, tRet, tRetN, tDrop, tNext, tVar, tC, gName, tOp, tUn, rI, rI0, rU, tIfS, tTest, tB, tIf, tAnd, tOr, tNot, tAndV, tOrV, tNotV, tCall, tCons, tNil, tCB, tLst, tTup, tChain, CMul, CDiv, CPow, rEq, rNe, gSub, L2.start, LL.cxK0, LL.cxK1, List.map_cons, List.map_nil, List.length_cons, List.length_nil, List.replicate_succ, List.replicate_zero, List.cons_append, List.nil_append, List.append_nil, List.getElem?_cons_zero, List.getElem?_cons_succ, List.set_cons_zero, List.set_cons_succ, Nat.add_sub_cancel, Nat.reduceAdd, Nat.reduceSub, Option.some.injEq, V.int.injEq, V.bl.injEq, V.ref.injEq, V.str.injEq, List.cons.injEq, and_true, true_and, and_false, false_and, exists_eq_left, exists_eq_left', exists_and_left, exists_and_right, exists_eq, exists_eq', LL.if_dec, reduceCtorEq, exists_false, exists_const, or_false, false_or, if_true, if_false, LL.rInt1, LL.rMx, LL.rMn, and_assoc, Int.reduceNeg, Int.reduceLT, Int.reduceLE, Int.reduceMul, Int.reduceAdd, Int.reduceSub, Int.reducePow, Int.reduceToNat, Nat.reducePow, Nat.reduceLT, true_or, or_true, Bool.not_true, Bool.not_false, Bool.false_eq_true, Bool.or_false, Bool.or_true, Bool.true_or, Bool.false_or, decide_true, decide_false, not_true_eq_false, not_false_eq_true, LL.scal_int, LL.scal_bl, LL.scal_str, LL.isInt, LL.isBl, LL.isStr, LL.isLst, LL.isTup, LL.isDic]
        rw [List.length_map, List.take_length]
        have e2 : (oddT.take (i + 1)).filter (notIn ns) = (oddT.take i).filter (notIn ns) ++ (if notIn ns t = true then [t] else []) := by
          rw [take_one et, List.filter_append]
          simp [List.filter_cons]
        refine itei (fun h => ?_) (fun h => ?_)
        · have h : notIn ns t = true := by simpa using h
          rw [e2, if_pos h]
          simp only [tSeq, tAsg, tRet, tRetN, tDrop, tNext, tVar, tC, gName, tOp, tUn, rI, rI0, rU, tIfS, tTest, tB, tIf, tAnd, tOr, tNot, tAndV, tOrV, tNotV, tCall, tCons, tNil, tCB, tLst, tTup, tChain, CMul, CDiv, CPow, rEq, rNe, gSub, L2.start, LL.cxK0, LL.cxK1, List.map_cons, List.map_nil, List.length_cons, List.length_nil, List.replicate_succ, List.replicate_zero, List.cons_append, List.nil_append, List.append_nil, List.getElem?_cons_zero, List.getElem?_cons_succ, List.set_cons_zero, List.set_cons_succ, Nat.add_sub_cancel, Nat.reduceAdd, Nat.reduceSub, Option.some.injEq, V.int.injEq, V.bl.injEq, V.ref.injEq, V.str.injEq, List.cons.injEq, and_true, true_and, and_false, false_and, exists_eq_left, exists_eq_left', exists_and_left, exists_and_right, exists_eq, exists_eq', LL.if_dec, reduceCtorEq, exists_false, exists_const, or_false, false_or, if_true, if_false, LL.rInt1, LL.rMx, LL.rMn, and_assoc, Int.reduceNeg, Int.reduceLT, Int.reduceLE, Int.reduceMul, Int.reduceAdd, Int.reduceSub, Int.reducePow, Int.reduceToNat, Nat.reducePow, Nat.reduceLT, true_or, or_true, Bool.not_true, Bool.not_false, Bool.false_eq_true, Bool.or_false, Bool.or_true, Bool.true_or, Bool.false_or, decide_true, decide_false, not_true_eq_false, not_false_eq_true, LL.scal_int, LL.scal_bl, LL.scal_str, LL.isInt, LL.isBl, LL.isStr, LL.isLst, LL.isTup, LL.isDic, tBM]
          refine ⟨ty_list er, use_append er (small_sz ?_) ?_⟩
          · rw [hacc.len]
            exact Nat.le_trans (List.length_filter_le _ _) (by rw [List.length_take]; exact Nat.le_trans (Nat.min_le_right _ _) (by decide))
          · refine ⟨Same.own s1 hrs, by rw [upd_ne na]; exact ea, na, hx.off nrs2, _, upd_same, DtL.app _ (hacc.off nrs2) (.one (dt.off nrs2))⟩
        · have h : ¬ notIn ns t = true := by simpa using h
          rw [e2, if_neg h, List.append_nil]
          exact ⟨s1, ea, na, hx, acc, er, hacc⟩
    · rintro a xs σ' H' ⟨s1, ea, na, hx, ⟨acc, er, hacc⟩, y1, y2, y3, rfl⟩
      simp only [tSeq, tAsg, tRet, tRetN, tDrop, tNext, tVar, tC, gName, tOp, tUn, rI, rI0, rU, tIfS, tTest, tB, tIf, tAnd, tOr, tNot, tAndV, tOrV, tNotV, tCall, tCons, tNil, tCB, tLst, tTup, tChain, CMul, CDiv, CPow, rEq, rNe, gSub, L2.start, LL.cxK0, LL.cxK1, List.map_cons, List.map_nil, List.length_cons, List.length_nil, List.replicate_succ, List.replicate_zero, List.cons_append, List.nil_append, List.append_nil, List.getElem?_cons_zero, List.getElem?_cons_succ, List.set_cons_zero, List.set_cons_succ, Nat.add_sub_cancel, Nat.reduceAdd, Nat.reduceSub, Option.some.injEq, V.int.injEq, V.bl.injEq, V.ref.injEq, V.str.injEq, List.cons.injEq, and_true, true_and, and_false, false_and, exists_eq_left, exists_eq_left', exists_and_left, exists_and_right, exists_eq, exists_eq', LL.if_dec, reduceCtorEq, exists_false, exists_const, or_false, false_or, if_true, if_false, LL.rInt1, LL.rMx, LL.rMn, and_assoc, Int.reduceNeg, Int.reduceLT, Int.reduceLE, Int.reduceMul, Int.reduceAdd, Int.reduceSub, Int.reducePow, Int.reduceToNat, Nat.reducePow, Nat.reduceLT, true_or, or_true, Bool.not_true, Bool.not_false, Bool.false_eq_true, Bool.or_false, Bool.or_true, Bool.true_or, Bool.false_or, decide_true, decide_false, not_true_eq_false, not_false_eq_true, LL.scal_int, LL.scal_bl, LL.scal_str, LL.isInt, LL.isBl, LL.isStr, LL.isLst, LL.isTup, LL.isDic]
      rw [hx.len, List.take_length] at hacc
      have hpos : 0 < ((oddT).filter (notIn ns)).length := List.length_pos_of_mem (a := .bl true) (List.mem_filter.mpr ⟨by simp [oddT], by simp [notIn, eqI]⟩)
      have hle : ((oddT).filter (notIn ns)).length ≤ 20 := List.length_filter_le _ _
      refine use_among (D.same s1) nrs er (by rw [hacc.len]; exact hpos) (by rw [hacc.len]; omega) fun v hv H2 a2 D2 => ?_
      obtain ⟨j, hj⟩ := List.getElem?_of_mem hv
      obtain ⟨t, et, dt⟩ := hacc.get _ hj
      obtain ⟨m1, m2⟩ := List.mem_filter.mp (List.mem_of_getElem? et)
      refine q v t H2 ((Aft.same D s1).trans a2) D2 ((dt.kp (fun b hb => D.ne b (sH1.free hb)) a2.kp).to fun b hb => sH1.free hb) (odd_dep t m1) fun n hn e => ?_
      have := List.all_eq_true.mp m2 n hn
      rw [e] at this
      simp [eqI] at this
end K25

namespace K25
open PySem PySem.Spec PyProof.Rows L2 LL
variable {P : Program} {w : World} {K : PySem.W.Frag} {mg : Str → Option Value} {base : Heap}

def widB : LL.T → Bool
  | .int i => decide (i = 16 ∨ i = 32 ∨ i = 64)
  | _ => false
def sp_is_width : Sp := fun vs H Q _ => ∃ (F : Addr → Prop) (v : V) (t : LL.T), vs = [v] ∧ Dt F H v t ∧ Q (.bl (widB t)) H
theorem wid_of {t : LL.T} (h : widB t = true) : ∃ i, t = .int i ∧ (i = 16 ∨ i = 32 ∨ i = 64) := by
  cases t with
  | int i => exact ⟨i, rfl, of_decide_eq_true h⟩
  | _ => cases h

theorem ok_is_width (T : Tx K mg) : FnOk P w K mg base CX0 2 (He.ga K "is_width") T.fd_is_width P_is_width sp_is_width := by
  refine T.F_is_width.ok sc_is_width (fun vs H Q E h => ?_) (fun cdv A outer s H vs Q E hr h => ⟨_, PSs.nox (pss_one (ps_ret ((pe_and (pe_call (ok_is_whole T) hr rfl T.g_is_whole T.F_is_whole.kp (b_is_whole T) .nil pass0 (pa_cons (pv 0) pa_nil)) (pe_one (pe_cmpR op_in_seq (pv 0) (pe_glob (v := .ref (He.ga K "WIDTHS")) (u := .ref (He.ga K "WIDTHS")) rfl T.g_WIDTHS rfl) (by rfl))))))), ?_⟩)
  · obtain ⟨_, _, _, rfl, _⟩ := h
    rfl
  · obtain ⟨F, v, t, rfl, hd, q⟩ := h
    simp only [tSeq, tAsg, tRet, tRetN, tDrop, tNext, tVar, tC, gName, tOp, tUn, rI, rI0, rU, tIfS, tTest, tB, tIf, tAnd, tOr, tNot, tAndV, tOrV, tNotV, tCall, tCons, tNil, tCB, tLst, tTup, tChain, CMul, CDiv, CPow, rEq, rNe, gSub, L2.start, LL.cxK0, LL.cxK1, List.map_cons, List.map_nil, List.length_cons, List.length_nil, List.replicate_succ, List.replicate_zero, List.cons_append, List.nil_append, List.append_nil, List.getElem?_cons_zero, List.getElem?_cons_succ, List.set_cons_zero, List.set_cons_succ, Nat.add_sub_cancel, Nat.reduceAdd, Nat.reduceSub, Option.some.injEq, V.int.injEq, V.bl.injEq, V.ref.injEq, V.str.injEq, List.cons.injEq, and_true, true_and, and_false, false_and, exists_eq_left, exists_eq_left', exists_and_left, exists_and_right, exists_eq, exists_eq', LL.if_dec, reduceCtorEq, exists_false, exists_const, or_false, false_or, if_true, if_false, LL.rInt1, LL.rMx, LL.rMn, and_assoc, Int.reduceNeg, Int.reduceLT, Int.reduceLE, Int.reduceMul, Int.reduceAdd, Int.reduceSub, Int.reducePow, Int.reduceToNat, Nat.reducePow, Nat.reduceLT, true_or, or_true, Bool.not_true, Bool.not_false, Bool.false_eq_true, Bool.or_false, Bool.or_true, Bool.true_or, Bool.false_or, decide_true, decide_false, not_true_eq_false, not_false_eq_true, LL.scal_int, LL.scal_bl, LL.scal_str, LL.isInt, LL.isBl, LL.isStr, LL.isLst, LL.isTup, LL.isDic, N_is_width]
    refine use_isint hd ?_
    cases t with
    | int i =>
      obtain rfl : v = V.int i := hd
      simp only [tSeq, tAsg, tRet, tRetN, tDrop, tNext, tVar, tC, gName, tOp, tUn, rI, rI0, rU, tIfS, tTest, tB, tIf, tAnd, tOr, tNot, tAndV, tOrV, tNotV, tCall, tCons, tNil, tCB, tLst, tTup, tChain, CMul, CDiv, CPow, rEq, rNe, gSub, L2.start, LL.cxK0, LL.cxK1, List.map_cons, List.map_nil, List.length_cons, List.length_nil, List.replicate_succ, List.replicate_zero, List.cons_append, List.nil_append, List.append_nil, List.getElem?_cons_zero, List.getElem?_cons_succ, List.set_cons_zero, List.set_cons_succ, Nat.add_sub_cancel, Nat.reduceAdd, Nat.reduceSub, Option.some.injEq, V.int.injEq, V.bl.injEq, V.ref.injEq, V.str.injEq, List.cons.injEq, and_true, true_and, and_false, false_and, exists_eq_left, exists_eq_left', exists_and_left, exists_and_right, exists_eq, exists_eq', LL.if_dec, reduceCtorEq, exists_false, exists_const, or_false, false_or, if_true, if_false, LL.rInt1, LL.rMx, LL.rMn, and_assoc, Int.reduceNeg, Int.reduceLT, Int.reduceLE, Int.reduceMul, Int.reduceAdd, Int.reduceSub, Int.reducePow, Int.reduceToNat, Nat.reducePow, Nat.reduceLT, true_or, or_true, Bool.not_true, Bool.not_false, Bool.false_eq_true, Bool.or_false, Bool.or_true, Bool.true_or, Bool.false_or, decide_true, decide_false, not_true_eq_false, not_false_eq_true, LL.scal_int, LL.scal_bl, LL.scal_str, LL.isInt, LL.isBl, LL.isStr, LL.isLst, LL.isTup, LL.isDic]
      refine ⟨_, _, rfl, .inr (T.w_WIDTHS H), rfl, rfl, ?_⟩
      have e : inV (V.int i) [V.int 16, V.int 32, V.int 64] = widB (.int i) := by
        rw [Bool.eq_iff_iff]
        simp only [inV, eqV, widB, List.any_cons, List.any_nil, Bool.or_eq_true, Bool.or_false, beq_iff_eq, decide_eq_true_eq]
        omega
      show Q (V.bl (inV (V.int i) [V.int 16, V.int 32, V.int 64])) H
      rw [e]
      exact q
    | _ =>
      simp only [tSeq, tAsg, tRet, tRetN, tDrop, tNext, tVar, tC, gName, tOp, tUn, rI, rI0, rU, tIfS, tTest, tB, tIf, tAnd, tOr, tNot, tAndV, tOrV, tNotV, tCall, tCons, tNil, tCB, tLst, tTup, tChain, CMul, CDiv, CPow, rEq, rNe, gSub, L2.start, LL.cxK0, LL.cxK1, List.map_cons, List.map_nil, List.length_cons, List.length_nil, List.replicate_succ, List.replicate_zero, List.cons_append, List.nil_append, List.append_nil, List.getElem?_cons_zero, List.getElem?_cons_succ, List.set_cons_zero, List.set_cons_succ, Nat.add_sub_cancel, Nat.reduceAdd, Nat.reduceSub, Option.some.injEq, V.int.injEq, V.bl.injEq, V.ref.injEq, V.str.injEq, List.cons.injEq, and_true, true_and, and_false, false_and, exists_eq_left, exists_eq_left', exists_and_left, exists_and_right, exists_eq, exists_eq', LL.if_dec, reduceCtorEq, exists_false, exists_const, or_false, false_or, if_true, if_false, LL.rInt1, LL.rMx, LL.rMn, and_assoc, Int.reduceNeg, Int.reduceLT, Int.reduceLE, Int.reduceMul, Int.reduceAdd, Int.reduceSub, Int.reducePow, Int.reduceToNat, Nat.reducePow, Nat.reduceLT, true_or, or_true, Bool.not_true, Bool.not_false, Bool.false_eq_true, Bool.or_false, Bool.or_true, Bool.true_or, Bool.false_or, decide_true, decide_false, not_true_eq_false, not_false_eq_true, LL.scal_int, LL.scal_bl, LL.scal_str, LL.isInt, LL.isBl, LL.isStr, LL.isLst, LL.isTup, LL.isDic]
      exact q
def intT : LL.T → Int
  | .int i => i
  | _ => 0
/-- what is wrong first -/
def shBad (a b c e : LL.T) : Option Str := if widB a = false then some "width" else if ¬ InR 0 8 b then some "order" else if ¬ InR 1 4096 c then some "size" else if alB (intT a) e = false then some "align" else none
def strd (z a : Int) : Int := z + a - z % a
def slts (w k z a : Int) : Int := (w * 2 ^ k.toNat - a) / strd z a
def cols (w k z a : Int) : Int := (w * 2 ^ k.toNat - a - slts w k z a * strd z a) / a + 1
/-- the shape -/
def shT (w k z a : Int) : LL.T := if slts w k z a = 0 then .non else .tup [.int (strd z a), .int (slts w k z a), .int (cols w k z a)]
structure Shp (w k z : Int) (j : Nat) : Prop where
  hw : w = 16 ∨ w = 32 ∨ w = 64
  k0 : 0 ≤ k
  k1 : k ≤ 8
  z0 : 1 ≤ z
  z1 : z ≤ 4096
  ha : (2 : Int) ^ j ≤ w
theorem shp_of {a b c e : LL.T} (h : shBad a b c e = none) : ∃ (w k z : Int) (j : Nat), a = .int w ∧ b = .int k ∧ c = .int z ∧ e = .int (2 ^ j) ∧ Shp w k z j := by
  unfold shBad at h
  by_cases h1 : widB a = false
  · rw [if_pos h1] at h; cases h
  · rw [if_neg h1] at h
    by_cases h2 : InR 0 8 b
    · rw [if_neg (by simpa using h2)] at h
      by_cases h3 : InR 1 4096 c
      · rw [if_neg (by simpa using h3)] at h
        by_cases h4 : alB (intT a) e = false
        · rw [if_pos h4] at h; cases h
        · obtain ⟨w, rfl, hw⟩ := wid_of (by cases hh : widB a; exact absurd hh h1; rfl)
          obtain ⟨k, rfl, k0, k1⟩ := inr_int h2
          obtain ⟨z, rfl, z0, z1⟩ := inr_int h3
          obtain ⟨j, rfl, j0, j1⟩ := al_pos (m := w) (u := e) (by cases hh : alB w e; exact absurd hh h4; rfl)
          exact ⟨w, k, z, j, rfl, rfl, rfl, rfl, hw, k0, k1, z0, z1, j0⟩
      · rw [if_pos h3] at h; cases h
    · rw [if_pos h2] at h; cases h
def sp_need_shape (K : PySem.W.Frag) : Sp := fun vs H Q E => ∃ (F1 F2 F3 F4 : Addr → Prop) (v1 v2 v3 v4 : V) (t1 t2 t3 t4 : LL.T), vs = [v1, v2, v3, v4] ∧ Dt F1 H v1 t1 ∧ Dt F2 H v2 t2 ∧ Dt F3 H v3 t3 ∧ Dt F4 H v4 t4 ∧
  (∀ n, shBad t1 t2 t3 t4 = some n → ∀ d H', BadH H H' d (.str n) → E (.ref (aBV K)) (some d) H') ∧ (shBad t1 t2 t3 t4 = none → Q .non H)
def sp_slab_shape (K : PySem.W.Frag) : Sp := fun vs H Q E => ∃ (F1 F2 F3 F4 : Addr → Prop) (v1 v2 v3 v4 : V) (t1 t2 t3 t4 : LL.T), vs = [v1, v2, v3, v4] ∧ Dt F1 H v1 t1 ∧ Dt F2 H v2 t2 ∧ Dt F3 H v3 t3 ∧ Dt F4 H v4 t4 ∧
  (∀ n, shBad t1 t2 t3 t4 = some n → ∀ d H', BadH H H' d (.str n) → E (.ref (aBV K)) (some d) H') ∧ (shBad t1 t2 t3 t4 = none → ∀ r H', Same H H' → Dt (fun a => H a = none) H' r (shT (intT t1) (intT t2) (intT t3) (intT t4)) → Q r H')

theorem ok_need_shape (T : Tx K mg) : FnOk P w K mg base (L2.CX P w) 5 (He.ga K "need_shape") T.fd_need_shape P_need_shape (sp_need_shape K) := by
  refine T.F_need_shape.ok sc_need_shape (fun vs H Q E h => ?_) (fun cdv A outer s H vs Q E hr h => ⟨_, (pss_cons (ps_expr (pe_call (ok_need T) (hr.mono (by decide)) rfl T.g_need T.F_need.kp (b_need T) .nil (passR (takes_of rfl rfl rfl rfl) (fun _ _ _ _ h => h)) (pa_cons (pe_call (ok_is_width T) (hr.mono (by decide)) rfl T.g_is_width T.F_is_width.kp (b_is_width T) .nil pass0 (pa_cons (pv 0) pa_nil)) (pa_cons (pe_str) pa_nil)))) (pss_cons (ps_expr (pe_call (ok_need_whole T) (hr.mono (by decide)) rfl T.g_need_whole T.F_need_whole.kp (b_need_whole T) .nil (passR (takes_of rfl rfl rfl rfl) (fun _ _ _ _ h => h)) (pa_cons (pv 1) (pa_cons (pe_int) (pa_cons (pe_glob (v := .int 8) rfl T.c_MOST_ORDER.choose_spec ⟨_, rfl⟩) (pa_cons (pe_str) pa_nil)))))) (pss_cons (ps_expr (pe_call (ok_need_whole T) (hr.mono (by decide)) rfl T.g_need_whole T.F_need_whole.kp (b_need_whole T) .nil (passR (takes_of rfl rfl rfl rfl) (fun _ _ _ _ h => h)) (pa_cons (pv 2) (pa_cons (pe_int) (pa_cons (pe_glob (v := .int 4096) rfl T.c_MOST_SLOT.choose_spec ⟨_, rfl⟩) (pa_cons (pe_str) pa_nil)))))) (pss_one (ps_expr (pe_call (ok_need_align T) hr rfl T.g_need_align T.F_need_align.kp (b_need_align T) .nil (passR (takes_of rfl rfl rfl rfl) (fun _ _ _ _ h => h)) (pa_cons (pv 3) (pa_cons (pv 0) (pa_cons (pe_str) pa_nil))))))))), ?_⟩)
  · obtain ⟨_, _, _, _, _, _, _, _, _, _, _, _, rfl, _⟩ := h
    rfl
  · obtain ⟨F1, F2, F3, F4, v1, v2, v3, v4, t1, t2, t3, t4, rfl, d1, d2, d3, d4, q1, q2⟩ := h
    simp only [tSeq, tAsg, tRet, tRetN, tDrop, tNext, tVar, tC, gName, tOp, tUn, rI, rI0, rU, tIfS, tTest, tB, tIf, tAnd, tOr, tNot, tAndV, tOrV, tNotV, tCall, tCons, tNil, tCB, tLst, tTup, tChain, CMul, CDiv, CPow, rEq, rNe, gSub, L2.start, LL.cxK0, LL.cxK1, List.map_cons, List.map_nil, List.length_cons, List.length_nil, List.replicate_succ, List.replicate_zero, List.cons_append, List.nil_append, List.append_nil, List.getElem?_cons_zero, List.getElem?_cons_succ, List.set_cons_zero, List.set_cons_succ, Nat.add_sub_cancel, Nat.reduceAdd, Nat.reduceSub, Option.some.injEq, V.int.injEq, V.bl.injEq, V.ref.injEq, V.str.injEq, List.cons.injEq, and_true, true_and, and_false, false_and, exists_eq_left, exists_eq_left', exists_and_left, exists_and_right, exists_eq, exists_eq', LL.if_dec, reduceCtorEq, exists_false, exists_const, or_false, false_or, if_true, if_false, LL.rInt1, LL.rMx, LL.rMn, and_assoc, Int.reduceNeg, Int.reduceLT, Int.reduceLE, Int.reduceMul, Int.reduceAdd, Int.reduceSub, Int.reducePow, Int.reduceToNat, Nat.reducePow, Nat.reduceLT, true_or, or_true, Bool.not_true, Bool.not_false, Bool.false_eq_true, Bool.or_false, Bool.or_true, Bool.true_or, Bool.false_or, decide_true, decide_false, not_true_eq_false, not_false_eq_true, LL.scal_int, LL.scal_bl, LL.scal_str, LL.isInt, LL.isBl, LL.isStr, LL.isLst, LL.isTup, LL.isDic, N_need_shape]
    refine ⟨F1, v1, t1, rfl, d1, ?_⟩
    refine use_need (fun hw => ?_) (fun hw => q1 _ (by unfold shBad; rw [if_pos hw]))
    have hw' : ¬ widB t1 = false := by rw [hw]; simp
    refine ⟨F2, v2, .str "order", t2, 0, 8, rfl, d2, fun r2 => ?_, fun r2 => q1 _ (by unfold shBad; rw [if_neg hw', if_pos r2])⟩
    refine ⟨F3, v3, .str "size", t3, 1, 4096, rfl, d3, fun r3 => ?_, fun r3 => q1 _ (by unfold shBad; rw [if_neg hw', if_neg (by simpa using r2), if_pos r3])⟩
    obtain ⟨w, rfl, hw2⟩ := wid_of hw
    obtain rfl : v1 = V.int w := d1
    refine ⟨F4, v4, t4, w, .str "align", rfl, d4, fun r4 => q2 ?_, fun r4 => q1 _ ?_⟩
    · unfold shBad
      rw [if_neg hw', if_neg (by simpa using r2), if_neg (by simpa using r3), if_neg (by show ¬ alB w t4 = false; rw [r4]; simp)]
    · unfold shBad
      rw [if_neg hw', if_neg (by simpa using r2), if_neg (by simpa using r3)]
      exact if_pos (show alB w t4 = false from r4)
theorem strd_pos {w k z : Int} {j : Nat} (h : Shp w k z j) : 0 < strd z (2 ^ j) ∧ z < strd z (2 ^ j) ∧ strd z (2 ^ j) ≤ z + 2 ^ j := by
  have hp := pow_pos' j
  have m1 := Int.emod_nonneg z (show (2 : Int) ^ j ≠ 0 by omega)
  have m2 := Int.emod_lt_of_pos z hp
  have := h.z0
  unfold strd
  omega
theorem pow8 {k : Int} (h0 : 0 ≤ k) (h1 : k ≤ 8) : (1 : Int) ≤ 2 ^ k.toNat ∧ (2 : Int) ^ k.toNat ≤ 256 := by
  have h3 : 2 ^ k.toNat ≤ 2 ^ 8 := Nat.pow_le_pow_right (by decide) (by omega)
  have e : ((2 ^ k.toNat : Nat) : Int) = (2 : Int) ^ k.toNat := Int.natCast_pow 2 _
  have := Nat.pow_pos (n := k.toNat) (show 0 < 2 by decide)
  omega
theorem room_b {w k z : Int} {j : Nat} (h : Shp w k z j) : 0 ≤ w * 2 ^ k.toNat - 2 ^ j ∧ w * 2 ^ k.toNat ≤ 16384 := by
  obtain ⟨a, b⟩ := pow8 h.k0 h.k1
  have h2 : w * 1 ≤ w * 2 ^ k.toNat := Int.mul_le_mul_of_nonneg_left a (by have := h.hw; omega)
  have h3 : w * 2 ^ k.toNat ≤ w * 256 := Int.mul_le_mul_of_nonneg_left b (by have := h.hw; omega)
  have := h.ha
  have := h.hw
  omega

theorem ok_slab_shape (T : Tx K mg) : FnOk P w K mg base (L2.CX P w) 6 (He.ga K "slab_shape") T.fd_slab_shape P_slab_shape (sp_slab_shape K) := by
  refine T.F_slab_shape.ok sc_slab_shape (fun vs H Q E h => ?_) (fun cdv A outer s H vs Q E hr h => ⟨_, (pss_cons (ps_expr (pe_call (ok_need_shape T) hr rfl T.g_need_shape T.F_need_shape.kp (b_need_shape T) .nil (passR (takes_of rfl rfl rfl rfl) (fun _ _ _ _ h => h)) (pa_cons (pv 0) (pa_cons (pv 1) (pa_cons (pv 2) (pa_cons (pv 3) pa_nil)))))) (pss_cons (ps_set (i := 4) sc_slab_shape.nd rfl (Or.inl rfl) (pe_op op_sub (pe_op op_shl (pv 0) (pv 1)) (pv 3))) (pss_cons (ps_set (i := 5) sc_slab_shape.nd rfl (Or.inl rfl) (pe_op op_sub (pe_op op_add (pv 2) (pv 3)) (pe_op op_mod (pv 2) (pv 3)))) (pss_cons (ps_set (i := 6) sc_slab_shape.nd rfl (Or.inl rfl) (pe_op op_fdiv (pv 4) (pv 5))) (pss_cons (ps_if (pt_cmpR op_eq (pv 6) (pe_int) (nomark _)) (pss_one (ps_ret (pe_non))) pss_nil) (pss_one (ps_ret (pe_tup (pa_cons (pv 5) (pa_cons (pv 6) (pa_cons (pe_op op_add (pe_op op_fdiv (pe_op op_sub (pv 4) (pe_op op_mul (pv 6) (pv 5))) (pv 3)) (pe_int)) pa_nil))))))))))), ?_⟩)
  · obtain ⟨_, _, _, _, _, _, _, _, _, _, _, _, rfl, _⟩ := h
    rfl
  · obtain ⟨F1, F2, F3, F4, v1, v2, v3, v4, t1, t2, t3, t4, rfl, d1, d2, d3, d4, q1, q2⟩ := h
    simp only [tSeq, tAsg, tRet, tRetN, tDrop, tNext, tVar, tC, gName, tOp, tUn, rI, rI0, rU, tIfS, tTest, tB, tIf, tAnd, tOr, tNot, tAndV, tOrV, tNotV, tCall, tCons, tNil, tCB, tLst, tTup, tChain, CMul, CDiv, CPow, rEq, rNe, gSub, L2.start, LL.cxK0, LL.cxK1, List.map_cons, List.map_nil, List.length_cons, List.length_nil, List.replicate_succ, List.replicate_zero, List.cons_append, List.nil_append, List.append_nil, List.getElem?_cons_zero, List.getElem?_cons_succ, List.set_cons_zero, List.set_cons_succ, Nat.add_sub_cancel, Nat.reduceAdd, Nat.reduceSub, Option.some.injEq, V.int.injEq, V.bl.injEq, V.ref.injEq, V.str.injEq, List.cons.injEq, and_true, true_and, and_false, false_and, exists_eq_left, exists_eq_left', exists_and_left, exists_and_right, exists_eq, exists_eq', LL.if_dec, reduceCtorEq, exists_false, exists_const, or_false, false_or, if_true, if_false, LL.rInt1, LL.rMx, LL.rMn, and_assoc, Int.reduceNeg, Int.reduceLT, Int.reduceLE, Int.reduceMul, Int.reduceAdd, Int.reduceSub, Int.reducePow, Int.reduceToNat, Nat.reducePow, Nat.reduceLT, true_or, or_true, Bool.not_true, Bool.not_false, Bool.false_eq_true, Bool.or_false, Bool.or_true, Bool.true_or, Bool.false_or, decide_true, decide_false, not_true_eq_false, not_false_eq_true, LL.scal_int, LL.scal_bl, LL.scal_str, LL.isInt, LL.isBl, LL.isStr, LL.isLst, LL.isTup, LL.isDic, N_slab_shape]
    refine ⟨F1, F2, F3, F4, v1, v2, v3, v4, t1, t2, t3, t4, rfl, d1, d2, d3, d4, q1, fun hg => ?_⟩
    replace q2 := q2 hg
    obtain ⟨w, k, z, j, rfl, rfl, rfl, rfl, S⟩ := shp_of hg
    obtain rfl : v1 = V.int w := d1
    obtain rfl : v2 = V.int k := d2
    obtain rfl : v3 = V.int z := d3
    obtain rfl : v4 = V.int (2 ^ j) := d4
    replace q2 : ∀ r H', Same H H' → Dt (fun a => H a = none) H' r (shT w k z (2 ^ j)) → Q r H' := q2
    simp only [tSeq, tAsg, tRet, tRetN, tDrop, tNext, tVar, tC, gName, tOp, tUn, rI, rI0, rU, tIfS, tTest, tB, tIf, tAnd, tOr, tNot, tAndV, tOrV, tNotV, tCall, tCons, tNil, tCB, tLst, tTup, tChain, CMul, CDiv, CPow, rEq, rNe, gSub, L2.start, LL.cxK0, LL.cxK1, List.map_cons, List.map_nil, List.length_cons, List.length_nil, List.replicate_succ, List.replicate_zero, List.cons_append, List.nil_append, List.append_nil, List.getElem?_cons_zero, List.getElem?_cons_succ, List.set_cons_zero, List.set_cons_succ, Nat.add_sub_cancel, Nat.reduceAdd, Nat.reduceSub, Option.some.injEq, V.int.injEq, V.bl.injEq, V.ref.injEq, V.str.injEq, List.cons.injEq, and_true, true_and, and_false, false_and, exists_eq_left, exists_eq_left', exists_and_left, exists_and_right, exists_eq, exists_eq', LL.if_dec, reduceCtorEq, exists_false, exists_const, or_false, false_or, if_true, if_false, LL.rInt1, LL.rMx, LL.rMn, and_assoc, Int.reduceNeg, Int.reduceLT, Int.reduceLE, Int.reduceMul, Int.reduceAdd, Int.reduceSub, Int.reducePow, Int.reduceToNat, Nat.reducePow, Nat.reduceLT, true_or, or_true, Bool.not_true, Bool.not_false, Bool.false_eq_true, Bool.or_false, Bool.or_true, Bool.true_or, Bool.false_or, decide_true, decide_false, not_true_eq_false, not_false_eq_true, LL.scal_int, LL.scal_bl, LL.scal_str, LL.isInt, LL.isBl, LL.isStr, LL.isLst, LL.isTup, LL.isDic]
    have hp := pow_pos' j
    obtain ⟨s0, s1, s2⟩ := strd_pos S
    obtain ⟨r0, r1⟩ := room_b S
    have hj : (2 : Int) ^ j ≤ 64 := by have := S.ha; have := S.hw; omega
    have hz := S.z1
    refine ⟨S.k0, by have := S.k1; omega, by have := S.hw; omega, hp, s0, by show strd z (2 ^ j) < _; omega, itei (fun h => ?_) (fun h => ?_)⟩
    · have e : shT w k z (2 ^ j) = .non := by unfold shT; exact if_pos h
      rw [e] at q2
      exact q2 _ _ (Same.refl _) rfl
    · have e : shT w k z (2 ^ j) = .tup [.int (strd z (2 ^ j)), .int (slts w k z (2 ^ j)), .int (cols w k z (2 ^ j))] := by unfold shT; exact if_neg h
      rw [e] at q2
      refine ⟨.inr ⟨by show _ < strd z (2 ^ j); omega, by show strd z (2 ^ j) < _; omega⟩, hp, by omega, by decide, ?_⟩
      intro p np
      generalize hq : upd H p _ = H1
      have sH1 : Same H H1 := hq ▸ Same.new (Same.refl _) np
      have ep := hq ▸ (upd_same (H := H) (a := p))
      clear hq
      exact q2 _ _ sH1 ⟨p, _, rfl, np, ep, .cons rfl (.cons rfl (.one rfl)), by simp⟩
theorem shp_good {w k z : Int} {j : Nat} (S : Shp w k z j) : shBad (.int w) (.int k) (.int z) (.int (2 ^ j)) = none := by
  have e1 : ¬ widB (.int w) = false := by
    have : widB (.int w) = true := decide_eq_true S.hw
    rw [this]; simp
  have e2 : InR 0 8 (.int k) := ⟨S.k0, S.k1⟩
  have e3 : InR 1 4096 (.int z) := ⟨S.z0, S.z1⟩
  have e4 : ¬ alB w (.int (2 ^ j)) = false := by
    have : alB w (.int (2 ^ j)) = true := by
      show (isP (2 ^ j) && _) = true
      rw [isP_pow, decide_eq_true S.ha]
      rfl
    rw [this]; simp
  unfold shBad
  rw [if_neg e1, if_neg (by simpa using e2), if_neg (by simpa using e3)]
  exact if_neg e4
theorem slts_nn {w k z : Int} {j : Nat} (S : Shp w k z j) : 0 ≤ slts w k z (2 ^ j) := Int.ediv_nonneg (room_b S).1 (Int.le_of_lt (strd_pos S).1)
theorem use_shape {K : PySem.W.Frag} {w k z : Int} {j : Nat} {H : Hp} {Q : VK} {E : XK} (S : Shp w k z j) (q : ∀ r H', Same H H' → Dt (fun a => H a = none) H' r (shT w k z (2 ^ j)) → Q r H') : sp_slab_shape K [.int w, .int k, .int z, .int (2 ^ j)] H Q E :=
  ⟨fun _ => True, fun _ => True, fun _ => True, fun _ => True, _, _, _, _, .int w, .int k, .int z, .int (2 ^ j), rfl, rfl, rfl, rfl, rfl, fun n h => by rw [shp_good S] at h; (cases h), fun _ => q⟩

def pow2n (k : Int) : Int := 2 ^ k.toNat
/-- what is wrong first -/
def stBad (a b c e f : LL.T) : Option Str := match shBad a b c e with
  | some n => some n
  | none => if ¬ InR 0 255 f then some "page" else if ¬ (intT f % (1 * 2 ^ (intT b).toNat) = 0) then some "page" else none
def stFirst (w k z a p : Int) : Int := p * w + a + (p / 2 ^ k.toNat) % cols w k z a * a
def stsL (w k z a p : Int) : List Int := if slts w k z a = 0 then [] else (List.range (slts w k z a).toNat).map fun j => stFirst w k z a p + (j : Nat) * strd z a
theorem steps_map {i k : Int} {n : Nat} : stepV i k n = ((List.range n).map fun j => i + (j : Nat) * k).map V.int := by
  unfold stepV
  rw [List.map_map]
  rfl
theorem room_e {w k z : Int} {j : Nat} (S : Shp w k z j) : 0 ≤ w * 2 ^ k.toNat - 2 ^ j - slts w k z (2 ^ j) * strd z (2 ^ j) ∧ w * 2 ^ k.toNat - 2 ^ j - slts w k z (2 ^ j) * strd z (2 ^ j) < strd z (2 ^ j) := by
  obtain ⟨s0, _, _⟩ := strd_pos S
  have e := Int.emod_def (w * 2 ^ k.toNat - 2 ^ j) (strd z (2 ^ j))
  have h0 := Int.emod_nonneg (w * 2 ^ k.toNat - 2 ^ j) (show strd z (2 ^ j) ≠ 0 by omega)
  have h1 := Int.emod_lt_of_pos (w * 2 ^ k.toNat - 2 ^ j) s0
  have e2 : slts w k z (2 ^ j) * strd z (2 ^ j) = strd z (2 ^ j) * ((w * 2 ^ k.toNat - 2 ^ j) / strd z (2 ^ j)) := by unfold slts; rw [Int.mul_comm]
  omega
theorem cols_b {w k z : Int} {j : Nat} (S : Shp w k z j) : 1 ≤ cols w k z (2 ^ j) ∧ 2 ^ j * (cols w k z (2 ^ j) - 1) ≤ w * 2 ^ k.toNat - 2 ^ j - slts w k z (2 ^ j) * strd z (2 ^ j) ∧ w * 2 ^ k.toNat - 2 ^ j - slts w k z (2 ^ j) * strd z (2 ^ j) < 2 ^ j * cols w k z (2 ^ j) := by
  have hp := pow_pos' j
  obtain ⟨r0, r1⟩ := room_e S
  have hc : cols w k z (2 ^ j) = (w * 2 ^ k.toNat - 2 ^ j - slts w k z (2 ^ j) * strd z (2 ^ j)) / 2 ^ j + 1 := rfl
  generalize w * 2 ^ k.toNat - 2 ^ j - slts w k z (2 ^ j) * strd z (2 ^ j) = r at *
  have e := Int.emod_def r (2 ^ j)
  have h0 := Int.emod_nonneg r (show (2 : Int) ^ j ≠ 0 by omega)
  have h1 := Int.emod_lt_of_pos r hp
  have hq := Int.ediv_nonneg r0 (Int.le_of_lt hp)
  rw [hc]
  generalize r / 2 ^ j = q at *
  have e3 : (2 : Int) ^ j * (q + 1) = 2 ^ j * q + 2 ^ j := by rw [Int.mul_add, Int.mul_one]
  rw [show q + 1 - 1 = q by omega]
  omega
theorem slts_b {w k z : Int} {j : Nat} (S : Shp w k z j) : 0 ≤ slts w k z (2 ^ j) ∧ slts w k z (2 ^ j) ≤ 16384 ∧ slts w k z (2 ^ j) * strd z (2 ^ j) ≤ 16384 := by
  obtain ⟨s0, s1, s2⟩ := strd_pos S
  obtain ⟨r0, r1⟩ := room_e S
  obtain ⟨_, b⟩ := room_b S
  have hp := pow_pos' j
  have h0 := slts_nn S
  have h2 : slts w k z (2 ^ j) * 1 ≤ slts w k z (2 ^ j) * strd z (2 ^ j) := Int.mul_le_mul_of_nonneg_left (by omega) h0
  omega
def sp_slot_starts (K : PySem.W.Frag) : Sp := fun vs H Q E => ∃ (F1 F2 F3 F4 F5 : Addr → Prop) (v1 v2 v3 v4 v5 : V) (t1 t2 t3 t4 t5 : LL.T), vs = [v1, v2, v3, v4, v5] ∧ Dt F1 H v1 t1 ∧ Dt F2 H v2 t2 ∧ Dt F3 H v3 t3 ∧ Dt F4 H v4 t4 ∧ Dt F5 H v5 t5 ∧
  (∀ n, stBad t1 t2 t3 t4 t5 = some n → ∀ d H', BadH H H' d (.str n) → E (.ref (aBV K)) (some d) H') ∧ (stBad t1 t2 t3 t4 t5 = none → ∀ r H', Same H H' → H r = none → H' r = some (.lst ((stsL (intT t1) (intT t2) (intT t3) (intT t4) (intT t5)).map V.int)) → Q (.ref r) H')

theorem ok_slot_starts (T : Tx K mg) : FnOk P w K mg base (L2.CX P w) 7 (He.ga K "slot_starts") T.fd_slot_starts P_slot_starts (sp_slot_starts K) := by
  refine T.F_slot_starts.ok sc_slot_starts (fun vs H Q E h => ?_) (fun cdv A outer s H vs Q E hr h => ⟨_, (pss_cons (ps_expr (pe_call (ok_need_shape T) (hr.mono (by decide)) rfl T.g_need_shape T.F_need_shape.kp (b_need_shape T) .nil (passR (takes_of rfl rfl rfl rfl) (fun _ _ _ _ h => h)) (pa_cons (pv 0) (pa_cons (pv 1) (pa_cons (pv 2) (pa_cons (pv 3) pa_nil)))))) (pss_cons (ps_expr (pe_call (ok_need_whole T) (hr.mono (by decide)) rfl T.g_need_whole T.F_need_whole.kp (b_need_whole T) .nil (passR (takes_of rfl rfl rfl rfl) (fun _ _ _ _ h => h)) (pa_cons (pv 4) (pa_cons (pe_int) (pa_cons (pe_op op_sub (pe_glob (v := .int 256) rfl T.c_MOST_PAGES.choose_spec ⟨_, rfl⟩) (pe_int)) (pa_cons (pe_str) pa_nil)))))) (pss_cons (ps_expr (pe_call (ok_need T) (hr.mono (by decide)) rfl T.g_need T.F_need.kp (b_need T) .nil (passR (takes_of rfl rfl rfl rfl) (fun _ _ _ _ h => h)) (pa_cons (pe_cmpR op_eq (pe_op op_mod (pv 4) (pe_op op_shl (pe_int) (pv 1))) (pe_int) (nomark _)) (pa_cons (pe_str) pa_nil)))) (pss_cons (ps_set (i := 5) sc_slot_starts.nd rfl (Or.inl rfl) (pe_call (ok_slab_shape T) hr rfl T.g_slab_shape T.F_slab_shape.kp (b_slab_shape T) .nil (passR (takes_of rfl rfl rfl rfl) (fun _ _ _ _ h => h)) (pa_cons (pv 0) (pa_cons (pv 1) (pa_cons (pv 2) (pa_cons (pv 3) pa_nil)))))) (pss_cons (ps_if (pt_cmpR op_isN (pv 5) (pe_non) (nomark _)) (pss_one (ps_ret (pe_lst pa_nil))) pss_nil) (pss_cons (ps_asg (pv 5) (pg_tup rfl (pgs_cons (pg_name (i := 8) sc_slot_starts.nd rfl (Or.inl rfl)) (pgs_cons (pg_name (i := 9) sc_slot_starts.nd rfl (Or.inl rfl)) (pgs_cons (pg_name (i := 10) sc_slot_starts.nd rfl (Or.inl rfl)) pgs_nil))))) (pss_cons (ps_set (i := 6) sc_slot_starts.nd rfl (Or.inl rfl) (pe_op op_mod (pe_op op_shr (pv 4) (pv 1)) (pv 10))) (pss_cons (ps_set (i := 7) sc_slot_starts.nd rfl (Or.inl rfl) (pe_op op_add (pe_op op_add (pe_op op_mul (pv 4) (pv 0)) (pv 3)) (pe_op op_mul (pv 6) (pv 3)))) (pss_one (ps_ret (LL.pe_listRg3 rfl (by rfl) T.z_list (by rfl) T.z_range (pa_cons (pv 7) (pa_cons (pe_op op_add (pv 7) (pe_op op_mul (pv 9) (pv 8))) (pa_cons (pv 8) pa_nil)))))))))))))), ?_⟩)
  · obtain ⟨_, _, _, _, _, _, _, _, _, _, _, _, _, _, _, rfl, _⟩ := h
    rfl
  · obtain ⟨F1, F2, F3, F4, F5, v1, v2, v3, v4, v5, t1, t2, t3, t4, t5, rfl, d1, d2, d3, d4, d5, q1, q2⟩ := h
    simp only [tSeq, tAsg, tRet, tRetN, tDrop, tNext, tVar, tC, gName, tOp, tUn, rI, rI0, rU, tIfS, tTest, tB, tIf, tAnd, tOr, tNot, tAndV, tOrV, tNotV, tCall, tCons, tNil, tCB, tLst, tTup, tChain, CMul, CDiv, CPow, rEq, rNe, gSub, L2.start, LL.cxK0, LL.cxK1, List.map_cons, List.map_nil, List.length_cons, List.length_nil, List.replicate_succ, List.replicate_zero, List.cons_append, List.nil_append, List.append_nil, List.getElem?_cons_zero, List.getElem?_cons_succ, List.set_cons_zero, List.set_cons_succ, Nat.add_sub_cancel, Nat.reduceAdd, Nat.reduceSub, Option.some.injEq, V.int.injEq, V.bl.injEq, V.ref.injEq, V.str.injEq, List.cons.injEq, and_true, true_and, and_false, false_and, exists_eq_left, exists_eq_left', exists_and_left, exists_and_right, exists_eq, exists_eq', LL.if_dec, reduceCtorEq, exists_false, exists_const, or_false, false_or, if_true, if_false, LL.rInt1, LL.rMx, LL.rMn, and_assoc, Int.reduceNeg, Int.reduceLT, Int.reduceLE, Int.reduceMul, Int.reduceAdd, Int.reduceSub, Int.reducePow, Int.reduceToNat, Nat.reducePow, Nat.reduceLT, true_or, or_true, Bool.not_true, Bool.not_false, Bool.false_eq_true, Bool.or_false, Bool.or_true, Bool.true_or, Bool.false_or, decide_true, decide_false, not_true_eq_false, not_false_eq_true, LL.scal_int, LL.scal_bl, LL.scal_str, LL.isInt, LL.isBl, LL.isStr, LL.isLst, LL.isTup, LL.isDic, N_slot_starts]
    refine ⟨F1, F2, F3, F4, v1, v2, v3, v4, t1, t2, t3, t4, rfl, d1, d2, d3, d4, fun n hn => q1 n (by unfold stBad; rw [hn]), fun hg => ?_⟩
    refine ⟨F5, v5, .str "page", t5, 0, 255, rfl, d5, fun r5 => ?_, fun r5 => q1 _ (by unfold stBad; rw [hg]; exact if_pos r5)⟩
    obtain ⟨w, k, z, j, rfl, rfl, rfl, rfl, S⟩ := shp_of hg
    obtain ⟨p, rfl, p0, p1⟩ := inr_int r5
    obtain rfl : v1 = V.int w := d1
    obtain rfl : v2 = V.int k := d2
    obtain rfl : v3 = V.int z := d3
    obtain rfl : v4 = V.int (2 ^ j) := d4
    obtain rfl : v5 = V.int p := d5
    simp only [tSeq, tAsg, tRet, tRetN, tDrop, tNext, tVar, tC, gName, tOp, tUn, rI, rI0, rU, tIfS, tTest, tB, tIf, tAnd, tOr, tNot, tAndV, tOrV, tNotV, tCall, tCons, tNil, tCB, tLst, tTup, tChain, CMul, CDiv, CPow, rEq, rNe, gSub, L2.start, LL.cxK0, LL.cxK1, List.map_cons, List.map_nil, List.length_cons, List.length_nil, List.replicate_succ, List.replicate_zero, List.cons_append, List.nil_append, List.append_nil, List.getElem?_cons_zero, List.getElem?_cons_succ, List.set_cons_zero, List.set_cons_succ, Nat.add_sub_cancel, Nat.reduceAdd, Nat.reduceSub, Option.some.injEq, V.int.injEq, V.bl.injEq, V.ref.injEq, V.str.injEq, List.cons.injEq, and_true, true_and, and_false, false_and, exists_eq_left, exists_eq_left', exists_and_left, exists_and_right, exists_eq, exists_eq', LL.if_dec, reduceCtorEq, exists_false, exists_const, or_false, false_or, if_true, if_false, LL.rInt1, LL.rMx, LL.rMn, and_assoc, Int.reduceNeg, Int.reduceLT, Int.reduceLE, Int.reduceMul, Int.reduceAdd, Int.reduceSub, Int.reducePow, Int.reduceToNat, Nat.reducePow, Nat.reduceLT, true_or, or_true, Bool.not_true, Bool.not_false, Bool.false_eq_true, Bool.or_false, Bool.or_true, Bool.true_or, Bool.false_or, decide_true, decide_false, not_true_eq_false, not_false_eq_true, LL.scal_int, LL.scal_bl, LL.scal_str, LL.isInt, LL.isBl, LL.isStr, LL.isLst, LL.isTup, LL.isDic]
    obtain ⟨e0, e1⟩ := pow8 S.k0 S.k1
    have hj := pow_pos' j
    obtain ⟨s0, s1, s2⟩ := strd_pos S
    refine ⟨S.k0, by have := S.k1; omega, by decide, by omega, use_need (fun hpg => ?_) (fun hpg => q1 _ ?_)⟩
    · have hpg : p % (1 * 2 ^ k.toNat) = 0 := of_decide_eq_true hpg
      replace q2 : ∀ r H', Same H H' → H r = none → H' r = some (.lst ((stsL w k z (2 ^ j) p).map V.int)) → Q (.ref r) H' := q2 (by unfold stBad; rw [hg]; exact (if_neg (by simpa using r5)).trans (if_neg (fun c => c hpg)))
      refine use_shape S fun r H1 g1 hr => ?_
      unfold shT at hr
      unfold stsL at q2
      refine itei (fun h => ?_) (fun h => ?_)
      · by_cases hs : slts w k z (2 ^ j) = 0
        · rw [if_pos hs] at q2
          refine ⟨by decide, ?_⟩
          intro l nl
          generalize hq : upd H1 l _ = H2
          have sH2 : Same H1 H2 := hq ▸ Same.new (Same.refl _) nl
          have el := hq ▸ (upd_same (H := H1) (a := l))
          clear hq
          exact q2 l H2 (g1.trans sH2) (g1.free nl) el
        · rw [if_neg hs] at hr
          obtain ⟨_, _, e, _⟩ := hr
          rw [e] at h
          cases h
      · by_cases hs : slts w k z (2 ^ j) = 0
        · rw [if_pos hs] at hr
          exact absurd hr h
        · rw [if_neg hs] at hr q2
          obtain ⟨l, xs, rfl, fl, el, ⟨y1, _, rfl, f1, y2, _, rfl, f2, y3, _, rfl, f3, rfl⟩, _⟩ := hr
          obtain rfl : y1 = V.int _ := f1
          obtain rfl : y2 = V.int _ := f2
          obtain rfl : y3 = V.int _ := f3
          obtain ⟨c0, c1, c2⟩ := cols_b S
          obtain ⟨b0, b1, b2⟩ := slts_b S
          obtain ⟨_, rb⟩ := room_b S
          have hjw : (2 : Int) ^ j ≤ 64 := by have := S.ha; have := S.hw; omega
          have hww := S.hw
          have hz1 := S.z1
          simp only [tSeq, tAsg, tRet, tRetN, tDrop, tNext, tVar, tC, gName, tOp, tUn, rI, rI0, rU, tIfS, tTest, tB, tIf, tAnd, tOr, tNot, tAndV, tOrV, tNotV, tCall, tCons, tNil, tCB, tLst, tTup, tChain, CMul, CDiv, CPow, rEq, rNe, gSub, L2.start, LL.cxK0, LL.cxK1, List.map_cons, List.map_nil, List.length_cons, List.length_nil, List.replicate_succ, List.replicate_zero, List.cons_append, List.nil_append, List.append_nil, List.getElem?_cons_zero, List.getElem?_cons_succ, List.set_cons_zero, List.set_cons_succ, Nat.add_sub_cancel, Nat.reduceAdd, Nat.reduceSub, Option.some.injEq, V.int.injEq, V.bl.injEq, V.ref.injEq, V.str.injEq, List.cons.injEq, and_true, true_and, and_false, false_and, exists_eq_left, exists_eq_left', exists_and_left, exists_and_right, exists_eq, exists_eq', LL.if_dec, reduceCtorEq, exists_false, exists_const, or_false, false_or, if_true, if_false, LL.rInt1, LL.rMx, LL.rMn, and_assoc, Int.reduceNeg, Int.reduceLT, Int.reduceLE, Int.reduceMul, Int.reduceAdd, Int.reduceSub, Int.reducePow, Int.reduceToNat, Nat.reducePow, Nat.reduceLT, true_or, or_true, Bool.not_true, Bool.not_false, Bool.false_eq_true, Bool.or_false, Bool.or_true, Bool.true_or, Bool.false_or, decide_true, decide_false, not_true_eq_false, not_false_eq_true, LL.scal_int, LL.scal_bl, LL.scal_str, LL.isInt, LL.isBl, LL.isStr, LL.isLst, LL.isTup, LL.isDic, gTup]
          refine ⟨_, SqT.of el, rfl, ?_⟩
          simp only [tSeq, tAsg, tRet, tRetN, tDrop, tNext, tVar, tC, gName, tOp, tUn, rI, rI0, rU, tIfS, tTest, tB, tIf, tAnd, tOr, tNot, tAndV, tOrV, tNotV, tCall, tCons, tNil, tCB, tLst, tTup, tChain, CMul, CDiv, CPow, rEq, rNe, gSub, L2.start, LL.cxK0, LL.cxK1, List.map_cons, List.map_nil, List.length_cons, List.length_nil, List.replicate_succ, List.replicate_zero, List.cons_append, List.nil_append, List.append_nil, List.getElem?_cons_zero, List.getElem?_cons_succ, List.set_cons_zero, List.set_cons_succ, Nat.add_sub_cancel, Nat.reduceAdd, Nat.reduceSub, Option.some.injEq, V.int.injEq, V.bl.injEq, V.ref.injEq, V.str.injEq, List.cons.injEq, and_true, true_and, and_false, false_and, exists_eq_left, exists_eq_left', exists_and_left, exists_and_right, exists_eq, exists_eq', LL.if_dec, reduceCtorEq, exists_false, exists_const, or_false, false_or, if_true, if_false, LL.rInt1, LL.rMx, LL.rMn, and_assoc, Int.reduceNeg, Int.reduceLT, Int.reduceLE, Int.reduceMul, Int.reduceAdd, Int.reduceSub, Int.reducePow, Int.reduceToNat, Nat.reducePow, Nat.reduceLT, true_or, or_true, Bool.not_true, Bool.not_false, Bool.false_eq_true, Bool.or_false, Bool.or_true, Bool.true_or, Bool.false_or, decide_true, decide_false, not_true_eq_false, not_false_eq_true, LL.scal_int, LL.scal_bl, LL.scal_str, LL.isInt, LL.isBl, LL.isStr, LL.isLst, LL.isTup, LL.isDic, gCons, gNil]
          have m0 := Int.emod_nonneg (p / 2 ^ k.toNat) (show cols w k z (2 ^ j) ≠ 0 by omega)
          have m1 := Int.emod_lt_of_pos (p / 2 ^ k.toNat) (show 0 < cols w k z (2 ^ j) by omega)
          have hca : (p / 2 ^ k.toNat) % cols w k z (2 ^ j) * 2 ^ j ≤ 16384 := by
            have h1 : (p / 2 ^ k.toNat) % cols w k z (2 ^ j) * 2 ^ j ≤ (cols w k z (2 ^ j) - 1) * 2 ^ j := Int.mul_le_mul_of_nonneg_right (by omega) (by omega)
            rw [Int.mul_comm (cols w k z (2 ^ j) - 1)] at h1
            have h2 : 0 ≤ slts w k z (2 ^ j) * strd z (2 ^ j) := Int.mul_nonneg b0 (by omega)
            omega
          have hca0 : 0 ≤ (p / 2 ^ k.toNat) % cols w k z (2 ^ j) * 2 ^ j := Int.mul_nonneg m0 (by omega)
          have hpw : 0 ≤ p * w ∧ p * w ≤ 255 * 64 := ⟨Int.mul_nonneg p0 (by omega), Int.mul_le_mul p1 (by omega) (by omega) (by omega)⟩
          refine ⟨S.k0, by omega, .inl ⟨by omega, by omega⟩, .inr ⟨by omega, by omega⟩, ?_⟩
          obtain ⟨n, hn⟩ : ∃ n : Nat, slts w k z (2 ^ j) = n := ⟨(slts w k z (2 ^ j)).toNat, by omega⟩
          rw [hn] at q2 b1 ⊢
          simp only [tSeq, tAsg, tRet, tRetN, tDrop, tNext, tVar, tC, gName, tOp, tUn, rI, rI0, rU, tIfS, tTest, tB, tIf, tAnd, tOr, tNot, tAndV, tOrV, tNotV, tCall, tCons, tNil, tCB, tLst, tTup, tChain, CMul, CDiv, CPow, rEq, rNe, gSub, L2.start, LL.cxK0, LL.cxK1, List.map_cons, List.map_nil, List.length_cons, List.length_nil, List.replicate_succ, List.replicate_zero, List.cons_append, List.nil_append, List.append_nil, List.getElem?_cons_zero, List.getElem?_cons_succ, List.set_cons_zero, List.set_cons_succ, Nat.add_sub_cancel, Nat.reduceAdd, Nat.reduceSub, Option.some.injEq, V.int.injEq, V.bl.injEq, V.ref.injEq, V.str.injEq, List.cons.injEq, and_true, true_and, and_false, false_and, exists_eq_left, exists_eq_left', exists_and_left, exists_and_right, exists_eq, exists_eq', LL.if_dec, reduceCtorEq, exists_false, exists_const, or_false, false_or, if_true, if_false, LL.rInt1, LL.rMx, LL.rMn, and_assoc, Int.reduceNeg, Int.reduceLT, Int.reduceLE, Int.reduceMul, Int.reduceAdd, Int.reduceSub, Int.reducePow, Int.reduceToNat, Nat.reducePow, Nat.reduceLT, true_or, or_true, Bool.not_true, Bool.not_false, Bool.false_eq_true, Bool.or_false, Bool.or_true, Bool.true_or, Bool.false_or, decide_true, decide_false, not_true_eq_false, not_false_eq_true, LL.scal_int, LL.scal_bl, LL.scal_str, LL.isInt, LL.isBl, LL.isStr, LL.isLst, LL.isTup, LL.isDic, tLstRg3]
          refine ⟨.inr ⟨by omega, by omega⟩, ?_⟩
          refine ⟨_, n, rfl, rfl, s0, by omega, by omega, by omega, by omega, fun q nq => ?_⟩
          refine q2 q _ (g1.trans (Same.new (Same.refl _) nq)) (g1.free nq) ?_
          rw [upd_same, steps_map]
          rfl
    · unfold stBad
      rw [hg]
      exact (if_neg (by simpa using r5)).trans (if_pos (of_decide_eq_false hpg))
end K25

namespace K25
open PySem PySem.Spec PyProof.Rows L2 LL
variable {P : Program} {w : World} {K : PySem.W.Frag} {mg : Str → Option Value} {base : Heap}

structure Ask5 (H : Hp) (a : Addr) (w k z : Int) (j : Nat) (p : Int) : Prop where
  at_ : H a = some (.tup [.int w, .int k, .int z, .int (2 ^ j), .int p])
  S : Shp w k z j
  p0 : 0 ≤ p
  p1 : p ≤ 255
  pd : p % 2 ^ k.toNat = 0
theorem Ask5.same {H H' : Hp} {a : Addr} {w k z p : Int} {j : Nat} (h : Ask5 H a w k z j p) (s : Same H H') : Ask5 H' a w k z j p := ⟨s _ _ h.at_, h.S, h.p0, h.p1, h.pd⟩
def sp_law_shape_ask : Sp := fun vs H Q _ => ∃ (d s : Addr), vs = [.ref d] ∧ Drw d s H ∧ ∀ (a : Addr) (w k z : Int) (j : Nat) (p : Int) H', Aft d s H H' → Drw d s H' → H a = none → Ask5 H' a w k z j p → Q (.ref a) H'
theorem use_power {k : Int} {H : Hp} {Q : VK} {E : XK} (h0 : 0 ≤ k) (h1 : k ≤ 60) (q : Q (.int (2 ^ k.toNat)) H) : sp_law_power [.int k] H Q E := ⟨k.toNat, by rw [show ((k.toNat : Nat) : Int) = k by omega], by omega, q⟩
theorem al_wid {w : Int} {j : Nat} (hw : w = 16 ∨ w = 32 ∨ w = 64) (h : (j : Int) ≤ 4 + w / 32) : (2 : Int) ^ j ≤ w := by
  rcases hw with rfl | rfl | rfl
  · have h3 : 2 ^ j ≤ 2 ^ 4 := Nat.pow_le_pow_right (by decide) (by omega)
    have e : ((2 ^ j : Nat) : Int) = (2 : Int) ^ j := Int.natCast_pow 2 j
    omega
  · have h3 : 2 ^ j ≤ 2 ^ 5 := Nat.pow_le_pow_right (by decide) (by omega)
    have e : ((2 ^ j : Nat) : Int) = (2 : Int) ^ j := Int.natCast_pow 2 j
    omega
  · have h3 : 2 ^ j ≤ 2 ^ 6 := Nat.pow_le_pow_right (by decide) (by omega)
    have e : ((2 ^ j : Nat) : Int) = (2 : Int) ^ j := Int.natCast_pow 2 j
    omega

theorem ok_law_shape_ask (T : Tx K mg) : FnOk P w K mg base CX0 6 (He.ga K "_law_shape_ask") T.fd_law_shape_ask P_law_shape_ask sp_law_shape_ask := by
  refine T.F_law_shape_ask.ok sc_law_shape_ask (fun vs H Q E h => ?_) (fun cdv A outer s H vs Q E hr h => ⟨_, PSs.nox (pss_cons (ps_set (i := 1) sc_law_shape_ask.nd rfl (Or.inl rfl) (pe_call (ok_law_among T) (hr.mono (by decide)) rfl T.g_law_among T.F_law_among.kp (b_law_among T) .nil pass0 (pa_cons (pv 0) (pa_cons (pe_lst (pa_cons (pe_int) (pa_cons (pe_int) (pa_cons (pe_int) pa_nil)))) pa_nil)))) (pss_cons (ps_set (i := 2) sc_law_shape_ask.nd rfl (Or.inl rfl) (pe_call (ok_law_between T) (hr.mono (by decide)) rfl T.g_law_between T.F_law_between.kp (b_law_between T) .nil pass0 (pa_cons (pv 0) (pa_cons (pe_int) (pa_cons (pe_int) pa_nil))))) (pss_cons (ps_set (i := 3) sc_law_shape_ask.nd rfl (Or.inl rfl) (pe_call (ok_law_alignment T) (hr.mono (by decide)) rfl T.g_law_alignment T.F_law_alignment.kp (b_law_alignment T) .nil pass0 (pa_cons (pv 0) (pa_cons (pe_op op_add (pe_int) (pe_op op_fdiv (pv 1) (pe_int))) pa_nil)))) (pss_cons (ps_set (i := 4) sc_law_shape_ask.nd rfl (Or.inl rfl) (pe_op op_mul (pv 1) (pe_call (ok_law_power T) (hr.mono (by decide)) rfl T.g_law_power T.F_law_power.kp (b_law_power T) .nil pass0 (pa_cons (pv 2) pa_nil)))) (pss_cons (ps_set (i := 5) sc_law_shape_ask.nd rfl (Or.inl rfl) (pe_call (ok_law_take T) (hr.mono (by decide)) rfl T.g_law_take T.F_law_take.kp (b_law_take T) .nil pass0 (pa_cons (pv 0) (pa_cons (pe_int) pa_nil)))) (pss_cons (ps_set (i := 6) sc_law_shape_ask.nd rfl (Or.inl rfl) (pe_call (ok_law_between T) (hr.mono (by decide)) rfl T.g_law_between T.F_law_between.kp (b_law_between T) .nil pass0 (pa_cons (pv 0) (pa_cons (pe_int) (pa_cons (pe_int) pa_nil))))) (pss_cons (ps_if (pt_cmpR op_eq (pv 5) (pe_int) (nomark _)) (pss_one (ps_set (i := 6) sc_law_shape_ask.nd rfl (Or.inl rfl) (pe_call (ok_law_number T) hr rfl T.g_law_number T.F_law_number.kp (b_law_number T) .nil pass0 (pa_cons (pv 0) (pa_cons (pe_int) (pa_cons (pe_int) pa_nil)))))) pss_nil) (pss_cons (ps_if (pt_cmpR op_eq (pv 5) (pe_int) (nomark _)) (pss_one (ps_set (i := 6) sc_law_shape_ask.nd rfl (Or.inl rfl) (pe_callB (LL.call_mx rfl) (by rfl) T.z_max (by decide +kernel) (pa_cons (pe_int) (pa_cons (pe_callB (LL.call_mn rfl) (by rfl) T.z_min (by decide +kernel) (pa_cons (pe_int) (pa_cons (pe_op op_add (pe_op op_sub (pe_op op_sub (pv 4) (pv 3)) (pe_int)) (pe_call (ok_law_take T) (hr.mono (by decide)) rfl T.g_law_take T.F_law_take.kp (b_law_take T) .nil pass0 (pa_cons (pv 0) (pa_cons (pe_int) pa_nil)))) pa_nil))) pa_nil))))) pss_nil) (pss_cons (ps_if (pt_cmpR op_eq (pv 5) (pe_int) (nomark _)) (pss_one (ps_set (i := 6) sc_law_shape_ask.nd rfl (Or.inl rfl) (pe_callB (LL.call_mx rfl) (by rfl) T.z_max (by decide +kernel) (pa_cons (pe_int) (pa_cons (pe_callB (LL.call_mn rfl) (by rfl) T.z_min (by decide +kernel) (pa_cons (pe_int) (pa_cons (pe_op op_add (pe_op op_sub (pe_op op_fdiv (pe_op op_sub (pv 4) (pv 3)) (pe_op op_add (pe_int) (pe_call (ok_law_take T) (hr.mono (by decide)) rfl T.g_law_take T.F_law_take.kp (b_law_take T) .nil pass0 (pa_cons (pv 0) (pa_cons (pe_int) pa_nil))))) (pe_int)) (pe_call (ok_law_take T) (hr.mono (by decide)) rfl T.g_law_take T.F_law_take.kp (b_law_take T) .nil pass0 (pa_cons (pv 0) (pa_cons (pe_int) pa_nil)))) pa_nil))) pa_nil))))) pss_nil) (pss_cons (ps_set (i := 7) sc_law_shape_ask.nd rfl (Or.inl rfl) (pe_op op_mul (pe_call (ok_law_power T) (hr.mono (by decide)) rfl T.g_law_power T.F_law_power.kp (b_law_power T) .nil pass0 (pa_cons (pv 2) pa_nil)) (pe_call (ok_law_between T) (hr.mono (by decide)) rfl T.g_law_between T.F_law_between.kp (b_law_between T) .nil pass0 (pa_cons (pv 0) (pa_cons (pe_int) (pa_cons (pe_op op_fdiv (pe_int) (pe_call (ok_law_power T) (hr.mono (by decide)) rfl T.g_law_power T.F_law_power.kp (b_law_power T) .nil pass0 (pa_cons (pv 2) pa_nil))) pa_nil)))))) (pss_one (ps_ret (pe_tup (pa_cons (pv 1) (pa_cons (pv 2) (pa_cons (pv 6) (pa_cons (pv 3) (pa_cons (pv 7) pa_nil)))))))))))))))))), ?_⟩)
  · obtain ⟨_, _, rfl, _⟩ := h
    rfl
  · obtain ⟨d, s, rfl, D, q⟩ := h
    simp only [tSeq, tAsg, tRet, tRetN, tDrop, tNext, tVar, tC, gName, tOp, tUn, rI, rI0, rU, tIfS, tTest, tB, tIf, tAnd, tOr, tNot, tAndV, tOrV, tNotV, tCall, tCons, tNil, tCB, tLst, tTup, tChain, CMul, CDiv, CPow, rEq, rNe, gSub, L2.start, LL.cxK0, LL.cxK1, List.map_cons, List.map_nil, List.length_cons, List.length_nil, List.replicate_succ, List.replicate_zero, List.cons_append, List.nil_append, List.append_nil, List.getElem?_cons_zero, List.getElem?_cons_succ, List.set_cons_zero, List.set_cons_succ, Nat.add_sub_cancel, Nat.reduceAdd, Nat.reduceSub, Option.some.injEq, V.int.injEq, V.bl.injEq, V.ref.injEq, V.str.injEq, List.cons.injEq, and_true, true_and, and_false, false_and, exists_eq_left, exists_eq_left', exists_and_left, exists_and_right, exists_eq, exists_eq', LL.if_dec, reduceCtorEq, exists_false, exists_const, or_false, false_or, if_true, if_false, LL.rInt1, LL.rMx, LL.rMn, and_assoc, Int.reduceNeg, Int.reduceLT, Int.reduceLE, Int.reduceMul, Int.reduceAdd, Int.reduceSub, Int.reducePow, Int.reduceToNat, Nat.reducePow, Nat.reduceLT, true_or, or_true, Bool.not_true, Bool.not_false, Bool.false_eq_true, Bool.or_false, Bool.or_true, Bool.true_or, Bool.false_or, decide_true, decide_false, not_true_eq_false, not_false_eq_true, LL.scal_int, LL.scal_bl, LL.scal_str, LL.isInt, LL.isBl, LL.isStr, LL.isLst, LL.isTup, LL.isDic, N_law_shape_ask]
    refine ⟨by decide, ?_⟩
    intro p1 np1
    generalize hq : upd H p1 _ = H1
    have sH1 : Same H H1 := hq ▸ Same.new (Same.refl _) np1
    have ep1 := hq ▸ (upd_same (H := H) (a := p1))
    clear hq
    refine use_among (D.same sH1) (D.ne _ np1) ep1 (by simp) (by simp) fun x hx H2 a2 D2 => ?_
    obtain ⟨w, rfl, hw⟩ : ∃ w : Int, x = V.int w ∧ (w = 16 ∨ w = 32 ∨ w = 64) := by
      simp only [List.mem_cons, List.not_mem_nil, or_false] at hx
      rcases hx with rfl | rfl | rfl
      · exact ⟨_, rfl, .inl rfl⟩
      · exact ⟨_, rfl, .inr (.inl rfl)⟩
      · exact ⟨_, rfl, .inr (.inr rfl)⟩
    have A2 := (Aft.same D sH1).trans a2
    refine use_between D2 (by decide) fun k H3 a3 D3 k0 k1 => ?_
    replace k1 : k ≤ 8 := by omega
    obtain ⟨e0, e1⟩ := pow8 k0 k1
    refine ⟨_, rfl, use_alignment D3 (by omega) (by omega) fun j H4 a4 D4 hj => ?_⟩
    have hjw := al_wid hw hj
    have hjp := pow_pos' j
    refine use_power k0 (by omega) ⟨_, rfl, _, rfl, .inl ⟨by omega, by omega⟩, ?_⟩
    refine use_take D4 (by decide +kernel) fun i5 H5 a5 D5 i50 i51 => ?_
    refine use_between D5 (by decide) fun zz H6 a6 D6 z0 z1 => ⟨scal_int.mpr trivial, ?_⟩
    have A6 := (((A2.trans a3).trans a4).trans a5).trans a6
    clear a2 a3 a4 a5 a6 D2 D3 D4 D5
    by_cases hi1 : i5 = 1
    case' pos =>
      rw [if_pos (by rw [hi1])]
      refine use_number D6 (by decide) (by decide) (by decide) (by decide) fun zz H6 a7 D6 z0 z1 => ⟨scal_int.mpr trivial, ?_⟩
      rw [if_neg (by simp; omega)]
      refine ⟨scal_int.mpr trivial, ?_⟩
      rw [if_neg (by simp; omega)]
      have A6 := A6.trans a7
      have hz : 1 ≤ zz ∧ zz ≤ 4096 := ⟨z0, z1⟩
    case' neg =>
      rw [if_neg (by simpa using hi1)]
      refine ⟨scal_int.mpr trivial, ?_⟩
      by_cases hi2 : i5 = 2
      case' pos =>
        rw [if_pos (by rw [hi2])]
        refine ⟨_, rfl, use_take D6 (by decide +kernel) fun u H6 a7 D6 u0 u1 => ⟨_, rfl, scal_int.mpr trivial, ?_⟩⟩
        rw [if_neg (by simp; omega)]
        have A6 := A6.trans a7
        generalize hzz : max (1 : Int) (min 4096 _) = zz
        have hz : 1 ≤ zz ∧ zz ≤ 4096 := by omega
      case' neg =>
        rw [if_neg (by simpa using hi2)]
        refine ⟨scal_int.mpr trivial, ?_⟩
        by_cases hi3 : i5 = 3
        case' pos =>
          rw [if_pos (by rw [hi3])]
          refine ⟨_, rfl, use_take D6 (by decide +kernel) fun u H7 a7 D7 u0 u1 => ⟨_, rfl, by omega, by omega, ?_⟩⟩
          refine use_take D7 (by decide +kernel) fun u2 H6 a8 D6 u20 u21 => ⟨_, rfl, ?_⟩
          have A6 := (A6.trans a7).trans a8
          generalize hzz : max (1 : Int) (min 4096 _) = zz
          have hz : 1 ≤ zz ∧ zz ≤ 4096 := by omega
        case' neg =>
          rw [if_neg (by simpa using hi3)]
          have hz : 1 ≤ zz ∧ zz ≤ 4096 := by omega
    all_goals
      refine use_power k0 (by omega) (use_power k0 (by omega) ⟨_, rfl, by omega, by omega, ?_⟩)
      have hq := Int.ediv_mul_le 255 (show (2 : Int) ^ k.toNat ≠ 0 by omega)
      have hq0 := Int.ediv_nonneg (show (0 : Int) ≤ 255 by decide) (show (0 : Int) ≤ 2 ^ k.toNat by omega)
      have hq1 : (255 : Int) / 2 ^ k.toNat ≤ 255 := Int.ediv_le_self _ (by decide)
      refine use_between D6 (big_of (by omega) (by omega)) fun b H8 a8 D8 b0 b1 => ⟨_, rfl, _, rfl, .inr ⟨by omega, by omega⟩, by decide, ?_⟩
      intro l nl
      generalize hq : upd H8 l _ = H9
      have sH9 : Same H8 H9 := hq ▸ Same.new (Same.refl _) nl
      have el := hq ▸ (upd_same (H := H8) (a := l))
      clear hq
      have hb : b ≤ 255 / 2 ^ k.toNat := by omega
      have hb2 : b * 2 ^ k.toNat ≤ 255 / 2 ^ k.toNat * 2 ^ k.toNat := Int.mul_le_mul_of_nonneg_right hb (by omega)
      have hb3 : 0 ≤ b * 2 ^ k.toNat := Int.mul_nonneg b0 (by omega)
      rw [Int.mul_comm (2 ^ k.toNat) b] at el
      exact q l w k zz j (b * 2 ^ k.toNat) _ ((A6.trans a8).trans (Aft.same D8 sH9)) (D8.same sH9) ((A6.trans a8).free nl) ⟨el, ⟨hw, k0, k1, hz.1, hz.2, hjw⟩, hb3, by omega, Int.mul_emod_left _ _⟩
theorem wdiv {w : Int} {j : Nat} (hw : w = 16 ∨ w = 32 ∨ w = 64) (h : (2 : Int) ^ j ≤ w) : ∃ c, w = 2 ^ j * c := by
  have hj : j ≤ 6 := by
    rcases Nat.lt_or_ge 6 j with h6 | h6
    · exfalso
      have h3 : 2 ^ 7 ≤ 2 ^ j := Nat.pow_le_pow_right (by decide) (by omega)
      have e : ((2 ^ j : Nat) : Int) = (2 : Int) ^ j := Int.natCast_pow 2 j
      omega
    · exact h6
  have e6 : (64 : Int) = 2 ^ j * 2 ^ (6 - j) := by rw [← Int.pow_add, show j + (6 - j) = 6 by omega]; rfl
  match j, hj with
  | 0, _ => exact ⟨w, by simp⟩
  | 1, _ => exact ⟨w / 2, by have : (2:Int) ^ 1 = 2 := rfl; rcases hw with rfl | rfl | rfl <;> rfl⟩
  | 2, _ => exact ⟨w / 4, by rcases hw with rfl | rfl | rfl <;> rfl⟩
  | 3, _ => exact ⟨w / 8, by rcases hw with rfl | rfl | rfl <;> rfl⟩
  | 4, _ => exact ⟨w / 16, by rcases hw with rfl | rfl | rfl <;> rfl⟩
  | 5, _ => exact ⟨w / 32, by rcases hw with rfl | rfl | rfl <;> first | rfl | (exact absurd h (by decide))⟩
  | 6, _ => exact ⟨w / 64, by rcases hw with rfl | rfl | rfl <;> first | rfl | (exact absurd h (by decide))⟩
theorem strd_mod {z : Int} {j : Nat} : strd z (2 ^ j) % 2 ^ j = 0 := by
  have hp := pow_pos' j
  refine Int.emod_eq_zero_of_dvd ⟨z / 2 ^ j + 1, ?_⟩
  unfold strd
  have e := Int.emod_def z (2 ^ j)
  rw [Int.mul_add, Int.mul_one]
  omega
/-- no slot: the size is too great -/
theorem shp_none {w k z : Int} {j : Nat} (S : Shp w k z j) (h : slts w k z (2 ^ j) = 0) : w * 2 ^ k.toNat - 2 ^ j ≤ z := by
  have hp := pow_pos' j
  obtain ⟨r0, r1⟩ := room_e S
  obtain ⟨s0, s1, s2⟩ := strd_pos S
  rw [h, Int.zero_mul] at r0 r1
  obtain ⟨c, hc⟩ := wdiv S.hw S.ha
  obtain ⟨e, he⟩ := Int.dvd_of_emod_eq_zero (strd_mod (z := z) (j := j))
  have hz0 := Int.emod_nonneg z (show (2 : Int) ^ j ≠ 0 by omega)
  have e1 : w * 2 ^ k.toNat - 2 ^ j = 2 ^ j * (c * 2 ^ k.toNat - 1) := by rw [hc, Int.mul_sub, Int.mul_one, Int.mul_assoc]
  rw [e1] at r1 ⊢
  rw [he] at r1
  have hlt : c * 2 ^ k.toNat - 1 < e := by
    rcases Int.lt_or_le (c * 2 ^ k.toNat - 1) e with h | h
    · exact h
    · have := Int.mul_le_mul_of_nonneg_left h (Int.le_of_lt hp)
      omega
  have hle := Int.mul_le_mul_of_nonneg_left (show c * 2 ^ k.toNat - 1 ≤ e - 1 by omega) (Int.le_of_lt hp)
  have e2 : (2 : Int) ^ j * (e - 1) = 2 ^ j * e - 2 ^ j := by rw [Int.mul_sub, Int.mul_one]
  rw [e2, ← he] at hle
  have : strd z (2 ^ j) - 2 ^ j = z - z % 2 ^ j := by unfold strd; omega
  omega
def sp_law_is_shape : Sp := fun vs H Q _ => ∃ (F : Addr → Prop) (a : Addr) (w k z p : Int) (j : Nat) (v : V), vs = [.ref a, v] ∧ Ask5 H a w k z j p ∧ Dt F H v (shT w k z (2 ^ j)) ∧ Q (.bl true) H

theorem ok_law_is_shape (T : Tx K mg) : FnOk P w K mg base CX0 3 (He.ga K "_law_is_shape") T.fd_law_is_shape P_law_is_shape sp_law_is_shape := by
  refine T.F_law_is_shape.ok sc_law_is_shape (fun vs H Q E h => ?_) (fun cdv A outer s H vs Q E hr h => ⟨_, PSs.nox (pss_cons (ps_asg (pv 0) (pg_tup rfl (pgs_cons (pg_name (i := 4) sc_law_is_shape.nd rfl (Or.inl rfl)) (pgs_cons (pg_name (i := 5) sc_law_is_shape.nd rfl (Or.inl rfl)) (pgs_cons (pg_name (i := 6) sc_law_is_shape.nd rfl (Or.inl rfl)) (pgs_cons (pg_name (i := 7) sc_law_is_shape.nd rfl (Or.inl rfl)) (pgs_cons (pg_name (i := 8) sc_law_is_shape.nd rfl (Or.inl rfl)) pgs_nil))))))) (pss_cons (ps_set (i := 2) sc_law_is_shape.nd rfl (Or.inl rfl) (pe_op op_mul (pv 4) (pe_call (ok_law_power T) (hr.mono (by decide)) rfl T.g_law_power T.F_law_power.kp (b_law_power T) .nil pass0 (pa_cons (pv 5) pa_nil)))) (pss_cons (ps_if (pt_cmpR op_isN (pv 1) (pe_non) (nomark _)) (pss_one (ps_ret (pe_cmpR op_ge (pv 6) (pe_op op_sub (pv 2) (pv 7)) (nomark _)))) pss_nil) (pss_cons (ps_if (pt_not (pt_val (pe_call (ok_law_is_intsT T) hr rfl T.g_law_is_ints T.F_law_is_ints.kp (b_law_is_ints T) .nil pass0 (pa_cons (pv 1) (pa_cons (pe_bl) (pa_cons (pe_int) pa_nil)))))) (pss_one (ps_ret (pe_bl))) pss_nil) (pss_cons (ps_asg (pv 1) (pg_tup rfl (pgs_cons (pg_name (i := 9) sc_law_is_shape.nd rfl (Or.inl rfl)) (pgs_cons (pg_name (i := 10) sc_law_is_shape.nd rfl (Or.inl rfl)) (pgs_cons (pg_name (i := 11) sc_law_is_shape.nd rfl (Or.inl rfl)) pgs_nil))))) (pss_cons (ps_if (PW.pt (pw_or (pt_cmpR op_ne (pe_op op_mod (pe_callTy LL.call_intI (by rfl) T.z_int (by decide +kernel) (pa_cons (pv 9) pa_nil)) (pv 7)) (pe_int) (nomark _)) (pw_or (pt_not (pt_chain op_lt op_le (pv 6) (pv 9) (pe_op op_add (pv 6) (pv 7)))) (pw_or1 (pt_cmpR op_lt (pv 10) (pe_int) (nomark _)))))) (pss_one (ps_ret (pe_bl))) pss_nil) (pss_cons (ps_set (i := 3) sc_law_is_shape.nd rfl (Or.inl rfl) (pe_op op_sub (pv 2) (pe_op op_mul (pv 10) (pv 9)))) (pss_cons (ps_if (pt_not (pt_chain op_le op_lt (pv 7) (pv 3) (pe_op op_add (pv 7) (pv 9)))) (pss_one (ps_ret (pe_bl))) pss_nil) (pss_one (ps_ret ((pe_and (pe_cmpR op_ge (pv 11) (pe_int) (nomark _)) (pe_one (pe_chain op_le op_lt (pe_op op_mul (pv 7) (pv 11)) (pv 3) (pe_op op_mul (pv 7) (pe_op op_add (pv 11) (pe_int))))))))))))))))), ?_⟩)
  · obtain ⟨_, _, _, _, _, _, _, _, rfl, _⟩ := h
    rfl
  · obtain ⟨F, a, w, k, z, p, j, v, rfl, A, hv, q⟩ := h
    simp only [tSeq, tAsg, tRet, tRetN, tDrop, tNext, tVar, tC, gName, tOp, tUn, rI, rI0, rU, tIfS, tTest, tB, tIf, tAnd, tOr, tNot, tAndV, tOrV, tNotV, tCall, tCons, tNil, tCB, tLst, tTup, tChain, CMul, CDiv, CPow, rEq, rNe, gSub, L2.start, LL.cxK0, LL.cxK1, List.map_cons, List.map_nil, List.length_cons, List.length_nil, List.replicate_succ, List.replicate_zero, List.cons_append, List.nil_append, List.append_nil, List.getElem?_cons_zero, List.getElem?_cons_succ, List.set_cons_zero, List.set_cons_succ, Nat.add_sub_cancel, Nat.reduceAdd, Nat.reduceSub, Option.some.injEq, V.int.injEq, V.bl.injEq, V.ref.injEq, V.str.injEq, List.cons.injEq, and_true, true_and, and_false, false_and, exists_eq_left, exists_eq_left', exists_and_left, exists_and_right, exists_eq, exists_eq', LL.if_dec, reduceCtorEq, exists_false, exists_const, or_false, false_or, if_true, if_false, LL.rInt1, LL.rMx, LL.rMn, and_assoc, Int.reduceNeg, Int.reduceLT, Int.reduceLE, Int.reduceMul, Int.reduceAdd, Int.reduceSub, Int.reducePow, Int.reduceToNat, Nat.reducePow, Nat.reduceLT, true_or, or_true, Bool.not_true, Bool.not_false, Bool.false_eq_true, Bool.or_false, Bool.or_true, Bool.true_or, Bool.false_or, decide_true, decide_false, not_true_eq_false, not_false_eq_true, LL.scal_int, LL.scal_bl, LL.scal_str, LL.isInt, LL.isBl, LL.isStr, LL.isLst, LL.isTup, LL.isDic, N_law_is_shape, gTup]
    refine ⟨_, SqT.of A.at_, rfl, ?_⟩
    simp only [tSeq, tAsg, tRet, tRetN, tDrop, tNext, tVar, tC, gName, tOp, tUn, rI, rI0, rU, tIfS, tTest, tB, tIf, tAnd, tOr, tNot, tAndV, tOrV, tNotV, tCall, tCons, tNil, tCB, tLst, tTup, tChain, CMul, CDiv, CPow, rEq, rNe, gSub, L2.start, LL.cxK0, LL.cxK1, List.map_cons, List.map_nil, List.length_cons, List.length_nil, List.replicate_succ, List.replicate_zero, List.cons_append, List.nil_append, List.append_nil, List.getElem?_cons_zero, List.getElem?_cons_succ, List.set_cons_zero, List.set_cons_succ, Nat.add_sub_cancel, Nat.reduceAdd, Nat.reduceSub, Option.some.injEq, V.int.injEq, V.bl.injEq, V.ref.injEq, V.str.injEq, List.cons.injEq, and_true, true_and, and_false, false_and, exists_eq_left, exists_eq_left', exists_and_left, exists_and_right, exists_eq, exists_eq', LL.if_dec, reduceCtorEq, exists_false, exists_const, or_false, false_or, if_true, if_false, LL.rInt1, LL.rMx, LL.rMn, and_assoc, Int.reduceNeg, Int.reduceLT, Int.reduceLE, Int.reduceMul, Int.reduceAdd, Int.reduceSub, Int.reducePow, Int.reduceToNat, Nat.reducePow, Nat.reduceLT, true_or, or_true, Bool.not_true, Bool.not_false, Bool.false_eq_true, Bool.or_false, Bool.or_true, Bool.true_or, Bool.false_or, decide_true, decide_false, not_true_eq_false, not_false_eq_true, LL.scal_int, LL.scal_bl, LL.scal_str, LL.isInt, LL.isBl, LL.isStr, LL.isLst, LL.isTup, LL.isDic, gCons, gNil]
    have S := A.S
    have hww := S.hw
    obtain ⟨e0, e1⟩ := pow8 S.k0 S.k1
    have hp := pow_pos' j
    refine use_power S.k0 (by have := S.k1; omega) ⟨_, rfl, .inl ⟨by omega, by omega⟩, ?_⟩
    unfold shT at hv
    by_cases hs : slts w k z (2 ^ j) = 0
    · rw [if_pos hs] at hv
      obtain rfl : v = V.non := hv
      rw [if_pos rfl, decide_eq_true (shp_none S hs)]
      exact q
    · rw [if_neg hs] at hv
      refine itei (fun h => ?_) (fun _ => ?_)
      · obtain ⟨_, _, e, _⟩ := hv
        rw [e] at h
        cases h
      · refine use_intsB hv ⟨true, rfl, ?_⟩
        rw [if_neg (by simp)]
        obtain ⟨l, xs, rfl, fl, el, ⟨y1, _, rfl, f1, y2, _, rfl, f2, y3, _, rfl, f3, rfl⟩, _⟩ := hv
        obtain rfl : y1 = V.int _ := f1
        obtain rfl : y2 = V.int _ := f2
        obtain rfl : y3 = V.int _ := f3
        simp only [tSeq, tAsg, tRet, tRetN, tDrop, tNext, tVar, tC, gName, tOp, tUn, rI, rI0, rU, tIfS, tTest, tB, tIf, tAnd, tOr, tNot, tAndV, tOrV, tNotV, tCall, tCons, tNil, tCB, tLst, tTup, tChain, CMul, CDiv, CPow, rEq, rNe, gSub, L2.start, LL.cxK0, LL.cxK1, List.map_cons, List.map_nil, List.length_cons, List.length_nil, List.replicate_succ, List.replicate_zero, List.cons_append, List.nil_append, List.append_nil, List.getElem?_cons_zero, List.getElem?_cons_succ, List.set_cons_zero, List.set_cons_succ, Nat.add_sub_cancel, Nat.reduceAdd, Nat.reduceSub, Option.some.injEq, V.int.injEq, V.bl.injEq, V.ref.injEq, V.str.injEq, List.cons.injEq, and_true, true_and, and_false, false_and, exists_eq_left, exists_eq_left', exists_and_left, exists_and_right, exists_eq, exists_eq', LL.if_dec, reduceCtorEq, exists_false, exists_const, or_false, false_or, if_true, if_false, LL.rInt1, LL.rMx, LL.rMn, and_assoc, Int.reduceNeg, Int.reduceLT, Int.reduceLE, Int.reduceMul, Int.reduceAdd, Int.reduceSub, Int.reducePow, Int.reduceToNat, Nat.reducePow, Nat.reduceLT, true_or, or_true, Bool.not_true, Bool.not_false, Bool.false_eq_true, Bool.or_false, Bool.or_true, Bool.true_or, Bool.false_or, decide_true, decide_false, not_true_eq_false, not_false_eq_true, LL.scal_int, LL.scal_bl, LL.scal_str, LL.isInt, LL.isBl, LL.isStr, LL.isLst, LL.isTup, LL.isDic, gTup]
        refine ⟨_, SqT.of el, rfl, ?_⟩
        simp only [tSeq, tAsg, tRet, tRetN, tDrop, tNext, tVar, tC, gName, tOp, tUn, rI, rI0, rU, tIfS, tTest, tB, tIf, tAnd, tOr, tNot, tAndV, tOrV, tNotV, tCall, tCons, tNil, tCB, tLst, tTup, tChain, CMul, CDiv, CPow, rEq, rNe, gSub, L2.start, LL.cxK0, LL.cxK1, List.map_cons, List.map_nil, List.length_cons, List.length_nil, List.replicate_succ, List.replicate_zero, List.cons_append, List.nil_append, List.append_nil, List.getElem?_cons_zero, List.getElem?_cons_succ, List.set_cons_zero, List.set_cons_succ, Nat.add_sub_cancel, Nat.reduceAdd, Nat.reduceSub, Option.some.injEq, V.int.injEq, V.bl.injEq, V.ref.injEq, V.str.injEq, List.cons.injEq, and_true, true_and, and_false, false_and, exists_eq_left, exists_eq_left', exists_and_left, exists_and_right, exists_eq, exists_eq', LL.if_dec, reduceCtorEq, exists_false, exists_const, or_false, false_or, if_true, if_false, LL.rInt1, LL.rMx, LL.rMn, and_assoc, Int.reduceNeg, Int.reduceLT, Int.reduceLE, Int.reduceMul, Int.reduceAdd, Int.reduceSub, Int.reducePow, Int.reduceToNat, Nat.reducePow, Nat.reduceLT, true_or, or_true, Bool.not_true, Bool.not_false, Bool.false_eq_true, Bool.or_false, Bool.or_true, Bool.true_or, Bool.false_or, decide_true, decide_false, not_true_eq_false, not_false_eq_true, LL.scal_int, LL.scal_bl, LL.scal_str, LL.isInt, LL.isBl, LL.isStr, LL.isLst, LL.isTup, LL.isDic, gCons, gNil]
        obtain ⟨r0, r1⟩ := room_e S
        obtain ⟨c0, c1, c2⟩ := cols_b S
        obtain ⟨s0, s1, s2⟩ := strd_pos S
        obtain ⟨b0, b1, b2⟩ := slts_b S
        obtain ⟨_, rb⟩ := room_b S
        have hjw : (2 : Int) ^ j ≤ 64 := by have := S.ha; omega
        have hz1 := S.z1
        have m1 : (2 : Int) ^ j * (cols w k z (2 ^ j) - 1) = 2 ^ j * cols w k z (2 ^ j) - 2 ^ j := by rw [Int.mul_sub, Int.mul_one]
        have m2 : (2 : Int) ^ j * (cols w k z (2 ^ j) + 1) = 2 ^ j * cols w k z (2 ^ j) + 2 ^ j := by rw [Int.mul_add, Int.mul_one]
        rw [m1] at c1
        rw [m2]
        refine ⟨hp, ?_⟩
        rw [if_neg (by rw [decide_eq_true strd_mod]; simp), if_pos s1, if_neg (by rw [decide_eq_true s2]; simp), if_neg (by omega)]
        refine ⟨.inr ⟨by omega, by omega⟩, ?_⟩
        rw [if_pos (by omega), if_neg (by rw [decide_eq_true (by omega)]; simp), if_pos c0]
        refine ⟨.inl ⟨by omega, by omega⟩, ?_⟩
        rw [if_pos (by omega)]
        refine ⟨.inl ⟨by omega, by omega⟩, ?_⟩
        rw [decide_eq_true (by omega)]
        exact q
theorem dtl_ints {F : Addr → Prop} {H : Hp} : ∀ {xs : List V} (ns : List Int), DtL F H xs (ns.map LL.T.int) → xs = ns.map V.int
  | _, [], h => h
  | _, n :: ns, h => by
    obtain ⟨v, vs, rfl, h1, h2⟩ := h
    obtain rfl : v = V.int n := h1
    rw [dtl_ints ns h2]
    rfl
theorem next_mod {i : Nat} {c : Int} (hc : 1 ≤ c) : (((i + 1 : Nat) : Int)) % c = if (i : Int) % c + 1 = c then 0 else (i : Int) % c + 1 := by
  have h0 := Int.emod_nonneg (i : Int) (show c ≠ 0 by omega)
  have h1 := Int.emod_lt_of_pos (i : Int) (show 0 < c by omega)
  have e : (((i + 1 : Nat) : Int)) % c = ((i : Int) % c + 1) % c := by
    rw [show (((i + 1 : Nat) : Int)) = (i : Int) + 1 by omega, Int.emod_add_emod]
  rw [e]
  by_cases h : (i : Int) % c + 1 = c
  · rw [if_pos h, h, Int.emod_self]
  · rw [if_neg h, Int.emod_eq_of_lt (by omega) (by omega)]
theorem first_dvd {w k z p : Int} {j : Nat} (S : Shp w k z j) (i : Nat) : (stFirst w k z (2 ^ j) p + (i : Nat) * strd z (2 ^ j)) % 2 ^ j = 0 := by
  obtain ⟨c, hc⟩ := wdiv S.hw S.ha
  obtain ⟨e, he⟩ := Int.dvd_of_emod_eq_zero (strd_mod (z := z) (j := j))
  refine Int.emod_eq_zero_of_dvd (Int.dvd_add (Int.dvd_add (Int.dvd_add ?_ ⟨1, by rw [Int.mul_one]⟩) (Int.dvd_mul_left _ _)) ?_)
  · rw [hc, Int.mul_left_comm]; exact Int.dvd_mul_right _ _
  · rw [he, Int.mul_left_comm]; exact Int.dvd_mul_right _ _
theorem first_b {w k z p : Int} {j : Nat} (S : Shp w k z j) (p0 : 0 ≤ p) : p * w < stFirst w k z (2 ^ j) p ∧ stFirst w k z (2 ^ j) p ≤ p * w + w * 2 ^ k.toNat - slts w k z (2 ^ j) * strd z (2 ^ j) := by
  obtain ⟨c0, c1, c2⟩ := cols_b S
  have hp := pow_pos' j
  obtain ⟨e0, e1⟩ := pow8 S.k0 S.k1
  have m0 := Int.emod_nonneg (p / 2 ^ k.toNat) (show cols w k z (2 ^ j) ≠ 0 by omega)
  have m1 := Int.emod_lt_of_pos (p / 2 ^ k.toNat) (show 0 < cols w k z (2 ^ j) by omega)
  have h1 : (p / 2 ^ k.toNat) % cols w k z (2 ^ j) * 2 ^ j ≤ (cols w k z (2 ^ j) - 1) * 2 ^ j := Int.mul_le_mul_of_nonneg_right (by omega) (by omega)
  rw [Int.mul_comm (cols w k z (2 ^ j) - 1)] at h1
  have h0 : 0 ≤ (p / 2 ^ k.toNat) % cols w k z (2 ^ j) * 2 ^ j := Int.mul_nonneg m0 (by omega)
  unfold stFirst
  omega
def beh (f st z lo : Int) (i : Nat) : Int := if i = 0 then lo else f + ((i : Int) - 1) * st + z
def sp_law_are_starts : Sp := fun vs H Q _ => ∃ (F G : Addr → Prop) (a : Addr) (w k z p : Int) (j : Nat) (v x : V), vs = [.ref a, v, x] ∧ Ask5 H a w k z j p ∧ Dt F H v (shT w k z (2 ^ j)) ∧ Dt G H x (.lst ((stsL w k z (2 ^ j) p).map LL.T.int)) ∧ ∀ H', Same H H' → Q (.bl true) H'

theorem ok_law_are_starts (T : Tx K mg) : FnOk P w K mg base CX0 10 (He.ga K "_law_are_starts") T.fd_law_are_starts P_law_are_starts sp_law_are_starts := by
  refine T.F_law_are_starts.ok sc_law_are_starts (fun vs H Q E h => ?_) (fun cdv A outer s H vs Q E hr h => ⟨_, PSs.nox (pss_cons (ps_asg (pv 0) (pg_tup rfl (pgs_cons (pg_name (i := 7) sc_law_are_starts.nd rfl (Or.inl rfl)) (pgs_cons (pg_name (i := 8) sc_law_are_starts.nd rfl (Or.inl rfl)) (pgs_cons (pg_name (i := 9) sc_law_are_starts.nd rfl (Or.inl rfl)) (pgs_cons (pg_name (i := 10) sc_law_are_starts.nd rfl (Or.inl rfl)) (pgs_cons (pg_name (i := 11) sc_law_are_starts.nd rfl (Or.inl rfl)) pgs_nil))))))) (pss_cons (ps_if (pt_cmpR op_isN (pv 1) (pe_non) (nomark _)) (pss_one (ps_ret (pe_call (ok_law_same T 8) hr rfl T.g_law_same T.F_law_same.kp (b_law_same T) .nil pass0 (pa_cons (pv 2) (pa_cons (pe_lst pa_nil) pa_nil))))) pss_nil) (pss_cons (ps_if (pt_not (pt_val (pe_call (ok_law_is_intsL T) (hr.mono (by decide)) rfl T.g_law_is_ints T.F_law_is_ints.kp (b_law_is_ints T) .nil pass0 (pa_cons (pv 2) (pa_cons (pe_bl) (pa_cons (pe_ix (show IxR _ (rIxT K) from ix_tup) (pv 1) (pe_int) (fun _ _ => rfl)) pa_nil)))))) (pss_one (ps_ret (pe_bl))) pss_nil) (pss_cons (ps_set (i := 3) sc_law_are_starts.nd rfl (Or.inl rfl) (pe_op op_mul (pv 11) (pv 7))) (pss_cons (ps_set (i := 4) sc_law_are_starts.nd rfl (Or.inl rfl) (pe_int)) (pss_cons (ps_for PassesOwn.never rfl (pi_range1 rfl T.z_range (pa_cons (pe_op op_fdiv (pv 11) (pe_call (ok_law_power T) (hr.mono (by decide)) rfl T.g_law_power T.F_law_power.kp (b_law_power T) .nil pass0 (pa_cons (pv 8) pa_nil))) pa_nil)) (pg_name (i := 5) sc_law_are_starts.nd rfl (Or.inl rfl)) (pss_cons (ps_set (i := 4) sc_law_are_starts.nd rfl (Or.inl rfl) (pe_op op_add (pv 4) (pe_int))) (pss_one (ps_if (pt_cmpR op_eq (pv 4) (pe_ix (show IxR _ (rIxT K) from ix_tup) (pv 1) (pe_int) (fun _ _ => rfl)) (nomark _)) (pss_one (ps_set (i := 4) sc_law_are_starts.nd rfl (Or.inl rfl) (pe_int))) pss_nil)))) (pss_cons (ps_if (pt_cmpR op_ne (pe_ix (show IxR _ (rIxL K) from ix_list) (pv 2) (pe_int) (fun _ _ => rfl)) (pe_op op_add (pe_op op_add (pv 3) (pv 10)) (pe_op op_mul (pv 4) (pv 10))) (nomark _)) (pss_one (ps_ret (pe_bl))) pss_nil) (pss_cons (ps_set (i := 6) sc_law_are_starts.nd rfl (Or.inl rfl) (pv 3)) (pss_cons (ps_for PassesOwn.never rfl (pi_range1 rfl T.z_range (pa_cons (pe_callB LL.call_lenL (by rfl) T.z_len (by decide +kernel) (pa_cons (pv 2) pa_nil)) pa_nil)) (pg_name (i := 5) sc_law_are_starts.nd rfl (Or.inl rfl)) (pss_cons (ps_if (PW.pt (pw_or (pt_cmpR op_le (pe_ix (show IxR _ (rIxL K) from ix_list) (pv 2) (pv 5) (fun _ _ => rfl)) (pv 6) (nomark _)) (pw_or1 (pt_cmpR op_ne (pe_op op_mod (pe_callTy LL.call_intI (by rfl) T.z_int (by decide +kernel) (pa_cons (pe_ix (show IxR _ (rIxL K) from ix_list) (pv 2) (pv 5) (fun _ _ => rfl)) pa_nil)) (pv 10)) (pe_int) (nomark _))))) (pss_one (ps_ret (pe_bl))) pss_nil) (pss_cons (ps_if (PW.pt (pw_and (pt_cmpR op_gt (pv 5) (pe_int) (nomark _)) (pw_and1 (pt_cmpR op_ne (pe_ix (show IxR _ (rIxL K) from ix_list) (pv 2) (pv 5) (fun _ _ => rfl)) (pe_op op_add (pe_ix (show IxR _ (rIxL K) from ix_list) (pv 2) (pe_op op_sub (pv 5) (pe_int)) (fun _ _ => rfl)) (pe_ix (show IxR _ (rIxT K) from ix_tup) (pv 1) (pe_int) (fun _ _ => rfl))) (nomark _))))) (pss_one (ps_ret (pe_bl))) pss_nil) (pss_one (ps_set (i := 6) sc_law_are_starts.nd rfl (Or.inl rfl) (pe_op op_add (pe_ix (show IxR _ (rIxL K) from ix_list) (pv 2) (pv 5) (fun _ _ => rfl)) (pv 9))))))) (pss_one (ps_ret (pe_cmpR op_lt (pv 6) (pe_op op_add (pv 3) (pe_op op_mul (pv 7) (pe_call (ok_law_power T) (hr.mono (by decide)) rfl T.g_law_power T.F_law_power.kp (b_law_power T) .nil pass0 (pa_cons (pv 8) pa_nil)))) (nomark _))))))))))))), ?_⟩)
  · obtain ⟨_, _, _, _, _, _, _, _, _, _, rfl, _⟩ := h
    rfl
  · obtain ⟨F, G, a, w, k, z, p, j, v, x, rfl, A, hv, hx, q⟩ := h
    simp only [tSeq, tAsg, tRet, tRetN, tDrop, tNext, tVar, tC, gName, tOp, tUn, rI, rI0, rU, tIfS, tTest, tB, tIf, tAnd, tOr, tNot, tAndV, tOrV, tNotV, tCall, tCons, tNil, tCB, tLst, tTup, tChain, CMul, CDiv, CPow, rEq, rNe, gSub, L2.start, LL.cxK0, LL.cxK1, List.map_cons, List.map_nil, List.length_cons, List.length_nil, List.replicate_succ, List.replicate_zero, List.cons_append, List.nil_append, List.append_nil, List.getElem?_cons_zero, List.getElem?_cons_succ, List.set_cons_zero, List.set_cons_succ, Nat.add_sub_cancel, Nat.reduceAdd, Nat.reduceSub, Option.some.injEq, V.int.injEq, V.bl.injEq, V.ref.injEq, V.str.injEq, List.cons.injEq, and_true, true_and, and_false, false_and, exists_eq_left, exists_eq_left', exists_and_left, exists_and_right, exists_eq, exists_eq', LL.if_dec, reduceCtorEq, exists_false, exists_const, or_false, false_or, if_true, if_false, LL.rInt1, LL.rMx, LL.rMn, and_assoc, Int.reduceNeg, Int.reduceLT, Int.reduceLE, Int.reduceMul, Int.reduceAdd, Int.reduceSub, Int.reducePow, Int.reduceToNat, Nat.reducePow, Nat.reduceLT, true_or, or_true, Bool.not_true, Bool.not_false, Bool.false_eq_true, Bool.or_false, Bool.or_true, Bool.true_or, Bool.false_or, decide_true, decide_false, not_true_eq_false, not_false_eq_true, LL.scal_int, LL.scal_bl, LL.scal_str, LL.isInt, LL.isBl, LL.isStr, LL.isLst, LL.isTup, LL.isDic, N_law_are_starts, gTup]
    refine ⟨_, SqT.of A.at_, rfl, ?_⟩
    simp only [tSeq, tAsg, tRet, tRetN, tDrop, tNext, tVar, tC, gName, tOp, tUn, rI, rI0, rU, tIfS, tTest, tB, tIf, tAnd, tOr, tNot, tAndV, tOrV, tNotV, tCall, tCons, tNil, tCB, tLst, tTup, tChain, CMul, CDiv, CPow, rEq, rNe, gSub, L2.start, LL.cxK0, LL.cxK1, List.map_cons, List.map_nil, List.length_cons, List.length_nil, List.replicate_succ, List.replicate_zero, List.cons_append, List.nil_append, List.append_nil, List.getElem?_cons_zero, List.getElem?_cons_succ, List.set_cons_zero, List.set_cons_succ, Nat.add_sub_cancel, Nat.reduceAdd, Nat.reduceSub, Option.some.injEq, V.int.injEq, V.bl.injEq, V.ref.injEq, V.str.injEq, List.cons.injEq, and_true, true_and, and_false, false_and, exists_eq_left, exists_eq_left', exists_and_left, exists_and_right, exists_eq, exists_eq', LL.if_dec, reduceCtorEq, exists_false, exists_const, or_false, false_or, if_true, if_false, LL.rInt1, LL.rMx, LL.rMn, and_assoc, Int.reduceNeg, Int.reduceLT, Int.reduceLE, Int.reduceMul, Int.reduceAdd, Int.reduceSub, Int.reducePow, Int.reduceToNat, Nat.reducePow, Nat.reduceLT, true_or, or_true, Bool.not_true, Bool.not_false, Bool.false_eq_true, Bool.or_false, Bool.or_true, Bool.true_or, Bool.false_or, decide_true, decide_false, not_true_eq_false, not_false_eq_true, LL.scal_int, LL.scal_bl, LL.scal_str, LL.isInt, LL.isBl, LL.isStr, LL.isLst, LL.isTup, LL.isDic, gCons, gNil]
    have S := A.S
    have hww := S.hw
    obtain ⟨e0, e1⟩ := pow8 S.k0 S.k1
    have hp := pow_pos' j
    unfold shT at hv
    by_cases hs : slts w k z (2 ^ j) = 0
    · rw [if_pos hs] at hv
      obtain rfl : v = V.non := hv
      rw [if_pos rfl]
      unfold stsL at hx
      rw [if_pos hs] at hx
      refine ⟨by decide, ?_⟩
      intro l nl
      generalize hq : upd H l _ = H1
      have sH1 : Same H H1 := hq ▸ Same.new (Same.refl _) nl
      have el := hq ▸ (upd_same (H := H) (a := l))
      clear hq
      exact use_same (hx.same sH1) (G := fun _ => True) ⟨l, _, rfl, trivial, el, rfl, by simp⟩ (by decide) fun H2 s2 => q _ (sH1.trans s2)
    · rw [if_neg hs] at hv
      unfold stsL at hx
      rw [if_neg hs] at hx
      refine itei (fun h => ?_) (fun _ => ?_)
      · obtain ⟨_, _, e, _⟩ := hv
        rw [e] at h
        cases h
      · obtain ⟨l, xs, rfl, fl, el, ⟨y1, _, rfl, f1, y2, _, rfl, f2, y3, _, rfl, f3, rfl⟩, _⟩ := hv
        obtain rfl : y1 = V.int _ := f1
        obtain rfl : y2 = V.int _ := f2
        obtain rfl : y3 = V.int _ := f3
        obtain ⟨r0, r1⟩ := room_e S
        obtain ⟨c0, c1, c2⟩ := cols_b S
        obtain ⟨s0, s1, s2⟩ := strd_pos S
        obtain ⟨b0, b1, b2⟩ := slts_b S
        obtain ⟨_, rb⟩ := room_b S
        obtain ⟨fb0, fb1⟩ := first_b (p := p) S A.p0
        have hfirst : stFirst w k z (2 ^ j) p = p * w + 2 ^ j + (p / 2 ^ k.toNat) % cols w k z (2 ^ j) * 2 ^ j := rfl
        have hdv := fun i => first_dvd (p := p) S i
        have hjw : (2 : Int) ^ j ≤ 64 := by have := S.ha; omega
        have hz0 := S.z0
        have hz1 := S.z1
        refine use_ixT el rfl ?_
        refine use_intsB hx ⟨true, ?_, ?_⟩
        · show V.bl (true && ((decide (slts w k z (2 ^ j) < 0) || decide (((((List.range (slts w k z (2 ^ j)).toNat).map fun i => stFirst w k z (2 ^ j) p + (i : Nat) * strd z (2 ^ j)).map LL.T.int).length : Int) = slts w k z (2 ^ j))) && _)) = V.bl true
          rw [List.length_map, List.length_map, List.length_range, decide_eq_true (show (((slts w k z (2 ^ j)).toNat : Nat) : Int) = slts w k z (2 ^ j) by omega), Bool.or_true, Bool.true_and, List.all_map]
          exact congrArg V.bl (by rw [Bool.true_and]; exact List.all_eq_true.mpr fun _ _ => rfl)
        rw [if_neg (by simp)]
        obtain ⟨lx, xs, rfl, fx, ex, hxs, _⟩ := hx
        obtain rfl := dtl_ints _ hxs
        generalize hn : (slts w k z (2 ^ j)).toNat = n at ex
        have hn1 : slts w k z (2 ^ j) = n := by omega
        rw [hn1] at fb1
        generalize hf : stFirst w k z (2 ^ j) p = f at *
        generalize hst : strd z (2 ^ j) = st at *
        have hat : ∀ i : Nat, i < n → (((List.range n).map fun i => f + (i : Nat) * st).map V.int)[i]? = some (V.int (f + (i : Nat) * st)) := fun i hi => by
          rw [List.getElem?_map, List.getElem?_map, List.getElem?_range hi]
          rfl
        have hlen : (((List.range n).map fun i => f + (i : Nat) * st).map V.int).length = n := by rw [List.length_map, List.length_map, List.length_range]
        generalize (((List.range n).map fun i => f + (i : Nat) * st).map V.int) = xs at ex hat hlen
        have hpd0 := Int.ediv_nonneg A.p0 (show (0 : Int) ≤ 2 ^ k.toNat by omega)
        have hpd1 : p / 2 ^ k.toNat ≤ p := Int.ediv_le_self _ A.p0
        have hp0 := A.p0
        have hp1 := A.p1
        refine ⟨.inl ⟨by omega, by omega⟩, ?_⟩
        refine use_forR (j := p / 2 ^ k.toNat) (fun Q q => ?_) (by omega) (by omega) (fun i σ' H' => H' = H ∧ ∃ y : Option V, σ' = [some (.ref a), some (.ref l), some (.ref lx), some (.int (p * w)), some (.int ((i : Int) % cols w k z (2 ^ j))), y, none, some (.int w), some (.int k), some (.int z), some (.int (2 ^ j)), some (.int p)]) ⟨rfl, none, by rw [show ((0 : Nat) : Int) % cols w k z (2 ^ j) = 0 from Int.zero_emod _]⟩ ?_ ?_
        · simp only [tSeq, tAsg, tRet, tRetN, tDrop, tNext, tVar, tC, gName, tOp, tUn, rI, rI0, rU, tIfS, tTest, tB, tIf, tAnd, tOr, tNot, tAndV, tOrV, tNotV, tCall, tCons, tNil, tCB, tLst, tTup, tChain, CMul, CDiv, CPow, rEq, rNe, gSub, L2.start, LL.cxK0, LL.cxK1, List.map_cons, List.map_nil, List.length_cons, List.length_nil, List.replicate_succ, List.replicate_zero, List.cons_append, List.nil_append, List.append_nil, List.getElem?_cons_zero, List.getElem?_cons_succ, List.set_cons_zero, List.set_cons_succ, Nat.add_sub_cancel, Nat.reduceAdd, Nat.reduceSub, Option.some.injEq, V.int.injEq, V.bl.injEq, V.ref.injEq, V.str.injEq, List.cons.injEq, and_true, true_and, and_false, false_and, exists_eq_left, exists_eq_left', exists_and_left, exists_and_right, exists_eq, exists_eq', LL.if_dec, reduceCtorEq, exists_false, exists_const, or_false, false_or, if_true, if_false, LL.rInt1, LL.rMx, LL.rMn, and_assoc, Int.reduceNeg, Int.reduceLT, Int.reduceLE, Int.reduceMul, Int.reduceAdd, Int.reduceSub, Int.reducePow, Int.reduceToNat, Nat.reducePow, Nat.reduceLT, true_or, or_true, Bool.not_true, Bool.not_false, Bool.false_eq_true, Bool.or_false, Bool.or_true, Bool.true_or, Bool.false_or, decide_true, decide_false, not_true_eq_false, not_false_eq_true, LL.scal_int, LL.scal_bl, LL.scal_str, LL.isInt, LL.isBl, LL.isStr, LL.isLst, LL.isTup, LL.isDic]
          exact use_power S.k0 (by have := S.k1; omega) ⟨_, rfl, by omega, by omega, q⟩
        · rintro i σ' H' hi ⟨rfl, y, rfl⟩
          simp only [tSeq, tAsg, tRet, tRetN, tDrop, tNext, tVar, tC, gName, tOp, tUn, rI, rI0, rU, tIfS, tTest, tB, tIf, tAnd, tOr, tNot, tAndV, tOrV, tNotV, tCall, tCons, tNil, tCB, tLst, tTup, tChain, CMul, CDiv, CPow, rEq, rNe, gSub, L2.start, LL.cxK0, LL.cxK1, List.map_cons, List.map_nil, List.length_cons, List.length_nil, List.replicate_succ, List.replicate_zero, List.cons_append, List.nil_append, List.append_nil, List.getElem?_cons_zero, List.getElem?_cons_succ, List.set_cons_zero, List.set_cons_succ, Nat.add_sub_cancel, Nat.reduceAdd, Nat.reduceSub, Option.some.injEq, V.int.injEq, V.bl.injEq, V.ref.injEq, V.str.injEq, List.cons.injEq, and_true, true_and, and_false, false_and, exists_eq_left, exists_eq_left', exists_and_left, exists_and_right, exists_eq, exists_eq', LL.if_dec, reduceCtorEq, exists_false, exists_const, or_false, false_or, if_true, if_false, LL.rInt1, LL.rMx, LL.rMn, and_assoc, Int.reduceNeg, Int.reduceLT, Int.reduceLE, Int.reduceMul, Int.reduceAdd, Int.reduceSub, Int.reducePow, Int.reduceToNat, Nat.reducePow, Nat.reduceLT, true_or, or_true, Bool.not_true, Bool.not_false, Bool.false_eq_true, Bool.or_false, Bool.or_true, Bool.true_or, Bool.false_or, decide_true, decide_false, not_true_eq_false, not_false_eq_true, LL.scal_int, LL.scal_bl, LL.scal_str, LL.isInt, LL.isBl, LL.isStr, LL.isLst, LL.isTup, LL.isDic]
          refine use_ixT el rfl ⟨scal_int.mpr trivial, ?_⟩
          rw [next_mod c0]
          refine itei (fun h => ?_) (fun h => ?_)
          · have h : (i : Int) % cols w k z (2 ^ j) + 1 = cols w k z (2 ^ j) := by simpa using h
            rw [if_pos h]
            exact ⟨rfl, rfl⟩
          · have h : ¬ (i : Int) % cols w k z (2 ^ j) + 1 = cols w k z (2 ^ j) := by simpa using h
            rw [if_neg h]
            exact ⟨rfl, rfl⟩
        · rintro σ' H' ⟨rfl, y, rfl⟩
          rw [show (((p / 2 ^ k.toNat).toNat : Nat) : Int) = p / 2 ^ k.toNat by omega]
          simp only [tSeq, tAsg, tRet, tRetN, tDrop, tNext, tVar, tC, gName, tOp, tUn, rI, rI0, rU, tIfS, tTest, tB, tIf, tAnd, tOr, tNot, tAndV, tOrV, tNotV, tCall, tCons, tNil, tCB, tLst, tTup, tChain, CMul, CDiv, CPow, rEq, rNe, gSub, L2.start, LL.cxK0, LL.cxK1, List.map_cons, List.map_nil, List.length_cons, List.length_nil, List.replicate_succ, List.replicate_zero, List.cons_append, List.nil_append, List.append_nil, List.getElem?_cons_zero, List.getElem?_cons_succ, List.set_cons_zero, List.set_cons_succ, Nat.add_sub_cancel, Nat.reduceAdd, Nat.reduceSub, Option.some.injEq, V.int.injEq, V.bl.injEq, V.ref.injEq, V.str.injEq, List.cons.injEq, and_true, true_and, and_false, false_and, exists_eq_left, exists_eq_left', exists_and_left, exists_and_right, exists_eq, exists_eq', LL.if_dec, reduceCtorEq, exists_false, exists_const, or_false, false_or, if_true, if_false, LL.rInt1, LL.rMx, LL.rMn, and_assoc, Int.reduceNeg, Int.reduceLT, Int.reduceLE, Int.reduceMul, Int.reduceAdd, Int.reduceSub, Int.reducePow, Int.reduceToNat, Nat.reducePow, Nat.reduceLT, true_or, or_true, Bool.not_true, Bool.not_false, Bool.false_eq_true, Bool.or_false, Bool.or_true, Bool.true_or, Bool.false_or, decide_true, decide_false, not_true_eq_false, not_false_eq_true, LL.scal_int, LL.scal_bl, LL.scal_str, LL.isInt, LL.isBl, LL.isStr, LL.isLst, LL.isTup, LL.isDic]
          have hnpos : 0 < n := by omega
          refine use_ixL ex (v := .int (f + ((0 : Nat) : Int) * st)) (atI_nat (j := 0) (by rw [hat 0 hnpos])) ⟨.inr ⟨by omega, by omega⟩, scal_int.mpr trivial, ?_⟩
          rw [if_neg (by rw [decide_eq_true (by rw [← hfirst, show ((0 : Nat) : Int) = 0 from rfl, Int.zero_mul, Int.add_zero])]; simp)]
          refine use_forR (j := (n : Nat)) (fun Q q => ⟨_, rfl, use_lenL ex (by rw [hlen]; exact q)⟩) (by omega) (by omega) (fun i σ' H2 => H2 = H' ∧ ∃ y : Option V, σ' = [some (.ref a), some (.ref l), some (.ref lx), some (.int (p * w)), some (.int (p / 2 ^ k.toNat % cols w k z (2 ^ j))), y, some (.int (beh f st z (p * w) i)), some (.int w), some (.int k), some (.int z), some (.int (2 ^ j)), some (.int p)]) ⟨rfl, _, by rw [show beh f st z (p * w) 0 = p * w from if_pos rfl]⟩ ?_ ?_
          · rintro i σ' H2 hi ⟨rfl, y2, rfl⟩
            have hi2 : i < n := by omega
            have hbi : beh f st z (p * w) i < f + (i : Nat) * st := by
              unfold beh
              by_cases h : i = 0
              · rw [if_pos h, h, show ((0 : Nat) : Int) = 0 from rfl, Int.zero_mul]; omega
              · rw [if_neg h, Int.sub_mul, Int.one_mul]; omega
            have hbn : beh f st z (p * w) (i + 1) = f + (i : Nat) * st + z := by
              unfold beh
              rw [if_neg (by omega), show (((i + 1 : Nat) : Int) - 1) = i by omega]
            simp only [tSeq, tAsg, tRet, tRetN, tDrop, tNext, tVar, tC, gName, tOp, tUn, rI, rI0, rU, tIfS, tTest, tB, tIf, tAnd, tOr, tNot, tAndV, tOrV, tNotV, tCall, tCons, tNil, tCB, tLst, tTup, tChain, CMul, CDiv, CPow, rEq, rNe, gSub, L2.start, LL.cxK0, LL.cxK1, List.map_cons, List.map_nil, List.length_cons, List.length_nil, List.replicate_succ, List.replicate_zero, List.cons_append, List.nil_append, List.append_nil, List.getElem?_cons_zero, List.getElem?_cons_succ, List.set_cons_zero, List.set_cons_succ, Nat.add_sub_cancel, Nat.reduceAdd, Nat.reduceSub, Option.some.injEq, V.int.injEq, V.bl.injEq, V.ref.injEq, V.str.injEq, List.cons.injEq, and_true, true_and, and_false, false_and, exists_eq_left, exists_eq_left', exists_and_left, exists_and_right, exists_eq, exists_eq', LL.if_dec, reduceCtorEq, exists_false, exists_const, or_false, false_or, if_true, if_false, LL.rInt1, LL.rMx, LL.rMn, and_assoc, Int.reduceNeg, Int.reduceLT, Int.reduceLE, Int.reduceMul, Int.reduceAdd, Int.reduceSub, Int.reducePow, Int.reduceToNat, Nat.reducePow, Nat.reduceLT, true_or, or_true, Bool.not_true, Bool.not_false, Bool.false_eq_true, Bool.or_false, Bool.or_true, Bool.true_or, Bool.false_or, decide_true, decide_false, not_true_eq_false, not_false_eq_true, LL.scal_int, LL.scal_bl, LL.scal_str, LL.isInt, LL.isBl, LL.isStr, LL.isLst, LL.isTup, LL.isDic]
            rw [Int.zero_add]
            refine use_ixL ex (atI_nat (hat i hi2)) ⟨_, rfl, ?_⟩
            rw [if_neg (by omega)]
            refine use_ixL ex (atI_nat (hat i hi2)) ?_
            refine ⟨_, rfl, hp, ?_⟩
            rw [if_neg (by rw [decide_eq_true (hdv i)]; simp)]
            refine itei (fun h => ?_) (fun h => use_ixL ex (atI_nat (hat i hi2)) ⟨_, rfl, rfl, hbn.symm⟩)
            obtain ⟨i', rfl⟩ : ∃ i', i = i' + 1 := ⟨i - 1, by omega⟩
            refine use_ixL ex (atI_nat (hat (i' + 1) hi2)) ?_
            rw [show ((i' + 1 : Nat) : Int) - 1 = (i' : Nat) by omega]
            refine use_ixL ex (atI_nat (hat i' (by omega))) (use_ixT el rfl ⟨_, rfl, _, rfl, scal_int.mpr trivial, ?_⟩)
            rw [if_neg (by rw [decide_eq_true (by rw [show ((i' + 1 : Nat) : Int) = i' + 1 by omega, Int.add_mul, Int.one_mul, Int.add_assoc])]; simp)]
            exact use_ixL ex (atI_nat (hat (i' + 1) hi2)) ⟨_, rfl, rfl, hbn.symm⟩
          · rintro σ' H2 ⟨rfl, y2, rfl⟩
            simp only [tSeq, tAsg, tRet, tRetN, tDrop, tNext, tVar, tC, gName, tOp, tUn, rI, rI0, rU, tIfS, tTest, tB, tIf, tAnd, tOr, tNot, tAndV, tOrV, tNotV, tCall, tCons, tNil, tCB, tLst, tTup, tChain, CMul, CDiv, CPow, rEq, rNe, gSub, L2.start, LL.cxK0, LL.cxK1, List.map_cons, List.map_nil, List.length_cons, List.length_nil, List.replicate_succ, List.replicate_zero, List.cons_append, List.nil_append, List.append_nil, List.getElem?_cons_zero, List.getElem?_cons_succ, List.set_cons_zero, List.set_cons_succ, Nat.add_sub_cancel, Nat.reduceAdd, Nat.reduceSub, Option.some.injEq, V.int.injEq, V.bl.injEq, V.ref.injEq, V.str.injEq, List.cons.injEq, and_true, true_and, and_false, false_and, exists_eq_left, exists_eq_left', exists_and_left, exists_and_right, exists_eq, exists_eq', LL.if_dec, reduceCtorEq, exists_false, exists_const, or_false, false_or, if_true, if_false, LL.rInt1, LL.rMx, LL.rMn, and_assoc, Int.reduceNeg, Int.reduceLT, Int.reduceLE, Int.reduceMul, Int.reduceAdd, Int.reduceSub, Int.reducePow, Int.reduceToNat, Nat.reducePow, Nat.reduceLT, true_or, or_true, Bool.not_true, Bool.not_false, Bool.false_eq_true, Bool.or_false, Bool.or_true, Bool.true_or, Bool.false_or, decide_true, decide_false, not_true_eq_false, not_false_eq_true, LL.scal_int, LL.scal_bl, LL.scal_str, LL.isInt, LL.isBl, LL.isStr, LL.isLst, LL.isTup, LL.isDic]
            refine use_power S.k0 (by have := S.k1; omega) ⟨_, rfl, .inl ⟨by omega, by omega⟩, ?_⟩
            have hbe : beh f st z (p * w) n < p * w + w * 2 ^ k.toNat := by
              unfold beh
              rw [if_neg (by omega), Int.sub_mul, Int.one_mul]
              omega
            rw [show ((n : Int).toNat) = n by omega, decide_eq_true hbe]
            exact q _ (Same.refl _)
end K25

namespace K25
open PySem PySem.Spec PyProof.Rows L2 LL
variable {P : Program} {w : World} {K : PySem.W.Frag} {mg : Str → Option Value} {base : Heap}

/-- a row of which some parts were made bad -/
structure R3 (H0 H : Hp) (d s r : Addr) (xs : List V) (ts : List LL.T) : Prop where
  D0 : Drw d s H0
  new : H0 r = none
  A : Aft d s H0 H
  at_ : H r = some (.lst xs)
  dt : DtL (fun a => a ≠ s ∧ a ≠ r) H xs ts
theorem R3.ne {H0 H : Hp} {d s r : Addr} {xs : List V} {ts : List LL.T} (R : R3 H0 H d s r xs ts) : r ≠ s := R.D0.ne _ R.new
theorem R3.aft {H0 H H' : Hp} {d s r : Addr} {xs : List V} {ts : List LL.T} (R : R3 H0 H d s r xs ts) (a : Aft d s H H') : R3 H0 H' d s r xs ts := ⟨R.D0, R.new, R.A.trans a, a.at R.at_ R.ne, R.dt.kp (fun _ z => z.1) a.kp⟩
theorem R3.same {H0 H H' : Hp} {d s r : Addr} {xs : List V} {ts : List LL.T} (R : R3 H0 H d s r xs ts) (a : Same H H') : R3 H0 H' d s r xs ts := R.aft (Aft.same R.A.dr a)
theorem R3.set {H0 H : Hp} {d s r : Addr} {xs : List V} {ts : List LL.T} (R : R3 H0 H d s r xs ts) (j : Nat) {v : V} {t : LL.T} (h : Dt (fun a => a ≠ s ∧ a ≠ r) H v t) : R3 H0 (upd H r (.lst (xs.set j v))) d s r (xs.set j v) (ts.set j t) :=
  ⟨R.D0, R.new, Aft.own R.D0 R.A R.new, upd_same, (R.dt.set h).off fun a z => z.2⟩
theorem R3.new_dt {H0 H H' : Hp} {d s r : Addr} {xs : List V} {ts : List LL.T} {v : V} {t : LL.T} (R : R3 H0 H d s r xs ts) (h : Dt (fun a => H a = none) H' v t) : Dt (fun a => a ≠ s ∧ a ≠ r) H' v t := h.to fun a ha => ⟨R.A.dr.ne a ha, fun z => by rw [z, R.at_] at ha; cases ha⟩
theorem no_wid {t : LL.T} (h : ∀ n ∈ ([16, 32, 64] : List Int), t ≠ .int n) : widB t = false := by
  cases t with
  | int i => exact decide_eq_false fun c => by rcases c with rfl | rfl | rfl <;> exact h _ (by simp) rfl
  | _ => rfl
theorem out_in {lo hi : Int} {t : LL.T} (h : Out lo hi t) : ¬ InR lo hi t := by
  cases t with
  | int i =>
    have h : i < lo ∨ hi < i := h
    intro (z : lo ≤ i ∧ i ≤ hi)
    omega
  | _ => intro z; exact z

end K25

namespace K25
open PySem PySem.Spec PyProof.Rows L2 LL
variable {P : Program} {w : World} {K : PySem.W.Frag} {mg : Str → Option Value} {base : Heap}

def refT3 (n : Str) : LL.T := .tup [.str "BadValue", .str n, .tup [.str "BadValue", .tup [.str n]], .tup [.bl true, .bl true, .bl false]]
def refO (fl : Bool) (a b c e f : LL.T) : LL.T := if fl = true then (match stBad a b c e f with | some n => refT3 n | none => .non) else match shBad a b c e with
  | some n => refT3 n
  | none => .tup [.str "done", shT (intT a) (intT b) (intT c) (intT e)]
def sp_law_refusal : Sp := fun vs H Q _ => ∃ (F : Addr → Prop) (fl : Bool) (p : Addr) (v1 v2 v3 v4 v5 : V) (t1 t2 t3 t4 t5 : LL.T), vs = [.ref p, .bl fl] ∧ H p = some (.lst [v1, v2, v3, v4, v5]) ∧ Dt F H v1 t1 ∧ Dt F H v2 t2 ∧ Dt F H v3 t3 ∧ Dt F H v4 t4 ∧ Dt F H v5 t5 ∧ (fl = true → stBad t1 t2 t3 t4 t5 ≠ none) ∧ ∀ r H', Same H H' → Dt (fun _ => True) H' r (refO fl t1 t2 t3 t4 t5) → Q r H'

theorem ok_law_refusal (T : Tx K mg) : FnOk P w K mg base CX0 8 (He.ga K "_law_refusal") T.fd_law_refusal P_law_refusal sp_law_refusal := by
  refine T.F_law_refusal.ok sc_law_refusal (fun vs H Q E h => ?_) (fun cdv A outer s H vs Q E hr h => ⟨_, PSs.nox (pss_one (ps_try_as (i := 2) rfl rfl sc_law_refusal.nd rfl rfl ⟨rfl, by decide, Or.inl T.g_BadValue⟩ takes0 (fun W pn xe tk _ => (pss_cons (ps_if (pt_val (pv 1)) (pss_one (ps_ret (pe_tup (pa_cons (pe_str) (pa_cons (by exact pe_callS (ok_slot_starts T) hr rfl T.g_slot_starts T.F_slot_starts.kp (b_slot_starts T) (fun σ => passAt tk σ) (by exact (pa_cons (pe_ix (show IxR _ (rIxL K) from ix_list) (pv 0) (pe_int) (fun _ _ => rfl)) (pa_cons (pe_ix (show IxR _ (rIxL K) from ix_list) (pv 0) (pe_int) (fun _ _ => rfl)) (pa_cons (pe_ix (show IxR _ (rIxL K) from ix_list) (pv 0) (pe_int) (fun _ _ => rfl)) (pa_cons (pe_ix (show IxR _ (rIxL K) from ix_list) (pv 0) (pe_int) (fun _ _ => rfl)) (pa_cons (pe_ix (show IxR _ (rIxL K) from ix_list) (pv 0) (pe_int) (fun _ _ => rfl)) pa_nil))))))) pa_nil))))) pss_nil) (pss_one (ps_ret (pe_tup (pa_cons (pe_str) (pa_cons (by exact pe_callS (ok_slab_shape T) (hr.mono (by decide)) rfl T.g_slab_shape T.F_slab_shape.kp (b_slab_shape T) (fun σ => passAt tk σ) (by exact (pa_cons (pe_ix (show IxR _ (rIxL K) from ix_list) (pv 0) (pe_int) (fun _ _ => rfl)) (pa_cons (pe_ix (show IxR _ (rIxL K) from ix_list) (pv 0) (pe_int) (fun _ _ => rfl)) (pa_cons (pe_ix (show IxR _ (rIxL K) from ix_list) (pv 0) (pe_int) (fun _ _ => rfl)) (pa_cons (pe_ix (show IxR _ (rIxL K) from ix_list) (pv 0) (pe_int) (fun _ _ => rfl)) pa_nil)))))) pa_nil))))))) (fun a oe cls d pn hz hf => (pss_cons (ps_set (i := 3) sc_law_refusal.nd rfl (Or.inl rfl) (pe_tup (pa_cons (pe_callB (show CallR _ _ (LL.rIsXC K a (aBV K) cls d) from LL.call_isXC (p := (a, oe)) List.mem_cons_self T.d_BadValue hz hf) (by rfl) T.z_isinstance (by decide +kernel) (pa_cons (pv 2) (pa_cons (pe_glob (v := .ref (He.ga K "StoreError")) (u := .ref (He.ga K "StoreError")) rfl T.g_StoreError rfl) pa_nil))) (pa_cons (pe_callB (show CallR _ _ (LL.rIsXC K a (aBV K) cls d) from LL.call_isXC (p := (a, oe)) List.mem_cons_self T.d_BadValue hz hf) (by rfl) T.z_isinstance (by decide +kernel) (pa_cons (pv 2) (pa_cons (pe_bltn (v := .ty "ValueError") (u := .type "ValueError") (by rfl) T.z_ValueError (by decide +kernel) rfl) pa_nil))) (pa_cons (pe_callB (show CallR _ _ (LL.rIsXC K a (aBV K) cls d) from LL.call_isXC (p := (a, oe)) List.mem_cons_self T.d_BadValue hz hf) (by rfl) T.z_isinstance (by decide +kernel) (pa_cons (pv 2) (pa_cons (pe_glob (v := .ref (He.ga K "Unknown")) (u := .ref (He.ga K "Unknown")) rfl T.g_Unknown rfl) pa_nil))) pa_nil))))) (pss_one (ps_ret (pe_tup (pa_cons (pe_str) (pa_cons (pe_xf T.f_BadValue T.n_BadValue_parameter hz hf (pv 2)) (pa_cons (pe_xf T.f_BadValue T.n_BadValue_told hz hf (pv 2)) (pa_cons (pv 3) pa_nil))))))))))), ?_⟩)
  · obtain ⟨_, _, _, _, _, _, _, _, _, _, _, _, _, rfl, _⟩ := h
    rfl
  · obtain ⟨F, fl, p, v1, v2, v3, v4, v5, t1, t2, t3, t4, t5, rfl, ep, d1, d2, d3, d4, d5, hb, q⟩ := h
    simp only [tSeq, tAsg, tRet, tRetN, tDrop, tNext, tVar, tC, gName, tOp, tUn, rI, rI0, rU, tIfS, tTest, tB, tIf, tAnd, tOr, tNot, tAndV, tOrV, tNotV, tCall, tCons, tNil, tCB, tLst, tTup, tChain, CMul, CDiv, CPow, rEq, rNe, gSub, L2.start, LL.cxK0, LL.cxK1, List.map_cons, List.map_nil, List.length_cons, List.length_nil, List.replicate_succ, List.replicate_zero, List.cons_append, List.nil_append, List.append_nil, List.getElem?_cons_zero, List.getElem?_cons_succ, List.set_cons_zero, List.set_cons_succ, Nat.add_sub_cancel, Nat.reduceAdd, Nat.reduceSub, Option.some.injEq, V.int.injEq, V.bl.injEq, V.ref.injEq, V.str.injEq, List.cons.injEq, and_true, true_and, and_false, false_and, exists_eq_left, exists_eq_left', exists_and_left, exists_and_right, exists_eq, exists_eq', LL.if_dec, reduceCtorEq, exists_false, exists_const, or_false, false_or, if_true, if_false, LL.rInt1, LL.rMx, LL.rMn, and_assoc, Int.reduceNeg, Int.reduceLT, Int.reduceLE, Int.reduceMul, Int.reduceAdd, Int.reduceSub, Int.reducePow, Int.reduceToNat, Nat.reducePow, Nat.reduceLT, true_or, or_true, Bool.not_true, Bool.not_false, Bool.false_eq_true, Bool.or_false, Bool.or_true, Bool.true_or, Bool.false_or, decide_true, decide_false, not_true_eq_false, not_false_eq_true, LL.scal_int, LL.scal_bl, LL.scal_str, LL.isInt, LL.isBl, LL.isStr, LL.isLst, LL.isTup, LL.isDic, N_law_refusal, tCallS]
    cases fl with
    | true =>
      rw [if_pos rfl]
      refine use_ixL ep rfl (use_ixL ep rfl (use_ixL ep rfl (use_ixL ep rfl (use_ixL ep rfl ⟨F, F, F, F, F, v1, v2, v3, v4, v5, t1, t2, t3, t4, t5, rfl, d1, d2, d3, d4, d5, fun n hn d H' B => ?_, fun hg => absurd hg (hb rfl)⟩))))
      have er : refO true t1 t2 t3 t4 t5 = refT3 n := by
        unfold refO
        rw [if_pos rfl, hn]
      rw [er] at q
      obtain ⟨⟨p1, p2, e1, e2, e3, f1, f2⟩, sm, fd⟩ := B
      refine ⟨true, T.m_BadValue, fun _ a na => ?_, fun z => by cases z⟩
      simp only [tSeq, tAsg, tRet, tRetN, tDrop, tNext, tVar, tC, gName, tOp, tUn, rI, rI0, rU, tIfS, tTest, tB, tIf, tAnd, tOr, tNot, tAndV, tOrV, tNotV, tCall, tCons, tNil, tCB, tLst, tTup, tChain, CMul, CDiv, CPow, rEq, rNe, gSub, L2.start, LL.cxK0, LL.cxK1, List.map_cons, List.map_nil, List.length_cons, List.length_nil, List.replicate_succ, List.replicate_zero, List.cons_append, List.nil_append, List.append_nil, List.getElem?_cons_zero, List.getElem?_cons_succ, List.set_cons_zero, List.set_cons_succ, Nat.add_sub_cancel, Nat.reduceAdd, Nat.reduceSub, Option.some.injEq, V.int.injEq, V.bl.injEq, V.ref.injEq, V.str.injEq, List.cons.injEq, and_true, true_and, and_false, false_and, exists_eq_left, exists_eq_left', exists_and_left, exists_and_right, exists_eq, exists_eq', LL.if_dec, reduceCtorEq, exists_false, exists_const, or_false, false_or, if_true, if_false, LL.rInt1, LL.rMx, LL.rMn, and_assoc, Int.reduceNeg, Int.reduceLT, Int.reduceLE, Int.reduceMul, Int.reduceAdd, Int.reduceSub, Int.reducePow, Int.reduceToNat, Nat.reducePow, Nat.reduceLT, true_or, or_true, Bool.not_true, Bool.not_false, Bool.false_eq_true, Bool.or_false, Bool.or_true, Bool.true_or, Bool.false_or, decide_true, decide_false, not_true_eq_false, not_false_eq_true, LL.scal_int, LL.scal_bl, LL.scal_str, LL.isInt, LL.isBl, LL.isStr, LL.isLst, LL.isTup, LL.isDic, tXf]
      have l1 : List.lookup ("told" : Str) [("told", V.ref p2), ("parameter", V.str n)] = some (V.ref p2) := by simp [List.lookup]
      have l2 : List.lookup ("parameter" : Str) [(("told" : Str), V.ref p2), ("parameter", V.str n)] = some (V.str n) := by
        have h : (("parameter" : Str) == ("told" : Str)) = false := by decide
        simp [List.lookup, h]
      refine use_isXC (.own _) T.k_StoreError e1 (use_isXC (.ty _) T.k_ValueError e1 (use_isXC (.own _) T.k_Unknown e1 ⟨by decide, ?_⟩))
      intro pk npk
      generalize hq : upd H' pk _ = H1
      have sH1 : Same H' H1 := hq ▸ Same.new (Same.refl _) npk
      have epk := hq ▸ (upd_same (H := H') (a := pk))
      clear hq
      replace e1 := sH1 _ _ e1
      replace e2 := sH1 _ _ e2
      replace e3 := sH1 _ _ e3
      refine ⟨_, e1, _, l2, _, e1, _, l1, by decide, ?_⟩
      intro pz npz
      generalize hq : upd H1 pz _ = H2
      have sH2 : Same H1 H2 := hq ▸ Same.new (Same.refl _) npz
      have epz := hq ▸ (upd_same (H := H1) (a := pz))
      clear hq
      replace e1 := sH2 _ _ e1
      replace e2 := sH2 _ _ e2
      replace e3 := sH2 _ _ e3
      replace epk := sH2 _ _ epk
      have bt : ∀ z : Bool, Dt (fun _ => True) H2 (.bl z) (.bl z) := fun z => rfl
      exact q _ _ ((sm.trans sH1).trans sH2) ⟨pz, _, rfl, trivial, epz, .cons rfl (.cons rfl (.cons ⟨p2, _, rfl, trivial, e3, .cons rfl (.one ⟨p1, _, rfl, trivial, e2, .one rfl, by simp⟩), by simp⟩ (.one ⟨pk, _, rfl, trivial, epk, .cons (bt _) (.cons (bt _) (.one (bt _))), by simp⟩))), by simp⟩
    | false =>
      rw [if_neg (by simp)]
      refine use_ixL ep rfl (use_ixL ep rfl (use_ixL ep rfl (use_ixL ep rfl ⟨F, F, F, F, v1, v2, v3, v4, t1, t2, t3, t4, rfl, d1, d2, d3, d4, fun n hn d H' B => ?_, fun hg r H1 s1 hr => ?_⟩)))
      · have er : refO false t1 t2 t3 t4 t5 = refT3 n := by
          unfold refO
          rw [if_neg (by simp), hn]
        rw [er] at q
        obtain ⟨⟨p1, p2, e1, e2, e3, f1, f2⟩, sm, fd⟩ := B
        refine ⟨true, T.m_BadValue, fun _ a na => ?_, fun z => by cases z⟩
        simp only [tSeq, tAsg, tRet, tRetN, tDrop, tNext, tVar, tC, gName, tOp, tUn, rI, rI0, rU, tIfS, tTest, tB, tIf, tAnd, tOr, tNot, tAndV, tOrV, tNotV, tCall, tCons, tNil, tCB, tLst, tTup, tChain, CMul, CDiv, CPow, rEq, rNe, gSub, L2.start, LL.cxK0, LL.cxK1, List.map_cons, List.map_nil, List.length_cons, List.length_nil, List.replicate_succ, List.replicate_zero, List.cons_append, List.nil_append, List.append_nil, List.getElem?_cons_zero, List.getElem?_cons_succ, List.set_cons_zero, List.set_cons_succ, Nat.add_sub_cancel, Nat.reduceAdd, Nat.reduceSub, Option.some.injEq, V.int.injEq, V.bl.injEq, V.ref.injEq, V.str.injEq, List.cons.injEq, and_true, true_and, and_false, false_and, exists_eq_left, exists_eq_left', exists_and_left, exists_and_right, exists_eq, exists_eq', LL.if_dec, reduceCtorEq, exists_false, exists_const, or_false, false_or, if_true, if_false, LL.rInt1, LL.rMx, LL.rMn, and_assoc, Int.reduceNeg, Int.reduceLT, Int.reduceLE, Int.reduceMul, Int.reduceAdd, Int.reduceSub, Int.reducePow, Int.reduceToNat, Nat.reducePow, Nat.reduceLT, true_or, or_true, Bool.not_true, Bool.not_false, Bool.false_eq_true, Bool.or_false, Bool.or_true, Bool.true_or, Bool.false_or, decide_true, decide_false, not_true_eq_false, not_false_eq_true, LL.scal_int, LL.scal_bl, LL.scal_str, LL.isInt, LL.isBl, LL.isStr, LL.isLst, LL.isTup, LL.isDic, tXf]
        have l1 : List.lookup ("told" : Str) [("told", V.ref p2), ("parameter", V.str n)] = some (V.ref p2) := by simp [List.lookup]
        have l2 : List.lookup ("parameter" : Str) [(("told" : Str), V.ref p2), ("parameter", V.str n)] = some (V.str n) := by
          have h : (("parameter" : Str) == ("told" : Str)) = false := by decide
          simp [List.lookup, h]
        refine use_isXC (.own _) T.k_StoreError e1 (use_isXC (.ty _) T.k_ValueError e1 (use_isXC (.own _) T.k_Unknown e1 ⟨by decide, ?_⟩))
        intro pk npk
        generalize hq : upd H' pk _ = H1
        have sH1 : Same H' H1 := hq ▸ Same.new (Same.refl _) npk
        have epk := hq ▸ (upd_same (H := H') (a := pk))
        clear hq
        replace e1 := sH1 _ _ e1
        replace e2 := sH1 _ _ e2
        replace e3 := sH1 _ _ e3
        refine ⟨_, e1, _, l2, _, e1, _, l1, by decide, ?_⟩
        intro pz npz
        generalize hq : upd H1 pz _ = H2
        have sH2 : Same H1 H2 := hq ▸ Same.new (Same.refl _) npz
        have epz := hq ▸ (upd_same (H := H1) (a := pz))
        clear hq
        replace e1 := sH2 _ _ e1
        replace e2 := sH2 _ _ e2
        replace e3 := sH2 _ _ e3
        replace epk := sH2 _ _ epk
        have bt : ∀ z : Bool, Dt (fun _ => True) H2 (.bl z) (.bl z) := fun z => rfl
        exact q _ _ ((sm.trans sH1).trans sH2) ⟨pz, _, rfl, trivial, epz, .cons rfl (.cons rfl (.cons ⟨p2, _, rfl, trivial, e3, .cons rfl (.one ⟨p1, _, rfl, trivial, e2, .one rfl, by simp⟩), by simp⟩ (.one ⟨pk, _, rfl, trivial, epk, .cons (bt _) (.cons (bt _) (.one (bt _))), by simp⟩))), by simp⟩
      · refine ⟨by decide, ?_⟩
        intro l nl
        generalize hq : upd H1 l _ = H2
        have sH2 : Same H1 H2 := hq ▸ Same.new (Same.refl _) nl
        have el := hq ▸ (upd_same (H := H1) (a := l))
        clear hq
        refine q _ _ (s1.trans sH2) ?_
        have er : refO false t1 t2 t3 t4 t5 = .tup [.str "done", shT (intT t1) (intT t2) (intT t3) (intT t4)] := by
          unfold refO
          rw [if_neg (by simp), hg]
        rw [er]
        exact ⟨l, _, rfl, trivial, el, .cons rfl (.one ((hr.same sH2).to fun _ _ => trivial)), by simp⟩
def nm5 : Nat → Str
  | 0 => "width"
  | 1 => "order"
  | 2 => "size"
  | 3 => "align"
  | _ => "page"
def Tail (K : PySem.W.Frag) (a r : Addr) (c : Int) (Q : VK) (H9 : Hp) : Prop := 5 ≤ sizeLine ∧ ∀ p, H9 p = none → rIxL K (.ref p) (.int c) (upd H9 p (.lst [.str "width", .str "order", .str "size", .str "align", .str "page"])) fun x H1 => 1 ≤ sizeLine ∧ ∀ p, H1 p = none → 2 ≤ sizeLine ∧ ∀ p_1, upd H1 p (.tup [x]) p_1 = none →
  3 ≤ sizeLine ∧ ∀ p_2, upd (upd H1 p (.tup [x])) p_1 (.tup [.str "BadValue", .ref p]) p_2 = none → 4 ≤ sizeLine ∧ ∀ p_3, upd (upd (upd H1 p (.tup [x])) p_1 (.tup [.str "BadValue", .ref p])) p_2 (.tup [.bl true, .bl true, .bl false]) p_3 = none →
  sp_law_refusal [.ref r, .bl true] (upd (upd (upd (upd H1 p (.tup [x])) p_1 (.tup [.str "BadValue", .ref p])) p_2 (.tup [.bl true, .bl true, .bl false])) p_3 (.tup [.str "BadValue", x, .ref p_1, .ref p_2])) (fun x H1 => sp_law_same 8 [x, .ref p_3] H1 (fun x H1 => ∃ c' : Bool, x = .bl c' ∧ if (!c') = true then Q (.bl false) H1 else
    sp_law_refusal [.ref r, .bl false] H1 (fun x H1 => scal (.int c) (.int 4) = true ∧ if V.int c = V.int 4 then rIxT K x (.int 0) H1 fun x_1 H1 => scal x_1 (.str "done") = true ∧ if x_1 = V.str "done" then rIxT K x (.int 1) H1 fun x H1 => sp_law_is_shape [.ref a, x] H1 Q E0 else Q (.bl false) H1
      else sp_law_same 8 [x, .ref p_3] H1 Q E0) E0) E0) E0
theorem tail_ok {K : PySem.W.Frag} {H0 H : Hp} {d s r a : Addr} {v1 v2 v3 v4 v5 : V} {t1 t2 t3 t4 t5 : LL.T} {c : Nat} {w k z p : Int} {j : Nat} {Q : VK} (R : R3 H0 H d s r [v1, v2, v3, v4, v5] [t1, t2, t3, t4, t5]) (A : Ask5 H0 a w k z j p) (na : a ≠ s) (hc : c ≤ 4)
    (hb : (c < 4 ∧ shBad t1 t2 t3 t4 = some (nm5 c)) ∨ (c = 4 ∧ t1 = .int w ∧ t2 = .int k ∧ t3 = .int z ∧ t4 = .int (2 ^ j) ∧ stBad t1 t2 t3 t4 t5 = some (nm5 4))) (q : ∀ H', Q (.bl true) H') : Tail K a r (c : Nat) Q H := by
  have hst : stBad t1 t2 t3 t4 t5 = some (nm5 c) := by
    rcases hb with ⟨_, hb⟩ | ⟨rfl, _, _, _, _, hb⟩
    · unfold stBad; rw [hb]
    · exact hb
  refine ⟨by decide, ?_⟩
  intro p1 np1
  generalize hq : upd H p1 _ = H1
  have sH1 : Same H H1 := hq ▸ Same.new (Same.refl _) np1
  have ep1 := hq ▸ (upd_same (H := H) (a := p1))
  clear hq
  refine use_ixL (v := .str (nm5 c)) ep1 (by refine atI_nat ?_; match c, hc with | 0, _ => rfl | 1, _ => rfl | 2, _ => rfl | 3, _ => rfl | 4, _ => rfl) ⟨by decide, ?_⟩
  intro p2 np2
  generalize hq : upd H1 p2 _ = H2
  have sH2 : Same H1 H2 := hq ▸ Same.new (Same.refl _) np2
  have ep2 := hq ▸ (upd_same (H := H1) (a := p2))
  clear hq
  refine ⟨by decide, ?_⟩
  intro p3 np3
  generalize hq : upd H2 p3 _ = H3
  have sH3 : Same H2 H3 := hq ▸ Same.new (Same.refl _) np3
  have ep3 := hq ▸ (upd_same (H := H2) (a := p3))
  clear hq
  replace ep2 := sH3 _ _ ep2
  refine ⟨by decide, ?_⟩
  intro p4 np4
  generalize hq : upd H3 p4 _ = H4
  have sH4 : Same H3 H4 := hq ▸ Same.new (Same.refl _) np4
  have ep4 := hq ▸ (upd_same (H := H3) (a := p4))
  clear hq
  replace ep2 := sH4 _ _ ep2
  replace ep3 := sH4 _ _ ep3
  refine ⟨by decide, ?_⟩
  intro p5 np5
  generalize hq : upd H4 p5 _ = H5
  have sH5 : Same H4 H5 := hq ▸ Same.new (Same.refl _) np5
  have ep5 := hq ▸ (upd_same (H := H4) (a := p5))
  clear hq
  replace ep2 := sH5 _ _ ep2
  replace ep3 := sH5 _ _ ep3
  replace ep4 := sH5 _ _ ep4
  have R5 := R.same ((((sH1.trans sH2).trans sH3).trans sH4).trans sH5)
  have rows : ∀ {Hx : Hp}, R3 H0 Hx d s r [v1, v2, v3, v4, v5] [t1, t2, t3, t4, t5] → Dt (fun a => a ≠ s ∧ a ≠ r) Hx v1 t1 ∧ Dt (fun a => a ≠ s ∧ a ≠ r) Hx v2 t2 ∧ Dt (fun a => a ≠ s ∧ a ≠ r) Hx v3 t3 ∧ Dt (fun a => a ≠ s ∧ a ≠ r) Hx v4 t4 ∧ Dt (fun a => a ≠ s ∧ a ≠ r) Hx v5 t5 := by
    intro Hx RR
    obtain ⟨y1, _, e1, d1, y2, _, e2, d2, y3, _, e3, d3, y4, _, e4, d4, y5, _, e5, d5, e6⟩ := RR.dt
    simp only [List.cons.injEq] at e1 e2 e3 e4 e5
    obtain ⟨rfl, rfl⟩ := e1
    obtain ⟨rfl, rfl⟩ := e2
    obtain ⟨rfl, rfl⟩ := e3
    obtain ⟨rfl, rfl⟩ := e4
    obtain ⟨rfl, rfl⟩ := e5
    exact ⟨d1, d2, d3, d4, d5⟩
  obtain ⟨d1, d2, d3, d4, d5⟩ := rows R5
  refine ⟨_, true, r, _, _, _, _, _, t1, t2, t3, t4, t5, rfl, R5.at_, d1, d2, d3, d4, d5, fun _ => by rw [hst]; simp, fun zz H6 s6 hz => ?_⟩
  have s6 : Same H5 H6 := s6
  have e6 : refO true t1 t2 t3 t4 t5 = refT3 (nm5 c) := by unfold refO; rw [if_pos rfl, hst]
  rw [e6] at hz
  have hdue : ∀ {Hx : Hp}, Same H5 Hx → Dt (fun _ => True) Hx (.ref p5) (refT3 (nm5 c)) := fun {Hx} gx => ⟨p5, _, rfl, trivial, gx _ _ ep5, .cons rfl (.cons rfl (.cons ⟨p3, _, rfl, trivial, gx _ _ ep3, .cons rfl (.one ⟨p2, _, rfl, trivial, gx _ _ ep2, .one rfl, by simp⟩), by simp⟩ (.one ⟨p4, _, rfl, trivial, gx _ _ ep4, .cons rfl (.cons rfl (.one rfl)), by simp⟩))), by simp⟩
  refine use_same hz (hdue s6) (by simp [refT3, dep, depL]) fun H7 s7 => ⟨true, rfl, ?_⟩
  rw [if_neg (by simp)]
  have g7 : Same H5 H7 := s6.trans s7
  have R7 := R5.same g7
  obtain ⟨d1, d2, d3, d4, d5⟩ := rows R7
  refine ⟨_, false, r, _, _, _, _, _, t1, t2, t3, t4, t5, rfl, R7.at_, d1, d2, d3, d4, d5, (fun z => by cases z), fun y H8 s8 hy => ⟨scal_int.mpr trivial, ?_⟩⟩
  rcases hb with ⟨hc4, hb⟩ | ⟨rfl, rfl, rfl, rfl, rfl, hb⟩
  · rw [if_neg (by simp; omega)]
    have e8 : refO false t1 t2 t3 t4 t5 = refT3 (nm5 c) := by unfold refO; rw [if_neg (by simp), hb]
    rw [e8] at hy
    exact use_same hy (hdue (g7.trans s8)) (by simp [refT3, dep, depL]) fun H9 _ => q H9
  · rw [if_pos (by rfl)]
    have e8 : refO false (.int w) (.int k) (.int z) (.int (2 ^ j)) t5 = .tup [.str "done", shT w k z (2 ^ j)] := by
      unfold refO
      rw [if_neg (by simp), shp_good A.S]
      rfl
    rw [e8] at hy
    obtain ⟨py, xs, rfl, fy, ey, ⟨y1, _, rfl, f1, y2, _, rfl, f2, rfl⟩, _⟩ := hy
    obtain rfl : y1 = V.str "done" := f1
    refine use_ixT ey rfl ⟨scal_str.mpr trivial, ?_⟩
    rw [if_pos rfl]
    have A8 : Ask5 H8 a w k z j p := ⟨((R7.same s8).A).at A.at_ na, A.S, A.p0, A.p1, A.pd⟩
    exact use_ixT ey rfl ⟨_, a, w, k, z, p, j, _, rfl, A8, f2, q _⟩
def sp_law_refuses : Sp := fun vs H Q _ => ∃ (d s a : Addr) (w k z p : Int) (j : Nat), vs = [.ref d, .ref a] ∧ Drw d s H ∧ a ≠ s ∧ Ask5 H a w k z j p ∧ ∀ H', Q (.bl true) H'

theorem ok_law_refuses (T : Tx K mg) : FnOk P w K mg base CX0 12 (He.ga K "_law_refuses") T.fd_law_refuses P_law_refuses sp_law_refuses := by
  refine T.F_law_refuses.ok sc_law_refuses (fun vs H Q E h => ?_) (fun cdv A outer s H vs Q E hr h => ⟨_, PSs.nox (pss_cons (ps_asg (pv 1) (pg_tup rfl (pgs_cons (pg_name (i := 8) sc_law_refuses.nd rfl (Or.inl rfl)) (pgs_cons (pg_name (i := 9) sc_law_refuses.nd rfl (Or.inl rfl)) (pgs_cons (pg_name (i := 10) sc_law_refuses.nd rfl (Or.inl rfl)) (pgs_cons (pg_name (i := 11) sc_law_refuses.nd rfl (Or.inl rfl)) (pgs_cons (pg_name (i := 12) sc_law_refuses.nd rfl (Or.inl rfl)) pgs_nil))))))) (pss_cons (ps_set (i := 2) sc_law_refuses.nd rfl (Or.inl rfl) (pe_call (ok_law_take T) (hr.mono (by decide)) rfl T.g_law_take T.F_law_take.kp (b_law_take T) .nil pass0 (pa_cons (pv 0) (pa_cons (pe_int) pa_nil)))) (pss_cons (ps_set (i := 3) sc_law_refuses.nd rfl (Or.inl rfl) (pe_callTy call_list_of (by rfl) T.z_list (by decide +kernel) (pa_cons (pv 1) pa_nil))) (pss_cons (ps_if (pt_cmpR op_eq (pv 2) (pe_int) (nomark _)) (pss_one (ps_asg (pe_call (ok_law_not_among T) hr rfl T.g_law_not_among T.F_law_not_among.kp (b_law_not_among T) .nil pass0 (pa_cons (pv 0) (pa_cons (pe_lst (pa_cons (pe_int) (pa_cons (pe_int) (pa_cons (pe_int) pa_nil)))) pa_nil))) (pg_sub (pv 3) (pe_int) set_list))) pss_nil) (pss_cons (ps_if (pt_cmpR op_eq (pv 2) (pe_int) (nomark _)) (pss_one (ps_asg (pe_call (ok_law_not_within T) (hr.mono (by decide)) rfl T.g_law_not_within T.F_law_not_within.kp (b_law_not_within T) .nil pass0 (pa_cons (pv 0) (pa_cons (pe_int) (pa_cons (pe_int) pa_nil)))) (pg_sub (pv 3) (pe_int) set_list))) pss_nil) (pss_cons (ps_if (pt_cmpR op_eq (pv 2) (pe_int) (nomark _)) (pss_one (ps_asg (pe_call (ok_law_not_within T) (hr.mono (by decide)) rfl T.g_law_not_within T.F_law_not_within.kp (b_law_not_within T) .nil pass0 (pa_cons (pv 0) (pa_cons (pe_int) (pa_cons (pe_int) pa_nil)))) (pg_sub (pv 3) (pe_int) set_list))) pss_nil) (pss_cons (ps_if (pt_cmpR op_eq (pv 2) (pe_int) (nomark _)) (pss_one (ps_asg (pe_call (ok_law_not_alignment T) (hr.mono (by decide)) rfl T.g_law_not_alignment T.F_law_not_alignment.kp (b_law_not_alignment T) .nil pass0 (pa_cons (pv 0) (pa_cons (pv 8) pa_nil))) (pg_sub (pv 3) (pe_int) set_list))) pss_nil) (pss_cons (ps_if (pt_cmpR op_eq (pv 2) (pe_int) (nomark _)) (pss_cons (ps_asg (pe_call (ok_law_not_within T) (hr.mono (by decide)) rfl T.g_law_not_within T.F_law_not_within.kp (b_law_not_within T) .nil pass0 (pa_cons (pv 0) (pa_cons (pe_int) (pa_cons (pe_int) pa_nil)))) (pg_sub (pv 3) (pe_int) set_list)) (pss_one (ps_if (PW.pt (pw_and (pt_cmpR op_gt (pv 9) (pe_int) (nomark _)) (pw_and1 (pt_cmpR op_eq (pe_call (ok_law_take T) (hr.mono (by decide)) rfl T.g_law_take T.F_law_take.kp (b_law_take T) .nil pass0 (pa_cons (pv 0) (pa_cons (pe_int) pa_nil))) (pe_int) (nomark _))))) (pss_one (ps_asg (pe_op op_add (pe_op op_add (pv 12) (pe_int)) (pe_call (ok_law_take T) (hr.mono (by decide)) rfl T.g_law_take T.F_law_take.kp (b_law_take T) .nil pass0 (pa_cons (pv 0) (pa_cons (pe_op op_sub (pe_call (ok_law_power T) (hr.mono (by decide)) rfl T.g_law_power T.F_law_power.kp (b_law_power T) .nil pass0 (pa_cons (pv 9) pa_nil)) (pe_int)) pa_nil)))) (pg_sub (pv 3) (pe_int) set_list))) pss_nil))) pss_nil) (pss_cons (ps_set (i := 4) sc_law_refuses.nd rfl (Or.inl rfl) (pe_call (ok_law_take T) (hr.mono (by decide)) rfl T.g_law_take T.F_law_take.kp (b_law_take T) .nil pass0 (pa_cons (pv 0) (pa_cons (pe_int) pa_nil)))) (pss_cons (ps_if (PW.pt (pw_and (pt_cmpR op_eq (pv 4) (pe_int) (nomark _)) (pw_and1 (pt_cmpR op_lt (pv 2) (pe_int) (nomark _))))) (pss_one (ps_asg (pe_un un_neg (pe_int)) (pg_sub (pv 3) (pe_int) set_list))) pss_nil) (pss_cons (ps_if (PW.pt (pw_and (pt_cmpR op_eq (pv 4) (pe_int) (nomark _)) (pw_and1 (pt_cmpR op_lt (pv 2) (pe_int) (nomark _))))) (pss_one (ps_asg (pe_int) (pg_sub (pv 3) (pe_int) set_list))) pss_nil) (pss_cons (ps_set (i := 5) sc_law_refuses.nd rfl (Or.inl rfl) (pe_ix (show IxR _ (rIxL K) from ix_list) (pe_lst (pa_cons (pe_str) (pa_cons (pe_str) (pa_cons (pe_str) (pa_cons (pe_str) (pa_cons (pe_str) pa_nil)))))) (pv 2) (fun _ _ => rfl))) (pss_cons (ps_set (i := 6) sc_law_refuses.nd rfl (Or.inl rfl) (pe_tup (pa_cons (pe_str) (pa_cons (pv 5) (pa_cons (pe_tup (pa_cons (pe_str) (pa_cons (pe_tup (pa_cons (pv 5) pa_nil)) pa_nil))) (pa_cons (pe_tup (pa_cons (pe_bl) (pa_cons (pe_bl) (pa_cons (pe_bl) pa_nil)))) pa_nil)))))) (pss_cons (ps_if (pt_not (pt_val (pe_call (ok_law_same T 8) (hr.mono (by decide)) rfl T.g_law_same T.F_law_same.kp (b_law_same T) .nil pass0 (pa_cons (pe_call (ok_law_refusal T) (hr.mono (by decide)) rfl T.g_law_refusal T.F_law_refusal.kp (b_law_refusal T) .nil pass0 (pa_cons (pv 3) (pa_cons (pe_bl) pa_nil))) (pa_cons (pv 6) pa_nil))))) (pss_one (ps_ret (pe_bl))) pss_nil) (pss_cons (ps_set (i := 7) sc_law_refuses.nd rfl (Or.inl rfl) (pe_call (ok_law_refusal T) (hr.mono (by decide)) rfl T.g_law_refusal T.F_law_refusal.kp (b_law_refusal T) .nil pass0 (pa_cons (pv 3) (pa_cons (pe_bl) pa_nil)))) (pss_cons (ps_if (pt_cmpR op_eq (pv 2) (pe_int) (nomark _)) (pss_one (ps_ret ((pe_and (pe_cmpR op_eq (pe_ix (show IxR _ (rIxT K) from ix_tup) (pv 7) (pe_int) (fun _ _ => rfl)) (pe_str) (nomark _)) (pe_one (pe_call (ok_law_is_shape T) (hr.mono (by decide)) rfl T.g_law_is_shape T.F_law_is_shape.kp (b_law_is_shape T) .nil pass0 (pa_cons (pv 1) (pa_cons (pe_ix (show IxR _ (rIxT K) from ix_tup) (pv 7) (pe_int) (fun _ _ => rfl)) pa_nil)))))))) pss_nil) (pss_one (ps_ret (pe_call (ok_law_same T 8) (hr.mono (by decide)) rfl T.g_law_same T.F_law_same.kp (b_law_same T) .nil pass0 (pa_cons (pv 7) (pa_cons (pv 6) pa_nil))))))))))))))))))))), ?_⟩)
  · obtain ⟨_, _, _, _, _, _, _, _, rfl, _⟩ := h
    rfl
  · obtain ⟨d, s, a, w, k, z, p, j, rfl, D, na, A, q⟩ := h
    simp only [tSeq, tAsg, tRet, tRetN, tDrop, tNext, tVar, tC, gName, tOp, tUn, rI, rI0, rU, tIfS, tTest, tB, tIf, tAnd, tOr, tNot, tAndV, tOrV, tNotV, tCall, tCons, tNil, tCB, tLst, tTup, tChain, CMul, CDiv, CPow, rEq, rNe, gSub, L2.start, LL.cxK0, LL.cxK1, List.map_cons, List.map_nil, List.length_cons, List.length_nil, List.replicate_succ, List.replicate_zero, List.cons_append, List.nil_append, List.append_nil, List.getElem?_cons_zero, List.getElem?_cons_succ, List.set_cons_zero, List.set_cons_succ, Nat.add_sub_cancel, Nat.reduceAdd, Nat.reduceSub, Option.some.injEq, V.int.injEq, V.bl.injEq, V.ref.injEq, V.str.injEq, List.cons.injEq, and_true, true_and, and_false, false_and, exists_eq_left, exists_eq_left', exists_and_left, exists_and_right, exists_eq, exists_eq', LL.if_dec, reduceCtorEq, exists_false, exists_const, or_false, false_or, if_true, if_false, LL.rInt1, LL.rMx, LL.rMn, and_assoc, Int.reduceNeg, Int.reduceLT, Int.reduceLE, Int.reduceMul, Int.reduceAdd, Int.reduceSub, Int.reducePow, Int.reduceToNat, Nat.reducePow, Nat.reduceLT, true_or, or_true, Bool.not_true, Bool.not_false, Bool.false_eq_true, Bool.or_false, Bool.or_true, Bool.true_or, Bool.false_or, decide_true, decide_false, not_true_eq_false, not_false_eq_true, LL.scal_int, LL.scal_bl, LL.scal_str, LL.isInt, LL.isBl, LL.isStr, LL.isLst, LL.isTup, LL.isDic, N_law_refuses, gTup]
    refine ⟨_, SqT.of A.at_, rfl, ?_⟩
    simp only [tSeq, tAsg, tRet, tRetN, tDrop, tNext, tVar, tC, gName, tOp, tUn, rI, rI0, rU, tIfS, tTest, tB, tIf, tAnd, tOr, tNot, tAndV, tOrV, tNotV, tCall, tCons, tNil, tCB, tLst, tTup, tChain, CMul, CDiv, CPow, rEq, rNe, gSub, L2.start, LL.cxK0, LL.cxK1, List.map_cons, List.map_nil, List.length_cons, List.length_nil, List.replicate_succ, List.replicate_zero, List.cons_append, List.nil_append, List.append_nil, List.getElem?_cons_zero, List.getElem?_cons_succ, List.set_cons_zero, List.set_cons_succ, Nat.add_sub_cancel, Nat.reduceAdd, Nat.reduceSub, Option.some.injEq, V.int.injEq, V.bl.injEq, V.ref.injEq, V.str.injEq, List.cons.injEq, and_true, true_and, and_false, false_and, exists_eq_left, exists_eq_left', exists_and_left, exists_and_right, exists_eq, exists_eq', LL.if_dec, reduceCtorEq, exists_false, exists_const, or_false, false_or, if_true, if_false, LL.rInt1, LL.rMx, LL.rMn, and_assoc, Int.reduceNeg, Int.reduceLT, Int.reduceLE, Int.reduceMul, Int.reduceAdd, Int.reduceSub, Int.reducePow, Int.reduceToNat, Nat.reducePow, Nat.reduceLT, true_or, or_true, Bool.not_true, Bool.not_false, Bool.false_eq_true, Bool.or_false, Bool.or_true, Bool.true_or, Bool.false_or, decide_true, decide_false, not_true_eq_false, not_false_eq_true, LL.scal_int, LL.scal_bl, LL.scal_str, LL.isInt, LL.isBl, LL.isStr, LL.isLst, LL.isTup, LL.isDic, gCons, gNil]
    refine use_take D (by decide +kernel) fun i H1 a1 D1 i0 i1 => ?_
    replace A : Ask5 H1 a w k z j p := ⟨a1.at A.at_ na, A.S, A.p0, A.p1, A.pd⟩
    refine ⟨_, .inr (SqT.of A.at_), ?_⟩
    intro r nr
    generalize hq : upd H1 r _ = H2
    have sH2 : Same H1 H2 := hq ▸ Same.new (Same.refl _) nr
    have er := hq ▸ (upd_same (H := H1) (a := r))
    clear hq
    have R0 : R3 H1 H2 d s r [.int w, .int k, .int z, .int (2 ^ j), .int p] [.int w, .int k, .int z, .int (2 ^ j), .int p] := ⟨D1, nr, Aft.same D1 sH2, er, .cons rfl (.cons rfl (.cons rfl (.cons rfl (.one rfl))))⟩
    have hS := A.S
    have hw0 : ¬ widB (.int w) = false := by rw [show widB (.int w) = true from decide_eq_true hS.hw]; simp
    have hk0 : InR 0 8 (.int k) := ⟨hS.k0, hS.k1⟩
    have hz0 : InR 1 4096 (.int z) := ⟨hS.z0, hS.z1⟩
    have hww := hS.hw
    obtain h | h | h | h | h : i = 0 ∨ i = 1 ∨ i = 2 ∨ i = 3 ∨ i = 4 := by omega
    all_goals
      subst h
      repeat (first | refine ⟨scal_int.mpr trivial, ?_⟩ | refine ⟨scal_str.mpr trivial, ?_⟩ | refine itei (fun h => ?_) (fun h => absurd (by decide) h) | refine itei (fun h => absurd h (by decide)) (fun h => ?_))
    · refine ⟨by decide, ?_⟩
      intro l7 nl7
      generalize hq : upd H2 l7 _ = H7
      have sH7 : Same H2 H7 := hq ▸ Same.new (Same.refl _) nl7
      have el7 := hq ▸ (upd_same (H := H2) (a := l7))
      clear hq
      have R1 := R0.same sH7
      refine use_not_among (ns := [16, 32, 64]) R1.A.dr (R0.A.dr.ne _ nl7) el7 (by decide) fun u t H8 a8 D8 hu _ hno => ?_
      have hb : ∀ b c e, shBad t b c e = some (nm5 0) := fun b c e => if_pos (no_wid hno)
      refine use_setL (j := 0) (R1.aft a8).at_ rfl ?_
      have R2 := (R1.aft a8).set 0 (R1.new_dt hu)
      repeat (first | refine ⟨scal_int.mpr trivial, ?_⟩ | refine ⟨scal_str.mpr trivial, ?_⟩ | refine itei (fun h => ?_) (fun h => absurd (by decide) h) | refine itei (fun h => absurd h (by decide)) (fun h => ?_))
      refine use_take R2.A.dr (by decide +kernel) fun v9 H9 a9 D9 v90 v91 => ⟨scal_int.mpr trivial, itei (fun h => ?_) (fun h => ?_)⟩
      · obtain rfl : v9 = 1 := by simpa using h
        refine ⟨_, rfl, itei (fun h4 => ?_) (fun h4 => absurd (by decide) h4)⟩
        exact use_setL (j := 4) (R2.aft a9).at_ rfl ⟨scal_int.mpr trivial, itei (fun h => absurd h (by decide)) (fun _ => (tail_ok (c := 0) ((R2.aft a9).set 4 (v := .int (-1)) (t := .int (-1)) rfl) A na (by decide) (.inl ⟨by decide, hb _ _ _⟩) q))⟩
      · refine ⟨scal_int.mpr trivial, itei (fun h2 => ?_) (fun h2 => (tail_ok (c := 0) (R2.aft a9) A na (by decide) (.inl ⟨by decide, hb _ _ _⟩) q))⟩
        refine ⟨_, rfl, itei (fun h3 => ?_) (fun h3 => absurd (by decide) h3)⟩
        exact use_setL (j := 3) (R2.aft a9).at_ rfl (tail_ok (c := 0) ((R2.aft a9).set 3 (v := .int 0) (t := .int 0) rfl) A na (by decide) (.inl ⟨by decide, hb _ _ _⟩) q)
    · refine use_not_within R0.A.dr (by decide) (by decide) (by decide) (by decide) fun u t H8 a8 D8 hu _ ho => ?_
      have hb : ∀ c e, shBad (.int w) t c e = some (nm5 1) := fun c e => by unfold shBad; rw [if_neg hw0, if_pos (out_in ho)]; rfl
      refine use_setL (j := 1) (R0.aft a8).at_ rfl ?_
      have R2 := (R0.aft a8).set 1 (R0.new_dt hu)
      repeat (first | refine ⟨scal_int.mpr trivial, ?_⟩ | refine ⟨scal_str.mpr trivial, ?_⟩ | refine itei (fun h => ?_) (fun h => absurd (by decide) h) | refine itei (fun h => absurd h (by decide)) (fun h => ?_))
      refine use_take R2.A.dr (by decide +kernel) fun v9 H9 a9 D9 v90 v91 => ⟨scal_int.mpr trivial, itei (fun h => ?_) (fun h => ?_)⟩
      · obtain rfl : v9 = 1 := by simpa using h
        refine ⟨_, rfl, itei (fun h4 => ?_) (fun h4 => absurd (by decide) h4)⟩
        exact use_setL (j := 4) (R2.aft a9).at_ rfl ⟨scal_int.mpr trivial, itei (fun h => absurd h (by decide)) (fun _ => (tail_ok (c := 1) ((R2.aft a9).set 4 (v := .int (-1)) (t := .int (-1)) rfl) A na (by decide) (.inl ⟨by decide, hb _ _⟩) q))⟩
      · refine ⟨scal_int.mpr trivial, itei (fun h2 => ?_) (fun h2 => (tail_ok (c := 1) (R2.aft a9) A na (by decide) (.inl ⟨by decide, hb _ _⟩) q))⟩
        refine ⟨_, rfl, itei (fun h3 => ?_) (fun h3 => absurd (by decide) h3)⟩
        exact use_setL (j := 3) (R2.aft a9).at_ rfl (tail_ok (c := 1) ((R2.aft a9).set 3 (v := .int 0) (t := .int 0) rfl) A na (by decide) (.inl ⟨by decide, hb _ _⟩) q)
    · refine use_not_within R0.A.dr (by decide) (by decide) (by decide) (by decide) fun u t H8 a8 D8 hu _ ho => ?_
      have hb : ∀ e, shBad (.int w) (.int k) t e = some (nm5 2) := fun e => by unfold shBad; rw [if_neg hw0, if_neg (by simpa using hk0), if_pos (out_in ho)]; rfl
      refine use_setL (j := 2) (R0.aft a8).at_ rfl ?_
      have R2 := (R0.aft a8).set 2 (R0.new_dt hu)
      repeat (first | refine ⟨scal_int.mpr trivial, ?_⟩ | refine ⟨scal_str.mpr trivial, ?_⟩ | refine itei (fun h => ?_) (fun h => absurd (by decide) h) | refine itei (fun h => absurd h (by decide)) (fun h => ?_))
      refine use_take R2.A.dr (by decide +kernel) fun v9 H9 a9 D9 v90 v91 => ⟨scal_int.mpr trivial, itei (fun h => ?_) (fun h => ?_)⟩
      · obtain rfl : v9 = 1 := by simpa using h
        refine ⟨_, rfl, itei (fun h4 => ?_) (fun h4 => absurd (by decide) h4)⟩
        exact use_setL (j := 4) (R2.aft a9).at_ rfl ⟨scal_int.mpr trivial, itei (fun h => absurd h (by decide)) (fun _ => (tail_ok (c := 2) ((R2.aft a9).set 4 (v := .int (-1)) (t := .int (-1)) rfl) A na (by decide) (.inl ⟨by decide, hb _⟩) q))⟩
      · refine ⟨scal_int.mpr trivial, itei (fun h2 => ?_) (fun h2 => (tail_ok (c := 2) (R2.aft a9) A na (by decide) (.inl ⟨by decide, hb _⟩) q))⟩
        refine ⟨_, rfl, itei (fun h3 => ?_) (fun h3 => absurd (by decide) h3)⟩
        exact use_setL (j := 3) (R2.aft a9).at_ rfl (tail_ok (c := 2) ((R2.aft a9).set 3 (v := .int 0) (t := .int 0) rfl) A na (by decide) (.inl ⟨by decide, hb _⟩) q)
    · refine use_not_alignment R0.A.dr (by omega) (show w ≤ 1099511627776 by omega) fun u t H8 a8 D8 hu _ hal => ?_
      have hb : shBad (.int w) (.int k) (.int z) t = some (nm5 3) := by
        unfold shBad
        rw [if_neg hw0, if_neg (by simpa using hk0), if_neg (by simpa using hz0)]
        exact if_pos hal
      refine use_setL (j := 3) (R0.aft a8).at_ rfl ?_
      have R2 := (R0.aft a8).set 3 (R0.new_dt hu)
      repeat (first | refine ⟨scal_int.mpr trivial, ?_⟩ | refine ⟨scal_str.mpr trivial, ?_⟩ | refine itei (fun h => ?_) (fun h => absurd (by decide) h) | refine itei (fun h => absurd h (by decide)) (fun h => ?_))
      refine use_take R2.A.dr (by decide +kernel) fun v9 H9 a9 D9 v90 v91 => ⟨scal_int.mpr trivial, itei (fun h => ?_) (fun h => ?_)⟩
      · obtain rfl : v9 = 1 := by simpa using h
        refine ⟨_, rfl, itei (fun h4 => ?_) (fun h4 => absurd (by decide) h4)⟩
        exact use_setL (j := 4) (R2.aft a9).at_ rfl ⟨scal_int.mpr trivial, itei (fun h => absurd h (by decide)) (fun _ => (tail_ok (c := 3) ((R2.aft a9).set 4 (v := .int (-1)) (t := .int (-1)) rfl) A na (by decide) (.inl ⟨by decide, hb⟩) q))⟩
      · refine ⟨scal_int.mpr trivial, itei (fun h2 => ?_) (fun h2 => (tail_ok (c := 3) (R2.aft a9) A na (by decide) (.inl ⟨by decide, hb⟩) q))⟩
        exact ⟨_, rfl, itei (fun h3 => absurd h3 (by decide)) (fun h3 => (tail_ok (c := 3) (R2.aft a9) A na (by decide) (.inl ⟨by decide, hb⟩) q))⟩
    · refine use_not_within R0.A.dr (by decide) (by decide) (by decide) (by decide) fun u t H8 a8 D8 hu _ ho => ?_
      have hpage : ∀ f, ¬ InR 0 255 f ∨ ¬ (intT f % (1 * 2 ^ k.toNat) = 0) → stBad (.int w) (.int k) (.int z) (.int (2 ^ j)) f = some (nm5 4) := fun f hf => by
        unfold stBad
        rw [shp_good hS]
        show (if ¬ InR 0 255 f then some (Str.ofString "page") else if ¬ (intT f % (1 * 2 ^ k.toNat) = 0) then some (Str.ofString "page") else none) = some (Str.ofString "page")
        by_cases h1 : InR 0 255 f
        · rw [if_neg (by simpa using h1), if_pos (hf.resolve_left (fun z => z h1))]
        · rw [if_pos h1]
      refine use_setL (j := 4) (R0.aft a8).at_ rfl ?_
      have R2 := (R0.aft a8).set 4 (R0.new_dt hu)
      have hb := hpage t (.inl (out_in ho))
      refine itei (fun hkp => ?_) (fun hkp => ?_)
      · refine use_take R2.A.dr (by decide +kernel) fun v5 H5 a5 D5 v50 v51 => ⟨scal_int.mpr trivial, itei (fun h => ?_) (fun h => ?_)⟩
        · obtain ⟨e0, e1⟩ := pow8 hS.k0 hS.k1
          refine use_power hS.k0 (by have := hS.k1; omega) ⟨_, rfl, use_take D5 (big_of (by omega) (by omega)) fun v6 H6 a6 D6 v60 v61 => ⟨_, rfl, ?_⟩⟩
          have R3' := (R2.aft a5).aft a6
          refine use_setL (j := 4) R3'.at_ rfl ?_
          have R4 := R3'.set 4 (v := .int (p + 1 + v6)) (t := .int (p + 1 + v6)) rfl
          have e2 : (2 : Int) ≤ 2 ^ k.toNat := by
            obtain ⟨m, hm⟩ : ∃ m, k.toNat = m + 1 := ⟨k.toNat - 1, by omega⟩
            have := pow_pos' m
            rw [hm, Int.pow_succ]
            omega
          have hb4 := hpage (.int (p + 1 + v6)) (.inr fun hz => by
            rw [Int.one_mul] at hz
            have hz : (p + 1 + v6) % 2 ^ k.toNat = 0 := hz
            rw [show p + 1 + v6 = 1 + v6 + p by omega, ← Int.add_emod_emod, A.pd, Int.add_zero, Int.emod_eq_of_lt (by omega) (by omega)] at hz
            omega)
          refine use_take R4.A.dr (by decide +kernel) fun v9 H9 a9 D9 v90 v91 => ⟨scal_int.mpr trivial, itei (fun h => ?_) (fun h => ?_)⟩
          · obtain rfl : v9 = 1 := by simpa using h
            exact ⟨_, rfl, itei (fun h4 => absurd h4 (by decide)) (fun h4 => ⟨scal_int.mpr trivial, itei (fun h => absurd h (by decide)) (fun _ => (tail_ok (c := 4) (R4.aft a9) A na (by decide) (.inr ⟨rfl, rfl, rfl, rfl, rfl, hb4⟩) q))⟩)⟩
          · refine ⟨scal_int.mpr trivial, itei (fun h2 => ?_) (fun h2 => (tail_ok (c := 4) (R4.aft a9) A na (by decide) (.inr ⟨rfl, rfl, rfl, rfl, rfl, hb4⟩) q))⟩
            exact ⟨_, rfl, itei (fun h3 => absurd h3 (by decide)) (fun h3 => (tail_ok (c := 4) (R4.aft a9) A na (by decide) (.inr ⟨rfl, rfl, rfl, rfl, rfl, hb4⟩) q))⟩

        ·
          refine use_take (R2.aft a5).A.dr (by decide +kernel) fun v9 H9 a9 D9 v90 v91 => ⟨scal_int.mpr trivial, itei (fun h => ?_) (fun h => ?_)⟩
          · obtain rfl : v9 = 1 := by simpa using h
            exact ⟨_, rfl, itei (fun h4 => absurd h4 (by decide)) (fun h4 => ⟨scal_int.mpr trivial, itei (fun h => absurd h (by decide)) (fun _ => (tail_ok (c := 4) ((R2.aft a5).aft a9) A na (by decide) (.inr ⟨rfl, rfl, rfl, rfl, rfl, hb⟩) q))⟩)⟩
          · refine ⟨scal_int.mpr trivial, itei (fun h2 => ?_) (fun h2 => (tail_ok (c := 4) ((R2.aft a5).aft a9) A na (by decide) (.inr ⟨rfl, rfl, rfl, rfl, rfl, hb⟩) q))⟩
            exact ⟨_, rfl, itei (fun h3 => absurd h3 (by decide)) (fun h3 => (tail_ok (c := 4) ((R2.aft a5).aft a9) A na (by decide) (.inr ⟨rfl, rfl, rfl, rfl, rfl, hb⟩) q))⟩

      ·
        refine use_take R2.A.dr (by decide +kernel) fun v9 H9 a9 D9 v90 v91 => ⟨scal_int.mpr trivial, itei (fun h => ?_) (fun h => ?_)⟩
        · obtain rfl : v9 = 1 := by simpa using h
          exact ⟨_, rfl, itei (fun h4 => absurd h4 (by decide)) (fun h4 => ⟨scal_int.mpr trivial, itei (fun h => absurd h (by decide)) (fun _ => (tail_ok (c := 4) (R2.aft a9) A na (by decide) (.inr ⟨rfl, rfl, rfl, rfl, rfl, hb⟩) q))⟩)⟩
        · refine ⟨scal_int.mpr trivial, itei (fun h2 => ?_) (fun h2 => (tail_ok (c := 4) (R2.aft a9) A na (by decide) (.inr ⟨rfl, rfl, rfl, rfl, rfl, hb⟩) q))⟩
          exact ⟨_, rfl, itei (fun h3 => absurd h3 (by decide)) (fun h3 => (tail_ok (c := 4) (R2.aft a9) A na (by decide) (.inr ⟨rfl, rfl, rfl, rfl, rfl, hb⟩) q))⟩
end K25

namespace K25
open PySem PySem.Spec PyProof.Rows L2 LL
variable {P : Program} {w : World} {K : PySem.W.Frag} {mg : Str → Option Value} {base : Heap}

def sp_law (K : PySem.W.Frag) : Sp := fun vs H Q _ => ∃ (a : Addr) (ns : List Int), vs = [.ref a] ∧ SqL K H a (ns.map V.int) ∧ ns.length ≤ 100000 ∧ ∀ H', Q (.bl true) H'
theorem sh_dep (w k z a : Int) : dep (shT w k z a) < 8 := by
  unfold shT
  split <;> simp [dep, depL]
structure Fv where
  w : Int
  k : Int
  z : Int
  j : Nat
  p : Int
def keptT (f : Fv) : LL.T := .tup [shT f.w f.k f.z (2 ^ f.j), .lst ((stsL f.w f.k f.z (2 ^ f.j) f.p).map LL.T.int)]
def AskF (H : Hp) (v : V) (f : Fv) : Prop := ∃ a, v = .ref a ∧ Ask5 H a f.w f.k f.z f.j f.p
theorem AskF.same {H H' : Hp} {v : V} {f : Fv} (h : AskF H v f) (s : Same H H') : AskF H' v f := by
  obtain ⟨a, e, h⟩ := h
  exact ⟨a, e, h.same s⟩
theorem ints_dt {F : Addr → Prop} {H : Hp} : ∀ ns : List Int, DtL F H (ns.map V.int) (ns.map LL.T.int)
  | [] => rfl
  | n :: ns => .cons rfl (ints_dt ns)
theorem dep_ints : ∀ ns : List Int, depL (ns.map LL.T.int) = 0
  | [] => rfl
  | n :: ns => by show max 0 (depL (ns.map LL.T.int)) = 0; rw [dep_ints ns]; rfl
theorem sts_len {w k z p : Int} {j : Nat} (S : Shp w k z j) : (stsL w k z (2 ^ j) p).length ≤ 16384 := by
  unfold stsL
  obtain ⟨b0, b1, _⟩ := slts_b S
  split
  · exact Nat.zero_le _
  · rw [List.length_map, List.length_range]; omega
theorem sts_dt {F : Addr → Prop} {H : Hp} {w k z p : Int} {j : Nat} {r : Addr} (S : Shp w k z j) (f : F r) (h : H r = some (.lst ((stsL w k z (2 ^ j) p).map V.int))) : Dt F H (.ref r) (.lst ((stsL w k z (2 ^ j) p).map LL.T.int)) := ⟨r, _, rfl, f, h, ints_dt _, by rw [List.length_map]; have := sts_len (p := p) S; omega⟩
theorem st_good {w k z p : Int} {j : Nat} (S : Shp w k z j) (p0 : 0 ≤ p) (p1 : p ≤ 255) (pd : p % 2 ^ k.toNat = 0) : stBad (.int w) (.int k) (.int z) (.int (2 ^ j)) (.int p) = none := by
  unfold stBad
  rw [shp_good S]
  have h5 : InR 0 255 (.int p) := ⟨p0, p1⟩
  exact (if_neg (by simpa using h5)).trans (if_neg (fun c => c (by show p % (1 * 2 ^ k.toNat) = 0; rw [Int.one_mul]; exact pd)))
theorem use_starts {K : PySem.W.Frag} {w k z p : Int} {j : Nat} {H : Hp} {Q : VK} {E : XK} (S : Shp w k z j) (p0 : 0 ≤ p) (p1 : p ≤ 255) (pd : p % 2 ^ k.toNat = 0) (q : ∀ r H', Same H H' → H r = none → H' r = some (.lst ((stsL w k z (2 ^ j) p).map V.int)) → Q (.ref r) H') : sp_slot_starts K [.int w, .int k, .int z, .int (2 ^ j), .int p] H Q E :=
  ⟨fun _ => True, fun _ => True, fun _ => True, fun _ => True, fun _ => True, _, _, _, _, _, .int w, .int k, .int z, .int (2 ^ j), .int p, rfl, rfl, rfl, rfl, rfl, rfl, fun n h => by rw [st_good S p0 p1 pd] at h; (cases h), fun _ => q⟩

theorem ok_law (T : Tx K mg) : FnOk P w K mg base CX0 13 (He.ga K "law") T.fd_law P_law (sp_law K) := by
  refine T.F_law.ok sc_law (fun vs H Q E h => ?_) (fun cdv A outer s H vs Q E hr h => ⟨_, PSs.nox (pss_cons (ps_set (i := 1) sc_law.nd rfl (Or.inl rfl) (pe_call (ok_law_draws T) (hr.mono (by decide)) rfl T.g_law_draws T.F_law_draws.kp (b_law_draws T) .nil pass0 (pa_cons (pv 0) pa_nil))) (pss_cons (ps_set (i := 2) sc_law.nd rfl (Or.inl rfl) (pe_lst (pa_cons (pe_call (ok_law_shape_ask T) (hr.mono (by decide)) rfl T.g_law_shape_ask T.F_law_shape_ask.kp (b_law_shape_ask T) .nil pass0 (pa_cons (pv 1) pa_nil)) (pa_cons (pe_call (ok_law_shape_ask T) (hr.mono (by decide)) rfl T.g_law_shape_ask T.F_law_shape_ask.kp (b_law_shape_ask T) .nil pass0 (pa_cons (pv 1) pa_nil)) pa_nil)))) (pss_cons (ps_set (i := 3) sc_law.nd rfl (Or.inl rfl) (pe_lst pa_nil)) (pss_cons (ps_for PassesOwn.never rfl (pi_list (pv 2)) (pg_tup rfl (pgs_cons (pg_name (i := 5) sc_law.nd rfl (Or.inl rfl)) (pgs_cons (pg_name (i := 6) sc_law.nd rfl (Or.inl rfl)) (pgs_cons (pg_name (i := 7) sc_law.nd rfl (Or.inl rfl)) (pgs_cons (pg_name (i := 8) sc_law.nd rfl (Or.inl rfl)) (pgs_cons (pg_name (i := 9) sc_law.nd rfl (Or.inl rfl)) pgs_nil)))))) (pss_cons (ps_set (i := 10) sc_law.nd rfl (Or.inl rfl) (pe_tup (pa_cons (pv 5) (pa_cons (pv 6) (pa_cons (pv 7) (pa_cons (pv 8) (pa_cons (pv 9) pa_nil))))))) (pss_cons (ps_set (i := 11) sc_law.nd rfl (Or.inl rfl) (pe_call (ok_slab_shape T) (hr.mono (by decide)) rfl T.g_slab_shape T.F_slab_shape.kp (b_slab_shape T) .nil passE0 (pa_cons (pv 5) (pa_cons (pv 6) (pa_cons (pv 7) (pa_cons (pv 8) pa_nil)))))) (pss_cons (ps_if (pt_not (pt_val (pe_call (ok_law_is_shape T) (hr.mono (by decide)) rfl T.g_law_is_shape T.F_law_is_shape.kp (b_law_is_shape T) .nil pass0 (pa_cons (pv 10) (pa_cons (pv 11) pa_nil))))) (pss_one (ps_ret (pe_bl))) pss_nil) (pss_cons (ps_set (i := 12) sc_law.nd rfl (Or.inl rfl) (pe_call (ok_slot_starts T) (hr.mono (by decide)) rfl T.g_slot_starts T.F_slot_starts.kp (b_slot_starts T) .nil passE0 (pa_cons (pv 5) (pa_cons (pv 6) (pa_cons (pv 7) (pa_cons (pv 8) (pa_cons (pv 9) pa_nil))))))) (pss_cons (ps_if (pt_not (pt_val (pe_call (ok_law_are_starts T) (hr.mono (by decide)) rfl T.g_law_are_starts T.F_law_are_starts.kp (b_law_are_starts T) .nil pass0 (pa_cons (pv 10) (pa_cons (pv 11) (pa_cons (pv 12) pa_nil)))))) (pss_one (ps_ret (pe_bl))) pss_nil) (pss_cons (ps_expr (pe_bm PySem.F.plainAttrs_list PySem.F.slot_list_append PySem.F.type_list_append mt_append (pv 3) (pa_cons (pe_tup (pa_cons (pv 11) (pa_cons (pe_callTy call_list_of (by rfl) T.z_list (by decide +kernel) (pa_cons (pv 12) pa_nil)) pa_nil))) pa_nil))) (pss_one (ps_expr (pe_bm PySem.F.plainAttrs_list PySem.F.slot_list_append PySem.F.type_list_append mt_append (pv 12) (pa_cons (pe_un un_neg (pe_int)) pa_nil))))))))))) (pss_cons (ps_for PassesOwn.never rfl (pi_list (pe_lst (pa_cons (pe_int) (pa_cons (pe_int) pa_nil)))) (pg_name (i := 4) sc_law.nd rfl (Or.inl rfl)) (pss_cons (ps_asg (pe_ix (show IxR _ (rIxL K) from ix_list) (pv 2) (pv 4) (fun _ _ => rfl)) (pg_tup rfl (pgs_cons (pg_name (i := 5) sc_law.nd rfl (Or.inl rfl)) (pgs_cons (pg_name (i := 6) sc_law.nd rfl (Or.inl rfl)) (pgs_cons (pg_name (i := 7) sc_law.nd rfl (Or.inl rfl)) (pgs_cons (pg_name (i := 8) sc_law.nd rfl (Or.inl rfl)) (pgs_cons (pg_name (i := 9) sc_law.nd rfl (Or.inl rfl)) pgs_nil))))))) (pss_cons (ps_if (pt_not (pt_val (pe_call (ok_law_same T 8) (hr.mono (by decide)) rfl T.g_law_same T.F_law_same.kp (b_law_same T) .nil pass0 (pa_cons (pe_call (ok_slot_starts T) (hr.mono (by decide)) rfl T.g_slot_starts T.F_slot_starts.kp (b_slot_starts T) .nil passE0 (pa_cons (pv 5) (pa_cons (pv 6) (pa_cons (pv 7) (pa_cons (pv 8) (pa_cons (pv 9) pa_nil)))))) (pa_cons (pe_ix (show IxR _ (rIxT K) from ix_tup) (pe_ix (show IxR _ (rIxL K) from ix_list) (pv 3) (pv 4) (fun _ _ => rfl)) (pe_int) (fun _ _ => rfl)) pa_nil))))) (pss_one (ps_ret (pe_bl))) pss_nil) (pss_one (ps_if (pt_not (pt_val (pe_call (ok_law_same T 8) (hr.mono (by decide)) rfl T.g_law_same T.F_law_same.kp (b_law_same T) .nil pass0 (pa_cons (pe_call (ok_slab_shape T) (hr.mono (by decide)) rfl T.g_slab_shape T.F_slab_shape.kp (b_slab_shape T) .nil passE0 (pa_cons (pv 5) (pa_cons (pv 6) (pa_cons (pv 7) (pa_cons (pv 8) pa_nil))))) (pa_cons (pe_ix (show IxR _ (rIxT K) from ix_tup) (pe_ix (show IxR _ (rIxL K) from ix_list) (pv 3) (pv 4) (fun _ _ => rfl)) (pe_int) (fun _ _ => rfl)) pa_nil))))) (pss_one (ps_ret (pe_bl))) pss_nil))))) (pss_one (ps_ret (pe_call (ok_law_refuses T) hr rfl T.g_law_refuses T.F_law_refuses.kp (b_law_refuses T) .nil pass0 (pa_cons (pv 1) (pa_cons (pe_ix (show IxR _ (rIxL K) from ix_list) (pv 2) (pe_int) (fun _ _ => rfl)) pa_nil)))))))))), ?_⟩)
  · obtain ⟨_, _, rfl, _⟩ := h
    rfl
  · obtain ⟨a, ns, rfl, hs, hn, q⟩ := h
    simp only [tSeq, tAsg, tRet, tRetN, tDrop, tNext, tVar, tC, gName, tOp, tUn, rI, rI0, rU, tIfS, tTest, tB, tIf, tAnd, tOr, tNot, tAndV, tOrV, tNotV, tCall, tCons, tNil, tCB, tLst, tTup, tChain, CMul, CDiv, CPow, rEq, rNe, gSub, L2.start, LL.cxK0, LL.cxK1, List.map_cons, List.map_nil, List.length_cons, List.length_nil, List.replicate_succ, List.replicate_zero, List.cons_append, List.nil_append, List.append_nil, List.getElem?_cons_zero, List.getElem?_cons_succ, List.set_cons_zero, List.set_cons_succ, Nat.add_sub_cancel, Nat.reduceAdd, Nat.reduceSub, Option.some.injEq, V.int.injEq, V.bl.injEq, V.ref.injEq, V.str.injEq, List.cons.injEq, and_true, true_and, and_false, false_and, exists_eq_left, exists_eq_left', exists_and_left, exists_and_right, exists_eq, exists_eq', LL.if_dec, reduceCtorEq, exists_false, exists_const, or_false, false_or, if_true, if_false, LL.rInt1, LL.rMx, LL.rMn, and_assoc, Int.reduceNeg, Int.reduceLT, Int.reduceLE, Int.reduceMul, Int.reduceAdd, Int.reduceSub, Int.reducePow, Int.reduceToNat, Nat.reducePow, Nat.reduceLT, true_or, or_true, Bool.not_true, Bool.not_false, Bool.false_eq_true, Bool.or_false, Bool.or_true, Bool.true_or, Bool.false_or, decide_true, decide_false, not_true_eq_false, not_false_eq_true, LL.scal_int, LL.scal_bl, LL.scal_str, LL.isInt, LL.isBl, LL.isStr, LL.isLst, LL.isTup, LL.isDic, N_law]
    refine ⟨a, ns, rfl, hs, hn, fun d s H1 s1 D1 nd ns' => ?_⟩
    refine ⟨d, s, rfl, D1, fun b1 w1 k1 z1 j1 p1 H2 a2 D2 nb1 A1 => ?_⟩
    refine ⟨d, s, rfl, D2, fun b2 w2 k2 z2 j2 p2 H3 a3 D3 nb2 A2 => ⟨by decide, ?_⟩⟩
    have nb1s := D1.ne _ nb1
    replace A1 : Ask5 H3 b1 w1 k1 z1 j1 p1 := ⟨a3.at A1.at_ nb1s, A1.S, A1.p0, A1.p1, A1.pd⟩
    intro la nla
    generalize hq : upd H3 la _ = H4
    have sH4 : Same H3 H4 := hq ▸ Same.new (Same.refl _) nla
    have ela := hq ▸ (upd_same (H := H3) (a := la))
    clear hq
    refine ⟨by decide, ?_⟩
    replace A1 := A1.same sH4
    replace A2 := A2.same sH4
    have D4 := D3.same sH4
    clear a2 a3 D1 D2 D3
    intro D hD
    have hall : ∀ (i : Nat) (x : V), [V.ref b1, V.ref b2][i]? = some x → ∃ f, [(⟨w1, k1, z1, j1, p1⟩ : Fv), ⟨w2, k2, z2, j2, p2⟩][i]? = some f ∧ AskF H4 x f := fun i x hx => by
      match i, hx with
      | 0, hx => cases hx; exact ⟨_, rfl, _, rfl, A1⟩
      | 1, hx => cases hx; exact ⟨_, rfl, _, rfl, A2⟩
    generalize hfs : [(⟨w1, k1, z1, j1, p1⟩ : Fv), ⟨w2, k2, z2, j2, p2⟩] = fs at hall
    have hfl : fs.length = 2 := by rw [← hfs]; rfl
    refine use_forL (a := la) (xs := [.ref b1, .ref b2]) (fun Q q => ⟨_, rfl, q⟩) (fun i σ' H' => Same H4 H' ∧ (∃ acc, H' D = some (.lst acc) ∧ DtL (fun b => H4 b = none ∧ b ≠ D) H' acc ((fs.take i).map keptT)) ∧ ∃ y1 y2 y3 y4 y5 y6 y7 y8 y9 : Option V, σ' = [some (.ref a), some (.ref d), some (.ref la), some (.ref D), y1, y2, y3, y4, y5, y6, y7, y8, y9]) ?_ (fun i σ' H' _ ⟨g, _⟩ => SqL.of (g _ _ ela)) ?_ ?_
    · exact ⟨Same.new (Same.refl _) hD, ⟨[], upd_same, rfl⟩, _, _, _, _, _, _, _, _, _, rfl⟩
    · rintro i x σ' H' hi ⟨g0, ⟨acc, eD, hacc⟩, y1, y2, y3, y4, y5, y6, y7, y8, y9, rfl⟩
      obtain ⟨f, hf, b, rfl, hA⟩ := hall i x hi
      replace hA := hA.same g0
      obtain ⟨w, k, z, j, p⟩ := f
      simp only [tSeq, tAsg, tRet, tRetN, tDrop, tNext, tVar, tC, gName, tOp, tUn, rI, rI0, rU, tIfS, tTest, tB, tIf, tAnd, tOr, tNot, tAndV, tOrV, tNotV, tCall, tCons, tNil, tCB, tLst, tTup, tChain, CMul, CDiv, CPow, rEq, rNe, gSub, L2.start, LL.cxK0, LL.cxK1, List.map_cons, List.map_nil, List.length_cons, List.length_nil, List.replicate_succ, List.replicate_zero, List.cons_append, List.nil_append, List.append_nil, List.getElem?_cons_zero, List.getElem?_cons_succ, List.set_cons_zero, List.set_cons_succ, Nat.add_sub_cancel, Nat.reduceAdd, Nat.reduceSub, Option.some.injEq, V.int.injEq, V.bl.injEq, V.ref.injEq, V.str.injEq, List.cons.injEq, and_true, true_and, and_false, false_and, exists_eq_left, exists_eq_left', exists_and_left, exists_and_right, exists_eq, exists_eq', LL.if_dec, reduceCtorEq, exists_false, exists_const, or_false, false_or, if_true, if_false, LL.rInt1, LL.rMx, LL.rMn, and_assoc, Int.reduceNeg, Int.reduceLT, Int.reduceLE, Int.reduceMul, Int.reduceAdd, Int.reduceSub, Int.reducePow, Int.reduceToNat, Nat.reducePow, Nat.reduceLT, true_or, or_true, Bool.not_true, Bool.not_false, Bool.false_eq_true, Bool.or_false, Bool.or_true, Bool.true_or, Bool.false_or, decide_true, decide_false, not_true_eq_false, not_false_eq_true, LL.scal_int, LL.scal_bl, LL.scal_str, LL.isInt, LL.isBl, LL.isStr, LL.isLst, LL.isTup, LL.isDic, gTup]
      refine ⟨_, SqT.of hA.at_, rfl, ?_⟩
      simp only [tSeq, tAsg, tRet, tRetN, tDrop, tNext, tVar, tC, gName, tOp, tUn, rI, rI0, rU, tIfS, tTest, tB, tIf, tAnd, tOr, tNot, tAndV, tOrV, tNotV, tCall, tCons, tNil, tCB, tLst, tTup, tChain, CMul, CDiv, CPow, rEq, rNe, gSub, L2.start, LL.cxK0, LL.cxK1, List.map_cons, List.map_nil, List.length_cons, List.length_nil, List.replicate_succ, List.replicate_zero, List.cons_append, List.nil_append, List.append_nil, List.getElem?_cons_zero, List.getElem?_cons_succ, List.set_cons_zero, List.set_cons_succ, Nat.add_sub_cancel, Nat.reduceAdd, Nat.reduceSub, Option.some.injEq, V.int.injEq, V.bl.injEq, V.ref.injEq, V.str.injEq, List.cons.injEq, and_true, true_and, and_false, false_and, exists_eq_left, exists_eq_left', exists_and_left, exists_and_right, exists_eq, exists_eq', LL.if_dec, reduceCtorEq, exists_false, exists_const, or_false, false_or, if_true, if_false, LL.rInt1, LL.rMx, LL.rMn, and_assoc, Int.reduceNeg, Int.reduceLT, Int.reduceLE, Int.reduceMul, Int.reduceAdd, Int.reduceSub, Int.reducePow, Int.reduceToNat, Nat.reducePow, Nat.reduceLT, true_or, or_true, Bool.not_true, Bool.not_false, Bool.false_eq_true, Bool.or_false, Bool.or_true, Bool.true_or, Bool.false_or, decide_true, decide_false, not_true_eq_false, not_false_eq_true, LL.scal_int, LL.scal_bl, LL.scal_str, LL.isInt, LL.isBl, LL.isStr, LL.isLst, LL.isTup, LL.isDic, gCons, gNil]
      replace hA : Ask5 H' b w k z j p := hA
      refine ⟨by decide, ?_⟩
      intro pa npa
      generalize hq : upd H' pa _ = H5
      have sH5 : Same H' H5 := hq ▸ Same.new (Same.refl _) npa
      have epa := hq ▸ (upd_same (H := H') (a := pa))
      clear hq
      replace eD := sH5 _ _ eD
      have A5 : Ask5 H5 pa w k z j p := ⟨epa, hA.S, hA.p0, hA.p1, hA.pd⟩
      refine use_shape hA.S fun tv H6 g6 ht => ?_
      refine ⟨_, pa, w, k, z, p, j, tv, rfl, A5.same g6, ht, true, rfl, ?_⟩
      rw [if_neg (by simp)]
      have eD6 := g6 _ _ eD
      refine use_starts hA.S hA.p0 hA.p1 hA.pd fun st H7 g7 nst est => ?_
      have hsD : st ≠ D := fun z => by rw [z, eD6] at nst; cases nst
      refine ⟨_, fun _ => True, pa, w, k, z, p, j, tv, .ref st, rfl, (A5.same g6).same g7, ht.same g7, sts_dt hA.S trivial est, fun H8 g8 => ⟨true, rfl, ?_⟩⟩
      rw [if_neg (by simp)]
      replace est := g8 _ _ est
      have g68 := g7.trans g8
      have eD8 := g68 _ _ eD6
      simp only [tSeq, tAsg, tRet, tRetN, tDrop, tNext, tVar, tC, gName, tOp, tUn, rI, rI0, rU, tIfS, tTest, tB, tIf, tAnd, tOr, tNot, tAndV, tOrV, tNotV, tCall, tCons, tNil, tCB, tLst, tTup, tChain, CMul, CDiv, CPow, rEq, rNe, gSub, L2.start, LL.cxK0, LL.cxK1, List.map_cons, List.map_nil, List.length_cons, List.length_nil, List.replicate_succ, List.replicate_zero, List.cons_append, List.nil_append, List.append_nil, List.getElem?_cons_zero, List.getElem?_cons_succ, List.set_cons_zero, List.set_cons_succ, Nat.add_sub_cancel, Nat.reduceAdd, Nat.reduceSub, Option.some.injEq, V.int.injEq, V.bl.injEq, V.ref.injEq, V.str.injEq, List.cons.injEq, and_true, true_and, and_false, false_and, exists_eq_left, exists_eq_left', exists_and_left, exists_and_right, exists_eq, exists_eq', LL.if_dec, reduceCtorEq, exists_false, exists_const, or_false, false_or, if_true, if_false, LL.rInt1, LL.rMx, LL.rMn, and_assoc, Int.reduceNeg, Int.reduceLT, Int.reduceLE, Int.reduceMul, Int.reduceAdd, Int.reduceSub, Int.reducePow, Int.reduceToNat, Nat.reducePow, Nat.reduceLT, true_or, or_true, Bool.not_true, Bool.not_false, Bool.false_eq_true, Bool.or_false, Bool.or_true, Bool.true_or, Bool.false_or, decide_true, decide_false, not_true_eq_false, not_false_eq_true, LL.scal_int, LL.scal_bl, LL.scal_str, LL.isInt, LL.isBl, LL.isStr, LL.isLst, LL.isTup, LL.isDic, tBM]
      refine ⟨ty_list eD8, _, .inl (SqL.of est), ?_⟩
      have est8 := est
      intro lc nlc
      generalize hq : upd H8 lc _ = H9
      have sH9 : Same H8 H9 := hq ▸ Same.new (Same.refl _) nlc
      have elc := hq ▸ (upd_same (H := H8) (a := lc))
      clear hq
      replace est := sH9 _ _ est
      replace eD8 := sH9 _ _ eD8
      have est9 := est
      refine ⟨by decide, ?_⟩
      intro tq ntq
      generalize hq : upd H9 tq _ = H10
      have sH10 : Same H9 H10 := hq ▸ Same.new (Same.refl _) ntq
      have etq := hq ▸ (upd_same (H := H9) (a := tq))
      clear hq
      replace est := sH10 _ _ est
      replace eD8 := sH10 _ _ eD8
      replace elc := sH10 _ _ elc
      have hal : acc.length ≤ 2 := by rw [hacc.len, List.length_map, List.length_take]; omega
      refine use_append eD8 (small_sz (by omega)) ?_
      have est11 : upd H10 D (.lst (acc ++ [.ref tq])) st = some (.lst ((stsL w k z (2 ^ j) p).map V.int)) := by rw [upd_ne hsD]; exact est
      refine ⟨ty_list est11, use_append est11 (small_sz (by rw [List.length_map]; have := sts_len (p := p) hA.S; omega)) ?_⟩
      have g4 := (g0.trans sH5).trans g6
      have g10 : Same H6 H10 := (g68.trans sH9).trans sH10
      have hst4 : H4 st = none := g4.free nst
      have keep : ∀ b o, b ≠ D → H6 b = some o → upd (upd H10 D (.lst (acc ++ [.ref tq]))) st (.lst ((stsL w k z (2 ^ j) p).map V.int ++ [V.int (-1)])) b = some o := fun b o hb e => by rw [upd_ne (ne_of_none e nst), upd_ne hb]; exact g10 _ _ e
      have hnq : ∀ b o, b ≠ D → b ≠ st → H10 b = some o → upd (upd H10 D (.lst (acc ++ [.ref tq]))) st (.lst ((stsL w k z (2 ^ j) p).map V.int ++ [V.int (-1)])) b = some o := fun b o hb hs e => by rw [upd_ne hs, upd_ne hb]; exact e
      have eD9 : H9 D ≠ none := by rw [(g68.trans sH9) _ _ eD6]; simp
      have hlD : lc ≠ D := fun z => by rw [z, g68 _ _ eD6] at nlc; cases nlc
      have hqD : tq ≠ D := fun z => by rw [z] at ntq; exact eD9 ntq
      have hls : lc ≠ st := fun z => by rw [z, est8] at nlc; cases nlc
      have hqs : tq ≠ st := fun z => by rw [z, est9] at ntq; cases ntq
      refine ⟨Same.own (Same.own (g4.trans g10) hD) hst4, _, by rw [upd_ne hsD.symm, upd_same], ?_⟩
      rw [take_one hf, List.map_append]
      refine DtL.app _ (DtL.imp (fun b o fb eb => ⟨fb, keep b o fb.2 ((sH5.trans g6) _ _ eb)⟩) _ hacc) (.one ⟨tq, _, rfl, ⟨((g4.trans g68).trans sH9).free ntq, hqD⟩, hnq _ _ hqD hqs etq, .cons (Dt.imp (fun b o fb eb => ⟨⟨(g0.trans sH5).free fb, fun z => by rw [z, eD] at fb; cases fb⟩, keep b o (fun z => by rw [z, eD] at fb; cases fb) eb⟩) _ ht) (.one ⟨lc, _, rfl, ⟨(g4.trans g68).free nlc, hlD⟩, hnq _ _ hlD hls elc, ints_dt _, by rw [List.length_map]; exact Nat.le_trans (sts_len (p := p) hA.S) (by decide)⟩), by simp⟩)
    · rintro σ' H' ⟨g0, ⟨acc, eD, hacc⟩, y1, y2, y3, y4, y5, y6, y7, y8, y9, rfl⟩
      have hfull : fs.take [V.ref b1, V.ref b2].length = fs := List.take_of_length_le (by rw [hfl]; exact Nat.le_refl _)
      rw [hfull] at hacc
      have both : ∀ m : Nat, m < 2 → ∃ b f v, [V.ref b1, V.ref b2][m]? = some (.ref b) ∧ Ask5 H' b f.w f.k f.z f.j f.p ∧ acc[m]? = some v ∧ Dt (fun b => H4 b = none ∧ b ≠ D) H' v (keptT f) := fun m hm => by
        obtain ⟨x, hx⟩ : ∃ x, [V.ref b1, V.ref b2][m]? = some x := ⟨_, List.getElem?_eq_getElem (by simpa using hm)⟩
        obtain ⟨f, hf, b, rfl, hA⟩ := hall m x hx
        obtain ⟨v, hv, dv⟩ := hacc.get' (i := m) (t := keptT f) (by rw [List.getElem?_map, hf]; rfl)
        exact ⟨b, f, v, hx, hA.same g0, hv, dv⟩
      simp only [tSeq, tAsg, tRet, tRetN, tDrop, tNext, tVar, tC, gName, tOp, tUn, rI, rI0, rU, tIfS, tTest, tB, tIf, tAnd, tOr, tNot, tAndV, tOrV, tNotV, tCall, tCons, tNil, tCB, tLst, tTup, tChain, CMul, CDiv, CPow, rEq, rNe, gSub, L2.start, LL.cxK0, LL.cxK1, List.map_cons, List.map_nil, List.length_cons, List.length_nil, List.replicate_succ, List.replicate_zero, List.cons_append, List.nil_append, List.append_nil, List.getElem?_cons_zero, List.getElem?_cons_succ, List.set_cons_zero, List.set_cons_succ, Nat.add_sub_cancel, Nat.reduceAdd, Nat.reduceSub, Option.some.injEq, V.int.injEq, V.bl.injEq, V.ref.injEq, V.str.injEq, List.cons.injEq, and_true, true_and, and_false, false_and, exists_eq_left, exists_eq_left', exists_and_left, exists_and_right, exists_eq, exists_eq', LL.if_dec, reduceCtorEq, exists_false, exists_const, or_false, false_or, if_true, if_false, LL.rInt1, LL.rMx, LL.rMn, and_assoc, Int.reduceNeg, Int.reduceLT, Int.reduceLE, Int.reduceMul, Int.reduceAdd, Int.reduceSub, Int.reducePow, Int.reduceToNat, Nat.reducePow, Nat.reduceLT, true_or, or_true, Bool.not_true, Bool.not_false, Bool.false_eq_true, Bool.or_false, Bool.or_true, Bool.true_or, Bool.false_or, decide_true, decide_false, not_true_eq_false, not_false_eq_true, LL.scal_int, LL.scal_bl, LL.scal_str, LL.isInt, LL.isBl, LL.isStr, LL.isLst, LL.isTup, LL.isDic]
      refine use_forLX (R := fun pl xs H2 => Same H' H2 ∧ H2 pl = some (.lst xs) ∧ xs = [.int 1, .int 0]) (fun Q hQ => ?_)
        (fun pl xs i σ' H2 => Same H' H2 ∧ H2 pl = some (.lst xs) ∧ xs = [.int 1, .int 0] ∧ ∃ y1 y2 y3 y4 y5 y6 y7 y8 y9 : Option V, σ' = [some (.ref a), some (.ref d), some (.ref la), some (.ref D), y1, y2, y3, y4, y5, y6, y7, y8, y9]) (fun pl xs H2 ⟨h1, h2, h3⟩ => ⟨h1, h2, h3, _, _, _, _, _, _, _, _, _, rfl⟩) (fun pl xs i σ' H2 _ ⟨_, e, _⟩ => SqL.of e) ?_ ?_
      · simp only [tSeq, tAsg, tRet, tRetN, tDrop, tNext, tVar, tC, gName, tOp, tUn, rI, rI0, rU, tIfS, tTest, tB, tIf, tAnd, tOr, tNot, tAndV, tOrV, tNotV, tCall, tCons, tNil, tCB, tLst, tTup, tChain, CMul, CDiv, CPow, rEq, rNe, gSub, L2.start, LL.cxK0, LL.cxK1, List.map_cons, List.map_nil, List.length_cons, List.length_nil, List.replicate_succ, List.replicate_zero, List.cons_append, List.nil_append, List.append_nil, List.getElem?_cons_zero, List.getElem?_cons_succ, List.set_cons_zero, List.set_cons_succ, Nat.add_sub_cancel, Nat.reduceAdd, Nat.reduceSub, Option.some.injEq, V.int.injEq, V.bl.injEq, V.ref.injEq, V.str.injEq, List.cons.injEq, and_true, true_and, and_false, false_and, exists_eq_left, exists_eq_left', exists_and_left, exists_and_right, exists_eq, exists_eq', LL.if_dec, reduceCtorEq, exists_false, exists_const, or_false, false_or, if_true, if_false, LL.rInt1, LL.rMx, LL.rMn, and_assoc, Int.reduceNeg, Int.reduceLT, Int.reduceLE, Int.reduceMul, Int.reduceAdd, Int.reduceSub, Int.reducePow, Int.reduceToNat, Nat.reducePow, Nat.reduceLT, true_or, or_true, Bool.not_true, Bool.not_false, Bool.false_eq_true, Bool.or_false, Bool.or_true, Bool.true_or, Bool.false_or, decide_true, decide_false, not_true_eq_false, not_false_eq_true, LL.scal_int, LL.scal_bl, LL.scal_str, LL.isInt, LL.isBl, LL.isStr, LL.isLst, LL.isTup, LL.isDic]
        refine ⟨by decide, ?_⟩
        intro pl npl
        generalize hq : upd H' pl _ = H5
        have sH5 : Same H' H5 := hq ▸ Same.new (Same.refl _) npl
        have epl := hq ▸ (upd_same (H := H') (a := pl))
        clear hq
        exact hQ _ _ _ ⟨sH5, epl, rfl⟩
      · rintro pl xs i x σ' H2 hx ⟨g2, e2, rfl, x1, x2, x3, x4, x5, x6, x7, x8, x9, rfl⟩
        obtain ⟨m, hm, rfl⟩ : ∃ m : Nat, m < 2 ∧ x = .int (m : Nat) := by
          match i, hx with
          | 0, hx => cases hx; exact ⟨1, by decide, rfl⟩
          | 1, hx => cases hx; exact ⟨0, by decide, rfl⟩
        obtain ⟨b, f, v, hb, hA, hv, dv⟩ := both m hm
        replace hA := hA.same g2
        replace dv := dv.same g2
        obtain ⟨w, k, z, j, p⟩ := f
        simp only [tSeq, tAsg, tRet, tRetN, tDrop, tNext, tVar, tC, gName, tOp, tUn, rI, rI0, rU, tIfS, tTest, tB, tIf, tAnd, tOr, tNot, tAndV, tOrV, tNotV, tCall, tCons, tNil, tCB, tLst, tTup, tChain, CMul, CDiv, CPow, rEq, rNe, gSub, L2.start, LL.cxK0, LL.cxK1, List.map_cons, List.map_nil, List.length_cons, List.length_nil, List.replicate_succ, List.replicate_zero, List.cons_append, List.nil_append, List.append_nil, List.getElem?_cons_zero, List.getElem?_cons_succ, List.set_cons_zero, List.set_cons_succ, Nat.add_sub_cancel, Nat.reduceAdd, Nat.reduceSub, Option.some.injEq, V.int.injEq, V.bl.injEq, V.ref.injEq, V.str.injEq, List.cons.injEq, and_true, true_and, and_false, false_and, exists_eq_left, exists_eq_left', exists_and_left, exists_and_right, exists_eq, exists_eq', LL.if_dec, reduceCtorEq, exists_false, exists_const, or_false, false_or, if_true, if_false, LL.rInt1, LL.rMx, LL.rMn, and_assoc, Int.reduceNeg, Int.reduceLT, Int.reduceLE, Int.reduceMul, Int.reduceAdd, Int.reduceSub, Int.reducePow, Int.reduceToNat, Nat.reducePow, Nat.reduceLT, true_or, or_true, Bool.not_true, Bool.not_false, Bool.false_eq_true, Bool.or_false, Bool.or_true, Bool.true_or, Bool.false_or, decide_true, decide_false, not_true_eq_false, not_false_eq_true, LL.scal_int, LL.scal_bl, LL.scal_str, LL.isInt, LL.isBl, LL.isStr, LL.isLst, LL.isTup, LL.isDic]
        refine use_ixL ((g0.trans g2) _ _ ela) (atI_nat hb) ?_
        simp only [tSeq, tAsg, tRet, tRetN, tDrop, tNext, tVar, tC, gName, tOp, tUn, rI, rI0, rU, tIfS, tTest, tB, tIf, tAnd, tOr, tNot, tAndV, tOrV, tNotV, tCall, tCons, tNil, tCB, tLst, tTup, tChain, CMul, CDiv, CPow, rEq, rNe, gSub, L2.start, LL.cxK0, LL.cxK1, List.map_cons, List.map_nil, List.length_cons, List.length_nil, List.replicate_succ, List.replicate_zero, List.cons_append, List.nil_append, List.append_nil, List.getElem?_cons_zero, List.getElem?_cons_succ, List.set_cons_zero, List.set_cons_succ, Nat.add_sub_cancel, Nat.reduceAdd, Nat.reduceSub, Option.some.injEq, V.int.injEq, V.bl.injEq, V.ref.injEq, V.str.injEq, List.cons.injEq, and_true, true_and, and_false, false_and, exists_eq_left, exists_eq_left', exists_and_left, exists_and_right, exists_eq, exists_eq', LL.if_dec, reduceCtorEq, exists_false, exists_const, or_false, false_or, if_true, if_false, LL.rInt1, LL.rMx, LL.rMn, and_assoc, Int.reduceNeg, Int.reduceLT, Int.reduceLE, Int.reduceMul, Int.reduceAdd, Int.reduceSub, Int.reducePow, Int.reduceToNat, Nat.reducePow, Nat.reduceLT, true_or, or_true, Bool.not_true, Bool.not_false, Bool.false_eq_true, Bool.or_false, Bool.or_true, Bool.true_or, Bool.false_or, decide_true, decide_false, not_true_eq_false, not_false_eq_true, LL.scal_int, LL.scal_bl, LL.scal_str, LL.isInt, LL.isBl, LL.isStr, LL.isLst, LL.isTup, LL.isDic, gTup]
        refine ⟨_, SqT.of hA.at_, rfl, ?_⟩
        simp only [tSeq, tAsg, tRet, tRetN, tDrop, tNext, tVar, tC, gName, tOp, tUn, rI, rI0, rU, tIfS, tTest, tB, tIf, tAnd, tOr, tNot, tAndV, tOrV, tNotV, tCall, tCons, tNil, tCB, tLst, tTup, tChain, CMul, CDiv, CPow, rEq, rNe, gSub, L2.start, LL.cxK0, LL.cxK1, List.map_cons, List.map_nil, List.length_cons, List.length_nil, List.replicate_succ, List.replicate_zero, List.cons_append, List.nil_append, List.append_nil, List.getElem?_cons_zero, List.getElem?_cons_succ, List.set_cons_zero, List.set_cons_succ, Nat.add_sub_cancel, Nat.reduceAdd, Nat.reduceSub, Option.some.injEq, V.int.injEq, V.bl.injEq, V.ref.injEq, V.str.injEq, List.cons.injEq, and_true, true_and, and_false, false_and, exists_eq_left, exists_eq_left', exists_and_left, exists_and_right, exists_eq, exists_eq', LL.if_dec, reduceCtorEq, exists_false, exists_const, or_false, false_or, if_true, if_false, LL.rInt1, LL.rMx, LL.rMn, and_assoc, Int.reduceNeg, Int.reduceLT, Int.reduceLE, Int.reduceMul, Int.reduceAdd, Int.reduceSub, Int.reducePow, Int.reduceToNat, Nat.reducePow, Nat.reduceLT, true_or, or_true, Bool.not_true, Bool.not_false, Bool.false_eq_true, Bool.or_false, Bool.or_true, Bool.true_or, Bool.false_or, decide_true, decide_false, not_true_eq_false, not_false_eq_true, LL.scal_int, LL.scal_bl, LL.scal_str, LL.isInt, LL.isBl, LL.isStr, LL.isLst, LL.isTup, LL.isDic, gCons, gNil]
        replace hA : Ask5 H2 b w k z j p := hA
        obtain ⟨pt, xs, rfl, fp, ept, ⟨t1, _, rfl, d1, t2, _, rfl, d2, rfl⟩, _⟩ := dv
        refine use_starts hA.S hA.p0 hA.p1 hA.pd fun st H5 g5 nst est => use_ixL ((g2.trans g5) _ _ eD) (atI_nat hv) (use_ixT (g5 _ _ ept) rfl ?_)
        refine use_same (sts_dt (F := fun _ => True) hA.S trivial est) (d2.same g5) (by show depL _ + 1 < 8; rw [dep_ints]; decide) fun H6 g6 => ⟨true, rfl, ?_⟩
        rw [if_neg (by simp)]
        have g26 := g5.trans g6
        refine use_shape hA.S fun tv H7 g7 ht => use_ixL ((g2.trans (g26.trans g7)) _ _ eD) (atI_nat hv) (use_ixT ((g26.trans g7) _ _ ept) rfl ?_)
        refine use_same ht (d1.same (g26.trans g7)) (sh_dep _ _ _ _) fun H8 g8 => ⟨true, rfl, ?_⟩
        rw [if_neg (by simp)]
        exact ⟨g2.trans ((g26.trans g7).trans g8), ((g26.trans g7).trans g8) _ _ e2⟩
      · rintro pl xs σ' H2 ⟨g2, e2, rfl, x1, x2, x3, x4, x5, x6, x7, x8, x9, rfl⟩
        simp only [tSeq, tAsg, tRet, tRetN, tDrop, tNext, tVar, tC, gName, tOp, tUn, rI, rI0, rU, tIfS, tTest, tB, tIf, tAnd, tOr, tNot, tAndV, tOrV, tNotV, tCall, tCons, tNil, tCB, tLst, tTup, tChain, CMul, CDiv, CPow, rEq, rNe, gSub, L2.start, LL.cxK0, LL.cxK1, List.map_cons, List.map_nil, List.length_cons, List.length_nil, List.replicate_succ, List.replicate_zero, List.cons_append, List.nil_append, List.append_nil, List.getElem?_cons_zero, List.getElem?_cons_succ, List.set_cons_zero, List.set_cons_succ, Nat.add_sub_cancel, Nat.reduceAdd, Nat.reduceSub, Option.some.injEq, V.int.injEq, V.bl.injEq, V.ref.injEq, V.str.injEq, List.cons.injEq, and_true, true_and, and_false, false_and, exists_eq_left, exists_eq_left', exists_and_left, exists_and_right, exists_eq, exists_eq', LL.if_dec, reduceCtorEq, exists_false, exists_const, or_false, false_or, if_true, if_false, LL.rInt1, LL.rMx, LL.rMn, and_assoc, Int.reduceNeg, Int.reduceLT, Int.reduceLE, Int.reduceMul, Int.reduceAdd, Int.reduceSub, Int.reducePow, Int.reduceToNat, Nat.reducePow, Nat.reduceLT, true_or, or_true, Bool.not_true, Bool.not_false, Bool.false_eq_true, Bool.or_false, Bool.or_true, Bool.true_or, Bool.false_or, decide_true, decide_false, not_true_eq_false, not_false_eq_true, LL.scal_int, LL.scal_bl, LL.scal_str, LL.isInt, LL.isBl, LL.isStr, LL.isLst, LL.isTup, LL.isDic]
        refine use_ixL ((g0.trans g2) _ _ ela) (v := .ref b1) rfl ⟨d, s, b1, w1, k1, z1, p1, j1, rfl, D4.same (g0.trans g2), nb1s, A1.same (g0.trans g2), q⟩
end K25

namespace K25
open PySem PySem.Spec PyProof.Rows L2 LL
variable {P : Program} {w : World} {K : PySem.W.Frag} {mg : Str → Option Value} {base : Heap}

def dd_is_whole : He.DefD := ⟨("is_whole", none), "is_whole", "is_whole", defArgs s_is_whole, defBody s_is_whole, defScope s_is_whole, [], []⟩
def dd_need : He.DefD := ⟨("need", none), "need", "need", defArgs s_need, defBody s_need, defScope s_need, [], []⟩
def dd_need_whole : He.DefD := ⟨("need_whole", none), "need_whole", "need_whole", defArgs s_need_whole, defBody s_need_whole, defScope s_need_whole, [], []⟩
def dd_is_width : He.DefD := ⟨("is_width", none), "is_width", "is_width", defArgs s_is_width, defBody s_is_width, defScope s_is_width, [], []⟩
def dd_is_power : He.DefD := ⟨("is_power", none), "is_power", "is_power", defArgs s_is_power, defBody s_is_power, defScope s_is_power, [], []⟩
def dd_need_align : He.DefD := ⟨("need_align", none), "need_align", "need_align", defArgs s_need_align, defBody s_need_align, defScope s_need_align, [], []⟩
def dd_need_shape : He.DefD := ⟨("need_shape", none), "need_shape", "need_shape", defArgs s_need_shape, defBody s_need_shape, defScope s_need_shape, [], []⟩
def dd_slab_shape : He.DefD := ⟨("slab_shape", none), "slab_shape", "slab_shape", defArgs s_slab_shape, defBody s_slab_shape, defScope s_slab_shape, [], []⟩
def dd_slot_starts : He.DefD := ⟨("slot_starts", none), "slot_starts", "slot_starts", defArgs s_slot_starts, defBody s_slot_starts, defScope s_slot_starts, [], []⟩
def dd_law_draws : He.DefD := ⟨("_law_draws", none), "_law_draws", "_law_draws", defArgs s_law_draws, defBody s_law_draws, defScope s_law_draws, [], []⟩
def dd_law_next_cell : He.DefD := ⟨("_law_next_cell", none), "_law_next_cell", "_law_next_cell", defArgs s_law_next_cell, defBody s_law_next_cell, defScope s_law_next_cell, [], []⟩
def dd_law_mixed : He.DefD := ⟨("_law_mixed", none), "_law_mixed", "_law_mixed", defArgs s_law_mixed, defBody s_law_mixed, defScope s_law_mixed, [], []⟩
def dd_law_take : He.DefD := ⟨("_law_take", none), "_law_take", "_law_take", defArgs s_law_take, defBody s_law_take, defScope s_law_take, [], []⟩
def dd_law_among : He.DefD := ⟨("_law_among", none), "_law_among", "_law_among", defArgs s_law_among, defBody s_law_among, defScope s_law_among, [], []⟩
def dd_law_between : He.DefD := ⟨("_law_between", none), "_law_between", "_law_between", defArgs s_law_between, defBody s_law_between, defScope s_law_between, [], []⟩
def dd_law_number : He.DefD := ⟨("_law_number", none), "_law_number", "_law_number", defArgs s_law_number, defBody s_law_number, defScope s_law_number, [], []⟩
def dd_law_alignment : He.DefD := ⟨("_law_alignment", none), "_law_alignment", "_law_alignment", defArgs s_law_alignment, defBody s_law_alignment, defScope s_law_alignment, [], []⟩
def dd_law_power : He.DefD := ⟨("_law_power", none), "_law_power", "_law_power", defArgs s_law_power, defBody s_law_power, defScope s_law_power, [], []⟩
def dd_law_long : He.DefD := ⟨("_law_long", none), "_law_long", "_law_long", defArgs s_law_long, defBody s_law_long, defScope s_law_long, [], []⟩
def dd_law_not_integer : He.DefD := ⟨("_law_not_integer", none), "_law_not_integer", "_law_not_integer", defArgs s_law_not_integer, defBody s_law_not_integer, defScope s_law_not_integer, [], []⟩
def dd_law_not_within : He.DefD := ⟨("_law_not_within", none), "_law_not_within", "_law_not_within", defArgs s_law_not_within, defBody s_law_not_within, defScope s_law_not_within, [], []⟩
def dd_law_not_among : He.DefD := ⟨("_law_not_among", none), "_law_not_among", "_law_not_among", defArgs s_law_not_among, defBody s_law_not_among, defScope s_law_not_among, [], []⟩
def dd_law_not_alignment : He.DefD := ⟨("_law_not_alignment", none), "_law_not_alignment", "_law_not_alignment", defArgs s_law_not_alignment, defBody s_law_not_alignment, defScope s_law_not_alignment, [], []⟩
def dd_law_is_int : He.DefD := ⟨("_law_is_int", none), "_law_is_int", "_law_is_int", defArgs s_law_is_int, defBody s_law_is_int, defScope s_law_is_int, [], []⟩
def dd_law_is_ints : He.DefD := ⟨("_law_is_ints", none), "_law_is_ints", "_law_is_ints", defArgs s_law_is_ints, defBody s_law_is_ints, defScope s_law_is_ints, [], []⟩
def dd_law_same : He.DefD := ⟨("_law_same", none), "_law_same", "_law_same", defArgs s_law_same, defBody s_law_same, defScope s_law_same, [], []⟩
def dd_law_shape_ask : He.DefD := ⟨("_law_shape_ask", none), "_law_shape_ask", "_law_shape_ask", defArgs s_law_shape_ask, defBody s_law_shape_ask, defScope s_law_shape_ask, [], []⟩
def dd_law_is_shape : He.DefD := ⟨("_law_is_shape", none), "_law_is_shape", "_law_is_shape", defArgs s_law_is_shape, defBody s_law_is_shape, defScope s_law_is_shape, [], []⟩
def dd_law_are_starts : He.DefD := ⟨("_law_are_starts", none), "_law_are_starts", "_law_are_starts", defArgs s_law_are_starts, defBody s_law_are_starts, defScope s_law_are_starts, [], []⟩
def dd_law_refusal : He.DefD := ⟨("_law_refusal", none), "_law_refusal", "_law_refusal", defArgs s_law_refusal, defBody s_law_refusal, defScope s_law_refusal, [], []⟩
def dd_law_refuses : He.DefD := ⟨("_law_refuses", none), "_law_refuses", "_law_refuses", defArgs s_law_refuses, defBody s_law_refuses, defScope s_law_refuses, [], []⟩
def dd_law : He.DefD := ⟨("law", none), "law", "law", defArgs s_law, defBody s_law, defScope s_law, [], []⟩
def dd_BadValue : He.DefD := ⟨("BadValue", some "__init__"), "__init__", "BadValue.__init__", defArgs s_BadValue, defBody s_BadValue, defScope s_BadValue, [], []⟩
def fn : List He.DefD := [dd_is_whole, dd_need, dd_need_whole, dd_is_width, dd_is_power, dd_need_align, dd_need_shape, dd_slab_shape, dd_slot_starts, dd_law_draws, dd_law_next_cell, dd_law_mixed, dd_law_take, dd_law_among, dd_law_between, dd_law_number, dd_law_alignment, dd_law_power, dd_law_long, dd_law_not_integer, dd_law_not_within, dd_law_not_among, dd_law_not_alignment, dd_law_is_int, dd_law_is_ints, dd_law_same, dd_law_shape_ask, dd_law_is_shape, dd_law_are_starts, dd_law_refusal, dd_law_refuses, dd_law, dd_BadValue]
def fa : List He.Fa := [.glo "is_whole", .glo "need", .glo "need_whole", .glo "is_width", .glo "is_power", .glo "need_align", .glo "need_shape", .glo "slab_shape", .glo "slot_starts", .glo "_law_draws", .glo "_law_next_cell", .glo "_law_mixed", .glo "_law_take", .glo "_law_among", .glo "_law_between", .glo "_law_number", .glo "_law_alignment", .glo "_law_power", .glo "_law_long", .glo "_law_not_integer", .glo "_law_not_within", .glo "_law_not_among", .glo "_law_not_alignment", .glo "_law_is_int", .glo "_law_is_ints", .glo "_law_same", .glo "_law_shape_ask", .glo "_law_is_shape", .glo "_law_are_starts", .glo "_law_refusal", .glo "_law_refuses", .glo "law", .int "MOST_ORDER" 8, .int "MOST_PAGES" 256, .int "MOST_SLOT" 4096, .glo "WIDTHS", .glo "BadValue", .glo "StoreError", .glo "Unknown", .free "ValueError", .free "bool", .free "dict", .free "int", .free "isinstance", .free "len", .free "list", .free "max", .free "min", .free "range", .free "str", .free "tuple"]
def exs : List (PySem.W.Frag → Bool) := [fun K => oexB K (He.ga K "BadValue"),
  fun K => decide (PySem.W.findIn K (.ref (He.ga K "BadValue")) "__init__" = some (some (.ref (He.ma K (He.ga K "BadValue") "__init__")))),
  fun K => decide (PySem.W.typeIn K (.ref (He.ma K (He.ga K "BadValue") "__init__")) = some (.type "function")),
  fun K => decide (PySem.W.findIn K (.ref (He.ga K "BadValue")) "parameter" = some none),
  fun K => decide (PySem.W.findIn K (.ref (He.ga K "BadValue")) "told" = some none),
  fun K => xfB K (He.ga K "BadValue"),
  fun K => excdB K (He.ga K "BadValue"),
  fun K => decide (PySem.W.exmOne K (.ref (He.ga K "BadValue")) (.ref (He.ga K "BadValue")) = some true),
  fun K => decide (PySem.W.kitOne K (.ref (He.ga K "BadValue")) (.type "ValueError") = some true),
  fun K => decide (PySem.W.kitOne K (.ref (He.ga K "BadValue")) (.ref (He.ga K "StoreError")) = some true),
  fun K => decide (PySem.W.kitOne K (.ref (He.ga K "BadValue")) (.ref (He.ga K "BadValue")) = some true),
  fun K => decide (PySem.W.kitOne K (.ref (He.ga K "BadValue")) (.ref (He.ga K "Unknown")) = some false),
  fun K => He.tupB K "WIDTHS" [.int 16, .int 32, .int 64]]
def names : List Str := (["is_whole", "need", "need_whole", "is_width", "is_power", "need_align", "need_shape", "slab_shape", "slot_starts", "_law_draws", "_law_next_cell", "_law_mixed", "_law_take", "_law_among", "_law_between", "_law_number", "_law_alignment", "_law_power", "_law_long", "_law_not_integer"] : List Str) ++ (["_law_not_within", "_law_not_among", "_law_not_alignment", "_law_is_int", "_law_is_ints", "_law_same", "_law_shape_ask", "_law_is_shape", "_law_are_starts", "_law_refusal", "_law_refuses", "StoreError", "BadValue", "Unknown", "WIDTHS", "MOST_PAGES", "MOST_ORDER", "MOST_SLOT"] : List Str)
abbrev R : PySem.W.OpenRow := PySem.W.OpenLaw.row PySem.Challenge.rw_allgivenback_k25_shape
abbrev hk : PySem.W.Hook := hookY 6 fa fn (fun K => exs.all fun e => e K)
def ob (s : PySem.W.SharedT) : AlY := obsY 6 fa fn (fun K => exs.all fun e => e K) (HandSHeadRun.getT s)
theorem ob_eq (s : PySem.W.SharedT) : ob s = hk.obs s.abs := obsY_eq (HandSHeadRun.getT_eq s)
theorem run (w : World) : HandSHeadRun.RunEq R (PySem.W.view R.prog [44]) hk ob 4000 names w := by
  intro os
  kernel_rfl
theorem tx_of {K : PySem.W.Frag} {h : Heap} {mg : Str → Option Value} (X : K.In h) (G : h.Ns mainGlobals mg) (c : SaysY fa fn (fun K => exs.all fun e => e K) K) : Nonempty (Tx K mg) := by
  obtain ⟨fd_is_whole, F_is_whole⟩ := c.d.def_ 0 (d := dd_is_whole) rfl
  obtain ⟨fd_need, F_need⟩ := c.d.def_ 1 (d := dd_need) rfl
  obtain ⟨fd_need_whole, F_need_whole⟩ := c.d.def_ 2 (d := dd_need_whole) rfl
  obtain ⟨fd_is_width, F_is_width⟩ := c.d.def_ 3 (d := dd_is_width) rfl
  obtain ⟨fd_is_power, F_is_power⟩ := c.d.def_ 4 (d := dd_is_power) rfl
  obtain ⟨fd_need_align, F_need_align⟩ := c.d.def_ 5 (d := dd_need_align) rfl
  obtain ⟨fd_need_shape, F_need_shape⟩ := c.d.def_ 6 (d := dd_need_shape) rfl
  obtain ⟨fd_slab_shape, F_slab_shape⟩ := c.d.def_ 7 (d := dd_slab_shape) rfl
  obtain ⟨fd_slot_starts, F_slot_starts⟩ := c.d.def_ 8 (d := dd_slot_starts) rfl
  obtain ⟨fd_law_draws, F_law_draws⟩ := c.d.def_ 9 (d := dd_law_draws) rfl
  obtain ⟨fd_law_next_cell, F_law_next_cell⟩ := c.d.def_ 10 (d := dd_law_next_cell) rfl
  obtain ⟨fd_law_mixed, F_law_mixed⟩ := c.d.def_ 11 (d := dd_law_mixed) rfl
  obtain ⟨fd_law_take, F_law_take⟩ := c.d.def_ 12 (d := dd_law_take) rfl
  obtain ⟨fd_law_among, F_law_among⟩ := c.d.def_ 13 (d := dd_law_among) rfl
  obtain ⟨fd_law_between, F_law_between⟩ := c.d.def_ 14 (d := dd_law_between) rfl
  obtain ⟨fd_law_number, F_law_number⟩ := c.d.def_ 15 (d := dd_law_number) rfl
  obtain ⟨fd_law_alignment, F_law_alignment⟩ := c.d.def_ 16 (d := dd_law_alignment) rfl
  obtain ⟨fd_law_power, F_law_power⟩ := c.d.def_ 17 (d := dd_law_power) rfl
  obtain ⟨fd_law_long, F_law_long⟩ := c.d.def_ 18 (d := dd_law_long) rfl
  obtain ⟨fd_law_not_integer, F_law_not_integer⟩ := c.d.def_ 19 (d := dd_law_not_integer) rfl
  obtain ⟨fd_law_not_within, F_law_not_within⟩ := c.d.def_ 20 (d := dd_law_not_within) rfl
  obtain ⟨fd_law_not_among, F_law_not_among⟩ := c.d.def_ 21 (d := dd_law_not_among) rfl
  obtain ⟨fd_law_not_alignment, F_law_not_alignment⟩ := c.d.def_ 22 (d := dd_law_not_alignment) rfl
  obtain ⟨fd_law_is_int, F_law_is_int⟩ := c.d.def_ 23 (d := dd_law_is_int) rfl
  obtain ⟨fd_law_is_ints, F_law_is_ints⟩ := c.d.def_ 24 (d := dd_law_is_ints) rfl
  obtain ⟨fd_law_same, F_law_same⟩ := c.d.def_ 25 (d := dd_law_same) rfl
  obtain ⟨fd_law_shape_ask, F_law_shape_ask⟩ := c.d.def_ 26 (d := dd_law_shape_ask) rfl
  obtain ⟨fd_law_is_shape, F_law_is_shape⟩ := c.d.def_ 27 (d := dd_law_is_shape) rfl
  obtain ⟨fd_law_are_starts, F_law_are_starts⟩ := c.d.def_ 28 (d := dd_law_are_starts) rfl
  obtain ⟨fd_law_refusal, F_law_refusal⟩ := c.d.def_ 29 (d := dd_law_refusal) rfl
  obtain ⟨fd_law_refuses, F_law_refuses⟩ := c.d.def_ 30 (d := dd_law_refuses) rfl
  obtain ⟨fd_law, F_law⟩ := c.d.def_ 31 (d := dd_law) rfl
  obtain ⟨fd_BadValue, F_BadValue⟩ := c.d.def_ 32 (d := dd_BadValue) rfl
  exact ⟨{ fd_is_whole := fd_is_whole, F_is_whole := F_is_whole, g_is_whole := He.glo_ok X G (c.d.fact 0 (f := .glo "is_whole") rfl), fd_need := fd_need, F_need := F_need, g_need := He.glo_ok X G (c.d.fact 1 (f := .glo "need") rfl), fd_need_whole := fd_need_whole, F_need_whole := F_need_whole, g_need_whole := He.glo_ok X G (c.d.fact 2 (f := .glo "need_whole") rfl), fd_is_width := fd_is_width, F_is_width := F_is_width, g_is_width := He.glo_ok X G (c.d.fact 3 (f := .glo "is_width") rfl), fd_is_power := fd_is_power, F_is_power := F_is_power, g_is_power := He.glo_ok X G (c.d.fact 4 (f := .glo "is_power") rfl), fd_need_align := fd_need_align, F_need_align := F_need_align, g_need_align := He.glo_ok X G (c.d.fact 5 (f := .glo "need_align") rfl), fd_need_shape := fd_need_shape, F_need_shape := F_need_shape, g_need_shape := He.glo_ok X G (c.d.fact 6 (f := .glo "need_shape") rfl), fd_slab_shape := fd_slab_shape, F_slab_shape := F_slab_shape, g_slab_shape := He.glo_ok X G (c.d.fact 7 (f := .glo "slab_shape") rfl), fd_slot_starts := fd_slot_starts, F_slot_starts := F_slot_starts, g_slot_starts := He.glo_ok X G (c.d.fact 8 (f := .glo "slot_starts") rfl), fd_law_draws := fd_law_draws, F_law_draws := F_law_draws, g_law_draws := He.glo_ok X G (c.d.fact 9 (f := .glo "_law_draws") rfl), fd_law_next_cell := fd_law_next_cell, F_law_next_cell := F_law_next_cell, g_law_next_cell := He.glo_ok X G (c.d.fact 10 (f := .glo "_law_next_cell") rfl), fd_law_mixed := fd_law_mixed, F_law_mixed := F_law_mixed, g_law_mixed := He.glo_ok X G (c.d.fact 11 (f := .glo "_law_mixed") rfl), fd_law_take := fd_law_take, F_law_take := F_law_take, g_law_take := He.glo_ok X G (c.d.fact 12 (f := .glo "_law_take") rfl), fd_law_among := fd_law_among, F_law_among := F_law_among, g_law_among := He.glo_ok X G (c.d.fact 13 (f := .glo "_law_among") rfl), fd_law_between := fd_law_between, F_law_between := F_law_between, g_law_between := He.glo_ok X G (c.d.fact 14 (f := .glo "_law_between") rfl), fd_law_number := fd_law_number, F_law_number := F_law_number, g_law_number := He.glo_ok X G (c.d.fact 15 (f := .glo "_law_number") rfl), fd_law_alignment := fd_law_alignment, F_law_alignment := F_law_alignment, g_law_alignment := He.glo_ok X G (c.d.fact 16 (f := .glo "_law_alignment") rfl), fd_law_power := fd_law_power, F_law_power := F_law_power, g_law_power := He.glo_ok X G (c.d.fact 17 (f := .glo "_law_power") rfl), fd_law_long := fd_law_long, F_law_long := F_law_long, g_law_long := He.glo_ok X G (c.d.fact 18 (f := .glo "_law_long") rfl), fd_law_not_integer := fd_law_not_integer, F_law_not_integer := F_law_not_integer, g_law_not_integer := He.glo_ok X G (c.d.fact 19 (f := .glo "_law_not_integer") rfl), fd_law_not_within := fd_law_not_within, F_law_not_within := F_law_not_within, g_law_not_within := He.glo_ok X G (c.d.fact 20 (f := .glo "_law_not_within") rfl), fd_law_not_among := fd_law_not_among, F_law_not_among := F_law_not_among, g_law_not_among := He.glo_ok X G (c.d.fact 21 (f := .glo "_law_not_among") rfl), fd_law_not_alignment := fd_law_not_alignment, F_law_not_alignment := F_law_not_alignment, g_law_not_alignment := He.glo_ok X G (c.d.fact 22 (f := .glo "_law_not_alignment") rfl), fd_law_is_int := fd_law_is_int, F_law_is_int := F_law_is_int, g_law_is_int := He.glo_ok X G (c.d.fact 23 (f := .glo "_law_is_int") rfl), fd_law_is_ints := fd_law_is_ints, F_law_is_ints := F_law_is_ints, g_law_is_ints := He.glo_ok X G (c.d.fact 24 (f := .glo "_law_is_ints") rfl), fd_law_same := fd_law_same, F_law_same := F_law_same, g_law_same := He.glo_ok X G (c.d.fact 25 (f := .glo "_law_same") rfl), fd_law_shape_ask := fd_law_shape_ask, F_law_shape_ask := F_law_shape_ask, g_law_shape_ask := He.glo_ok X G (c.d.fact 26 (f := .glo "_law_shape_ask") rfl), fd_law_is_shape := fd_law_is_shape, F_law_is_shape := F_law_is_shape, g_law_is_shape := He.glo_ok X G (c.d.fact 27 (f := .glo "_law_is_shape") rfl), fd_law_are_starts := fd_law_are_starts, F_law_are_starts := F_law_are_starts, g_law_are_starts := He.glo_ok X G (c.d.fact 28 (f := .glo "_law_are_starts") rfl), fd_law_refusal := fd_law_refusal, F_law_refusal := F_law_refusal, g_law_refusal := He.glo_ok X G (c.d.fact 29 (f := .glo "_law_refusal") rfl), fd_law_refuses := fd_law_refuses, F_law_refuses := F_law_refuses, g_law_refuses := He.glo_ok X G (c.d.fact 30 (f := .glo "_law_refuses") rfl), fd_law := fd_law, F_law := F_law, g_law := He.glo_ok X G (c.d.fact 31 (f := .glo "law") rfl), c_MOST_ORDER := He.int_ok X G (c.d.fact 32 (f := .int "MOST_ORDER" 8) rfl), c_MOST_PAGES := He.int_ok X G (c.d.fact 33 (f := .int "MOST_PAGES" 256) rfl), c_MOST_SLOT := He.int_ok X G (c.d.fact 34 (f := .int "MOST_SLOT" 4096) rfl), g_WIDTHS := He.glo_ok X G (c.d.fact 35 (f := .glo "WIDTHS") rfl), g_BadValue := He.glo_ok X G (c.d.fact 36 (f := .glo "BadValue") rfl), g_StoreError := He.glo_ok X G (c.d.fact 37 (f := .glo "StoreError") rfl), g_Unknown := He.glo_ok X G (c.d.fact 38 (f := .glo "Unknown") rfl), z_ValueError := He.free_ok X G (c.d.fact 39 (f := .free "ValueError") rfl), z_bool := He.free_ok X G (c.d.fact 40 (f := .free "bool") rfl), z_dict := He.free_ok X G (c.d.fact 41 (f := .free "dict") rfl), z_int := He.free_ok X G (c.d.fact 42 (f := .free "int") rfl), z_isinstance := He.free_ok X G (c.d.fact 43 (f := .free "isinstance") rfl), z_len := He.free_ok X G (c.d.fact 44 (f := .free "len") rfl), z_list := He.free_ok X G (c.d.fact 45 (f := .free "list") rfl), z_max := He.free_ok X G (c.d.fact 46 (f := .free "max") rfl), z_min := He.free_ok X G (c.d.fact 47 (f := .free "min") rfl), z_range := He.free_ok X G (c.d.fact 48 (f := .free "range") rfl), z_str := He.free_ok X G (c.d.fact 49 (f := .free "str") rfl), z_tuple := He.free_ok X G (c.d.fact 50 (f := .free "tuple") rfl), fd_BadValue := fd_BadValue, F_BadValue := F_BadValue, x_BadValue := oexB_ok (c.ex 0 (e := fun K => oexB K (He.ga K "BadValue")) rfl), i_BadValue := of_decide_eq_true (c.ex 1 (e := fun K => decide (PySem.W.findIn K (.ref (He.ga K "BadValue")) "__init__" = some (some (.ref (He.ma K (He.ga K "BadValue") "__init__"))))) rfl), t_BadValue := of_decide_eq_true (c.ex 2 (e := fun K => decide (PySem.W.typeIn K (.ref (He.ma K (He.ga K "BadValue") "__init__")) = some (.type "function"))) rfl), n_BadValue_parameter := of_decide_eq_true (c.ex 3 (e := fun K => decide (PySem.W.findIn K (.ref (He.ga K "BadValue")) "parameter" = some none)) rfl), n_BadValue_told := of_decide_eq_true (c.ex 4 (e := fun K => decide (PySem.W.findIn K (.ref (He.ga K "BadValue")) "told" = some none)) rfl), f_BadValue := xfB_ok (c.ex 5 (e := fun K => xfB K (He.ga K "BadValue")) rfl), d_BadValue := excdB_ok (c.ex 6 (e := fun K => excdB K (He.ga K "BadValue")) rfl), m_BadValue := of_decide_eq_true (c.ex 7 (e := fun K => decide (PySem.W.exmOne K (.ref (He.ga K "BadValue")) (.ref (He.ga K "BadValue")) = some true)) rfl), k_ValueError := of_decide_eq_true (c.ex 8 (e := fun K => decide (PySem.W.kitOne K (.ref (He.ga K "BadValue")) (.type "ValueError") = some true)) rfl), k_StoreError := of_decide_eq_true (c.ex 9 (e := fun K => decide (PySem.W.kitOne K (.ref (He.ga K "BadValue")) (.ref (He.ga K "StoreError")) = some true)) rfl), k_BadValue := of_decide_eq_true (c.ex 10 (e := fun K => decide (PySem.W.kitOne K (.ref (He.ga K "BadValue")) (.ref (He.ga K "BadValue")) = some true)) rfl), k_Unknown := of_decide_eq_true (c.ex 11 (e := fun K => decide (PySem.W.kitOne K (.ref (He.ga K "BadValue")) (.ref (He.ga K "Unknown")) = some false)) rfl), w_WIDTHS := fun H => He.tupB_ok (c.ex 12 (e := fun K => He.tupB K "WIDTHS" [.int 16, .int 32, .int 64]) rfl) H }⟩
theorem facts {P : Program} {w : World} {K : PySem.W.Frag} {h : Heap} {mg : Str → Option Value} {f : Addr} (X : K.In h) (G : h.Ns mainGlobals mg) (hfa : mg ("law" : Str) = some (.ref f)) (c : SaysY fa fn (fun K => exs.all fun e => e K) K) :
    ∃ fd : FuncData, (∀ (s : Shared) (v : Value), BindsTo s fd ⟨[v], []⟩ [("_law_script", v)]) ∧ ∀ base : Heap, K.In base → base.Ns mainGlobals mg → FnOk P w K mg base CX0 13 f fd ["_law_script"] (sp_law K) := by
  obtain ⟨T⟩ := tx_of X G c
  have e := hfa.symm.trans T.g_law
  cases e
  have b := FunD.bindsA (ps := ["_law_script"]) T.F_law fun _ _ _ _ _ _ us hl => match us, hl with | [_], _ => rfl
  exact ⟨T.fd_law, fun s v => b s [v] rfl, fun base _ _ => ok_law T⟩
end K25
open PySem PySem.W PySem.Calls PyProof.Rows
set_option maxHeartbeats 0 in
theorem PySem.Challenge.cw_allgivenback_k25_shape_holds : PySem.Challenge.rw_allgivenback_k25_shape.Holds := by
  w_on; o_law
  refine HandSHeadRun.head_any (r := OpenLaw.row PySem.Challenge.rw_allgivenback_k25_shape) (q := view (OpenLaw.row PySem.Challenge.rw_allgivenback_k25_shape).prog [44]) (H := K25.hk) (ob := K25.ob) (M := 4000) (loose := K25.names) (d := HandSHeadRun.topDef (OpenLaw.row PySem.Challenge.rw_allgivenback_k25_shape).prog 44) (kwd := []) K25.ob_eq
    (by kernel_rfl) (fun s => by kernel_rfl) K25.run (by kernel_rfl) (by kernel_rfl) (by kernel_rfl) (by rfl) (by first | assumption | decide +kernel) (by decide +kernel) ⟨rfl, rfl, rfl, rfl, rfl, by decide +kernel⟩ ?hw ?hc
  case hw => w_witness2
  case hc =>
    refine L2.walk_ofE (l := PySem.Challenge.rw_allgivenback_k25_shape) (n := 63) (k := 13) (x := "_law_script") (CX := L2.CX0) rfl (by decide) (by kernel_rfl) ⟨rfl, by decide, by decide⟩ ?F (fun _ _ _ _ z => z)
    intro w mg fa h Y G hmg0
    obtain ⟨K, KX, c⟩ := Y
    have hmg : mg ("law" : PySem.Str) = some (.ref fa) := by
      have e : (HandSHeadRun.topDef (OpenLaw.row PySem.Challenge.rw_allgivenback_k25_shape).prog 44).name = ("law" : PySem.Str) := by kernel_rfl
      rw [← e]
      exact hmg0
    obtain ⟨fd, hb, hF⟩ := K25.facts (P := (PySem.Challenge.rw_allgivenback_k25_shape).prog) (w := w) KX G hmg c
    exact ⟨K, fd, K25.sp_law K, KX, hb, fun H a ns hl _ hS => ⟨a, ns, rfl, hS, Nat.le_trans hl (by decide), fun _ => rfl⟩, hF⟩

