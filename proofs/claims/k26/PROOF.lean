import PyProof.Rows.All
import Wide.All
import OpenK.AllK
import Wide.FinOn
import HandS.ForExc
import HandS.Defaults
import HandS.Dict
import HandS.Comp
import HandS.Wide
import HandS.WideBits
import HandS.IsInst
import HandS.More
import HandS.WordsDict
import HandS.Text
import HandS.HeadHook1
import HandS.HeadHook2
import KE.KExcIs
import HandS.ExcInit
import HandS.ExcField
import HandS.HotCalls
import KE.KStateDown
import Lean
import HandS.Head0
import HandS.Head1
import HandS.Head2
import HandS.HeadEnd
import HandS.Iter
import PySem.Challenge.RW_allgivenback_k26_classes
set_option Elab.async false
set_option linter.all false
set_option maxRecDepth 100000
set_option maxHeartbeats 4000000
namespace LL
open PySem PySem.Spec PyProof.Rows L2
section
variable {CX : CXT} {P : Program} {w : World} {K : PySem.W.Frag} {mg : Str → Option Value} {base : Heap} {N : List Str} {q : Str} {sc : Scope} {f : Addr} {cd : Value} {A : Around} {outer : List Env} {s : Shared} {H : Hp} {E : XK}
theorem cxK0 : (cxOf CX P w K mg base N q sc f cd A outer s H E).nox.K = K := rfl
theorem cxK1 : (cxOf CX P w K mg base N q sc f cd A outer s H E).K = K := rfl
end
theorem dec_eq {p : Prop} [Decidable p] : (decide p = true) = p := by simp
theorem bl_inj {a b : Bool} : (V.bl a = V.bl b) = (a = b) := by simp
theorem if_dec {p A B : Prop} [Decidable p] : (if decide p = true then A else B) = (if p then A else B) := by by_cases h : p <;> simp [h]
/-- what is told of a value that is written next to ∃ -/
theorem ex_eq {α : Sort _} {p : α → Prop} {a : α} : (∃ x, a = x ∧ p x) = p a := by simp
theorem ex_eq' {α : Sort _} {p : α → Prop} {a : α} : (∃ x, x = a ∧ p x) = p a := by simp

/-! ### heaps: all but s is kept -/
def Kp (s : Addr) (H H' : Hp) : Prop := ∀ b o, b ≠ s → H b = some o → H' b = some o
theorem Kp.refl {s : Addr} {H : Hp} : Kp s H H := fun _ _ _ h => h
theorem Kp.trans {s : Addr} {H H1 H2 : Hp} (a : Kp s H H1) (b : Kp s H1 H2) : Kp s H H2 := fun c o n h => b c o n (a c o n h)
theorem Kp.same {s : Addr} {H H' : Hp} (h : Same H H') : Kp s H H' := fun b o _ e => h b o e
theorem Kp.new {s : Addr} {H H1 : Hp} {p : Addr} {o : HO} (a : Kp s H H1) (n : H1 p = none) : Kp s H (upd H1 p o) := fun b u hb e => by
  have e1 := a b u hb e
  rw [upd_ne (ne_of_none e1 n)]
  exact e1
theorem Kp.at_ {s : Addr} {H H1 : Hp} {o : HO} (a : Kp s H H1) : Kp s H (upd H1 s o) := fun b u hb e => by
  rw [upd_ne hb]
  exact a b u hb e
/-- a thing that was not there at the start is changed -/
theorem Kp.own {s : Addr} {H H1 : Hp} {p : Addr} {o : HO} (a : Kp s H H1) (n : H p = none) : Kp s H (upd H1 p o) := fun b u hb e => by
  rw [upd_ne (ne_of_none e n)]
  exact a b u hb e
theorem Same.new {H H1 : Hp} {p : Addr} {o : HO} (a : Same H H1) (n : H1 p = none) : Same H (upd H1 p o) := fun b u e => by
  have e1 := a b u e
  rw [upd_ne (ne_of_none e1 n)]
  exact e1
theorem Same.own {H H1 : Hp} {p : Addr} {o : HO} (a : Same H H1) (n : H p = none) : Same H (upd H1 p o) := fun b u e => by
  rw [upd_ne (ne_of_none e n)]
  exact a b u e
theorem Kp.free {s : Addr} {H H' : Hp} (a : Kp s H H') {p : Addr} (hp : p ≠ s) (n : H' p = none) : H p = none := by
  cases e : H p with
  | none => rfl
  | some o =>
    rw [a p o hp e] at n
    cases n

/-! ### the draws -/
/-- the five numbers of the draws' state -/
def StAt (s : Addr) (H : Hp) : Prop := ∃ i v k t g : Int, 0 ≤ i ∧ H s = some (.lst [.int i, .int v, .int k, .int t, .int g])
structure Drw (d s : Addr) (H : Hp) : Prop where
  cs : ∃ c, H d = some (.lst [.ref c, .ref s]) ∧ c ≠ s ∧ ∃ ns : List Int, H c = some (.lst (ns.map V.int))
  st : StAt s H
  ds : d ≠ s
theorem Drw.kp {d s : Addr} {H H' : Hp} (D : Drw d s H) (k : Kp s H H') (st : StAt s H') : Drw d s H' := by
  obtain ⟨c, h1, h2, ns, h3⟩ := D.cs
  exact ⟨⟨c, k _ _ D.ds h1, h2, ns, k _ _ h2 h3⟩, st, D.ds⟩
/-- what a def that draws leaves: the draws are drawn on, all else is kept -/
structure Aft (d s : Addr) (H H' : Hp) : Prop where
  kp : Kp s H H'
  dr : Drw d s H'
theorem Aft.trans {d s : Addr} {H H1 H2 : Hp} (a : Aft d s H H1) (b : Aft d s H1 H2) : Aft d s H H2 := ⟨a.kp.trans b.kp, b.dr⟩
theorem Aft.refl {d s : Addr} {H : Hp} (D : Drw d s H) : Aft d s H H := ⟨.refl, D⟩
theorem Drw.same {d s : Addr} {H H' : Hp} (D : Drw d s H) (k : Same H H') : Drw d s H' := by
  obtain ⟨i, v, kk, t, g, h0, h1⟩ := D.st
  exact D.kp (.same k) ⟨i, v, kk, t, g, h0, k _ _ h1⟩
theorem Aft.new {d s : Addr} {H H1 : Hp} {p : Addr} {o : HO} (a : Aft d s H H1) (n : H1 p = none) : Aft d s H (upd H1 p o) :=
  ⟨a.kp.new n, a.dr.same (Same.new (Same.refl _) n)⟩

/-! ### small readings -/
theorem use_ixL {K : PySem.W.Frag} {p : Addr} {xs : List V} {i : Int} {v : V} {H : Hp} {Q : VK} (h : H p = some (.lst xs)) (e : atI xs i = some v) (q : Q v H) : rIxL K (.ref p) (.int i) H Q := ⟨p, xs, i, v, rfl, rfl, SqL.of h, e, q⟩
theorem use_ixT {K : PySem.W.Frag} {p : Addr} {xs : List V} {i : Int} {v : V} {H : Hp} {Q : VK} (h : H p = some (.tup xs)) (e : atI xs i = some v) (q : Q v H) : rIxT K (.ref p) (.int i) H Q := ⟨p, xs, i, v, rfl, rfl, SqT.of h, e, q⟩
theorem use_setL {p : Addr} {xs : List V} {k : Int} {j : Nat} {v : V} {H : Hp} {Q : Hp → Prop} (h : H p = some (.lst xs)) (e : ixN xs.length k = some j) (q : Q (upd H p (.lst (xs.set j v)))) : rSetL (.ref p) (.int k) v H Q := ⟨p, xs, k, j, rfl, rfl, h, e, q⟩
theorem Aft.st {d s : Addr} {H : Hp} (D : Drw d s H) {i v k t g : Int} (h0 : 0 ≤ i) : Aft d s H (upd H s (.lst [.int i, .int v, .int k, .int t, .int g])) :=
  have k1 : Kp s H (upd H s (.lst [.int i, .int v, .int k, .int t, .int g])) := Kp.refl.at_
  ⟨k1, D.kp k1 ⟨i, v, k, t, g, h0, upd_same⟩⟩
theorem Aft.st2 {d s : Addr} {H H1 : Hp} (a : Aft d s H H1) {i v k t g : Int} (h0 : 0 ≤ i) : Aft d s H (upd H1 s (.lst [.int i, .int v, .int k, .int t, .int g])) := a.trans (Aft.st a.dr h0)
theorem atI_cons0 {α : Type} {x : α} {xs : List α} : atI (x :: xs) 0 = some x := atI_nat (j := 0) rfl
theorem atI_int {xs : List Int} {i : Int} (h0 : 0 ≤ i) (h : i < (xs.map V.int).length) : ∃ n, atI (xs.map V.int) i = some (V.int n) := by
  obtain ⟨j, rfl⟩ := Int.eq_ofNat_of_zero_le h0
  have hj : j < (xs.map V.int).length := by omega
  have hj2 : j < xs.length := by rw [List.length_map] at hj; exact hj
  refine ⟨xs[j], atI_nat ?_⟩
  rw [List.getElem?_map, List.getElem?_eq_getElem hj2]
  rfl
/-! ### calls of built-ins, by ints and lists alone -/
section
variable {X : Cx}
def rInt1 : List V → Hp → VK → Prop := fun xs H Q => ∃ i, xs = [.int i] ∧ Q (.int i) H
theorem call_intI : CallR X (.type "int") rInt1 := fun pins s σ H xs us Q I r h => call_int1 pins s σ H xs us Q I r (.inl h)
def rLenL : List V → Hp → VK → Prop := fun vs H Q => ∃ p xs, vs = [.ref p] ∧ H p = some (.lst xs) ∧ Q (.int xs.length) H
theorem call_lenL : CallR X (.builtin "len") rLenL := fun pins s σ H vs us Q I r h => by
  obtain ⟨p, xs, rfl, e, q⟩ := h
  exact call_len_seq pins s σ H _ us Q I r ⟨p, xs, rfl, .inl (SqL.of e), q⟩
def rLenT : List V → Hp → VK → Prop := fun vs H Q => ∃ p xs, vs = [.ref p] ∧ H p = some (.tup xs) ∧ Q (.int xs.length) H
theorem call_lenT : CallR X (.builtin "len") rLenT := fun pins s σ H vs us Q I r h => by
  obtain ⟨p, xs, rfl, e, q⟩ := h
  exact call_len_seq pins s σ H _ us Q I r ⟨p, xs, rfl, .inr (SqT.of e), q⟩
end
theorem use_lenL {p : Addr} {xs : List V} {H : Hp} {Q : VK} (h : H p = some (.lst xs)) (q : Q (.int xs.length) H) : rLenL [.ref p] H Q := ⟨p, xs, rfl, h, q⟩
theorem use_lenT {p : Addr} {xs : List V} {H : Hp} {Q : VK} (h : H p = some (.tup xs)) (q : Q (.int xs.length) H) : rLenT [.ref p] H Q := ⟨p, xs, rfl, h, q⟩
/-! ### loops -/
theorem use_forL {K : PySem.W.Frag} {te : TE} {a : Addr} {xs : List V} {g : TG} {tb : TS} {D : Ends} {σ : L2.St} {H : Hp} (ht : ∀ Q : VK, Q (.ref a) H → te σ H Q) (Pv : Nat → L2.St → Hp → Prop) (h0 : Pv 0 σ H) (hl : ∀ i σ H, i ≤ xs.length → Pv i σ H → SqL K H a xs)
    (hs : ∀ i x σ H, xs[i]? = some x → Pv i σ H → g x σ H fun σ2 H2 => tb { D with nx := Pv (i + 1), ct := Pv (i + 1), bk := D.nx } σ2 H2) (hd : ∀ σ H, Pv xs.length σ H → D.nx σ H) : tFor (iList K te) g tb D σ H :=
  ht _ ⟨a, rfl, ⟨xs, hl 0 σ H (Nat.zero_le _) h0⟩, for_list Pv h0 hl hs hd⟩
theorem use_forR {te : TE} {j : Int} {g : TG} {tb : TS} {D : Ends} {σ : L2.St} {H : Hp} (ht : ∀ Q : VK, Q (.int j) H → te σ H Q) (h1 : j < 2 ^ 62) (h2 : -(2 ^ 62) ≤ j) (Pv : Nat → L2.St → Hp → Prop) (h0 : Pv 0 σ H)
    (hs : ∀ i σ H, i < j.toNat → Pv i σ H → g (.int (0 + (i : Int))) σ H fun σ2 H2 => tb { D with nx := Pv (i + 1), ct := Pv (i + 1), bk := D.nx } σ2 H2) (hd : ∀ σ H, Pv j.toNat σ H → D.nx σ H) : tFor (iRng1 (tCons te tNil)) g tb D σ H :=
  ht _ ⟨j, rfl, h2, h1, for_range Pv h0 hs hd⟩
theorem use_while {c : TT} {tb : TS} {D : Ends} {σ : L2.St} {H : Hp} (Pv : Nat → L2.St → Hp → Prop) (m0 : Nat) (h0 : Pv m0 σ H)
    (hs : ∀ m σ H, Pv m σ H → c σ H fun b H1 => if b = true then ∃ N : L2.St → Hp → Prop, (∀ σ' H', N σ' H' → ∃ m', m' < m ∧ Pv m' σ' H') ∧ tb { D with nx := N, ct := N, bk := D.nx } σ H1 else D.nx σ H1) : tWhile c tb D σ H := ⟨Pv, ⟨m0, h0⟩, hs⟩
theorem use_forRX {te : TE} {g : TG} {tb : TS} {D : Ends} {σ : L2.St} {H : Hp} {R : Int → Hp → Prop} (ht : ∀ Q : VK, (∀ j H', R j H' → Q (.int j) H') → te σ H Q) (hb : ∀ j H', R j H' → -(2 ^ 62) ≤ j ∧ j < 2 ^ 62) (Pv : Int → Nat → L2.St → Hp → Prop) (h0 : ∀ j H', R j H' → Pv j 0 σ H')
    (hs : ∀ j i σ H, i < j.toNat → Pv j i σ H → g (.int (0 + (i : Int))) σ H fun σ2 H2 => tb { D with nx := Pv j (i + 1), ct := Pv j (i + 1), bk := D.nx } σ2 H2) (hd : ∀ j σ H, Pv j j.toNat σ H → D.nx σ H) : tFor (iRng1 (tCons te tNil)) g tb D σ H :=
  ht _ fun j H' r => ⟨j, rfl, (hb j H' r).1, (hb j H' r).2, for_range (Pv j) (h0 j H' r) (hs j) (hd j)⟩
theorem use_forLX {K : PySem.W.Frag} {te : TE} {g : TG} {tb : TS} {D : Ends} {σ : L2.St} {H : Hp} {R : Addr → List V → Hp → Prop} (ht : ∀ Q : VK, (∀ a xs H', R a xs H' → Q (.ref a) H') → te σ H Q) (Pv : Addr → List V → Nat → L2.St → Hp → Prop) (h0 : ∀ a xs H', R a xs H' → Pv a xs 0 σ H')
    (hl : ∀ a xs i σ H, i ≤ xs.length → Pv a xs i σ H → SqL K H a xs)
    (hs : ∀ a xs i x σ H, xs[i]? = some x → Pv a xs i σ H → g x σ H fun σ2 H2 => tb { D with nx := Pv a xs (i + 1), ct := Pv a xs (i + 1), bk := D.nx } σ2 H2) (hd : ∀ a xs σ H, Pv a xs xs.length σ H → D.nx σ H) : tFor (iList K te) g tb D σ H :=
  ht _ fun a xs H' r => ⟨a, rfl, ⟨xs, hl a xs 0 σ H' (Nat.zero_le _) (h0 a xs H' r)⟩, for_list (Pv a xs) (h0 a xs H' r) (hl a xs) (hs a xs) (hd a xs)⟩
/-! ### plain data -/
inductive T where
  | non | bl (b : Bool) | int (i : Int) | str (x : Str) | lst (ts : List T) | tup (ts : List T) | dic (t : T)
/-! v is the data t, every object of which is at an address of F -/
mutual
def Dt (F : Addr → Prop) (H : Hp) : V → T → Prop
  | v, .non => v = .non
  | v, .bl b => v = .bl b
  | v, .int i => v = .int i
  | v, .str x => v = .str x
  | v, .lst ts => ∃ a xs, v = .ref a ∧ F a ∧ H a = some (.lst xs) ∧ DtL F H xs ts ∧ ts.length ≤ 100000
  | v, .tup ts => ∃ a xs, v = .ref a ∧ F a ∧ H a = some (.tup xs) ∧ DtL F H xs ts ∧ ts.length ≤ 100000
  | v, .dic t => ∃ a x, v = .ref a ∧ F a ∧ H a = some (.dK [(Sum.inr "a", x)]) ∧ Dt F H x t
def DtL (F : Addr → Prop) (H : Hp) : List V → List T → Prop
  | xs, [] => xs = []
  | xs, t :: ts => ∃ v vs, xs = v :: vs ∧ Dt F H v t ∧ DtL F H vs ts
end
mutual
def dep : T → Nat
  | .lst ts => depL ts + 1
  | .tup ts => depL ts + 1
  | .dic t => dep t + 1
  | _ => 0
def depL : List T → Nat
  | [] => 0
  | t :: ts => max (dep t) (depL ts)
end
section
variable {F G : Addr → Prop} {H H' : Hp}
mutual
theorem Dt.imp (hF : ∀ a o, F a → H a = some o → G a ∧ H' a = some o) : ∀ {v : V} (t : T), Dt F H v t → Dt G H' v t
  | _, .non, h => h
  | _, .bl _, h => h
  | _, .int _, h => h
  | _, .str _, h => h
  | _, .lst ts, h => by
    obtain ⟨a, xs, e, f, ha, hx, hz⟩ := h
    exact ⟨a, xs, e, (hF a _ f ha).1, (hF a _ f ha).2, DtL.imp hF ts hx, hz⟩
  | _, .tup ts, h => by
    obtain ⟨a, xs, e, f, ha, hx, hz⟩ := h
    exact ⟨a, xs, e, (hF a _ f ha).1, (hF a _ f ha).2, DtL.imp hF ts hx, hz⟩
  | _, .dic t, h => by
    obtain ⟨a, x, e, f, ha, hx⟩ := h
    exact ⟨a, x, e, (hF a _ f ha).1, (hF a _ f ha).2, Dt.imp hF t hx⟩
theorem DtL.imp (hF : ∀ a o, F a → H a = some o → G a ∧ H' a = some o) : ∀ {xs : List V} (ts : List T), DtL F H xs ts → DtL G H' xs ts
  | _, [], h => h
  | _, t :: ts, h => by
    obtain ⟨v, vs, e, h1, h2⟩ := h
    exact ⟨v, vs, e, Dt.imp hF t h1, DtL.imp hF ts h2⟩
end
theorem Dt.same {v : V} {t : T} (h : Dt F H v t) (k : Same H H') : Dt F H' v t := Dt.imp (fun a o f e => ⟨f, k a o e⟩) t h
theorem DtL.same {v : List V} {t : List T} (h : DtL F H v t) (k : Same H H') : DtL F H' v t := DtL.imp (fun a o f e => ⟨f, k a o e⟩) t h
theorem Dt.kp {s : Addr} {v : V} {t : T} (h : Dt F H v t) (hs : ∀ a, F a → a ≠ s) (k : Kp s H H') : Dt F H' v t := Dt.imp (fun a o f e => ⟨f, k a o (hs a f) e⟩) t h
theorem DtL.kp {s : Addr} {v : List V} {t : List T} (h : DtL F H v t) (hs : ∀ a, F a → a ≠ s) (k : Kp s H H') : DtL F H' v t := DtL.imp (fun a o f e => ⟨f, k a o (hs a f) e⟩) t h
theorem Dt.to {v : V} {t : T} (h : Dt F H v t) (hs : ∀ a, F a → G a) : Dt G H v t := Dt.imp (fun a o f e => ⟨hs a f, e⟩) t h
theorem DtL.to {v : List V} {t : List T} (h : DtL F H v t) (hs : ∀ a, F a → G a) : DtL G H v t := DtL.imp (fun a o f e => ⟨hs a f, e⟩) t h
theorem DtL.len : ∀ {xs : List V} (ts : List T), DtL F H xs ts → xs.length = ts.length
  | _, [], h => by rw [show _ = [] from h]; rfl
  | _, t :: ts, h => by
    obtain ⟨v, vs, rfl, h1, h2⟩ := h
    rw [List.length_cons, List.length_cons, DtL.len ts h2]
theorem DtL.get : ∀ {xs : List V} (ts : List T) {i : Nat} {x : V}, DtL F H xs ts → xs[i]? = some x → ∃ t, ts[i]? = some t ∧ Dt F H x t
  | _, [], _, _, h, e => by rw [show _ = [] from h] at e; cases e
  | _, t :: ts, 0, x, h, e => by
    obtain ⟨v, vs, rfl, h1, h2⟩ := h
    cases e
    exact ⟨t, rfl, h1⟩
  | _, t :: ts, i + 1, x, h, e => by
    obtain ⟨v, vs, rfl, h1, h2⟩ := h
    exact DtL.get ts (i := i) h2 e
theorem DtL.get' {xs : List V} {ts : List T} {i : Nat} {t : T} (h : DtL F H xs ts) (e : ts[i]? = some t) : ∃ x, xs[i]? = some x ∧ Dt F H x t := by
  have hi := (List.getElem?_eq_some_iff.mp e).1
  have hx : i < xs.length := by rw [DtL.len ts h]; exact hi
  obtain ⟨t', e', d⟩ := DtL.get ts h (List.getElem?_eq_getElem hx)
  rw [e] at e'
  cases e'
  exact ⟨_, List.getElem?_eq_getElem hx, d⟩
theorem DtL.app : ∀ {xs ys : List V} (ts : List T) {us : List T}, DtL F H xs ts → DtL F H ys us → DtL F H (xs ++ ys) (ts ++ us)
  | _, _, [], _, h, k => by rw [show _ = [] from h]; exact k
  | _, _, t :: ts, _, h, k => by
    obtain ⟨v, vs, rfl, h1, h2⟩ := h
    exact ⟨v, vs ++ _, rfl, h1, DtL.app ts h2 k⟩
theorem DtL.one {v : V} {t : T} (h : Dt F H v t) : DtL F H [v] [t] := ⟨v, [], rfl, h, rfl⟩
theorem DtL.cons {v : V} {t : T} {vs : List V} {ts : List T} (h : Dt F H v t) (k : DtL F H vs ts) : DtL F H (v :: vs) (t :: ts) := ⟨v, vs, rfl, h, k⟩
theorem depL_mem : ∀ {ts : List T} {i : Nat} {t : T}, ts[i]? = some t → dep t ≤ depL ts
  | [], _, _, e => by cases e
  | u :: ts, 0, t, e => by
    cases e
    exact Nat.le_max_left _ _
  | u :: ts, i + 1, t, e => Nat.le_trans (depL_mem (ts := ts) (i := i) e) (Nat.le_max_right _ _)
end
/-! ### what kind of data it is -/
def tyN : T → String
  | .non => "NoneType"
  | .bl _ => "bool"
  | .int _ => "int"
  | .str _ => "str"
  | .lst _ => "list"
  | .tup _ => "tuple"
  | .dic _ => "dict"
theorem tyx {K : PySem.W.Frag} {F : Addr → Prop} {H : Hp} {v : V} {t : T} (h : Dt F H v t) : TyX K H v (.type (tyN t)) := by
  cases t with
  | non => rw [show v = _ from h]; exact .base .non
  | bl b => rw [show v = _ from h]; exact .base (.bl b)
  | int i => rw [show v = _ from h]; exact .base (.int i)
  | str x => rw [show v = _ from h]; exact .base (.str x)
  | lst ts =>
    obtain ⟨a, xs, rfl, _, e, _⟩ := h
    exact .base (.lst e)
  | tup ts =>
    obtain ⟨a, xs, rfl, _, e, _⟩ := h
    exact .base (.tup e)
  | dic t =>
    obtain ⟨a, x, rfl, _, e, _⟩ := h
    exact .base (.dK e)
theorem use_isi {K : PySem.W.Frag} {F : Addr → Prop} {H : Hp} {v : V} {t : T} {n : String} {b : Bool} {Q : VK} (h : Dt F H v t) (k : kitB (tyN t) n = some b) (q : Q (.bl b) H) : rIsi K [v, .ty n] H Q :=
  ⟨v, .ty n, _, _, b, rfl, .ty n, tyx h, kit_ty k, q⟩
def isInt : T → Bool
  | .int _ => true
  | _ => false
def isBl : T → Bool
  | .bl _ => true
  | _ => false
def isStr : T → Bool
  | .str _ => true
  | _ => false
def isLst : T → Bool
  | .lst _ => true
  | _ => false
def isTup : T → Bool
  | .tup _ => true
  | _ => false
def isDic : T → Bool
  | .dic _ => true
  | _ => false
theorem kit_int (t : T) : kitB (tyN t) "int" = some (isInt t || isBl t) := by
  cases t <;> simp only [tyN, isInt, isBl, isStr, isLst, isTup, isDic] <;> decide +kernel
theorem kit_bool (t : T) : kitB (tyN t) "bool" = some (isBl t) := by
  cases t <;> simp only [tyN, isInt, isBl, isStr, isLst, isTup, isDic] <;> decide +kernel
theorem kit_str (t : T) : kitB (tyN t) "str" = some (isStr t) := by
  cases t <;> simp only [tyN, isInt, isBl, isStr, isLst, isTup, isDic] <;> decide +kernel
theorem kit_list (t : T) : kitB (tyN t) "list" = some (isLst t) := by
  cases t <;> simp only [tyN, isInt, isBl, isStr, isLst, isTup, isDic] <;> decide +kernel
theorem kit_tuple (t : T) : kitB (tyN t) "tuple" = some (isTup t) := by
  cases t <;> simp only [tyN, isInt, isBl, isStr, isLst, isTup, isDic] <;> decide +kernel
theorem kit_dict (t : T) : kitB (tyN t) "dict" = some (isDic t) := by
  cases t <;> simp only [tyN, isInt, isBl, isStr, isLst, isTup, isDic] <;> decide +kernel
section
variable {X : Cx}
/-- len of a list, a tuple, a dict -/
def rLenD : List V → Hp → VK → Prop := fun vs H Q => ∃ p kvs, vs = [.ref p] ∧ H p = some (.dK kvs) ∧ Q (.int kvs.length) H
def rLenA : List V → Hp → VK → Prop := fun vs H Q => rLenL vs H Q ∨ rLenT vs H Q ∨ rLenD vs H Q
theorem call_lenA : CallR X (.builtin "len") rLenA := fun pins s σ H vs us Q I r h => by
  rcases h with h | h | h
  · exact call_lenL pins s σ H vs us Q I r h
  · exact call_lenT pins s σ H vs us Q I r h
  · obtain ⟨p, kvs, rfl, e, q⟩ := h
    exact call_lenD pins s σ H _ us Q I r ⟨p, kvs, rfl, e, q⟩
/-- list(d), a dict -/
def rLstD : List V → Hp → VK → Prop := fun vs H Q => ∃ p kvs, vs = [.ref p] ∧ H p = some (.dK kvs) ∧ ∀ l, H l = none → Q (.ref l) (upd H l (.lst (kvs.map fun kv => kV kv.1)))
theorem call_lstD (hc : X.calm = true) : CallR X (.type "list") rLstD := fun pins s σ H vs us Q I r h => by
  obtain ⟨p, kvs, rfl, e, q⟩ := h
  exact call_listD hc pins s σ H _ us Q I r ⟨p, kvs, rfl, .inl e, q⟩
/-- tuple(list) -/
def rTupL : List V → Hp → VK → Prop := fun vs H Q => ∃ p ys, vs = [.ref p] ∧ H p = some (.lst ys) ∧ ∀ l, H l = none → Q (.ref l) (upd H l (.tup ys))
theorem call_tupL : CallR X (.type "tuple") rTupL := fun pins s σ H vs us Q I r h => by
  obtain ⟨p, ys, rfl, e, q⟩ := h
  exact call_tuple_of pins s σ H _ us Q I r ⟨p, ys, rfl, .inl ⟨SqL.of e, q⟩⟩
/-- xs[i], a list or a tuple -/
def rIxA (K : PySem.W.Frag) : R2 := fun x y H Q => rIxL K x y H Q ∨ rIxT K x y H Q
theorem ix_A : IxR X (rIxA X.K) := ix_list.or ix_tup
end
theorem use_pick {K : PySem.W.Frag} {p : Addr} {xs : List V} {i : Int} {H : Hp} {Q : VK} (h : H p = some (.lst xs)) (h0 : 0 ≤ i) (h1 : i < xs.length) (q : ∀ x ∈ xs, Q x H) : rIxL K (.ref p) (.int i) H Q := by
  obtain ⟨j, rfl⟩ := Int.eq_ofNat_of_zero_le h0
  have hj : j < xs.length := by omega
  exact use_ixL h (atI_nat (List.getElem?_eq_getElem hj)) (q _ (List.getElem_mem hj))
section
variable {X : Cx}
def rMx : List V → Hp → VK → Prop := fun vs H Q => ∃ i j, vs = [.int i, .int j] ∧ Q (.int (max i j)) H
def rMn : List V → Hp → VK → Prop := fun vs H Q => ∃ i j, vs = [.int i, .int j] ∧ Q (.int (min i j)) H
theorem call_mx (hc : X.calm = true) : CallR X (.builtin "max") rMx := fun pins s σ H vs us Q I r h => by
  obtain ⟨i, j, rfl, q⟩ := h
  refine call_max2 hc pins s σ H _ us Q I r ⟨i, j, rfl, ?_⟩
  have e : (if j > i then j else i) = max i j := by omega
  rw [e]
  exact q
theorem call_mn (hc : X.calm = true) : CallR X (.builtin "min") rMn := fun pins s σ H vs us Q I r h => by
  obtain ⟨i, j, rfl, q⟩ := h
  refine call_min2 hc pins s σ H _ us Q I r ⟨i, j, rfl, ?_⟩
  have e : (if j < i then j else i) = min i j := by omega
  rw [e]
  exact q
end
theorem freshS {s : Addr} {H : Hp} {o : HO} (h : H s = some o) : ∀ a, H a = none → a ≠ s := fun a e z => by
  rw [z, h] at e
  cases e
theorem StAt.ne {s : Addr} {H : Hp} (h : StAt s H) : ∀ a, H a = none → a ≠ s := by
  obtain ⟨_, _, _, _, _, _, e⟩ := h
  exact freshS e
theorem Drw.ne {d s : Addr} {H : Hp} (h : Drw d s H) : ∀ a, H a = none → a ≠ s := h.st.ne
theorem Aft.free {d s : Addr} {H H' : Hp} (a : Aft d s H H') {b : Addr} (n : H' b = none) : H b = none := a.kp.free (a.dr.ne b n) n
theorem use_forT {K : PySem.W.Frag} {te : TE} {a : Addr} {xs : List V} {g : TG} {tb : TS} {D : Ends} {σ : L2.St} {H : Hp} (ht : ∀ Q : VK, Q (.ref a) H → te σ H Q) (Pv : Nat → L2.St → Hp → Prop) (h0 : Pv 0 σ H) (hl : ∀ i σ H, i ≤ xs.length → Pv i σ H → SqT K H a xs)
    (hs : ∀ i x σ H, xs[i]? = some x → Pv i σ H → g x σ H fun σ2 H2 => tb { D with nx := Pv (i + 1), ct := Pv (i + 1), bk := D.nx } σ2 H2) (hd : ∀ σ H, Pv xs.length σ H → D.nx σ H) : tFor (iTup K te) g tb D σ H :=
  ht _ ⟨a, rfl, ⟨xs, hl 0 σ H (Nat.zero_le _) h0⟩, for_tup Pv h0 hl hs hd⟩
theorem scal_int {a b : Int} : (scal (V.int a) (V.int b) = true) = True := by simp [scal]
theorem scal_bl {a b : Bool} : (scal (V.bl a) (V.bl b) = true) = True := by simp [scal]
theorem scal_str {a b : Str} : (scal (V.str a) (V.str b) = true) = True := by simp [scal]
theorem scal_is {a : Int} {b : Str} : (scal (V.str b) (V.int a) = true) = True := by simp [scal]
theorem ty_list {K : PySem.W.Frag} {p : Addr} {xs : List V} {H : Hp} (h : H p = some (.lst xs)) : tyV K "list" (.ref p) H := Or.inl ⟨rfl, _, Or.inl (Or.inl h)⟩
theorem use_append {l : Addr} {xs : List V} {y : V} {H : Hp} {Q : VK} (h : H l = some (.lst xs)) (n : xs.length < sizeLine) (q : Q .non (upd H l (.lst (xs ++ [y])))) : rAppend (.ref l) [y] H Q := ⟨l, xs, y, rfl, rfl, h, n, q⟩
theorem small_sz {n : Nat} (h : n ≤ 200000) : n < sizeLine := Nat.lt_of_le_of_lt h (by decide)
/-- a list at D that is being made gets one more datum -/
theorem grow {G : Addr → Prop} {H H' H4 : Hp} {D : Addr} {acc : List V} {us : List T} {r : V} {t : T} (hD : H D = none) (s1 : Same H H') (s4 : Same H' H4) (hacc : DtL (fun a => H a = none ∧ a ≠ D) H' acc us) (hG : ∀ a, G a → H a = none ∧ a ≠ D) (dr : Dt G H4 r t) :
    Same H (upd H4 D (.lst (acc ++ [r]))) ∧ DtL (fun a => H a = none ∧ a ≠ D) (upd H4 D (.lst (acc ++ [r]))) (acc ++ [r]) (us ++ [t]) := by
  refine ⟨Same.own (s1.trans s4) hD, DtL.app _ (DtL.imp (fun a o fa ea => ⟨fa, ?_⟩) _ hacc) (.one (Dt.imp (fun a o fa ea => ⟨hG a fa, ?_⟩) _ dr))⟩
  · rw [upd_ne fa.2]
    exact s4 _ _ ea
  · rw [upd_ne (hG a fa).2]
    exact ea
theorem new_of {H H' : Hp} {D : Addr} {o : HO} (s1 : Same H H') (eD : H' D = some o) : ∀ a, H' a = none → H a = none ∧ a ≠ D := fun a n => ⟨s1.free n, fun z => by rw [z, eD] at n; cases n⟩
theorem take_one {α : Type} {l : List α} {i : Nat} {x : α} (h : l[i]? = some x) : l.take (i + 1) = l.take i ++ [x] := by
  rw [List.take_add_one, h]
  rfl
theorem use_lcR {te tel : TE} {g : TG} {vs : List Nat} {σ : L2.St} {H : Hp} {Q : VK} {R : Int → Hp → Prop} (ht : ∀ Q : VK, (∀ j H', R j H' → Q (.int j) H') → te σ H Q) (hb : ∀ j H', R j H' → -(2 ^ 62) ≤ j ∧ j < 2 ^ 62) (Pv : Int → Addr → Nat → Hp → Prop)
    (h0 : ∀ j H' D, R j H' → H' D = none → Pv j D 0 (upd H' D (.lst [])))
    (hs : ∀ j D i H', i < j.toNat → Pv j D i H' → g (.int (0 + (i : Int))) (wipe σ vs) H' fun σ2 H2 => wipe σ2 vs = wipe σ vs ∧ tYes σ2 H2 fun b H3 => if b = true then tel σ2 H3 fun y H4 => ∃ acc, H4 D = some (.lst acc) ∧ acc.length < sizeLine ∧ Pv j D (i + 1) (upd H4 D (.lst (acc ++ [y]))) else Pv j D (i + 1) H3)
    (hd : ∀ j D H', Pv j D j.toNat H' → Q (.ref D) H') : tLc (iRng1 (tCons te tNil)) g tYes tel vs σ H Q :=
  ht _ fun j H' r => ⟨j, rfl, (hb j H' r).1, (hb j H' r).2, fun D hD => lc_range (Pv j D) (h0 j H' D r hD) (hs j D) (hd j D)⟩
theorem Aft.own {d s : Addr} {H H4 : Hp} {D : Addr} {o : HO} (D0 : Drw d s H) (a : Aft d s H H4) (hD : H D = none) : Aft d s H (upd H4 D o) := by
  have k : Kp s H (upd H4 D o) := a.kp.own hD
  obtain ⟨i, v, kk, t, g, h0, e⟩ := a.dr.st
  exact ⟨k, D0.kp k ⟨i, v, kk, t, g, h0, by rw [upd_ne (D0.ne D hD).symm]; exact e⟩⟩
/-- a list at D that is being made while something is drawn gets one more datum -/
theorem growA {G : Addr → Prop} {d s : Addr} {H H' H4 : Hp} {D : Addr} {acc : List V} {us : List T} {r : V} {t : T} (D0 : Drw d s H) (hD : H D = none) (a1 : Aft d s H H') (a4 : Aft d s H' H4) (hacc : DtL (fun a => H a = none ∧ a ≠ D) H' acc us) (hG : ∀ a, G a → H a = none ∧ a ≠ D) (dr : Dt G H4 r t) :
    Aft d s H (upd H4 D (.lst (acc ++ [r]))) ∧ DtL (fun a => H a = none ∧ a ≠ D) (upd H4 D (.lst (acc ++ [r]))) (acc ++ [r]) (us ++ [t]) := by
  refine ⟨Aft.own D0 (a1.trans a4) hD, DtL.app _ (DtL.imp (fun a o fa ea => ⟨fa, ?_⟩) _ hacc) (.one (Dt.imp (fun a o fa ea => ⟨hG a fa, ?_⟩) _ dr))⟩
  · rw [upd_ne fa.2]
    exact a4.kp _ _ (D0.ne a fa.1) ea
  · rw [upd_ne (hG a fa).2]
    exact ea
theorem new_ofA {d s : Addr} {H H' : Hp} {D : Addr} {o : HO} (a : Aft d s H H') (eD : H' D = some o) : ∀ b, H' b = none → H b = none ∧ b ≠ D := fun b n => ⟨a.free n, fun z => by rw [z, eD] at n; cases n⟩
theorem depL_app : ∀ (ts us : List T), depL (ts ++ us) = max (depL ts) (depL us)
  | [], us => by simp [depL]
  | t :: ts, us => by
    show max (dep t) (depL (ts ++ us)) = max (max (dep t) (depL ts)) (depL us)
    rw [depL_app ts us]
    omega
end LL

namespace LL
open PySem PySem.Spec PyProof.Rows L2 L2H
/-! ### defs that are called within an except suite, on the exception that it holds -/
/-- a: the exception, D its class, dd its dict -/
structure FnZ (P : Program) (w : World) (K : PySem.W.Frag) (mg : Str → Option Value) (base : Heap) (k : Nat) (f : Addr) (fd : FuncData) (ps : List Str) (sp : Addr → Addr → Addr → Sp) : Prop where
  len : ∀ a D dd vs H Q E, sp a D dd vs H Q E → vs.length = ps.length
  run : ∀ (A : Around) (outer : List Env) (s : Shared) (H : Hp) (args : Args) (us : List Value) (vs : List V) (Q : VK) (E : XK) (p : Addr × Obj) (D dd : Addr),
    RoomH k A → Zc (.ref D) (some dd) p.2 → (∃ fs, p.2.data = .fields fs) → PinOk outer H s p → Env0 P w K mg base A outer s H → BindsTo s fd args (ps.zip us) → Vals vs us → sp p.1 D dd vs H Q E →
    codeAny (model P w) A (.call (.ref f) args) (CR CX0 outer P w H s Q E) s
section
variable {P : Program} {w : World} {K : PySem.W.Frag} {mg : Str → Option Value} {base : Heap} {k : Nat} {f : Addr} {fd : FuncData} {N ps : List Str} {sp : Addr → Addr → Addr → Sp} {x qual : Str} {pa : Arguments} {bd : List Stmt} {sc : Scope} {kws : List (Str × V)}
theorem okZ (F : FunD K x qual pa bd sc [] kws f fd) (S : FnScope N ps sc) (len : ∀ a D dd vs H Q E, sp a D dd vs H Q E → vs.length = ps.length)
    (hb : ∀ (cdv : Value) (A : Around) (outer : List Env) (s : Shared) (H : Hp) (vs : List V) (Q : VK) (E : XK) (p : Addr × Obj) (D dd : Addr), RoomH k (A.deeper (envOfC qual sc s.heap.objs.size f cdv)) →
      Zc (.ref D) (some dd) p.2 → (∃ fs, p.2.data = .fields fs) → sp p.1 D dd vs H Q E →
      ∃ t, PSs (cxH CX0 P w K mg base N qual sc f cdv A outer s H E p) bd t ∧ t { nx := fun _ H' => Q .non H', rt := Q } (L2.start N vs) H) : FnZ P w K mg base (k + 1) f fd ps sp := by
  obtain ⟨oc, od, dV, kV, doc, pm, an, cdv, ct, osl, rfl, lk, hcd, _, _⟩ := F.ex
  constructor
  · exact len
  · intro A outer s H args us vs Q E p D dd hr hz hf hpin e0 hbi r hsp
    have KX : K.In s.heap := e0.mod.kin.keeps (fun b o e => (e0.bs b o e).1)
    have lim : s.heap.NoLimit := e0.mod.nolimit.keeps (fun b o e => (e0.bs b o e).1)
    have hl : vs.length = ps.length := len _ _ _ _ _ _ _ hsp
    refine codeAny_call_function hr.depth (KX _ _ lk) rfl S.co S.gen rfl (PySem.W.codeRec_of KX hcd) (hbi _ _ _ _ (wpAny_newFunctionEnv_cells S.kind ?_ ?_))
    · rintro ⟨n, v⟩ hy
      cases S.par n (List.of_mem_zip hy).1 with
      | inl q => exact Or.inl q
      | inr q => exact Or.inr ⟨q, PySem.W.cellsFrom_some _ _ _ (Or.inl q)⟩
    · rintro env he s1 xx
      subst he
      obtain ⟨t, ht, hq⟩ := hb cdv A outer s H vs Q E p D dd (hr.deeper _) hz hf hsp
      have I := inv_startH (CX := CX0) (E := E) S hpin e0 hl r xx
      refine ⟨lim.keeps xx.toInCall.keep, codeAny_func (wpAny_mono (ht.run [] s1 _ H _ I hq) ?_ (fun e s' hs => hs))⟩
      intro fl s' hs
      cases fl with
      | ret u =>
        obtain ⟨v, σ', H', J, rv, q⟩ := hs
        exact ⟨v, H', J.os, J.bare, J.base, J.hok, rv, q⟩
      | next =>
        obtain ⟨σ', H', J, q⟩ := hs
        exact ⟨.non, H', J.os, J.bare, J.base, J.hok, rfl, q⟩
      | brk =>
        obtain ⟨_, _, _, q⟩ := hs
        exact q.elim
      | cont =>
        obtain ⟨_, _, _, q⟩ := hs
        exact q.elim
end
/-- f(e, ..) within the suite that holds the exception a -/
def tCallZ (cls : Value) (d : Option Addr) (a : Addr) (sp : Addr → Addr → Addr → Sp) (t : TA) : TE := fun σ H Q => t σ H fun vs H1 => ∃ D dd : Addr, cls = .ref D ∧ d = some dd ∧ sp a D dd vs H1 Q E0
theorem pe_callZ {X : Cx} {k : Nat} {f a : Addr} {fd : FuncData} {ps : List Str} {sp : Addr → Addr → Addr → Sp} {x : Str} {q pos : Pos} {e : Expr} {es : List Expr} {t : TA} {oe : Obj} {cls : Value} {d : Option Addr} {pn : List (Addr × Obj)}
    (F : FnZ X.prog X.w X.K X.mg X.base k f fd ps sp) (hr : Room k X.A) (hz : Zc cls d oe) (hf : ∃ fs, oe.data = .fields fs) (hg : Gl X x) (hm : X.mg x = some (.ref f)) (hk : PySem.W.keepIn X.K (.ref f) = true) (hb : Binds X.K fd ps [])
    (ha : PA (X.suite a ((a, oe) :: pn)) (e :: es) t) (hdb : (x == ("__debug__" : Str)) = false := by decide) (he : starEach (e :: es) X.env = (false, eval e X.env) :: starEach es X.env := by rfl) (hpl : (backTo pos (starEach es X.env)).any (·.1) = false := by rfl) :
    PE (X.suite a ((a, oe) :: pn)) (.Call (.Name x q) (e :: es) [] pos) (tCallZ cls d a sp t) := by
  refine ⟨fun pins s σ H Q I h => ?_⟩
  refine wpAny_Call_Name_kw (ld_glob (X := X.suite a ((a, oe) :: pn)) I hg hm ?_ hdb)
  refine PySem.W.callWith_K (h₀ := X.base) I.ok.mod.kin hk (thn (ha.run pos pins s σ H _ I h) ?_) he hpl
  rintro us s1 ⟨vs, H1, I1, r, D, dd, e1, e2, q1⟩
  subst e1 e2
  refine ⟨I1.kIn, ?_⟩
  have hl : us.length = ps.length := r.length.symm.trans (F.len _ _ _ _ _ _ _ q1)
  have b := hb s1 us I1.kIn (by rw [List.append_nil]; exact hl)
  rw [List.append_nil] at b
  obtain ⟨g1, g2, g3, g4, g5⟩ := I1.pin (a, oe) (List.mem_append.mpr (.inl List.mem_cons_self))
  have hpin : PinOk X.stack H1 s1 (a, oe) := ⟨g1, g2, fun hm => (List.mem_cons.mp (I1.stkSub a hm)).elim g3 g4, g5⟩
  refine wpAny_call (codeAny_mono (F.run (X.A.mark (some (.ref a))) X.stack s1 H1 ⟨us, []⟩ us vs Q E0 (a, oe) D dd ⟨hr.dp, hr.un⟩ hz hf hpin I1.env0 b r q1) ?_)
  intro r2 s2 hq
  cases r2 with
  | error e3 => exact hq.elim
  | ok fl =>
    cases fl with
    | ret u => exact I1.after hq
    | next => exact hq.elim
    | brk => exact hq.elim
    | cont => exact hq.elim
/-- what an exception class must say, that isinstance asks its instances rightly -/
structure ExcD (K : PySem.W.Frag) (D : Addr) : Prop where
  hc : (PySem.W.clsIn K D).isSome = true
  hg : PySem.W.findIn K (.ref D) "__getattribute__" = some (some (.builtin "BaseException.__getattribute__"))
  hk : PySem.W.findIn K (.ref D) "__getattr__" = some none
  hs : PySem.W.subIn K (.ref D) (.type "BaseException") = some true
  ha : PySem.W.findIn K (.ref D) "__class__" = some (some (.builtin "object.__class__"))
  hn : PySem.W.specialIn K (.builtin "object.__class__") "__get__" = some (some (.builtin "getset_descriptor.__get__"))
  ht : PySem.W.takesIn K (.builtin "object.__class__") = some true
  hm : PySem.W.mroIn K D (.type "object") = some true
def excdB (K : PySem.W.Frag) (D : Addr) : Bool := (PySem.W.clsIn K D).isSome && (decide (PySem.W.findIn K (.ref D) "__getattribute__" = some (some (.builtin "BaseException.__getattribute__"))) && (decide (PySem.W.findIn K (.ref D) "__getattr__" = some none) &&
  (decide (PySem.W.subIn K (.ref D) (.type "BaseException") = some true) && (decide (PySem.W.findIn K (.ref D) "__class__" = some (some (.builtin "object.__class__"))) && (decide (PySem.W.specialIn K (.builtin "object.__class__") "__get__" = some (some (.builtin "getset_descriptor.__get__"))) &&
  (decide (PySem.W.takesIn K (.builtin "object.__class__") = some true) && decide (PySem.W.mroIn K D (.type "object") = some true)))))))
theorem excdB_ok {K : PySem.W.Frag} {D : Addr} (h : excdB K D = true) : ExcD K D := by
  obtain ⟨h1, h⟩ := Bool.and_eq_true_iff.mp h
  obtain ⟨h2, h⟩ := Bool.and_eq_true_iff.mp h
  obtain ⟨h3, h⟩ := Bool.and_eq_true_iff.mp h
  obtain ⟨h4, h⟩ := Bool.and_eq_true_iff.mp h
  obtain ⟨h5, h⟩ := Bool.and_eq_true_iff.mp h
  obtain ⟨h6, h⟩ := Bool.and_eq_true_iff.mp h
  obtain ⟨h7, h8⟩ := Bool.and_eq_true_iff.mp h
  exact ⟨h1, of_decide_eq_true h2, of_decide_eq_true h3, of_decide_eq_true h4, of_decide_eq_true h5, of_decide_eq_true h6, of_decide_eq_true h7, of_decide_eq_true h8⟩
/-- isinstance(e, c), e the exception -/
def rIsX (K : PySem.W.Frag) (a D dd : Addr) : List V → Hp → VK → Prop := fun xs H Q => ∃ (c : V) (cv : Value) (b : Bool) (fs : List (Str × V)), xs = [.ref a, c] ∧ ClsV c cv ∧ PySem.W.kitOne K (.ref D) cv = some b ∧ H dd = some (.xd fs) ∧ Q (.bl b) H
theorem call_isX {X : Cx} {p : Addr × Obj} {D dd : Addr} (hp : p ∈ X.pn) (C : ExcD X.K D) (hz : Zc (.ref D) (some dd) p.2) (hf : ∃ fs, p.2.data = .fields fs) : CallR X (.builtin "isinstance") (rIsX X.K p.1 D dd) := by
  intro pins s σ H xs us Q I r h
  obtain ⟨c, cv, b, fs, rfl, hcv, e, hd, q⟩ := h
  obtain ⟨u1, u2, rfl, r1, r2⟩ := vals2 r
  cases (show u1 = Value.ref p.1 from r1)
  have e2 := hcv.eq r2
  subst e2
  obtain ⟨hget, _⟩ := I.pin p (List.mem_append_left _ hp)
  have hx : ObjOk X.prog X.w H s.heap dd (.xd fs) := I.hok dd _ hd
  obtain ⟨mA, ⟨od, es, ep, ho, hr⟩, _⟩ := hx
  obtain ⟨vs, hv⟩ := hf
  have J : PySem.W.InstAt s.heap p.1 p.2 D (some od) := ⟨hget, hz.1, by unfold PySem.W.notCls; rw [hv] <;> rfl, by rw [hz.2]; exact ho⟩
  exact PySem.W.kia_one (PySem.W.kitx_exc C.hc C.hg C.hk C.hs C.ha C.hn C.ht C.hm) I.kIn J e (fun z => nomatch z) fun tk => ⟨.bl b, H, I.tok tk, rfl, q⟩
/-- what the written part says of an exception class with its own __init__, as a Bool -/
def oexB (K : PySem.W.Frag) (C : Addr) : Bool := (match K.lookup C with
    | some ⟨.type "type", _, .cls cd, sl⟩ => (match cd.mro, sl.toList with
      | .ref C' :: bm, [_, _, _, _, some (.builtin n), _] => decide (C' = C) && (decide (n = "ValueError.__new__") && (!cd.hasDel && (cd.hasDict && PySem.HandSPX.refsVE bm)))
      | _, _ => false)
    | _ => false) && (decide (PySem.W.findIn K (.ref C) "__setattr__" = some (some (.builtin "object.__setattr__"))) && (decide (PySem.W.subIn K (.ref C) (.type "BaseException") = some true) &&
  (decide (PySem.W.typeIn K (.ref C) = some (.type "type")) && PySem.W.keepIn K (.ref C))))
theorem oexB_ok {K : PySem.W.Frag} {C : Addr} (h : oexB K C = true) : OexC K C := by
  obtain ⟨h1, h⟩ := Bool.and_eq_true_iff.mp h
  obtain ⟨h2, h⟩ := Bool.and_eq_true_iff.mp h
  obtain ⟨h3, h⟩ := Bool.and_eq_true_iff.mp h
  obtain ⟨h4, h5⟩ := Bool.and_eq_true_iff.mp h
  refine ⟨?_, of_decide_eq_true h2, of_decide_eq_true h3, of_decide_eq_true h4, h5⟩
  split at h1
  · rename_i dd cd sl ho
    split at h1
    · rename_i C' bm k0 k1 k2 k3 n k5 hm hs
      simp only [Bool.and_eq_true, decide_eq_true_eq, Bool.not_eq_true'] at h1
      obtain ⟨rfl, rfl, hdel, hdct, hr⟩ := h1
      obtain ⟨nm, bs, mro, ns, qn, hd, sn, sub, ab, col, del⟩ := cd
      dsimp only at hm hdel hdct
      subst hm hdel hdct
      have hsl : sl = #[k0, k1, k2, k3, some (.builtin "ValueError.__new__"), k5] := by
        obtain ⟨l⟩ := sl
        dsimp only at hs
        rw [hs]
      subst hsl
      exact ⟨nm, qn, ns, bs, bm, sn, sub, ab, col, dd, k0, k1, k2, k3, k5, ho, hr⟩
    · cases h1
  · cases h1
theorem passR {X : Cx} {W : WX} {E : XK} (tk : Takes X W) (hW : ∀ cls d σ H, E cls d H → W cls d σ H) : Passes (L2.CX X.prog X.w) X E := passes_call tk hW
end LL

namespace LL
open PySem PySem.Spec PyProof.Rows L2
/-! ### the head's facts, and one more Bool of the written part -/
abbrev AlY : Type := He.AlD × Bool
def obsY (n : Nat) (fa : List He.Fa) (fn : List He.DefD) (ex : PySem.W.Frag → Bool) (g : Addr → Option Obj) : AlY := (He.obsD fa fn (He.frG g (He.asD g n)), ex (He.frG g (He.asD g n)))
structure SaysY (fa : List He.Fa) (fn : List He.DefD) (ex : PySem.W.Frag → Bool) (K : PySem.W.Frag) : Prop where
  d : He.SaysD fa fn K
  x : ex K = true
def hookY (n : Nat) (fa : List He.Fa) (fn : List He.DefD) (ex : PySem.W.Frag → Bool) : PySem.W.Hook where
  α := AlY
  obs := fun s => obsY n fa fn ex s.heap.get?
  val := fun _ => (He.valD fn, true)
  says := fun _ h => ∃ K : PySem.W.Frag, K.In h ∧ SaysY fa fn ex K
  of := fun _ _ e => ⟨_, He.frG_in, ⟨congrArg (fun z : AlY => z.1) e, congrArg (fun z : AlY => z.2) e⟩⟩
  keeps := fun _ _ _ ⟨K, hK, c⟩ k => ⟨K, PySem.W.Frag.In.keeps hK k, c⟩
theorem obsY_eq {n : Nat} {fa : List He.Fa} {fn : List He.DefD} {ex : PySem.W.Frag → Bool} {g : Addr → Option Obj} {s : Shared} (h : ∀ a, g a = s.heap.get? a) : obsY n fa fn ex g = (hookY n fa fn ex).obs s := by
  have e : g = s.heap.get? := funext h
  rw [e]
  rfl
theorem SaysY.ex {fa : List He.Fa} {fn : List He.DefD} {exs : List (PySem.W.Frag → Bool)} {K : PySem.W.Frag} (c : SaysY fa fn (fun K => exs.all fun e => e K) K) (i : Nat) {e : PySem.W.Frag → Bool} (h : exs[i]? = some e := by rfl) : e K = true :=
  List.all_eq_true.mp c.x e (List.mem_of_getElem? h)
end LL

namespace LL
open PySem PySem.Spec PyProof.Rows L2 L2H
/-- a field of the exception that a def called in an except suite is handed -/
theorem pe_xfP {X : Cx} {p : Addr × Obj} {C : Addr} {cls : Value} {d : Option Addr} {e : Expr} {te : TE} {pos : Pos} {n : Str} (hp : p ∈ X.pn) (T : XfC X.K C) (hno : PySem.W.findIn X.K (.ref C) n = some none)
    (hz : Zc cls d p.2) (hf : ∃ vs, p.2.data = .fields vs) (he : PE X e te) (hb : attributeBase e n X.env (eval e X.env) = eval e X.env := by rfl) :
    PE X (.Attribute e n pos) (tXf p.1 cls d C n te) := by
  refine ⟨fun pins s σ H Q I h => ?_⟩
  refine attr_of hb (thn (he.run pins s σ H _ I h) fun u s1 hh => ?_)
  obtain ⟨x, H1, I1, rx, ex, ec, dd, fs, v, ed, ea, l, q⟩ := hh
  subst ex
  obtain rfl : u = Value.ref p.1 := rx
  subst ec
  subst ed
  obtain ⟨ha, _⟩ := I1.pin p (List.mem_append_left _ hp)
  obtain ⟨vs, hd⟩ := hf
  have hx : ObjOk X.prog X.w H1 s1.heap dd (.xd fs) := I1.hok dd _ ea
  obtain ⟨mA, hns, hr⟩ := hx
  obtain ⟨od, ho, hl⟩ := lookIn_ns hns
  obtain ⟨u, hu, ru⟩ := RelO.some_of (v := v) (o := mA n) (by rw [← l]; exact hr n)
  have J : PySem.W.InstAt s1.heap p.1 p.2 C (some od) := ⟨ha, hz.1, by unfold PySem.W.notCls; rw [hd] <;> rfl, by rw [hz.2]; exact ho⟩
  exact HandSPX.exc_get I1.kIn J T.ga T.gg T.exC (PySem.W.findObj_own T.hdC hno rfl (by rw [hl, hu])) (handed_of ru) ⟨v, H1, I1.tok _, ru, q⟩
/-- isinstance(e, c) in the suite that holds e -/
def rIsXC (K : PySem.W.Frag) (a D : Addr) (cls : Value) (d : Option Addr) : List V → Hp → VK → Prop := fun xs H Q => ∃ (dd : Addr) (c : V) (cv : Value) (b : Bool) (fs : List (Str × V)), cls = .ref D ∧ d = some dd ∧ xs = [.ref a, c] ∧ ClsV c cv ∧ PySem.W.kitOne K (.ref D) cv = some b ∧ H dd = some (.xd fs) ∧ Q (.bl b) H
theorem call_isXC {X : Cx} {p : Addr × Obj} {D : Addr} {cls : Value} {d : Option Addr} (hp : p ∈ X.pn) (C : ExcD X.K D) (hz : Zc cls d p.2) (hf : ∃ fs, p.2.data = .fields fs) : CallR X (.builtin "isinstance") (rIsXC X.K p.1 D cls d) := by
  rintro pins s σ H xs us Q I r ⟨dd, c, cv, b, fs, rfl, rfl, rfl, h1, h2, h3, q⟩
  exact call_isX hp C hz hf pins s σ H _ us Q I r ⟨c, cv, b, fs, rfl, h1, h2, h3, q⟩
theorem use_isXC {K : PySem.W.Frag} {a D dd : Addr} {c : V} {cv : Value} {b : Bool} {fs : List (Str × V)} {H : Hp} {Q : VK} (hc : ClsV c cv) (hk : PySem.W.kitOne K (.ref D) cv = some b) (hd : H dd = some (.xd fs)) (q : Q (.bl b) H) : rIsXC K a D (.ref D) (some dd) [.ref a, c] H Q := ⟨dd, c, cv, b, fs, rfl, rfl, rfl, hc, hk, hd, q⟩
/-- a def that may raise, called where it does not -/
theorem passE0 {X : Cx} : Passes (L2.CX X.prog X.w) X E0 := fun _ _ _ _ _ _ _ h => by
  obtain ⟨_, _, _, _, _, _, _, _, _, _, _, _, hE⟩ := h
  exact hE.elim
theorem use_for2 {ta : TA} {g : TG} {tb : TS} {D : Ends} {σ : L2.St} {H : Hp} (lo hi : Int) (ht : ∀ Q : List V → Hp → Prop, Q [.int lo, .int hi] H → ta σ H Q) (b0 : -(2 ^ 62) ≤ lo) (b1 : lo < 2 ^ 62) (b2 : -(2 ^ 62) ≤ hi) (b3 : hi < 2 ^ 62) (Pv : Nat → L2.St → Hp → Prop) (h0 : Pv 0 σ H)
    (hs : ∀ i σ H, i < (hi - lo).toNat → Pv i σ H → g (.int (lo + (i : Int))) σ H fun σ2 H2 => tb { D with nx := Pv (i + 1), ct := Pv (i + 1), bk := D.nx } σ2 H2) (hd : ∀ σ H, Pv (hi - lo).toNat σ H → D.nx σ H) : tFor (iRng2 ta) g tb D σ H :=
  ht _ ⟨lo, hi, rfl, ⟨b0, b1, b2, b3⟩, for_range Pv h0 hs hd⟩
theorem use_lenA_L {p : Addr} {xs : List V} {H : Hp} {Q : VK} (h : H p = some (.lst xs)) (q : Q (.int xs.length) H) : rLenA [.ref p] H Q := .inl (use_lenL h q)
theorem use_lenA_T {p : Addr} {xs : List V} {H : Hp} {Q : VK} (h : H p = some (.tup xs)) (q : Q (.int xs.length) H) : rLenA [.ref p] H Q := .inr (.inl (use_lenT h q))
theorem use_ixA_L {K : PySem.W.Frag} {p : Addr} {xs : List V} {i : Int} {v : V} {H : Hp} {Q : VK} (h : H p = some (.lst xs)) (e : atI xs i = some v) (q : Q v H) : rIxA K (.ref p) (.int i) H Q := .inl (use_ixL h e q)
theorem use_ixA_T {K : PySem.W.Frag} {p : Addr} {xs : List V} {i : Int} {v : V} {H : Hp} {Q : VK} (h : H p = some (.tup xs)) (e : atI xs i = some v) (q : Q v H) : rIxA K (.ref p) (.int i) H Q := .inr (use_ixT h e q)
/-- a list or a tuple -/
def SeqH (H : Hp) (p : Addr) (xs : List V) : Prop := H p = some (.lst xs) ∨ H p = some (.tup xs)
theorem SeqH.same {H H' : Hp} {p : Addr} {xs : List V} (h : SeqH H p xs) (s : Same H H') : SeqH H' p xs := h.imp (s _ _) (s _ _)
theorem SeqH.kp {s : Addr} {H H' : Hp} {p : Addr} {xs : List V} (h : SeqH H p xs) (n : p ≠ s) (k : Kp s H H') : SeqH H' p xs := h.imp (k _ _ n) (k _ _ n)
theorem use_ixA {K : PySem.W.Frag} {p : Addr} {xs : List V} {i : Int} {v : V} {H : Hp} {Q : VK} (h : SeqH H p xs) (e : atI xs i = some v) (q : Q v H) : rIxA K (.ref p) (.int i) H Q := h.elim (fun h => use_ixA_L h e q) fun h => use_ixA_T h e q
mutual
/-- no dict in it -/
def noDic : T → Bool
  | .dic _ => false
  | .lst ts => noDics ts
  | .tup ts => noDics ts
  | _ => true
def noDics : List T → Bool
  | [] => true
  | t :: ts => noDic t && noDics ts
end
theorem noDicL : ∀ {ts : List T} {i : Nat} {t : T}, ts[i]? = some t → noDics ts = true → noDic t = true
  | [], _, _, e, _ => by cases e
  | u :: ts, 0, t, e, h => by
    cases e
    exact (Bool.and_eq_true_iff.mp h).1
  | u :: ts, i + 1, t, e, h => noDicL (ts := ts) (i := i) e (Bool.and_eq_true_iff.mp h).2
theorem Aft.same {d s : Addr} {H H' : Hp} (D : Drw d s H) (k : Same H H') : Aft d s H H' := ⟨.same k, D.same k⟩
theorem Aft.at {d s : Addr} {H H' : Hp} (a : Aft d s H H') {p : Addr} {o : HO} (h : H p = some o) (n : p ≠ s) : H' p = some o := a.kp _ _ n h
/-- a list of bools that is all True, made by a comprehension over range(n) -/
theorem rAll_true {K : PySem.W.Frag} {D : Addr} {n : Nat} {H : Hp} {Q : VK} (h : H D = some (.lst (List.replicate n (V.bl true)))) (q : Q (.bl true) H) : rAll K [.ref D] H Q :=
  ⟨D, List.replicate n true, rfl, .inl (.inl (by rw [List.map_replicate]; exact h)), by rw [show (List.replicate n true).all id = true by simp]; exact q⟩
theorem repl_succ {n : Nat} : List.replicate n (V.bl true) ++ [V.bl true] = List.replicate (n + 1) (V.bl true) := by rw [List.replicate_succ']
theorem itei {p : Prop} [Decidable p] {A B : Prop} (h1 : p → A) (h2 : ¬p → B) : if p then A else B := by
  by_cases h : p
  · rw [if_pos h]; exact h1 h
  · rw [if_neg h]; exact h2 h
/-- over enumerate(list), a list that the body leaves as it is -/
theorem use_forE {K : PySem.W.Frag} {ta : TA} {a : Addr} {xs : List V} {g : TG} {tb : TS} {D : Ends} {σ : L2.St} {H : Hp} (ht : ∀ Q : List V → Hp → Prop, Q [.ref a] H → ta σ H Q) (Pv : Nat → L2.St → Hp → Prop) (h0 : Pv 0 σ H) (hl : ∀ i σ H, i ≤ xs.length → Pv i σ H → SqL K H a xs)
    (hs : ∀ i x T σ H, xs[i]? = some x → Pv i σ H → H T = none → g (.ref T) σ (upd H T (.tup [.int (i : Nat), x])) fun σ2 H2 => tb { D with nx := Pv (i + 1), ct := Pv (i + 1), bk := D.nx } σ2 H2)
    (hd : ∀ σ H, Pv xs.length σ H → D.nx σ H) : tFor (iEnum K ta) g tb D σ H := by
  refine ht _ ⟨a, xs, rfl, hl 0 σ H (Nat.zero_le _) h0, fun i m σ H => i ≤ xs.length ∧ m + i = xs.length ∧ Pv i σ H, ⟨xs.length, Nat.zero_le _, Nat.add_zero _, h0⟩, ?_⟩
  rintro i m σ H ⟨hi, hm, p⟩
  have q := hl i σ H hi p
  rcases Nat.lt_or_ge i xs.length with hlt | hge
  · refine .inr ⟨⟨xs, xs[i], q, List.getElem?_eq_getElem hlt⟩, Pv (i + 1), fun σ' H' p' => ⟨m - 1, by omega, hlt, by omega, p'⟩, ?_⟩
    rintro z H' ⟨T, x, rfl, hT, rfl, hx⟩
    exact hs i x T σ H (hx xs q) p hT
  · obtain rfl : i = xs.length := by omega
    exact .inl ⟨⟨xs, q, Nat.le_refl _⟩, hd σ H p⟩
theorem use_forEX {K : PySem.W.Frag} {ta : TA} {g : TG} {tb : TS} {D : Ends} {σ : L2.St} {H : Hp} {R : Addr → List V → Hp → Prop} (ht : ∀ Q : List V → Hp → Prop, (∀ a xs H', R a xs H' → Q [.ref a] H') → ta σ H Q) (Pv : Addr → List V → Nat → L2.St → Hp → Prop) (h0 : ∀ a xs H', R a xs H' → Pv a xs 0 σ H')
    (hl : ∀ a xs i σ H, i ≤ xs.length → Pv a xs i σ H → SqL K H a xs)
    (hs : ∀ a xs i x T σ H, xs[i]? = some x → Pv a xs i σ H → H T = none → g (.ref T) σ (upd H T (.tup [.int (i : Nat), x])) fun σ2 H2 => tb { D with nx := Pv a xs (i + 1), ct := Pv a xs (i + 1), bk := D.nx } σ2 H2)
    (hd : ∀ a xs σ H, Pv a xs xs.length σ H → D.nx σ H) : tFor (iEnum K ta) g tb D σ H := by
  refine ht _ fun a xs H' r => ?_
  have p0 := h0 a xs H' r
  refine ⟨a, xs, rfl, hl a xs 0 σ H' (Nat.zero_le _) p0, fun i m σ H => i ≤ xs.length ∧ m + i = xs.length ∧ Pv a xs i σ H, ⟨xs.length, Nat.zero_le _, Nat.add_zero _, p0⟩, ?_⟩
  rintro i m σ H ⟨hi, hm, p⟩
  have q := hl a xs i σ H hi p
  rcases Nat.lt_or_ge i xs.length with hlt | hge
  · refine .inr ⟨⟨xs, xs[i], q, List.getElem?_eq_getElem hlt⟩, Pv a xs (i + 1), fun σ' H' p' => ⟨m - 1, by omega, hlt, by omega, p'⟩, ?_⟩
    rintro z H' ⟨T, x, rfl, hT, rfl, hx⟩
    exact hs a xs i x T σ H (hx xs q) p hT
  · obtain rfl : i = xs.length := by omega
    exact .inl ⟨⟨xs, q, Nat.le_refl _⟩, hd a xs σ H p⟩
theorem DtL.set {F : Addr → Prop} {H : Hp} : ∀ {xs : List V} {ts : List T} {i : Nat} {v : V} {t : T}, DtL F H xs ts → Dt F H v t → DtL F H (xs.set i v) (ts.set i t)
  | _, [], i, v, t, h, _ => by rw [show _ = [] from h]; rfl
  | _, u :: us, 0, v, t, h, d => by
    obtain ⟨x, xs, rfl, h1, h2⟩ := h
    exact ⟨v, xs, rfl, d, h2⟩
  | _, u :: us, i + 1, v, t, h, d => by
    obtain ⟨x, xs, rfl, h1, h2⟩ := h
    exact ⟨x, _, rfl, h1, DtL.set h2 d⟩
theorem DtL.off {F : Addr → Prop} {H : Hp} {r : Addr} {o : HO} {xs : List V} {ts : List T} (hF : ∀ a, F a → a ≠ r) (h : DtL F H xs ts) : DtL F (upd H r o) xs ts := DtL.imp (fun a u f e => ⟨f, by rw [upd_ne (hF a f)]; exact e⟩) _ h
theorem Dt.off {F : Addr → Prop} {H : Hp} {r : Addr} {o : HO} {v : V} {t : T} (hF : ∀ a, F a → a ≠ r) (h : Dt F H v t) : Dt F (upd H r o) v t := Dt.imp (fun a u f e => ⟨f, by rw [upd_ne (hF a f)]; exact e⟩) _ h
end LL

namespace LL
open PySem PySem.Spec PyProof.Rows L2 L2H
/-! ### powers of two -/
theorem land_even (a b : Nat) : (2 * a) &&& (2 * b + 1) = 2 * (a &&& b) := by
  refine Nat.eq_of_testBit_eq fun i => ?_
  cases i with
  | zero => simp [Nat.testBit_zero]
  | succ i =>
    have h1 : ∀ x : Nat, (2 * x).testBit (i + 1) = x.testBit i := fun x => by rw [Nat.testBit_succ, Nat.mul_div_cancel_left _ (by decide)]
    have h2 : (2 * b + 1).testBit (i + 1) = b.testBit i := by rw [Nat.testBit_succ, show (2 * b + 1) / 2 = b by omega]
    rw [Nat.testBit_and, h1, h2, h1, Nat.testBit_and]
theorem land_odd (a b : Nat) : (2 * a + 1) &&& (2 * b) = 2 * (a &&& b) := by
  rw [Nat.and_comm, land_even, Nat.and_comm]
theorem land_pred : ∀ (k m : Nat), (2 ^ k * (2 * m + 1)) &&& (2 ^ k * (2 * m + 1) - 1) = 2 ^ k * (2 * m)
  | 0, m => by
    rw [Nat.pow_zero, Nat.one_mul, Nat.one_mul, show 2 * m + 1 - 1 = 2 * m by omega, land_odd, Nat.and_self]
  | k + 1, m => by
    have h := land_pred k m
    have hp : 0 < 2 ^ k * (2 * m + 1) := Nat.mul_pos (Nat.pow_pos (by decide)) (by omega)
    have e : 2 ^ (k + 1) * (2 * m + 1) = 2 * (2 ^ k * (2 * m + 1)) := by rw [Nat.pow_succ, Nat.mul_comm (2 ^ k) 2, Nat.mul_assoc]
    have e2 : 2 ^ (k + 1) * (2 * m) = 2 * (2 ^ k * (2 * m)) := by rw [Nat.pow_succ, Nat.mul_comm (2 ^ k) 2, Nat.mul_assoc]
    rw [e, e2]
    generalize 2 ^ k * (2 * m + 1) = x at h hp
    rw [show 2 * x - 1 = 2 * (x - 1) + 1 by omega, land_even, h]
theorem odd_part : ∀ n : Nat, 0 < n → ∃ k m, n = 2 ^ k * (2 * m + 1) := by
  intro n
  induction n using Nat.strongRecOn with
  | ind n ih =>
    intro hn
    by_cases h : n % 2 = 1
    · exact ⟨0, n / 2, by rw [Nat.pow_zero]; omega⟩
    · obtain ⟨k, m, e⟩ := ih (n / 2) (by omega) (by omega)
      refine ⟨k + 1, m, ?_⟩
      rw [Nat.pow_succ, Nat.mul_comm (2 ^ k) 2, Nat.mul_assoc, ← e]
      omega
theorem bitAnd_nat (a b : Nat) : Builtin.bitAnd (a : Int) (b : Int) = ((a &&& b : Nat) : Int) := by
  unfold Builtin.bitAnd
  rw [decide_eq_true (show (0 : Int) ≤ (a : Int) by omega), decide_eq_true (show (0 : Int) ≤ (b : Int) by omega)]
  rfl
theorem bitAnd_neg (n : Nat) (h : 0 < n) : Builtin.bitAnd (n : Int) (-(n : Int)) = (n : Int) - ((n &&& (n - 1) : Nat) : Int) := by
  unfold Builtin.bitAnd
  rw [decide_eq_true (show (0 : Int) ≤ (n : Int) by omega), decide_eq_false (show ¬ (0 : Int) ≤ -(n : Int) by omega)]
  show (n : Int) - (((n : Int).toNat &&& (Builtin.bitNot (-(n : Int))).toNat : Nat) : Int) = _
  rw [show (Builtin.bitNot (-(n : Int))).toNat = n - 1 by show (- -(n : Int) - 1).toNat = n - 1; omega, Int.toNat_natCast]
/-- i is a power of two -/
def isP (i : Int) : Bool := decide (1 ≤ i) && decide (Builtin.bitAnd i (i - 1) = 0)
theorem isP_pow (k : Nat) : isP (2 ^ k) = true := by
  have h := land_pred k 0
  rw [Nat.mul_zero, Nat.zero_add, Nat.mul_one, Nat.mul_zero] at h
  have hp : 0 < 2 ^ k := Nat.pow_pos (by decide)
  have e : (2 : Int) ^ k = ((2 ^ k : Nat) : Int) := by simp
  unfold isP
  rw [e, show ((2 ^ k : Nat) : Int) - 1 = ((2 ^ k - 1 : Nat) : Int) by omega, bitAnd_nat, h, decide_eq_true (show (1 : Int) ≤ ((2 ^ k : Nat) : Int) by omega)]
  rfl
theorem isP_of {i : Int} (h : isP i = true) : ∃ k : Nat, i = 2 ^ k := by
  obtain ⟨h1, h2⟩ := Bool.and_eq_true_iff.mp h
  have h1 := of_decide_eq_true h1
  have h2 := of_decide_eq_true h2
  obtain ⟨n, rfl⟩ : ∃ n : Nat, i = n := ⟨i.toNat, by omega⟩
  rw [show (n : Int) - 1 = ((n - 1 : Nat) : Int) by omega, bitAnd_nat] at h2
  obtain ⟨k, m, e⟩ := odd_part n (by omega)
  rw [e, land_pred] at h2
  have h3 : 2 ^ k * (2 * m) = 0 := by omega
  have hp : 0 < 2 ^ k := Nat.pow_pos (by decide)
  have hm : m = 0 := by
    rcases Nat.mul_eq_zero.mp h3 with h | h <;> omega
  refine ⟨k, ?_⟩
  rw [e, hm]
  simp
/-- the greatest power of two in n -/
theorem powIn {n : Int} (h : 1 ≤ n) : ∃ (k : Nat) (m : Int), Builtin.bitAnd n (-n) = 2 ^ k ∧ 0 ≤ m ∧ n = 2 ^ k * (2 * m + 1) := by
  obtain ⟨a, rfl⟩ : ∃ a : Nat, n = a := ⟨n.toNat, by omega⟩
  obtain ⟨k, m, e⟩ := odd_part a (by omega)
  have hl := land_pred k m
  refine ⟨k, m, ?_, by omega, by rw [e]; simp⟩
  rw [bitAnd_neg a (by omega), e, hl]
  have : 2 ^ k * (2 * m + 1) = 2 ^ k * (2 * m) + 2 ^ k := by rw [Nat.mul_add, Nat.mul_one]
  rw [this]
  have e3 : ((2 ^ k : Nat) : Int) = (2 : Int) ^ k := by simp
  omega
/-- bit_length of c - 1: the least exponent -/
theorem bits_least {c : Int} (h : 1 ≤ c) : c ≤ 2 ^ (Builtin.Int.intBits (c - 1)) ∧ (Builtin.Int.intBits (c - 1) = 0 ∨ (2 : Int) ^ (Builtin.Int.intBits (c - 1)) / 2 < c) := by
  obtain ⟨n, rfl⟩ : ∃ n : Nat, c = (n : Int) + 1 := ⟨(c - 1).toNat, by omega⟩
  rw [show (n : Int) + 1 - 1 = n by omega]
  unfold Builtin.Int.intBits
  by_cases hn : n = 0
  · subst hn
    exact ⟨by decide, .inl rfl⟩
  · rw [if_neg (show ¬ ((n : Int) == 0) = true by simpa using hn), Int.natAbs_natCast]
    have h1 : n < 2 ^ (n.log2 + 1) := Nat.lt_log2_self
    have h2 : 2 ^ n.log2 ≤ n := Nat.log2_self_le hn
    have e1 : ((2 ^ (n.log2 + 1) : Nat) : Int) = (2 : Int) ^ (n.log2 + 1) := by simp
    have e2 : ((2 ^ n.log2 : Nat) : Int) = (2 : Int) ^ n.log2 := by simp
    have e3 : (2 : Int) ^ (n.log2 + 1) = 2 * (2 : Int) ^ n.log2 := by rw [Int.pow_succ, Int.mul_comm]
    exact ⟨by omega, .inr (by omega)⟩
end LL

namespace K26
open PySem PySem.Spec PyProof.Rows L2 LL
def top (i : Nat) : Stmt := PySem.Challenge.pw_allgivenback_k26_classes.main.body.getD i (.Pass ⟨0, 0, 0, 0⟩)
abbrev FnP (K : PySem.W.Frag) (x : Str) (st : Stmt) (f : Addr) (fd : FuncData) : Prop := FunD K x x (defArgs st) (defBody st) (defScope st) [] [] f fd
def p_BadValue : { s : Stmt // inClass (top 2) 0 = s } := by
  refine ⟨?s, ?h⟩
  case h => conv => lhs; whnf
abbrev s_BadValue : Stmt := p_BadValue.1
abbrev P_BadValue : List Str := ["self", "parameter"]
theorem sc_BadValue : FnScope P_BadValue P_BadValue (defScope s_BadValue) := ⟨rfl, rfl, rfl, by decide +kernel, rfl, by decide +kernel, by decide +kernel⟩
abbrev aBV (K : PySem.W.Frag) : Addr := He.ga K "BadValue"
abbrev iBV (K : PySem.W.Frag) : Addr := He.ma K (He.ga K "BadValue") "__init__"
def p_is_whole : { s : Stmt // top 4 = s } := by
  refine ⟨?s, ?h⟩
  case h => conv => lhs; whnf
abbrev s_is_whole : Stmt := p_is_whole.1
abbrev N_is_whole : List Str := ["value"]
abbrev P_is_whole : List Str := ["value"]
theorem sc_is_whole : FnScope N_is_whole P_is_whole (defScope s_is_whole) := ⟨rfl, rfl, rfl, by decide +kernel, rfl, by decide +kernel, by decide +kernel⟩
def p_need : { s : Stmt // top 6 = s } := by
  refine ⟨?s, ?h⟩
  case h => conv => lhs; whnf
abbrev s_need : Stmt := p_need.1
abbrev N_need : List Str := ["holds", "parameter"]
abbrev P_need : List Str := ["holds", "parameter"]
theorem sc_need : FnScope N_need P_need (defScope s_need) := ⟨rfl, rfl, rfl, by decide +kernel, rfl, by decide +kernel, by decide +kernel⟩
def p_need_whole : { s : Stmt // top 7 = s } := by
  refine ⟨?s, ?h⟩
  case h => conv => lhs; whnf
abbrev s_need_whole : Stmt := p_need_whole.1
abbrev N_need_whole : List Str := ["value", "low", "high", "parameter"]
abbrev P_need_whole : List Str := ["value", "low", "high", "parameter"]
theorem sc_need_whole : FnScope N_need_whole P_need_whole (defScope s_need_whole) := ⟨rfl, rfl, rfl, by decide +kernel, rfl, by decide +kernel, by decide +kernel⟩
def p_is_width : { s : Stmt // top 10 = s } := by
  refine ⟨?s, ?h⟩
  case h => conv => lhs; whnf
abbrev s_is_width : Stmt := p_is_width.1
abbrev N_is_width : List Str := ["value"]
abbrev P_is_width : List Str := ["value"]
theorem sc_is_width : FnScope N_is_width P_is_width (defScope s_is_width) := ⟨rfl, rfl, rfl, by decide +kernel, rfl, by decide +kernel, by decide +kernel⟩
def p_is_power : { s : Stmt // top 15 = s } := by
  refine ⟨?s, ?h⟩
  case h => conv => lhs; whnf
abbrev s_is_power : Stmt := p_is_power.1
abbrev N_is_power : List Str := ["value"]
abbrev P_is_power : List Str := ["value"]
theorem sc_is_power : FnScope N_is_power P_is_power (defScope s_is_power) := ⟨rfl, rfl, rfl, by decide +kernel, rfl, by decide +kernel, by decide +kernel⟩
def p_need_align : { s : Stmt // top 16 = s } := by
  refine ⟨?s, ?h⟩
  case h => conv => lhs; whnf
abbrev s_need_align : Stmt := p_need_align.1
abbrev N_need_align : List Str := ["value", "most", "parameter"]
abbrev P_need_align : List Str := ["value", "most", "parameter"]
theorem sc_need_align : FnScope N_need_align P_need_align (defScope s_need_align) := ⟨rfl, rfl, rfl, by decide +kernel, rfl, by decide +kernel, by decide +kernel⟩
def p_power_in : { s : Stmt // top 17 = s } := by
  refine ⟨?s, ?h⟩
  case h => conv => lhs; whnf
abbrev s_power_in : Stmt := p_power_in.1
abbrev N_power_in : List Str := ["number"]
abbrev P_power_in : List Str := ["number"]
theorem sc_power_in : FnScope N_power_in P_power_in (defScope s_power_in) := ⟨rfl, rfl, rfl, by decide +kernel, rfl, by decide +kernel, by decide +kernel⟩
def p_need_shape : { s : Stmt // top 23 = s } := by
  refine ⟨?s, ?h⟩
  case h => conv => lhs; whnf
abbrev s_need_shape : Stmt := p_need_shape.1
abbrev N_need_shape : List Str := ["width", "order", "size", "align"]
abbrev P_need_shape : List Str := ["width", "order", "size", "align"]
theorem sc_need_shape : FnScope N_need_shape P_need_shape (defScope s_need_shape) := ⟨rfl, rfl, rfl, by decide +kernel, rfl, by decide +kernel, by decide +kernel⟩
def p_slab_shape : { s : Stmt // top 24 = s } := by
  refine ⟨?s, ?h⟩
  case h => conv => lhs; whnf
abbrev s_slab_shape : Stmt := p_slab_shape.1
abbrev N_slab_shape : List Str := ["width", "order", "size", "align", "room", "stride", "slots"]
abbrev P_slab_shape : List Str := ["width", "order", "size", "align"]
theorem sc_slab_shape : FnScope N_slab_shape P_slab_shape (defScope s_slab_shape) := ⟨rfl, rfl, rfl, by decide +kernel, rfl, by decide +kernel, by decide +kernel⟩
def p_class_sizes : { s : Stmt // top 25 = s } := by
  refine ⟨?s, ?h⟩
  case h => conv => lhs; whnf
abbrev s_class_sizes : Stmt := p_class_sizes.1
abbrev N_class_sizes : List Str := ["width", "size"]
abbrev P_class_sizes : List Str := ["width"]
theorem sc_class_sizes : FnScope N_class_sizes P_class_sizes (defScope s_class_sizes) := ⟨rfl, rfl, rfl, by decide +kernel, rfl, by decide +kernel, by decide +kernel⟩
def p_class_align : { s : Stmt // top 26 = s } := by
  refine ⟨?s, ?h⟩
  case h => conv => lhs; whnf
abbrev s_class_align : Stmt := p_class_align.1
abbrev N_class_align : List Str := ["size"]
abbrev P_class_align : List Str := ["size"]
theorem sc_class_align : FnScope N_class_align P_class_align (defScope s_class_align) := ⟨rfl, rfl, rfl, by decide +kernel, rfl, by decide +kernel, by decide +kernel⟩
def p_class_order : { s : Stmt // top 27 = s } := by
  refine ⟨?s, ?h⟩
  case h => conv => lhs; whnf
abbrev s_class_order : Stmt := p_class_order.1
abbrev N_class_order : List Str := ["width", "size", "align", "order"]
abbrev P_class_order : List Str := ["width", "size"]
theorem sc_class_order : FnScope N_class_order P_class_order (defScope s_class_order) := ⟨rfl, rfl, rfl, by decide +kernel, rfl, by decide +kernel, by decide +kernel⟩
def p_has_slots : { s : Stmt // top 28 = s } := by
  refine ⟨?s, ?h⟩
  case h => conv => lhs; whnf
abbrev s_has_slots : Stmt := p_has_slots.1
abbrev N_has_slots : List Str := ["shape"]
abbrev P_has_slots : List Str := ["shape"]
theorem sc_has_slots : FnScope N_has_slots P_has_slots (defScope s_has_slots) := ⟨rfl, rfl, rfl, by decide +kernel, rfl, by decide +kernel, by decide +kernel⟩
def p_class_of : { s : Stmt // top 29 = s } := by
  refine ⟨?s, ?h⟩
  case h => conv => lhs; whnf
abbrev s_class_of : Stmt := p_class_of.1
abbrev N_class_of : List Str := ["width", "size", "align", "number", "each"]
abbrev P_class_of : List Str := ["width", "size", "align"]
theorem sc_class_of : FnScope N_class_of P_class_of (defScope s_class_of) := ⟨rfl, rfl, rfl, by decide +kernel, rfl, by decide +kernel, by decide +kernel⟩
def p_law_draws : { s : Stmt // top 31 = s } := by
  refine ⟨?s, ?h⟩
  case h => conv => lhs; whnf
abbrev s_law_draws : Stmt := p_law_draws.1
abbrev N_law_draws : List Str := ["_law_script", "_law_cell"]
abbrev P_law_draws : List Str := ["_law_script"]
theorem sc_law_draws : FnScope N_law_draws P_law_draws (defScope s_law_draws) := ⟨rfl, rfl, rfl, by decide +kernel, rfl, by decide +kernel, by decide +kernel⟩
def p_law_next_cell : { s : Stmt // top 32 = s } := by
  refine ⟨?s, ?h⟩
  case h => conv => lhs; whnf
abbrev s_law_next_cell : Stmt := p_law_next_cell.1
abbrev N_law_next_cell : List Str := ["_law_draws_here", "_law_cells", "_law_state", "_law_cell"]
abbrev P_law_next_cell : List Str := ["_law_draws_here"]
theorem sc_law_next_cell : FnScope N_law_next_cell P_law_next_cell (defScope s_law_next_cell) := ⟨rfl, rfl, rfl, by decide +kernel, rfl, by decide +kernel, by decide +kernel⟩
def p_law_mixed : { s : Stmt // top 33 = s } := by
  refine ⟨?s, ?h⟩
  case h => conv => lhs; whnf
abbrev s_law_mixed : Stmt := p_law_mixed.1
abbrev N_law_mixed : List Str := ["_law_seed", "_law_turn", "_law_many", "_law_value", "_law_k", "_law_first", "_law_second"]
abbrev P_law_mixed : List Str := ["_law_seed", "_law_turn", "_law_many"]
theorem sc_law_mixed : FnScope N_law_mixed P_law_mixed (defScope s_law_mixed) := ⟨rfl, rfl, rfl, by decide +kernel, rfl, by decide +kernel, by decide +kernel⟩
def p_law_take : { s : Stmt // top 34 = s } := by
  refine ⟨?s, ?h⟩
  case h => conv => lhs; whnf
abbrev s_law_take : Stmt := p_law_take.1
abbrev N_law_take : List Str := ["_law_draws_here", "_law_many", "_law_state", "_law_value"]
abbrev P_law_take : List Str := ["_law_draws_here", "_law_many"]
theorem sc_law_take : FnScope N_law_take P_law_take (defScope s_law_take) := ⟨rfl, rfl, rfl, by decide +kernel, rfl, by decide +kernel, by decide +kernel⟩
def p_law_among : { s : Stmt // top 35 = s } := by
  refine ⟨?s, ?h⟩
  case h => conv => lhs; whnf
abbrev s_law_among : Stmt := p_law_among.1
abbrev N_law_among : List Str := ["_law_draws_here", "_law_row"]
abbrev P_law_among : List Str := ["_law_draws_here", "_law_row"]
theorem sc_law_among : FnScope N_law_among P_law_among (defScope s_law_among) := ⟨rfl, rfl, rfl, by decide +kernel, rfl, by decide +kernel, by decide +kernel⟩
def p_law_between : { s : Stmt // top 36 = s } := by
  refine ⟨?s, ?h⟩
  case h => conv => lhs; whnf
abbrev s_law_between : Stmt := p_law_between.1
abbrev N_law_between : List Str := ["_law_draws_here", "_law_low", "_law_high", "_law_kind"]
abbrev P_law_between : List Str := ["_law_draws_here", "_law_low", "_law_high"]
theorem sc_law_between : FnScope N_law_between P_law_between (defScope s_law_between) := ⟨rfl, rfl, rfl, by decide +kernel, rfl, by decide +kernel, by decide +kernel⟩
def p_law_number : { s : Stmt // top 37 = s } := by
  refine ⟨?s, ?h⟩
  case h => conv => lhs; whnf
abbrev s_law_number : Stmt := p_law_number.1
abbrev N_law_number : List Str := ["_law_draws_here", "_law_low", "_law_high", "_law_kind"]
abbrev P_law_number : List Str := ["_law_draws_here", "_law_low", "_law_high"]
theorem sc_law_number : FnScope N_law_number P_law_number (defScope s_law_number) := ⟨rfl, rfl, rfl, by decide +kernel, rfl, by decide +kernel, by decide +kernel⟩
def p_law_alignment : { s : Stmt // top 38 = s } := by
  refine ⟨?s, ?h⟩
  case h => conv => lhs; whnf
abbrev s_law_alignment : Stmt := p_law_alignment.1
abbrev N_law_alignment : List Str := ["_law_draws_here", "_law_most", "_law_value", "_law_k"]
abbrev P_law_alignment : List Str := ["_law_draws_here", "_law_most"]
theorem sc_law_alignment : FnScope N_law_alignment P_law_alignment (defScope s_law_alignment) := ⟨rfl, rfl, rfl, by decide +kernel, rfl, by decide +kernel, by decide +kernel⟩
def p_law_power : { s : Stmt // top 39 = s } := by
  refine ⟨?s, ?h⟩
  case h => conv => lhs; whnf
abbrev s_law_power : Stmt := p_law_power.1
abbrev N_law_power : List Str := ["_law_number_here", "_law_value", "_law_k"]
abbrev P_law_power : List Str := ["_law_number_here"]
theorem sc_law_power : FnScope N_law_power P_law_power (defScope s_law_power) := ⟨rfl, rfl, rfl, by decide +kernel, rfl, by decide +kernel, by decide +kernel⟩
def p_law_up : { s : Stmt // top 40 = s } := by
  refine ⟨?s, ?h⟩
  case h => conv => lhs; whnf
abbrev s_law_up : Stmt := p_law_up.1
abbrev N_law_up : List Str := ["_law_number_here", "_law_alignment_here"]
abbrev P_law_up : List Str := ["_law_number_here", "_law_alignment_here"]
theorem sc_law_up : FnScope N_law_up P_law_up (defScope s_law_up) := ⟨rfl, rfl, rfl, by decide +kernel, rfl, by decide +kernel, by decide +kernel⟩
def p_law_long : { s : Stmt // top 41 = s } := by
  refine ⟨?s, ?h⟩
  case h => conv => lhs; whnf
abbrev s_law_long : Stmt := p_law_long.1
abbrev N_law_long : List Str := ["_law_value", "_law_k"]
abbrev P_law_long : List Str := []
theorem sc_law_long : FnScope N_law_long P_law_long (defScope s_law_long) := ⟨rfl, rfl, rfl, by decide +kernel, rfl, by decide +kernel, by decide +kernel⟩
def p_law_not_integer : { s : Stmt // top 42 = s } := by
  refine ⟨?s, ?h⟩
  case h => conv => lhs; whnf
abbrev s_law_not_integer : Stmt := p_law_not_integer.1
abbrev N_law_not_integer : List Str := ["_law_draws_here"]
abbrev P_law_not_integer : List Str := ["_law_draws_here"]
theorem sc_law_not_integer : FnScope N_law_not_integer P_law_not_integer (defScope s_law_not_integer) := ⟨rfl, rfl, rfl, by decide +kernel, rfl, by decide +kernel, by decide +kernel⟩
def p_law_not_within : { s : Stmt // top 43 = s } := by
  refine ⟨?s, ?h⟩
  case h => conv => lhs; whnf
abbrev s_law_not_within : Stmt := p_law_not_within.1
abbrev N_law_not_within : List Str := ["_law_draws_here", "_law_low", "_law_high", "_law_kind"]
abbrev P_law_not_within : List Str := ["_law_draws_here", "_law_low", "_law_high"]
theorem sc_law_not_within : FnScope N_law_not_within P_law_not_within (defScope s_law_not_within) := ⟨rfl, rfl, rfl, by decide +kernel, rfl, by decide +kernel, by decide +kernel⟩
def p_law_not_among : { s : Stmt // top 44 = s } := by
  refine ⟨?s, ?h⟩
  case h => conv => lhs; whnf
abbrev s_law_not_among : Stmt := p_law_not_among.1
abbrev N_law_not_among : List Str := ["_law_draws_here", "_law_row", "_law_rest", "_law_value", "_law_known", "_law_member"]
abbrev P_law_not_among : List Str := ["_law_draws_here", "_law_row"]
theorem sc_law_not_among : FnScope N_law_not_among P_law_not_among (defScope s_law_not_among) := ⟨rfl, rfl, rfl, by decide +kernel, rfl, by decide +kernel, by decide +kernel⟩
def p_law_not_alignment : { s : Stmt // top 45 = s } := by
  refine ⟨?s, ?h⟩
  case h => conv => lhs; whnf
abbrev s_law_not_alignment : Stmt := p_law_not_alignment.1
abbrev N_law_not_alignment : List Str := ["_law_draws_here", "_law_most", "_law_kind"]
abbrev P_law_not_alignment : List Str := ["_law_draws_here", "_law_most"]
theorem sc_law_not_alignment : FnScope N_law_not_alignment P_law_not_alignment (defScope s_law_not_alignment) := ⟨rfl, rfl, rfl, by decide +kernel, rfl, by decide +kernel, by decide +kernel⟩
def p_law_is_int : { s : Stmt // top 46 = s } := by
  refine ⟨?s, ?h⟩
  case h => conv => lhs; whnf
abbrev s_law_is_int : Stmt := p_law_is_int.1
abbrev N_law_is_int : List Str := ["_law_value"]
abbrev P_law_is_int : List Str := ["_law_value"]
theorem sc_law_is_int : FnScope N_law_is_int P_law_is_int (defScope s_law_is_int) := ⟨rfl, rfl, rfl, by decide +kernel, rfl, by decide +kernel, by decide +kernel⟩
def p_law_is_within : { s : Stmt // top 47 = s } := by
  refine ⟨?s, ?h⟩
  case h => conv => lhs; whnf
abbrev s_law_is_within : Stmt := p_law_is_within.1
abbrev N_law_is_within : List Str := ["_law_value", "_law_low", "_law_high"]
abbrev P_law_is_within : List Str := ["_law_value", "_law_low", "_law_high"]
theorem sc_law_is_within : FnScope N_law_is_within P_law_is_within (defScope s_law_is_within) := ⟨rfl, rfl, rfl, by decide +kernel, rfl, by decide +kernel, by decide +kernel⟩
def p_law_is_ints : { s : Stmt // top 48 = s } := by
  refine ⟨?s, ?h⟩
  case h => conv => lhs; whnf
abbrev s_law_is_ints : Stmt := p_law_is_ints.1
abbrev N_law_is_ints : List Str := ["_law_value", "_law_listed", "_law_many", "_law_one"]
abbrev P_law_is_ints : List Str := ["_law_value", "_law_listed", "_law_many"]
theorem sc_law_is_ints : FnScope N_law_is_ints P_law_is_ints (defScope s_law_is_ints) := ⟨rfl, rfl, rfl, by decide +kernel, rfl, by decide +kernel, by decide +kernel⟩
def p_law_same : { s : Stmt // top 49 = s } := by
  refine ⟨?s, ?h⟩
  case h => conv => lhs; whnf
abbrev s_law_same : Stmt := p_law_same.1
abbrev N_law_same : List Str := ["_law_actual", "_law_expected", "_law_k", "_law_key"]
abbrev P_law_same : List Str := ["_law_actual", "_law_expected"]
theorem sc_law_same : FnScope N_law_same P_law_same (defScope s_law_same) := ⟨rfl, rfl, rfl, by decide +kernel, rfl, by decide +kernel, by decide +kernel⟩
def p_law_class_sizes : { s : Stmt // top 50 = s } := by
  refine ⟨?s, ?h⟩
  case h => conv => lhs; whnf
abbrev s_law_class_sizes : Stmt := p_law_class_sizes.1
abbrev N_law_class_sizes : List Str := ["_law_page_width", "_law_size"]
abbrev P_law_class_sizes : List Str := ["_law_page_width"]
theorem sc_law_class_sizes : FnScope N_law_class_sizes P_law_class_sizes (defScope s_law_class_sizes) := ⟨rfl, rfl, rfl, by decide +kernel, rfl, by decide +kernel, by decide +kernel⟩
def p_law_class_ask : { s : Stmt // top 51 = s } := by
  refine ⟨?s, ?h⟩
  case h => conv => lhs; whnf
abbrev s_law_class_ask : Stmt := p_law_class_ask.1
abbrev N_law_class_ask : List Str := ["_law_draws_here", "_law_page_width", "_law_kind", "_law_size", "_law_alignment_here"]
abbrev P_law_class_ask : List Str := ["_law_draws_here"]
theorem sc_law_class_ask : FnScope N_law_class_ask P_law_class_ask (defScope s_law_class_ask) := ⟨rfl, rfl, rfl, by decide +kernel, rfl, by decide +kernel, by decide +kernel⟩
def p_law_is_grain : { s : Stmt // top 52 = s } := by
  refine ⟨?s, ?h⟩
  case h => conv => lhs; whnf
abbrev s_law_is_grain : Stmt := p_law_is_grain.1
abbrev N_law_is_grain : List Str := ["_law_size", "_law_told"]
abbrev P_law_is_grain : List Str := ["_law_size", "_law_told"]
theorem sc_law_is_grain : FnScope N_law_is_grain P_law_is_grain (defScope s_law_is_grain) := ⟨rfl, rfl, rfl, by decide +kernel, rfl, by decide +kernel, by decide +kernel⟩
def p_law_two_fit : { s : Stmt // top 53 = s } := by
  refine ⟨?s, ?h⟩
  case h => conv => lhs; whnf
abbrev s_law_two_fit : Stmt := p_law_two_fit.1
abbrev N_law_two_fit : List Str := ["_law_page_width", "_law_power_here", "_law_size", "_law_grain"]
abbrev P_law_two_fit : List Str := ["_law_page_width", "_law_power_here", "_law_size", "_law_grain"]
theorem sc_law_two_fit : FnScope N_law_two_fit P_law_two_fit (defScope s_law_two_fit) := ⟨rfl, rfl, rfl, by decide +kernel, rfl, by decide +kernel, by decide +kernel⟩
def p_law_is_order : { s : Stmt // top 54 = s } := by
  refine ⟨?s, ?h⟩
  case h => conv => lhs; whnf
abbrev s_law_is_order : Stmt := p_law_is_order.1
abbrev N_law_is_order : List Str := ["_law_page_width", "_law_size", "_law_told", "_law_grain", "_law_one"]
abbrev P_law_is_order : List Str := ["_law_page_width", "_law_size", "_law_told"]
theorem sc_law_is_order : FnScope N_law_is_order P_law_is_order (defScope s_law_is_order) := ⟨rfl, rfl, rfl, by decide +kernel, rfl, by decide +kernel, by decide +kernel⟩
def p_law_is_class : { s : Stmt // top 55 = s } := by
  refine ⟨?s, ?h⟩
  case h => conv => lhs; whnf
abbrev s_law_is_class : Stmt := p_law_is_class.1
abbrev N_law_is_class : List Str := ["_law_sizes", "_law_size", "_law_alignment_here", "_law_told", "_law_k", "_law_serves"]
abbrev P_law_is_class : List Str := ["_law_sizes", "_law_size", "_law_alignment_here", "_law_told"]
theorem sc_law_is_class : FnScope N_law_is_class P_law_is_class (defScope s_law_is_class) := ⟨rfl, rfl, rfl, by decide +kernel, rfl, by decide +kernel, by decide +kernel⟩
def p_law_refusal : { s : Stmt // top 56 = s } := by
  refine ⟨?s, ?h⟩
  case h => conv => lhs; whnf
abbrev s_law_refusal : Stmt := p_law_refusal.1
abbrev N_law_refusal : List Str := ["_law_name", "_law_row", "e", "_law_kinds"]
abbrev P_law_refusal : List Str := ["_law_name", "_law_row"]
theorem sc_law_refusal : FnScope N_law_refusal P_law_refusal (defScope s_law_refusal) := ⟨rfl, rfl, rfl, by decide +kernel, rfl, by decide +kernel, by decide +kernel⟩
def p_law_refuses : { s : Stmt // top 57 = s } := by
  refine ⟨?s, ?h⟩
  case h => conv => lhs; whnf
abbrev s_law_refuses : Stmt := p_law_refuses.1
abbrev N_law_refuses : List Str := ["_law_draws_here", "_law_ask", "_law_row", "_law_kind", "_law_name", "_law_at", "_law_title", "_law_due"]
abbrev P_law_refuses : List Str := ["_law_draws_here", "_law_ask"]
theorem sc_law_refuses : FnScope N_law_refuses P_law_refuses (defScope s_law_refuses) := ⟨rfl, rfl, rfl, by decide +kernel, rfl, by decide +kernel, by decide +kernel⟩
def p_law : { s : Stmt // top 58 = s } := by
  refine ⟨?s, ?h⟩
  case h => conv => lhs; whnf
abbrev s_law : Stmt := p_law.1
abbrev N_law : List Str := ["_law_script", "_law_draws_here", "_law_asks", "_law_page_width", "_law_size", "_law_alignment_here", "_law_told", "_law_found", "_law_one"]
abbrev P_law : List Str := ["_law_script"]
theorem sc_law : FnScope N_law P_law (defScope s_law) := ⟨rfl, rfl, rfl, by decide +kernel, rfl, by decide +kernel, by decide +kernel⟩
structure Tx (K : PySem.W.Frag) (mg : Str → Option Value) where
  fd_is_whole : FuncData
  F_is_whole : FnP K "is_whole" s_is_whole (He.ga K "is_whole") fd_is_whole
  g_is_whole : mg "is_whole" = some (.ref (He.ga K "is_whole"))
  fd_need : FuncData
  F_need : FnP K "need" s_need (He.ga K "need") fd_need
  g_need : mg "need" = some (.ref (He.ga K "need"))
  fd_need_whole : FuncData
  F_need_whole : FnP K "need_whole" s_need_whole (He.ga K "need_whole") fd_need_whole
  g_need_whole : mg "need_whole" = some (.ref (He.ga K "need_whole"))
  fd_is_width : FuncData
  F_is_width : FnP K "is_width" s_is_width (He.ga K "is_width") fd_is_width
  g_is_width : mg "is_width" = some (.ref (He.ga K "is_width"))
  fd_is_power : FuncData
  F_is_power : FnP K "is_power" s_is_power (He.ga K "is_power") fd_is_power
  g_is_power : mg "is_power" = some (.ref (He.ga K "is_power"))
  fd_need_align : FuncData
  F_need_align : FnP K "need_align" s_need_align (He.ga K "need_align") fd_need_align
  g_need_align : mg "need_align" = some (.ref (He.ga K "need_align"))
  fd_power_in : FuncData
  F_power_in : FnP K "power_in" s_power_in (He.ga K "power_in") fd_power_in
  g_power_in : mg "power_in" = some (.ref (He.ga K "power_in"))
  fd_need_shape : FuncData
  F_need_shape : FnP K "need_shape" s_need_shape (He.ga K "need_shape") fd_need_shape
  g_need_shape : mg "need_shape" = some (.ref (He.ga K "need_shape"))
  fd_slab_shape : FuncData
  F_slab_shape : FnP K "slab_shape" s_slab_shape (He.ga K "slab_shape") fd_slab_shape
  g_slab_shape : mg "slab_shape" = some (.ref (He.ga K "slab_shape"))
  fd_class_sizes : FuncData
  F_class_sizes : FnP K "class_sizes" s_class_sizes (He.ga K "class_sizes") fd_class_sizes
  g_class_sizes : mg "class_sizes" = some (.ref (He.ga K "class_sizes"))
  fd_class_align : FuncData
  F_class_align : FnP K "class_align" s_class_align (He.ga K "class_align") fd_class_align
  g_class_align : mg "class_align" = some (.ref (He.ga K "class_align"))
  fd_class_order : FuncData
  F_class_order : FnP K "class_order" s_class_order (He.ga K "class_order") fd_class_order
  g_class_order : mg "class_order" = some (.ref (He.ga K "class_order"))
  fd_has_slots : FuncData
  F_has_slots : FnP K "has_slots" s_has_slots (He.ga K "has_slots") fd_has_slots
  g_has_slots : mg "has_slots" = some (.ref (He.ga K "has_slots"))
  fd_class_of : FuncData
  F_class_of : FnP K "class_of" s_class_of (He.ga K "class_of") fd_class_of
  g_class_of : mg "class_of" = some (.ref (He.ga K "class_of"))
  fd_law_draws : FuncData
  F_law_draws : FnP K "_law_draws" s_law_draws (He.ga K "_law_draws") fd_law_draws
  g_law_draws : mg "_law_draws" = some (.ref (He.ga K "_law_draws"))
  fd_law_next_cell : FuncData
  F_law_next_cell : FnP K "_law_next_cell" s_law_next_cell (He.ga K "_law_next_cell") fd_law_next_cell
  g_law_next_cell : mg "_law_next_cell" = some (.ref (He.ga K "_law_next_cell"))
  fd_law_mixed : FuncData
  F_law_mixed : FnP K "_law_mixed" s_law_mixed (He.ga K "_law_mixed") fd_law_mixed
  g_law_mixed : mg "_law_mixed" = some (.ref (He.ga K "_law_mixed"))
  fd_law_take : FuncData
  F_law_take : FnP K "_law_take" s_law_take (He.ga K "_law_take") fd_law_take
  g_law_take : mg "_law_take" = some (.ref (He.ga K "_law_take"))
  fd_law_among : FuncData
  F_law_among : FnP K "_law_among" s_law_among (He.ga K "_law_among") fd_law_among
  g_law_among : mg "_law_among" = some (.ref (He.ga K "_law_among"))
  fd_law_between : FuncData
  F_law_between : FnP K "_law_between" s_law_between (He.ga K "_law_between") fd_law_between
  g_law_between : mg "_law_between" = some (.ref (He.ga K "_law_between"))
  fd_law_number : FuncData
  F_law_number : FnP K "_law_number" s_law_number (He.ga K "_law_number") fd_law_number
  g_law_number : mg "_law_number" = some (.ref (He.ga K "_law_number"))
  fd_law_alignment : FuncData
  F_law_alignment : FnP K "_law_alignment" s_law_alignment (He.ga K "_law_alignment") fd_law_alignment
  g_law_alignment : mg "_law_alignment" = some (.ref (He.ga K "_law_alignment"))
  fd_law_power : FuncData
  F_law_power : FnP K "_law_power" s_law_power (He.ga K "_law_power") fd_law_power
  g_law_power : mg "_law_power" = some (.ref (He.ga K "_law_power"))
  fd_law_up : FuncData
  F_law_up : FnP K "_law_up" s_law_up (He.ga K "_law_up") fd_law_up
  g_law_up : mg "_law_up" = some (.ref (He.ga K "_law_up"))
  fd_law_long : FuncData
  F_law_long : FnP K "_law_long" s_law_long (He.ga K "_law_long") fd_law_long
  g_law_long : mg "_law_long" = some (.ref (He.ga K "_law_long"))
  fd_law_not_integer : FuncData
  F_law_not_integer : FnP K "_law_not_integer" s_law_not_integer (He.ga K "_law_not_integer") fd_law_not_integer
  g_law_not_integer : mg "_law_not_integer" = some (.ref (He.ga K "_law_not_integer"))
  fd_law_not_within : FuncData
  F_law_not_within : FnP K "_law_not_within" s_law_not_within (He.ga K "_law_not_within") fd_law_not_within
  g_law_not_within : mg "_law_not_within" = some (.ref (He.ga K "_law_not_within"))
  fd_law_not_among : FuncData
  F_law_not_among : FnP K "_law_not_among" s_law_not_among (He.ga K "_law_not_among") fd_law_not_among
  g_law_not_among : mg "_law_not_among" = some (.ref (He.ga K "_law_not_among"))
  fd_law_not_alignment : FuncData
  F_law_not_alignment : FnP K "_law_not_alignment" s_law_not_alignment (He.ga K "_law_not_alignment") fd_law_not_alignment
  g_law_not_alignment : mg "_law_not_alignment" = some (.ref (He.ga K "_law_not_alignment"))
  fd_law_is_int : FuncData
  F_law_is_int : FnP K "_law_is_int" s_law_is_int (He.ga K "_law_is_int") fd_law_is_int
  g_law_is_int : mg "_law_is_int" = some (.ref (He.ga K "_law_is_int"))
  fd_law_is_within : FuncData
  F_law_is_within : FnP K "_law_is_within" s_law_is_within (He.ga K "_law_is_within") fd_law_is_within
  g_law_is_within : mg "_law_is_within" = some (.ref (He.ga K "_law_is_within"))
  fd_law_is_ints : FuncData
  F_law_is_ints : FnP K "_law_is_ints" s_law_is_ints (He.ga K "_law_is_ints") fd_law_is_ints
  g_law_is_ints : mg "_law_is_ints" = some (.ref (He.ga K "_law_is_ints"))
  fd_law_same : FuncData
  F_law_same : FnP K "_law_same" s_law_same (He.ga K "_law_same") fd_law_same
  g_law_same : mg "_law_same" = some (.ref (He.ga K "_law_same"))
  fd_law_class_sizes : FuncData
  F_law_class_sizes : FnP K "_law_class_sizes" s_law_class_sizes (He.ga K "_law_class_sizes") fd_law_class_sizes
  g_law_class_sizes : mg "_law_class_sizes" = some (.ref (He.ga K "_law_class_sizes"))
  fd_law_class_ask : FuncData
  F_law_class_ask : FnP K "_law_class_ask" s_law_class_ask (He.ga K "_law_class_ask") fd_law_class_ask
  g_law_class_ask : mg "_law_class_ask" = some (.ref (He.ga K "_law_class_ask"))
  fd_law_is_grain : FuncData
  F_law_is_grain : FnP K "_law_is_grain" s_law_is_grain (He.ga K "_law_is_grain") fd_law_is_grain
  g_law_is_grain : mg "_law_is_grain" = some (.ref (He.ga K "_law_is_grain"))
  fd_law_two_fit : FuncData
  F_law_two_fit : FnP K "_law_two_fit" s_law_two_fit (He.ga K "_law_two_fit") fd_law_two_fit
  g_law_two_fit : mg "_law_two_fit" = some (.ref (He.ga K "_law_two_fit"))
  fd_law_is_order : FuncData
  F_law_is_order : FnP K "_law_is_order" s_law_is_order (He.ga K "_law_is_order") fd_law_is_order
  g_law_is_order : mg "_law_is_order" = some (.ref (He.ga K "_law_is_order"))
  fd_law_is_class : FuncData
  F_law_is_class : FnP K "_law_is_class" s_law_is_class (He.ga K "_law_is_class") fd_law_is_class
  g_law_is_class : mg "_law_is_class" = some (.ref (He.ga K "_law_is_class"))
  fd_law_refusal : FuncData
  F_law_refusal : FnP K "_law_refusal" s_law_refusal (He.ga K "_law_refusal") fd_law_refusal
  g_law_refusal : mg "_law_refusal" = some (.ref (He.ga K "_law_refusal"))
  fd_law_refuses : FuncData
  F_law_refuses : FnP K "_law_refuses" s_law_refuses (He.ga K "_law_refuses") fd_law_refuses
  g_law_refuses : mg "_law_refuses" = some (.ref (He.ga K "_law_refuses"))
  fd_law : FuncData
  F_law : FnP K "law" s_law (He.ga K "law") fd_law
  g_law : mg "law" = some (.ref (He.ga K "law"))
  c_LEAST_SLOTS : ∃ t, mg "LEAST_SLOTS" = some (.int 2 t)
  c_MOST_ALIGN : ∃ t, mg "MOST_ALIGN" = some (.int 1073741824 t)
  c_MOST_CLASS_ALIGN : ∃ t, mg "MOST_CLASS_ALIGN" = some (.int 4 t)
  c_MOST_ORDER : ∃ t, mg "MOST_ORDER" = some (.int 8 t)
  c_MOST_PLACE : ∃ t, mg "MOST_PLACE" = some (.int 1000000000 t)
  c_MOST_SLOT : ∃ t, mg "MOST_SLOT" = some (.int 4096 t)
  g_SIZES : mg "SIZES" = some (.ref (He.ga K "SIZES"))
  w_SIZES : ∀ H : Hp, SqT K H (He.ga K "SIZES") [.int 1, .int 2, .int 3, .int 4, .int 6, .int 8, .int 12, .int 16, .int 24, .int 32]
  g_WIDTHS : mg "WIDTHS" = some (.ref (He.ga K "WIDTHS"))
  w_WIDTHS : ∀ H : Hp, SqT K H (He.ga K "WIDTHS") [.int 16, .int 32, .int 64]
  g_BadValue : mg "BadValue" = some (.ref (He.ga K "BadValue"))
  g_StoreError : mg "StoreError" = some (.ref (He.ga K "StoreError"))
  g_Unknown : mg "Unknown" = some (.ref (He.ga K "Unknown"))
  z_ValueError : mg "ValueError" = none
  z_bool : mg "bool" = none
  z_dict : mg "dict" = none
  z_enumerate : mg "enumerate" = none
  z_int : mg "int" = none
  z_isinstance : mg "isinstance" = none
  z_len : mg "len" = none
  z_list : mg "list" = none
  z_max : mg "max" = none
  z_min : mg "min" = none
  z_range : mg "range" = none
  z_str : mg "str" = none
  z_tuple : mg "tuple" = none
  fd_BadValue : FuncData
  F_BadValue : FunD K "__init__" "BadValue.__init__" (defArgs s_BadValue) (defBody s_BadValue) (defScope s_BadValue) [] [] (iBV K) fd_BadValue
  x_BadValue : OexC K (aBV K)
  i_BadValue : PySem.W.findIn K (.ref (aBV K)) "__init__" = some (some (.ref (iBV K)))
  t_BadValue : PySem.W.typeIn K (.ref (iBV K)) = some (.type "function")
  n_BadValue_parameter : PySem.W.findIn K (.ref (aBV K)) "parameter" = some none
  n_BadValue_told : PySem.W.findIn K (.ref (aBV K)) "told" = some none
  f_BadValue : XfC K (aBV K)
  d_BadValue : ExcD K (aBV K)
  m_BadValue : PySem.W.exmOne K (.ref (aBV K)) (.ref (aBV K)) = some true
  k_ValueError : PySem.W.kitOne K (.ref (aBV K)) (.type "ValueError") = some true
  k_StoreError : PySem.W.kitOne K (.ref (aBV K)) (.ref (He.ga K "StoreError")) = some true
  k_BadValue : PySem.W.kitOne K (.ref (aBV K)) (.ref (He.ga K "BadValue")) = some true
  k_Unknown : PySem.W.kitOne K (.ref (aBV K)) (.ref (He.ga K "Unknown")) = some false
variable {P : Program} {w : World} {K : PySem.W.Frag} {mg : Str → Option Value} {base : Heap}
theorem b_is_whole (T : Tx K mg) : Binds K T.fd_is_whole P_is_whole [] := T.F_is_whole.bindsN fun _ _ _ _ _ _ us hl => match us, hl with | [_], _ => rfl
theorem b_need (T : Tx K mg) : Binds K T.fd_need P_need [] := T.F_need.bindsN fun _ _ _ _ _ _ us hl => match us, hl with | [_, _], _ => rfl
theorem b_need_whole (T : Tx K mg) : Binds K T.fd_need_whole P_need_whole [] := T.F_need_whole.bindsN fun _ _ _ _ _ _ us hl => match us, hl with | [_, _, _, _], _ => rfl
theorem b_is_width (T : Tx K mg) : Binds K T.fd_is_width P_is_width [] := T.F_is_width.bindsN fun _ _ _ _ _ _ us hl => match us, hl with | [_], _ => rfl
theorem b_is_power (T : Tx K mg) : Binds K T.fd_is_power P_is_power [] := T.F_is_power.bindsN fun _ _ _ _ _ _ us hl => match us, hl with | [_], _ => rfl
theorem b_need_align (T : Tx K mg) : Binds K T.fd_need_align P_need_align [] := T.F_need_align.bindsN fun _ _ _ _ _ _ us hl => match us, hl with | [_, _, _], _ => rfl
theorem b_power_in (T : Tx K mg) : Binds K T.fd_power_in P_power_in [] := T.F_power_in.bindsN fun _ _ _ _ _ _ us hl => match us, hl with | [_], _ => rfl
theorem b_need_shape (T : Tx K mg) : Binds K T.fd_need_shape P_need_shape [] := T.F_need_shape.bindsN fun _ _ _ _ _ _ us hl => match us, hl with | [_, _, _, _], _ => rfl
theorem b_slab_shape (T : Tx K mg) : Binds K T.fd_slab_shape P_slab_shape [] := T.F_slab_shape.bindsN fun _ _ _ _ _ _ us hl => match us, hl with | [_, _, _, _], _ => rfl
theorem b_class_sizes (T : Tx K mg) : Binds K T.fd_class_sizes P_class_sizes [] := T.F_class_sizes.bindsN fun _ _ _ _ _ _ us hl => match us, hl with | [_], _ => rfl
theorem b_class_align (T : Tx K mg) : Binds K T.fd_class_align P_class_align [] := T.F_class_align.bindsN fun _ _ _ _ _ _ us hl => match us, hl with | [_], _ => rfl
theorem b_class_order (T : Tx K mg) : Binds K T.fd_class_order P_class_order [] := T.F_class_order.bindsN fun _ _ _ _ _ _ us hl => match us, hl with | [_, _], _ => rfl
theorem b_has_slots (T : Tx K mg) : Binds K T.fd_has_slots P_has_slots [] := T.F_has_slots.bindsN fun _ _ _ _ _ _ us hl => match us, hl with | [_], _ => rfl
theorem b_class_of (T : Tx K mg) : Binds K T.fd_class_of P_class_of [] := T.F_class_of.bindsN fun _ _ _ _ _ _ us hl => match us, hl with | [_, _, _], _ => rfl
theorem b_law_draws (T : Tx K mg) : Binds K T.fd_law_draws P_law_draws [] := T.F_law_draws.bindsN fun _ _ _ _ _ _ us hl => match us, hl with | [_], _ => rfl
theorem b_law_next_cell (T : Tx K mg) : Binds K T.fd_law_next_cell P_law_next_cell [] := T.F_law_next_cell.bindsN fun _ _ _ _ _ _ us hl => match us, hl with | [_], _ => rfl
theorem b_law_mixed (T : Tx K mg) : Binds K T.fd_law_mixed P_law_mixed [] := T.F_law_mixed.bindsN fun _ _ _ _ _ _ us hl => match us, hl with | [_, _, _], _ => rfl
theorem b_law_take (T : Tx K mg) : Binds K T.fd_law_take P_law_take [] := T.F_law_take.bindsN fun _ _ _ _ _ _ us hl => match us, hl with | [_, _], _ => rfl
theorem b_law_among (T : Tx K mg) : Binds K T.fd_law_among P_law_among [] := T.F_law_among.bindsN fun _ _ _ _ _ _ us hl => match us, hl with | [_, _], _ => rfl
theorem b_law_between (T : Tx K mg) : Binds K T.fd_law_between P_law_between [] := T.F_law_between.bindsN fun _ _ _ _ _ _ us hl => match us, hl with | [_, _, _], _ => rfl
theorem b_law_number (T : Tx K mg) : Binds K T.fd_law_number P_law_number [] := T.F_law_number.bindsN fun _ _ _ _ _ _ us hl => match us, hl with | [_, _, _], _ => rfl
theorem b_law_alignment (T : Tx K mg) : Binds K T.fd_law_alignment P_law_alignment [] := T.F_law_alignment.bindsN fun _ _ _ _ _ _ us hl => match us, hl with | [_, _], _ => rfl
theorem b_law_power (T : Tx K mg) : Binds K T.fd_law_power P_law_power [] := T.F_law_power.bindsN fun _ _ _ _ _ _ us hl => match us, hl with | [_], _ => rfl
theorem b_law_up (T : Tx K mg) : Binds K T.fd_law_up P_law_up [] := T.F_law_up.bindsN fun _ _ _ _ _ _ us hl => match us, hl with | [_, _], _ => rfl
theorem b_law_long (T : Tx K mg) : Binds K T.fd_law_long P_law_long [] := T.F_law_long.bindsN fun _ _ _ _ _ _ us hl => match us, hl with | [], _ => rfl
theorem b_law_not_integer (T : Tx K mg) : Binds K T.fd_law_not_integer P_law_not_integer [] := T.F_law_not_integer.bindsN fun _ _ _ _ _ _ us hl => match us, hl with | [_], _ => rfl
theorem b_law_not_within (T : Tx K mg) : Binds K T.fd_law_not_within P_law_not_within [] := T.F_law_not_within.bindsN fun _ _ _ _ _ _ us hl => match us, hl with | [_, _, _], _ => rfl
theorem b_law_not_among (T : Tx K mg) : Binds K T.fd_law_not_among P_law_not_among [] := T.F_law_not_among.bindsN fun _ _ _ _ _ _ us hl => match us, hl with | [_, _], _ => rfl
theorem b_law_not_alignment (T : Tx K mg) : Binds K T.fd_law_not_alignment P_law_not_alignment [] := T.F_law_not_alignment.bindsN fun _ _ _ _ _ _ us hl => match us, hl with | [_, _], _ => rfl
theorem b_law_is_int (T : Tx K mg) : Binds K T.fd_law_is_int P_law_is_int [] := T.F_law_is_int.bindsN fun _ _ _ _ _ _ us hl => match us, hl with | [_], _ => rfl
theorem b_law_is_within (T : Tx K mg) : Binds K T.fd_law_is_within P_law_is_within [] := T.F_law_is_within.bindsN fun _ _ _ _ _ _ us hl => match us, hl with | [_, _, _], _ => rfl
theorem b_law_is_ints (T : Tx K mg) : Binds K T.fd_law_is_ints P_law_is_ints [] := T.F_law_is_ints.bindsN fun _ _ _ _ _ _ us hl => match us, hl with | [_, _, _], _ => rfl
theorem b_law_same (T : Tx K mg) : Binds K T.fd_law_same P_law_same [] := T.F_law_same.bindsN fun _ _ _ _ _ _ us hl => match us, hl with | [_, _], _ => rfl
theorem b_law_class_sizes (T : Tx K mg) : Binds K T.fd_law_class_sizes P_law_class_sizes [] := T.F_law_class_sizes.bindsN fun _ _ _ _ _ _ us hl => match us, hl with | [_], _ => rfl
theorem b_law_class_ask (T : Tx K mg) : Binds K T.fd_law_class_ask P_law_class_ask [] := T.F_law_class_ask.bindsN fun _ _ _ _ _ _ us hl => match us, hl with | [_], _ => rfl
theorem b_law_is_grain (T : Tx K mg) : Binds K T.fd_law_is_grain P_law_is_grain [] := T.F_law_is_grain.bindsN fun _ _ _ _ _ _ us hl => match us, hl with | [_, _], _ => rfl
theorem b_law_two_fit (T : Tx K mg) : Binds K T.fd_law_two_fit P_law_two_fit [] := T.F_law_two_fit.bindsN fun _ _ _ _ _ _ us hl => match us, hl with | [_, _, _, _], _ => rfl
theorem b_law_is_order (T : Tx K mg) : Binds K T.fd_law_is_order P_law_is_order [] := T.F_law_is_order.bindsN fun _ _ _ _ _ _ us hl => match us, hl with | [_, _, _], _ => rfl
theorem b_law_is_class (T : Tx K mg) : Binds K T.fd_law_is_class P_law_is_class [] := T.F_law_is_class.bindsN fun _ _ _ _ _ _ us hl => match us, hl with | [_, _, _, _], _ => rfl
theorem b_law_refusal (T : Tx K mg) : Binds K T.fd_law_refusal P_law_refusal [] := T.F_law_refusal.bindsN fun _ _ _ _ _ _ us hl => match us, hl with | [_, _], _ => rfl
theorem b_law_refuses (T : Tx K mg) : Binds K T.fd_law_refuses P_law_refuses [] := T.F_law_refuses.bindsN fun _ _ _ _ _ _ us hl => match us, hl with | [_, _], _ => rfl
theorem b_law (T : Tx K mg) : Binds K T.fd_law P_law [] := T.F_law.bindsN fun _ _ _ _ _ _ us hl => match us, hl with | [_], _ => rfl
theorem b_BadValue (T : Tx K mg) : Binds K T.fd_BadValue P_BadValue [] := T.F_BadValue.bindsN fun _ _ _ _ _ _ us hl => match us, hl with | [_, _], _ => rfl
end K26

namespace K26
open PySem PySem.Spec PyProof.Rows L2 LL
variable {P : Program} {w : World} {K : PySem.W.Frag} {mg : Str → Option Value} {base : Heap}

/-- 0 < many: a number of 0 .. many - 1 -/
def sp_law_mixed : Sp := fun vs H Q _ => ∃ a b m : Int, vs = [.int a, .int b, .int m] ∧ 0 < m ∧ ∀ v : Int, 0 ≤ v → v < m → Q (.int v) H
def sp_law_next_cell : Sp := fun vs H Q _ => ∃ d s, vs = [.ref d] ∧ Drw d s H ∧ ∀ H', Aft d s H H' → Q .non H'
def sp_law_take : Sp := fun vs H Q _ => ∃ d s m, vs = [.ref d, .int m] ∧ Drw d s H ∧ m.natAbs < 2 ^ 4000 ∧ ∀ v H', Aft d s H H' → 0 ≤ v → (v < m ∨ v = 0) → Q (.int v) H'
theorem use_take {d s : Addr} {m : Int} {H : Hp} {Q : VK} {E : XK} (D : Drw d s H) (hm : m.natAbs < 2 ^ 4000) (q : ∀ v H', Aft d s H H' → Drw d s H' → 0 ≤ v → (v < m ∨ v = 0) → Q (.int v) H') : sp_law_take [.ref d, .int m] H Q E :=
  ⟨d, s, m, rfl, D, hm, fun v H' a => q v H' a a.dr⟩

theorem ok_law_mixed (T : Tx K mg) : FnOk P w K mg base CX0 1 (He.ga K "_law_mixed") T.fd_law_mixed P_law_mixed sp_law_mixed := by
  refine T.F_law_mixed.ok sc_law_mixed (fun vs H Q E h => ?_) (fun cdv A outer s H vs Q E hr h => ⟨_, PSs.nox (pss_cons (ps_set (i := 3) sc_law_mixed.nd rfl (Or.inl rfl) (pe_int)) (pss_cons (ps_for PassesOwn.never rfl (pi_range1 rfl T.z_range (pa_cons (pe_int) pa_nil)) (pg_name (i := 4) sc_law_mixed.nd rfl (Or.inl rfl)) (pss_cons (ps_set (i := 5) sc_law_mixed.nd rfl (Or.inl rfl) (pe_op op_mod (pe_callTy LL.call_intI (by rfl) T.z_int (by decide +kernel) (pa_cons (pe_op op_mul (pe_op op_add (pe_op op_add (pv 0) (pe_int)) (pe_op op_mul (pe_op op_add (pe_op op_mul (pe_int) (pv 1)) (pv 4)) (pe_int))) (pe_int)) pa_nil)) (pe_int))) (pss_cons (ps_set (i := 6) sc_law_mixed.nd rfl (Or.inl rfl) (pe_op op_mod (pe_callTy LL.call_intI (by rfl) T.z_int (by decide +kernel) (pa_cons (pe_op op_add (pe_op op_add (pe_op op_mul (pv 5) (pv 5)) (pe_op op_mul (pe_op op_fdiv (pv 5) (pe_int)) (pe_int))) (pv 1)) pa_nil)) (pe_int))) (pss_one (ps_set (i := 3) sc_law_mixed.nd rfl (Or.inl rfl) (pe_op op_add (pe_op op_mul (pv 3) (pe_int)) (pe_op op_fdiv (pv 6) (pe_int)))))))) (pss_one (ps_ret (pe_op op_mod (pe_callTy LL.call_intI (by rfl) T.z_int (by decide +kernel) (pa_cons (pv 3) pa_nil)) (pv 2)))))), ?_⟩)
  · obtain ⟨_, _, _, rfl, _⟩ := h
    rfl
  · obtain ⟨a, b, m, rfl, hm, q⟩ := h
    simp only [tSeq, tAsg, tRet, tRetN, tDrop, tNext, tVar, tC, gName, tOp, tUn, rI, rI0, rU, tIfS, tTest, tB, tIf, tAnd, tOr, tNot, tAndV, tOrV, tNotV, tCall, tCons, tNil, tCB, tLst, tTup, tChain, CMul, CDiv, CPow, rEq, rNe, gSub, L2.start, LL.cxK0, LL.cxK1, List.map_cons, List.map_nil, List.length_cons, List.length_nil, List.replicate_succ, List.replicate_zero, List.cons_append, List.nil_append, List.append_nil, List.getElem?_cons_zero, List.getElem?_cons_succ, List.set_cons_zero, List.set_cons_succ, Nat.add_sub_cancel, Nat.reduceAdd, Nat.reduceSub, Option.some.injEq, V.int.injEq, V.bl.injEq, V.ref.injEq, V.str.injEq, List.cons.injEq, and_true, true_and, and_false, false_and, exists_eq_left, exists_eq_left', exists_and_left, exists_and_right, exists_eq, exists_eq', LL.if_dec, reduceCtorEq, exists_false, exists_const, or_false, false_or, if_true, if_false, LL.rInt1, LL.rMx, LL.rMn, and_assoc, Int.reduceNeg, Int.reduceLT, Int.reduceLE, Int.reduceMul, Int.reduceAdd, Int.reduceSub, Int.reducePow, Int.reduceToNat, Nat.reducePow, Nat.reduceLT, true_or, or_true, Bool.not_true, Bool.not_false, Bool.false_eq_true, Bool.or_false, Bool.or_true, Bool.true_or, Bool.false_or, decide_true, decide_false, not_true_eq_false, not_false_eq_true, LL.scal_int, LL.scal_bl, LL.scal_str, LL.isInt, LL.isBl, LL.isStr, LL.isLst, LL.isTup, LL.isDic, N_law_mixed]
    refine use_forR (j := 2) (fun Q q => q) (by decide) (by decide) (fun i σ' H' => H' = H ∧ ∃ (v : Int) (x1 x2 x3 : Option V), σ' = [some (.int a), some (.int b), some (.int m), some (.int v), x1, x2, x3]) ⟨rfl, _, _, _, _, rfl⟩ ?_ ?_
    · rintro i σ' H' hi ⟨rfl, v, x1, x2, x3, rfl⟩
      simp only [tSeq, tAsg, tRet, tRetN, tDrop, tNext, tVar, tC, gName, tOp, tUn, rI, rI0, rU, tIfS, tTest, tB, tIf, tAnd, tOr, tNot, tAndV, tOrV, tNotV, tCall, tCons, tNil, tCB, tLst, tTup, tChain, CMul, CDiv, CPow, rEq, rNe, gSub, L2.start, LL.cxK0, LL.cxK1, List.map_cons, List.map_nil, List.length_cons, List.length_nil, List.replicate_succ, List.replicate_zero, List.cons_append, List.nil_append, List.append_nil, List.getElem?_cons_zero, List.getElem?_cons_succ, List.set_cons_zero, List.set_cons_succ, Nat.add_sub_cancel, Nat.reduceAdd, Nat.reduceSub, Option.some.injEq, V.int.injEq, V.bl.injEq, V.ref.injEq, V.str.injEq, List.cons.injEq, and_true, true_and, and_false, false_and, exists_eq_left, exists_eq_left', exists_and_left, exists_and_right, exists_eq, exists_eq', LL.if_dec, reduceCtorEq, exists_false, exists_const, or_false, false_or, if_true, if_false, LL.rInt1, LL.rMx, LL.rMn, and_assoc, Int.reduceNeg, Int.reduceLT, Int.reduceLE, Int.reduceMul, Int.reduceAdd, Int.reduceSub, Int.reducePow, Int.reduceToNat, Nat.reducePow, Nat.reduceLT, true_or, or_true, Bool.not_true, Bool.not_false, Bool.false_eq_true, Bool.or_false, Bool.or_true, Bool.true_or, Bool.false_or, decide_true, decide_false, not_true_eq_false, not_false_eq_true, LL.scal_int, LL.scal_bl, LL.scal_str, LL.isInt, LL.isBl, LL.isStr, LL.isLst, LL.isTup, LL.isDic]
      have h1 := Int.emod_nonneg ((a + 7 + (2 * b + (0 + (i : Int))) * 1000003) * 48271) (show (2147483647 : Int) ≠ 0 by decide)
      have h2 := Int.emod_lt_of_pos ((a + 7 + (2 * b + (0 + (i : Int))) * 1000003) * 48271) (show (0 : Int) < 2147483647 by decide)
      exact Or.inl ⟨by omega, by omega⟩
    · rintro σ' H' ⟨rfl, v, x1, x2, x3, rfl⟩
      simp only [tSeq, tAsg, tRet, tRetN, tDrop, tNext, tVar, tC, gName, tOp, tUn, rI, rI0, rU, tIfS, tTest, tB, tIf, tAnd, tOr, tNot, tAndV, tOrV, tNotV, tCall, tCons, tNil, tCB, tLst, tTup, tChain, CMul, CDiv, CPow, rEq, rNe, gSub, L2.start, LL.cxK0, LL.cxK1, List.map_cons, List.map_nil, List.length_cons, List.length_nil, List.replicate_succ, List.replicate_zero, List.cons_append, List.nil_append, List.append_nil, List.getElem?_cons_zero, List.getElem?_cons_succ, List.set_cons_zero, List.set_cons_succ, Nat.add_sub_cancel, Nat.reduceAdd, Nat.reduceSub, Option.some.injEq, V.int.injEq, V.bl.injEq, V.ref.injEq, V.str.injEq, List.cons.injEq, and_true, true_and, and_false, false_and, exists_eq_left, exists_eq_left', exists_and_left, exists_and_right, exists_eq, exists_eq', LL.if_dec, reduceCtorEq, exists_false, exists_const, or_false, false_or, if_true, if_false, LL.rInt1, LL.rMx, LL.rMn, and_assoc, Int.reduceNeg, Int.reduceLT, Int.reduceLE, Int.reduceMul, Int.reduceAdd, Int.reduceSub, Int.reducePow, Int.reduceToNat, Nat.reducePow, Nat.reduceLT, true_or, or_true, Bool.not_true, Bool.not_false, Bool.false_eq_true, Bool.or_false, Bool.or_true, Bool.true_or, Bool.false_or, decide_true, decide_false, not_true_eq_false, not_false_eq_true, LL.scal_int, LL.scal_bl, LL.scal_str, LL.isInt, LL.isBl, LL.isStr, LL.isLst, LL.isTup, LL.isDic]
      exact ⟨hm, q _ (Int.emod_nonneg _ (by omega)) (Int.emod_lt_of_pos _ hm)⟩
theorem ok_law_next_cell (T : Tx K mg) : FnOk P w K mg base CX0 1 (He.ga K "_law_next_cell") T.fd_law_next_cell P_law_next_cell sp_law_next_cell := by
  refine T.F_law_next_cell.ok sc_law_next_cell (fun vs H Q E h => ?_) (fun cdv A outer s H vs Q E hr h => ⟨_, PSs.nox (pss_cons (ps_set (i := 1) sc_law_next_cell.nd rfl (Or.inl rfl) (pe_ix (show IxR _ (rIxL K) from ix_list) (pv 0) (pe_int) (fun _ _ => rfl))) (pss_cons (ps_set (i := 2) sc_law_next_cell.nd rfl (Or.inl rfl) (pe_ix (show IxR _ (rIxL K) from ix_list) (pv 0) (pe_int) (fun _ _ => rfl))) (pss_one (ps_if (pt_cmpR op_lt (pe_ix (show IxR _ (rIxL K) from ix_list) (pv 2) (pe_int) (fun _ _ => rfl)) (pe_callB LL.call_lenL (by rfl) T.z_len (by decide +kernel) (pa_cons (pv 1) pa_nil)) (nomark _)) (pss_cons (ps_set (i := 3) sc_law_next_cell.nd rfl (Or.inl rfl) (pe_callTy LL.call_intI (by rfl) T.z_int (by decide +kernel) (pa_cons (pe_ix (show IxR _ (rIxL K) from ix_list) (pv 1) (pe_ix (show IxR _ (rIxL K) from ix_list) (pv 2) (pe_int) (fun _ _ => rfl)) (fun _ _ => rfl)) pa_nil))) (pss_cons (ps_asg (pe_op op_add (pe_ix (show IxR _ (rIxL K) from ix_list) (pv 2) (pe_int) (fun _ _ => rfl)) (pe_int)) (pg_sub (pv 2) (pe_int) set_list)) (pss_cons (ps_asg (pe_op op_mod (pe_callTy LL.call_intI (by rfl) T.z_int (by decide +kernel) (pa_cons (pe_op op_add (pe_op op_add (pe_op op_mul (pe_ix (show IxR _ (rIxL K) from ix_list) (pv 2) (pe_int) (fun _ _ => rfl)) (pe_int)) (pe_op op_mod (pv 3) (pe_int))) (pe_int)) pa_nil)) (pe_int)) (pg_sub (pv 2) (pe_int) set_list)) (pss_one (ps_if (pt_cmpR op_ge (pv 3) (pe_op op_pow (pe_int) (pe_int)) (nomark _)) (pss_one (ps_asg (pv 3) (pg_sub (pv 2) (pe_int) set_list))) (pss_one (ps_asg (pe_int) (pg_sub (pv 2) (pe_int) set_list)))))))) pss_nil)))), ?_⟩)
  · obtain ⟨_, _, rfl, _⟩ := h
    rfl
  · obtain ⟨d, s, rfl, D, q⟩ := h
    obtain ⟨⟨c, hd, hcs, ns, hc⟩, ⟨i, v, k, t, gg, hi, hs⟩, hds⟩ := _root_.id D
    simp only [tSeq, tAsg, tRet, tRetN, tDrop, tNext, tVar, tC, gName, tOp, tUn, rI, rI0, rU, tIfS, tTest, tB, tIf, tAnd, tOr, tNot, tAndV, tOrV, tNotV, tCall, tCons, tNil, tCB, tLst, tTup, tChain, CMul, CDiv, CPow, rEq, rNe, gSub, L2.start, LL.cxK0, LL.cxK1, List.map_cons, List.map_nil, List.length_cons, List.length_nil, List.replicate_succ, List.replicate_zero, List.cons_append, List.nil_append, List.append_nil, List.getElem?_cons_zero, List.getElem?_cons_succ, List.set_cons_zero, List.set_cons_succ, Nat.add_sub_cancel, Nat.reduceAdd, Nat.reduceSub, Option.some.injEq, V.int.injEq, V.bl.injEq, V.ref.injEq, V.str.injEq, List.cons.injEq, and_true, true_and, and_false, false_and, exists_eq_left, exists_eq_left', exists_and_left, exists_and_right, exists_eq, exists_eq', LL.if_dec, reduceCtorEq, exists_false, exists_const, or_false, false_or, if_true, if_false, LL.rInt1, LL.rMx, LL.rMn, and_assoc, Int.reduceNeg, Int.reduceLT, Int.reduceLE, Int.reduceMul, Int.reduceAdd, Int.reduceSub, Int.reducePow, Int.reduceToNat, Nat.reducePow, Nat.reduceLT, true_or, or_true, Bool.not_true, Bool.not_false, Bool.false_eq_true, Bool.or_false, Bool.or_true, Bool.true_or, Bool.false_or, decide_true, decide_false, not_true_eq_false, not_false_eq_true, LL.scal_int, LL.scal_bl, LL.scal_str, LL.isInt, LL.isBl, LL.isStr, LL.isLst, LL.isTup, LL.isDic, N_law_next_cell]
    refine use_ixL hd rfl (use_ixL hd rfl (use_ixL hs rfl ?_))
    refine use_lenL hc ?_
    simp only [tSeq, tAsg, tRet, tRetN, tDrop, tNext, tVar, tC, gName, tOp, tUn, rI, rI0, rU, tIfS, tTest, tB, tIf, tAnd, tOr, tNot, tAndV, tOrV, tNotV, tCall, tCons, tNil, tCB, tLst, tTup, tChain, CMul, CDiv, CPow, rEq, rNe, gSub, L2.start, LL.cxK0, LL.cxK1, List.map_cons, List.map_nil, List.length_cons, List.length_nil, List.replicate_succ, List.replicate_zero, List.cons_append, List.nil_append, List.append_nil, List.getElem?_cons_zero, List.getElem?_cons_succ, List.set_cons_zero, List.set_cons_succ, Nat.add_sub_cancel, Nat.reduceAdd, Nat.reduceSub, Option.some.injEq, V.int.injEq, V.bl.injEq, V.ref.injEq, V.str.injEq, List.cons.injEq, and_true, true_and, and_false, false_and, exists_eq_left, exists_eq_left', exists_and_left, exists_and_right, exists_eq, exists_eq', LL.if_dec, reduceCtorEq, exists_false, exists_const, or_false, false_or, if_true, if_false, LL.rInt1, LL.rMx, LL.rMn, and_assoc, Int.reduceNeg, Int.reduceLT, Int.reduceLE, Int.reduceMul, Int.reduceAdd, Int.reduceSub, Int.reducePow, Int.reduceToNat, Nat.reducePow, Nat.reduceLT, true_or, or_true, Bool.not_true, Bool.not_false, Bool.false_eq_true, Bool.or_false, Bool.or_true, Bool.true_or, Bool.false_or, decide_true, decide_false, not_true_eq_false, not_false_eq_true, LL.scal_int, LL.scal_bl, LL.scal_str, LL.isInt, LL.isBl, LL.isStr, LL.isLst, LL.isTup, LL.isDic]
    split
    · rename_i hlt
      obtain ⟨n, hn⟩ := atI_int hi (by simpa using hlt)
      refine use_ixL hs rfl (use_ixL hc hn ?_)
      simp only [tSeq, tAsg, tRet, tRetN, tDrop, tNext, tVar, tC, gName, tOp, tUn, rI, rI0, rU, tIfS, tTest, tB, tIf, tAnd, tOr, tNot, tAndV, tOrV, tNotV, tCall, tCons, tNil, tCB, tLst, tTup, tChain, CMul, CDiv, CPow, rEq, rNe, gSub, L2.start, LL.cxK0, LL.cxK1, List.map_cons, List.map_nil, List.length_cons, List.length_nil, List.replicate_succ, List.replicate_zero, List.cons_append, List.nil_append, List.append_nil, List.getElem?_cons_zero, List.getElem?_cons_succ, List.set_cons_zero, List.set_cons_succ, Nat.add_sub_cancel, Nat.reduceAdd, Nat.reduceSub, Option.some.injEq, V.int.injEq, V.bl.injEq, V.ref.injEq, V.str.injEq, List.cons.injEq, and_true, true_and, and_false, false_and, exists_eq_left, exists_eq_left', exists_and_left, exists_and_right, exists_eq, exists_eq', LL.if_dec, reduceCtorEq, exists_false, exists_const, or_false, false_or, if_true, if_false, LL.rInt1, LL.rMx, LL.rMn, and_assoc, Int.reduceNeg, Int.reduceLT, Int.reduceLE, Int.reduceMul, Int.reduceAdd, Int.reduceSub, Int.reducePow, Int.reduceToNat, Nat.reducePow, Nat.reduceLT, true_or, or_true, Bool.not_true, Bool.not_false, Bool.false_eq_true, Bool.or_false, Bool.or_true, Bool.true_or, Bool.false_or, decide_true, decide_false, not_true_eq_false, not_false_eq_true, LL.scal_int, LL.scal_bl, LL.scal_str, LL.isInt, LL.isBl, LL.isStr, LL.isLst, LL.isTup, LL.isDic]
      refine use_ixL hs rfl ?_
      simp only [tSeq, tAsg, tRet, tRetN, tDrop, tNext, tVar, tC, gName, tOp, tUn, rI, rI0, rU, tIfS, tTest, tB, tIf, tAnd, tOr, tNot, tAndV, tOrV, tNotV, tCall, tCons, tNil, tCB, tLst, tTup, tChain, CMul, CDiv, CPow, rEq, rNe, gSub, L2.start, LL.cxK0, LL.cxK1, List.map_cons, List.map_nil, List.length_cons, List.length_nil, List.replicate_succ, List.replicate_zero, List.cons_append, List.nil_append, List.append_nil, List.getElem?_cons_zero, List.getElem?_cons_succ, List.set_cons_zero, List.set_cons_succ, Nat.add_sub_cancel, Nat.reduceAdd, Nat.reduceSub, Option.some.injEq, V.int.injEq, V.bl.injEq, V.ref.injEq, V.str.injEq, List.cons.injEq, and_true, true_and, and_false, false_and, exists_eq_left, exists_eq_left', exists_and_left, exists_and_right, exists_eq, exists_eq', LL.if_dec, reduceCtorEq, exists_false, exists_const, or_false, false_or, if_true, if_false, LL.rInt1, LL.rMx, LL.rMn, and_assoc, Int.reduceNeg, Int.reduceLT, Int.reduceLE, Int.reduceMul, Int.reduceAdd, Int.reduceSub, Int.reducePow, Int.reduceToNat, Nat.reducePow, Nat.reduceLT, true_or, or_true, Bool.not_true, Bool.not_false, Bool.false_eq_true, Bool.or_false, Bool.or_true, Bool.true_or, Bool.false_or, decide_true, decide_false, not_true_eq_false, not_false_eq_true, LL.scal_int, LL.scal_bl, LL.scal_str, LL.isInt, LL.isBl, LL.isStr, LL.isLst, LL.isTup, LL.isDic]
      refine use_setL hs rfl ?_
      refine use_ixL upd_same rfl ?_
      simp only [tSeq, tAsg, tRet, tRetN, tDrop, tNext, tVar, tC, gName, tOp, tUn, rI, rI0, rU, tIfS, tTest, tB, tIf, tAnd, tOr, tNot, tAndV, tOrV, tNotV, tCall, tCons, tNil, tCB, tLst, tTup, tChain, CMul, CDiv, CPow, rEq, rNe, gSub, L2.start, LL.cxK0, LL.cxK1, List.map_cons, List.map_nil, List.length_cons, List.length_nil, List.replicate_succ, List.replicate_zero, List.cons_append, List.nil_append, List.append_nil, List.getElem?_cons_zero, List.getElem?_cons_succ, List.set_cons_zero, List.set_cons_succ, Nat.add_sub_cancel, Nat.reduceAdd, Nat.reduceSub, Option.some.injEq, V.int.injEq, V.bl.injEq, V.ref.injEq, V.str.injEq, List.cons.injEq, and_true, true_and, and_false, false_and, exists_eq_left, exists_eq_left', exists_and_left, exists_and_right, exists_eq, exists_eq', LL.if_dec, reduceCtorEq, exists_false, exists_const, or_false, false_or, if_true, if_false, LL.rInt1, LL.rMx, LL.rMn, and_assoc, Int.reduceNeg, Int.reduceLT, Int.reduceLE, Int.reduceMul, Int.reduceAdd, Int.reduceSub, Int.reducePow, Int.reduceToNat, Nat.reducePow, Nat.reduceLT, true_or, or_true, Bool.not_true, Bool.not_false, Bool.false_eq_true, Bool.or_false, Bool.or_true, Bool.true_or, Bool.false_or, decide_true, decide_false, not_true_eq_false, not_false_eq_true, LL.scal_int, LL.scal_bl, LL.scal_str, LL.isInt, LL.isBl, LL.isStr, LL.isLst, LL.isTup, LL.isDic]
      refine use_setL upd_same rfl ?_
      rw [upd_upd]
      refine ⟨by decide, ?_⟩
      split
      · exact use_setL upd_same rfl (by rw [upd_upd]; exact q _ (Aft.st D (by omega)))
      · exact use_setL upd_same rfl (by rw [upd_upd]; exact q _ (Aft.st D (by omega)))
    · exact q _ (Aft.refl D)
theorem ok_law_take (T : Tx K mg) : FnOk P w K mg base CX0 2 (He.ga K "_law_take") T.fd_law_take P_law_take sp_law_take := by
  refine T.F_law_take.ok sc_law_take (fun vs H Q E h => ?_) (fun cdv A outer s H vs Q E hr h => ⟨_, PSs.nox (pss_cons (ps_if (pt_cmpR op_lt (pv 1) (pe_int) (nomark _)) (pss_one (ps_ret (pe_int))) pss_nil) (pss_cons (ps_set (i := 2) sc_law_take.nd rfl (Or.inl rfl) (pe_ix (show IxR _ (rIxL K) from ix_list) (pv 0) (pe_int) (fun _ _ => rfl))) (pss_cons (ps_asg (pe_op op_add (pe_ix (show IxR _ (rIxL K) from ix_list) (pv 2) (pe_int) (fun _ _ => rfl)) (pe_int)) (pg_sub (pv 2) (pe_int) set_list)) (pss_cons (ps_if (PW.pt (pw_and (pt_cmpR op_lt (pe_ix (show IxR _ (rIxL K) from ix_list) (pv 2) (pe_int) (fun _ _ => rfl)) (pe_int) (nomark _)) (pw_and1 (pt_cmpR op_lt (pe_ix (show IxR _ (rIxL K) from ix_list) (pv 2) (pe_int) (fun _ _ => rfl)) (pe_int) (nomark _))))) (pss_one (ps_expr (pe_call (ok_law_next_cell T) hr rfl T.g_law_next_cell T.F_law_next_cell.kp (b_law_next_cell T) .nil pass0 (pa_cons (pv 0) pa_nil)))) pss_nil) (pss_cons (ps_if (pt_cmpR op_gt (pe_ix (show IxR _ (rIxL K) from ix_list) (pv 2) (pe_int) (fun _ _ => rfl)) (pe_int) (nomark _)) (pss_cons (ps_set (i := 3) sc_law_take.nd rfl (Or.inl rfl) (pe_op op_mod (pe_callTy LL.call_intI (by rfl) T.z_int (by decide +kernel) (pa_cons (pe_ix (show IxR _ (rIxL K) from ix_list) (pv 2) (pe_int) (fun _ _ => rfl)) pa_nil)) (pv 1))) (pss_cons (ps_asg (pe_op op_fdivW (pe_ix (show IxR _ (rIxL K) from ix_list) (pv 2) (pe_int) (fun _ _ => rfl)) (pv 1)) (pg_sub (pv 2) (pe_int) set_list)) (pss_one (ps_ret (pv 3))))) pss_nil) (pss_cons (ps_if (pt_cmpR op_gt (pe_ix (show IxR _ (rIxL K) from ix_list) (pv 2) (pe_int) (fun _ _ => rfl)) (pe_int) (nomark _)) (pss_one (ps_asg (pe_op op_sub (pe_ix (show IxR _ (rIxL K) from ix_list) (pv 2) (pe_int) (fun _ _ => rfl)) (pe_int)) (pg_sub (pv 2) (pe_int) set_list))) pss_nil) (pss_one (ps_ret (pe_call (ok_law_mixed T) hr rfl T.g_law_mixed T.F_law_mixed.kp (b_law_mixed T) .nil pass0 (pa_cons (pe_ix (show IxR _ (rIxL K) from ix_list) (pv 2) (pe_int) (fun _ _ => rfl)) (pa_cons (pe_ix (show IxR _ (rIxL K) from ix_list) (pv 2) (pe_int) (fun _ _ => rfl)) (pa_cons (pv 1) pa_nil)))))))))))), ?_⟩)
  · obtain ⟨_, _, _, rfl, _⟩ := h
    rfl
  · obtain ⟨d, s, m, rfl, D, hmb, q⟩ := h
    obtain ⟨⟨c, hd, hcs, ns, hc⟩, ⟨i, v, k, t, gg, hi, hs⟩, hds⟩ := _root_.id D
    simp only [tSeq, tAsg, tRet, tRetN, tDrop, tNext, tVar, tC, gName, tOp, tUn, rI, rI0, rU, tIfS, tTest, tB, tIf, tAnd, tOr, tNot, tAndV, tOrV, tNotV, tCall, tCons, tNil, tCB, tLst, tTup, tChain, CMul, CDiv, CPow, rEq, rNe, gSub, L2.start, LL.cxK0, LL.cxK1, List.map_cons, List.map_nil, List.length_cons, List.length_nil, List.replicate_succ, List.replicate_zero, List.cons_append, List.nil_append, List.append_nil, List.getElem?_cons_zero, List.getElem?_cons_succ, List.set_cons_zero, List.set_cons_succ, Nat.add_sub_cancel, Nat.reduceAdd, Nat.reduceSub, Option.some.injEq, V.int.injEq, V.bl.injEq, V.ref.injEq, V.str.injEq, List.cons.injEq, and_true, true_and, and_false, false_and, exists_eq_left, exists_eq_left', exists_and_left, exists_and_right, exists_eq, exists_eq', LL.if_dec, reduceCtorEq, exists_false, exists_const, or_false, false_or, if_true, if_false, LL.rInt1, LL.rMx, LL.rMn, and_assoc, Int.reduceNeg, Int.reduceLT, Int.reduceLE, Int.reduceMul, Int.reduceAdd, Int.reduceSub, Int.reducePow, Int.reduceToNat, Nat.reducePow, Nat.reduceLT, true_or, or_true, Bool.not_true, Bool.not_false, Bool.false_eq_true, Bool.or_false, Bool.or_true, Bool.true_or, Bool.false_or, decide_true, decide_false, not_true_eq_false, not_false_eq_true, LL.scal_int, LL.scal_bl, LL.scal_str, LL.isInt, LL.isBl, LL.isStr, LL.isLst, LL.isTup, LL.isDic, N_law_take]
    split
    · exact q _ _ (Aft.refl D) (by decide) (.inr rfl)
    · rename_i hm
      have hm0 : 0 < m := by omega
      refine use_ixL hd rfl (use_ixL hs rfl ?_)
      simp only [tSeq, tAsg, tRet, tRetN, tDrop, tNext, tVar, tC, gName, tOp, tUn, rI, rI0, rU, tIfS, tTest, tB, tIf, tAnd, tOr, tNot, tAndV, tOrV, tNotV, tCall, tCons, tNil, tCB, tLst, tTup, tChain, CMul, CDiv, CPow, rEq, rNe, gSub, L2.start, LL.cxK0, LL.cxK1, List.map_cons, List.map_nil, List.length_cons, List.length_nil, List.replicate_succ, List.replicate_zero, List.cons_append, List.nil_append, List.append_nil, List.getElem?_cons_zero, List.getElem?_cons_succ, List.set_cons_zero, List.set_cons_succ, Nat.add_sub_cancel, Nat.reduceAdd, Nat.reduceSub, Option.some.injEq, V.int.injEq, V.bl.injEq, V.ref.injEq, V.str.injEq, List.cons.injEq, and_true, true_and, and_false, false_and, exists_eq_left, exists_eq_left', exists_and_left, exists_and_right, exists_eq, exists_eq', LL.if_dec, reduceCtorEq, exists_false, exists_const, or_false, false_or, if_true, if_false, LL.rInt1, LL.rMx, LL.rMn, and_assoc, Int.reduceNeg, Int.reduceLT, Int.reduceLE, Int.reduceMul, Int.reduceAdd, Int.reduceSub, Int.reducePow, Int.reduceToNat, Nat.reducePow, Nat.reduceLT, true_or, or_true, Bool.not_true, Bool.not_false, Bool.false_eq_true, Bool.or_false, Bool.or_true, Bool.true_or, Bool.false_or, decide_true, decide_false, not_true_eq_false, not_false_eq_true, LL.scal_int, LL.scal_bl, LL.scal_str, LL.isInt, LL.isBl, LL.isStr, LL.isLst, LL.isTup, LL.isDic]
      refine use_setL hs rfl (use_ixL upd_same rfl ?_)
      simp only [tSeq, tAsg, tRet, tRetN, tDrop, tNext, tVar, tC, gName, tOp, tUn, rI, rI0, rU, tIfS, tTest, tB, tIf, tAnd, tOr, tNot, tAndV, tOrV, tNotV, tCall, tCons, tNil, tCB, tLst, tTup, tChain, CMul, CDiv, CPow, rEq, rNe, gSub, L2.start, LL.cxK0, LL.cxK1, List.map_cons, List.map_nil, List.length_cons, List.length_nil, List.replicate_succ, List.replicate_zero, List.cons_append, List.nil_append, List.append_nil, List.getElem?_cons_zero, List.getElem?_cons_succ, List.set_cons_zero, List.set_cons_succ, Nat.add_sub_cancel, Nat.reduceAdd, Nat.reduceSub, Option.some.injEq, V.int.injEq, V.bl.injEq, V.ref.injEq, V.str.injEq, List.cons.injEq, and_true, true_and, and_false, false_and, exists_eq_left, exists_eq_left', exists_and_left, exists_and_right, exists_eq, exists_eq', LL.if_dec, reduceCtorEq, exists_false, exists_const, or_false, false_or, if_true, if_false, LL.rInt1, LL.rMx, LL.rMn, and_assoc, Int.reduceNeg, Int.reduceLT, Int.reduceLE, Int.reduceMul, Int.reduceAdd, Int.reduceSub, Int.reducePow, Int.reduceToNat, Nat.reducePow, Nat.reduceLT, true_or, or_true, Bool.not_true, Bool.not_false, Bool.false_eq_true, Bool.or_false, Bool.or_true, Bool.true_or, Bool.false_or, decide_true, decide_false, not_true_eq_false, not_false_eq_true, LL.scal_int, LL.scal_bl, LL.scal_str, LL.isInt, LL.isBl, LL.isStr, LL.isLst, LL.isTup, LL.isDic]
      have a1 : Aft d s H (upd H s (.lst [.int i, .int v, .int k, .int (t + 1), .int gg])) := Aft.st D hi
      show (if v < 2 then rIxL K (V.ref s) (V.int 2) (upd H s (.lst [.int i, .int v, .int k, .int (t + 1), .int gg])) _ else rIxL K (V.ref s) (V.int 1) (upd H s (.lst [.int i, .int v, .int k, .int (t + 1), .int gg])) _)
      generalize upd H s (.lst [.int i, .int v, .int k, .int (t + 1), .int gg]) = H1 at a1 ⊢
      clear hs
      have tail : ∀ H1, Aft d s H H1 → rIxL K (V.ref s) (V.int 1) H1 (fun x H1 => ∃ i, x = V.int i ∧ if 1 < i then rIxL K (V.ref s) (V.int 1) H1 (fun x H1 => ∃ i, x = V.int i ∧ 0 < m ∧ rIxL K (V.ref s) (V.int 1) H1 (fun x H1 => ∃ i_1, x = V.int i_1 ∧ CDivW i_1 m ∧ rSetL (V.ref s) (V.int 1) (V.int (i_1 / m)) H1 fun H3 => Q (V.int (i % m)) H3))
          else rIxL K (V.ref s) (V.int 2) H1 (fun x H1 => ∃ i, x = V.int i ∧ if 0 < i then rIxL K (V.ref s) (V.int 2) H1 (fun x H1 => ∃ i, x = V.int i ∧ rSetL (V.ref s) (V.int 2) (V.int (i - 1)) H1 fun H3 => rIxL K (V.ref s) (V.int 4) H3 fun x H1 => rIxL K (V.ref s) (V.int 3) H1 fun x_1 H1 => sp_law_mixed [x, x_1, V.int m] H1 Q E0)
            else rIxL K (V.ref s) (V.int 4) H1 fun x H1 => rIxL K (V.ref s) (V.int 3) H1 fun x_1 H1 => sp_law_mixed [x, x_1, V.int m] H1 Q E0)) := by
        intro H2 a2
        obtain ⟨⟨c2, hd2, hcs2, ns2, hc2⟩, ⟨i2, v2, k2, t2, gg2, hi2, hs2⟩, _⟩ := _root_.id a2.dr
        refine use_ixL hs2 rfl ⟨_, rfl, ?_⟩
        split
        · refine use_ixL hs2 rfl ⟨_, rfl, hm0, use_ixL hs2 rfl ⟨_, rfl, wide_div hm0 hmb (by decide) (by decide), ?_⟩⟩
          exact use_setL hs2 rfl (q _ _ (a2.st2 hi2) (Int.emod_nonneg _ (by omega)) (.inl (Int.emod_lt_of_pos _ hm0)))
        · refine use_ixL hs2 rfl ⟨_, rfl, ?_⟩
          split
          · refine use_ixL hs2 rfl ⟨_, rfl, use_setL hs2 rfl (use_ixL upd_same rfl (use_ixL upd_same rfl ?_))⟩
            exact ⟨_, _, _, rfl, hm0, fun v h0 h1 => q _ _ (a2.st2 hi2) h0 (.inl h1)⟩
          · refine use_ixL hs2 rfl (use_ixL hs2 rfl ?_)
            exact ⟨_, _, _, rfl, hm0, fun v h0 h1 => q _ _ a2 h0 (.inl h1)⟩
      split
      · obtain ⟨_, ⟨i3, v3, k3, t3, gg3, hi3, hs3⟩, _⟩ := _root_.id a1.dr
        refine use_ixL hs3 rfl ⟨_, rfl, ?_⟩
        split
        · exact ⟨d, s, rfl, a1.dr, fun H' a2 => tail _ (a1.trans a2)⟩
        · exact tail _ a1
      · exact tail _ a1
def sp_law_between : Sp := fun vs H Q _ => ∃ (d s : Addr) (lo hi : Int), vs = [.ref d, .int lo, .int hi] ∧ Drw d s H ∧ (hi - lo + 1).natAbs < 2 ^ 4000 ∧ ∀ v H', Aft d s H H' → Drw d s H' → lo ≤ v → (v ≤ hi ∨ v = lo) → Q (.int v) H'
theorem use_between {d s : Addr} {lo hi : Int} {H : Hp} {Q : VK} {E : XK} (D : Drw d s H) (hm : (hi - lo + 1).natAbs < 2 ^ 4000) (q : ∀ v H', Aft d s H H' → Drw d s H' → lo ≤ v → (v ≤ hi ∨ v = lo) → Q (.int v) H') : sp_law_between [.ref d, .int lo, .int hi] H Q E :=
  ⟨d, s, lo, hi, rfl, D, hm, q⟩
theorem big_of {n : Int} (h0 : -1000000000000 ≤ n) (h : n ≤ 1000000000000) : n.natAbs < 2 ^ 4000 := Nat.lt_of_le_of_lt (show n.natAbs ≤ 1000000000000 by omega) (by decide +kernel)

theorem ok_law_between (T : Tx K mg) : FnOk P w K mg base CX0 3 (He.ga K "_law_between") T.fd_law_between P_law_between sp_law_between := by
  refine T.F_law_between.ok sc_law_between (fun vs H Q E h => ?_) (fun cdv A outer s H vs Q E hr h => ⟨_, PSs.nox (pss_cons (ps_if (pt_cmpR op_le (pv 2) (pv 1) (nomark _)) (pss_one (ps_ret (pv 1))) pss_nil) (pss_cons (ps_set (i := 3) sc_law_between.nd rfl (Or.inl rfl) (pe_call (ok_law_take T) hr rfl T.g_law_take T.F_law_take.kp (b_law_take T) .nil pass0 (pa_cons (pv 0) (pa_cons (pe_int) pa_nil)))) (pss_cons (ps_if (pt_cmpR op_eq (pv 3) (pe_int) (nomark _)) (pss_one (ps_ret (pv 1))) pss_nil) (pss_cons (ps_if (pt_cmpR op_eq (pv 3) (pe_int) (nomark _)) (pss_one (ps_ret (pv 2))) pss_nil) (pss_one (ps_ret (pe_op op_add (pv 1) (pe_call (ok_law_take T) hr rfl T.g_law_take T.F_law_take.kp (b_law_take T) .nil pass0 (pa_cons (pv 0) (pa_cons (pe_op op_add (pe_op op_sub (pv 2) (pv 1)) (pe_int)) pa_nil)))))))))), ?_⟩)
  · obtain ⟨_, _, _, _, rfl, _⟩ := h
    rfl
  · obtain ⟨d, s, lo, hi, rfl, D, hb, q⟩ := h
    simp only [tSeq, tAsg, tRet, tRetN, tDrop, tNext, tVar, tC, gName, tOp, tUn, rI, rI0, rU, tIfS, tTest, tB, tIf, tAnd, tOr, tNot, tAndV, tOrV, tNotV, tCall, tCons, tNil, tCB, tLst, tTup, tChain, CMul, CDiv, CPow, rEq, rNe, gSub, L2.start, LL.cxK0, LL.cxK1, List.map_cons, List.map_nil, List.length_cons, List.length_nil, List.replicate_succ, List.replicate_zero, List.cons_append, List.nil_append, List.append_nil, List.getElem?_cons_zero, List.getElem?_cons_succ, List.set_cons_zero, List.set_cons_succ, Nat.add_sub_cancel, Nat.reduceAdd, Nat.reduceSub, Option.some.injEq, V.int.injEq, V.bl.injEq, V.ref.injEq, V.str.injEq, List.cons.injEq, and_true, true_and, and_false, false_and, exists_eq_left, exists_eq_left', exists_and_left, exists_and_right, exists_eq, exists_eq', LL.if_dec, reduceCtorEq, exists_false, exists_const, or_false, false_or, if_true, if_false, LL.rInt1, LL.rMx, LL.rMn, and_assoc, Int.reduceNeg, Int.reduceLT, Int.reduceLE, Int.reduceMul, Int.reduceAdd, Int.reduceSub, Int.reducePow, Int.reduceToNat, Nat.reducePow, Nat.reduceLT, true_or, or_true, Bool.not_true, Bool.not_false, Bool.false_eq_true, Bool.or_false, Bool.or_true, Bool.true_or, Bool.false_or, decide_true, decide_false, not_true_eq_false, not_false_eq_true, LL.scal_int, LL.scal_bl, LL.scal_str, LL.isInt, LL.isBl, LL.isStr, LL.isLst, LL.isTup, LL.isDic, N_law_between]
    split
    · exact q _ _ (Aft.refl D) D (by omega) (.inr rfl)
    · rename_i hlt
      refine use_take D (by decide +kernel) fun v H' a D' h0 h1 => ?_
      simp only [tSeq, tAsg, tRet, tRetN, tDrop, tNext, tVar, tC, gName, tOp, tUn, rI, rI0, rU, tIfS, tTest, tB, tIf, tAnd, tOr, tNot, tAndV, tOrV, tNotV, tCall, tCons, tNil, tCB, tLst, tTup, tChain, CMul, CDiv, CPow, rEq, rNe, gSub, L2.start, LL.cxK0, LL.cxK1, List.map_cons, List.map_nil, List.length_cons, List.length_nil, List.replicate_succ, List.replicate_zero, List.cons_append, List.nil_append, List.append_nil, List.getElem?_cons_zero, List.getElem?_cons_succ, List.set_cons_zero, List.set_cons_succ, Nat.add_sub_cancel, Nat.reduceAdd, Nat.reduceSub, Option.some.injEq, V.int.injEq, V.bl.injEq, V.ref.injEq, V.str.injEq, List.cons.injEq, and_true, true_and, and_false, false_and, exists_eq_left, exists_eq_left', exists_and_left, exists_and_right, exists_eq, exists_eq', LL.if_dec, reduceCtorEq, exists_false, exists_const, or_false, false_or, if_true, if_false, LL.rInt1, LL.rMx, LL.rMn, and_assoc, Int.reduceNeg, Int.reduceLT, Int.reduceLE, Int.reduceMul, Int.reduceAdd, Int.reduceSub, Int.reducePow, Int.reduceToNat, Nat.reducePow, Nat.reduceLT, true_or, or_true, Bool.not_true, Bool.not_false, Bool.false_eq_true, Bool.or_false, Bool.or_true, Bool.true_or, Bool.false_or, decide_true, decide_false, not_true_eq_false, not_false_eq_true, LL.scal_int, LL.scal_bl, LL.scal_str, LL.isInt, LL.isBl, LL.isStr, LL.isLst, LL.isTup, LL.isDic]
      split
      · exact q _ _ a D' (by omega) (.inr rfl)
      · split
        · exact q _ _ a D' (by omega) (.inl (by omega))
        · refine use_take D' hb fun v2 H2 a2 D2 h2 h3 => ?_
          simp only [tSeq, tAsg, tRet, tRetN, tDrop, tNext, tVar, tC, gName, tOp, tUn, rI, rI0, rU, tIfS, tTest, tB, tIf, tAnd, tOr, tNot, tAndV, tOrV, tNotV, tCall, tCons, tNil, tCB, tLst, tTup, tChain, CMul, CDiv, CPow, rEq, rNe, gSub, L2.start, LL.cxK0, LL.cxK1, List.map_cons, List.map_nil, List.length_cons, List.length_nil, List.replicate_succ, List.replicate_zero, List.cons_append, List.nil_append, List.append_nil, List.getElem?_cons_zero, List.getElem?_cons_succ, List.set_cons_zero, List.set_cons_succ, Nat.add_sub_cancel, Nat.reduceAdd, Nat.reduceSub, Option.some.injEq, V.int.injEq, V.bl.injEq, V.ref.injEq, V.str.injEq, List.cons.injEq, and_true, true_and, and_false, false_and, exists_eq_left, exists_eq_left', exists_and_left, exists_and_right, exists_eq, exists_eq', LL.if_dec, reduceCtorEq, exists_false, exists_const, or_false, false_or, if_true, if_false, LL.rInt1, LL.rMx, LL.rMn, and_assoc, Int.reduceNeg, Int.reduceLT, Int.reduceLE, Int.reduceMul, Int.reduceAdd, Int.reduceSub, Int.reducePow, Int.reduceToNat, Nat.reducePow, Nat.reduceLT, true_or, or_true, Bool.not_true, Bool.not_false, Bool.false_eq_true, Bool.or_false, Bool.or_true, Bool.true_or, Bool.false_or, decide_true, decide_false, not_true_eq_false, not_false_eq_true, LL.scal_int, LL.scal_bl, LL.scal_str, LL.isInt, LL.isBl, LL.isStr, LL.isLst, LL.isTup, LL.isDic]
          exact q _ _ (a.trans a2) D2 (by omega) (by omega)
def sp_law_number : Sp := fun vs H Q _ => ∃ (d s : Addr) (lo hi : Int), vs = [.ref d, .int lo, .int hi] ∧ Drw d s H ∧ -1000000000000 ≤ lo ∧ lo ≤ hi ∧ hi ≤ 100000000000 ∧ hi - lo ≤ 100000000000 ∧ ∀ v H', Aft d s H H' → Drw d s H' → lo ≤ v → v ≤ hi → Q (.int v) H'
theorem use_number {d s : Addr} {lo hi : Int} {H : Hp} {Q : VK} {E : XK} (D : Drw d s H) (h0 : -1000000000000 ≤ lo) (h1 : lo ≤ hi) (h2 : hi ≤ 100000000000) (h3 : hi - lo ≤ 100000000000) (q : ∀ v H', Aft d s H H' → Drw d s H' → lo ≤ v → v ≤ hi → Q (.int v) H') : sp_law_number [.ref d, .int lo, .int hi] H Q E :=
  ⟨d, s, lo, hi, rfl, D, h0, h1, h2, h3, q⟩
def sp_law_count : Sp := fun vs H Q _ => ∃ (d s : Addr) (lo hi : Int), vs = [.ref d, .int lo, .int hi] ∧ Drw d s H ∧ 0 ≤ lo ∧ lo ≤ hi ∧ hi ≤ 100000000000 ∧ ∀ v H', Aft d s H H' → Drw d s H' → 0 ≤ v → v ≤ hi → Q (.int v) H'
def sp_law_alignment : Sp := fun vs H Q _ => ∃ (d s : Addr) (m : Int), vs = [.ref d, .int m] ∧ Drw d s H ∧ 0 ≤ m ∧ m ≤ 64 ∧ ∀ (j : Nat) H', Aft d s H H' → Drw d s H' → (j : Int) ≤ m → Q (.int (2 ^ j)) H'
theorem use_alignment {d s : Addr} {m : Int} {H : Hp} {Q : VK} {E : XK} (D : Drw d s H) (h0 : 0 ≤ m) (h1 : m ≤ 64) (q : ∀ (j : Nat) H', Aft d s H H' → Drw d s H' → (j : Int) ≤ m → Q (.int (2 ^ j)) H') : sp_law_alignment [.ref d, .int m] H Q E :=
  ⟨d, s, m, rfl, D, h0, h1, q⟩
def sp_law_power : Sp := fun vs H Q _ => ∃ n : Nat, vs = [.int n] ∧ n ≤ 60 ∧ Q (.int (2 ^ n)) H
theorem pow_lt {j n : Nat} (h : j ≤ n) (hn : n ≤ 63) : (2 : Int) ^ j < 2 ^ 64 := by
  have h1 : (2 : Nat) ^ j < 2 ^ 64 := Nat.pow_lt_pow_right (by decide) (by omega)
  have h2 : ((2 ^ j : Nat) : Int) = (2 : Int) ^ j := by simp
  omega
theorem pow_pos' (j : Nat) : (0 : Int) < 2 ^ j := Int.pow_pos (by decide)

theorem ok_law_alignment (T : Tx K mg) : FnOk P w K mg base CX0 4 (He.ga K "_law_alignment") T.fd_law_alignment P_law_alignment sp_law_alignment := by
  refine T.F_law_alignment.ok sc_law_alignment (fun vs H Q E h => ?_) (fun cdv A outer s H vs Q E hr h => ⟨_, PSs.nox (pss_cons (ps_set (i := 2) sc_law_alignment.nd rfl (Or.inl rfl) (pe_int)) (pss_cons (ps_for PassesOwn.never rfl (pi_range1 rfl T.z_range (pa_cons (pe_call (ok_law_between T) hr rfl T.g_law_between T.F_law_between.kp (b_law_between T) .nil pass0 (pa_cons (pv 0) (pa_cons (pe_int) (pa_cons (pv 1) pa_nil)))) pa_nil)) (pg_name (i := 3) sc_law_alignment.nd rfl (Or.inl rfl)) (pss_one (ps_set (i := 2) sc_law_alignment.nd rfl (Or.inl rfl) (pe_op op_mul (pv 2) (pe_int))))) (pss_one (ps_ret (pv 2))))), ?_⟩)
  · obtain ⟨_, _, _, rfl, _⟩ := h
    rfl
  · obtain ⟨d, s, m, rfl, D, h0, h1, q⟩ := h
    simp only [tSeq, tAsg, tRet, tRetN, tDrop, tNext, tVar, tC, gName, tOp, tUn, rI, rI0, rU, tIfS, tTest, tB, tIf, tAnd, tOr, tNot, tAndV, tOrV, tNotV, tCall, tCons, tNil, tCB, tLst, tTup, tChain, CMul, CDiv, CPow, rEq, rNe, gSub, L2.start, LL.cxK0, LL.cxK1, List.map_cons, List.map_nil, List.length_cons, List.length_nil, List.replicate_succ, List.replicate_zero, List.cons_append, List.nil_append, List.append_nil, List.getElem?_cons_zero, List.getElem?_cons_succ, List.set_cons_zero, List.set_cons_succ, Nat.add_sub_cancel, Nat.reduceAdd, Nat.reduceSub, Option.some.injEq, V.int.injEq, V.bl.injEq, V.ref.injEq, V.str.injEq, List.cons.injEq, and_true, true_and, and_false, false_and, exists_eq_left, exists_eq_left', exists_and_left, exists_and_right, exists_eq, exists_eq', LL.if_dec, reduceCtorEq, exists_false, exists_const, or_false, false_or, if_true, if_false, LL.rInt1, LL.rMx, LL.rMn, and_assoc, Int.reduceNeg, Int.reduceLT, Int.reduceLE, Int.reduceMul, Int.reduceAdd, Int.reduceSub, Int.reducePow, Int.reduceToNat, Nat.reducePow, Nat.reduceLT, true_or, or_true, Bool.not_true, Bool.not_false, Bool.false_eq_true, Bool.or_false, Bool.or_true, Bool.true_or, Bool.false_or, decide_true, decide_false, not_true_eq_false, not_false_eq_true, LL.scal_int, LL.scal_bl, LL.scal_str, LL.isInt, LL.isBl, LL.isStr, LL.isLst, LL.isTup, LL.isDic, N_law_alignment]
    refine use_forRX (R := fun j H' => Aft d s H H' ∧ Drw d s H' ∧ 0 ≤ j ∧ j ≤ m) (fun Q hQ => ?_) (fun z H' h => ⟨by omega, by omega⟩)
      (fun j i σ' H' => Aft d s H H' ∧ Drw d s H' ∧ 0 ≤ j ∧ j ≤ m ∧ i ≤ j.toNat ∧ ∃ x : Option V, σ' = [some (.ref d), some (.int m), some (.int (2 ^ i)), x]) (fun j H' ⟨a, D1, hz, hm⟩ => ⟨a, D1, hz, hm, Nat.zero_le _, _, rfl⟩) ?_ ?_
    · simp only [tSeq, tAsg, tRet, tRetN, tDrop, tNext, tVar, tC, gName, tOp, tUn, rI, rI0, rU, tIfS, tTest, tB, tIf, tAnd, tOr, tNot, tAndV, tOrV, tNotV, tCall, tCons, tNil, tCB, tLst, tTup, tChain, CMul, CDiv, CPow, rEq, rNe, gSub, L2.start, LL.cxK0, LL.cxK1, List.map_cons, List.map_nil, List.length_cons, List.length_nil, List.replicate_succ, List.replicate_zero, List.cons_append, List.nil_append, List.append_nil, List.getElem?_cons_zero, List.getElem?_cons_succ, List.set_cons_zero, List.set_cons_succ, Nat.add_sub_cancel, Nat.reduceAdd, Nat.reduceSub, Option.some.injEq, V.int.injEq, V.bl.injEq, V.ref.injEq, V.str.injEq, List.cons.injEq, and_true, true_and, and_false, false_and, exists_eq_left, exists_eq_left', exists_and_left, exists_and_right, exists_eq, exists_eq', LL.if_dec, reduceCtorEq, exists_false, exists_const, or_false, false_or, if_true, if_false, LL.rInt1, LL.rMx, LL.rMn, and_assoc, Int.reduceNeg, Int.reduceLT, Int.reduceLE, Int.reduceMul, Int.reduceAdd, Int.reduceSub, Int.reducePow, Int.reduceToNat, Nat.reducePow, Nat.reduceLT, true_or, or_true, Bool.not_true, Bool.not_false, Bool.false_eq_true, Bool.or_false, Bool.or_true, Bool.true_or, Bool.false_or, decide_true, decide_false, not_true_eq_false, not_false_eq_true, LL.scal_int, LL.scal_bl, LL.scal_str, LL.isInt, LL.isBl, LL.isStr, LL.isLst, LL.isTup, LL.isDic]
      exact use_between D (big_of (by omega) (by omega)) fun v H' a D' h2 h3 => hQ _ _ ⟨a, D', h2, by omega⟩
    · rintro j i σ' H' hi ⟨a, D1, hz, hm, hi2, x, rfl⟩
      simp only [tSeq, tAsg, tRet, tRetN, tDrop, tNext, tVar, tC, gName, tOp, tUn, rI, rI0, rU, tIfS, tTest, tB, tIf, tAnd, tOr, tNot, tAndV, tOrV, tNotV, tCall, tCons, tNil, tCB, tLst, tTup, tChain, CMul, CDiv, CPow, rEq, rNe, gSub, L2.start, LL.cxK0, LL.cxK1, List.map_cons, List.map_nil, List.length_cons, List.length_nil, List.replicate_succ, List.replicate_zero, List.cons_append, List.nil_append, List.append_nil, List.getElem?_cons_zero, List.getElem?_cons_succ, List.set_cons_zero, List.set_cons_succ, Nat.add_sub_cancel, Nat.reduceAdd, Nat.reduceSub, Option.some.injEq, V.int.injEq, V.bl.injEq, V.ref.injEq, V.str.injEq, List.cons.injEq, and_true, true_and, and_false, false_and, exists_eq_left, exists_eq_left', exists_and_left, exists_and_right, exists_eq, exists_eq', LL.if_dec, reduceCtorEq, exists_false, exists_const, or_false, false_or, if_true, if_false, LL.rInt1, LL.rMx, LL.rMn, and_assoc, Int.reduceNeg, Int.reduceLT, Int.reduceLE, Int.reduceMul, Int.reduceAdd, Int.reduceSub, Int.reducePow, Int.reduceToNat, Nat.reducePow, Nat.reduceLT, true_or, or_true, Bool.not_true, Bool.not_false, Bool.false_eq_true, Bool.or_false, Bool.or_true, Bool.true_or, Bool.false_or, decide_true, decide_false, not_true_eq_false, not_false_eq_true, LL.scal_int, LL.scal_bl, LL.scal_str, LL.isInt, LL.isBl, LL.isStr, LL.isLst, LL.isTup, LL.isDic]
      have := pow_lt (j := i) (n := 63) (by omega) (by decide)
      have := pow_pos' i
      exact ⟨a, D1, hz, hm, hi, by rw [Int.pow_succ]⟩
    · rintro j σ' H' ⟨a, D1, hz, hm, hi2, x, rfl⟩
      simp only [tSeq, tAsg, tRet, tRetN, tDrop, tNext, tVar, tC, gName, tOp, tUn, rI, rI0, rU, tIfS, tTest, tB, tIf, tAnd, tOr, tNot, tAndV, tOrV, tNotV, tCall, tCons, tNil, tCB, tLst, tTup, tChain, CMul, CDiv, CPow, rEq, rNe, gSub, L2.start, LL.cxK0, LL.cxK1, List.map_cons, List.map_nil, List.length_cons, List.length_nil, List.replicate_succ, List.replicate_zero, List.cons_append, List.nil_append, List.append_nil, List.getElem?_cons_zero, List.getElem?_cons_succ, List.set_cons_zero, List.set_cons_succ, Nat.add_sub_cancel, Nat.reduceAdd, Nat.reduceSub, Option.some.injEq, V.int.injEq, V.bl.injEq, V.ref.injEq, V.str.injEq, List.cons.injEq, and_true, true_and, and_false, false_and, exists_eq_left, exists_eq_left', exists_and_left, exists_and_right, exists_eq, exists_eq', LL.if_dec, reduceCtorEq, exists_false, exists_const, or_false, false_or, if_true, if_false, LL.rInt1, LL.rMx, LL.rMn, and_assoc, Int.reduceNeg, Int.reduceLT, Int.reduceLE, Int.reduceMul, Int.reduceAdd, Int.reduceSub, Int.reducePow, Int.reduceToNat, Nat.reducePow, Nat.reduceLT, true_or, or_true, Bool.not_true, Bool.not_false, Bool.false_eq_true, Bool.or_false, Bool.or_true, Bool.true_or, Bool.false_or, decide_true, decide_false, not_true_eq_false, not_false_eq_true, LL.scal_int, LL.scal_bl, LL.scal_str, LL.isInt, LL.isBl, LL.isStr, LL.isLst, LL.isTup, LL.isDic]
      exact q _ _ a D1 (by omega)
theorem ok_law_power (T : Tx K mg) : FnOk P w K mg base CX0 1 (He.ga K "_law_power") T.fd_law_power P_law_power sp_law_power := by
  refine T.F_law_power.ok sc_law_power (fun vs H Q E h => ?_) (fun cdv A outer s H vs Q E hr h => ⟨_, PSs.nox (pss_cons (ps_set (i := 1) sc_law_power.nd rfl (Or.inl rfl) (pe_int)) (pss_cons (ps_for PassesOwn.never rfl (pi_range1 rfl T.z_range (pa_cons (pv 0) pa_nil)) (pg_name (i := 2) sc_law_power.nd rfl (Or.inl rfl)) (pss_one (ps_set (i := 1) sc_law_power.nd rfl (Or.inl rfl) (pe_op op_mul (pv 1) (pe_int))))) (pss_one (ps_ret (pv 1))))), ?_⟩)
  · obtain ⟨_, rfl, _⟩ := h
    rfl
  · obtain ⟨n, rfl, hn, q⟩ := h
    simp only [tSeq, tAsg, tRet, tRetN, tDrop, tNext, tVar, tC, gName, tOp, tUn, rI, rI0, rU, tIfS, tTest, tB, tIf, tAnd, tOr, tNot, tAndV, tOrV, tNotV, tCall, tCons, tNil, tCB, tLst, tTup, tChain, CMul, CDiv, CPow, rEq, rNe, gSub, L2.start, LL.cxK0, LL.cxK1, List.map_cons, List.map_nil, List.length_cons, List.length_nil, List.replicate_succ, List.replicate_zero, List.cons_append, List.nil_append, List.append_nil, List.getElem?_cons_zero, List.getElem?_cons_succ, List.set_cons_zero, List.set_cons_succ, Nat.add_sub_cancel, Nat.reduceAdd, Nat.reduceSub, Option.some.injEq, V.int.injEq, V.bl.injEq, V.ref.injEq, V.str.injEq, List.cons.injEq, and_true, true_and, and_false, false_and, exists_eq_left, exists_eq_left', exists_and_left, exists_and_right, exists_eq, exists_eq', LL.if_dec, reduceCtorEq, exists_false, exists_const, or_false, false_or, if_true, if_false, LL.rInt1, LL.rMx, LL.rMn, and_assoc, Int.reduceNeg, Int.reduceLT, Int.reduceLE, Int.reduceMul, Int.reduceAdd, Int.reduceSub, Int.reducePow, Int.reduceToNat, Nat.reducePow, Nat.reduceLT, true_or, or_true, Bool.not_true, Bool.not_false, Bool.false_eq_true, Bool.or_false, Bool.or_true, Bool.true_or, Bool.false_or, decide_true, decide_false, not_true_eq_false, not_false_eq_true, LL.scal_int, LL.scal_bl, LL.scal_str, LL.isInt, LL.isBl, LL.isStr, LL.isLst, LL.isTup, LL.isDic, N_law_power]
    refine use_forR (j := n) (fun Q q => ⟨_, rfl, q⟩) (by omega) (by omega) (fun i σ' H' => H' = H ∧ i ≤ n ∧ ∃ x : Option V, σ' = [some (.int n), some (.int (2 ^ i)), x]) ⟨rfl, Nat.zero_le _, _, rfl⟩ ?_ ?_
    · rintro i σ' H' hi ⟨rfl, h1, x, rfl⟩
      simp only [tSeq, tAsg, tRet, tRetN, tDrop, tNext, tVar, tC, gName, tOp, tUn, rI, rI0, rU, tIfS, tTest, tB, tIf, tAnd, tOr, tNot, tAndV, tOrV, tNotV, tCall, tCons, tNil, tCB, tLst, tTup, tChain, CMul, CDiv, CPow, rEq, rNe, gSub, L2.start, LL.cxK0, LL.cxK1, List.map_cons, List.map_nil, List.length_cons, List.length_nil, List.replicate_succ, List.replicate_zero, List.cons_append, List.nil_append, List.append_nil, List.getElem?_cons_zero, List.getElem?_cons_succ, List.set_cons_zero, List.set_cons_succ, Nat.add_sub_cancel, Nat.reduceAdd, Nat.reduceSub, Option.some.injEq, V.int.injEq, V.bl.injEq, V.ref.injEq, V.str.injEq, List.cons.injEq, and_true, true_and, and_false, false_and, exists_eq_left, exists_eq_left', exists_and_left, exists_and_right, exists_eq, exists_eq', LL.if_dec, reduceCtorEq, exists_false, exists_const, or_false, false_or, if_true, if_false, LL.rInt1, LL.rMx, LL.rMn, and_assoc, Int.reduceNeg, Int.reduceLT, Int.reduceLE, Int.reduceMul, Int.reduceAdd, Int.reduceSub, Int.reducePow, Int.reduceToNat, Nat.reducePow, Nat.reduceLT, true_or, or_true, Bool.not_true, Bool.not_false, Bool.false_eq_true, Bool.or_false, Bool.or_true, Bool.true_or, Bool.false_or, decide_true, decide_false, not_true_eq_false, not_false_eq_true, LL.scal_int, LL.scal_bl, LL.scal_str, LL.isInt, LL.isBl, LL.isStr, LL.isLst, LL.isTup, LL.isDic]
      exact ⟨by omega, by rw [Int.pow_succ]⟩
    · rintro σ' H' ⟨rfl, h1, x, rfl⟩
      simp only [tSeq, tAsg, tRet, tRetN, tDrop, tNext, tVar, tC, gName, tOp, tUn, rI, rI0, rU, tIfS, tTest, tB, tIf, tAnd, tOr, tNot, tAndV, tOrV, tNotV, tCall, tCons, tNil, tCB, tLst, tTup, tChain, CMul, CDiv, CPow, rEq, rNe, gSub, L2.start, LL.cxK0, LL.cxK1, List.map_cons, List.map_nil, List.length_cons, List.length_nil, List.replicate_succ, List.replicate_zero, List.cons_append, List.nil_append, List.append_nil, List.getElem?_cons_zero, List.getElem?_cons_succ, List.set_cons_zero, List.set_cons_succ, Nat.add_sub_cancel, Nat.reduceAdd, Nat.reduceSub, Option.some.injEq, V.int.injEq, V.bl.injEq, V.ref.injEq, V.str.injEq, List.cons.injEq, and_true, true_and, and_false, false_and, exists_eq_left, exists_eq_left', exists_and_left, exists_and_right, exists_eq, exists_eq', LL.if_dec, reduceCtorEq, exists_false, exists_const, or_false, false_or, if_true, if_false, LL.rInt1, LL.rMx, LL.rMn, and_assoc, Int.reduceNeg, Int.reduceLT, Int.reduceLE, Int.reduceMul, Int.reduceAdd, Int.reduceSub, Int.reducePow, Int.reduceToNat, Nat.reducePow, Nat.reduceLT, true_or, or_true, Bool.not_true, Bool.not_false, Bool.false_eq_true, Bool.or_false, Bool.or_true, Bool.true_or, Bool.false_or, decide_true, decide_false, not_true_eq_false, not_false_eq_true, LL.scal_int, LL.scal_bl, LL.scal_str, LL.isInt, LL.isBl, LL.isStr, LL.isLst, LL.isTup, LL.isDic]
      exact q
theorem ok_law_number (T : Tx K mg) : FnOk P w K mg base CX0 5 (He.ga K "_law_number") T.fd_law_number P_law_number sp_law_number := by
  refine T.F_law_number.ok sc_law_number (fun vs H Q E h => ?_) (fun cdv A outer s H vs Q E hr h => ⟨_, PSs.nox (pss_cons (ps_if (pt_cmpR op_lt (pe_op op_sub (pv 2) (pv 1)) (pe_int) (nomark _)) (pss_one (ps_ret (pe_call (ok_law_between T) (hr.mono (by decide)) rfl T.g_law_between T.F_law_between.kp (b_law_between T) .nil pass0 (pa_cons (pv 0) (pa_cons (pv 1) (pa_cons (pv 2) pa_nil)))))) pss_nil) (pss_cons (ps_set (i := 3) sc_law_number.nd rfl (Or.inl rfl) (pe_call (ok_law_take T) (hr.mono (by decide)) rfl T.g_law_take T.F_law_take.kp (b_law_take T) .nil pass0 (pa_cons (pv 0) (pa_cons (pe_int) pa_nil)))) (pss_cons (ps_if (pt_cmpR op_lt (pv 3) (pe_int) (nomark _)) (pss_one (ps_ret (pe_ix (show IxR _ (rIxL K) from ix_list) (pe_lst (pa_cons (pv 1) (pa_cons (pv 2) (pa_cons (pe_op op_add (pv 1) (pe_int)) (pa_cons (pe_op op_sub (pv 2) (pe_int)) pa_nil))))) (pv 3) (fun _ _ => rfl)))) pss_nil) (pss_cons (ps_if (pt_cmpR op_lt (pv 3) (pe_int) (nomark _)) (pss_one (ps_ret (pe_op op_add (pv 1) (pe_call (ok_law_take T) (hr.mono (by decide)) rfl T.g_law_take T.F_law_take.kp (b_law_take T) .nil pass0 (pa_cons (pv 0) (pa_cons (pe_op op_add (pe_callB (LL.call_mn rfl) (by rfl) T.z_min (by decide +kernel) (pa_cons (pe_op op_sub (pv 2) (pv 1)) (pa_cons (pe_int) pa_nil))) (pe_int)) pa_nil)))))) pss_nil) (pss_cons (ps_if (pt_cmpR op_eq (pv 3) (pe_int) (nomark _)) (pss_one (ps_ret (pe_callB (LL.call_mx rfl) (by rfl) T.z_max (by decide +kernel) (pa_cons (pv 1) (pa_cons (pe_callB (LL.call_mn rfl) (by rfl) T.z_min (by decide +kernel) (pa_cons (pv 2) (pa_cons (pe_op op_sub (pe_op op_add (pe_call (ok_law_alignment T) hr rfl T.g_law_alignment T.F_law_alignment.kp (b_law_alignment T) .nil pass0 (pa_cons (pv 0) (pa_cons (pe_int) pa_nil))) (pe_call (ok_law_take T) (hr.mono (by decide)) rfl T.g_law_take T.F_law_take.kp (b_law_take T) .nil pass0 (pa_cons (pv 0) (pa_cons (pe_int) pa_nil)))) (pe_int)) pa_nil))) pa_nil))))) pss_nil) (pss_one (ps_ret (pe_op op_add (pv 1) (pe_call (ok_law_take T) (hr.mono (by decide)) rfl T.g_law_take T.F_law_take.kp (b_law_take T) .nil pass0 (pa_cons (pv 0) (pa_cons (pe_op op_add (pe_op op_sub (pv 2) (pv 1)) (pe_int)) pa_nil))))))))))), ?_⟩)
  · obtain ⟨_, _, _, _, rfl, _⟩ := h
    rfl
  · obtain ⟨d, s, lo, hi, rfl, D, h0, h1, h2, h3, q⟩ := h
    simp only [tSeq, tAsg, tRet, tRetN, tDrop, tNext, tVar, tC, gName, tOp, tUn, rI, rI0, rU, tIfS, tTest, tB, tIf, tAnd, tOr, tNot, tAndV, tOrV, tNotV, tCall, tCons, tNil, tCB, tLst, tTup, tChain, CMul, CDiv, CPow, rEq, rNe, gSub, L2.start, LL.cxK0, LL.cxK1, List.map_cons, List.map_nil, List.length_cons, List.length_nil, List.replicate_succ, List.replicate_zero, List.cons_append, List.nil_append, List.append_nil, List.getElem?_cons_zero, List.getElem?_cons_succ, List.set_cons_zero, List.set_cons_succ, Nat.add_sub_cancel, Nat.reduceAdd, Nat.reduceSub, Option.some.injEq, V.int.injEq, V.bl.injEq, V.ref.injEq, V.str.injEq, List.cons.injEq, and_true, true_and, and_false, false_and, exists_eq_left, exists_eq_left', exists_and_left, exists_and_right, exists_eq, exists_eq', LL.if_dec, reduceCtorEq, exists_false, exists_const, or_false, false_or, if_true, if_false, LL.rInt1, LL.rMx, LL.rMn, and_assoc, Int.reduceNeg, Int.reduceLT, Int.reduceLE, Int.reduceMul, Int.reduceAdd, Int.reduceSub, Int.reducePow, Int.reduceToNat, Nat.reducePow, Nat.reduceLT, true_or, or_true, Bool.not_true, Bool.not_false, Bool.false_eq_true, Bool.or_false, Bool.or_true, Bool.true_or, Bool.false_or, decide_true, decide_false, not_true_eq_false, not_false_eq_true, LL.scal_int, LL.scal_bl, LL.scal_str, LL.isInt, LL.isBl, LL.isStr, LL.isLst, LL.isTup, LL.isDic, N_law_number]
    split
    · exact use_between D (big_of (by omega) (by omega)) fun v H' a D' h2 h3 => q _ _ a D' h2 (by omega)
    · refine use_take D (by decide +kernel) fun v H' a D' v0 v1 => ?_
      simp only [tSeq, tAsg, tRet, tRetN, tDrop, tNext, tVar, tC, gName, tOp, tUn, rI, rI0, rU, tIfS, tTest, tB, tIf, tAnd, tOr, tNot, tAndV, tOrV, tNotV, tCall, tCons, tNil, tCB, tLst, tTup, tChain, CMul, CDiv, CPow, rEq, rNe, gSub, L2.start, LL.cxK0, LL.cxK1, List.map_cons, List.map_nil, List.length_cons, List.length_nil, List.replicate_succ, List.replicate_zero, List.cons_append, List.nil_append, List.append_nil, List.getElem?_cons_zero, List.getElem?_cons_succ, List.set_cons_zero, List.set_cons_succ, Nat.add_sub_cancel, Nat.reduceAdd, Nat.reduceSub, Option.some.injEq, V.int.injEq, V.bl.injEq, V.ref.injEq, V.str.injEq, List.cons.injEq, and_true, true_and, and_false, false_and, exists_eq_left, exists_eq_left', exists_and_left, exists_and_right, exists_eq, exists_eq', LL.if_dec, reduceCtorEq, exists_false, exists_const, or_false, false_or, if_true, if_false, LL.rInt1, LL.rMx, LL.rMn, and_assoc, Int.reduceNeg, Int.reduceLT, Int.reduceLE, Int.reduceMul, Int.reduceAdd, Int.reduceSub, Int.reducePow, Int.reduceToNat, Nat.reducePow, Nat.reduceLT, true_or, or_true, Bool.not_true, Bool.not_false, Bool.false_eq_true, Bool.or_false, Bool.or_true, Bool.true_or, Bool.false_or, decide_true, decide_false, not_true_eq_false, not_false_eq_true, LL.scal_int, LL.scal_bl, LL.scal_str, LL.isInt, LL.isBl, LL.isStr, LL.isLst, LL.isTup, LL.isDic]
      split
      · refine ⟨by decide, fun p hp => ?_⟩
        refine use_pick upd_same v0 (by simp only [List.length_cons, List.length_nil]; omega) ?_
        have a2 := a.new (o := .lst [.int lo, .int hi, .int (lo + 1), .int (hi - 1)]) hp
        intro x hx
        simp only [List.mem_cons, List.not_mem_nil, or_false] at hx
        rcases hx with rfl | rfl | rfl | rfl <;> exact q _ _ a2 a2.dr (by omega) (by omega)
      · split
        · refine use_take D' (big_of (by omega) (by omega)) fun v2 H2 a2 D2 h4 h5 => ?_
          simp only [tSeq, tAsg, tRet, tRetN, tDrop, tNext, tVar, tC, gName, tOp, tUn, rI, rI0, rU, tIfS, tTest, tB, tIf, tAnd, tOr, tNot, tAndV, tOrV, tNotV, tCall, tCons, tNil, tCB, tLst, tTup, tChain, CMul, CDiv, CPow, rEq, rNe, gSub, L2.start, LL.cxK0, LL.cxK1, List.map_cons, List.map_nil, List.length_cons, List.length_nil, List.replicate_succ, List.replicate_zero, List.cons_append, List.nil_append, List.append_nil, List.getElem?_cons_zero, List.getElem?_cons_succ, List.set_cons_zero, List.set_cons_succ, Nat.add_sub_cancel, Nat.reduceAdd, Nat.reduceSub, Option.some.injEq, V.int.injEq, V.bl.injEq, V.ref.injEq, V.str.injEq, List.cons.injEq, and_true, true_and, and_false, false_and, exists_eq_left, exists_eq_left', exists_and_left, exists_and_right, exists_eq, exists_eq', LL.if_dec, reduceCtorEq, exists_false, exists_const, or_false, false_or, if_true, if_false, LL.rInt1, LL.rMx, LL.rMn, and_assoc, Int.reduceNeg, Int.reduceLT, Int.reduceLE, Int.reduceMul, Int.reduceAdd, Int.reduceSub, Int.reducePow, Int.reduceToNat, Nat.reducePow, Nat.reduceLT, true_or, or_true, Bool.not_true, Bool.not_false, Bool.false_eq_true, Bool.or_false, Bool.or_true, Bool.true_or, Bool.false_or, decide_true, decide_false, not_true_eq_false, not_false_eq_true, LL.scal_int, LL.scal_bl, LL.scal_str, LL.isInt, LL.isBl, LL.isStr, LL.isLst, LL.isTup, LL.isDic]
          exact q _ _ (a.trans a2) D2 (by omega) (by omega)
        · split
          · refine use_alignment D' (by decide) (by decide) fun j H2 a2 D2 hj => ?_
            simp only [tSeq, tAsg, tRet, tRetN, tDrop, tNext, tVar, tC, gName, tOp, tUn, rI, rI0, rU, tIfS, tTest, tB, tIf, tAnd, tOr, tNot, tAndV, tOrV, tNotV, tCall, tCons, tNil, tCB, tLst, tTup, tChain, CMul, CDiv, CPow, rEq, rNe, gSub, L2.start, LL.cxK0, LL.cxK1, List.map_cons, List.map_nil, List.length_cons, List.length_nil, List.replicate_succ, List.replicate_zero, List.cons_append, List.nil_append, List.append_nil, List.getElem?_cons_zero, List.getElem?_cons_succ, List.set_cons_zero, List.set_cons_succ, Nat.add_sub_cancel, Nat.reduceAdd, Nat.reduceSub, Option.some.injEq, V.int.injEq, V.bl.injEq, V.ref.injEq, V.str.injEq, List.cons.injEq, and_true, true_and, and_false, false_and, exists_eq_left, exists_eq_left', exists_and_left, exists_and_right, exists_eq, exists_eq', LL.if_dec, reduceCtorEq, exists_false, exists_const, or_false, false_or, if_true, if_false, LL.rInt1, LL.rMx, LL.rMn, and_assoc, Int.reduceNeg, Int.reduceLT, Int.reduceLE, Int.reduceMul, Int.reduceAdd, Int.reduceSub, Int.reducePow, Int.reduceToNat, Nat.reducePow, Nat.reduceLT, true_or, or_true, Bool.not_true, Bool.not_false, Bool.false_eq_true, Bool.or_false, Bool.or_true, Bool.true_or, Bool.false_or, decide_true, decide_false, not_true_eq_false, not_false_eq_true, LL.scal_int, LL.scal_bl, LL.scal_str, LL.isInt, LL.isBl, LL.isStr, LL.isLst, LL.isTup, LL.isDic]
            refine use_take D2 (by decide +kernel) fun v3 H3 a3 D3 h4 h5 => ?_
            simp only [tSeq, tAsg, tRet, tRetN, tDrop, tNext, tVar, tC, gName, tOp, tUn, rI, rI0, rU, tIfS, tTest, tB, tIf, tAnd, tOr, tNot, tAndV, tOrV, tNotV, tCall, tCons, tNil, tCB, tLst, tTup, tChain, CMul, CDiv, CPow, rEq, rNe, gSub, L2.start, LL.cxK0, LL.cxK1, List.map_cons, List.map_nil, List.length_cons, List.length_nil, List.replicate_succ, List.replicate_zero, List.cons_append, List.nil_append, List.append_nil, List.getElem?_cons_zero, List.getElem?_cons_succ, List.set_cons_zero, List.set_cons_succ, Nat.add_sub_cancel, Nat.reduceAdd, Nat.reduceSub, Option.some.injEq, V.int.injEq, V.bl.injEq, V.ref.injEq, V.str.injEq, List.cons.injEq, and_true, true_and, and_false, false_and, exists_eq_left, exists_eq_left', exists_and_left, exists_and_right, exists_eq, exists_eq', LL.if_dec, reduceCtorEq, exists_false, exists_const, or_false, false_or, if_true, if_false, LL.rInt1, LL.rMx, LL.rMn, and_assoc, Int.reduceNeg, Int.reduceLT, Int.reduceLE, Int.reduceMul, Int.reduceAdd, Int.reduceSub, Int.reducePow, Int.reduceToNat, Nat.reducePow, Nat.reduceLT, true_or, or_true, Bool.not_true, Bool.not_false, Bool.false_eq_true, Bool.or_false, Bool.or_true, Bool.true_or, Bool.false_or, decide_true, decide_false, not_true_eq_false, not_false_eq_true, LL.scal_int, LL.scal_bl, LL.scal_str, LL.isInt, LL.isBl, LL.isStr, LL.isLst, LL.isTup, LL.isDic]
            exact q _ _ ((a.trans a2).trans a3) D3 (by omega) (by omega)
          · refine use_take D' (big_of (by omega) (by omega)) fun v2 H2 a2 D2 h4 h5 => ?_
            simp only [tSeq, tAsg, tRet, tRetN, tDrop, tNext, tVar, tC, gName, tOp, tUn, rI, rI0, rU, tIfS, tTest, tB, tIf, tAnd, tOr, tNot, tAndV, tOrV, tNotV, tCall, tCons, tNil, tCB, tLst, tTup, tChain, CMul, CDiv, CPow, rEq, rNe, gSub, L2.start, LL.cxK0, LL.cxK1, List.map_cons, List.map_nil, List.length_cons, List.length_nil, List.replicate_succ, List.replicate_zero, List.cons_append, List.nil_append, List.append_nil, List.getElem?_cons_zero, List.getElem?_cons_succ, List.set_cons_zero, List.set_cons_succ, Nat.add_sub_cancel, Nat.reduceAdd, Nat.reduceSub, Option.some.injEq, V.int.injEq, V.bl.injEq, V.ref.injEq, V.str.injEq, List.cons.injEq, and_true, true_and, and_false, false_and, exists_eq_left, exists_eq_left', exists_and_left, exists_and_right, exists_eq, exists_eq', LL.if_dec, reduceCtorEq, exists_false, exists_const, or_false, false_or, if_true, if_false, LL.rInt1, LL.rMx, LL.rMn, and_assoc, Int.reduceNeg, Int.reduceLT, Int.reduceLE, Int.reduceMul, Int.reduceAdd, Int.reduceSub, Int.reducePow, Int.reduceToNat, Nat.reducePow, Nat.reduceLT, true_or, or_true, Bool.not_true, Bool.not_false, Bool.false_eq_true, Bool.or_false, Bool.or_true, Bool.true_or, Bool.false_or, decide_true, decide_false, not_true_eq_false, not_false_eq_true, LL.scal_int, LL.scal_bl, LL.scal_str, LL.isInt, LL.isBl, LL.isStr, LL.isLst, LL.isTup, LL.isDic]
            exact q _ _ (a.trans a2) D2 (by omega) (by omega)
def sp_law_long : Sp := fun vs H Q _ => vs = [] ∧ Q (.int (10 ^ 999)) H
theorem long_b (n : Nat) (h : n ≤ 15) : ((10 : Int) ^ (39 + 64 * n)).natAbs < 2 ^ 3400 := by
  have e : ((10 : Int) ^ (39 + 64 * n)).natAbs = 10 ^ (39 + 64 * n) := by rw [Int.natAbs_pow]; rfl
  rw [e]
  exact Nat.lt_of_le_of_lt (Nat.pow_le_pow_right (by decide) (by omega : 39 + 64 * n ≤ 999)) (by decide +kernel)

theorem ok_law_long (T : Tx K mg) : FnOk P w K mg base CX0 1 (He.ga K "_law_long") T.fd_law_long P_law_long sp_law_long := by
  refine T.F_law_long.ok sc_law_long (fun vs H Q E h => ?_) (fun cdv A outer s H vs Q E hr h => ⟨_, PSs.nox (pss_cons (ps_set (i := 0) sc_law_long.nd rfl (Or.inl rfl) (pe_op op_pow (pe_int) (pe_int))) (pss_cons (ps_for PassesOwn.never rfl (pi_range1 rfl T.z_range (pa_cons (pe_int) pa_nil)) (pg_name (i := 1) sc_law_long.nd rfl (Or.inl rfl)) (pss_one (ps_set (i := 0) sc_law_long.nd rfl (Or.inl rfl) (pe_op op_mulW (pv 0) (pe_op op_pow (pe_int) (pe_int)))))) (pss_one (ps_ret (pv 0))))), ?_⟩)
  · obtain ⟨rfl, _⟩ := h
    rfl
  · obtain ⟨rfl, q⟩ := h
    simp only [tSeq, tAsg, tRet, tRetN, tDrop, tNext, tVar, tC, gName, tOp, tUn, rI, rI0, rU, tIfS, tTest, tB, tIf, tAnd, tOr, tNot, tAndV, tOrV, tNotV, tCall, tCons, tNil, tCB, tLst, tTup, tChain, CMul, CDiv, CPow, rEq, rNe, gSub, L2.start, LL.cxK0, LL.cxK1, List.map_cons, List.map_nil, List.length_cons, List.length_nil, List.replicate_succ, List.replicate_zero, List.cons_append, List.nil_append, List.append_nil, List.getElem?_cons_zero, List.getElem?_cons_succ, List.set_cons_zero, List.set_cons_succ, Nat.add_sub_cancel, Nat.reduceAdd, Nat.reduceSub, Option.some.injEq, V.int.injEq, V.bl.injEq, V.ref.injEq, V.str.injEq, List.cons.injEq, and_true, true_and, and_false, false_and, exists_eq_left, exists_eq_left', exists_and_left, exists_and_right, exists_eq, exists_eq', LL.if_dec, reduceCtorEq, exists_false, exists_const, or_false, false_or, if_true, if_false, LL.rInt1, LL.rMx, LL.rMn, and_assoc, Int.reduceNeg, Int.reduceLT, Int.reduceLE, Int.reduceMul, Int.reduceAdd, Int.reduceSub, Int.reducePow, Int.reduceToNat, Nat.reducePow, Nat.reduceLT, true_or, or_true, Bool.not_true, Bool.not_false, Bool.false_eq_true, Bool.or_false, Bool.or_true, Bool.true_or, Bool.false_or, decide_true, decide_false, not_true_eq_false, not_false_eq_true, LL.scal_int, LL.scal_bl, LL.scal_str, LL.isInt, LL.isBl, LL.isStr, LL.isLst, LL.isTup, LL.isDic, N_law_long]
    refine ⟨by decide, use_forR (j := 15) (fun Q q => q) (by decide) (by decide) (fun i σ' H' => H' = H ∧ i ≤ 15 ∧ ∃ x : Option V, σ' = [some (.int (10 ^ (39 + 64 * i))), x]) ⟨rfl, by decide, _, rfl⟩ ?_ ?_⟩
    · rintro i σ' H' hi ⟨rfl, h1, x, rfl⟩
      simp only [tSeq, tAsg, tRet, tRetN, tDrop, tNext, tVar, tC, gName, tOp, tUn, rI, rI0, rU, tIfS, tTest, tB, tIf, tAnd, tOr, tNot, tAndV, tOrV, tNotV, tCall, tCons, tNil, tCB, tLst, tTup, tChain, CMul, CDiv, CPow, rEq, rNe, gSub, L2.start, LL.cxK0, LL.cxK1, List.map_cons, List.map_nil, List.length_cons, List.length_nil, List.replicate_succ, List.replicate_zero, List.cons_append, List.nil_append, List.append_nil, List.getElem?_cons_zero, List.getElem?_cons_succ, List.set_cons_zero, List.set_cons_succ, Nat.add_sub_cancel, Nat.reduceAdd, Nat.reduceSub, Option.some.injEq, V.int.injEq, V.bl.injEq, V.ref.injEq, V.str.injEq, List.cons.injEq, and_true, true_and, and_false, false_and, exists_eq_left, exists_eq_left', exists_and_left, exists_and_right, exists_eq, exists_eq', LL.if_dec, reduceCtorEq, exists_false, exists_const, or_false, false_or, if_true, if_false, LL.rInt1, LL.rMx, LL.rMn, and_assoc, Int.reduceNeg, Int.reduceLT, Int.reduceLE, Int.reduceMul, Int.reduceAdd, Int.reduceSub, Int.reducePow, Int.reduceToNat, Nat.reducePow, Nat.reduceLT, true_or, or_true, Bool.not_true, Bool.not_false, Bool.false_eq_true, Bool.or_false, Bool.or_true, Bool.true_or, Bool.false_or, decide_true, decide_false, not_true_eq_false, not_false_eq_true, LL.scal_int, LL.scal_bl, LL.scal_str, LL.isInt, LL.isBl, LL.isStr, LL.isLst, LL.isTup, LL.isDic]
      have e : (10 : Int) ^ (39 + 64 * i) * 10 ^ 64 = 10 ^ (39 + 64 * (i + 1)) := by
        rw [← Int.pow_add, show 39 + 64 * i + 64 = 39 + 64 * (i + 1) by omega]
      refine ⟨by decide, wide_mul (a := 3400) (b := 220) (long_b i h1) (by decide +kernel) (by decide) (by decide) (by decide), by omega, ?_⟩
      exact e
    · rintro σ' H' ⟨rfl, h1, x, rfl⟩
      simp only [tSeq, tAsg, tRet, tRetN, tDrop, tNext, tVar, tC, gName, tOp, tUn, rI, rI0, rU, tIfS, tTest, tB, tIf, tAnd, tOr, tNot, tAndV, tOrV, tNotV, tCall, tCons, tNil, tCB, tLst, tTup, tChain, CMul, CDiv, CPow, rEq, rNe, gSub, L2.start, LL.cxK0, LL.cxK1, List.map_cons, List.map_nil, List.length_cons, List.length_nil, List.replicate_succ, List.replicate_zero, List.cons_append, List.nil_append, List.append_nil, List.getElem?_cons_zero, List.getElem?_cons_succ, List.set_cons_zero, List.set_cons_succ, Nat.add_sub_cancel, Nat.reduceAdd, Nat.reduceSub, Option.some.injEq, V.int.injEq, V.bl.injEq, V.ref.injEq, V.str.injEq, List.cons.injEq, and_true, true_and, and_false, false_and, exists_eq_left, exists_eq_left', exists_and_left, exists_and_right, exists_eq, exists_eq', LL.if_dec, reduceCtorEq, exists_false, exists_const, or_false, false_or, if_true, if_false, LL.rInt1, LL.rMx, LL.rMn, and_assoc, Int.reduceNeg, Int.reduceLT, Int.reduceLE, Int.reduceMul, Int.reduceAdd, Int.reduceSub, Int.reducePow, Int.reduceToNat, Nat.reducePow, Nat.reduceLT, true_or, or_true, Bool.not_true, Bool.not_false, Bool.false_eq_true, Bool.or_false, Bool.or_true, Bool.true_or, Bool.false_or, decide_true, decide_false, not_true_eq_false, not_false_eq_true, LL.scal_int, LL.scal_bl, LL.scal_str, LL.isInt, LL.isBl, LL.isStr, LL.isLst, LL.isTup, LL.isDic]
      exact q
/-- data that is no integer -/
def sp_law_not_integer : Sp := fun vs H Q _ => ∃ (d s : Addr), vs = [.ref d] ∧ Drw d s H ∧ ∀ v t H', Aft d s H H' → Drw d s H' → Dt (fun a => H a = none) H' v t → dep t ≤ 1 → isInt t = false → Q v H'

theorem ok_law_not_integer (T : Tx K mg) : FnOk P w K mg base CX0 3 (He.ga K "_law_not_integer") T.fd_law_not_integer P_law_not_integer sp_law_not_integer := by
  refine T.F_law_not_integer.ok sc_law_not_integer (fun vs H Q E h => ?_) (fun cdv A outer s H vs Q E hr h => ⟨_, PSs.nox (pss_one (ps_ret (pe_ix (show IxR _ (rIxL K) from ix_list) (pe_lst (pa_cons (pe_bl) (pa_cons (pe_bl) (pa_cons (pe_non) (pa_cons (pe_str) (pa_cons (pe_str) (pa_cons (pe_str) (pa_cons (pe_lst pa_nil) (pa_cons (pe_tup pa_nil) (pa_cons (pe_lst (pa_cons (pe_int) pa_nil)) (pa_cons (pe_tup (pa_cons (pe_int) pa_nil)) (pa_cons (pe_disp (pps_cons (pe_str) (pe_int) pps_nil) (by rfl) (by rfl) (fun z => by cases z) (by decide)) pa_nil)))))))))))) (pe_call (ok_law_take T) hr rfl T.g_law_take T.F_law_take.kp (b_law_take T) .nil pass0 (pa_cons (pv 0) (pa_cons (pe_int) pa_nil))) (fun _ _ => rfl)))), ?_⟩)
  · obtain ⟨_, _, rfl, _⟩ := h
    rfl
  · obtain ⟨d, s, rfl, D, q⟩ := h
    simp only [tSeq, tAsg, tRet, tRetN, tDrop, tNext, tVar, tC, gName, tOp, tUn, rI, rI0, rU, tIfS, tTest, tB, tIf, tAnd, tOr, tNot, tAndV, tOrV, tNotV, tCall, tCons, tNil, tCB, tLst, tTup, tChain, CMul, CDiv, CPow, rEq, rNe, gSub, L2.start, LL.cxK0, LL.cxK1, List.map_cons, List.map_nil, List.length_cons, List.length_nil, List.replicate_succ, List.replicate_zero, List.cons_append, List.nil_append, List.append_nil, List.getElem?_cons_zero, List.getElem?_cons_succ, List.set_cons_zero, List.set_cons_succ, Nat.add_sub_cancel, Nat.reduceAdd, Nat.reduceSub, Option.some.injEq, V.int.injEq, V.bl.injEq, V.ref.injEq, V.str.injEq, List.cons.injEq, and_true, true_and, and_false, false_and, exists_eq_left, exists_eq_left', exists_and_left, exists_and_right, exists_eq, exists_eq', LL.if_dec, reduceCtorEq, exists_false, exists_const, or_false, false_or, if_true, if_false, LL.rInt1, LL.rMx, LL.rMn, and_assoc, Int.reduceNeg, Int.reduceLT, Int.reduceLE, Int.reduceMul, Int.reduceAdd, Int.reduceSub, Int.reducePow, Int.reduceToNat, Nat.reducePow, Nat.reduceLT, true_or, or_true, Bool.not_true, Bool.not_false, Bool.false_eq_true, Bool.or_false, Bool.or_true, Bool.true_or, Bool.false_or, decide_true, decide_false, not_true_eq_false, not_false_eq_true, LL.scal_int, LL.scal_bl, LL.scal_str, LL.isInt, LL.isBl, LL.isStr, LL.isLst, LL.isTup, LL.isDic, N_law_not_integer]
    refine ⟨by decide, ?_⟩
    intro p1 np1
    generalize hq : upd H p1 _ = H1
    have sH1 : Same H H1 := hq ▸ Same.new (Same.refl _) np1
    have ep1 := hq ▸ (upd_same (H := H) (a := p1))
    clear hq
    refine ⟨by decide, ?_⟩
    intro p2 np2
    generalize hq : upd H1 p2 _ = H2
    have sH2 : Same H1 H2 := hq ▸ Same.new (Same.refl _) np2
    have ep2 := hq ▸ (upd_same (H := H1) (a := p2))
    clear hq
    replace ep1 := sH2 _ _ ep1
    refine ⟨by decide, ?_⟩
    intro p3 np3
    generalize hq : upd H2 p3 _ = H3
    have sH3 : Same H2 H3 := hq ▸ Same.new (Same.refl _) np3
    have ep3 := hq ▸ (upd_same (H := H2) (a := p3))
    clear hq
    replace ep1 := sH3 _ _ ep1
    replace ep2 := sH3 _ _ ep2
    refine ⟨by decide, ?_⟩
    intro p4 np4
    generalize hq : upd H3 p4 _ = H4
    have sH4 : Same H3 H4 := hq ▸ Same.new (Same.refl _) np4
    have ep4 := hq ▸ (upd_same (H := H3) (a := p4))
    clear hq
    replace ep1 := sH4 _ _ ep1
    replace ep2 := sH4 _ _ ep2
    replace ep3 := sH4 _ _ ep3
    unfold tDisp
    intro p5 np5
    generalize hq : upd H4 p5 _ = H5
    have sH5 : Same H4 H5 := hq ▸ Same.new (Same.refl _) np5
    have ep5 := hq ▸ (upd_same (H := H4) (a := p5))
    clear hq
    simp only [tPairs, tC]
    refine ⟨ep5, [(Sum.inr "a", .int 1)], rfl, by decide, ?_⟩
    have n5 : H4 p5 = none := np5
    generalize hq : upd H5 p5 _ = H6
    have e5 : H6 p5 = some (.dK [(Sum.inr "a", .int 1)]) := hq ▸ upd_same
    have s6 : Same H4 H6 := hq ▸ Same.own sH5 n5
    clear hq
    replace ep1 := s6 _ _ ep1
    replace ep2 := s6 _ _ ep2
    replace ep3 := s6 _ _ ep3
    replace ep4 := s6 _ _ ep4
    refine ⟨by decide, ?_⟩
    have g6 : Same H H6 := (((sH1.trans sH2).trans sH3).trans sH4).trans s6
    intro p6 np6
    generalize hq : upd H6 p6 _ = H7
    have sH7 : Same H6 H7 := hq ▸ Same.new (Same.refl _) np6
    have ep6 := hq ▸ (upd_same (H := H6) (a := p6))
    clear hq
    replace ep1 := sH7 _ _ ep1
    replace ep2 := sH7 _ _ ep2
    replace ep3 := sH7 _ _ ep3
    replace ep4 := sH7 _ _ ep4
    replace e5 := sH7 _ _ e5
    have g7 := g6.trans sH7
    refine use_take (D.same g7) (by decide +kernel) fun v H' a D' v0 v1 => ?_
    refine use_pick (a.kp _ _ ((D.same g6).ne _ np6) ep6) v0 (by simp only [List.length_cons, List.length_nil]; omega) ?_
    have A : Aft d s H H' := ⟨(Kp.same g7).trans a.kp, D'⟩
    have f1 : H p1 = none := np1
    have f2 : H p2 = none := sH1.free np2
    have f3 : H p3 = none := (sH1.trans sH2).free np3
    have f4 : H p4 = none := ((sH1.trans sH2).trans sH3).free np4
    have f5 : H p5 = none := (((sH1.trans sH2).trans sH3).trans sH4).free n5
    replace ep1 := a.kp _ _ (D.ne _ f1) ep1
    replace ep2 := a.kp _ _ (D.ne _ f2) ep2
    replace ep3 := a.kp _ _ (D.ne _ f3) ep3
    replace ep4 := a.kp _ _ (D.ne _ f4) ep4
    replace e5 := a.kp _ _ (D.ne _ f5) e5
    intro x hx
    simp only [List.mem_cons, List.not_mem_nil, or_false] at hx
    rcases hx with rfl | rfl | rfl | rfl | rfl | rfl | rfl | rfl | rfl | rfl | rfl
    · exact q _ (.bl true) _ A D' rfl (by decide) rfl
    · exact q _ (.bl false) _ A D' rfl (by decide) rfl
    · exact q _ .non _ A D' rfl (by decide) rfl
    · exact q _ (.str _) _ A D' rfl (by simp [dep]) rfl
    · exact q _ (.str _) _ A D' rfl (by simp [dep]) rfl
    · exact q _ (.str _) _ A D' rfl (by simp [dep]) rfl
    · exact q _ (.lst []) _ A D' ⟨_, _, rfl, f1, ep1, rfl, by decide⟩ (by decide) rfl
    · exact q _ (.tup []) _ A D' ⟨_, _, rfl, f2, ep2, rfl, by decide⟩ (by decide) rfl
    · exact q _ (.lst [.int 1]) _ A D' ⟨_, _, rfl, f3, ep3, .one rfl, by simp⟩ (by decide) rfl
    · exact q _ (.tup [.int 0]) _ A D' ⟨_, _, rfl, f4, ep4, .one rfl, by simp⟩ (by decide) rfl
    · exact q _ (.dic (.int 1)) _ A D' ⟨_, _, rfl, f5, e5, rfl⟩ (by decide) rfl
/-- an integer out of the range, or data that is none -/
def Out (lo hi : Int) : T → Prop
  | .int i => i < lo ∨ hi < i
  | _ => True
theorem out_of {lo hi : Int} {t : T} (h : isInt t = false) : Out lo hi t := by cases t <;> first | trivial | cases h
def sp_law_not_within : Sp := fun vs H Q _ => ∃ (d s : Addr) (lo hi : Int), vs = [.ref d, .int lo, .int hi] ∧ Drw d s H ∧ -1000000000000 ≤ lo ∧ lo ≤ 1000000000000 ∧ -1000000000000 ≤ hi ∧ hi ≤ 1000000000000 ∧
  ∀ v t H', Aft d s H H' → Drw d s H' → Dt (fun a => H a = none) H' v t → dep t ≤ 1 → Out lo hi t → Q v H'
theorem use_not_within {d s : Addr} {lo hi : Int} {H : Hp} {Q : VK} {E : XK} (D : Drw d s H) (h0 : -1000000000000 ≤ lo) (h1 : lo ≤ 1000000000000) (h2 : -1000000000000 ≤ hi) (h3 : hi ≤ 1000000000000)
    (q : ∀ v t H', Aft d s H H' → Drw d s H' → Dt (fun a => H a = none) H' v t → dep t ≤ 1 → Out lo hi t → Q v H') : sp_law_not_within [.ref d, .int lo, .int hi] H Q E := ⟨d, s, lo, hi, rfl, D, h0, h1, h2, h3, q⟩
theorem ten30 : ((1000000000000000000000000000000 : Int)).natAbs < 2 ^ 4000 := by decide +kernel
theorem ten999 : (1000000000001 : Int) ≤ 10 ^ 999 := by decide +kernel

theorem ok_law_not_within (T : Tx K mg) : FnOk P w K mg base CX0 4 (He.ga K "_law_not_within") T.fd_law_not_within P_law_not_within sp_law_not_within := by
  refine T.F_law_not_within.ok sc_law_not_within (fun vs H Q E h => ?_) (fun cdv A outer s H vs Q E hr h => ⟨_, PSs.nox (pss_cons (ps_set (i := 3) sc_law_not_within.nd rfl (Or.inl rfl) (pe_call (ok_law_take T) (hr.mono (by decide)) rfl T.g_law_take T.F_law_take.kp (b_law_take T) .nil pass0 (pa_cons (pv 0) (pa_cons (pe_int) pa_nil)))) (pss_cons (ps_if (pt_cmpR op_lt (pv 3) (pe_int) (nomark _)) (pss_one (ps_ret (pe_ix (show IxR _ (rIxL K) from ix_list) (pe_lst (pa_cons (pe_op op_sub (pv 1) (pe_int)) (pa_cons (pe_op op_add (pv 2) (pe_int)) pa_nil))) (pv 3) (fun _ _ => rfl)))) pss_nil) (pss_cons (ps_if (pt_cmpR op_eq (pv 3) (pe_int) (nomark _)) (pss_one (ps_ret (pe_op op_add (pe_op op_add (pv 2) (pe_int)) (pe_call (ok_law_take T) (hr.mono (by decide)) rfl T.g_law_take T.F_law_take.kp (b_law_take T) .nil pass0 (pa_cons (pv 0) (pa_cons (pe_op op_pow (pe_int) (pe_int)) pa_nil)))))) pss_nil) (pss_cons (ps_if (pt_cmpR op_eq (pv 3) (pe_int) (nomark _)) (pss_one (ps_ret (pe_op op_sub (pe_op op_sub (pv 1) (pe_int)) (pe_call (ok_law_take T) (hr.mono (by decide)) rfl T.g_law_take T.F_law_take.kp (b_law_take T) .nil pass0 (pa_cons (pv 0) (pa_cons (pe_op op_pow (pe_int) (pe_int)) pa_nil)))))) pss_nil) (pss_cons (ps_if (pt_cmpR op_eq (pv 3) (pe_int) (nomark _)) (pss_one (ps_ret (pe_ix (show IxR _ (rIxL K) from ix_list) (pe_lst (pa_cons (pe_call0 (ok_law_long T) (hr.mono (by decide)) rfl T.g_law_long T.F_law_long.kp (b_law_long T) .nil pass0) (pa_cons (pe_un un_neg (pe_call0 (ok_law_long T) (hr.mono (by decide)) rfl T.g_law_long T.F_law_long.kp (b_law_long T) .nil pass0)) pa_nil))) (pe_call (ok_law_take T) (hr.mono (by decide)) rfl T.g_law_take T.F_law_take.kp (b_law_take T) .nil pass0 (pa_cons (pv 0) (pa_cons (pe_int) pa_nil))) (fun _ _ => rfl)))) pss_nil) (pss_one (ps_ret (pe_call (ok_law_not_integer T) hr rfl T.g_law_not_integer T.F_law_not_integer.kp (b_law_not_integer T) .nil pass0 (pa_cons (pv 0) pa_nil))))))))), ?_⟩)
  · obtain ⟨_, _, _, _, rfl, _⟩ := h
    rfl
  · obtain ⟨d, s, lo, hi, rfl, D, h0, h1, h2, h3, q⟩ := h
    simp only [tSeq, tAsg, tRet, tRetN, tDrop, tNext, tVar, tC, gName, tOp, tUn, rI, rI0, rU, tIfS, tTest, tB, tIf, tAnd, tOr, tNot, tAndV, tOrV, tNotV, tCall, tCons, tNil, tCB, tLst, tTup, tChain, CMul, CDiv, CPow, rEq, rNe, gSub, L2.start, LL.cxK0, LL.cxK1, List.map_cons, List.map_nil, List.length_cons, List.length_nil, List.replicate_succ, List.replicate_zero, List.cons_append, List.nil_append, List.append_nil, List.getElem?_cons_zero, List.getElem?_cons_succ, List.set_cons_zero, List.set_cons_succ, Nat.add_sub_cancel, Nat.reduceAdd, Nat.reduceSub, Option.some.injEq, V.int.injEq, V.bl.injEq, V.ref.injEq, V.str.injEq, List.cons.injEq, and_true, true_and, and_false, false_and, exists_eq_left, exists_eq_left', exists_and_left, exists_and_right, exists_eq, exists_eq', LL.if_dec, reduceCtorEq, exists_false, exists_const, or_false, false_or, if_true, if_false, LL.rInt1, LL.rMx, LL.rMn, and_assoc, Int.reduceNeg, Int.reduceLT, Int.reduceLE, Int.reduceMul, Int.reduceAdd, Int.reduceSub, Int.reducePow, Int.reduceToNat, Nat.reducePow, Nat.reduceLT, true_or, or_true, Bool.not_true, Bool.not_false, Bool.false_eq_true, Bool.or_false, Bool.or_true, Bool.true_or, Bool.false_or, decide_true, decide_false, not_true_eq_false, not_false_eq_true, LL.scal_int, LL.scal_bl, LL.scal_str, LL.isInt, LL.isBl, LL.isStr, LL.isLst, LL.isTup, LL.isDic, N_law_not_within]
    refine use_take D (by decide +kernel) fun v H' a D' v0 v1 => ?_
    simp only [tSeq, tAsg, tRet, tRetN, tDrop, tNext, tVar, tC, gName, tOp, tUn, rI, rI0, rU, tIfS, tTest, tB, tIf, tAnd, tOr, tNot, tAndV, tOrV, tNotV, tCall, tCons, tNil, tCB, tLst, tTup, tChain, CMul, CDiv, CPow, rEq, rNe, gSub, L2.start, LL.cxK0, LL.cxK1, List.map_cons, List.map_nil, List.length_cons, List.length_nil, List.replicate_succ, List.replicate_zero, List.cons_append, List.nil_append, List.append_nil, List.getElem?_cons_zero, List.getElem?_cons_succ, List.set_cons_zero, List.set_cons_succ, Nat.add_sub_cancel, Nat.reduceAdd, Nat.reduceSub, Option.some.injEq, V.int.injEq, V.bl.injEq, V.ref.injEq, V.str.injEq, List.cons.injEq, and_true, true_and, and_false, false_and, exists_eq_left, exists_eq_left', exists_and_left, exists_and_right, exists_eq, exists_eq', LL.if_dec, reduceCtorEq, exists_false, exists_const, or_false, false_or, if_true, if_false, LL.rInt1, LL.rMx, LL.rMn, and_assoc, Int.reduceNeg, Int.reduceLT, Int.reduceLE, Int.reduceMul, Int.reduceAdd, Int.reduceSub, Int.reducePow, Int.reduceToNat, Nat.reducePow, Nat.reduceLT, true_or, or_true, Bool.not_true, Bool.not_false, Bool.false_eq_true, Bool.or_false, Bool.or_true, Bool.true_or, Bool.false_or, decide_true, decide_false, not_true_eq_false, not_false_eq_true, LL.scal_int, LL.scal_bl, LL.scal_str, LL.isInt, LL.isBl, LL.isStr, LL.isLst, LL.isTup, LL.isDic]
    split
    · refine ⟨by decide, fun p hp => ?_⟩
      refine use_pick upd_same v0 (by simp only [List.length_cons, List.length_nil]; omega) ?_
      have a2 := a.new (o := .lst [.int (lo - 1), .int (hi + 1)]) hp
      intro x hx
      simp only [List.mem_cons, List.not_mem_nil, or_false] at hx
      rcases hx with rfl | rfl
      · exact q _ (.int _) _ a2 a2.dr rfl (by simp [dep]) (.inl (by omega))
      · exact q _ (.int _) _ a2 a2.dr rfl (by simp [dep]) (.inr (by omega))
    · split
      · refine ⟨by decide, use_take D' (by decide +kernel) fun v2 H2 a2 D2 h4 h5 => ?_⟩
        simp only [tSeq, tAsg, tRet, tRetN, tDrop, tNext, tVar, tC, gName, tOp, tUn, rI, rI0, rU, tIfS, tTest, tB, tIf, tAnd, tOr, tNot, tAndV, tOrV, tNotV, tCall, tCons, tNil, tCB, tLst, tTup, tChain, CMul, CDiv, CPow, rEq, rNe, gSub, L2.start, LL.cxK0, LL.cxK1, List.map_cons, List.map_nil, List.length_cons, List.length_nil, List.replicate_succ, List.replicate_zero, List.cons_append, List.nil_append, List.append_nil, List.getElem?_cons_zero, List.getElem?_cons_succ, List.set_cons_zero, List.set_cons_succ, Nat.add_sub_cancel, Nat.reduceAdd, Nat.reduceSub, Option.some.injEq, V.int.injEq, V.bl.injEq, V.ref.injEq, V.str.injEq, List.cons.injEq, and_true, true_and, and_false, false_and, exists_eq_left, exists_eq_left', exists_and_left, exists_and_right, exists_eq, exists_eq', LL.if_dec, reduceCtorEq, exists_false, exists_const, or_false, false_or, if_true, if_false, LL.rInt1, LL.rMx, LL.rMn, and_assoc, Int.reduceNeg, Int.reduceLT, Int.reduceLE, Int.reduceMul, Int.reduceAdd, Int.reduceSub, Int.reducePow, Int.reduceToNat, Nat.reducePow, Nat.reduceLT, true_or, or_true, Bool.not_true, Bool.not_false, Bool.false_eq_true, Bool.or_false, Bool.or_true, Bool.true_or, Bool.false_or, decide_true, decide_false, not_true_eq_false, not_false_eq_true, LL.scal_int, LL.scal_bl, LL.scal_str, LL.isInt, LL.isBl, LL.isStr, LL.isLst, LL.isTup, LL.isDic]
        exact q _ (.int _) _ (a.trans a2) D2 rfl (by simp [dep]) (.inr (by omega))
      · split
        · refine ⟨by decide, use_take D' (by decide +kernel) fun v2 H2 a2 D2 h4 h5 => ?_⟩
          simp only [tSeq, tAsg, tRet, tRetN, tDrop, tNext, tVar, tC, gName, tOp, tUn, rI, rI0, rU, tIfS, tTest, tB, tIf, tAnd, tOr, tNot, tAndV, tOrV, tNotV, tCall, tCons, tNil, tCB, tLst, tTup, tChain, CMul, CDiv, CPow, rEq, rNe, gSub, L2.start, LL.cxK0, LL.cxK1, List.map_cons, List.map_nil, List.length_cons, List.length_nil, List.replicate_succ, List.replicate_zero, List.cons_append, List.nil_append, List.append_nil, List.getElem?_cons_zero, List.getElem?_cons_succ, List.set_cons_zero, List.set_cons_succ, Nat.add_sub_cancel, Nat.reduceAdd, Nat.reduceSub, Option.some.injEq, V.int.injEq, V.bl.injEq, V.ref.injEq, V.str.injEq, List.cons.injEq, and_true, true_and, and_false, false_and, exists_eq_left, exists_eq_left', exists_and_left, exists_and_right, exists_eq, exists_eq', LL.if_dec, reduceCtorEq, exists_false, exists_const, or_false, false_or, if_true, if_false, LL.rInt1, LL.rMx, LL.rMn, and_assoc, Int.reduceNeg, Int.reduceLT, Int.reduceLE, Int.reduceMul, Int.reduceAdd, Int.reduceSub, Int.reducePow, Int.reduceToNat, Nat.reducePow, Nat.reduceLT, true_or, or_true, Bool.not_true, Bool.not_false, Bool.false_eq_true, Bool.or_false, Bool.or_true, Bool.true_or, Bool.false_or, decide_true, decide_false, not_true_eq_false, not_false_eq_true, LL.scal_int, LL.scal_bl, LL.scal_str, LL.isInt, LL.isBl, LL.isStr, LL.isLst, LL.isTup, LL.isDic]
          exact q _ (.int _) _ (a.trans a2) D2 rfl (by simp [dep]) (.inl (by omega))
        · split
          · refine ⟨rfl, ⟨rfl, ?_⟩⟩
            simp only [tSeq, tAsg, tRet, tRetN, tDrop, tNext, tVar, tC, gName, tOp, tUn, rI, rI0, rU, tIfS, tTest, tB, tIf, tAnd, tOr, tNot, tAndV, tOrV, tNotV, tCall, tCons, tNil, tCB, tLst, tTup, tChain, CMul, CDiv, CPow, rEq, rNe, gSub, L2.start, LL.cxK0, LL.cxK1, List.map_cons, List.map_nil, List.length_cons, List.length_nil, List.replicate_succ, List.replicate_zero, List.cons_append, List.nil_append, List.append_nil, List.getElem?_cons_zero, List.getElem?_cons_succ, List.set_cons_zero, List.set_cons_succ, Nat.add_sub_cancel, Nat.reduceAdd, Nat.reduceSub, Option.some.injEq, V.int.injEq, V.bl.injEq, V.ref.injEq, V.str.injEq, List.cons.injEq, and_true, true_and, and_false, false_and, exists_eq_left, exists_eq_left', exists_and_left, exists_and_right, exists_eq, exists_eq', LL.if_dec, reduceCtorEq, exists_false, exists_const, or_false, false_or, if_true, if_false, LL.rInt1, LL.rMx, LL.rMn, and_assoc, Int.reduceNeg, Int.reduceLT, Int.reduceLE, Int.reduceMul, Int.reduceAdd, Int.reduceSub, Int.reducePow, Int.reduceToNat, Nat.reducePow, Nat.reduceLT, true_or, or_true, Bool.not_true, Bool.not_false, Bool.false_eq_true, Bool.or_false, Bool.or_true, Bool.true_or, Bool.false_or, decide_true, decide_false, not_true_eq_false, not_false_eq_true, LL.scal_int, LL.scal_bl, LL.scal_str, LL.isInt, LL.isBl, LL.isStr, LL.isLst, LL.isTup, LL.isDic]
            refine ⟨by decide, ?_⟩
            intro p np
            generalize hq : upd H' p _ = H1
            have sH1 : Same H' H1 := hq ▸ Same.new (Same.refl _) np
            have ep := hq ▸ (upd_same (H := H') (a := p))
            clear hq
            refine use_take (D'.same sH1) (by decide +kernel) fun v2 H2 a2 D2 h4 h5 => ?_
            refine use_pick (a2.kp _ _ (D'.ne _ np) ep) h4 (by simp only [List.length_cons, List.length_nil]; omega) ?_
            have A : Aft d s H H2 := a.trans ⟨(Kp.same sH1).trans a2.kp, D2⟩
            have := ten999
            intro x hx
            simp only [List.mem_cons, List.not_mem_nil, or_false] at hx
            rcases hx with rfl | rfl
            · exact q _ (.int _) _ A D2 rfl (by simp [dep]) (.inr (by generalize (10 : Int) ^ 999 = z at *; omega))
            · exact q _ (.int _) _ A D2 rfl (by simp [dep]) (.inl (by generalize (10 : Int) ^ 999 = z at *; omega))
          · refine ⟨d, s, rfl, D', fun v t H2 a2 D2 hd hp ht => ?_⟩
            exact q v t H2 (a.trans a2) D2 (hd.to fun b hb => a.free hb) hp (out_of ht)
end K26

namespace K26
open PySem PySem.Spec PyProof.Rows L2 LL
variable {P : Program} {w : World} {K : PySem.W.Frag} {mg : Str → Option Value} {base : Heap}

def sp_isint : Sp := fun vs H Q _ => ∃ (F : Addr → Prop) (v : V) (t : LL.T), vs = [v] ∧ Dt F H v t ∧ Q (.bl (LL.isInt t)) H
theorem use_isint {F : Addr → Prop} {v : V} {t : LL.T} {H : Hp} {Q : VK} {E : XK} (h : Dt F H v t) (q : Q (.bl (LL.isInt t)) H) : sp_isint [v] H Q E := ⟨F, v, t, rfl, h, q⟩

theorem ok_law_is_int (T : Tx K mg) : FnOk P w K mg base CX0 1 (He.ga K "_law_is_int") T.fd_law_is_int P_law_is_int sp_isint := by
  refine T.F_law_is_int.ok sc_law_is_int (fun vs H Q E h => ?_) (fun cdv A outer s H vs Q E hr h => ⟨_, PSs.nox (pss_one (ps_ret ((pe_and (pe_callB call_isi (by rfl) T.z_isinstance (by decide +kernel) (pa_cons (pv 0) (pa_cons (pe_bltn (v := .ty "int") (u := .type "int") (by rfl) T.z_int (by decide +kernel) rfl) pa_nil))) (pe_one (pe_not (pe_callB call_isi (by rfl) T.z_isinstance (by decide +kernel) (pa_cons (pv 0) (pa_cons (pe_bltn (v := .ty "bool") (u := .type "bool") (by rfl) T.z_bool (by decide +kernel) rfl) pa_nil))))))))), ?_⟩)
  · obtain ⟨_, _, _, rfl, _⟩ := h
    rfl
  · obtain ⟨F, v, t, rfl, hd, q⟩ := h
    simp only [tSeq, tAsg, tRet, tRetN, tDrop, tNext, tVar, tC, gName, tOp, tUn, rI, rI0, rU, tIfS, tTest, tB, tIf, tAnd, tOr, tNot, tAndV, tOrV, tNotV, tCall, tCons, tNil, tCB, tLst, tTup, tChain, CMul, CDiv, CPow, rEq, rNe, gSub, L2.start, LL.cxK0, LL.cxK1, List.map_cons, List.map_nil, List.length_cons, List.length_nil, List.replicate_succ, List.replicate_zero, List.cons_append, List.nil_append, List.append_nil, List.getElem?_cons_zero, List.getElem?_cons_succ, List.set_cons_zero, List.set_cons_succ, Nat.add_sub_cancel, Nat.reduceAdd, Nat.reduceSub, Option.some.injEq, V.int.injEq, V.bl.injEq, V.ref.injEq, V.str.injEq, List.cons.injEq, and_true, true_and, and_false, false_and, exists_eq_left, exists_eq_left', exists_and_left, exists_and_right, exists_eq, exists_eq', LL.if_dec, reduceCtorEq, exists_false, exists_const, or_false, false_or, if_true, if_false, LL.rInt1, LL.rMx, LL.rMn, and_assoc, Int.reduceNeg, Int.reduceLT, Int.reduceLE, Int.reduceMul, Int.reduceAdd, Int.reduceSub, Int.reducePow, Int.reduceToNat, Nat.reducePow, Nat.reduceLT, true_or, or_true, Bool.not_true, Bool.not_false, Bool.false_eq_true, Bool.or_false, Bool.or_true, Bool.true_or, Bool.false_or, decide_true, decide_false, not_true_eq_false, not_false_eq_true, LL.scal_int, LL.scal_bl, LL.scal_str, LL.isInt, LL.isBl, LL.isStr, LL.isLst, LL.isTup, LL.isDic, N_law_is_int]
    cases t
    all_goals
      repeat (first | refine use_isi hd (kit_int _) ?_ | refine use_isi hd (kit_bool _) ?_ | refine use_isi hd (kit_str _) ?_ | refine use_isi hd (kit_list _) ?_ | refine use_isi hd (kit_tuple _) ?_ | refine use_isi hd (kit_dict _) ?_ | refine And.intro (show scal _ _ = true from rfl) ?_ | simp only [tSeq, tAsg, tRet, tRetN, tDrop, tNext, tVar, tC, gName, tOp, tUn, rI, rI0, rU, tIfS, tTest, tB, tIf, tAnd, tOr, tNot, tAndV, tOrV, tNotV, tCall, tCons, tNil, tCB, tLst, tTup, tChain, CMul, CDiv, CPow, rEq, rNe, gSub, L2.start, LL.cxK0, LL.cxK1, List.map_cons, List.map_nil, List.length_cons, List.length_nil, List.replicate_succ, List.replicate_zero, List.cons_append, List.nil_append, List.append_nil, List.getElem?_cons_zero, List.getElem?_cons_succ, List.set_cons_zero, List.set_cons_succ, Nat.add_sub_cancel, Nat.reduceAdd, Nat.reduceSub, Option.some.injEq, V.int.injEq, V.bl.injEq, V.ref.injEq, V.str.injEq, List.cons.injEq, and_true, true_and, and_false, false_and, exists_eq_left, exists_eq_left', exists_and_left, exists_and_right, exists_eq, exists_eq', LL.if_dec, reduceCtorEq, exists_false, exists_const, or_false, false_or, if_true, if_false, LL.rInt1, LL.rMx, LL.rMn, and_assoc, Int.reduceNeg, Int.reduceLT, Int.reduceLE, Int.reduceMul, Int.reduceAdd, Int.reduceSub, Int.reducePow, Int.reduceToNat, Nat.reducePow, Nat.reduceLT, true_or, or_true, Bool.not_true, Bool.not_false, Bool.false_eq_true, Bool.or_false, Bool.or_true, Bool.true_or, Bool.false_or, decide_true, decide_false, not_true_eq_false, not_false_eq_true, LL.scal_int, LL.scal_bl, LL.scal_str, LL.isInt, LL.isBl, LL.isStr, LL.isLst, LL.isTup, LL.isDic])
      exact q
theorem ok_is_whole (T : Tx K mg) : FnOk P w K mg base CX0 1 (He.ga K "is_whole") T.fd_is_whole P_is_whole sp_isint := by
  refine T.F_is_whole.ok sc_is_whole (fun vs H Q E h => ?_) (fun cdv A outer s H vs Q E hr h => ⟨_, PSs.nox (pss_one (ps_ret ((pe_and (pe_callB call_isi (by rfl) T.z_isinstance (by decide +kernel) (pa_cons (pv 0) (pa_cons (pe_bltn (v := .ty "int") (u := .type "int") (by rfl) T.z_int (by decide +kernel) rfl) pa_nil))) (pe_one (pe_not (pe_callB call_isi (by rfl) T.z_isinstance (by decide +kernel) (pa_cons (pv 0) (pa_cons (pe_bltn (v := .ty "bool") (u := .type "bool") (by rfl) T.z_bool (by decide +kernel) rfl) pa_nil))))))))), ?_⟩)
  · obtain ⟨_, _, _, rfl, _⟩ := h
    rfl
  · obtain ⟨F, v, t, rfl, hd, q⟩ := h
    simp only [tSeq, tAsg, tRet, tRetN, tDrop, tNext, tVar, tC, gName, tOp, tUn, rI, rI0, rU, tIfS, tTest, tB, tIf, tAnd, tOr, tNot, tAndV, tOrV, tNotV, tCall, tCons, tNil, tCB, tLst, tTup, tChain, CMul, CDiv, CPow, rEq, rNe, gSub, L2.start, LL.cxK0, LL.cxK1, List.map_cons, List.map_nil, List.length_cons, List.length_nil, List.replicate_succ, List.replicate_zero, List.cons_append, List.nil_append, List.append_nil, List.getElem?_cons_zero, List.getElem?_cons_succ, List.set_cons_zero, List.set_cons_succ, Nat.add_sub_cancel, Nat.reduceAdd, Nat.reduceSub, Option.some.injEq, V.int.injEq, V.bl.injEq, V.ref.injEq, V.str.injEq, List.cons.injEq, and_true, true_and, and_false, false_and, exists_eq_left, exists_eq_left', exists_and_left, exists_and_right, exists_eq, exists_eq', LL.if_dec, reduceCtorEq, exists_false, exists_const, or_false, false_or, if_true, if_false, LL.rInt1, LL.rMx, LL.rMn, and_assoc, Int.reduceNeg, Int.reduceLT, Int.reduceLE, Int.reduceMul, Int.reduceAdd, Int.reduceSub, Int.reducePow, Int.reduceToNat, Nat.reducePow, Nat.reduceLT, true_or, or_true, Bool.not_true, Bool.not_false, Bool.false_eq_true, Bool.or_false, Bool.or_true, Bool.true_or, Bool.false_or, decide_true, decide_false, not_true_eq_false, not_false_eq_true, LL.scal_int, LL.scal_bl, LL.scal_str, LL.isInt, LL.isBl, LL.isStr, LL.isLst, LL.isTup, LL.isDic, N_is_whole]
    cases t
    all_goals
      repeat (first | refine use_isi hd (kit_int _) ?_ | refine use_isi hd (kit_bool _) ?_ | refine use_isi hd (kit_str _) ?_ | refine use_isi hd (kit_list _) ?_ | refine use_isi hd (kit_tuple _) ?_ | refine use_isi hd (kit_dict _) ?_ | refine And.intro (show scal _ _ = true from rfl) ?_ | simp only [tSeq, tAsg, tRet, tRetN, tDrop, tNext, tVar, tC, gName, tOp, tUn, rI, rI0, rU, tIfS, tTest, tB, tIf, tAnd, tOr, tNot, tAndV, tOrV, tNotV, tCall, tCons, tNil, tCB, tLst, tTup, tChain, CMul, CDiv, CPow, rEq, rNe, gSub, L2.start, LL.cxK0, LL.cxK1, List.map_cons, List.map_nil, List.length_cons, List.length_nil, List.replicate_succ, List.replicate_zero, List.cons_append, List.nil_append, List.append_nil, List.getElem?_cons_zero, List.getElem?_cons_succ, List.set_cons_zero, List.set_cons_succ, Nat.add_sub_cancel, Nat.reduceAdd, Nat.reduceSub, Option.some.injEq, V.int.injEq, V.bl.injEq, V.ref.injEq, V.str.injEq, List.cons.injEq, and_true, true_and, and_false, false_and, exists_eq_left, exists_eq_left', exists_and_left, exists_and_right, exists_eq, exists_eq', LL.if_dec, reduceCtorEq, exists_false, exists_const, or_false, false_or, if_true, if_false, LL.rInt1, LL.rMx, LL.rMn, and_assoc, Int.reduceNeg, Int.reduceLT, Int.reduceLE, Int.reduceMul, Int.reduceAdd, Int.reduceSub, Int.reducePow, Int.reduceToNat, Nat.reducePow, Nat.reduceLT, true_or, or_true, Bool.not_true, Bool.not_false, Bool.false_eq_true, Bool.or_false, Bool.or_true, Bool.true_or, Bool.false_or, decide_true, decide_false, not_true_eq_false, not_false_eq_true, LL.scal_int, LL.scal_bl, LL.scal_str, LL.isInt, LL.isBl, LL.isStr, LL.isLst, LL.isTup, LL.isDic])
      exact q
/-- a tuple of two integers -/
def pairB : LL.T → Bool
  | .tup [.int _, .int _] => true
  | _ => false
theorem pair_all {us : List LL.T} (h : us.length = 2) : pairB (.tup us) = us.all LL.isInt := by
  match us, h with
  | [x, y], _ => cases x <;> cases y <;> rfl
theorem pair_len {us : List LL.T} (h : ¬ us.length = 2) : pairB (.tup us) = false := by
  match us, h with
  | [], _ => rfl
  | [x], _ => cases x <;> rfl
  | [x, y], h => exact absurd rfl h
  | x :: y :: z :: r, _ => cases x <;> cases y <;> rfl
def sp_law_is_ints : Sp := fun vs H Q _ => ∃ (F : Addr → Prop) (v : V) (t : LL.T), vs = [v, .bl false, .int 2] ∧ Dt F H v t ∧ Q (.bl (pairB t)) H
theorem use_pairB {F : Addr → Prop} {v : V} {t : LL.T} {H : Hp} {Q : VK} {E : XK} (h : Dt F H v t) (q : Q (.bl (pairB t)) H) : sp_law_is_ints [v, .bl false, .int 2] H Q E := ⟨F, v, t, rfl, h, q⟩
theorem use_ints {F : Addr → Prop} {v : V} {a b : Int} {H : Hp} {Q : VK} {E : XK} (h : Dt F H v (.tup [.int a, .int b])) (q : Q (.bl true) H) : sp_law_is_ints [v, .bl false, .int 2] H Q E := ⟨F, v, _, rfl, h, q⟩

/-- the same data gives True -/
def sp_law_same (n : Nat) : Sp := fun vs H Q _ => ∃ (F G : Addr → Prop) (v x : V) (t : LL.T), vs = [v, x] ∧ Dt F H v t ∧ Dt G H x t ∧ dep t < n ∧ ∀ H', Same H H' → Q (.bl true) H'
theorem use_same {n : Nat} {F G : Addr → Prop} {v x : V} {t : LL.T} {H : Hp} {Q : VK} {E : XK} (h1 : Dt F H v t) (h2 : Dt G H x t) (hn : dep t < n) (q : ∀ H', Same H H' → Q (.bl true) H') : sp_law_same n [v, x] H Q E := ⟨F, G, v, x, t, rfl, h1, h2, hn, q⟩

theorem ok_law_same (T : Tx K mg) : ∀ n : Nat, FnOk P w K mg base CX0 (n + 1) (He.ga K "_law_same") T.fd_law_same P_law_same (sp_law_same n) := by
  intro n
  induction n with
  | zero => exact ⟨fun vs H Q E h => by obtain ⟨_, _, _, _, _, _, _, _, h, _⟩ := h; exact absurd h (Nat.not_lt_zero _), fun A outer s H args us vs Q E hr he hb hv h => by obtain ⟨_, _, _, _, _, _, _, _, h, _⟩ := h; exact absurd h (Nat.not_lt_zero _)⟩
  | succ n ih =>
    refine T.F_law_same.ok sc_law_same (fun vs H Q E h => ?_) (fun cdv A outer s H vs Q E hr h => ⟨_, PSs.nox (pss_cons (ps_if (PW.pt (pw_or (pt_cmpR op_isN (pv 0) (pe_non) (nomark _)) (pw_or1 (pt_cmpR op_isN (pv 1) (pe_non) (nomark _))))) (pss_one (ps_ret ((pe_and (pe_cmpR op_isN (pv 0) (pe_non) (nomark _)) (pe_one (pe_cmpR op_isN (pv 1) (pe_non) (nomark _))))))) pss_nil) (pss_cons (ps_if (PW.pt (pw_or (pt_val (pe_callB call_isi (by rfl) T.z_isinstance (by decide +kernel) (pa_cons (pv 0) (pa_cons (pe_bltn (v := .ty "bool") (u := .type "bool") (by rfl) T.z_bool (by decide +kernel) rfl) pa_nil)))) (pw_or1 (pt_val (pe_callB call_isi (by rfl) T.z_isinstance (by decide +kernel) (pa_cons (pv 1) (pa_cons (pe_bltn (v := .ty "bool") (u := .type "bool") (by rfl) T.z_bool (by decide +kernel) rfl) pa_nil))))))) (pss_one (ps_ret ((pe_and (pe_callB call_isi (by rfl) T.z_isinstance (by decide +kernel) (pa_cons (pv 0) (pa_cons (pe_bltn (v := .ty "bool") (u := .type "bool") (by rfl) T.z_bool (by decide +kernel) rfl) pa_nil))) (pe_and (pe_callB call_isi (by rfl) T.z_isinstance (by decide +kernel) (pa_cons (pv 1) (pa_cons (pe_bltn (v := .ty "bool") (u := .type "bool") (by rfl) T.z_bool (by decide +kernel) rfl) pa_nil))) (pe_one (pe_cmpR op_eq (pv 0) (pv 1) (nomark _)))))))) pss_nil) (pss_cons (ps_if (pt_val (pe_callB call_isi (by rfl) T.z_isinstance (by decide +kernel) (pa_cons (pv 1) (pa_cons (pe_bltn (v := .ty "int") (u := .type "int") (by rfl) T.z_int (by decide +kernel) rfl) pa_nil)))) (pss_one (ps_ret ((pe_and (pe_callB call_isi (by rfl) T.z_isinstance (by decide +kernel) (pa_cons (pv 0) (pa_cons (pe_bltn (v := .ty "int") (u := .type "int") (by rfl) T.z_int (by decide +kernel) rfl) pa_nil))) (pe_one (pe_cmpR op_eq (pv 0) (pv 1) (nomark _))))))) pss_nil) (pss_cons (ps_if (pt_val (pe_callB call_isi (by rfl) T.z_isinstance (by decide +kernel) (pa_cons (pv 1) (pa_cons (pe_bltn (v := .ty "str") (u := .type "str") (by rfl) T.z_str (by decide +kernel) rfl) pa_nil)))) (pss_one (ps_ret ((pe_and (pe_callB call_isi (by rfl) T.z_isinstance (by decide +kernel) (pa_cons (pv 0) (pa_cons (pe_bltn (v := .ty "str") (u := .type "str") (by rfl) T.z_str (by decide +kernel) rfl) pa_nil))) (pe_one (pe_cmpR op_eq (pv 0) (pv 1) (nomark _))))))) pss_nil) (pss_cons (ps_if (pt_val (pe_callB call_isi (by rfl) T.z_isinstance (by decide +kernel) (pa_cons (pv 1) (pa_cons (pe_bltn (v := .ty "dict") (u := .type "dict") (by rfl) T.z_dict (by decide +kernel) rfl) pa_nil)))) (pss_cons (ps_if (PW.pt (pw_or (pt_not (pt_val (pe_callB call_isi (by rfl) T.z_isinstance (by decide +kernel) (pa_cons (pv 0) (pa_cons (pe_bltn (v := .ty "dict") (u := .type "dict") (by rfl) T.z_dict (by decide +kernel) rfl) pa_nil))))) (pw_or1 (pt_cmpR op_ne (pe_callB LL.call_lenA (by rfl) T.z_len (by decide +kernel) (pa_cons (pv 0) pa_nil)) (pe_callB LL.call_lenA (by rfl) T.z_len (by decide +kernel) (pa_cons (pv 1) pa_nil)) (nomark _))))) (pss_one (ps_ret (pe_bl))) pss_nil) (pss_cons (ps_for PassesOwn.never rfl (pi_list (pe_callTy (LL.call_lstD rfl) (by rfl) T.z_list (by decide +kernel) (pa_cons (pv 1) pa_nil))) (pg_name (i := 3) sc_law_same.nd rfl (Or.inl rfl)) (pss_one (ps_if (PW.pt (pw_or (pt_cmp (pc_dnotin (hu_of hr) (pv 3) (pv 0))) (pw_or1 (pt_not (pt_val (pe_call ih hr rfl T.g_law_same T.F_law_same.kp (b_law_same T) .nil pass0 (pa_cons (pe_dget (hu_of hr) (pv 0) (pv 3) (fun _ _ => rfl)) (pa_cons (pe_dget (hu_of hr) (pv 1) (pv 3) (fun _ _ => rfl)) pa_nil)))))))) (pss_one (ps_ret (pe_bl))) pss_nil))) (pss_one (ps_ret (pe_bl))))) pss_nil) (pss_cons (ps_if (pt_cmpR op_ne (pe_callB call_isi (by rfl) T.z_isinstance (by decide +kernel) (pa_cons (pv 1) (pa_cons (pe_bltn (v := .ty "list") (u := .type "list") (by rfl) T.z_list (by decide +kernel) rfl) pa_nil))) (pe_callB call_isi (by rfl) T.z_isinstance (by decide +kernel) (pa_cons (pv 0) (pa_cons (pe_bltn (v := .ty "list") (u := .type "list") (by rfl) T.z_list (by decide +kernel) rfl) pa_nil))) (nomark _)) (pss_one (ps_ret (pe_bl))) pss_nil) (pss_cons (ps_if (pt_cmpR op_ne (pe_callB call_isi (by rfl) T.z_isinstance (by decide +kernel) (pa_cons (pv 1) (pa_cons (pe_bltn (v := .ty "tuple") (u := .type "tuple") (by rfl) T.z_tuple (by decide +kernel) rfl) pa_nil))) (pe_callB call_isi (by rfl) T.z_isinstance (by decide +kernel) (pa_cons (pv 0) (pa_cons (pe_bltn (v := .ty "tuple") (u := .type "tuple") (by rfl) T.z_tuple (by decide +kernel) rfl) pa_nil))) (nomark _)) (pss_one (ps_ret (pe_bl))) pss_nil) (pss_cons (ps_if (PW.pt (pw_or (PW.pt (pw_and (pt_not (pt_val (pe_callB call_isi (by rfl) T.z_isinstance (by decide +kernel) (pa_cons (pv 1) (pa_cons (pe_bltn (v := .ty "list") (u := .type "list") (by rfl) T.z_list (by decide +kernel) rfl) pa_nil))))) (pw_and1 (pt_not (pt_val (pe_callB call_isi (by rfl) T.z_isinstance (by decide +kernel) (pa_cons (pv 1) (pa_cons (pe_bltn (v := .ty "tuple") (u := .type "tuple") (by rfl) T.z_tuple (by decide +kernel) rfl) pa_nil)))))))) (pw_or1 (pt_cmpR op_ne (pe_callB LL.call_lenA (by rfl) T.z_len (by decide +kernel) (pa_cons (pv 0) pa_nil)) (pe_callB LL.call_lenA (by rfl) T.z_len (by decide +kernel) (pa_cons (pv 1) pa_nil)) (nomark _))))) (pss_one (ps_ret (pe_bl))) pss_nil) (pss_cons (ps_for PassesOwn.never rfl (pi_range1 rfl T.z_range (pa_cons (pe_callB LL.call_lenA (by rfl) T.z_len (by decide +kernel) (pa_cons (pv 1) pa_nil)) pa_nil)) (pg_name (i := 2) sc_law_same.nd rfl (Or.inl rfl)) (pss_one (ps_if (pt_not (pt_val (pe_call ih hr rfl T.g_law_same T.F_law_same.kp (b_law_same T) .nil pass0 (pa_cons (pe_ix (show IxR _ (LL.rIxA K) from LL.ix_A) (pv 0) (pv 2) (fun _ _ => rfl)) (pa_cons (pe_ix (show IxR _ (LL.rIxA K) from LL.ix_A) (pv 1) (pv 2) (fun _ _ => rfl)) pa_nil))))) (pss_one (ps_ret (pe_bl))) pss_nil))) (pss_one (ps_ret (pe_bl)))))))))))), ?_⟩)
    · obtain ⟨_, _, _, _, _, rfl, _⟩ := h
      rfl
    · obtain ⟨F, G, v, x, t, rfl, h1, h2, hn, q⟩ := h
      cases t with
      | non =>
        obtain rfl : v = .non := h1
        obtain rfl : x = .non := h2
        simp only [tSeq, tAsg, tRet, tRetN, tDrop, tNext, tVar, tC, gName, tOp, tUn, rI, rI0, rU, tIfS, tTest, tB, tIf, tAnd, tOr, tNot, tAndV, tOrV, tNotV, tCall, tCons, tNil, tCB, tLst, tTup, tChain, CMul, CDiv, CPow, rEq, rNe, gSub, L2.start, LL.cxK0, LL.cxK1, List.map_cons, List.map_nil, List.length_cons, List.length_nil, List.replicate_succ, List.replicate_zero, List.cons_append, List.nil_append, List.append_nil, List.getElem?_cons_zero, List.getElem?_cons_succ, List.set_cons_zero, List.set_cons_succ, Nat.add_sub_cancel, Nat.reduceAdd, Nat.reduceSub, Option.some.injEq, V.int.injEq, V.bl.injEq, V.ref.injEq, V.str.injEq, List.cons.injEq, and_true, true_and, and_false, false_and, exists_eq_left, exists_eq_left', exists_and_left, exists_and_right, exists_eq, exists_eq', LL.if_dec, reduceCtorEq, exists_false, exists_const, or_false, false_or, if_true, if_false, LL.rInt1, LL.rMx, LL.rMn, and_assoc, Int.reduceNeg, Int.reduceLT, Int.reduceLE, Int.reduceMul, Int.reduceAdd, Int.reduceSub, Int.reducePow, Int.reduceToNat, Nat.reducePow, Nat.reduceLT, true_or, or_true, Bool.not_true, Bool.not_false, Bool.false_eq_true, Bool.or_false, Bool.or_true, Bool.true_or, Bool.false_or, decide_true, decide_false, not_true_eq_false, not_false_eq_true, LL.scal_int, LL.scal_bl, LL.scal_str, LL.isInt, LL.isBl, LL.isStr, LL.isLst, LL.isTup, LL.isDic, N_law_same]
        exact q _ (Same.refl _)
      | bl b =>
        obtain rfl : v = .bl b := h1
        obtain rfl : x = .bl b := h2
        have h1 : Dt F H (.bl b) (.bl b) := rfl
        simp only [tSeq, tAsg, tRet, tRetN, tDrop, tNext, tVar, tC, gName, tOp, tUn, rI, rI0, rU, tIfS, tTest, tB, tIf, tAnd, tOr, tNot, tAndV, tOrV, tNotV, tCall, tCons, tNil, tCB, tLst, tTup, tChain, CMul, CDiv, CPow, rEq, rNe, gSub, L2.start, LL.cxK0, LL.cxK1, List.map_cons, List.map_nil, List.length_cons, List.length_nil, List.replicate_succ, List.replicate_zero, List.cons_append, List.nil_append, List.append_nil, List.getElem?_cons_zero, List.getElem?_cons_succ, List.set_cons_zero, List.set_cons_succ, Nat.add_sub_cancel, Nat.reduceAdd, Nat.reduceSub, Option.some.injEq, V.int.injEq, V.bl.injEq, V.ref.injEq, V.str.injEq, List.cons.injEq, and_true, true_and, and_false, false_and, exists_eq_left, exists_eq_left', exists_and_left, exists_and_right, exists_eq, exists_eq', LL.if_dec, reduceCtorEq, exists_false, exists_const, or_false, false_or, if_true, if_false, LL.rInt1, LL.rMx, LL.rMn, and_assoc, Int.reduceNeg, Int.reduceLT, Int.reduceLE, Int.reduceMul, Int.reduceAdd, Int.reduceSub, Int.reducePow, Int.reduceToNat, Nat.reducePow, Nat.reduceLT, true_or, or_true, Bool.not_true, Bool.not_false, Bool.false_eq_true, Bool.or_false, Bool.or_true, Bool.true_or, Bool.false_or, decide_true, decide_false, not_true_eq_false, not_false_eq_true, LL.scal_int, LL.scal_bl, LL.scal_str, LL.isInt, LL.isBl, LL.isStr, LL.isLst, LL.isTup, LL.isDic, N_law_same]
        repeat (first | refine use_isi h1 (kit_int _) ?_ | refine use_isi h1 (kit_bool _) ?_ | refine use_isi h1 (kit_str _) ?_ | refine use_isi h1 (kit_list _) ?_ | refine use_isi h1 (kit_tuple _) ?_ | refine use_isi h1 (kit_dict _) ?_ | refine And.intro (show scal _ _ = true from rfl) ?_ | simp only [tSeq, tAsg, tRet, tRetN, tDrop, tNext, tVar, tC, gName, tOp, tUn, rI, rI0, rU, tIfS, tTest, tB, tIf, tAnd, tOr, tNot, tAndV, tOrV, tNotV, tCall, tCons, tNil, tCB, tLst, tTup, tChain, CMul, CDiv, CPow, rEq, rNe, gSub, L2.start, LL.cxK0, LL.cxK1, List.map_cons, List.map_nil, List.length_cons, List.length_nil, List.replicate_succ, List.replicate_zero, List.cons_append, List.nil_append, List.append_nil, List.getElem?_cons_zero, List.getElem?_cons_succ, List.set_cons_zero, List.set_cons_succ, Nat.add_sub_cancel, Nat.reduceAdd, Nat.reduceSub, Option.some.injEq, V.int.injEq, V.bl.injEq, V.ref.injEq, V.str.injEq, List.cons.injEq, and_true, true_and, and_false, false_and, exists_eq_left, exists_eq_left', exists_and_left, exists_and_right, exists_eq, exists_eq', LL.if_dec, reduceCtorEq, exists_false, exists_const, or_false, false_or, if_true, if_false, LL.rInt1, LL.rMx, LL.rMn, and_assoc, Int.reduceNeg, Int.reduceLT, Int.reduceLE, Int.reduceMul, Int.reduceAdd, Int.reduceSub, Int.reducePow, Int.reduceToNat, Nat.reducePow, Nat.reduceLT, true_or, or_true, Bool.not_true, Bool.not_false, Bool.false_eq_true, Bool.or_false, Bool.or_true, Bool.true_or, Bool.false_or, decide_true, decide_false, not_true_eq_false, not_false_eq_true, LL.scal_int, LL.scal_bl, LL.scal_str, LL.isInt, LL.isBl, LL.isStr, LL.isLst, LL.isTup, LL.isDic])
        exact q _ (Same.refl _)
      | int i =>
        obtain rfl : v = .int i := h1
        obtain rfl : x = .int i := h2
        have h1 : Dt F H (.int i) (.int i) := rfl
        simp only [tSeq, tAsg, tRet, tRetN, tDrop, tNext, tVar, tC, gName, tOp, tUn, rI, rI0, rU, tIfS, tTest, tB, tIf, tAnd, tOr, tNot, tAndV, tOrV, tNotV, tCall, tCons, tNil, tCB, tLst, tTup, tChain, CMul, CDiv, CPow, rEq, rNe, gSub, L2.start, LL.cxK0, LL.cxK1, List.map_cons, List.map_nil, List.length_cons, List.length_nil, List.replicate_succ, List.replicate_zero, List.cons_append, List.nil_append, List.append_nil, List.getElem?_cons_zero, List.getElem?_cons_succ, List.set_cons_zero, List.set_cons_succ, Nat.add_sub_cancel, Nat.reduceAdd, Nat.reduceSub, Option.some.injEq, V.int.injEq, V.bl.injEq, V.ref.injEq, V.str.injEq, List.cons.injEq, and_true, true_and, and_false, false_and, exists_eq_left, exists_eq_left', exists_and_left, exists_and_right, exists_eq, exists_eq', LL.if_dec, reduceCtorEq, exists_false, exists_const, or_false, false_or, if_true, if_false, LL.rInt1, LL.rMx, LL.rMn, and_assoc, Int.reduceNeg, Int.reduceLT, Int.reduceLE, Int.reduceMul, Int.reduceAdd, Int.reduceSub, Int.reducePow, Int.reduceToNat, Nat.reducePow, Nat.reduceLT, true_or, or_true, Bool.not_true, Bool.not_false, Bool.false_eq_true, Bool.or_false, Bool.or_true, Bool.true_or, Bool.false_or, decide_true, decide_false, not_true_eq_false, not_false_eq_true, LL.scal_int, LL.scal_bl, LL.scal_str, LL.isInt, LL.isBl, LL.isStr, LL.isLst, LL.isTup, LL.isDic, N_law_same]
        repeat (first | refine use_isi h1 (kit_int _) ?_ | refine use_isi h1 (kit_bool _) ?_ | refine use_isi h1 (kit_str _) ?_ | refine use_isi h1 (kit_list _) ?_ | refine use_isi h1 (kit_tuple _) ?_ | refine use_isi h1 (kit_dict _) ?_ | refine And.intro (show scal _ _ = true from rfl) ?_ | simp only [tSeq, tAsg, tRet, tRetN, tDrop, tNext, tVar, tC, gName, tOp, tUn, rI, rI0, rU, tIfS, tTest, tB, tIf, tAnd, tOr, tNot, tAndV, tOrV, tNotV, tCall, tCons, tNil, tCB, tLst, tTup, tChain, CMul, CDiv, CPow, rEq, rNe, gSub, L2.start, LL.cxK0, LL.cxK1, List.map_cons, List.map_nil, List.length_cons, List.length_nil, List.replicate_succ, List.replicate_zero, List.cons_append, List.nil_append, List.append_nil, List.getElem?_cons_zero, List.getElem?_cons_succ, List.set_cons_zero, List.set_cons_succ, Nat.add_sub_cancel, Nat.reduceAdd, Nat.reduceSub, Option.some.injEq, V.int.injEq, V.bl.injEq, V.ref.injEq, V.str.injEq, List.cons.injEq, and_true, true_and, and_false, false_and, exists_eq_left, exists_eq_left', exists_and_left, exists_and_right, exists_eq, exists_eq', LL.if_dec, reduceCtorEq, exists_false, exists_const, or_false, false_or, if_true, if_false, LL.rInt1, LL.rMx, LL.rMn, and_assoc, Int.reduceNeg, Int.reduceLT, Int.reduceLE, Int.reduceMul, Int.reduceAdd, Int.reduceSub, Int.reducePow, Int.reduceToNat, Nat.reducePow, Nat.reduceLT, true_or, or_true, Bool.not_true, Bool.not_false, Bool.false_eq_true, Bool.or_false, Bool.or_true, Bool.true_or, Bool.false_or, decide_true, decide_false, not_true_eq_false, not_false_eq_true, LL.scal_int, LL.scal_bl, LL.scal_str, LL.isInt, LL.isBl, LL.isStr, LL.isLst, LL.isTup, LL.isDic])
        exact q _ (Same.refl _)
      | str z =>
        obtain rfl : v = .str z := h1
        obtain rfl : x = .str z := h2
        have h1 : Dt F H (.str z) (.str z) := rfl
        simp only [tSeq, tAsg, tRet, tRetN, tDrop, tNext, tVar, tC, gName, tOp, tUn, rI, rI0, rU, tIfS, tTest, tB, tIf, tAnd, tOr, tNot, tAndV, tOrV, tNotV, tCall, tCons, tNil, tCB, tLst, tTup, tChain, CMul, CDiv, CPow, rEq, rNe, gSub, L2.start, LL.cxK0, LL.cxK1, List.map_cons, List.map_nil, List.length_cons, List.length_nil, List.replicate_succ, List.replicate_zero, List.cons_append, List.nil_append, List.append_nil, List.getElem?_cons_zero, List.getElem?_cons_succ, List.set_cons_zero, List.set_cons_succ, Nat.add_sub_cancel, Nat.reduceAdd, Nat.reduceSub, Option.some.injEq, V.int.injEq, V.bl.injEq, V.ref.injEq, V.str.injEq, List.cons.injEq, and_true, true_and, and_false, false_and, exists_eq_left, exists_eq_left', exists_and_left, exists_and_right, exists_eq, exists_eq', LL.if_dec, reduceCtorEq, exists_false, exists_const, or_false, false_or, if_true, if_false, LL.rInt1, LL.rMx, LL.rMn, and_assoc, Int.reduceNeg, Int.reduceLT, Int.reduceLE, Int.reduceMul, Int.reduceAdd, Int.reduceSub, Int.reducePow, Int.reduceToNat, Nat.reducePow, Nat.reduceLT, true_or, or_true, Bool.not_true, Bool.not_false, Bool.false_eq_true, Bool.or_false, Bool.or_true, Bool.true_or, Bool.false_or, decide_true, decide_false, not_true_eq_false, not_false_eq_true, LL.scal_int, LL.scal_bl, LL.scal_str, LL.isInt, LL.isBl, LL.isStr, LL.isLst, LL.isTup, LL.isDic, N_law_same]
        repeat (first | refine use_isi h1 (kit_int _) ?_ | refine use_isi h1 (kit_bool _) ?_ | refine use_isi h1 (kit_str _) ?_ | refine use_isi h1 (kit_list _) ?_ | refine use_isi h1 (kit_tuple _) ?_ | refine use_isi h1 (kit_dict _) ?_ | refine And.intro (show scal _ _ = true from rfl) ?_ | simp only [tSeq, tAsg, tRet, tRetN, tDrop, tNext, tVar, tC, gName, tOp, tUn, rI, rI0, rU, tIfS, tTest, tB, tIf, tAnd, tOr, tNot, tAndV, tOrV, tNotV, tCall, tCons, tNil, tCB, tLst, tTup, tChain, CMul, CDiv, CPow, rEq, rNe, gSub, L2.start, LL.cxK0, LL.cxK1, List.map_cons, List.map_nil, List.length_cons, List.length_nil, List.replicate_succ, List.replicate_zero, List.cons_append, List.nil_append, List.append_nil, List.getElem?_cons_zero, List.getElem?_cons_succ, List.set_cons_zero, List.set_cons_succ, Nat.add_sub_cancel, Nat.reduceAdd, Nat.reduceSub, Option.some.injEq, V.int.injEq, V.bl.injEq, V.ref.injEq, V.str.injEq, List.cons.injEq, and_true, true_and, and_false, false_and, exists_eq_left, exists_eq_left', exists_and_left, exists_and_right, exists_eq, exists_eq', LL.if_dec, reduceCtorEq, exists_false, exists_const, or_false, false_or, if_true, if_false, LL.rInt1, LL.rMx, LL.rMn, and_assoc, Int.reduceNeg, Int.reduceLT, Int.reduceLE, Int.reduceMul, Int.reduceAdd, Int.reduceSub, Int.reducePow, Int.reduceToNat, Nat.reducePow, Nat.reduceLT, true_or, or_true, Bool.not_true, Bool.not_false, Bool.false_eq_true, Bool.or_false, Bool.or_true, Bool.true_or, Bool.false_or, decide_true, decide_false, not_true_eq_false, not_false_eq_true, LL.scal_int, LL.scal_bl, LL.scal_str, LL.isInt, LL.isBl, LL.isStr, LL.isLst, LL.isTup, LL.isDic])
        exact q _ (Same.refl _)
      | lst ts =>
        obtain ⟨p, xs, rfl, fp, ep, hx, hz⟩ := _root_.id h1
        obtain ⟨p2, ys, rfl, fp2, ep2, hy, _⟩ := _root_.id h2
        have lx := hx.len
        have ly := hy.len
        simp only [tSeq, tAsg, tRet, tRetN, tDrop, tNext, tVar, tC, gName, tOp, tUn, rI, rI0, rU, tIfS, tTest, tB, tIf, tAnd, tOr, tNot, tAndV, tOrV, tNotV, tCall, tCons, tNil, tCB, tLst, tTup, tChain, CMul, CDiv, CPow, rEq, rNe, gSub, L2.start, LL.cxK0, LL.cxK1, List.map_cons, List.map_nil, List.length_cons, List.length_nil, List.replicate_succ, List.replicate_zero, List.cons_append, List.nil_append, List.append_nil, List.getElem?_cons_zero, List.getElem?_cons_succ, List.set_cons_zero, List.set_cons_succ, Nat.add_sub_cancel, Nat.reduceAdd, Nat.reduceSub, Option.some.injEq, V.int.injEq, V.bl.injEq, V.ref.injEq, V.str.injEq, List.cons.injEq, and_true, true_and, and_false, false_and, exists_eq_left, exists_eq_left', exists_and_left, exists_and_right, exists_eq, exists_eq', LL.if_dec, reduceCtorEq, exists_false, exists_const, or_false, false_or, if_true, if_false, LL.rInt1, LL.rMx, LL.rMn, and_assoc, Int.reduceNeg, Int.reduceLT, Int.reduceLE, Int.reduceMul, Int.reduceAdd, Int.reduceSub, Int.reducePow, Int.reduceToNat, Nat.reducePow, Nat.reduceLT, true_or, or_true, Bool.not_true, Bool.not_false, Bool.false_eq_true, Bool.or_false, Bool.or_true, Bool.true_or, Bool.false_or, decide_true, decide_false, not_true_eq_false, not_false_eq_true, LL.scal_int, LL.scal_bl, LL.scal_str, LL.isInt, LL.isBl, LL.isStr, LL.isLst, LL.isTup, LL.isDic, N_law_same]
        repeat (first | refine use_isi h1 (kit_int _) ?_ | refine use_isi h1 (kit_bool _) ?_ | refine use_isi h1 (kit_str _) ?_ | refine use_isi h1 (kit_list _) ?_ | refine use_isi h1 (kit_tuple _) ?_ | refine use_isi h1 (kit_dict _) ?_ | refine use_isi h2 (kit_int _) ?_ | refine use_isi h2 (kit_bool _) ?_ | refine use_isi h2 (kit_str _) ?_ | refine use_isi h2 (kit_list _) ?_ | refine use_isi h2 (kit_tuple _) ?_ | refine use_isi h2 (kit_dict _) ?_ | refine And.intro (show scal _ _ = true from rfl) ?_ | simp only [tSeq, tAsg, tRet, tRetN, tDrop, tNext, tVar, tC, gName, tOp, tUn, rI, rI0, rU, tIfS, tTest, tB, tIf, tAnd, tOr, tNot, tAndV, tOrV, tNotV, tCall, tCons, tNil, tCB, tLst, tTup, tChain, CMul, CDiv, CPow, rEq, rNe, gSub, L2.start, LL.cxK0, LL.cxK1, List.map_cons, List.map_nil, List.length_cons, List.length_nil, List.replicate_succ, List.replicate_zero, List.cons_append, List.nil_append, List.append_nil, List.getElem?_cons_zero, List.getElem?_cons_succ, List.set_cons_zero, List.set_cons_succ, Nat.add_sub_cancel, Nat.reduceAdd, Nat.reduceSub, Option.some.injEq, V.int.injEq, V.bl.injEq, V.ref.injEq, V.str.injEq, List.cons.injEq, and_true, true_and, and_false, false_and, exists_eq_left, exists_eq_left', exists_and_left, exists_and_right, exists_eq, exists_eq', LL.if_dec, reduceCtorEq, exists_false, exists_const, or_false, false_or, if_true, if_false, LL.rInt1, LL.rMx, LL.rMn, and_assoc, Int.reduceNeg, Int.reduceLT, Int.reduceLE, Int.reduceMul, Int.reduceAdd, Int.reduceSub, Int.reducePow, Int.reduceToNat, Nat.reducePow, Nat.reduceLT, true_or, or_true, Bool.not_true, Bool.not_false, Bool.false_eq_true, Bool.or_false, Bool.or_true, Bool.true_or, Bool.false_or, decide_true, decide_false, not_true_eq_false, not_false_eq_true, LL.scal_int, LL.scal_bl, LL.scal_str, LL.isInt, LL.isBl, LL.isStr, LL.isLst, LL.isTup, LL.isDic])
        refine .inl (use_lenL ep ?_)
        refine .inl (use_lenL ep2 (And.intro (show scal _ _ = true from rfl) ?_))
        rw [if_neg (by rw [lx, ly]; simp)]
        refine use_forR (j := ys.length) (fun Q q => ⟨_, rfl, .inl (use_lenL ep2 q)⟩) (by omega) (by omega) (fun i σ' H' => Same H H' ∧ i ≤ ys.length ∧ ∃ z : Option V, σ' = [some (.ref p), some (.ref p2), z, none]) ⟨Same.refl _, Nat.zero_le _, _, rfl⟩ ?_ ?_
        · rintro i σ' H' hi ⟨s1, _, zz, rfl⟩
          have hi2 : i < ts.length := by omega
          obtain ⟨x1, e1, d1⟩ := hx.get' (List.getElem?_eq_getElem hi2)
          obtain ⟨x2, e2, d2⟩ := hy.get' (List.getElem?_eq_getElem hi2)
          simp only [tSeq, tAsg, tRet, tRetN, tDrop, tNext, tVar, tC, gName, tOp, tUn, rI, rI0, rU, tIfS, tTest, tB, tIf, tAnd, tOr, tNot, tAndV, tOrV, tNotV, tCall, tCons, tNil, tCB, tLst, tTup, tChain, CMul, CDiv, CPow, rEq, rNe, gSub, L2.start, LL.cxK0, LL.cxK1, List.map_cons, List.map_nil, List.length_cons, List.length_nil, List.replicate_succ, List.replicate_zero, List.cons_append, List.nil_append, List.append_nil, List.getElem?_cons_zero, List.getElem?_cons_succ, List.set_cons_zero, List.set_cons_succ, Nat.add_sub_cancel, Nat.reduceAdd, Nat.reduceSub, Option.some.injEq, V.int.injEq, V.bl.injEq, V.ref.injEq, V.str.injEq, List.cons.injEq, and_true, true_and, and_false, false_and, exists_eq_left, exists_eq_left', exists_and_left, exists_and_right, exists_eq, exists_eq', LL.if_dec, reduceCtorEq, exists_false, exists_const, or_false, false_or, if_true, if_false, LL.rInt1, LL.rMx, LL.rMn, and_assoc, Int.reduceNeg, Int.reduceLT, Int.reduceLE, Int.reduceMul, Int.reduceAdd, Int.reduceSub, Int.reducePow, Int.reduceToNat, Nat.reducePow, Nat.reduceLT, true_or, or_true, Bool.not_true, Bool.not_false, Bool.false_eq_true, Bool.or_false, Bool.or_true, Bool.true_or, Bool.false_or, decide_true, decide_false, not_true_eq_false, not_false_eq_true, LL.scal_int, LL.scal_bl, LL.scal_str, LL.isInt, LL.isBl, LL.isStr, LL.isLst, LL.isTup, LL.isDic]
          rw [Int.zero_add]
          refine .inl (use_ixL (s1 _ _ ep) (atI_nat e1) (.inl (use_ixL (s1 _ _ ep2) (atI_nat e2) ?_)))
          refine use_same (d1.same s1) (d2.same s1) (by have := depL_mem (List.getElem?_eq_getElem hi2); simp only [dep] at hn; omega) fun H2 s2 => ?_
          simp only [tSeq, tAsg, tRet, tRetN, tDrop, tNext, tVar, tC, gName, tOp, tUn, rI, rI0, rU, tIfS, tTest, tB, tIf, tAnd, tOr, tNot, tAndV, tOrV, tNotV, tCall, tCons, tNil, tCB, tLst, tTup, tChain, CMul, CDiv, CPow, rEq, rNe, gSub, L2.start, LL.cxK0, LL.cxK1, List.map_cons, List.map_nil, List.length_cons, List.length_nil, List.replicate_succ, List.replicate_zero, List.cons_append, List.nil_append, List.append_nil, List.getElem?_cons_zero, List.getElem?_cons_succ, List.set_cons_zero, List.set_cons_succ, Nat.add_sub_cancel, Nat.reduceAdd, Nat.reduceSub, Option.some.injEq, V.int.injEq, V.bl.injEq, V.ref.injEq, V.str.injEq, List.cons.injEq, and_true, true_and, and_false, false_and, exists_eq_left, exists_eq_left', exists_and_left, exists_and_right, exists_eq, exists_eq', LL.if_dec, reduceCtorEq, exists_false, exists_const, or_false, false_or, if_true, if_false, LL.rInt1, LL.rMx, LL.rMn, and_assoc, Int.reduceNeg, Int.reduceLT, Int.reduceLE, Int.reduceMul, Int.reduceAdd, Int.reduceSub, Int.reducePow, Int.reduceToNat, Nat.reducePow, Nat.reduceLT, true_or, or_true, Bool.not_true, Bool.not_false, Bool.false_eq_true, Bool.or_false, Bool.or_true, Bool.true_or, Bool.false_or, decide_true, decide_false, not_true_eq_false, not_false_eq_true, LL.scal_int, LL.scal_bl, LL.scal_str, LL.isInt, LL.isBl, LL.isStr, LL.isLst, LL.isTup, LL.isDic]
          exact ⟨s1.trans s2, by omega⟩
        · rintro σ' H' ⟨s1, _, zz, rfl⟩
          simp only [tSeq, tAsg, tRet, tRetN, tDrop, tNext, tVar, tC, gName, tOp, tUn, rI, rI0, rU, tIfS, tTest, tB, tIf, tAnd, tOr, tNot, tAndV, tOrV, tNotV, tCall, tCons, tNil, tCB, tLst, tTup, tChain, CMul, CDiv, CPow, rEq, rNe, gSub, L2.start, LL.cxK0, LL.cxK1, List.map_cons, List.map_nil, List.length_cons, List.length_nil, List.replicate_succ, List.replicate_zero, List.cons_append, List.nil_append, List.append_nil, List.getElem?_cons_zero, List.getElem?_cons_succ, List.set_cons_zero, List.set_cons_succ, Nat.add_sub_cancel, Nat.reduceAdd, Nat.reduceSub, Option.some.injEq, V.int.injEq, V.bl.injEq, V.ref.injEq, V.str.injEq, List.cons.injEq, and_true, true_and, and_false, false_and, exists_eq_left, exists_eq_left', exists_and_left, exists_and_right, exists_eq, exists_eq', LL.if_dec, reduceCtorEq, exists_false, exists_const, or_false, false_or, if_true, if_false, LL.rInt1, LL.rMx, LL.rMn, and_assoc, Int.reduceNeg, Int.reduceLT, Int.reduceLE, Int.reduceMul, Int.reduceAdd, Int.reduceSub, Int.reducePow, Int.reduceToNat, Nat.reducePow, Nat.reduceLT, true_or, or_true, Bool.not_true, Bool.not_false, Bool.false_eq_true, Bool.or_false, Bool.or_true, Bool.true_or, Bool.false_or, decide_true, decide_false, not_true_eq_false, not_false_eq_true, LL.scal_int, LL.scal_bl, LL.scal_str, LL.isInt, LL.isBl, LL.isStr, LL.isLst, LL.isTup, LL.isDic]
          exact q _ s1
      | tup ts =>
        obtain ⟨p, xs, rfl, fp, ep, hx, hz⟩ := _root_.id h1
        obtain ⟨p2, ys, rfl, fp2, ep2, hy, _⟩ := _root_.id h2
        have lx := hx.len
        have ly := hy.len
        simp only [tSeq, tAsg, tRet, tRetN, tDrop, tNext, tVar, tC, gName, tOp, tUn, rI, rI0, rU, tIfS, tTest, tB, tIf, tAnd, tOr, tNot, tAndV, tOrV, tNotV, tCall, tCons, tNil, tCB, tLst, tTup, tChain, CMul, CDiv, CPow, rEq, rNe, gSub, L2.start, LL.cxK0, LL.cxK1, List.map_cons, List.map_nil, List.length_cons, List.length_nil, List.replicate_succ, List.replicate_zero, List.cons_append, List.nil_append, List.append_nil, List.getElem?_cons_zero, List.getElem?_cons_succ, List.set_cons_zero, List.set_cons_succ, Nat.add_sub_cancel, Nat.reduceAdd, Nat.reduceSub, Option.some.injEq, V.int.injEq, V.bl.injEq, V.ref.injEq, V.str.injEq, List.cons.injEq, and_true, true_and, and_false, false_and, exists_eq_left, exists_eq_left', exists_and_left, exists_and_right, exists_eq, exists_eq', LL.if_dec, reduceCtorEq, exists_false, exists_const, or_false, false_or, if_true, if_false, LL.rInt1, LL.rMx, LL.rMn, and_assoc, Int.reduceNeg, Int.reduceLT, Int.reduceLE, Int.reduceMul, Int.reduceAdd, Int.reduceSub, Int.reducePow, Int.reduceToNat, Nat.reducePow, Nat.reduceLT, true_or, or_true, Bool.not_true, Bool.not_false, Bool.false_eq_true, Bool.or_false, Bool.or_true, Bool.true_or, Bool.false_or, decide_true, decide_false, not_true_eq_false, not_false_eq_true, LL.scal_int, LL.scal_bl, LL.scal_str, LL.isInt, LL.isBl, LL.isStr, LL.isLst, LL.isTup, LL.isDic, N_law_same]
        repeat (first | refine use_isi h1 (kit_int _) ?_ | refine use_isi h1 (kit_bool _) ?_ | refine use_isi h1 (kit_str _) ?_ | refine use_isi h1 (kit_list _) ?_ | refine use_isi h1 (kit_tuple _) ?_ | refine use_isi h1 (kit_dict _) ?_ | refine use_isi h2 (kit_int _) ?_ | refine use_isi h2 (kit_bool _) ?_ | refine use_isi h2 (kit_str _) ?_ | refine use_isi h2 (kit_list _) ?_ | refine use_isi h2 (kit_tuple _) ?_ | refine use_isi h2 (kit_dict _) ?_ | refine And.intro (show scal _ _ = true from rfl) ?_ | simp only [tSeq, tAsg, tRet, tRetN, tDrop, tNext, tVar, tC, gName, tOp, tUn, rI, rI0, rU, tIfS, tTest, tB, tIf, tAnd, tOr, tNot, tAndV, tOrV, tNotV, tCall, tCons, tNil, tCB, tLst, tTup, tChain, CMul, CDiv, CPow, rEq, rNe, gSub, L2.start, LL.cxK0, LL.cxK1, List.map_cons, List.map_nil, List.length_cons, List.length_nil, List.replicate_succ, List.replicate_zero, List.cons_append, List.nil_append, List.append_nil, List.getElem?_cons_zero, List.getElem?_cons_succ, List.set_cons_zero, List.set_cons_succ, Nat.add_sub_cancel, Nat.reduceAdd, Nat.reduceSub, Option.some.injEq, V.int.injEq, V.bl.injEq, V.ref.injEq, V.str.injEq, List.cons.injEq, and_true, true_and, and_false, false_and, exists_eq_left, exists_eq_left', exists_and_left, exists_and_right, exists_eq, exists_eq', LL.if_dec, reduceCtorEq, exists_false, exists_const, or_false, false_or, if_true, if_false, LL.rInt1, LL.rMx, LL.rMn, and_assoc, Int.reduceNeg, Int.reduceLT, Int.reduceLE, Int.reduceMul, Int.reduceAdd, Int.reduceSub, Int.reducePow, Int.reduceToNat, Nat.reducePow, Nat.reduceLT, true_or, or_true, Bool.not_true, Bool.not_false, Bool.false_eq_true, Bool.or_false, Bool.or_true, Bool.true_or, Bool.false_or, decide_true, decide_false, not_true_eq_false, not_false_eq_true, LL.scal_int, LL.scal_bl, LL.scal_str, LL.isInt, LL.isBl, LL.isStr, LL.isLst, LL.isTup, LL.isDic])
        refine .inr (.inl (use_lenT ep ?_))
        refine .inr (.inl (use_lenT ep2 (And.intro (show scal _ _ = true from rfl) ?_)))
        rw [if_neg (by rw [lx, ly]; simp)]
        refine use_forR (j := ys.length) (fun Q q => ⟨_, rfl, .inr (.inl (use_lenT ep2 q))⟩) (by omega) (by omega) (fun i σ' H' => Same H H' ∧ i ≤ ys.length ∧ ∃ z : Option V, σ' = [some (.ref p), some (.ref p2), z, none]) ⟨Same.refl _, Nat.zero_le _, _, rfl⟩ ?_ ?_
        · rintro i σ' H' hi ⟨s1, _, zz, rfl⟩
          have hi2 : i < ts.length := by omega
          obtain ⟨x1, e1, d1⟩ := hx.get' (List.getElem?_eq_getElem hi2)
          obtain ⟨x2, e2, d2⟩ := hy.get' (List.getElem?_eq_getElem hi2)
          simp only [tSeq, tAsg, tRet, tRetN, tDrop, tNext, tVar, tC, gName, tOp, tUn, rI, rI0, rU, tIfS, tTest, tB, tIf, tAnd, tOr, tNot, tAndV, tOrV, tNotV, tCall, tCons, tNil, tCB, tLst, tTup, tChain, CMul, CDiv, CPow, rEq, rNe, gSub, L2.start, LL.cxK0, LL.cxK1, List.map_cons, List.map_nil, List.length_cons, List.length_nil, List.replicate_succ, List.replicate_zero, List.cons_append, List.nil_append, List.append_nil, List.getElem?_cons_zero, List.getElem?_cons_succ, List.set_cons_zero, List.set_cons_succ, Nat.add_sub_cancel, Nat.reduceAdd, Nat.reduceSub, Option.some.injEq, V.int.injEq, V.bl.injEq, V.ref.injEq, V.str.injEq, List.cons.injEq, and_true, true_and, and_false, false_and, exists_eq_left, exists_eq_left', exists_and_left, exists_and_right, exists_eq, exists_eq', LL.if_dec, reduceCtorEq, exists_false, exists_const, or_false, false_or, if_true, if_false, LL.rInt1, LL.rMx, LL.rMn, and_assoc, Int.reduceNeg, Int.reduceLT, Int.reduceLE, Int.reduceMul, Int.reduceAdd, Int.reduceSub, Int.reducePow, Int.reduceToNat, Nat.reducePow, Nat.reduceLT, true_or, or_true, Bool.not_true, Bool.not_false, Bool.false_eq_true, Bool.or_false, Bool.or_true, Bool.true_or, Bool.false_or, decide_true, decide_false, not_true_eq_false, not_false_eq_true, LL.scal_int, LL.scal_bl, LL.scal_str, LL.isInt, LL.isBl, LL.isStr, LL.isLst, LL.isTup, LL.isDic]
          rw [Int.zero_add]
          refine .inr (use_ixT (s1 _ _ ep) (atI_nat e1) (.inr (use_ixT (s1 _ _ ep2) (atI_nat e2) ?_)))
          refine use_same (d1.same s1) (d2.same s1) (by have := depL_mem (List.getElem?_eq_getElem hi2); simp only [dep] at hn; omega) fun H2 s2 => ?_
          simp only [tSeq, tAsg, tRet, tRetN, tDrop, tNext, tVar, tC, gName, tOp, tUn, rI, rI0, rU, tIfS, tTest, tB, tIf, tAnd, tOr, tNot, tAndV, tOrV, tNotV, tCall, tCons, tNil, tCB, tLst, tTup, tChain, CMul, CDiv, CPow, rEq, rNe, gSub, L2.start, LL.cxK0, LL.cxK1, List.map_cons, List.map_nil, List.length_cons, List.length_nil, List.replicate_succ, List.replicate_zero, List.cons_append, List.nil_append, List.append_nil, List.getElem?_cons_zero, List.getElem?_cons_succ, List.set_cons_zero, List.set_cons_succ, Nat.add_sub_cancel, Nat.reduceAdd, Nat.reduceSub, Option.some.injEq, V.int.injEq, V.bl.injEq, V.ref.injEq, V.str.injEq, List.cons.injEq, and_true, true_and, and_false, false_and, exists_eq_left, exists_eq_left', exists_and_left, exists_and_right, exists_eq, exists_eq', LL.if_dec, reduceCtorEq, exists_false, exists_const, or_false, false_or, if_true, if_false, LL.rInt1, LL.rMx, LL.rMn, and_assoc, Int.reduceNeg, Int.reduceLT, Int.reduceLE, Int.reduceMul, Int.reduceAdd, Int.reduceSub, Int.reducePow, Int.reduceToNat, Nat.reducePow, Nat.reduceLT, true_or, or_true, Bool.not_true, Bool.not_false, Bool.false_eq_true, Bool.or_false, Bool.or_true, Bool.true_or, Bool.false_or, decide_true, decide_false, not_true_eq_false, not_false_eq_true, LL.scal_int, LL.scal_bl, LL.scal_str, LL.isInt, LL.isBl, LL.isStr, LL.isLst, LL.isTup, LL.isDic]
          exact ⟨s1.trans s2, by omega⟩
        · rintro σ' H' ⟨s1, _, zz, rfl⟩
          simp only [tSeq, tAsg, tRet, tRetN, tDrop, tNext, tVar, tC, gName, tOp, tUn, rI, rI0, rU, tIfS, tTest, tB, tIf, tAnd, tOr, tNot, tAndV, tOrV, tNotV, tCall, tCons, tNil, tCB, tLst, tTup, tChain, CMul, CDiv, CPow, rEq, rNe, gSub, L2.start, LL.cxK0, LL.cxK1, List.map_cons, List.map_nil, List.length_cons, List.length_nil, List.replicate_succ, List.replicate_zero, List.cons_append, List.nil_append, List.append_nil, List.getElem?_cons_zero, List.getElem?_cons_succ, List.set_cons_zero, List.set_cons_succ, Nat.add_sub_cancel, Nat.reduceAdd, Nat.reduceSub, Option.some.injEq, V.int.injEq, V.bl.injEq, V.ref.injEq, V.str.injEq, List.cons.injEq, and_true, true_and, and_false, false_and, exists_eq_left, exists_eq_left', exists_and_left, exists_and_right, exists_eq, exists_eq', LL.if_dec, reduceCtorEq, exists_false, exists_const, or_false, false_or, if_true, if_false, LL.rInt1, LL.rMx, LL.rMn, and_assoc, Int.reduceNeg, Int.reduceLT, Int.reduceLE, Int.reduceMul, Int.reduceAdd, Int.reduceSub, Int.reducePow, Int.reduceToNat, Nat.reducePow, Nat.reduceLT, true_or, or_true, Bool.not_true, Bool.not_false, Bool.false_eq_true, Bool.or_false, Bool.or_true, Bool.true_or, Bool.false_or, decide_true, decide_false, not_true_eq_false, not_false_eq_true, LL.scal_int, LL.scal_bl, LL.scal_str, LL.isInt, LL.isBl, LL.isStr, LL.isLst, LL.isTup, LL.isDic]
          exact q _ s1
      | dic u =>
        obtain ⟨p, z, rfl, fp, ep, hz⟩ := _root_.id h1
        obtain ⟨p2, z2, rfl, fp2, ep2, hz2⟩ := _root_.id h2
        simp only [tSeq, tAsg, tRet, tRetN, tDrop, tNext, tVar, tC, gName, tOp, tUn, rI, rI0, rU, tIfS, tTest, tB, tIf, tAnd, tOr, tNot, tAndV, tOrV, tNotV, tCall, tCons, tNil, tCB, tLst, tTup, tChain, CMul, CDiv, CPow, rEq, rNe, gSub, L2.start, LL.cxK0, LL.cxK1, List.map_cons, List.map_nil, List.length_cons, List.length_nil, List.replicate_succ, List.replicate_zero, List.cons_append, List.nil_append, List.append_nil, List.getElem?_cons_zero, List.getElem?_cons_succ, List.set_cons_zero, List.set_cons_succ, Nat.add_sub_cancel, Nat.reduceAdd, Nat.reduceSub, Option.some.injEq, V.int.injEq, V.bl.injEq, V.ref.injEq, V.str.injEq, List.cons.injEq, and_true, true_and, and_false, false_and, exists_eq_left, exists_eq_left', exists_and_left, exists_and_right, exists_eq, exists_eq', LL.if_dec, reduceCtorEq, exists_false, exists_const, or_false, false_or, if_true, if_false, LL.rInt1, LL.rMx, LL.rMn, and_assoc, Int.reduceNeg, Int.reduceLT, Int.reduceLE, Int.reduceMul, Int.reduceAdd, Int.reduceSub, Int.reducePow, Int.reduceToNat, Nat.reducePow, Nat.reduceLT, true_or, or_true, Bool.not_true, Bool.not_false, Bool.false_eq_true, Bool.or_false, Bool.or_true, Bool.true_or, Bool.false_or, decide_true, decide_false, not_true_eq_false, not_false_eq_true, LL.scal_int, LL.scal_bl, LL.scal_str, LL.isInt, LL.isBl, LL.isStr, LL.isLst, LL.isTup, LL.isDic, N_law_same]
        repeat (first | refine use_isi h1 (kit_int _) ?_ | refine use_isi h1 (kit_bool _) ?_ | refine use_isi h1 (kit_str _) ?_ | refine use_isi h1 (kit_list _) ?_ | refine use_isi h1 (kit_tuple _) ?_ | refine use_isi h1 (kit_dict _) ?_ | refine use_isi h2 (kit_int _) ?_ | refine use_isi h2 (kit_bool _) ?_ | refine use_isi h2 (kit_str _) ?_ | refine use_isi h2 (kit_list _) ?_ | refine use_isi h2 (kit_tuple _) ?_ | refine use_isi h2 (kit_dict _) ?_ | refine And.intro (show scal _ _ = true from rfl) ?_ | simp only [tSeq, tAsg, tRet, tRetN, tDrop, tNext, tVar, tC, gName, tOp, tUn, rI, rI0, rU, tIfS, tTest, tB, tIf, tAnd, tOr, tNot, tAndV, tOrV, tNotV, tCall, tCons, tNil, tCB, tLst, tTup, tChain, CMul, CDiv, CPow, rEq, rNe, gSub, L2.start, LL.cxK0, LL.cxK1, List.map_cons, List.map_nil, List.length_cons, List.length_nil, List.replicate_succ, List.replicate_zero, List.cons_append, List.nil_append, List.append_nil, List.getElem?_cons_zero, List.getElem?_cons_succ, List.set_cons_zero, List.set_cons_succ, Nat.add_sub_cancel, Nat.reduceAdd, Nat.reduceSub, Option.some.injEq, V.int.injEq, V.bl.injEq, V.ref.injEq, V.str.injEq, List.cons.injEq, and_true, true_and, and_false, false_and, exists_eq_left, exists_eq_left', exists_and_left, exists_and_right, exists_eq, exists_eq', LL.if_dec, reduceCtorEq, exists_false, exists_const, or_false, false_or, if_true, if_false, LL.rInt1, LL.rMx, LL.rMn, and_assoc, Int.reduceNeg, Int.reduceLT, Int.reduceLE, Int.reduceMul, Int.reduceAdd, Int.reduceSub, Int.reducePow, Int.reduceToNat, Nat.reducePow, Nat.reduceLT, true_or, or_true, Bool.not_true, Bool.not_false, Bool.false_eq_true, Bool.or_false, Bool.or_true, Bool.true_or, Bool.false_or, decide_true, decide_false, not_true_eq_false, not_false_eq_true, LL.scal_int, LL.scal_bl, LL.scal_str, LL.isInt, LL.isBl, LL.isStr, LL.isLst, LL.isTup, LL.isDic])
        refine .inr (.inr ⟨_, _, rfl, ep, ?_⟩)
        refine .inr (.inr ⟨_, _, rfl, ep2, And.intro (show scal _ _ = true from rfl) ?_⟩)
        rw [if_neg (by simp)]
        refine use_forLX (R := fun a xs H' => Same H H' ∧ H' a = some (.lst xs) ∧ xs = [.str "a"]) (fun Q hQ => ⟨_, rfl, _, _, rfl, ep2, ?_⟩) (fun a xs i σ' H' => Same H H' ∧ H' a = some (.lst xs) ∧ xs = [.str "a"] ∧ ∃ z1 z2 : Option V, σ' = [some (.ref p), some (.ref p2), z1, z2]) (fun a xs H' ⟨s1, e1, e2⟩ => ⟨s1, e1, e2, _, _, rfl⟩) (fun a xs i σ' H' _ ⟨_, e1, _⟩ => SqL.of e1) ?_ ?_
        · show ∀ l, H l = none → Q (V.ref l) _
          intro l nl
          generalize hq : upd H l _ = H1
          have sH1 : Same H H1 := hq ▸ Same.new (Same.refl _) nl
          have el := hq ▸ (upd_same (H := H) (a := l))
          clear hq
          exact hQ _ _ _ ⟨sH1, el, rfl⟩
        · rintro a xs i y σ' H' hy ⟨s1, e1, rfl, z3, z4, rfl⟩
          obtain rfl : y = V.str "a" := by
            rcases i with _ | i
            · exact (Option.some.inj hy).symm
            · cases hy
          simp only [tSeq, tAsg, tRet, tRetN, tDrop, tNext, tVar, tC, gName, tOp, tUn, rI, rI0, rU, tIfS, tTest, tB, tIf, tAnd, tOr, tNot, tAndV, tOrV, tNotV, tCall, tCons, tNil, tCB, tLst, tTup, tChain, CMul, CDiv, CPow, rEq, rNe, gSub, L2.start, LL.cxK0, LL.cxK1, List.map_cons, List.map_nil, List.length_cons, List.length_nil, List.replicate_succ, List.replicate_zero, List.cons_append, List.nil_append, List.append_nil, List.getElem?_cons_zero, List.getElem?_cons_succ, List.set_cons_zero, List.set_cons_succ, Nat.add_sub_cancel, Nat.reduceAdd, Nat.reduceSub, Option.some.injEq, V.int.injEq, V.bl.injEq, V.ref.injEq, V.str.injEq, List.cons.injEq, and_true, true_and, and_false, false_and, exists_eq_left, exists_eq_left', exists_and_left, exists_and_right, exists_eq, exists_eq', LL.if_dec, reduceCtorEq, exists_false, exists_const, or_false, false_or, if_true, if_false, LL.rInt1, LL.rMx, LL.rMn, and_assoc, Int.reduceNeg, Int.reduceLT, Int.reduceLE, Int.reduceMul, Int.reduceAdd, Int.reduceSub, Int.reducePow, Int.reduceToNat, Nat.reducePow, Nat.reduceLT, true_or, or_true, Bool.not_true, Bool.not_false, Bool.false_eq_true, Bool.or_false, Bool.or_true, Bool.true_or, Bool.false_or, decide_true, decide_false, not_true_eq_false, not_false_eq_true, LL.scal_int, LL.scal_bl, LL.scal_str, LL.isInt, LL.isBl, LL.isStr, LL.isLst, LL.isTup, LL.isDic, tDNotIn, tDGet]
          have ev : ∀ (q : Addr) (zz : V), H' q = some (.dK [(Sum.inr "a", zz)]) → DGet H' q (.str "a") (some zz) := fun q zz e => by
            have g := DGet.k (k := Sum.inr "a") e
            have e2 : valV [((Sum.inr "a" : Key), zz)] (Sum.inr "a") = some zz := by simp [valV]
            rw [e2] at g
            exact g
          refine ⟨_, ev _ _ (s1 _ _ ep), ?_⟩
          simp only [tSeq, tAsg, tRet, tRetN, tDrop, tNext, tVar, tC, gName, tOp, tUn, rI, rI0, rU, tIfS, tTest, tB, tIf, tAnd, tOr, tNot, tAndV, tOrV, tNotV, tCall, tCons, tNil, tCB, tLst, tTup, tChain, CMul, CDiv, CPow, rEq, rNe, gSub, L2.start, LL.cxK0, LL.cxK1, List.map_cons, List.map_nil, List.length_cons, List.length_nil, List.replicate_succ, List.replicate_zero, List.cons_append, List.nil_append, List.append_nil, List.getElem?_cons_zero, List.getElem?_cons_succ, List.set_cons_zero, List.set_cons_succ, Nat.add_sub_cancel, Nat.reduceAdd, Nat.reduceSub, Option.some.injEq, V.int.injEq, V.bl.injEq, V.ref.injEq, V.str.injEq, List.cons.injEq, and_true, true_and, and_false, false_and, exists_eq_left, exists_eq_left', exists_and_left, exists_and_right, exists_eq, exists_eq', LL.if_dec, reduceCtorEq, exists_false, exists_const, or_false, false_or, if_true, if_false, LL.rInt1, LL.rMx, LL.rMn, and_assoc, Int.reduceNeg, Int.reduceLT, Int.reduceLE, Int.reduceMul, Int.reduceAdd, Int.reduceSub, Int.reducePow, Int.reduceToNat, Nat.reducePow, Nat.reduceLT, true_or, or_true, Bool.not_true, Bool.not_false, Bool.false_eq_true, Bool.or_false, Bool.or_true, Bool.true_or, Bool.false_or, decide_true, decide_false, not_true_eq_false, not_false_eq_true, LL.scal_int, LL.scal_bl, LL.scal_str, LL.isInt, LL.isBl, LL.isStr, LL.isLst, LL.isTup, LL.isDic, Option.isSome_some]
          refine ⟨_, ev _ _ (s1 _ _ ep), ?_⟩
          refine ⟨_, ev _ _ (s1 _ _ ep2), ?_⟩
          refine use_same (hz.same s1) (hz2.same s1) (by simp only [dep] at hn; omega) fun H2 s2 => ?_
          simp only [tSeq, tAsg, tRet, tRetN, tDrop, tNext, tVar, tC, gName, tOp, tUn, rI, rI0, rU, tIfS, tTest, tB, tIf, tAnd, tOr, tNot, tAndV, tOrV, tNotV, tCall, tCons, tNil, tCB, tLst, tTup, tChain, CMul, CDiv, CPow, rEq, rNe, gSub, L2.start, LL.cxK0, LL.cxK1, List.map_cons, List.map_nil, List.length_cons, List.length_nil, List.replicate_succ, List.replicate_zero, List.cons_append, List.nil_append, List.append_nil, List.getElem?_cons_zero, List.getElem?_cons_succ, List.set_cons_zero, List.set_cons_succ, Nat.add_sub_cancel, Nat.reduceAdd, Nat.reduceSub, Option.some.injEq, V.int.injEq, V.bl.injEq, V.ref.injEq, V.str.injEq, List.cons.injEq, and_true, true_and, and_false, false_and, exists_eq_left, exists_eq_left', exists_and_left, exists_and_right, exists_eq, exists_eq', LL.if_dec, reduceCtorEq, exists_false, exists_const, or_false, false_or, if_true, if_false, LL.rInt1, LL.rMx, LL.rMn, and_assoc, Int.reduceNeg, Int.reduceLT, Int.reduceLE, Int.reduceMul, Int.reduceAdd, Int.reduceSub, Int.reducePow, Int.reduceToNat, Nat.reducePow, Nat.reduceLT, true_or, or_true, Bool.not_true, Bool.not_false, Bool.false_eq_true, Bool.or_false, Bool.or_true, Bool.true_or, Bool.false_or, decide_true, decide_false, not_true_eq_false, not_false_eq_true, LL.scal_int, LL.scal_bl, LL.scal_str, LL.isInt, LL.isBl, LL.isStr, LL.isLst, LL.isTup, LL.isDic]
          exact ⟨s1.trans s2, s2 _ _ e1⟩
        · rintro a xs σ' H' ⟨s1, e1, rfl, z3, z4, rfl⟩
          simp only [tSeq, tAsg, tRet, tRetN, tDrop, tNext, tVar, tC, gName, tOp, tUn, rI, rI0, rU, tIfS, tTest, tB, tIf, tAnd, tOr, tNot, tAndV, tOrV, tNotV, tCall, tCons, tNil, tCB, tLst, tTup, tChain, CMul, CDiv, CPow, rEq, rNe, gSub, L2.start, LL.cxK0, LL.cxK1, List.map_cons, List.map_nil, List.length_cons, List.length_nil, List.replicate_succ, List.replicate_zero, List.cons_append, List.nil_append, List.append_nil, List.getElem?_cons_zero, List.getElem?_cons_succ, List.set_cons_zero, List.set_cons_succ, Nat.add_sub_cancel, Nat.reduceAdd, Nat.reduceSub, Option.some.injEq, V.int.injEq, V.bl.injEq, V.ref.injEq, V.str.injEq, List.cons.injEq, and_true, true_and, and_false, false_and, exists_eq_left, exists_eq_left', exists_and_left, exists_and_right, exists_eq, exists_eq', LL.if_dec, reduceCtorEq, exists_false, exists_const, or_false, false_or, if_true, if_false, LL.rInt1, LL.rMx, LL.rMn, and_assoc, Int.reduceNeg, Int.reduceLT, Int.reduceLE, Int.reduceMul, Int.reduceAdd, Int.reduceSub, Int.reducePow, Int.reduceToNat, Nat.reducePow, Nat.reduceLT, true_or, or_true, Bool.not_true, Bool.not_false, Bool.false_eq_true, Bool.or_false, Bool.or_true, Bool.true_or, Bool.false_or, decide_true, decide_false, not_true_eq_false, not_false_eq_true, LL.scal_int, LL.scal_bl, LL.scal_str, LL.isInt, LL.isBl, LL.isStr, LL.isLst, LL.isTup, LL.isDic]
          exact q _ s1
/-- the same data, made anew -/
def sp_law_copy (n : Nat) : Sp := fun vs H Q _ => ∃ (F : Addr → Prop) (v : V) (t : LL.T), vs = [v] ∧ Dt F H v t ∧ dep t < n ∧ ∀ r H', Same H H' → Dt (fun a => H a = none) H' r t → Q r H'
theorem use_copy {n : Nat} {F : Addr → Prop} {v : V} {t : LL.T} {H : Hp} {Q : VK} {E : XK} (h1 : Dt F H v t) (hn : dep t < n) (q : ∀ r H', Same H H' → Dt (fun a => H a = none) H' r t → Q r H') : sp_law_copy n [v] H Q E := ⟨F, v, t, rfl, h1, hn, q⟩

/-- what is told of a BadValue with that name -/
def refT (n : Str) : LL.T := .lst [.str "refused", .tup [.str "BadValue", .tup [.str n]], .tup [.str n], .lst [.bl true, .bl true, .bl true, .bl false, .bl false, .bl false, .bl false, .bl false, .bl false, .bl false]]
def sp_law_refused : Sp := fun vs H Q _ => ∃ (F : Addr → Prop) (f : V) (n : Str), vs = [.str "BadValue", f] ∧ Dt F H f (.tup [.str n]) ∧ ∀ r H', Same H H' → Dt (fun _ => True) H' r (refT n) → Q r H'
theorem use_refused {F : Addr → Prop} {f : V} {n : Str} {H : Hp} {Q : VK} {E : XK} (hf : Dt F H f (.tup [.str n])) (q : ∀ r H', Same H H' → Dt (fun _ => True) H' r (refT n) → Q r H') : sp_law_refused [.str "BadValue", f] H Q E := ⟨F, f, n, rfl, hf, q⟩
def titles : List V := [.str "BadValue", .str "Broken", .str "Unknown", .str "NotHeld", .str "Fault", .str "NoRoom", .str "Cut", .str "BadLine"]
theorem titles_eq : titles.map (fun x => V.bl (decide (x = V.str "BadValue"))) = [.bl true, .bl false, .bl false, .bl false, .bl false, .bl false, .bl false, .bl false] := by decide +kernel
theorem titles_s : ∀ x ∈ titles, scal x (.str "BadValue") = true := by decide +kernel

def sp_law_draws (K : PySem.W.Frag) : Sp := fun vs H Q _ => ∃ (a : Addr) (ns : List Int), vs = [.ref a] ∧ SqL K H a (ns.map V.int) ∧ ns.length ≤ 100000 ∧ ∀ d s H', Same H H' → Drw d s H' → H d = none → H s = none → Q (.ref d) H'

theorem ok_law_draws (T : Tx K mg) : FnOk P w K mg base CX0 1 (He.ga K "_law_draws") T.fd_law_draws P_law_draws (sp_law_draws K) := by
  refine T.F_law_draws.ok sc_law_draws (fun vs H Q E h => ?_) (fun cdv A outer s H vs Q E hr h => ⟨_, PSs.nox (pss_one (ps_ret (pe_lst (pa_cons (pe_lc (own := [("_law_cell", 1)]) (by rfl) sc_law_draws.nd (pi_list (pv 0)) (blkOk_by (N := N_law_draws) (sc := defScope s_law_draws) (by decide +kernel)) (fun _ _ _ _ _ => (pg_name (i := 1) sc_law_draws.nd rfl (Or.inl rfl))) (fun _ _ _ _ _ => pts_nil) (fun _ _ _ _ _ => (pe_callTy LL.call_intI (by rfl) T.z_int (by decide +kernel) (pa_cons (pv 1) pa_nil)))) (pa_cons (pe_lst (pa_cons (pe_int) (pa_cons (pe_int) (pa_cons (pe_int) (pa_cons (pe_int) (pa_cons (pe_int) pa_nil)))))) pa_nil))))), ?_⟩)
  · obtain ⟨_, _, rfl, _⟩ := h
    rfl
  · obtain ⟨a, ns, rfl, hs, hn, q⟩ := h
    simp only [tSeq, tAsg, tRet, tRetN, tDrop, tNext, tVar, tC, gName, tOp, tUn, rI, rI0, rU, tIfS, tTest, tB, tIf, tAnd, tOr, tNot, tAndV, tOrV, tNotV, tCall, tCons, tNil, tCB, tLst, tTup, tChain, CMul, CDiv, CPow, rEq, rNe, gSub, L2.start, LL.cxK0, LL.cxK1, List.map_cons, List.map_nil, List.length_cons, List.length_nil, List.replicate_succ, List.replicate_zero, List.cons_append, List.nil_append, List.append_nil, List.getElem?_cons_zero, List.getElem?_cons_succ, List.set_cons_zero, List.set_cons_succ, Nat.add_sub_cancel, Nat.reduceAdd, Nat.reduceSub, Option.some.injEq, V.int.injEq, V.bl.injEq, V.ref.injEq, V.str.injEq, List.cons.injEq, and_true, true_and, and_false, false_and, exists_eq_left, exists_eq_left', exists_and_left, exists_and_right, exists_eq, exists_eq', LL.if_dec, reduceCtorEq, exists_false, exists_const, or_false, false_or, if_true, if_false, LL.rInt1, LL.rMx, LL.rMn, and_assoc, Int.reduceNeg, Int.reduceLT, Int.reduceLE, Int.reduceMul, Int.reduceAdd, Int.reduceSub, Int.reducePow, Int.reduceToNat, Nat.reducePow, Nat.reduceLT, true_or, or_true, Bool.not_true, Bool.not_false, Bool.false_eq_true, Bool.or_false, Bool.or_true, Bool.true_or, Bool.false_or, decide_true, decide_false, not_true_eq_false, not_false_eq_true, LL.scal_int, LL.scal_bl, LL.scal_str, LL.isInt, LL.isBl, LL.isStr, LL.isLst, LL.isTup, LL.isDic, N_law_draws]
    refine ⟨_, rfl, a, rfl, ⟨_, hs⟩, fun D hD => ?_⟩
    refine lc_list (K := K) (a := a) (xs := ns.map V.int) (fun i H' => Same H H' ∧ H' D = some (.lst ((ns.take i).map V.int))) ⟨Same.new (Same.refl _) hD, upd_same⟩ (fun i H' _ ⟨s1, _⟩ => s1.seq hs) ?_ ?_
    · rintro i x H' hi ⟨s1, eD⟩
      rw [List.getElem?_map] at hi
      obtain ⟨n, hn2, rfl⟩ := Option.map_eq_some_iff.mp hi
      simp only [tSeq, tAsg, tRet, tRetN, tDrop, tNext, tVar, tC, gName, tOp, tUn, rI, rI0, rU, tIfS, tTest, tB, tIf, tAnd, tOr, tNot, tAndV, tOrV, tNotV, tCall, tCons, tNil, tCB, tLst, tTup, tChain, CMul, CDiv, CPow, rEq, rNe, gSub, L2.start, LL.cxK0, LL.cxK1, List.map_cons, List.map_nil, List.length_cons, List.length_nil, List.replicate_succ, List.replicate_zero, List.cons_append, List.nil_append, List.append_nil, List.getElem?_cons_zero, List.getElem?_cons_succ, List.set_cons_zero, List.set_cons_succ, Nat.add_sub_cancel, Nat.reduceAdd, Nat.reduceSub, Option.some.injEq, V.int.injEq, V.bl.injEq, V.ref.injEq, V.str.injEq, List.cons.injEq, and_true, true_and, and_false, false_and, exists_eq_left, exists_eq_left', exists_and_left, exists_and_right, exists_eq, exists_eq', LL.if_dec, reduceCtorEq, exists_false, exists_const, or_false, false_or, if_true, if_false, LL.rInt1, LL.rMx, LL.rMn, and_assoc, Int.reduceNeg, Int.reduceLT, Int.reduceLE, Int.reduceMul, Int.reduceAdd, Int.reduceSub, Int.reducePow, Int.reduceToNat, Nat.reducePow, Nat.reduceLT, true_or, or_true, Bool.not_true, Bool.not_false, Bool.false_eq_true, Bool.or_false, Bool.or_true, Bool.true_or, Bool.false_or, decide_true, decide_false, not_true_eq_false, not_false_eq_true, LL.scal_int, LL.scal_bl, LL.scal_str, LL.isInt, LL.isBl, LL.isStr, LL.isLst, LL.isTup, LL.isDic, tYes, wipe, List.foldl_cons, List.foldl_nil]
      refine ⟨_, eD, small_sz (by rw [List.length_map, List.length_take]; omega), Same.own s1 hD, ?_⟩
      rw [upd_same, take_one hn2, List.map_append]
      rfl
    · rintro H' ⟨s1, eD⟩
      rw [List.length_map, List.take_length] at eD
      refine ⟨by decide, ?_⟩
      have nD : ∀ b, H' b = none → b ≠ D := fun b nb z => by rw [z, eD] at nb; cases nb
      intro p2 np2
      generalize hq : upd H' p2 _ = H2
      have sH2 : Same H' H2 := hq ▸ Same.new (Same.refl _) np2
      have ep2 := hq ▸ (upd_same (H := H') (a := p2))
      clear hq
      replace eD := sH2 _ _ eD
      refine ⟨by decide, ?_⟩
      intro p3 np3
      generalize hq : upd H2 p3 _ = H3
      have sH3 : Same H2 H3 := hq ▸ Same.new (Same.refl _) np3
      have ep3 := hq ▸ (upd_same (H := H2) (a := p3))
      clear hq
      replace eD := sH3 _ _ eD
      replace ep2 := sH3 _ _ ep2
      refine q p3 p2 H3 ((s1.trans sH2).trans sH3) ⟨⟨D, ep3, (nD _ np2).symm, ns, eD⟩, ⟨0, 0, 0, 0, 11, by decide, ep2⟩, fun z => by rw [z] at np3; rw [z] at ep3; rw [ep3] at ep2; cases ep2⟩ ((s1.trans sH2).free np3) (s1.free np2)
end K26

namespace K26
open PySem PySem.Spec PyProof.Rows L2 LL
variable {P : Program} {w : World} {K : PySem.W.Frag} {mg : Str → Option Value} {base : Heap}

/-- behind a raised BadValue: its own dict d, new, holds what it tells -/
structure BadH (H H' : Hp) (d : Addr) (n : V) : Prop where
  ex : ∃ p1 p2, H' d = some (.xd [("told", .ref p2), ("parameter", n)]) ∧ H' p1 = some (.tup [n]) ∧ H' p2 = some (.tup [.str "BadValue", .ref p1]) ∧ H p1 = none ∧ H p2 = none
  same : Same H H'
  new : H d = none
/-- BadValue.__init__ -/
def sp_BadValue (K : PySem.W.Frag) : Sp := fun vs H Q _ => ∃ (a : Addr) (n : V), vs = [.ref a, n] ∧ H a = some (exo a (aBV K) none) ∧
  ∀ d p1 p2 H', H d = none → d ≠ a → H' a = some (exo a (aBV K) (some d)) → H' d = some (exd d [("told", .ref p2), ("parameter", n)]) → H' p1 = some (.tup [n]) → H' p2 = some (.tup [.str "BadValue", .ref p1]) → H p1 = none → H p2 = none → (∀ b o, b ≠ a → H b = some o → H' b = some o) → Q .non H'
theorem ok_BadValue (T : Tx K mg) : FnOk P w K mg base CX0 1 (iBV K) T.fd_BadValue P_BadValue (sp_BadValue K) := by
  refine T.F_BadValue.ok sc_BadValue (fun vs H Q E h => ?_) (fun cdv A outer s H vs Q E hr h => ⟨_, PSs.nox (pss_cons (ps_ost (pv 0) (pv 1)) (pss_one (ps_ost (pv 0) (pe_tup (pa_cons pe_str (pa_cons (pe_tup (pa_cons (pv 1) pa_nil)) pa_nil)))))), ?_⟩)
  · obtain ⟨_, _, rfl, _⟩ := h
    rfl
  · obtain ⟨a, n, rfl, ha, q⟩ := h
    simp only [tSeq, tAsg, tRet, tRetN, tDrop, tNext, tVar, tC, gName, tOp, tUn, rI, rI0, rU, tIfS, tTest, tB, tIf, tAnd, tOr, tNot, tAndV, tOrV, tNotV, tCall, tCons, tNil, tCB, tLst, tTup, tChain, CMul, CDiv, CPow, rEq, rNe, gSub, L2.start, LL.cxK0, LL.cxK1, List.map_cons, List.map_nil, List.length_cons, List.length_nil, List.replicate_succ, List.replicate_zero, List.cons_append, List.nil_append, List.append_nil, List.getElem?_cons_zero, List.getElem?_cons_succ, List.set_cons_zero, List.set_cons_succ, Nat.add_sub_cancel, Nat.reduceAdd, Nat.reduceSub, Option.some.injEq, V.int.injEq, V.bl.injEq, V.ref.injEq, V.str.injEq, List.cons.injEq, and_true, true_and, and_false, false_and, exists_eq_left, exists_eq_left', exists_and_left, exists_and_right, exists_eq, exists_eq', LL.if_dec, reduceCtorEq, exists_false, exists_const, or_false, false_or, if_true, if_false, LL.rInt1, LL.rMx, LL.rMn, and_assoc, Int.reduceNeg, Int.reduceLT, Int.reduceLE, Int.reduceMul, Int.reduceAdd, Int.reduceSub, Int.reducePow, Int.reduceToNat, Nat.reducePow, Nat.reduceLT, true_or, or_true, Bool.not_true, Bool.not_false, Bool.false_eq_true, Bool.or_false, Bool.or_true, Bool.true_or, Bool.false_or, decide_true, decide_false, not_true_eq_false, not_false_eq_true, LL.scal_int, LL.scal_bl, LL.scal_str, LL.isInt, LL.isBl, LL.isStr, LL.isLst, LL.isTup, LL.isDic, P_BadValue, tOst]
    refine ⟨_, T.x_BadValue, T.n_BadValue_parameter, .inl ⟨ha, fun dx hdx hne => ?_⟩⟩
    have e1 : upd (upd H dx (exd dx [("parameter", n)])) a (exo a (aBV K) (some dx)) a = some (exo a (aBV K) (some dx)) := upd_same
    have e2 : upd (upd H dx (exd dx [("parameter", n)])) a (exo a (aBV K) (some dx)) dx = some (exd dx [("parameter", n)]) := by rw [upd_ne hne, upd_same]
    have e3 : ∀ b o, b ≠ a → H b = some o → upd (upd H dx (exd dx [("parameter", n)])) a (exo a (aBV K) (some dx)) b = some o := fun b o hb e => by rw [upd_ne hb, upd_ne (ne_of_none e hdx)]; exact e
    have e4 : ∀ b, upd (upd H dx (exd dx [("parameter", n)])) a (exo a (aBV K) (some dx)) b = none → H b = none := fun b hb => by
      by_cases c : b = a
      · rw [c, upd_same] at hb; cases hb
      · rw [upd_ne c] at hb
        by_cases c2 : b = dx
        · rw [c2]; exact hdx
        · rw [upd_ne c2] at hb; exact hb
    generalize upd (upd H dx (exd dx [("parameter", n)])) a (exo a (aBV K) (some dx)) = H1 at e1 e2 e3 e4 ⊢
    refine ⟨by decide, ?_⟩
    intro p1 np1
    generalize hq : upd H1 p1 _ = H2
    have sH2 : Same H1 H2 := hq ▸ Same.new (Same.refl _) np1
    have ep1 := hq ▸ (upd_same (H := H1) (a := p1))
    clear hq
    replace e1 := sH2 _ _ e1
    replace e2 := sH2 _ _ e2
    refine ⟨by decide, ?_⟩
    intro p2 np2
    generalize hq : upd H2 p2 _ = H3
    have sH3 : Same H2 H3 := hq ▸ Same.new (Same.refl _) np2
    have ep2 := hq ▸ (upd_same (H := H2) (a := p2))
    clear hq
    replace e1 := sH3 _ _ e1
    replace e2 := sH3 _ _ e2
    replace ep1 := sH3 _ _ ep1
    refine ⟨_, T.x_BadValue, T.n_BadValue_told, .inr ⟨dx, e1, _, e2, by simp, ?_⟩⟩
    have f1 := e4 _ np1
    have f2 := e4 _ (sH2.free np2)
    have x1 : p1 ≠ dx := fun z => by rw [z, e2] at ep1; exact (show ¬ exd dx [("parameter", n)] = .tup [n] from exd_tup) (Option.some.inj ep1)
    have x2 : p2 ≠ dx := fun z => by rw [z, e2] at ep2; exact (show ¬ exd dx [("parameter", n)] = .tup [.str "BadValue", .ref p1] from exd_tup) (Option.some.inj ep2)
    refine q dx p1 p2 _ hdx hne (by rw [upd_ne hne.symm]; exact e1) upd_same (by rw [upd_ne x1]; exact ep1) (by rw [upd_ne x2]; exact ep2) f1 f2 (fun b o hb e => ?_)
    rw [upd_ne (ne_of_none e hdx)]
    exact sH3 _ _ (sH2 _ _ (e3 _ _ hb e))
/-- t is an integer within the range -/
def InR (lo hi : Int) : LL.T → Prop
  | .int i => lo ≤ i ∧ i ≤ hi
  | _ => False
instance (lo hi : Int) (t : LL.T) : Decidable (InR lo hi t) := by
  cases t <;> unfold InR <;> infer_instance
def sp_need_whole (K : PySem.W.Frag) : Sp := fun vs H Q E => ∃ (F : Addr → Prop) (v n : V) (t : LL.T) (lo hi : Int), vs = [v, .int lo, .int hi, n] ∧ Dt F H v t ∧ (InR lo hi t → Q .non H) ∧ (¬ InR lo hi t → ∀ d H', BadH H H' d n → E (.ref (aBV K)) (some d) H')

theorem ok_need_whole (T : Tx K mg) : FnOk P w K mg base (L2.CX P w) 3 (He.ga K "need_whole") T.fd_need_whole P_need_whole (sp_need_whole K) := by
  refine T.F_need_whole.ok sc_need_whole (fun vs H Q E h => ?_) (fun cdv A outer s H vs Q E hr h => ⟨_, (pss_one (ps_if (PW.pt (pw_or (pt_not (pt_val (pe_call (ok_is_whole T) (hr.mono (by decide)) rfl T.g_is_whole T.F_is_whole.kp (b_is_whole T) .nil pass0 (pa_cons (pv 0) pa_nil)))) (pw_or1 (pt_not (pt_chain op_le op_le (pv 1) (pv 0) (pv 2)))))) (pss_one (ps_raise rfl (takes_of rfl rfl rfl rfl) (pmk_oex T.x_BadValue T.i_BadValue T.t_BadValue (ok_BadValue T) hr (b_BadValue T) .nil pass0 rfl T.g_BadValue (pa_cons (pv 3) pa_nil)))) pss_nil)), ?_⟩)
  · obtain ⟨_, _, _, _, _, _, rfl, _⟩ := h
    rfl
  · obtain ⟨F, v, n, t, lo, hi, rfl, hd, q1, q2⟩ := h
    have bad : ¬ InR lo hi t → tMkO (aBV K) (sp_BadValue K) [] (tCons (tVar 3) tNil) [some v, some (.int lo), some (.int hi), some n] H (fun cls d H' => E cls d H') := by
      intro hb
      simp only [tMkO]
      simp only [tSeq, tAsg, tRet, tRetN, tDrop, tNext, tVar, tC, gName, tOp, tUn, rI, rI0, rU, tIfS, tTest, tB, tIf, tAnd, tOr, tNot, tAndV, tOrV, tNotV, tCall, tCons, tNil, tCB, tLst, tTup, tChain, CMul, CDiv, CPow, rEq, rNe, gSub, L2.start, LL.cxK0, LL.cxK1, List.map_cons, List.map_nil, List.length_cons, List.length_nil, List.replicate_succ, List.replicate_zero, List.cons_append, List.nil_append, List.append_nil, List.getElem?_cons_zero, List.getElem?_cons_succ, List.set_cons_zero, List.set_cons_succ, Nat.add_sub_cancel, Nat.reduceAdd, Nat.reduceSub, Option.some.injEq, V.int.injEq, V.bl.injEq, V.ref.injEq, V.str.injEq, List.cons.injEq, and_true, true_and, and_false, false_and, exists_eq_left, exists_eq_left', exists_and_left, exists_and_right, exists_eq, exists_eq', LL.if_dec, reduceCtorEq, exists_false, exists_const, or_false, false_or, if_true, if_false, LL.rInt1, LL.rMx, LL.rMn, and_assoc, Int.reduceNeg, Int.reduceLT, Int.reduceLE, Int.reduceMul, Int.reduceAdd, Int.reduceSub, Int.reducePow, Int.reduceToNat, Nat.reducePow, Nat.reduceLT, true_or, or_true, Bool.not_true, Bool.not_false, Bool.false_eq_true, Bool.or_false, Bool.or_true, Bool.true_or, Bool.false_or, decide_true, decide_false, not_true_eq_false, not_false_eq_true, LL.scal_int, LL.scal_bl, LL.scal_str, LL.isInt, LL.isBl, LL.isStr, LL.isLst, LL.isTup, LL.isDic]
      refine ⟨by decide, fun a na => ?_⟩
      refine ⟨a, n, rfl, upd_same, fun d p1 p2 H' hd hne e1 e2 e3 e4 f1 f2 k => ⟨rfl, d, e1, _, e2, ?_, ?_⟩⟩
      · rw [upd_ne hne] at hd; exact hd
      · have fd : H d = none := by rw [upd_ne hne] at hd; exact hd
        have na1 : p1 ≠ a := fun z => by rw [z, upd_same] at f1; cases f1
        have na2 : p2 ≠ a := fun z => by rw [z, upd_same] at f2; cases f2
        have nd1 : p1 ≠ d := fun z => by rw [z, e2] at e3; exact (show ¬ exd d [("told", V.ref p2), ("parameter", n)] = .tup [n] from exd_tup) (Option.some.inj e3)
        have nd2 : p2 ≠ d := fun z => by rw [z, e2] at e4; exact (show ¬ exd d [("told", V.ref p2), ("parameter", n)] = .tup [.str "BadValue", .ref p1] from exd_tup) (Option.some.inj e4)
        rw [upd_ne na1] at f1
        rw [upd_ne na2] at f2
        refine q2 hb d _ ⟨⟨p1, p2, upd_same, by rw [upd_ne nd1, del_ne na1]; exact e3, by rw [upd_ne nd2, del_ne na2]; exact e4, f1, f2⟩, fun b o e => ?_, fd⟩
        have nba : b ≠ a := ne_of_none e na
        rw [upd_ne (ne_of_none e fd), del_ne nba]
        exact k b o nba (by rw [upd_ne nba]; exact e)
    simp only [tSeq, tAsg, tRet, tRetN, tDrop, tNext, tVar, tC, gName, tOp, tUn, rI, rI0, rU, tIfS, tTest, tB, tIf, tAnd, tOr, tNot, tAndV, tOrV, tNotV, tCall, tCons, tNil, tCB, tLst, tTup, tChain, CMul, CDiv, CPow, rEq, rNe, gSub, L2.start, LL.cxK0, LL.cxK1, List.map_cons, List.map_nil, List.length_cons, List.length_nil, List.replicate_succ, List.replicate_zero, List.cons_append, List.nil_append, List.append_nil, List.getElem?_cons_zero, List.getElem?_cons_succ, List.set_cons_zero, List.set_cons_succ, Nat.add_sub_cancel, Nat.reduceAdd, Nat.reduceSub, Option.some.injEq, V.int.injEq, V.bl.injEq, V.ref.injEq, V.str.injEq, List.cons.injEq, and_true, true_and, and_false, false_and, exists_eq_left, exists_eq_left', exists_and_left, exists_and_right, exists_eq, exists_eq', LL.if_dec, reduceCtorEq, exists_false, exists_const, or_false, false_or, if_true, if_false, LL.rInt1, LL.rMx, LL.rMn, and_assoc, Int.reduceNeg, Int.reduceLT, Int.reduceLE, Int.reduceMul, Int.reduceAdd, Int.reduceSub, Int.reducePow, Int.reduceToNat, Nat.reducePow, Nat.reduceLT, true_or, or_true, Bool.not_true, Bool.not_false, Bool.false_eq_true, Bool.or_false, Bool.or_true, Bool.true_or, Bool.false_or, decide_true, decide_false, not_true_eq_false, not_false_eq_true, LL.scal_int, LL.scal_bl, LL.scal_str, LL.isInt, LL.isBl, LL.isStr, LL.isLst, LL.isTup, LL.isDic, N_need_whole]
    refine use_isint hd ?_
    cases t with
    | int i =>
      obtain rfl : v = .int i := hd
      simp only [tSeq, tAsg, tRet, tRetN, tDrop, tNext, tVar, tC, gName, tOp, tUn, rI, rI0, rU, tIfS, tTest, tB, tIf, tAnd, tOr, tNot, tAndV, tOrV, tNotV, tCall, tCons, tNil, tCB, tLst, tTup, tChain, CMul, CDiv, CPow, rEq, rNe, gSub, L2.start, LL.cxK0, LL.cxK1, List.map_cons, List.map_nil, List.length_cons, List.length_nil, List.replicate_succ, List.replicate_zero, List.cons_append, List.nil_append, List.append_nil, List.getElem?_cons_zero, List.getElem?_cons_succ, List.set_cons_zero, List.set_cons_succ, Nat.add_sub_cancel, Nat.reduceAdd, Nat.reduceSub, Option.some.injEq, V.int.injEq, V.bl.injEq, V.ref.injEq, V.str.injEq, List.cons.injEq, and_true, true_and, and_false, false_and, exists_eq_left, exists_eq_left', exists_and_left, exists_and_right, exists_eq, exists_eq', LL.if_dec, reduceCtorEq, exists_false, exists_const, or_false, false_or, if_true, if_false, LL.rInt1, LL.rMx, LL.rMn, and_assoc, Int.reduceNeg, Int.reduceLT, Int.reduceLE, Int.reduceMul, Int.reduceAdd, Int.reduceSub, Int.reducePow, Int.reduceToNat, Nat.reducePow, Nat.reduceLT, true_or, or_true, Bool.not_true, Bool.not_false, Bool.false_eq_true, Bool.or_false, Bool.or_true, Bool.true_or, Bool.false_or, decide_true, decide_false, not_true_eq_false, not_false_eq_true, LL.scal_int, LL.scal_bl, LL.scal_str, LL.isInt, LL.isBl, LL.isStr, LL.isLst, LL.isTup, LL.isDic]
      by_cases h1 : lo ≤ i
      · rw [if_pos h1]
        by_cases h2 : i ≤ hi
        · rw [if_neg (by simp [h2])]
          exact q1 ⟨h1, h2⟩
        · rw [if_pos (by simp [h2])]
          exact bad (fun z => h2 z.2)
      · rw [if_neg h1]
        exact bad (fun z => h1 z.1)
    | _ =>
      simp only [tSeq, tAsg, tRet, tRetN, tDrop, tNext, tVar, tC, gName, tOp, tUn, rI, rI0, rU, tIfS, tTest, tB, tIf, tAnd, tOr, tNot, tAndV, tOrV, tNotV, tCall, tCons, tNil, tCB, tLst, tTup, tChain, CMul, CDiv, CPow, rEq, rNe, gSub, L2.start, LL.cxK0, LL.cxK1, List.map_cons, List.map_nil, List.length_cons, List.length_nil, List.replicate_succ, List.replicate_zero, List.cons_append, List.nil_append, List.append_nil, List.getElem?_cons_zero, List.getElem?_cons_succ, List.set_cons_zero, List.set_cons_succ, Nat.add_sub_cancel, Nat.reduceAdd, Nat.reduceSub, Option.some.injEq, V.int.injEq, V.bl.injEq, V.ref.injEq, V.str.injEq, List.cons.injEq, and_true, true_and, and_false, false_and, exists_eq_left, exists_eq_left', exists_and_left, exists_and_right, exists_eq, exists_eq', LL.if_dec, reduceCtorEq, exists_false, exists_const, or_false, false_or, if_true, if_false, LL.rInt1, LL.rMx, LL.rMn, and_assoc, Int.reduceNeg, Int.reduceLT, Int.reduceLE, Int.reduceMul, Int.reduceAdd, Int.reduceSub, Int.reducePow, Int.reduceToNat, Nat.reducePow, Nat.reduceLT, true_or, or_true, Bool.not_true, Bool.not_false, Bool.false_eq_true, Bool.or_false, Bool.or_true, Bool.true_or, Bool.false_or, decide_true, decide_false, not_true_eq_false, not_false_eq_true, LL.scal_int, LL.scal_bl, LL.scal_str, LL.isInt, LL.isBl, LL.isStr, LL.isLst, LL.isTup, LL.isDic]
      exact bad (fun z => z)
def kindsT : LL.T := .lst [.bl true, .bl true, .bl true, .bl false, .bl false, .bl false, .bl false, .bl false, .bl false, .bl false]
def sp_law_kinds (K : PySem.W.Frag) : Addr → Addr → Addr → Sp := fun a D dd vs H Q _ => vs = [.ref a] ∧ D = aBV K ∧ (∃ fs, H dd = some (.xd fs)) ∧ ∀ r H', Same H H' → Dt (fun b => H b = none) H' r kindsT → Q r H'
theorem use_isX {K : PySem.W.Frag} {a D dd : Addr} {c : V} {cv : Value} {b : Bool} {fs : List (Str × V)} {H : Hp} {Q : VK} (hc : ClsV c cv) (hk : PySem.W.kitOne K (.ref D) cv = some b) (hd : H dd = some (.xd fs)) (q : Q (.bl b) H) : rIsX K a D dd [.ref a, c] H Q := ⟨c, cv, b, fs, rfl, hc, hk, hd, q⟩

def sp_need (K : PySem.W.Frag) : Sp := fun vs H Q E => ∃ (b : Bool) (n : V), vs = [.bl b, n] ∧ (b = true → Q .non H) ∧ (b = false → ∀ d H', BadH H H' d n → E (.ref (aBV K)) (some d) H')
theorem use_need {K : PySem.W.Frag} {b : Bool} {n : V} {H : Hp} {Q : VK} {E : XK} (q1 : b = true → Q .non H) (q2 : b = false → ∀ d H', BadH H H' d n → E (.ref (aBV K)) (some d) H') : sp_need K [.bl b, n] H Q E := ⟨b, n, rfl, q1, q2⟩

theorem ok_need (T : Tx K mg) : FnOk P w K mg base (L2.CX P w) 3 (He.ga K "need") T.fd_need P_need (sp_need K) := by
  refine T.F_need.ok sc_need (fun vs H Q E h => ?_) (fun cdv A outer s H vs Q E hr h => ⟨_, (pss_one (ps_if (pt_not (pt_val (pv 0))) (pss_one (ps_raise rfl (takes_of rfl rfl rfl rfl) (pmk_oex T.x_BadValue T.i_BadValue T.t_BadValue (ok_BadValue T) hr (b_BadValue T) .nil pass0 rfl T.g_BadValue (pa_cons (pv 1) pa_nil)))) pss_nil)), ?_⟩)
  · obtain ⟨_, _, rfl, _⟩ := h
    rfl
  · obtain ⟨b, n, rfl, q1, q2⟩ := h
    have bad : b = false → tMkO (aBV K) (sp_BadValue K) [] (tCons (tVar 1) tNil) [some (.bl b), some n] H (fun cls d H' => E cls d H') := by
      intro hb
      simp only [tMkO]
      simp only [tSeq, tAsg, tRet, tRetN, tDrop, tNext, tVar, tC, gName, tOp, tUn, rI, rI0, rU, tIfS, tTest, tB, tIf, tAnd, tOr, tNot, tAndV, tOrV, tNotV, tCall, tCons, tNil, tCB, tLst, tTup, tChain, CMul, CDiv, CPow, rEq, rNe, gSub, L2.start, LL.cxK0, LL.cxK1, List.map_cons, List.map_nil, List.length_cons, List.length_nil, List.replicate_succ, List.replicate_zero, List.cons_append, List.nil_append, List.append_nil, List.getElem?_cons_zero, List.getElem?_cons_succ, List.set_cons_zero, List.set_cons_succ, Nat.add_sub_cancel, Nat.reduceAdd, Nat.reduceSub, Option.some.injEq, V.int.injEq, V.bl.injEq, V.ref.injEq, V.str.injEq, List.cons.injEq, and_true, true_and, and_false, false_and, exists_eq_left, exists_eq_left', exists_and_left, exists_and_right, exists_eq, exists_eq', LL.if_dec, reduceCtorEq, exists_false, exists_const, or_false, false_or, if_true, if_false, LL.rInt1, LL.rMx, LL.rMn, and_assoc, Int.reduceNeg, Int.reduceLT, Int.reduceLE, Int.reduceMul, Int.reduceAdd, Int.reduceSub, Int.reducePow, Int.reduceToNat, Nat.reducePow, Nat.reduceLT, true_or, or_true, Bool.not_true, Bool.not_false, Bool.false_eq_true, Bool.or_false, Bool.or_true, Bool.true_or, Bool.false_or, decide_true, decide_false, not_true_eq_false, not_false_eq_true, LL.scal_int, LL.scal_bl, LL.scal_str, LL.isInt, LL.isBl, LL.isStr, LL.isLst, LL.isTup, LL.isDic]
      refine ⟨by decide, fun a na => ?_⟩
      refine ⟨a, n, rfl, upd_same, fun d p1 p2 H' hd hne e1 e2 e3 e4 f1 f2 k => ⟨rfl, d, e1, _, e2, ?_, ?_⟩⟩
      · rw [upd_ne hne] at hd; exact hd
      · have fd : H d = none := by rw [upd_ne hne] at hd; exact hd
        have na1 : p1 ≠ a := fun z => by rw [z, upd_same] at f1; cases f1
        have na2 : p2 ≠ a := fun z => by rw [z, upd_same] at f2; cases f2
        have nd1 : p1 ≠ d := fun z => by rw [z, e2] at e3; exact (show ¬ exd d [("told", V.ref p2), ("parameter", n)] = .tup [n] from exd_tup) (Option.some.inj e3)
        have nd2 : p2 ≠ d := fun z => by rw [z, e2] at e4; exact (show ¬ exd d [("told", V.ref p2), ("parameter", n)] = .tup [.str "BadValue", .ref p1] from exd_tup) (Option.some.inj e4)
        rw [upd_ne na1] at f1
        rw [upd_ne na2] at f2
        refine q2 hb d _ ⟨⟨p1, p2, upd_same, by rw [upd_ne nd1, del_ne na1]; exact e3, by rw [upd_ne nd2, del_ne na2]; exact e4, f1, f2⟩, fun b o e => ?_, fd⟩
        have nba : b ≠ a := ne_of_none e na
        rw [upd_ne (ne_of_none e fd), del_ne nba]
        exact k b o nba (by rw [upd_ne nba]; exact e)
    simp only [tSeq, tAsg, tRet, tRetN, tDrop, tNext, tVar, tC, gName, tOp, tUn, rI, rI0, rU, tIfS, tTest, tB, tIf, tAnd, tOr, tNot, tAndV, tOrV, tNotV, tCall, tCons, tNil, tCB, tLst, tTup, tChain, CMul, CDiv, CPow, rEq, rNe, gSub, L2.start, LL.cxK0, LL.cxK1, List.map_cons, List.map_nil, List.length_cons, List.length_nil, List.replicate_succ, List.replicate_zero, List.cons_append, List.nil_append, List.append_nil, List.getElem?_cons_zero, List.getElem?_cons_succ, List.set_cons_zero, List.set_cons_succ, Nat.add_sub_cancel, Nat.reduceAdd, Nat.reduceSub, Option.some.injEq, V.int.injEq, V.bl.injEq, V.ref.injEq, V.str.injEq, List.cons.injEq, and_true, true_and, and_false, false_and, exists_eq_left, exists_eq_left', exists_and_left, exists_and_right, exists_eq, exists_eq', LL.if_dec, reduceCtorEq, exists_false, exists_const, or_false, false_or, if_true, if_false, LL.rInt1, LL.rMx, LL.rMn, and_assoc, Int.reduceNeg, Int.reduceLT, Int.reduceLE, Int.reduceMul, Int.reduceAdd, Int.reduceSub, Int.reducePow, Int.reduceToNat, Nat.reducePow, Nat.reduceLT, true_or, or_true, Bool.not_true, Bool.not_false, Bool.false_eq_true, Bool.or_false, Bool.or_true, Bool.true_or, Bool.false_or, decide_true, decide_false, not_true_eq_false, not_false_eq_true, LL.scal_int, LL.scal_bl, LL.scal_str, LL.isInt, LL.isBl, LL.isStr, LL.isLst, LL.isTup, LL.isDic, N_need]
    cases b with
    | true =>
      simp only [tSeq, tAsg, tRet, tRetN, tDrop, tNext, tVar, tC, gName, tOp, tUn, rI, rI0, rU, tIfS, tTest, tB, tIf, tAnd, tOr, tNot, tAndV, tOrV, tNotV, tCall, tCons, tNil, tCB, tLst, tTup, tChain, CMul, CDiv, CPow, rEq, rNe, gSub, L2.start, LL.cxK0, LL.cxK1, List.map_cons, List.map_nil, List.length_cons, List.length_nil, List.replicate_succ, List.replicate_zero, List.cons_append, List.nil_append, List.append_nil, List.getElem?_cons_zero, List.getElem?_cons_succ, List.set_cons_zero, List.set_cons_succ, Nat.add_sub_cancel, Nat.reduceAdd, Nat.reduceSub, Option.some.injEq, V.int.injEq, V.bl.injEq, V.ref.injEq, V.str.injEq, List.cons.injEq, and_true, true_and, and_false, false_and, exists_eq_left, exists_eq_left', exists_and_left, exists_and_right, exists_eq, exists_eq', LL.if_dec, reduceCtorEq, exists_false, exists_const, or_false, false_or, if_true, if_false, LL.rInt1, LL.rMx, LL.rMn, and_assoc, Int.reduceNeg, Int.reduceLT, Int.reduceLE, Int.reduceMul, Int.reduceAdd, Int.reduceSub, Int.reducePow, Int.reduceToNat, Nat.reducePow, Nat.reduceLT, true_or, or_true, Bool.not_true, Bool.not_false, Bool.false_eq_true, Bool.or_false, Bool.or_true, Bool.true_or, Bool.false_or, decide_true, decide_false, not_true_eq_false, not_false_eq_true, LL.scal_int, LL.scal_bl, LL.scal_str, LL.isInt, LL.isBl, LL.isStr, LL.isLst, LL.isTup, LL.isDic]
      exact q1 rfl
    | false =>
      simp only [tSeq, tAsg, tRet, tRetN, tDrop, tNext, tVar, tC, gName, tOp, tUn, rI, rI0, rU, tIfS, tTest, tB, tIf, tAnd, tOr, tNot, tAndV, tOrV, tNotV, tCall, tCons, tNil, tCB, tLst, tTup, tChain, CMul, CDiv, CPow, rEq, rNe, gSub, L2.start, LL.cxK0, LL.cxK1, List.map_cons, List.map_nil, List.length_cons, List.length_nil, List.replicate_succ, List.replicate_zero, List.cons_append, List.nil_append, List.append_nil, List.getElem?_cons_zero, List.getElem?_cons_succ, List.set_cons_zero, List.set_cons_succ, Nat.add_sub_cancel, Nat.reduceAdd, Nat.reduceSub, Option.some.injEq, V.int.injEq, V.bl.injEq, V.ref.injEq, V.str.injEq, List.cons.injEq, and_true, true_and, and_false, false_and, exists_eq_left, exists_eq_left', exists_and_left, exists_and_right, exists_eq, exists_eq', LL.if_dec, reduceCtorEq, exists_false, exists_const, or_false, false_or, if_true, if_false, LL.rInt1, LL.rMx, LL.rMn, and_assoc, Int.reduceNeg, Int.reduceLT, Int.reduceLE, Int.reduceMul, Int.reduceAdd, Int.reduceSub, Int.reducePow, Int.reduceToNat, Nat.reducePow, Nat.reduceLT, true_or, or_true, Bool.not_true, Bool.not_false, Bool.false_eq_true, Bool.or_false, Bool.or_true, Bool.true_or, Bool.false_or, decide_true, decide_false, not_true_eq_false, not_false_eq_true, LL.scal_int, LL.scal_bl, LL.scal_str, LL.isInt, LL.isBl, LL.isStr, LL.isLst, LL.isTup, LL.isDic]
      exact bad rfl
theorem itei {p : Prop} [Decidable p] {A B : Prop} (h1 : p → A) (h2 : ¬p → B) : if p then A else B := by
  by_cases h : p
  · rw [if_pos h]; exact h1 h
  · rw [if_neg h]; exact h2 h
def powB : LL.T → Bool
  | .int i => isP i
  | _ => false
def alB (m : Int) : LL.T → Bool
  | .int i => isP i && decide (i ≤ m)
  | _ => false
def sp_is_power : Sp := fun vs H Q _ => ∃ (F : Addr → Prop) (v : V) (t : LL.T), vs = [v] ∧ Dt F H v t ∧ Q (.bl (powB t)) H
theorem use_power_q {F : Addr → Prop} {v : V} {t : LL.T} {H : Hp} {Q : VK} {E : XK} (h : Dt F H v t) (q : Q (.bl (powB t)) H) : sp_is_power [v] H Q E := ⟨F, v, t, rfl, h, q⟩
def sp_need_align (K : PySem.W.Frag) : Sp := fun vs H Q E => ∃ (F : Addr → Prop) (v : V) (t : LL.T) (m : Int) (n : V), vs = [v, .int m, n] ∧ Dt F H v t ∧ (alB m t = true → Q .non H) ∧ (alB m t = false → ∀ d H', BadH H H' d n → E (.ref (aBV K)) (some d) H')

theorem ok_is_power (T : Tx K mg) : FnOk P w K mg base CX0 2 (He.ga K "is_power") T.fd_is_power P_is_power sp_is_power := by
  refine T.F_is_power.ok sc_is_power (fun vs H Q E h => ?_) (fun cdv A outer s H vs Q E hr h => ⟨_, PSs.nox (pss_one (ps_ret ((pe_and (pe_call (ok_is_whole T) hr rfl T.g_is_whole T.F_is_whole.kp (b_is_whole T) .nil pass0 (pa_cons (pv 0) pa_nil)) (pe_and (pe_cmpR op_ge (pv 0) (pe_int) (nomark _)) (pe_one (pe_cmpR op_eq (pe_op op_and (pv 0) (pe_op op_sub (pv 0) (pe_int))) (pe_int) (nomark _)))))))), ?_⟩)
  · obtain ⟨_, _, _, rfl, _⟩ := h
    rfl
  · obtain ⟨F, v, t, rfl, hd, q⟩ := h
    simp only [tSeq, tAsg, tRet, tRetN, tDrop, tNext, tVar, tC, gName, tOp, tUn, rI, rI0, rU, tIfS, tTest, tB, tIf, tAnd, tOr, tNot, tAndV, tOrV, tNotV, tCall, tCons, tNil, tCB, tLst, tTup, tChain, CMul, CDiv, CPow, rEq, rNe, gSub, L2.start, LL.cxK0, LL.cxK1, List.map_cons, List.map_nil, List.length_cons, List.length_nil, List.replicate_succ, List.replicate_zero, List.cons_append, List.nil_append, List.append_nil, List.getElem?_cons_zero, List.getElem?_cons_succ, List.set_cons_zero, List.set_cons_succ, Nat.add_sub_cancel, Nat.reduceAdd, Nat.reduceSub, Option.some.injEq, V.int.injEq, V.bl.injEq, V.ref.injEq, V.str.injEq, List.cons.injEq, and_true, true_and, and_false, false_and, exists_eq_left, exists_eq_left', exists_and_left, exists_and_right, exists_eq, exists_eq', LL.if_dec, reduceCtorEq, exists_false, exists_const, or_false, false_or, if_true, if_false, LL.rInt1, LL.rMx, LL.rMn, and_assoc, Int.reduceNeg, Int.reduceLT, Int.reduceLE, Int.reduceMul, Int.reduceAdd, Int.reduceSub, Int.reducePow, Int.reduceToNat, Nat.reducePow, Nat.reduceLT, true_or, or_true, Bool.not_true, Bool.not_false, Bool.false_eq_true, Bool.or_false, Bool.or_true, Bool.true_or, Bool.false_or, decide_true, decide_false, not_true_eq_false, not_false_eq_true, LL.scal_int, LL.scal_bl, LL.scal_str, LL.isInt, LL.isBl, LL.isStr, LL.isLst, LL.isTup, LL.isDic, N_is_power]
    refine use_isint hd ?_
    cases t with
    | int i =>
      obtain rfl : v = V.int i := hd
      simp only [tSeq, tAsg, tRet, tRetN, tDrop, tNext, tVar, tC, gName, tOp, tUn, rI, rI0, rU, tIfS, tTest, tB, tIf, tAnd, tOr, tNot, tAndV, tOrV, tNotV, tCall, tCons, tNil, tCB, tLst, tTup, tChain, CMul, CDiv, CPow, rEq, rNe, gSub, L2.start, LL.cxK0, LL.cxK1, List.map_cons, List.map_nil, List.length_cons, List.length_nil, List.replicate_succ, List.replicate_zero, List.cons_append, List.nil_append, List.append_nil, List.getElem?_cons_zero, List.getElem?_cons_succ, List.set_cons_zero, List.set_cons_succ, Nat.add_sub_cancel, Nat.reduceAdd, Nat.reduceSub, Option.some.injEq, V.int.injEq, V.bl.injEq, V.ref.injEq, V.str.injEq, List.cons.injEq, and_true, true_and, and_false, false_and, exists_eq_left, exists_eq_left', exists_and_left, exists_and_right, exists_eq, exists_eq', LL.if_dec, reduceCtorEq, exists_false, exists_const, or_false, false_or, if_true, if_false, LL.rInt1, LL.rMx, LL.rMn, and_assoc, Int.reduceNeg, Int.reduceLT, Int.reduceLE, Int.reduceMul, Int.reduceAdd, Int.reduceSub, Int.reducePow, Int.reduceToNat, Nat.reducePow, Nat.reduceLT, true_or, or_true, Bool.not_true, Bool.not_false, Bool.false_eq_true, Bool.or_false, Bool.or_true, Bool.true_or, Bool.false_or, decide_true, decide_false, not_true_eq_false, not_false_eq_true, LL.scal_int, LL.scal_bl, LL.scal_str, LL.isInt, LL.isBl, LL.isStr, LL.isLst, LL.isTup, LL.isDic]
      refine itei (fun h => ?_) (fun h => ?_)
      · rw [show powB (.int i) = decide (Builtin.bitAnd i (i - 1) = 0) by show isP i = _; unfold isP; rw [decide_eq_true h, Bool.true_and]] at q
        first | exact q | exact ⟨scal_int.mpr trivial, q⟩
      · rw [show powB (.int i) = false by show isP i = _; unfold isP; rw [decide_eq_false h, Bool.false_and]] at q
        exact q
    | _ =>
      simp only [tSeq, tAsg, tRet, tRetN, tDrop, tNext, tVar, tC, gName, tOp, tUn, rI, rI0, rU, tIfS, tTest, tB, tIf, tAnd, tOr, tNot, tAndV, tOrV, tNotV, tCall, tCons, tNil, tCB, tLst, tTup, tChain, CMul, CDiv, CPow, rEq, rNe, gSub, L2.start, LL.cxK0, LL.cxK1, List.map_cons, List.map_nil, List.length_cons, List.length_nil, List.replicate_succ, List.replicate_zero, List.cons_append, List.nil_append, List.append_nil, List.getElem?_cons_zero, List.getElem?_cons_succ, List.set_cons_zero, List.set_cons_succ, Nat.add_sub_cancel, Nat.reduceAdd, Nat.reduceSub, Option.some.injEq, V.int.injEq, V.bl.injEq, V.ref.injEq, V.str.injEq, List.cons.injEq, and_true, true_and, and_false, false_and, exists_eq_left, exists_eq_left', exists_and_left, exists_and_right, exists_eq, exists_eq', LL.if_dec, reduceCtorEq, exists_false, exists_const, or_false, false_or, if_true, if_false, LL.rInt1, LL.rMx, LL.rMn, and_assoc, Int.reduceNeg, Int.reduceLT, Int.reduceLE, Int.reduceMul, Int.reduceAdd, Int.reduceSub, Int.reducePow, Int.reduceToNat, Nat.reducePow, Nat.reduceLT, true_or, or_true, Bool.not_true, Bool.not_false, Bool.false_eq_true, Bool.or_false, Bool.or_true, Bool.true_or, Bool.false_or, decide_true, decide_false, not_true_eq_false, not_false_eq_true, LL.scal_int, LL.scal_bl, LL.scal_str, LL.isInt, LL.isBl, LL.isStr, LL.isLst, LL.isTup, LL.isDic]
      exact q
theorem ok_need_align (T : Tx K mg) : FnOk P w K mg base (L2.CX P w) 4 (He.ga K "need_align") T.fd_need_align P_need_align (sp_need_align K) := by
  refine T.F_need_align.ok sc_need_align (fun vs H Q E h => ?_) (fun cdv A outer s H vs Q E hr h => ⟨_, (pss_one (ps_expr (pe_call (ok_need T) hr rfl T.g_need T.F_need.kp (b_need T) .nil (passR (takes_of rfl rfl rfl rfl) (fun _ _ _ _ h => h)) (pa_cons ((pe_and (pe_call (ok_is_power T) (hr.mono (by decide)) rfl T.g_is_power T.F_is_power.kp (b_is_power T) .nil pass0 (pa_cons (pv 0) pa_nil)) (pe_one (pe_cmpR op_le (pv 0) (pv 1) (nomark _))))) (pa_cons (pv 2) pa_nil))))), ?_⟩)
  · obtain ⟨_, _, _, _, _, rfl, _⟩ := h
    rfl
  · obtain ⟨F, v, t, m, n, rfl, hd, q1, q2⟩ := h
    simp only [tSeq, tAsg, tRet, tRetN, tDrop, tNext, tVar, tC, gName, tOp, tUn, rI, rI0, rU, tIfS, tTest, tB, tIf, tAnd, tOr, tNot, tAndV, tOrV, tNotV, tCall, tCons, tNil, tCB, tLst, tTup, tChain, CMul, CDiv, CPow, rEq, rNe, gSub, L2.start, LL.cxK0, LL.cxK1, List.map_cons, List.map_nil, List.length_cons, List.length_nil, List.replicate_succ, List.replicate_zero, List.cons_append, List.nil_append, List.append_nil, List.getElem?_cons_zero, List.getElem?_cons_succ, List.set_cons_zero, List.set_cons_succ, Nat.add_sub_cancel, Nat.reduceAdd, Nat.reduceSub, Option.some.injEq, V.int.injEq, V.bl.injEq, V.ref.injEq, V.str.injEq, List.cons.injEq, and_true, true_and, and_false, false_and, exists_eq_left, exists_eq_left', exists_and_left, exists_and_right, exists_eq, exists_eq', LL.if_dec, reduceCtorEq, exists_false, exists_const, or_false, false_or, if_true, if_false, LL.rInt1, LL.rMx, LL.rMn, and_assoc, Int.reduceNeg, Int.reduceLT, Int.reduceLE, Int.reduceMul, Int.reduceAdd, Int.reduceSub, Int.reducePow, Int.reduceToNat, Nat.reducePow, Nat.reduceLT, true_or, or_true, Bool.not_true, Bool.not_false, Bool.false_eq_true, Bool.or_false, Bool.or_true, Bool.true_or, Bool.false_or, decide_true, decide_false, not_true_eq_false, not_false_eq_true, LL.scal_int, LL.scal_bl, LL.scal_str, LL.isInt, LL.isBl, LL.isStr, LL.isLst, LL.isTup, LL.isDic, N_need_align]
    refine use_power_q hd ⟨_, rfl, itei (fun h => ?_) (fun h => ?_)⟩
    · cases t with
      | int i =>
        obtain rfl : v = V.int i := hd
        refine ⟨_, rfl, ?_⟩
        have e : alB m (.int i) = decide (i ≤ m) := by
          show (isP i && _) = _
          rw [show isP i = true from h, Bool.true_and]
        rw [e] at q1 q2
        exact use_need q1 q2
      | _ => cases h
    · have e : alB m t = false := by
        cases t with
        | int i =>
          show (isP i && _) = false
          rw [show isP i = false by cases hh : isP i; rfl; exact absurd hh h, Bool.false_and]
        | _ => rfl
      exact use_need (fun z => by cases z) (fun _ => q2 e)
def sp_align_down (K : PySem.W.Frag) : Sp := fun vs H Q E => ∃ (F G : Addr → Prop) (v x : V) (t u : LL.T), vs = [v, x] ∧ Dt F H v t ∧ Dt G H x u ∧
  (¬ InR 0 1000000000 t → ∀ d H', BadH H H' d (.str "number") → E (.ref (aBV K)) (some d) H') ∧ (InR 0 1000000000 t → alB 1073741824 u = false → ∀ d H', BadH H H' d (.str "align") → E (.ref (aBV K)) (some d) H') ∧
  (∀ i a, t = .int i → u = .int a → InR 0 1000000000 t → alB 1073741824 u = true → Q (.int (i - i % a)) H)
def sp_align_up (K : PySem.W.Frag) : Sp := fun vs H Q E => ∃ (F G : Addr → Prop) (v x : V) (t u : LL.T), vs = [v, x] ∧ Dt F H v t ∧ Dt G H x u ∧
  (¬ InR 0 1000000000 t → ∀ d H', BadH H H' d (.str "number") → E (.ref (aBV K)) (some d) H') ∧ (InR 0 1000000000 t → alB 1073741824 u = false → ∀ d H', BadH H H' d (.str "align") → E (.ref (aBV K)) (some d) H') ∧
  (∀ i a, t = .int i → u = .int a → InR 0 1000000000 t → alB 1073741824 u = true → Q (.int (i + (-i) % a)) H)
def sp_order_of (K : PySem.W.Frag) : Sp := fun vs H Q E => ∃ (F : Addr → Prop) (v : V) (t : LL.T), vs = [v] ∧ Dt F H v t ∧
  (¬ InR 1 1000000000 t → ∀ d H', BadH H H' d (.str "count") → E (.ref (aBV K)) (some d) H') ∧ (∀ c, t = .int c → InR 1 1000000000 t → Q (.int (Builtin.Int.intBits (c - 1) : Nat)) H)
def sp_power_in (K : PySem.W.Frag) : Sp := fun vs H Q E => ∃ (F : Addr → Prop) (v : V) (t : LL.T), vs = [v] ∧ Dt F H v t ∧
  (¬ InR 1 1000000000 t → ∀ d H', BadH H H' d (.str "number") → E (.ref (aBV K)) (some d) H') ∧ (∀ c, t = .int c → InR 1 1000000000 t → Q (.int (Builtin.bitAnd c (-c))) H)
theorem al_pos {u : LL.T} {m : Int} (h : alB m u = true) : ∃ k : Nat, u = .int (2 ^ k) ∧ (2 : Int) ^ k ≤ m ∧ (0 : Int) < 2 ^ k := by
  cases u with
  | int i =>
    obtain ⟨h1, h2⟩ := Bool.and_eq_true_iff.mp h
    obtain ⟨k, rfl⟩ := isP_of h1
    exact ⟨k, rfl, of_decide_eq_true h2, Int.pow_pos (by decide)⟩
  | _ => cases h
theorem inr_int {lo hi : Int} {t : LL.T} (h : InR lo hi t) : ∃ i, t = .int i ∧ lo ≤ i ∧ i ≤ hi := by
  cases t with
  | int i => exact ⟨i, rfl, h⟩
  | _ => exact h.elim

theorem ok_power_in (T : Tx K mg) : FnOk P w K mg base (L2.CX P w) 4 (He.ga K "power_in") T.fd_power_in P_power_in (sp_power_in K) := by
  refine T.F_power_in.ok sc_power_in (fun vs H Q E h => ?_) (fun cdv A outer s H vs Q E hr h => ⟨_, (pss_cons (ps_expr (pe_call (ok_need_whole T) hr rfl T.g_need_whole T.F_need_whole.kp (b_need_whole T) .nil (passR (takes_of rfl rfl rfl rfl) (fun _ _ _ _ h => h)) (pa_cons (pv 0) (pa_cons (pe_int) (pa_cons (pe_glob (v := .int 1000000000) rfl T.c_MOST_PLACE.choose_spec ⟨_, rfl⟩) (pa_cons (pe_str) pa_nil)))))) (pss_one (ps_ret (pe_op op_and (pv 0) (pe_un un_neg (pv 0)))))), ?_⟩)
  · obtain ⟨_, _, _, rfl, _⟩ := h
    rfl
  · obtain ⟨F, v, t, rfl, h1, q1, q2⟩ := h
    simp only [tSeq, tAsg, tRet, tRetN, tDrop, tNext, tVar, tC, gName, tOp, tUn, rI, rI0, rU, tIfS, tTest, tB, tIf, tAnd, tOr, tNot, tAndV, tOrV, tNotV, tCall, tCons, tNil, tCB, tLst, tTup, tChain, CMul, CDiv, CPow, rEq, rNe, gSub, L2.start, LL.cxK0, LL.cxK1, List.map_cons, List.map_nil, List.length_cons, List.length_nil, List.replicate_succ, List.replicate_zero, List.cons_append, List.nil_append, List.append_nil, List.getElem?_cons_zero, List.getElem?_cons_succ, List.set_cons_zero, List.set_cons_succ, Nat.add_sub_cancel, Nat.reduceAdd, Nat.reduceSub, Option.some.injEq, V.int.injEq, V.bl.injEq, V.ref.injEq, V.str.injEq, List.cons.injEq, and_true, true_and, and_false, false_and, exists_eq_left, exists_eq_left', exists_and_left, exists_and_right, exists_eq, exists_eq', LL.if_dec, reduceCtorEq, exists_false, exists_const, or_false, false_or, if_true, if_false, LL.rInt1, LL.rMx, LL.rMn, and_assoc, Int.reduceNeg, Int.reduceLT, Int.reduceLE, Int.reduceMul, Int.reduceAdd, Int.reduceSub, Int.reducePow, Int.reduceToNat, Nat.reducePow, Nat.reduceLT, true_or, or_true, Bool.not_true, Bool.not_false, Bool.false_eq_true, Bool.or_false, Bool.or_true, Bool.true_or, Bool.false_or, decide_true, decide_false, not_true_eq_false, not_false_eq_true, LL.scal_int, LL.scal_bl, LL.scal_str, LL.isInt, LL.isBl, LL.isStr, LL.isLst, LL.isTup, LL.isDic, N_power_in]
    refine ⟨F, v, .str "number", t, 1, 1000000000, rfl, h1, fun r1 => ?_, q1⟩
    obtain ⟨i, rfl, i0, i1⟩ := inr_int r1
    obtain rfl : v = V.int i := h1
    exact ⟨_, rfl, _, rfl, q2 _ rfl r1⟩
end K26

namespace K26
open PySem PySem.Spec PyProof.Rows L2 LL
variable {P : Program} {w : World} {K : PySem.W.Frag} {mg : Str → Option Value} {base : Heap}

def sp_law_among (K : PySem.W.Frag) : Sp := fun vs H Q _ => ∃ (d s p : Addr) (xs : List V), vs = [.ref d, .ref p] ∧ Drw d s H ∧ p ≠ s ∧ H p = some (.lst xs) ∧ 0 < xs.length ∧ xs.length ≤ 100000 ∧ ∀ x ∈ xs, ∀ H', Aft d s H H' → Drw d s H' → Q x H'
theorem use_among {K : PySem.W.Frag} {d s p : Addr} {xs : List V} {H : Hp} {Q : VK} {E : XK} (D : Drw d s H) (hp : p ≠ s) (ep : H p = some (.lst xs)) (h0 : 0 < xs.length) (h1 : xs.length ≤ 100000) (q : ∀ x ∈ xs, ∀ H', Aft d s H H' → Drw d s H' → Q x H') : sp_law_among K [.ref d, .ref p] H Q E := ⟨d, s, p, xs, rfl, D, hp, ep, h0, h1, q⟩

theorem ok_law_among (T : Tx K mg) : FnOk P w K mg base CX0 3 (He.ga K "_law_among") T.fd_law_among P_law_among (sp_law_among K) := by
  refine T.F_law_among.ok sc_law_among (fun vs H Q E h => ?_) (fun cdv A outer s H vs Q E hr h => ⟨_, PSs.nox (pss_one (ps_ret (pe_ix (show IxR _ (rIxL K) from ix_list) (pv 1) (pe_call (ok_law_take T) hr rfl T.g_law_take T.F_law_take.kp (b_law_take T) .nil pass0 (pa_cons (pv 0) (pa_cons (pe_callB LL.call_lenL (by rfl) T.z_len (by decide +kernel) (pa_cons (pv 1) pa_nil)) pa_nil))) (fun _ _ => rfl)))), ?_⟩)
  · obtain ⟨_, _, _, _, rfl, _⟩ := h
    rfl
  · obtain ⟨d, s, p, xs, rfl, D, ps, ep, h0, h1, q⟩ := h
    simp only [tSeq, tAsg, tRet, tRetN, tDrop, tNext, tVar, tC, gName, tOp, tUn, rI, rI0, rU, tIfS, tTest, tB, tIf, tAnd, tOr, tNot, tAndV, tOrV, tNotV, tCall, tCons, tNil, tCB, tLst, tTup, tChain, CMul, CDiv, CPow, rEq, rNe, gSub, L2.start, LL.cxK0, LL.cxK1, List.map_cons, List.map_nil, List.length_cons, List.length_nil, List.replicate_succ, List.replicate_zero, List.cons_append, List.nil_append, List.append_nil, List.getElem?_cons_zero, List.getElem?_cons_succ, List.set_cons_zero, List.set_cons_succ, Nat.add_sub_cancel, Nat.reduceAdd, Nat.reduceSub, Option.some.injEq, V.int.injEq, V.bl.injEq, V.ref.injEq, V.str.injEq, List.cons.injEq, and_true, true_and, and_false, false_and, exists_eq_left, exists_eq_left', exists_and_left, exists_and_right, exists_eq, exists_eq', LL.if_dec, reduceCtorEq, exists_false, exists_const, or_false, false_or, if_true, if_false, LL.rInt1, LL.rMx, LL.rMn, and_assoc, Int.reduceNeg, Int.reduceLT, Int.reduceLE, Int.reduceMul, Int.reduceAdd, Int.reduceSub, Int.reducePow, Int.reduceToNat, Nat.reducePow, Nat.reduceLT, true_or, or_true, Bool.not_true, Bool.not_false, Bool.false_eq_true, Bool.or_false, Bool.or_true, Bool.true_or, Bool.false_or, decide_true, decide_false, not_true_eq_false, not_false_eq_true, LL.scal_int, LL.scal_bl, LL.scal_str, LL.isInt, LL.isBl, LL.isStr, LL.isLst, LL.isTup, LL.isDic, N_law_among]
    refine use_lenL ep (use_take D (big_of (by omega) (by omega)) fun v H' a D0 v0 v1 => ?_)
    exact use_pick (a.kp _ _ ps ep) v0 (by omega) fun x hx => q x hx _ a D0
theorem al_big {i m : Int} (h : m < i) : alB m (.int i) = false := by
  show (isP i && decide (i ≤ m)) = false
  rw [decide_eq_false (by omega), Bool.and_false]
theorem al_low {i m : Int} (h : i < 1) : alB m (.int i) = false := by
  show (isP i && decide (i ≤ m)) = false
  unfold isP
  rw [decide_eq_false (show ¬ 1 ≤ i by omega), Bool.false_and, Bool.false_and]
theorem al_no {i m : Int} (h : isP i = false) : alB m (.int i) = false := by
  show (isP i && decide (i ≤ m)) = false
  rw [h, Bool.false_and]
theorem big_long' : (2 : Int) ^ 40 < 10 ^ 999 := by
  have e : (10 : Int) ^ 999 = ((10 ^ 999 : Nat) : Int) := (Int.natCast_pow 10 999).symm
  rw [e]
  exact Int.ofNat_lt.mpr (by decide +kernel)
def sp_law_not_alignment : Sp := fun vs H Q _ => ∃ (d s : Addr) (M : Int), vs = [.ref d, .int M] ∧ Drw d s H ∧ 1 ≤ M ∧ M ≤ 2 ^ 40 ∧ ∀ v t H', Aft d s H H' → Drw d s H' → Dt (fun a => H a = none) H' v t → dep t ≤ 1 → noDic t = true ∨ LL.isInt t = false → alB M t = false → Q v H'
theorem use_not_alignment {d s : Addr} {M : Int} {H : Hp} {Q : VK} {E : XK} (D : Drw d s H) (h0 : 1 ≤ M) (h1 : M ≤ 2 ^ 40) (q : ∀ v t H', Aft d s H H' → Drw d s H' → Dt (fun a => H a = none) H' v t → dep t ≤ 1 → alB M t = false → Q v H') : sp_law_not_alignment [.ref d, .int M] H Q E := ⟨d, s, M, rfl, D, h0, h1, fun v t H' a D' hv hd _ hal => q v t H' a D' hv hd hal⟩

theorem ok_law_not_alignment (T : Tx K mg) : FnOk P w K mg base CX0 4 (He.ga K "_law_not_alignment") T.fd_law_not_alignment P_law_not_alignment sp_law_not_alignment := by
  refine T.F_law_not_alignment.ok sc_law_not_alignment (fun vs H Q E h => ?_) (fun cdv A outer s H vs Q E hr h => ⟨_, PSs.nox (pss_cons (ps_set (i := 2) sc_law_not_alignment.nd rfl (Or.inl rfl) (pe_call (ok_law_take T) (hr.mono (by decide)) rfl T.g_law_take T.F_law_take.kp (b_law_take T) .nil pass0 (pa_cons (pv 0) (pa_cons (pe_int) pa_nil)))) (pss_cons (ps_if (pt_cmpR op_lt (pv 2) (pe_int) (nomark _)) (pss_one (ps_ret (pe_ix (show IxR _ (rIxL K) from ix_list) (pe_lst (pa_cons (pe_int) (pa_cons (pe_un un_neg (pe_int)) (pa_cons (pe_un un_neg (pe_int)) (pa_cons (pe_int) (pa_cons (pe_op op_add (pv 1) (pv 1)) (pa_cons (pe_op op_add (pe_op op_add (pv 1) (pv 1)) (pe_int)) pa_nil))))))) (pv 2) (fun _ _ => rfl)))) pss_nil) (pss_cons (ps_if (pt_cmpR op_eq (pv 2) (pe_int) (nomark _)) (pss_one (ps_ret (pe_call (ok_law_among T) hr rfl T.g_law_among T.F_law_among.kp (b_law_among T) .nil pass0 (pa_cons (pv 0) (pa_cons (pe_lst (pa_cons (pe_int) (pa_cons (pe_int) (pa_cons (pe_op op_pow (pe_int) (pe_int)) (pa_cons (pe_call0 (ok_law_long T) (hr.mono (by decide)) rfl T.g_law_long T.F_law_long.kp (b_law_long T) .nil pass0) (pa_cons (pe_un un_neg (pv 1)) (pa_cons (pe_op op_mul (pv 1) (pe_int)) pa_nil))))))) pa_nil))))) pss_nil) (pss_one (ps_ret (pe_call (ok_law_not_integer T) hr rfl T.g_law_not_integer T.F_law_not_integer.kp (b_law_not_integer T) .nil pass0 (pa_cons (pv 0) pa_nil))))))), ?_⟩)
  · obtain ⟨_, _, _, rfl, _⟩ := h
    rfl
  · obtain ⟨d, s, M, rfl, D, M0, M1, q⟩ := h
    simp only [tSeq, tAsg, tRet, tRetN, tDrop, tNext, tVar, tC, gName, tOp, tUn, rI, rI0, rU, tIfS, tTest, tB, tIf, tAnd, tOr, tNot, tAndV, tOrV, tNotV, tCall, tCons, tNil, tCB, tLst, tTup, tChain, CMul, CDiv, CPow, rEq, rNe, gSub, L2.start, LL.cxK0, LL.cxK1, List.map_cons, List.map_nil, List.length_cons, List.length_nil, List.replicate_succ, List.replicate_zero, List.cons_append, List.nil_append, List.append_nil, List.getElem?_cons_zero, List.getElem?_cons_succ, List.set_cons_zero, List.set_cons_succ, Nat.add_sub_cancel, Nat.reduceAdd, Nat.reduceSub, Option.some.injEq, V.int.injEq, V.bl.injEq, V.ref.injEq, V.str.injEq, List.cons.injEq, and_true, true_and, and_false, false_and, exists_eq_left, exists_eq_left', exists_and_left, exists_and_right, exists_eq, exists_eq', LL.if_dec, reduceCtorEq, exists_false, exists_const, or_false, false_or, if_true, if_false, LL.rInt1, LL.rMx, LL.rMn, and_assoc, Int.reduceNeg, Int.reduceLT, Int.reduceLE, Int.reduceMul, Int.reduceAdd, Int.reduceSub, Int.reducePow, Int.reduceToNat, Nat.reducePow, Nat.reduceLT, true_or, or_true, Bool.not_true, Bool.not_false, Bool.false_eq_true, Bool.or_false, Bool.or_true, Bool.true_or, Bool.false_or, decide_true, decide_false, not_true_eq_false, not_false_eq_true, LL.scal_int, LL.scal_bl, LL.scal_str, LL.isInt, LL.isBl, LL.isStr, LL.isLst, LL.isTup, LL.isDic, N_law_not_alignment]
    have M2 : M ≤ 1099511627776 := M1
    refine use_take D (by decide +kernel) fun v H1 a1 D1 v0 v1 => ?_
    simp only [tSeq, tAsg, tRet, tRetN, tDrop, tNext, tVar, tC, gName, tOp, tUn, rI, rI0, rU, tIfS, tTest, tB, tIf, tAnd, tOr, tNot, tAndV, tOrV, tNotV, tCall, tCons, tNil, tCB, tLst, tTup, tChain, CMul, CDiv, CPow, rEq, rNe, gSub, L2.start, LL.cxK0, LL.cxK1, List.map_cons, List.map_nil, List.length_cons, List.length_nil, List.replicate_succ, List.replicate_zero, List.cons_append, List.nil_append, List.append_nil, List.getElem?_cons_zero, List.getElem?_cons_succ, List.set_cons_zero, List.set_cons_succ, Nat.add_sub_cancel, Nat.reduceAdd, Nat.reduceSub, Option.some.injEq, V.int.injEq, V.bl.injEq, V.ref.injEq, V.str.injEq, List.cons.injEq, and_true, true_and, and_false, false_and, exists_eq_left, exists_eq_left', exists_and_left, exists_and_right, exists_eq, exists_eq', LL.if_dec, reduceCtorEq, exists_false, exists_const, or_false, false_or, if_true, if_false, LL.rInt1, LL.rMx, LL.rMn, and_assoc, Int.reduceNeg, Int.reduceLT, Int.reduceLE, Int.reduceMul, Int.reduceAdd, Int.reduceSub, Int.reducePow, Int.reduceToNat, Nat.reducePow, Nat.reduceLT, true_or, or_true, Bool.not_true, Bool.not_false, Bool.false_eq_true, Bool.or_false, Bool.or_true, Bool.true_or, Bool.false_or, decide_true, decide_false, not_true_eq_false, not_false_eq_true, LL.scal_int, LL.scal_bl, LL.scal_str, LL.isInt, LL.isBl, LL.isStr, LL.isLst, LL.isTup, LL.isDic]
    refine itei (fun h => ?_) (fun h => itei (fun h2 => ?_) (fun h2 => ?_))
    · refine ⟨by decide, ?_⟩
      intro p np
      generalize hq : upd H1 p _ = H2
      have sH2 : Same H1 H2 := hq ▸ Same.new (Same.refl _) np
      have ep := hq ▸ (upd_same (H := H1) (a := p))
      clear hq
      have A2 : Aft d s H H2 := a1.trans ⟨.same sH2, D1.same sH2⟩
      refine use_pick ep v0 (by simp only [List.length_cons, List.length_nil]; omega) fun x hx => ?_
      simp only [List.mem_cons, List.not_mem_nil, or_false] at hx
      rcases hx with rfl | rfl | rfl | rfl | rfl | rfl
      all_goals refine q _ (.int _) _ A2 A2.dr rfl (by simp [dep]) (.inl rfl) ?_
      · exact al_low (by decide)
      · exact al_low (by decide)
      · exact al_low (by decide)
      · exact al_no (by decide +kernel)
      · exact al_big (by omega)
      · exact al_big (by omega)
    · refine ⟨by decide, rfl, by decide, ?_⟩
      intro p np
      generalize hq : upd H1 p _ = H2
      have sH2 : Same H1 H2 := hq ▸ Same.new (Same.refl _) np
      have ep := hq ▸ (upd_same (H := H1) (a := p))
      clear hq
      have A2 : Aft d s H H2 := a1.trans ⟨.same sH2, D1.same sH2⟩
      refine ⟨d, s, p, _, rfl, A2.dr, D1.ne _ np, ep, by simp, by simp, fun x hx H3 A3 D3 => ?_⟩
      simp only [List.mem_cons, List.not_mem_nil, or_false] at hx
      rcases hx with rfl | rfl | rfl | rfl | rfl | rfl
      all_goals refine q _ (.int _) _ (A2.trans A3) D3 rfl (by simp [dep]) (.inl rfl) ?_
      · exact al_no (by decide +kernel)
      · exact al_no (by decide +kernel)
      · exact al_big (by omega)
      · exact al_big (Int.lt_of_le_of_lt M1 big_long')
      · exact al_low (by omega)
      · exact al_big (by omega)
    · exact ⟨d, s, rfl, D1, fun v t H2 a2 D2 hv hd hi => q v t H2 (a1.trans a2) D2 (hv.to fun z hz => a1.free hz) hd (.inr hi) (by cases t <;> first | rfl | cases hi)⟩
end K26

namespace K26
open PySem PySem.Spec PyProof.Rows L2 LL
variable {P : Program} {w : World} {K : PySem.W.Frag} {mg : Str → Option Value} {base : Heap}

def widB : LL.T → Bool
  | .int i => decide (i = 16 ∨ i = 32 ∨ i = 64)
  | _ => false
def sp_is_width : Sp := fun vs H Q _ => ∃ (F : Addr → Prop) (v : V) (t : LL.T), vs = [v] ∧ Dt F H v t ∧ Q (.bl (widB t)) H
theorem wid_of {t : LL.T} (h : widB t = true) : ∃ i, t = .int i ∧ (i = 16 ∨ i = 32 ∨ i = 64) := by
  cases t with
  | int i => exact ⟨i, rfl, of_decide_eq_true h⟩
  | _ => cases h

theorem ok_is_width (T : Tx K mg) : FnOk P w K mg base CX0 2 (He.ga K "is_width") T.fd_is_width P_is_width sp_is_width := by
  refine T.F_is_width.ok sc_is_width (fun vs H Q E h => ?_) (fun cdv A outer s H vs Q E hr h => ⟨_, PSs.nox (pss_one (ps_ret ((pe_and (pe_call (ok_is_whole T) hr rfl T.g_is_whole T.F_is_whole.kp (b_is_whole T) .nil pass0 (pa_cons (pv 0) pa_nil)) (pe_one (pe_cmpR op_in_seq (pv 0) (pe_glob (v := .ref (He.ga K "WIDTHS")) (u := .ref (He.ga K "WIDTHS")) rfl T.g_WIDTHS rfl) (by rfl))))))), ?_⟩)
  · obtain ⟨_, _, _, rfl, _⟩ := h
    rfl
  · obtain ⟨F, v, t, rfl, hd, q⟩ := h
    simp only [tSeq, tAsg, tRet, tRetN, tDrop, tNext, tVar, tC, gName, tOp, tUn, rI, rI0, rU, tIfS, tTest, tB, tIf, tAnd, tOr, tNot, tAndV, tOrV, tNotV, tCall, tCons, tNil, tCB, tLst, tTup, tChain, CMul, CDiv, CPow, rEq, rNe, gSub, L2.start, LL.cxK0, LL.cxK1, List.map_cons, List.map_nil, List.length_cons, List.length_nil, List.replicate_succ, List.replicate_zero, List.cons_append, List.nil_append, List.append_nil, List.getElem?_cons_zero, List.getElem?_cons_succ, List.set_cons_zero, List.set_cons_succ, Nat.add_sub_cancel, Nat.reduceAdd, Nat.reduceSub, Option.some.injEq, V.int.injEq, V.bl.injEq, V.ref.injEq, V.str.injEq, List.cons.injEq, and_true, true_and, and_false, false_and, exists_eq_left, exists_eq_left', exists_and_left, exists_and_right, exists_eq, exists_eq', LL.if_dec, reduceCtorEq, exists_false, exists_const, or_false, false_or, if_true, if_false, LL.rInt1, LL.rMx, LL.rMn, and_assoc, Int.reduceNeg, Int.reduceLT, Int.reduceLE, Int.reduceMul, Int.reduceAdd, Int.reduceSub, Int.reducePow, Int.reduceToNat, Nat.reducePow, Nat.reduceLT, true_or, or_true, Bool.not_true, Bool.not_false, Bool.false_eq_true, Bool.or_false, Bool.or_true, Bool.true_or, Bool.false_or, decide_true, decide_false, not_true_eq_false, not_false_eq_true, LL.scal_int, LL.scal_bl, LL.scal_str, LL.isInt, LL.isBl, LL.isStr, LL.isLst, LL.isTup, LL.isDic, N_is_width]
    refine use_isint hd ?_
    cases t with
    | int i =>
      obtain rfl : v = V.int i := hd
      simp only [tSeq, tAsg, tRet, tRetN, tDrop, tNext, tVar, tC, gName, tOp, tUn, rI, rI0, rU, tIfS, tTest, tB, tIf, tAnd, tOr, tNot, tAndV, tOrV, tNotV, tCall, tCons, tNil, tCB, tLst, tTup, tChain, CMul, CDiv, CPow, rEq, rNe, gSub, L2.start, LL.cxK0, LL.cxK1, List.map_cons, List.map_nil, List.length_cons, List.length_nil, List.replicate_succ, List.replicate_zero, List.cons_append, List.nil_append, List.append_nil, List.getElem?_cons_zero, List.getElem?_cons_succ, List.set_cons_zero, List.set_cons_succ, Nat.add_sub_cancel, Nat.reduceAdd, Nat.reduceSub, Option.some.injEq, V.int.injEq, V.bl.injEq, V.ref.injEq, V.str.injEq, List.cons.injEq, and_true, true_and, and_false, false_and, exists_eq_left, exists_eq_left', exists_and_left, exists_and_right, exists_eq, exists_eq', LL.if_dec, reduceCtorEq, exists_false, exists_const, or_false, false_or, if_true, if_false, LL.rInt1, LL.rMx, LL.rMn, and_assoc, Int.reduceNeg, Int.reduceLT, Int.reduceLE, Int.reduceMul, Int.reduceAdd, Int.reduceSub, Int.reducePow, Int.reduceToNat, Nat.reducePow, Nat.reduceLT, true_or, or_true, Bool.not_true, Bool.not_false, Bool.false_eq_true, Bool.or_false, Bool.or_true, Bool.true_or, Bool.false_or, decide_true, decide_false, not_true_eq_false, not_false_eq_true, LL.scal_int, LL.scal_bl, LL.scal_str, LL.isInt, LL.isBl, LL.isStr, LL.isLst, LL.isTup, LL.isDic]
      refine ⟨_, _, rfl, .inr (T.w_WIDTHS H), rfl, rfl, ?_⟩
      have e : inV (V.int i) [V.int 16, V.int 32, V.int 64] = widB (.int i) := by
        rw [Bool.eq_iff_iff]
        simp only [inV, eqV, widB, List.any_cons, List.any_nil, Bool.or_eq_true, Bool.or_false, beq_iff_eq, decide_eq_true_eq]
        omega
      show Q (V.bl (inV (V.int i) [V.int 16, V.int 32, V.int 64])) H
      rw [e]
      exact q
    | _ =>
      simp only [tSeq, tAsg, tRet, tRetN, tDrop, tNext, tVar, tC, gName, tOp, tUn, rI, rI0, rU, tIfS, tTest, tB, tIf, tAnd, tOr, tNot, tAndV, tOrV, tNotV, tCall, tCons, tNil, tCB, tLst, tTup, tChain, CMul, CDiv, CPow, rEq, rNe, gSub, L2.start, LL.cxK0, LL.cxK1, List.map_cons, List.map_nil, List.length_cons, List.length_nil, List.replicate_succ, List.replicate_zero, List.cons_append, List.nil_append, List.append_nil, List.getElem?_cons_zero, List.getElem?_cons_succ, List.set_cons_zero, List.set_cons_succ, Nat.add_sub_cancel, Nat.reduceAdd, Nat.reduceSub, Option.some.injEq, V.int.injEq, V.bl.injEq, V.ref.injEq, V.str.injEq, List.cons.injEq, and_true, true_and, and_false, false_and, exists_eq_left, exists_eq_left', exists_and_left, exists_and_right, exists_eq, exists_eq', LL.if_dec, reduceCtorEq, exists_false, exists_const, or_false, false_or, if_true, if_false, LL.rInt1, LL.rMx, LL.rMn, and_assoc, Int.reduceNeg, Int.reduceLT, Int.reduceLE, Int.reduceMul, Int.reduceAdd, Int.reduceSub, Int.reducePow, Int.reduceToNat, Nat.reducePow, Nat.reduceLT, true_or, or_true, Bool.not_true, Bool.not_false, Bool.false_eq_true, Bool.or_false, Bool.or_true, Bool.true_or, Bool.false_or, decide_true, decide_false, not_true_eq_false, not_false_eq_true, LL.scal_int, LL.scal_bl, LL.scal_str, LL.isInt, LL.isBl, LL.isStr, LL.isLst, LL.isTup, LL.isDic]
      exact q
def intT : LL.T → Int
  | .int i => i
  | _ => 0
/-- what is wrong first -/
def shBad (a b c e : LL.T) : Option Str := if widB a = false then some "width" else if ¬ InR 0 8 b then some "order" else if ¬ InR 1 4096 c then some "size" else if alB (intT a) e = false then some "align" else none
def strd (z a : Int) : Int := z + a - z % a
def slts (w k z a : Int) : Int := (w * 2 ^ k.toNat - a) / strd z a
def cols (w k z a : Int) : Int := (w * 2 ^ k.toNat - a - slts w k z a * strd z a) / a + 1
/-- the shape -/
def shT (w k z a : Int) : LL.T := if slts w k z a = 0 then .non else .tup [.int (strd z a), .int (slts w k z a), .int (cols w k z a)]
structure Shp (w k z : Int) (j : Nat) : Prop where
  hw : w = 16 ∨ w = 32 ∨ w = 64
  k0 : 0 ≤ k
  k1 : k ≤ 8
  z0 : 1 ≤ z
  z1 : z ≤ 4096
  ha : (2 : Int) ^ j ≤ w
theorem shp_of {a b c e : LL.T} (h : shBad a b c e = none) : ∃ (w k z : Int) (j : Nat), a = .int w ∧ b = .int k ∧ c = .int z ∧ e = .int (2 ^ j) ∧ Shp w k z j := by
  unfold shBad at h
  by_cases h1 : widB a = false
  · rw [if_pos h1] at h; cases h
  · rw [if_neg h1] at h
    by_cases h2 : InR 0 8 b
    · rw [if_neg (by simpa using h2)] at h
      by_cases h3 : InR 1 4096 c
      · rw [if_neg (by simpa using h3)] at h
        by_cases h4 : alB (intT a) e = false
        · rw [if_pos h4] at h; cases h
        · obtain ⟨w, rfl, hw⟩ := wid_of (by cases hh : widB a; exact absurd hh h1; rfl)
          obtain ⟨k, rfl, k0, k1⟩ := inr_int h2
          obtain ⟨z, rfl, z0, z1⟩ := inr_int h3
          obtain ⟨j, rfl, j0, j1⟩ := al_pos (m := w) (u := e) (by cases hh : alB w e; exact absurd hh h4; rfl)
          exact ⟨w, k, z, j, rfl, rfl, rfl, rfl, hw, k0, k1, z0, z1, j0⟩
      · rw [if_pos h3] at h; cases h
    · rw [if_pos h2] at h; cases h
def sp_need_shape (K : PySem.W.Frag) : Sp := fun vs H Q E => ∃ (F1 F2 F3 F4 : Addr → Prop) (v1 v2 v3 v4 : V) (t1 t2 t3 t4 : LL.T), vs = [v1, v2, v3, v4] ∧ Dt F1 H v1 t1 ∧ Dt F2 H v2 t2 ∧ Dt F3 H v3 t3 ∧ Dt F4 H v4 t4 ∧
  (∀ n, shBad t1 t2 t3 t4 = some n → ∀ d H', BadH H H' d (.str n) → E (.ref (aBV K)) (some d) H') ∧ (shBad t1 t2 t3 t4 = none → Q .non H)
def sp_slab_shape (K : PySem.W.Frag) : Sp := fun vs H Q E => ∃ (F1 F2 F3 F4 : Addr → Prop) (v1 v2 v3 v4 : V) (t1 t2 t3 t4 : LL.T), vs = [v1, v2, v3, v4] ∧ Dt F1 H v1 t1 ∧ Dt F2 H v2 t2 ∧ Dt F3 H v3 t3 ∧ Dt F4 H v4 t4 ∧
  (∀ n, shBad t1 t2 t3 t4 = some n → ∀ d H', BadH H H' d (.str n) → E (.ref (aBV K)) (some d) H') ∧ (shBad t1 t2 t3 t4 = none → ∀ r H', Same H H' → Dt (fun a => H a = none) H' r (shT (intT t1) (intT t2) (intT t3) (intT t4)) → Q r H')

theorem ok_need_shape (T : Tx K mg) : FnOk P w K mg base (L2.CX P w) 5 (He.ga K "need_shape") T.fd_need_shape P_need_shape (sp_need_shape K) := by
  refine T.F_need_shape.ok sc_need_shape (fun vs H Q E h => ?_) (fun cdv A outer s H vs Q E hr h => ⟨_, (pss_cons (ps_expr (pe_call (ok_need T) (hr.mono (by decide)) rfl T.g_need T.F_need.kp (b_need T) .nil (passR (takes_of rfl rfl rfl rfl) (fun _ _ _ _ h => h)) (pa_cons (pe_call (ok_is_width T) (hr.mono (by decide)) rfl T.g_is_width T.F_is_width.kp (b_is_width T) .nil pass0 (pa_cons (pv 0) pa_nil)) (pa_cons (pe_str) pa_nil)))) (pss_cons (ps_expr (pe_call (ok_need_whole T) (hr.mono (by decide)) rfl T.g_need_whole T.F_need_whole.kp (b_need_whole T) .nil (passR (takes_of rfl rfl rfl rfl) (fun _ _ _ _ h => h)) (pa_cons (pv 1) (pa_cons (pe_int) (pa_cons (pe_glob (v := .int 8) rfl T.c_MOST_ORDER.choose_spec ⟨_, rfl⟩) (pa_cons (pe_str) pa_nil)))))) (pss_cons (ps_expr (pe_call (ok_need_whole T) (hr.mono (by decide)) rfl T.g_need_whole T.F_need_whole.kp (b_need_whole T) .nil (passR (takes_of rfl rfl rfl rfl) (fun _ _ _ _ h => h)) (pa_cons (pv 2) (pa_cons (pe_int) (pa_cons (pe_glob (v := .int 4096) rfl T.c_MOST_SLOT.choose_spec ⟨_, rfl⟩) (pa_cons (pe_str) pa_nil)))))) (pss_one (ps_expr (pe_call (ok_need_align T) hr rfl T.g_need_align T.F_need_align.kp (b_need_align T) .nil (passR (takes_of rfl rfl rfl rfl) (fun _ _ _ _ h => h)) (pa_cons (pv 3) (pa_cons (pv 0) (pa_cons (pe_str) pa_nil))))))))), ?_⟩)
  · obtain ⟨_, _, _, _, _, _, _, _, _, _, _, _, rfl, _⟩ := h
    rfl
  · obtain ⟨F1, F2, F3, F4, v1, v2, v3, v4, t1, t2, t3, t4, rfl, d1, d2, d3, d4, q1, q2⟩ := h
    simp only [tSeq, tAsg, tRet, tRetN, tDrop, tNext, tVar, tC, gName, tOp, tUn, rI, rI0, rU, tIfS, tTest, tB, tIf, tAnd, tOr, tNot, tAndV, tOrV, tNotV, tCall, tCons, tNil, tCB, tLst, tTup, tChain, CMul, CDiv, CPow, rEq, rNe, gSub, L2.start, LL.cxK0, LL.cxK1, List.map_cons, List.map_nil, List.length_cons, List.length_nil, List.replicate_succ, List.replicate_zero, List.cons_append, List.nil_append, List.append_nil, List.getElem?_cons_zero, List.getElem?_cons_succ, List.set_cons_zero, List.set_cons_succ, Nat.add_sub_cancel, Nat.reduceAdd, Nat.reduceSub, Option.some.injEq, V.int.injEq, V.bl.injEq, V.ref.injEq, V.str.injEq, List.cons.injEq, and_true, true_and, and_false, false_and, exists_eq_left, exists_eq_left', exists_and_left, exists_and_right, exists_eq, exists_eq', LL.if_dec, reduceCtorEq, exists_false, exists_const, or_false, false_or, if_true, if_false, LL.rInt1, LL.rMx, LL.rMn, and_assoc, Int.reduceNeg, Int.reduceLT, Int.reduceLE, Int.reduceMul, Int.reduceAdd, Int.reduceSub, Int.reducePow, Int.reduceToNat, Nat.reducePow, Nat.reduceLT, true_or, or_true, Bool.not_true, Bool.not_false, Bool.false_eq_true, Bool.or_false, Bool.or_true, Bool.true_or, Bool.false_or, decide_true, decide_false, not_true_eq_false, not_false_eq_true, LL.scal_int, LL.scal_bl, LL.scal_str, LL.isInt, LL.isBl, LL.isStr, LL.isLst, LL.isTup, LL.isDic, N_need_shape]
    refine ⟨F1, v1, t1, rfl, d1, ?_⟩
    refine use_need (fun hw => ?_) (fun hw => q1 _ (by unfold shBad; rw [if_pos hw]))
    have hw' : ¬ widB t1 = false := by rw [hw]; simp
    refine ⟨F2, v2, .str "order", t2, 0, 8, rfl, d2, fun r2 => ?_, fun r2 => q1 _ (by unfold shBad; rw [if_neg hw', if_pos r2])⟩
    refine ⟨F3, v3, .str "size", t3, 1, 4096, rfl, d3, fun r3 => ?_, fun r3 => q1 _ (by unfold shBad; rw [if_neg hw', if_neg (by simpa using r2), if_pos r3])⟩
    obtain ⟨w, rfl, hw2⟩ := wid_of hw
    obtain rfl : v1 = V.int w := d1
    refine ⟨F4, v4, t4, w, .str "align", rfl, d4, fun r4 => q2 ?_, fun r4 => q1 _ ?_⟩
    · unfold shBad
      rw [if_neg hw', if_neg (by simpa using r2), if_neg (by simpa using r3), if_neg (by show ¬ alB w t4 = false; rw [r4]; simp)]
    · unfold shBad
      rw [if_neg hw', if_neg (by simpa using r2), if_neg (by simpa using r3)]
      exact if_pos (show alB w t4 = false from r4)
theorem strd_pos {w k z : Int} {j : Nat} (h : Shp w k z j) : 0 < strd z (2 ^ j) ∧ z < strd z (2 ^ j) ∧ strd z (2 ^ j) ≤ z + 2 ^ j := by
  have hp := pow_pos' j
  have m1 := Int.emod_nonneg z (show (2 : Int) ^ j ≠ 0 by omega)
  have m2 := Int.emod_lt_of_pos z hp
  have := h.z0
  unfold strd
  omega
theorem pow8 {k : Int} (h0 : 0 ≤ k) (h1 : k ≤ 8) : (1 : Int) ≤ 2 ^ k.toNat ∧ (2 : Int) ^ k.toNat ≤ 256 := by
  have h3 : 2 ^ k.toNat ≤ 2 ^ 8 := Nat.pow_le_pow_right (by decide) (by omega)
  have e : ((2 ^ k.toNat : Nat) : Int) = (2 : Int) ^ k.toNat := Int.natCast_pow 2 _
  have := Nat.pow_pos (n := k.toNat) (show 0 < 2 by decide)
  omega
theorem room_b {w k z : Int} {j : Nat} (h : Shp w k z j) : 0 ≤ w * 2 ^ k.toNat - 2 ^ j ∧ w * 2 ^ k.toNat ≤ 16384 := by
  obtain ⟨a, b⟩ := pow8 h.k0 h.k1
  have h2 : w * 1 ≤ w * 2 ^ k.toNat := Int.mul_le_mul_of_nonneg_left a (by have := h.hw; omega)
  have h3 : w * 2 ^ k.toNat ≤ w * 256 := Int.mul_le_mul_of_nonneg_left b (by have := h.hw; omega)
  have := h.ha
  have := h.hw
  omega

theorem ok_slab_shape (T : Tx K mg) : FnOk P w K mg base (L2.CX P w) 6 (He.ga K "slab_shape") T.fd_slab_shape P_slab_shape (sp_slab_shape K) := by
  refine T.F_slab_shape.ok sc_slab_shape (fun vs H Q E h => ?_) (fun cdv A outer s H vs Q E hr h => ⟨_, (pss_cons (ps_expr (pe_call (ok_need_shape T) hr rfl T.g_need_shape T.F_need_shape.kp (b_need_shape T) .nil (passR (takes_of rfl rfl rfl rfl) (fun _ _ _ _ h => h)) (pa_cons (pv 0) (pa_cons (pv 1) (pa_cons (pv 2) (pa_cons (pv 3) pa_nil)))))) (pss_cons (ps_set (i := 4) sc_slab_shape.nd rfl (Or.inl rfl) (pe_op op_sub (pe_op op_shl (pv 0) (pv 1)) (pv 3))) (pss_cons (ps_set (i := 5) sc_slab_shape.nd rfl (Or.inl rfl) (pe_op op_sub (pe_op op_add (pv 2) (pv 3)) (pe_op op_mod (pv 2) (pv 3)))) (pss_cons (ps_set (i := 6) sc_slab_shape.nd rfl (Or.inl rfl) (pe_op op_fdiv (pv 4) (pv 5))) (pss_cons (ps_if (pt_cmpR op_eq (pv 6) (pe_int) (nomark _)) (pss_one (ps_ret (pe_non))) pss_nil) (pss_one (ps_ret (pe_tup (pa_cons (pv 5) (pa_cons (pv 6) (pa_cons (pe_op op_add (pe_op op_fdiv (pe_op op_sub (pv 4) (pe_op op_mul (pv 6) (pv 5))) (pv 3)) (pe_int)) pa_nil))))))))))), ?_⟩)
  · obtain ⟨_, _, _, _, _, _, _, _, _, _, _, _, rfl, _⟩ := h
    rfl
  · obtain ⟨F1, F2, F3, F4, v1, v2, v3, v4, t1, t2, t3, t4, rfl, d1, d2, d3, d4, q1, q2⟩ := h
    simp only [tSeq, tAsg, tRet, tRetN, tDrop, tNext, tVar, tC, gName, tOp, tUn, rI, rI0, rU, tIfS, tTest, tB, tIf, tAnd, tOr, tNot, tAndV, tOrV, tNotV, tCall, tCons, tNil, tCB, tLst, tTup, tChain, CMul, CDiv, CPow, rEq, rNe, gSub, L2.start, LL.cxK0, LL.cxK1, List.map_cons, List.map_nil, List.length_cons, List.length_nil, List.replicate_succ, List.replicate_zero, List.cons_append, List.nil_append, List.append_nil, List.getElem?_cons_zero, List.getElem?_cons_succ, List.set_cons_zero, List.set_cons_succ, Nat.add_sub_cancel, Nat.reduceAdd, Nat.reduceSub, Option.some.injEq, V.int.injEq, V.bl.injEq, V.ref.injEq, V.str.injEq, List.cons.injEq, and_true, true_and, and_false, false_and, exists_eq_left, exists_eq_left', exists_and_left, exists_and_right, exists_eq, exists_eq', LL.if_dec, reduceCtorEq, exists_false, exists_const, or_false, false_or, if_true, if_false, LL.rInt1, LL.rMx, LL.rMn, and_assoc, Int.reduceNeg, Int.reduceLT, Int.reduceLE, Int.reduceMul, Int.reduceAdd, Int.reduceSub, Int.reducePow, Int.reduceToNat, Nat.reducePow, Nat.reduceLT, true_or, or_true, Bool.not_true, Bool.not_false, Bool.false_eq_true, Bool.or_false, Bool.or_true, Bool.true_or, Bool.false_or, decide_true, decide_false, not_true_eq_false, not_false_eq_true, LL.scal_int, LL.scal_bl, LL.scal_str, LL.isInt, LL.isBl, LL.isStr, LL.isLst, LL.isTup, LL.isDic, N_slab_shape]
    refine ⟨F1, F2, F3, F4, v1, v2, v3, v4, t1, t2, t3, t4, rfl, d1, d2, d3, d4, q1, fun hg => ?_⟩
    replace q2 := q2 hg
    obtain ⟨w, k, z, j, rfl, rfl, rfl, rfl, S⟩ := shp_of hg
    obtain rfl : v1 = V.int w := d1
    obtain rfl : v2 = V.int k := d2
    obtain rfl : v3 = V.int z := d3
    obtain rfl : v4 = V.int (2 ^ j) := d4
    replace q2 : ∀ r H', Same H H' → Dt (fun a => H a = none) H' r (shT w k z (2 ^ j)) → Q r H' := q2
    simp only [tSeq, tAsg, tRet, tRetN, tDrop, tNext, tVar, tC, gName, tOp, tUn, rI, rI0, rU, tIfS, tTest, tB, tIf, tAnd, tOr, tNot, tAndV, tOrV, tNotV, tCall, tCons, tNil, tCB, tLst, tTup, tChain, CMul, CDiv, CPow, rEq, rNe, gSub, L2.start, LL.cxK0, LL.cxK1, List.map_cons, List.map_nil, List.length_cons, List.length_nil, List.replicate_succ, List.replicate_zero, List.cons_append, List.nil_append, List.append_nil, List.getElem?_cons_zero, List.getElem?_cons_succ, List.set_cons_zero, List.set_cons_succ, Nat.add_sub_cancel, Nat.reduceAdd, Nat.reduceSub, Option.some.injEq, V.int.injEq, V.bl.injEq, V.ref.injEq, V.str.injEq, List.cons.injEq, and_true, true_and, and_false, false_and, exists_eq_left, exists_eq_left', exists_and_left, exists_and_right, exists_eq, exists_eq', LL.if_dec, reduceCtorEq, exists_false, exists_const, or_false, false_or, if_true, if_false, LL.rInt1, LL.rMx, LL.rMn, and_assoc, Int.reduceNeg, Int.reduceLT, Int.reduceLE, Int.reduceMul, Int.reduceAdd, Int.reduceSub, Int.reducePow, Int.reduceToNat, Nat.reducePow, Nat.reduceLT, true_or, or_true, Bool.not_true, Bool.not_false, Bool.false_eq_true, Bool.or_false, Bool.or_true, Bool.true_or, Bool.false_or, decide_true, decide_false, not_true_eq_false, not_false_eq_true, LL.scal_int, LL.scal_bl, LL.scal_str, LL.isInt, LL.isBl, LL.isStr, LL.isLst, LL.isTup, LL.isDic]
    have hp := pow_pos' j
    obtain ⟨s0, s1, s2⟩ := strd_pos S
    obtain ⟨r0, r1⟩ := room_b S
    have hj : (2 : Int) ^ j ≤ 64 := by have := S.ha; have := S.hw; omega
    have hz := S.z1
    refine ⟨S.k0, by have := S.k1; omega, by have := S.hw; omega, hp, s0, by show strd z (2 ^ j) < _; omega, itei (fun h => ?_) (fun h => ?_)⟩
    · have e : shT w k z (2 ^ j) = .non := by unfold shT; exact if_pos h
      rw [e] at q2
      exact q2 _ _ (Same.refl _) rfl
    · have e : shT w k z (2 ^ j) = .tup [.int (strd z (2 ^ j)), .int (slts w k z (2 ^ j)), .int (cols w k z (2 ^ j))] := by unfold shT; exact if_neg h
      rw [e] at q2
      refine ⟨.inr ⟨by show _ < strd z (2 ^ j); omega, by show strd z (2 ^ j) < _; omega⟩, hp, by omega, by decide, ?_⟩
      intro p np
      generalize hq : upd H p _ = H1
      have sH1 : Same H H1 := hq ▸ Same.new (Same.refl _) np
      have ep := hq ▸ (upd_same (H := H) (a := p))
      clear hq
      exact q2 _ _ sH1 ⟨p, _, rfl, np, ep, .cons rfl (.cons rfl (.one rfl)), by simp⟩
end K26

namespace K26
open PySem PySem.Spec PyProof.Rows L2 LL
variable {P : Program} {w : World} {K : PySem.W.Frag} {mg : Str → Option Value} {base : Heap}

/-- a list, or a tuple, of integers; of how many -/
def intsB (l : Bool) (m : Int) : LL.T → Bool
  | .lst us => l && ((decide (m < 0) || decide ((us.length : Int) = m)) && us.all LL.isInt)
  | .tup us => !l && ((decide (m < 0) || decide ((us.length : Int) = m)) && us.all LL.isInt)
  | _ => false
def sp_ints (l : Bool) : Sp := fun vs H Q _ => ∃ (F : Addr → Prop) (v : V) (t : LL.T) (m : Int), vs = [v, .bl l, .int m] ∧ Dt F H v t ∧ Q (.bl (intsB l m t)) H
theorem use_intsB {l : Bool} {F : Addr → Prop} {v : V} {t : LL.T} {m : Int} {H : Hp} {Q : VK} {E : XK} (h : Dt F H v t) (q : Q (.bl (intsB l m t)) H) : sp_ints l [v, .bl l, .int m] H Q E := ⟨F, v, t, m, rfl, h, q⟩

theorem ok_law_is_intsT (T : Tx K mg) : FnOk P w K mg base CX0 2 (He.ga K "_law_is_ints") T.fd_law_is_ints P_law_is_ints (sp_ints false) := by
  refine T.F_law_is_ints.ok sc_law_is_ints (fun vs H Q E h => ?_) (fun cdv A outer s H vs Q E hr h => ⟨_, PSs.nox (pss_cons (ps_if (PW.pt (pw_or (PW.pt (pw_and (pt_val (pv 1)) (pw_and1 (pt_not (pt_val (pe_callB call_isi (by rfl) T.z_isinstance (by decide +kernel) (pa_cons (pv 0) (pa_cons (pe_bltn (v := .ty "list") (u := .type "list") (by rfl) T.z_list (by decide +kernel) rfl) pa_nil)))))))) (pw_or1 (PW.pt (pw_and (pt_not (pt_val (pv 1))) (pw_and1 (pt_not (pt_val (pe_callB call_isi (by rfl) T.z_isinstance (by decide +kernel) (pa_cons (pv 0) (pa_cons (pe_bltn (v := .ty "tuple") (u := .type "tuple") (by rfl) T.z_tuple (by decide +kernel) rfl) pa_nil))))))))))) (pss_one (ps_ret (pe_bl))) pss_nil) (pss_cons (ps_if (PW.pt (pw_and (pt_cmpR op_ge (pv 2) (pe_int) (nomark _)) (pw_and1 (pt_cmpR op_ne (pe_callB LL.call_lenT (by rfl) T.z_len (by decide +kernel) (pa_cons (pv 0) pa_nil)) (pv 2) (nomark _))))) (pss_one (ps_ret (pe_bl))) pss_nil) (pss_cons (ps_for PassesOwn.never rfl (pi_tup (pv 0)) (pg_name (i := 3) sc_law_is_ints.nd rfl (Or.inl rfl)) (pss_one (ps_if (pt_not (pt_val (pe_call (ok_law_is_int T) hr rfl T.g_law_is_int T.F_law_is_int.kp (b_law_is_int T) .nil pass0 (pa_cons (pv 3) pa_nil)))) (pss_one (ps_ret (pe_bl))) pss_nil))) (pss_one (ps_ret (pe_bl)))))), ?_⟩)
  · obtain ⟨_, _, _, _, rfl, _⟩ := h
    rfl
  · obtain ⟨F, v, t, m, rfl, hd, q⟩ := h
    simp only [tSeq, tAsg, tRet, tRetN, tDrop, tNext, tVar, tC, gName, tOp, tUn, rI, rI0, rU, tIfS, tTest, tB, tIf, tAnd, tOr, tNot, tAndV, tOrV, tNotV, tCall, tCons, tNil, tCB, tLst, tTup, tChain, CMul, CDiv, CPow, rEq, rNe, gSub, L2.start, LL.cxK0, LL.cxK1, List.map_cons, List.map_nil, List.length_cons, List.length_nil, List.replicate_succ, List.replicate_zero, List.cons_append, List.nil_append, List.append_nil, List.getElem?_cons_zero, List.getElem?_cons_succ, List.set_cons_zero, List.set_cons_succ, Nat.add_sub_cancel, Nat.reduceAdd, Nat.reduceSub, Option.some.injEq, V.int.injEq, V.bl.injEq, V.ref.injEq, V.str.injEq, List.cons.injEq, and_true, true_and, and_false, false_and, exists_eq_left, exists_eq_left', exists_and_left, exists_and_right, exists_eq, exists_eq', LL.if_dec, reduceCtorEq, exists_false, exists_const, or_false, false_or, if_true, if_false, LL.rInt1, LL.rMx, LL.rMn, and_assoc, Int.reduceNeg, Int.reduceLT, Int.reduceLE, Int.reduceMul, Int.reduceAdd, Int.reduceSub, Int.reducePow, Int.reduceToNat, Nat.reducePow, Nat.reduceLT, true_or, or_true, Bool.not_true, Bool.not_false, Bool.false_eq_true, Bool.or_false, Bool.or_true, Bool.true_or, Bool.false_or, decide_true, decide_false, not_true_eq_false, not_false_eq_true, LL.scal_int, LL.scal_bl, LL.scal_str, LL.isInt, LL.isBl, LL.isStr, LL.isLst, LL.isTup, LL.isDic, N_law_is_ints]
    cases t with
    | tup us =>
      obtain ⟨p, xs, rfl, fp, ep, hx, hz⟩ := _root_.id hd
      repeat (first | refine use_isi hd (kit_int _) ?_ | refine use_isi hd (kit_bool _) ?_ | refine use_isi hd (kit_str _) ?_ | refine use_isi hd (kit_list _) ?_ | refine use_isi hd (kit_tuple _) ?_ | refine use_isi hd (kit_dict _) ?_ | refine And.intro (show scal _ _ = true from rfl) ?_ | simp only [tSeq, tAsg, tRet, tRetN, tDrop, tNext, tVar, tC, gName, tOp, tUn, rI, rI0, rU, tIfS, tTest, tB, tIf, tAnd, tOr, tNot, tAndV, tOrV, tNotV, tCall, tCons, tNil, tCB, tLst, tTup, tChain, CMul, CDiv, CPow, rEq, rNe, gSub, L2.start, LL.cxK0, LL.cxK1, List.map_cons, List.map_nil, List.length_cons, List.length_nil, List.replicate_succ, List.replicate_zero, List.cons_append, List.nil_append, List.append_nil, List.getElem?_cons_zero, List.getElem?_cons_succ, List.set_cons_zero, List.set_cons_succ, Nat.add_sub_cancel, Nat.reduceAdd, Nat.reduceSub, Option.some.injEq, V.int.injEq, V.bl.injEq, V.ref.injEq, V.str.injEq, List.cons.injEq, and_true, true_and, and_false, false_and, exists_eq_left, exists_eq_left', exists_and_left, exists_and_right, exists_eq, exists_eq', LL.if_dec, reduceCtorEq, exists_false, exists_const, or_false, false_or, if_true, if_false, LL.rInt1, LL.rMx, LL.rMn, and_assoc, Int.reduceNeg, Int.reduceLT, Int.reduceLE, Int.reduceMul, Int.reduceAdd, Int.reduceSub, Int.reducePow, Int.reduceToNat, Nat.reducePow, Nat.reduceLT, true_or, or_true, Bool.not_true, Bool.not_false, Bool.false_eq_true, Bool.or_false, Bool.or_true, Bool.true_or, Bool.false_or, decide_true, decide_false, not_true_eq_false, not_false_eq_true, LL.scal_int, LL.scal_bl, LL.scal_str, LL.isInt, LL.isBl, LL.isStr, LL.isLst, LL.isTup, LL.isDic])
      have hall : (us.all LL.isInt = true → Q (.bl true) H) → (us.all LL.isInt = false → Q (.bl false) H) → tFor (iTup K (tVar 0)) (gName 3) (tIfS (tNot (tB (tCall sp_isint [] E0 (tCons (tVar 3) tNil)))) (tRet (tC (V.bl false))) tNext) { nx := tRet (tC (V.bl true)) { nx := fun x H' => Q V.non H', rt := Q }, rt := Q } [some (.ref p), some (.bl false), some (.int m), none] H := by
        intro q1 q2
        refine use_forT (a := p) (xs := xs) (fun Q q => ⟨_, rfl, q⟩) (fun i σ' H' => H' = H ∧ (∀ t ∈ us.take i, LL.isInt t = true) ∧ ∃ z : Option V, σ' = [some (.ref p), some (.bl false), some (.int m), z]) ⟨rfl, by simp, _, rfl⟩ (fun i σ' H' _ ⟨e, _⟩ => e ▸ SqT.of ep) ?_ ?_
        · rintro i z σ' H' hz ⟨rfl, hall, zz, rfl⟩
          obtain ⟨t, et, dt⟩ := hx.get _ hz
          simp only [tSeq, tAsg, tRet, tRetN, tDrop, tNext, tVar, tC, gName, tOp, tUn, rI, rI0, rU, tIfS, tTest, tB, tIf, tAnd, tOr, tNot, tAndV, tOrV, tNotV, tCall, tCons, tNil, tCB, tLst, tTup, tChain, CMul, CDiv, CPow, rEq, rNe, gSub, L2.start, LL.cxK0, LL.cxK1, List.map_cons, List.map_nil, List.length_cons, List.length_nil, List.replicate_succ, List.replicate_zero, List.cons_append, List.nil_append, List.append_nil, List.getElem?_cons_zero, List.getElem?_cons_succ, List.set_cons_zero, List.set_cons_succ, Nat.add_sub_cancel, Nat.reduceAdd, Nat.reduceSub, Option.some.injEq, V.int.injEq, V.bl.injEq, V.ref.injEq, V.str.injEq, List.cons.injEq, and_true, true_and, and_false, false_and, exists_eq_left, exists_eq_left', exists_and_left, exists_and_right, exists_eq, exists_eq', LL.if_dec, reduceCtorEq, exists_false, exists_const, or_false, false_or, if_true, if_false, LL.rInt1, LL.rMx, LL.rMn, and_assoc, Int.reduceNeg, Int.reduceLT, Int.reduceLE, Int.reduceMul, Int.reduceAdd, Int.reduceSub, Int.reducePow, Int.reduceToNat, Nat.reducePow, Nat.reduceLT, true_or, or_true, Bool.not_true, Bool.not_false, Bool.false_eq_true, Bool.or_false, Bool.or_true, Bool.true_or, Bool.false_or, decide_true, decide_false, not_true_eq_false, not_false_eq_true, LL.scal_int, LL.scal_bl, LL.scal_str, LL.isInt, LL.isBl, LL.isStr, LL.isLst, LL.isTup, LL.isDic]
          refine use_isint dt ⟨_, rfl, ?_⟩
          cases hi : LL.isInt t with
          | true =>
            simp only [tSeq, tAsg, tRet, tRetN, tDrop, tNext, tVar, tC, gName, tOp, tUn, rI, rI0, rU, tIfS, tTest, tB, tIf, tAnd, tOr, tNot, tAndV, tOrV, tNotV, tCall, tCons, tNil, tCB, tLst, tTup, tChain, CMul, CDiv, CPow, rEq, rNe, gSub, L2.start, LL.cxK0, LL.cxK1, List.map_cons, List.map_nil, List.length_cons, List.length_nil, List.replicate_succ, List.replicate_zero, List.cons_append, List.nil_append, List.append_nil, List.getElem?_cons_zero, List.getElem?_cons_succ, List.set_cons_zero, List.set_cons_succ, Nat.add_sub_cancel, Nat.reduceAdd, Nat.reduceSub, Option.some.injEq, V.int.injEq, V.bl.injEq, V.ref.injEq, V.str.injEq, List.cons.injEq, and_true, true_and, and_false, false_and, exists_eq_left, exists_eq_left', exists_and_left, exists_and_right, exists_eq, exists_eq', LL.if_dec, reduceCtorEq, exists_false, exists_const, or_false, false_or, if_true, if_false, LL.rInt1, LL.rMx, LL.rMn, and_assoc, Int.reduceNeg, Int.reduceLT, Int.reduceLE, Int.reduceMul, Int.reduceAdd, Int.reduceSub, Int.reducePow, Int.reduceToNat, Nat.reducePow, Nat.reduceLT, true_or, or_true, Bool.not_true, Bool.not_false, Bool.false_eq_true, Bool.or_false, Bool.or_true, Bool.true_or, Bool.false_or, decide_true, decide_false, not_true_eq_false, not_false_eq_true, LL.scal_int, LL.scal_bl, LL.scal_str, LL.isInt, LL.isBl, LL.isStr, LL.isLst, LL.isTup, LL.isDic]
            rw [take_one et]
            intro u hu
            rcases List.mem_append.mp hu with h | h
            · exact hall u h
            · rw [List.mem_singleton.mp h]; exact hi
          | false =>
            simp only [tSeq, tAsg, tRet, tRetN, tDrop, tNext, tVar, tC, gName, tOp, tUn, rI, rI0, rU, tIfS, tTest, tB, tIf, tAnd, tOr, tNot, tAndV, tOrV, tNotV, tCall, tCons, tNil, tCB, tLst, tTup, tChain, CMul, CDiv, CPow, rEq, rNe, gSub, L2.start, LL.cxK0, LL.cxK1, List.map_cons, List.map_nil, List.length_cons, List.length_nil, List.replicate_succ, List.replicate_zero, List.cons_append, List.nil_append, List.append_nil, List.getElem?_cons_zero, List.getElem?_cons_succ, List.set_cons_zero, List.set_cons_succ, Nat.add_sub_cancel, Nat.reduceAdd, Nat.reduceSub, Option.some.injEq, V.int.injEq, V.bl.injEq, V.ref.injEq, V.str.injEq, List.cons.injEq, and_true, true_and, and_false, false_and, exists_eq_left, exists_eq_left', exists_and_left, exists_and_right, exists_eq, exists_eq', LL.if_dec, reduceCtorEq, exists_false, exists_const, or_false, false_or, if_true, if_false, LL.rInt1, LL.rMx, LL.rMn, and_assoc, Int.reduceNeg, Int.reduceLT, Int.reduceLE, Int.reduceMul, Int.reduceAdd, Int.reduceSub, Int.reducePow, Int.reduceToNat, Nat.reducePow, Nat.reduceLT, true_or, or_true, Bool.not_true, Bool.not_false, Bool.false_eq_true, Bool.or_false, Bool.or_true, Bool.true_or, Bool.false_or, decide_true, decide_false, not_true_eq_false, not_false_eq_true, LL.scal_int, LL.scal_bl, LL.scal_str, LL.isInt, LL.isBl, LL.isStr, LL.isLst, LL.isTup, LL.isDic]
            refine q2 ?_
            cases h : us.all LL.isInt with
            | false => rfl
            | true =>
              have := List.all_eq_true.mp h t (List.mem_of_getElem? et)
              rw [hi] at this
              cases this
        · rintro σ' H' ⟨rfl, hall, zz, rfl⟩
          simp only [tSeq, tAsg, tRet, tRetN, tDrop, tNext, tVar, tC, gName, tOp, tUn, rI, rI0, rU, tIfS, tTest, tB, tIf, tAnd, tOr, tNot, tAndV, tOrV, tNotV, tCall, tCons, tNil, tCB, tLst, tTup, tChain, CMul, CDiv, CPow, rEq, rNe, gSub, L2.start, LL.cxK0, LL.cxK1, List.map_cons, List.map_nil, List.length_cons, List.length_nil, List.replicate_succ, List.replicate_zero, List.cons_append, List.nil_append, List.append_nil, List.getElem?_cons_zero, List.getElem?_cons_succ, List.set_cons_zero, List.set_cons_succ, Nat.add_sub_cancel, Nat.reduceAdd, Nat.reduceSub, Option.some.injEq, V.int.injEq, V.bl.injEq, V.ref.injEq, V.str.injEq, List.cons.injEq, and_true, true_and, and_false, false_and, exists_eq_left, exists_eq_left', exists_and_left, exists_and_right, exists_eq, exists_eq', LL.if_dec, reduceCtorEq, exists_false, exists_const, or_false, false_or, if_true, if_false, LL.rInt1, LL.rMx, LL.rMn, and_assoc, Int.reduceNeg, Int.reduceLT, Int.reduceLE, Int.reduceMul, Int.reduceAdd, Int.reduceSub, Int.reducePow, Int.reduceToNat, Nat.reducePow, Nat.reduceLT, true_or, or_true, Bool.not_true, Bool.not_false, Bool.false_eq_true, Bool.or_false, Bool.or_true, Bool.true_or, Bool.false_or, decide_true, decide_false, not_true_eq_false, not_false_eq_true, LL.scal_int, LL.scal_bl, LL.scal_str, LL.isInt, LL.isBl, LL.isStr, LL.isLst, LL.isTup, LL.isDic]
          rw [hx.len, List.take_length] at hall
          exact q1 (List.all_eq_true.mpr hall)
      have lx : (xs.length : Int) = us.length := by rw [hx.len]
      have eq : intsB false m (.tup us) = ((decide (m < 0) || decide ((us.length : Int) = m)) && us.all LL.isInt) := by simp [intsB]
      rw [eq] at q
      refine itei (fun h => ?_) (fun h => hall (fun e => ?_) (fun e => ?_))
      · refine use_lenT ep ⟨scal_int.mpr trivial, ?_⟩
        by_cases hl : (us.length : Int) = m
        · rw [if_neg (by simp [lx, hl])]
          refine hall (fun e => ?_) (fun e => ?_)
          · rw [e, decide_eq_true hl, Bool.or_true] at q; exact q
          · rw [e, Bool.and_false] at q; exact q
        · rw [if_pos (by simp [lx, hl])]
          rw [decide_eq_false hl, decide_eq_false (show ¬ m < 0 by omega)] at q; exact q
      · rw [e, decide_eq_true (show m < 0 by omega)] at q; exact q
      · rw [e, Bool.and_false] at q; exact q
    | _ =>
      repeat (first | refine use_isi hd (kit_int _) ?_ | refine use_isi hd (kit_bool _) ?_ | refine use_isi hd (kit_str _) ?_ | refine use_isi hd (kit_list _) ?_ | refine use_isi hd (kit_tuple _) ?_ | refine use_isi hd (kit_dict _) ?_ | refine And.intro (show scal _ _ = true from rfl) ?_ | simp only [tSeq, tAsg, tRet, tRetN, tDrop, tNext, tVar, tC, gName, tOp, tUn, rI, rI0, rU, tIfS, tTest, tB, tIf, tAnd, tOr, tNot, tAndV, tOrV, tNotV, tCall, tCons, tNil, tCB, tLst, tTup, tChain, CMul, CDiv, CPow, rEq, rNe, gSub, L2.start, LL.cxK0, LL.cxK1, List.map_cons, List.map_nil, List.length_cons, List.length_nil, List.replicate_succ, List.replicate_zero, List.cons_append, List.nil_append, List.append_nil, List.getElem?_cons_zero, List.getElem?_cons_succ, List.set_cons_zero, List.set_cons_succ, Nat.add_sub_cancel, Nat.reduceAdd, Nat.reduceSub, Option.some.injEq, V.int.injEq, V.bl.injEq, V.ref.injEq, V.str.injEq, List.cons.injEq, and_true, true_and, and_false, false_and, exists_eq_left, exists_eq_left', exists_and_left, exists_and_right, exists_eq, exists_eq', LL.if_dec, reduceCtorEq, exists_false, exists_const, or_false, false_or, if_true, if_false, LL.rInt1, LL.rMx, LL.rMn, and_assoc, Int.reduceNeg, Int.reduceLT, Int.reduceLE, Int.reduceMul, Int.reduceAdd, Int.reduceSub, Int.reducePow, Int.reduceToNat, Nat.reducePow, Nat.reduceLT, true_or, or_true, Bool.not_true, Bool.not_false, Bool.false_eq_true, Bool.or_false, Bool.or_true, Bool.true_or, Bool.false_or, decide_true, decide_false, not_true_eq_false, not_false_eq_true, LL.scal_int, LL.scal_bl, LL.scal_str, LL.isInt, LL.isBl, LL.isStr, LL.isLst, LL.isTup, LL.isDic])
      exact q
theorem ok_law_is_intsL (T : Tx K mg) : FnOk P w K mg base CX0 2 (He.ga K "_law_is_ints") T.fd_law_is_ints P_law_is_ints (sp_ints true) := by
  refine T.F_law_is_ints.ok sc_law_is_ints (fun vs H Q E h => ?_) (fun cdv A outer s H vs Q E hr h => ⟨_, PSs.nox (pss_cons (ps_if (PW.pt (pw_or (PW.pt (pw_and (pt_val (pv 1)) (pw_and1 (pt_not (pt_val (pe_callB call_isi (by rfl) T.z_isinstance (by decide +kernel) (pa_cons (pv 0) (pa_cons (pe_bltn (v := .ty "list") (u := .type "list") (by rfl) T.z_list (by decide +kernel) rfl) pa_nil)))))))) (pw_or1 (PW.pt (pw_and (pt_not (pt_val (pv 1))) (pw_and1 (pt_not (pt_val (pe_callB call_isi (by rfl) T.z_isinstance (by decide +kernel) (pa_cons (pv 0) (pa_cons (pe_bltn (v := .ty "tuple") (u := .type "tuple") (by rfl) T.z_tuple (by decide +kernel) rfl) pa_nil))))))))))) (pss_one (ps_ret (pe_bl))) pss_nil) (pss_cons (ps_if (PW.pt (pw_and (pt_cmpR op_ge (pv 2) (pe_int) (nomark _)) (pw_and1 (pt_cmpR op_ne (pe_callB LL.call_lenL (by rfl) T.z_len (by decide +kernel) (pa_cons (pv 0) pa_nil)) (pv 2) (nomark _))))) (pss_one (ps_ret (pe_bl))) pss_nil) (pss_cons (ps_for PassesOwn.never rfl (pi_list (pv 0)) (pg_name (i := 3) sc_law_is_ints.nd rfl (Or.inl rfl)) (pss_one (ps_if (pt_not (pt_val (pe_call (ok_law_is_int T) hr rfl T.g_law_is_int T.F_law_is_int.kp (b_law_is_int T) .nil pass0 (pa_cons (pv 3) pa_nil)))) (pss_one (ps_ret (pe_bl))) pss_nil))) (pss_one (ps_ret (pe_bl)))))), ?_⟩)
  · obtain ⟨_, _, _, _, rfl, _⟩ := h
    rfl
  · obtain ⟨F, v, t, m, rfl, hd, q⟩ := h
    simp only [tSeq, tAsg, tRet, tRetN, tDrop, tNext, tVar, tC, gName, tOp, tUn, rI, rI0, rU, tIfS, tTest, tB, tIf, tAnd, tOr, tNot, tAndV, tOrV, tNotV, tCall, tCons, tNil, tCB, tLst, tTup, tChain, CMul, CDiv, CPow, rEq, rNe, gSub, L2.start, LL.cxK0, LL.cxK1, List.map_cons, List.map_nil, List.length_cons, List.length_nil, List.replicate_succ, List.replicate_zero, List.cons_append, List.nil_append, List.append_nil, List.getElem?_cons_zero, List.getElem?_cons_succ, List.set_cons_zero, List.set_cons_succ, Nat.add_sub_cancel, Nat.reduceAdd, Nat.reduceSub, Option.some.injEq, V.int.injEq, V.bl.injEq, V.ref.injEq, V.str.injEq, List.cons.injEq, and_true, true_and, and_false, false_and, exists_eq_left, exists_eq_left', exists_and_left, exists_and_right, exists_eq, exists_eq', LL.if_dec, reduceCtorEq, exists_false, exists_const, or_false, false_or, if_true, if_false, LL.rInt1, LL.rMx, LL.rMn, and_assoc, Int.reduceNeg, Int.reduceLT, Int.reduceLE, Int.reduceMul, Int.reduceAdd, Int.reduceSub, Int.reducePow, Int.reduceToNat, Nat.reducePow, Nat.reduceLT, true_or, or_true, Bool.not_true, Bool.not_false, Bool.false_eq_true, Bool.or_false, Bool.or_true, Bool.true_or, Bool.false_or, decide_true, decide_false, not_true_eq_false, not_false_eq_true, LL.scal_int, LL.scal_bl, LL.scal_str, LL.isInt, LL.isBl, LL.isStr, LL.isLst, LL.isTup, LL.isDic, N_law_is_ints]
    cases t with
    | lst us =>
      obtain ⟨p, xs, rfl, fp, ep, hx, hz⟩ := _root_.id hd
      repeat (first | refine use_isi hd (kit_int _) ?_ | refine use_isi hd (kit_bool _) ?_ | refine use_isi hd (kit_str _) ?_ | refine use_isi hd (kit_list _) ?_ | refine use_isi hd (kit_tuple _) ?_ | refine use_isi hd (kit_dict _) ?_ | refine And.intro (show scal _ _ = true from rfl) ?_ | simp only [tSeq, tAsg, tRet, tRetN, tDrop, tNext, tVar, tC, gName, tOp, tUn, rI, rI0, rU, tIfS, tTest, tB, tIf, tAnd, tOr, tNot, tAndV, tOrV, tNotV, tCall, tCons, tNil, tCB, tLst, tTup, tChain, CMul, CDiv, CPow, rEq, rNe, gSub, L2.start, LL.cxK0, LL.cxK1, List.map_cons, List.map_nil, List.length_cons, List.length_nil, List.replicate_succ, List.replicate_zero, List.cons_append, List.nil_append, List.append_nil, List.getElem?_cons_zero, List.getElem?_cons_succ, List.set_cons_zero, List.set_cons_succ, Nat.add_sub_cancel, Nat.reduceAdd, Nat.reduceSub, Option.some.injEq, V.int.injEq, V.bl.injEq, V.ref.injEq, V.str.injEq, List.cons.injEq, and_true, true_and, and_false, false_and, exists_eq_left, exists_eq_left', exists_and_left, exists_and_right, exists_eq, exists_eq', LL.if_dec, reduceCtorEq, exists_false, exists_const, or_false, false_or, if_true, if_false, LL.rInt1, LL.rMx, LL.rMn, and_assoc, Int.reduceNeg, Int.reduceLT, Int.reduceLE, Int.reduceMul, Int.reduceAdd, Int.reduceSub, Int.reducePow, Int.reduceToNat, Nat.reducePow, Nat.reduceLT, true_or, or_true, Bool.not_true, Bool.not_false, Bool.false_eq_true, Bool.or_false, Bool.or_true, Bool.true_or, Bool.false_or, decide_true, decide_false, not_true_eq_false, not_false_eq_true, LL.scal_int, LL.scal_bl, LL.scal_str, LL.isInt, LL.isBl, LL.isStr, LL.isLst, LL.isTup, LL.isDic])
      have hall : (us.all LL.isInt = true → Q (.bl true) H) → (us.all LL.isInt = false → Q (.bl false) H) → tFor (iList K (tVar 0)) (gName 3) (tIfS (tNot (tB (tCall sp_isint [] E0 (tCons (tVar 3) tNil)))) (tRet (tC (V.bl false))) tNext) { nx := tRet (tC (V.bl true)) { nx := fun x H' => Q V.non H', rt := Q }, rt := Q } [some (.ref p), some (.bl true), some (.int m), none] H := by
        intro q1 q2
        refine use_forL (a := p) (xs := xs) (fun Q q => ⟨_, rfl, q⟩) (fun i σ' H' => H' = H ∧ (∀ t ∈ us.take i, LL.isInt t = true) ∧ ∃ z : Option V, σ' = [some (.ref p), some (.bl true), some (.int m), z]) ⟨rfl, by simp, _, rfl⟩ (fun i σ' H' _ ⟨e, _⟩ => e ▸ SqL.of ep) ?_ ?_
        · rintro i z σ' H' hz ⟨rfl, hall, zz, rfl⟩
          obtain ⟨t, et, dt⟩ := hx.get _ hz
          simp only [tSeq, tAsg, tRet, tRetN, tDrop, tNext, tVar, tC, gName, tOp, tUn, rI, rI0, rU, tIfS, tTest, tB, tIf, tAnd, tOr, tNot, tAndV, tOrV, tNotV, tCall, tCons, tNil, tCB, tLst, tTup, tChain, CMul, CDiv, CPow, rEq, rNe, gSub, L2.start, LL.cxK0, LL.cxK1, List.map_cons, List.map_nil, List.length_cons, List.length_nil, List.replicate_succ, List.replicate_zero, List.cons_append, List.nil_append, List.append_nil, List.getElem?_cons_zero, List.getElem?_cons_succ, List.set_cons_zero, List.set_cons_succ, Nat.add_sub_cancel, Nat.reduceAdd, Nat.reduceSub, Option.some.injEq, V.int.injEq, V.bl.injEq, V.ref.injEq, V.str.injEq, List.cons.injEq, and_true, true_and, and_false, false_and, exists_eq_left, exists_eq_left', exists_and_left, exists_and_right, exists_eq, exists_eq', LL.if_dec, reduceCtorEq, exists_false, exists_const, or_false, false_or, if_true, if_false, LL.rInt1, LL.rMx, LL.rMn, and_assoc, Int.reduceNeg, Int.reduceLT, Int.reduceLE, Int.reduceMul, Int.reduceAdd, Int.reduceSub, Int.reducePow, Int.reduceToNat, Nat.reducePow, Nat.reduceLT, true_or, or_true, Bool.not_true, Bool.not_false, Bool.false_eq_true, Bool.or_false, Bool.or_true, Bool.true_or, Bool.false_or, decide_true, decide_false, not_true_eq_false, not_false_eq_true, LL.scal_int, LL.scal_bl, LL.scal_str, LL.isInt, LL.isBl, LL.isStr, LL.isLst, LL.isTup, LL.isDic]
          refine use_isint dt ⟨_, rfl, ?_⟩
          cases hi : LL.isInt t with
          | true =>
            simp only [tSeq, tAsg, tRet, tRetN, tDrop, tNext, tVar, tC, gName, tOp, tUn, rI, rI0, rU, tIfS, tTest, tB, tIf, tAnd, tOr, tNot, tAndV, tOrV, tNotV, tCall, tCons, tNil, tCB, tLst, tTup, tChain, CMul, CDiv, CPow, rEq, rNe, gSub, L2.start, LL.cxK0, LL.cxK1, List.map_cons, List.map_nil, List.length_cons, List.length_nil, List.replicate_succ, List.replicate_zero, List.cons_append, List.nil_append, List.append_nil, List.getElem?_cons_zero, List.getElem?_cons_succ, List.set_cons_zero, List.set_cons_succ, Nat.add_sub_cancel, Nat.reduceAdd, Nat.reduceSub, Option.some.injEq, V.int.injEq, V.bl.injEq, V.ref.injEq, V.str.injEq, List.cons.injEq, and_true, true_and, and_false, false_and, exists_eq_left, exists_eq_left', exists_and_left, exists_and_right, exists_eq, exists_eq', LL.if_dec, reduceCtorEq, exists_false, exists_const, or_false, false_or, if_true, if_false, LL.rInt1, LL.rMx, LL.rMn, and_assoc, Int.reduceNeg, Int.reduceLT, Int.reduceLE, Int.reduceMul, Int.reduceAdd, Int.reduceSub, Int.reducePow, Int.reduceToNat, Nat.reducePow, Nat.reduceLT, true_or, or_true, Bool.not_true, Bool.not_false, Bool.false_eq_true, Bool.or_false, Bool.or_true, Bool.true_or, Bool.false_or, decide_true, decide_false, not_true_eq_false, not_false_eq_true, LL.scal_int, LL.scal_bl, LL.scal_str, LL.isInt, LL.isBl, LL.isStr, LL.isLst, LL.isTup, LL.isDic]
            rw [take_one et]
            intro u hu
            rcases List.mem_append.mp hu with h | h
            · exact hall u h
            · rw [List.mem_singleton.mp h]; exact hi
          | false =>
            simp only [tSeq, tAsg, tRet, tRetN, tDrop, tNext, tVar, tC, gName, tOp, tUn, rI, rI0, rU, tIfS, tTest, tB, tIf, tAnd, tOr, tNot, tAndV, tOrV, tNotV, tCall, tCons, tNil, tCB, tLst, tTup, tChain, CMul, CDiv, CPow, rEq, rNe, gSub, L2.start, LL.cxK0, LL.cxK1, List.map_cons, List.map_nil, List.length_cons, List.length_nil, List.replicate_succ, List.replicate_zero, List.cons_append, List.nil_append, List.append_nil, List.getElem?_cons_zero, List.getElem?_cons_succ, List.set_cons_zero, List.set_cons_succ, Nat.add_sub_cancel, Nat.reduceAdd, Nat.reduceSub, Option.some.injEq, V.int.injEq, V.bl.injEq, V.ref.injEq, V.str.injEq, List.cons.injEq, and_true, true_and, and_false, false_and, exists_eq_left, exists_eq_left', exists_and_left, exists_and_right, exists_eq, exists_eq', LL.if_dec, reduceCtorEq, exists_false, exists_const, or_false, false_or, if_true, if_false, LL.rInt1, LL.rMx, LL.rMn, and_assoc, Int.reduceNeg, Int.reduceLT, Int.reduceLE, Int.reduceMul, Int.reduceAdd, Int.reduceSub, Int.reducePow, Int.reduceToNat, Nat.reducePow, Nat.reduceLT, true_or, or_true, Bool.not_true, Bool.not_false, Bool.false_eq_true, Bool.or_false, Bool.or_true, Bool.true_or, Bool.false_or, decide_true, decide_false, not_true_eq_false, not_false_eq_true, LL.scal_int, LL.scal_bl, LL.scal_str, LL.isInt, LL.isBl, LL.isStr, LL.isLst, LL.isTup, LL.isDic]
            refine q2 ?_
            cases h : us.all LL.isInt with
            | false => rfl
            | true =>
              have := List.all_eq_true.mp h t (List.mem_of_getElem? et)
              rw [hi] at this
              cases this
        · rintro σ' H' ⟨rfl, hall, zz, rfl⟩
          simp only [tSeq, tAsg, tRet, tRetN, tDrop, tNext, tVar, tC, gName, tOp, tUn, rI, rI0, rU, tIfS, tTest, tB, tIf, tAnd, tOr, tNot, tAndV, tOrV, tNotV, tCall, tCons, tNil, tCB, tLst, tTup, tChain, CMul, CDiv, CPow, rEq, rNe, gSub, L2.start, LL.cxK0, LL.cxK1, List.map_cons, List.map_nil, List.length_cons, List.length_nil, List.replicate_succ, List.replicate_zero, List.cons_append, List.nil_append, List.append_nil, List.getElem?_cons_zero, List.getElem?_cons_succ, List.set_cons_zero, List.set_cons_succ, Nat.add_sub_cancel, Nat.reduceAdd, Nat.reduceSub, Option.some.injEq, V.int.injEq, V.bl.injEq, V.ref.injEq, V.str.injEq, List.cons.injEq, and_true, true_and, and_false, false_and, exists_eq_left, exists_eq_left', exists_and_left, exists_and_right, exists_eq, exists_eq', LL.if_dec, reduceCtorEq, exists_false, exists_const, or_false, false_or, if_true, if_false, LL.rInt1, LL.rMx, LL.rMn, and_assoc, Int.reduceNeg, Int.reduceLT, Int.reduceLE, Int.reduceMul, Int.reduceAdd, Int.reduceSub, Int.reducePow, Int.reduceToNat, Nat.reducePow, Nat.reduceLT, true_or, or_true, Bool.not_true, Bool.not_false, Bool.false_eq_true, Bool.or_false, Bool.or_true, Bool.true_or, Bool.false_or, decide_true, decide_false, not_true_eq_false, not_false_eq_true, LL.scal_int, LL.scal_bl, LL.scal_str, LL.isInt, LL.isBl, LL.isStr, LL.isLst, LL.isTup, LL.isDic]
          rw [hx.len, List.take_length] at hall
          exact q1 (List.all_eq_true.mpr hall)
      have lx : (xs.length : Int) = us.length := by rw [hx.len]
      have eq : intsB true m (.lst us) = ((decide (m < 0) || decide ((us.length : Int) = m)) && us.all LL.isInt) := by simp [intsB]
      rw [eq] at q
      refine itei (fun h => ?_) (fun h => hall (fun e => ?_) (fun e => ?_))
      · refine use_lenL ep ⟨scal_int.mpr trivial, ?_⟩
        by_cases hl : (us.length : Int) = m
        · rw [if_neg (by simp [lx, hl])]
          refine hall (fun e => ?_) (fun e => ?_)
          · rw [e, decide_eq_true hl, Bool.or_true] at q; exact q
          · rw [e, Bool.and_false] at q; exact q
        · rw [if_pos (by simp [lx, hl])]
          rw [decide_eq_false hl, decide_eq_false (show ¬ m < 0 by omega)] at q; exact q
      · rw [e, decide_eq_true (show m < 0 by omega)] at q; exact q
      · rw [e, Bool.and_false] at q; exact q
    | _ =>
      repeat (first | refine use_isi hd (kit_int _) ?_ | refine use_isi hd (kit_bool _) ?_ | refine use_isi hd (kit_str _) ?_ | refine use_isi hd (kit_list _) ?_ | refine use_isi hd (kit_tuple _) ?_ | refine use_isi hd (kit_dict _) ?_ | refine And.intro (show scal _ _ = true from rfl) ?_ | simp only [tSeq, tAsg, tRet, tRetN, tDrop, tNext, tVar, tC, gName, tOp, tUn, rI, rI0, rU, tIfS, tTest, tB, tIf, tAnd, tOr, tNot, tAndV, tOrV, tNotV, tCall, tCons, tNil, tCB, tLst, tTup, tChain, CMul, CDiv, CPow, rEq, rNe, gSub, L2.start, LL.cxK0, LL.cxK1, List.map_cons, List.map_nil, List.length_cons, List.length_nil, List.replicate_succ, List.replicate_zero, List.cons_append, List.nil_append, List.append_nil, List.getElem?_cons_zero, List.getElem?_cons_succ, List.set_cons_zero, List.set_cons_succ, Nat.add_sub_cancel, Nat.reduceAdd, Nat.reduceSub, Option.some.injEq, V.int.injEq, V.bl.injEq, V.ref.injEq, V.str.injEq, List.cons.injEq, and_true, true_and, and_false, false_and, exists_eq_left, exists_eq_left', exists_and_left, exists_and_right, exists_eq, exists_eq', LL.if_dec, reduceCtorEq, exists_false, exists_const, or_false, false_or, if_true, if_false, LL.rInt1, LL.rMx, LL.rMn, and_assoc, Int.reduceNeg, Int.reduceLT, Int.reduceLE, Int.reduceMul, Int.reduceAdd, Int.reduceSub, Int.reducePow, Int.reduceToNat, Nat.reducePow, Nat.reduceLT, true_or, or_true, Bool.not_true, Bool.not_false, Bool.false_eq_true, Bool.or_false, Bool.or_true, Bool.true_or, Bool.false_or, decide_true, decide_false, not_true_eq_false, not_false_eq_true, LL.scal_int, LL.scal_bl, LL.scal_str, LL.isInt, LL.isBl, LL.isStr, LL.isLst, LL.isTup, LL.isDic])
      exact q
end K26

namespace K26
open PySem PySem.Spec PyProof.Rows L2 LL
variable {P : Program} {w : World} {K : PySem.W.Frag} {mg : Str → Option Value} {base : Heap}

def SZ : List Int := [1, 2, 3, 4, 6, 8, 12, 16, 24, 32]
def csz (w : Int) : List Int := SZ.filter fun z => decide (z ≤ w / 2)
def szB : LL.T → Bool
  | .int i => decide (i ∈ SZ)
  | _ => false
theorem sz_of {t : LL.T} (h : szB t = true) : ∃ i, t = .int i ∧ i ∈ SZ := by
  cases t with
  | int i => exact ⟨i, rfl, of_decide_eq_true h⟩
  | _ => cases h
def calN (z : Int) : Int := min (Builtin.bitAnd z (-z)) 4
def ordF (w z : Int) : Nat := ((List.range 9).find? fun k => decide (2 ≤ slts w (k : Nat) z (calN z))).getD 9
theorem cal_fact : ∀ z ∈ SZ, calN z = 2 ^ 0 ∨ calN z = 2 ^ 1 ∨ calN z = 2 ^ 2 := by decide +kernel
theorem sz_fact : ∀ z ∈ SZ, 1 ≤ z ∧ z ≤ 32 := by decide +kernel
theorem cal_pow {z : Int} (h : z ∈ SZ) : ∃ j : Nat, calN z = 2 ^ j ∧ j ≤ 2 ∧ (2 : Int) ^ j ≤ 4 := by
  rcases cal_fact z h with e | e | e
  · exact ⟨0, e, by decide, by decide⟩
  · exact ⟨1, e, by decide, by decide⟩
  · exact ⟨2, e, by decide, by decide⟩
theorem ord_fact : ∀ w ∈ ([16, 32, 64] : List Int), ∀ z ∈ SZ, ordF w z ≤ 8 ∧ 2 ≤ slts w (ordF w z : Nat) z (calN z) ∧ ∀ k, k < ordF w z → slts w (k : Nat) z (calN z) < 2 := by decide +kernel
def sp_class_sizes (K : PySem.W.Frag) : Sp := fun vs H Q E => ∃ (F : Addr → Prop) (v : V) (t : LL.T), vs = [v] ∧ Dt F H v t ∧ (widB t = false → ∀ d H', BadH H H' d (.str "width") → E (.ref (aBV K)) (some d) H') ∧
  (∀ w, t = .int w → widB t = true → ∀ r H', Same H H' → H r = none → H' r = some (.lst ((csz w).map V.int)) → Q (.ref r) H')
def sp_class_align (K : PySem.W.Frag) : Sp := fun vs H Q E => ∃ (F : Addr → Prop) (v : V) (t : LL.T), vs = [v] ∧ Dt F H v t ∧ (szB t = false → ∀ d H', BadH H H' d (.str "size") → E (.ref (aBV K)) (some d) H') ∧ (∀ z, t = .int z → z ∈ SZ → Q (.int (calN z)) H)
theorem take_filter {p : Int → Bool} {l : List Int} {i : Nat} {x : Int} (h : l[i]? = some x) : (l.take (i + 1)).filter p = (l.take i).filter p ++ (if p x = true then [x] else []) := by
  rw [take_one h, List.filter_append]
  simp [List.filter_cons]

theorem ok_class_sizes (T : Tx K mg) : FnOk P w K mg base (L2.CX P w) 4 (He.ga K "class_sizes") T.fd_class_sizes P_class_sizes (sp_class_sizes K) := by
  refine T.F_class_sizes.ok sc_class_sizes (fun vs H Q E h => ?_) (fun cdv A outer s H vs Q E hr h => ⟨_, (pss_cons (ps_expr (pe_call (ok_need T) hr rfl T.g_need T.F_need.kp (b_need T) .nil (passR (takes_of rfl rfl rfl rfl) (fun _ _ _ _ h => h)) (pa_cons (pe_call (ok_is_width T) (hr.mono (by decide)) rfl T.g_is_width T.F_is_width.kp (b_is_width T) .nil pass0 (pa_cons (pv 0) pa_nil)) (pa_cons (pe_str) pa_nil)))) (pss_one (ps_ret (pe_lc (own := [("size", 1)]) (by rfl) sc_class_sizes.nd (pi_tup (pe_glob (v := .ref (He.ga K "SIZES")) (u := .ref (He.ga K "SIZES")) rfl T.g_SIZES rfl)) (blkOk_by (N := N_class_sizes) (sc := defScope s_class_sizes) (by decide +kernel)) (fun _ _ _ _ _ => (pg_name (i := 1) sc_class_sizes.nd rfl (Or.inl rfl))) (fun _ _ _ _ _ => pts_one (pt_cmpR op_le (pv 1) (pe_op op_fdiv (pv 0) (pe_int)) (nomark _))) (fun _ _ _ _ _ => (pv 1)))))), ?_⟩)
  · obtain ⟨_, _, _, rfl, _⟩ := h
    rfl
  · obtain ⟨F, v, t, rfl, d1, q1, q2⟩ := h
    simp only [tSeq, tAsg, tRet, tRetN, tDrop, tNext, tVar, tC, gName, tOp, tUn, rI, rI0, rU, tIfS, tTest, tB, tIf, tAnd, tOr, tNot, tAndV, tOrV, tNotV, tCall, tCons, tNil, tCB, tLst, tTup, tChain, CMul, CDiv, CPow, rEq, rNe, gSub, L2.start, LL.cxK0, LL.cxK1, List.map_cons, List.map_nil, List.length_cons, List.length_nil, List.replicate_succ, List.replicate_zero, List.cons_append, List.nil_append, List.append_nil, List.getElem?_cons_zero, List.getElem?_cons_succ, List.set_cons_zero, List.set_cons_succ, Nat.add_sub_cancel, Nat.reduceAdd, Nat.reduceSub, Option.some.injEq, V.int.injEq, V.bl.injEq, V.ref.injEq, V.str.injEq, List.cons.injEq, and_true, true_and, and_false, false_and, exists_eq_left, exists_eq_left', exists_and_left, exists_and_right, exists_eq, exists_eq', LL.if_dec, reduceCtorEq, exists_false, exists_const, or_false, false_or, if_true, if_false, LL.rInt1, LL.rMx, LL.rMn, and_assoc, Int.reduceNeg, Int.reduceLT, Int.reduceLE, Int.reduceMul, Int.reduceAdd, Int.reduceSub, Int.reducePow, Int.reduceToNat, Nat.reducePow, Nat.reduceLT, true_or, or_true, Bool.not_true, Bool.not_false, Bool.false_eq_true, Bool.or_false, Bool.or_true, Bool.true_or, Bool.false_or, decide_true, decide_false, not_true_eq_false, not_false_eq_true, LL.scal_int, LL.scal_bl, LL.scal_str, LL.isInt, LL.isBl, LL.isStr, LL.isLst, LL.isTup, LL.isDic, N_class_sizes]
    refine ⟨F, v, t, rfl, d1, use_need (fun hw => ?_) q1⟩
    obtain ⟨w, rfl, hw2⟩ := wid_of hw
    obtain rfl : v = V.int w := d1
    replace q2 := q2 w rfl hw
    refine ⟨_, rfl, ⟨_, T.w_SIZES H⟩, fun D hD => ?_⟩
    refine lc_tup (K := K) (a := He.ga K "SIZES") (xs := SZ.map V.int) (fun i H' => Same H H' ∧ H' D = some (.lst (((SZ.take i).filter fun z => decide (z ≤ w / 2)).map V.int))) ⟨Same.new (Same.refl _) hD, upd_same⟩ (fun i H' _ ⟨s1, _⟩ => T.w_SIZES H') ?_ ?_
    · rintro i x H' hi ⟨s1, eD⟩
      rw [List.getElem?_map] at hi
      obtain ⟨n, hn2, rfl⟩ := Option.map_eq_some_iff.mp hi
      simp only [tSeq, tAsg, tRet, tRetN, tDrop, tNext, tVar, tC, gName, tOp, tUn, rI, rI0, rU, tIfS, tTest, tB, tIf, tAnd, tOr, tNot, tAndV, tOrV, tNotV, tCall, tCons, tNil, tCB, tLst, tTup, tChain, CMul, CDiv, CPow, rEq, rNe, gSub, L2.start, LL.cxK0, LL.cxK1, List.map_cons, List.map_nil, List.length_cons, List.length_nil, List.replicate_succ, List.replicate_zero, List.cons_append, List.nil_append, List.append_nil, List.getElem?_cons_zero, List.getElem?_cons_succ, List.set_cons_zero, List.set_cons_succ, Nat.add_sub_cancel, Nat.reduceAdd, Nat.reduceSub, Option.some.injEq, V.int.injEq, V.bl.injEq, V.ref.injEq, V.str.injEq, List.cons.injEq, and_true, true_and, and_false, false_and, exists_eq_left, exists_eq_left', exists_and_left, exists_and_right, exists_eq, exists_eq', LL.if_dec, reduceCtorEq, exists_false, exists_const, or_false, false_or, if_true, if_false, LL.rInt1, LL.rMx, LL.rMn, and_assoc, Int.reduceNeg, Int.reduceLT, Int.reduceLE, Int.reduceMul, Int.reduceAdd, Int.reduceSub, Int.reducePow, Int.reduceToNat, Nat.reducePow, Nat.reduceLT, true_or, or_true, Bool.not_true, Bool.not_false, Bool.false_eq_true, Bool.or_false, Bool.or_true, Bool.true_or, Bool.false_or, decide_true, decide_false, not_true_eq_false, not_false_eq_true, LL.scal_int, LL.scal_bl, LL.scal_str, LL.isInt, LL.isBl, LL.isStr, LL.isLst, LL.isTup, LL.isDic, tYes, wipe, List.foldl_cons, List.foldl_nil]
      refine itei (fun h => ?_) (fun h => ⟨s1, ?_⟩)
      · refine ⟨_, eD, small_sz ?_, Same.own s1 hD, ?_⟩
        · rw [List.length_map]
          exact Nat.le_trans (List.length_filter_le _ _) (by rw [List.length_take]; exact Nat.le_trans (Nat.min_le_right _ _) (by decide))
        · rw [upd_same, take_filter hn2, if_pos (decide_eq_true h), List.map_append]
          rfl
      · rw [take_filter hn2, if_neg (by simpa using h), List.append_nil]
        exact eD
    · rintro H' ⟨s1, eD⟩
      rw [List.length_map, List.take_length] at eD
      exact q2 _ _ s1 hD eD
theorem ok_class_align (T : Tx K mg) : FnOk P w K mg base (L2.CX P w) 5 (He.ga K "class_align") T.fd_class_align P_class_align (sp_class_align K) := by
  refine T.F_class_align.ok sc_class_align (fun vs H Q E h => ?_) (fun cdv A outer s H vs Q E hr h => ⟨_, (pss_cons (ps_expr (pe_call (ok_need T) (hr.mono (by decide)) rfl T.g_need T.F_need.kp (b_need T) .nil (passR (takes_of rfl rfl rfl rfl) (fun _ _ _ _ h => h)) (pa_cons ((pe_and (pe_call (ok_is_whole T) (hr.mono (by decide)) rfl T.g_is_whole T.F_is_whole.kp (b_is_whole T) .nil pass0 (pa_cons (pv 0) pa_nil)) (pe_one (pe_cmpR op_in_seq (pv 0) (pe_glob (v := .ref (He.ga K "SIZES")) (u := .ref (He.ga K "SIZES")) rfl T.g_SIZES rfl) (by rfl))))) (pa_cons (pe_str) pa_nil)))) (pss_one (ps_ret (pe_callB (LL.call_mn rfl) (by rfl) T.z_min (by decide +kernel) (pa_cons (pe_call (ok_power_in T) hr rfl T.g_power_in T.F_power_in.kp (b_power_in T) .nil (passR (takes_of rfl rfl rfl rfl) (fun _ _ _ _ h => h)) (pa_cons (pv 0) pa_nil)) (pa_cons (pe_glob (v := .int 4) rfl T.c_MOST_CLASS_ALIGN.choose_spec ⟨_, rfl⟩) pa_nil)))))), ?_⟩)
  · obtain ⟨_, _, _, rfl, _⟩ := h
    rfl
  · obtain ⟨F, v, t, rfl, d1, q1, q2⟩ := h
    simp only [tSeq, tAsg, tRet, tRetN, tDrop, tNext, tVar, tC, gName, tOp, tUn, rI, rI0, rU, tIfS, tTest, tB, tIf, tAnd, tOr, tNot, tAndV, tOrV, tNotV, tCall, tCons, tNil, tCB, tLst, tTup, tChain, CMul, CDiv, CPow, rEq, rNe, gSub, L2.start, LL.cxK0, LL.cxK1, List.map_cons, List.map_nil, List.length_cons, List.length_nil, List.replicate_succ, List.replicate_zero, List.cons_append, List.nil_append, List.append_nil, List.getElem?_cons_zero, List.getElem?_cons_succ, List.set_cons_zero, List.set_cons_succ, Nat.add_sub_cancel, Nat.reduceAdd, Nat.reduceSub, Option.some.injEq, V.int.injEq, V.bl.injEq, V.ref.injEq, V.str.injEq, List.cons.injEq, and_true, true_and, and_false, false_and, exists_eq_left, exists_eq_left', exists_and_left, exists_and_right, exists_eq, exists_eq', LL.if_dec, reduceCtorEq, exists_false, exists_const, or_false, false_or, if_true, if_false, LL.rInt1, LL.rMx, LL.rMn, and_assoc, Int.reduceNeg, Int.reduceLT, Int.reduceLE, Int.reduceMul, Int.reduceAdd, Int.reduceSub, Int.reducePow, Int.reduceToNat, Nat.reducePow, Nat.reduceLT, true_or, or_true, Bool.not_true, Bool.not_false, Bool.false_eq_true, Bool.or_false, Bool.or_true, Bool.true_or, Bool.false_or, decide_true, decide_false, not_true_eq_false, not_false_eq_true, LL.scal_int, LL.scal_bl, LL.scal_str, LL.isInt, LL.isBl, LL.isStr, LL.isLst, LL.isTup, LL.isDic, N_class_align]
    refine use_isint d1 ⟨_, rfl, ?_⟩
    cases t with
    | int i =>
      obtain rfl : v = V.int i := d1
      rw [if_pos (by simp [LL.isInt])]
      have e : inV (V.int i) [V.int 1, V.int 2, V.int 3, V.int 4, V.int 6, V.int 8, V.int 12, V.int 16, V.int 24, V.int 32] = szB (.int i) := by
        rw [Bool.eq_iff_iff]
        simp only [inV, eqV, szB, SZ, List.any_cons, List.any_nil, Bool.or_eq_true, Bool.or_false, beq_iff_eq, decide_eq_true_eq, List.mem_cons, List.not_mem_nil, or_false]
        omega
      refine ⟨_, _, rfl, .inr (T.w_SIZES H), rfl, rfl, ?_⟩
      rw [if_neg (by simp), e]
      refine use_need (fun hz => ?_) q1
      obtain ⟨_, ei, hz⟩ := sz_of hz
      cases ei
      obtain ⟨b1, b2⟩ := sz_fact i hz
      refine ⟨fun _ => True, _, .int i, rfl, rfl, fun h => absurd (show InR 1 1000000000 (.int i) from ⟨b1, by omega⟩) h, fun c ec _ => ?_⟩
      cases ec
      exact ⟨_, rfl, q2 i rfl hz⟩
    | _ =>
      rw [if_neg (by simp [LL.isInt])]
      exact use_need (fun z => by cases z) fun _ => q1 rfl
def coBad (a b : LL.T) : Option Str := if widB a = false then some "width" else if szB b = false then some "size" else none
def cfBad (a b c : LL.T) : Option Str := if widB a = false then some "width" else if ¬ InR 1 1000000000 b then some "size" else if alB 1073741824 c = false then some "align" else none
def sp_has_slots : Sp := fun vs H Q _ => ∃ (F : Addr → Prop) (v : V) (w k z : Int) (a : Int), vs = [v] ∧ Dt F H v (shT w k z a) ∧ 0 ≤ slts w k z a ∧ Q (.bl (decide (2 ≤ slts w k z a))) H

theorem ok_has_slots (T : Tx K mg) : FnOk P w K mg base CX0 1 (He.ga K "has_slots") T.fd_has_slots P_has_slots sp_has_slots := by
  refine T.F_has_slots.ok sc_has_slots (fun vs H Q E h => ?_) (fun cdv A outer s H vs Q E hr h => ⟨_, PSs.nox (pss_one (ps_ret ((pe_and (pe_cmpR op_notN (pv 0) (pe_non) (nomark _)) (pe_one (pe_cmpR op_ge (pe_ix (show IxR _ (rIxT K) from ix_tup) (pv 0) (pe_int) (fun _ _ => rfl)) (pe_glob (v := .int 2) rfl T.c_LEAST_SLOTS.choose_spec ⟨_, rfl⟩) (nomark _))))))), ?_⟩)
  · obtain ⟨_, _, _, _, _, _, rfl, _⟩ := h
    rfl
  · obtain ⟨F, v, w, k, z, a, rfl, d1, h0, q⟩ := h
    simp only [tSeq, tAsg, tRet, tRetN, tDrop, tNext, tVar, tC, gName, tOp, tUn, rI, rI0, rU, tIfS, tTest, tB, tIf, tAnd, tOr, tNot, tAndV, tOrV, tNotV, tCall, tCons, tNil, tCB, tLst, tTup, tChain, CMul, CDiv, CPow, rEq, rNe, gSub, L2.start, LL.cxK0, LL.cxK1, List.map_cons, List.map_nil, List.length_cons, List.length_nil, List.replicate_succ, List.replicate_zero, List.cons_append, List.nil_append, List.append_nil, List.getElem?_cons_zero, List.getElem?_cons_succ, List.set_cons_zero, List.set_cons_succ, Nat.add_sub_cancel, Nat.reduceAdd, Nat.reduceSub, Option.some.injEq, V.int.injEq, V.bl.injEq, V.ref.injEq, V.str.injEq, List.cons.injEq, and_true, true_and, and_false, false_and, exists_eq_left, exists_eq_left', exists_and_left, exists_and_right, exists_eq, exists_eq', LL.if_dec, reduceCtorEq, exists_false, exists_const, or_false, false_or, if_true, if_false, LL.rInt1, LL.rMx, LL.rMn, and_assoc, Int.reduceNeg, Int.reduceLT, Int.reduceLE, Int.reduceMul, Int.reduceAdd, Int.reduceSub, Int.reducePow, Int.reduceToNat, Nat.reducePow, Nat.reduceLT, true_or, or_true, Bool.not_true, Bool.not_false, Bool.false_eq_true, Bool.or_false, Bool.or_true, Bool.true_or, Bool.false_or, decide_true, decide_false, not_true_eq_false, not_false_eq_true, LL.scal_int, LL.scal_bl, LL.scal_str, LL.isInt, LL.isBl, LL.isStr, LL.isLst, LL.isTup, LL.isDic, N_has_slots]
    unfold shT at d1
    by_cases hs : slts w k z a = 0
    · rw [if_pos hs] at d1
      obtain rfl : v = V.non := d1
      rw [if_neg (by simp)]
      rw [decide_eq_false (by omega)] at q
      exact q
    · rw [if_neg hs] at d1
      obtain ⟨p, xs, rfl, fp, ep, hx, hz⟩ := d1
      obtain ⟨y1, _, rfl, e1, y2, _, rfl, e2, y3, _, rfl, e3, rfl⟩ := hx
      obtain rfl : y2 = V.int (slts w k z a) := e2
      rw [if_pos (by simp)]
      exact use_ixT ep rfl ⟨_, rfl, q⟩
def sp_class_order (K : PySem.W.Frag) : Sp := fun vs H Q E => ∃ (F G : Addr → Prop) (v x : V) (t u : LL.T), vs = [v, x] ∧ Dt F H v t ∧ Dt G H x u ∧ (∀ n, coBad t u = some n → ∀ d H', BadH H H' d (.str n) → E (.ref (aBV K)) (some d) H') ∧
  (∀ w z, t = .int w → u = .int z → widB t = true → z ∈ SZ → ∀ H', Same H H' → Q (.int (ordF w z : Nat)) H')
theorem shp_cls {w z : Int} {k : Nat} (hw : widB (.int w) = true) (hz : z ∈ SZ) (hk : k ≤ 8) : ∃ j : Nat, calN z = 2 ^ j ∧ Shp w (k : Nat) z j := by
  obtain ⟨j, e, _, h4⟩ := cal_pow hz
  obtain ⟨_, ew, hw⟩ := wid_of hw
  cases ew
  obtain ⟨z1, z2⟩ := sz_fact z hz
  exact ⟨j, e, hw, by omega, by omega, z1, by omega, by omega⟩
theorem shp_good {w k z : Int} {j : Nat} (S : Shp w k z j) : shBad (.int w) (.int k) (.int z) (.int (2 ^ j)) = none := by
  have e1 : ¬ widB (.int w) = false := by
    have : widB (.int w) = true := decide_eq_true S.hw
    rw [this]; simp
  have e2 : InR 0 8 (.int k) := ⟨S.k0, S.k1⟩
  have e3 : InR 1 4096 (.int z) := ⟨S.z0, S.z1⟩
  have e4 : ¬ alB w (.int (2 ^ j)) = false := by
    have : alB w (.int (2 ^ j)) = true := by
      show (isP (2 ^ j) && _) = true
      rw [isP_pow, decide_eq_true S.ha]
      rfl
    rw [this]; simp
  unfold shBad
  rw [if_neg e1, if_neg (by simpa using e2), if_neg (by simpa using e3)]
  exact if_neg e4
theorem slts_nn {w k z : Int} {j : Nat} (S : Shp w k z j) : 0 ≤ slts w k z (2 ^ j) := Int.ediv_nonneg (room_b S).1 (Int.le_of_lt (strd_pos S).1)
theorem use_shape {K : PySem.W.Frag} {w k z : Int} {j : Nat} {H : Hp} {Q : VK} {E : XK} (S : Shp w k z j) (q : ∀ r H', Same H H' → Dt (fun a => H a = none) H' r (shT w k z (2 ^ j)) → Q r H') : sp_slab_shape K [.int w, .int k, .int z, .int (2 ^ j)] H Q E :=
  ⟨fun _ => True, fun _ => True, fun _ => True, fun _ => True, _, _, _, _, .int w, .int k, .int z, .int (2 ^ j), rfl, rfl, rfl, rfl, rfl, fun n h => by rw [shp_good S] at h; (cases h), fun _ => q⟩
theorem wid_mem {w : Int} (h : widB (.int w) = true) : w ∈ ([16, 32, 64] : List Int) := by
  have := of_decide_eq_true h
  simpa using this

theorem ok_class_order (T : Tx K mg) : FnOk P w K mg base (L2.CX P w) 7 (He.ga K "class_order") T.fd_class_order P_class_order (sp_class_order K) := by
  refine T.F_class_order.ok sc_class_order (fun vs H Q E h => ?_) (fun cdv A outer s H vs Q E hr h => ⟨_, (pss_cons (ps_expr (pe_call (ok_need T) (hr.mono (by decide)) rfl T.g_need T.F_need.kp (b_need T) .nil (passR (takes_of rfl rfl rfl rfl) (fun _ _ _ _ h => h)) (pa_cons (pe_call (ok_is_width T) (hr.mono (by decide)) rfl T.g_is_width T.F_is_width.kp (b_is_width T) .nil pass0 (pa_cons (pv 0) pa_nil)) (pa_cons (pe_str) pa_nil)))) (pss_cons (ps_set (i := 2) sc_class_order.nd rfl (Or.inl rfl) (pe_call (ok_class_align T) (hr.mono (by decide)) rfl T.g_class_align T.F_class_align.kp (b_class_align T) .nil (passR (takes_of rfl rfl rfl rfl) (fun _ _ _ _ h => h)) (pa_cons (pv 1) pa_nil))) (pss_cons (ps_set (i := 3) sc_class_order.nd rfl (Or.inl rfl) (pe_int)) (pss_cons (ps_while (passes_of rfl) (pt_not (pt_val (pe_call (ok_has_slots T) (hr.mono (by decide)) rfl T.g_has_slots T.F_has_slots.kp (b_has_slots T) .nil pass0 (pa_cons (pe_call (ok_slab_shape T) hr rfl T.g_slab_shape T.F_slab_shape.kp (b_slab_shape T) .nil (passR (takes_of rfl rfl rfl rfl) (fun _ _ _ _ h => h)) (pa_cons (pv 0) (pa_cons (pv 3) (pa_cons (pv 1) (pa_cons (pv 2) pa_nil))))) pa_nil)))) (pss_one (ps_set (i := 3) sc_class_order.nd rfl (Or.inl rfl) (pe_op op_add (pv 3) (pe_int))))) (pss_one (ps_ret (pv 3))))))), ?_⟩)
  · obtain ⟨_, _, _, _, _, _, rfl, _⟩ := h
    rfl
  · obtain ⟨F, G, v, x, t, u, rfl, d1, d2, q1, q2⟩ := h
    simp only [tSeq, tAsg, tRet, tRetN, tDrop, tNext, tVar, tC, gName, tOp, tUn, rI, rI0, rU, tIfS, tTest, tB, tIf, tAnd, tOr, tNot, tAndV, tOrV, tNotV, tCall, tCons, tNil, tCB, tLst, tTup, tChain, CMul, CDiv, CPow, rEq, rNe, gSub, L2.start, LL.cxK0, LL.cxK1, List.map_cons, List.map_nil, List.length_cons, List.length_nil, List.replicate_succ, List.replicate_zero, List.cons_append, List.nil_append, List.append_nil, List.getElem?_cons_zero, List.getElem?_cons_succ, List.set_cons_zero, List.set_cons_succ, Nat.add_sub_cancel, Nat.reduceAdd, Nat.reduceSub, Option.some.injEq, V.int.injEq, V.bl.injEq, V.ref.injEq, V.str.injEq, List.cons.injEq, and_true, true_and, and_false, false_and, exists_eq_left, exists_eq_left', exists_and_left, exists_and_right, exists_eq, exists_eq', LL.if_dec, reduceCtorEq, exists_false, exists_const, or_false, false_or, if_true, if_false, LL.rInt1, LL.rMx, LL.rMn, and_assoc, Int.reduceNeg, Int.reduceLT, Int.reduceLE, Int.reduceMul, Int.reduceAdd, Int.reduceSub, Int.reducePow, Int.reduceToNat, Nat.reducePow, Nat.reduceLT, true_or, or_true, Bool.not_true, Bool.not_false, Bool.false_eq_true, Bool.or_false, Bool.or_true, Bool.true_or, Bool.false_or, decide_true, decide_false, not_true_eq_false, not_false_eq_true, LL.scal_int, LL.scal_bl, LL.scal_str, LL.isInt, LL.isBl, LL.isStr, LL.isLst, LL.isTup, LL.isDic, N_class_order]
    refine ⟨F, v, t, rfl, d1, use_need (fun hw => ?_) (fun hw => q1 _ (by unfold coBad; rw [if_pos hw]))⟩
    have hw' : ¬ widB t = false := by rw [hw]; simp
    refine ⟨G, x, u, rfl, d2, fun hz => q1 _ (by unfold coBad; rw [if_neg hw', if_pos hz]), fun z eu hz => ?_⟩
    subst eu
    obtain ⟨w, rfl, _⟩ := wid_of hw
    obtain rfl : v = V.int w := d1
    obtain rfl : x = V.int z := d2
    replace q2 := q2 w z rfl rfl hw hz
    obtain ⟨f1, f2, f3⟩ := ord_fact w (wid_mem hw) z hz
    refine use_while (fun m σ' H' => ∃ k : Nat, m + k = ordF w z ∧ Same H H' ∧ σ' = [some (.int w), some (.int z), some (.int (calN z)), some (.int k)]) (ordF w z) ⟨0, rfl, Same.refl _, rfl⟩ ?_
    rintro m σ' H' ⟨k, hm, s1, rfl⟩
    obtain ⟨j, ej, S⟩ := shp_cls (k := k) hw hz (by omega)
    rw [ej] at f2 f3 ⊢
    simp only [tSeq, tAsg, tRet, tRetN, tDrop, tNext, tVar, tC, gName, tOp, tUn, rI, rI0, rU, tIfS, tTest, tB, tIf, tAnd, tOr, tNot, tAndV, tOrV, tNotV, tCall, tCons, tNil, tCB, tLst, tTup, tChain, CMul, CDiv, CPow, rEq, rNe, gSub, L2.start, LL.cxK0, LL.cxK1, List.map_cons, List.map_nil, List.length_cons, List.length_nil, List.replicate_succ, List.replicate_zero, List.cons_append, List.nil_append, List.append_nil, List.getElem?_cons_zero, List.getElem?_cons_succ, List.set_cons_zero, List.set_cons_succ, Nat.add_sub_cancel, Nat.reduceAdd, Nat.reduceSub, Option.some.injEq, V.int.injEq, V.bl.injEq, V.ref.injEq, V.str.injEq, List.cons.injEq, and_true, true_and, and_false, false_and, exists_eq_left, exists_eq_left', exists_and_left, exists_and_right, exists_eq, exists_eq', LL.if_dec, reduceCtorEq, exists_false, exists_const, or_false, false_or, if_true, if_false, LL.rInt1, LL.rMx, LL.rMn, and_assoc, Int.reduceNeg, Int.reduceLT, Int.reduceLE, Int.reduceMul, Int.reduceAdd, Int.reduceSub, Int.reducePow, Int.reduceToNat, Nat.reducePow, Nat.reduceLT, true_or, or_true, Bool.not_true, Bool.not_false, Bool.false_eq_true, Bool.or_false, Bool.or_true, Bool.true_or, Bool.false_or, decide_true, decide_false, not_true_eq_false, not_false_eq_true, LL.scal_int, LL.scal_bl, LL.scal_str, LL.isInt, LL.isBl, LL.isStr, LL.isLst, LL.isTup, LL.isDic]
    refine use_shape S fun r H2 s2 hr => ?_
    refine ⟨_, r, w, k, z, 2 ^ j, rfl, hr, slts_nn S, ?_⟩
    refine ⟨_, rfl, ?_⟩
    have hk : k ≤ ordF w z := by omega
    have g2 := s1.trans s2
    by_cases hs : 2 ≤ slts w k z (2 ^ j)
    · rw [if_neg (by simp [hs])]
      have e : k = ordF w z := by
        rcases Nat.lt_or_ge k (ordF w z) with hlt | hge
        · have := f3 k hlt; omega
        · omega
      rw [e]
      exact q2 _ g2
    · rw [if_pos (by simp [hs])]
      have hlt : k < ordF w z := by
        rcases Nat.lt_or_ge k (ordF w z) with hlt | hge
        · exact hlt
        · have e : k = ordF w z := by omega
          rw [e] at hs
          exact absurd f2 hs
      exact ⟨fun σ' H' => ∃ k' : Nat, k' = k + 1 ∧ Same H H' ∧ σ' = [some (.int w), some (.int z), some (.int (2 ^ j)), some (.int k')], fun σ' H' ⟨k', e, s, e2⟩ => ⟨m - 1, by omega, k', by omega, s, e2⟩, k + 1, rfl, g2, rfl⟩
theorem find_hit {α : Type} {p : α → Bool} : ∀ {l : List α} {i : Nat} {x : α}, l[i]? = some x → p x = true → (∀ j y, j < i → l[j]? = some y → p y = false) → l.findIdx? p = some i
  | [], i, x, h, _, _ => by cases h
  | a :: l, 0, x, h, hp, _ => by
    cases h
    rw [List.findIdx?_cons, if_pos hp]
  | a :: l, i + 1, x, h, hp, hn => by
    rw [List.findIdx?_cons, if_neg (by rw [hn 0 a (by omega) rfl]; simp), find_hit (l := l) (i := i) h hp fun j y hj hy => hn (j + 1) y (by omega) hy]
    rfl
theorem find_miss {α : Type} {p : α → Bool} {l : List α} (h : ∀ (j : Nat) y, l[j]? = some y → p y = false) : l.findIdx? p = none := by
  rw [List.findIdx?_eq_none_iff]
  intro x hx
  obtain ⟨j, hj⟩ := List.getElem?_of_mem hx
  exact h j x hj
def clsN (w z a : Int) : Option Nat := (csz w).findIdx? fun s => decide (z ≤ s ∧ a ≤ calN s)
def clsV (w z a : Int) : V := match clsN w z a with
  | some i => .int (i : Nat)
  | none => .non
def sp_class_of (K : PySem.W.Frag) : Sp := fun vs H Q E => ∃ (F1 F2 F3 : Addr → Prop) (v1 v2 v3 : V) (t1 t2 t3 : LL.T), vs = [v1, v2, v3] ∧ Dt F1 H v1 t1 ∧ Dt F2 H v2 t2 ∧ Dt F3 H v3 t3 ∧ (∀ n, cfBad t1 t2 t3 = some n → ∀ d H', BadH H H' d (.str n) → E (.ref (aBV K)) (some d) H') ∧
  (∀ w z a, t1 = .int w → t2 = .int z → t3 = .int a → cfBad t1 t2 t3 = none → ∀ H', Same H H' → Q (clsV w z a) H')
theorem csz_sz {w z : Int} (h : z ∈ csz w) : z ∈ SZ := (List.mem_filter.mp h).1

theorem ok_class_of (T : Tx K mg) : FnOk P w K mg base (L2.CX P w) 6 (He.ga K "class_of") T.fd_class_of P_class_of (sp_class_of K) := by
  refine T.F_class_of.ok sc_class_of (fun vs H Q E h => ?_) (fun cdv A outer s H vs Q E hr h => ⟨_, (pss_cons (ps_expr (pe_call (ok_need T) (hr.mono (by decide)) rfl T.g_need T.F_need.kp (b_need T) .nil (passR (takes_of rfl rfl rfl rfl) (fun _ _ _ _ h => h)) (pa_cons (pe_call (ok_is_width T) (hr.mono (by decide)) rfl T.g_is_width T.F_is_width.kp (b_is_width T) .nil pass0 (pa_cons (pv 0) pa_nil)) (pa_cons (pe_str) pa_nil)))) (pss_cons (ps_expr (pe_call (ok_need_whole T) (hr.mono (by decide)) rfl T.g_need_whole T.F_need_whole.kp (b_need_whole T) .nil (passR (takes_of rfl rfl rfl rfl) (fun _ _ _ _ h => h)) (pa_cons (pv 1) (pa_cons (pe_int) (pa_cons (pe_glob (v := .int 1000000000) rfl T.c_MOST_PLACE.choose_spec ⟨_, rfl⟩) (pa_cons (pe_str) pa_nil)))))) (pss_cons (ps_expr (pe_call (ok_need_align T) (hr.mono (by decide)) rfl T.g_need_align T.F_need_align.kp (b_need_align T) .nil (passR (takes_of rfl rfl rfl rfl) (fun _ _ _ _ h => h)) (pa_cons (pv 2) (pa_cons (pe_glob (v := .int 1073741824) rfl T.c_MOST_ALIGN.choose_spec ⟨_, rfl⟩) (pa_cons (pe_str) pa_nil))))) (pss_cons (ps_for (passes_of rfl) rfl (pi_enum rfl T.z_enumerate (pa_cons (pe_call (ok_class_sizes T) (hr.mono (by decide)) rfl T.g_class_sizes T.F_class_sizes.kp (b_class_sizes T) .nil (passR (takes_of rfl rfl rfl rfl) (fun _ _ _ _ h => h)) (pa_cons (pv 0) pa_nil)) pa_nil)) (pg_tup rfl (pgs_cons (pg_name (i := 3) sc_class_of.nd rfl (Or.inl rfl)) (pgs_cons (pg_name (i := 4) sc_class_of.nd rfl (Or.inl rfl)) pgs_nil))) (pss_one (ps_if (PW.pt (pw_and (pt_cmpR op_ge (pv 4) (pv 1) (nomark _)) (pw_and1 (pt_cmpR op_ge (pe_call (ok_class_align T) hr rfl T.g_class_align T.F_class_align.kp (b_class_align T) .nil (passR (takes_of rfl rfl rfl rfl) (fun _ _ _ _ h => h)) (pa_cons (pv 4) pa_nil)) (pv 2) (nomark _))))) (pss_one (ps_ret (pv 3))) pss_nil))) (pss_one (ps_ret (pe_non))))))), ?_⟩)
  · obtain ⟨_, _, _, _, _, _, _, _, _, rfl, _⟩ := h
    rfl
  · obtain ⟨F1, F2, F3, v1, v2, v3, t1, t2, t3, rfl, d1, d2, d3, q1, q2⟩ := h
    simp only [tSeq, tAsg, tRet, tRetN, tDrop, tNext, tVar, tC, gName, tOp, tUn, rI, rI0, rU, tIfS, tTest, tB, tIf, tAnd, tOr, tNot, tAndV, tOrV, tNotV, tCall, tCons, tNil, tCB, tLst, tTup, tChain, CMul, CDiv, CPow, rEq, rNe, gSub, L2.start, LL.cxK0, LL.cxK1, List.map_cons, List.map_nil, List.length_cons, List.length_nil, List.replicate_succ, List.replicate_zero, List.cons_append, List.nil_append, List.append_nil, List.getElem?_cons_zero, List.getElem?_cons_succ, List.set_cons_zero, List.set_cons_succ, Nat.add_sub_cancel, Nat.reduceAdd, Nat.reduceSub, Option.some.injEq, V.int.injEq, V.bl.injEq, V.ref.injEq, V.str.injEq, List.cons.injEq, and_true, true_and, and_false, false_and, exists_eq_left, exists_eq_left', exists_and_left, exists_and_right, exists_eq, exists_eq', LL.if_dec, reduceCtorEq, exists_false, exists_const, or_false, false_or, if_true, if_false, LL.rInt1, LL.rMx, LL.rMn, and_assoc, Int.reduceNeg, Int.reduceLT, Int.reduceLE, Int.reduceMul, Int.reduceAdd, Int.reduceSub, Int.reducePow, Int.reduceToNat, Nat.reducePow, Nat.reduceLT, true_or, or_true, Bool.not_true, Bool.not_false, Bool.false_eq_true, Bool.or_false, Bool.or_true, Bool.true_or, Bool.false_or, decide_true, decide_false, not_true_eq_false, not_false_eq_true, LL.scal_int, LL.scal_bl, LL.scal_str, LL.isInt, LL.isBl, LL.isStr, LL.isLst, LL.isTup, LL.isDic, N_class_of]
    refine ⟨F1, v1, t1, rfl, d1, use_need (fun hw => ?_) (fun hw => q1 _ (by unfold cfBad; rw [if_pos hw]))⟩
    have hw' : ¬ widB t1 = false := by rw [hw]; simp
    refine ⟨F2, v2, .str "size", t2, 1, 1000000000, rfl, d2, fun r2 => ?_, fun r2 => q1 _ (by unfold cfBad; rw [if_neg hw', if_pos r2])⟩
    refine ⟨F3, v3, t3, 1073741824, .str "align", rfl, d3, fun r3 => ?_, fun r3 => q1 _ (by unfold cfBad; rw [if_neg hw', if_neg (by simpa using r2), if_pos r3])⟩
    have hg : cfBad t1 t2 t3 = none := by unfold cfBad; rw [if_neg hw', if_neg (by simpa using r2), if_neg (by rw [r3]; simp)]
    obtain ⟨w, rfl, _⟩ := wid_of hw
    obtain ⟨z, rfl, _⟩ := inr_int r2
    obtain ⟨j, rfl, _⟩ := al_pos r3
    obtain rfl : v1 = V.int w := d1
    obtain rfl : v2 = V.int z := d2
    obtain rfl : v3 = V.int (2 ^ j) := d3
    replace q2 := q2 w z (2 ^ j) rfl rfl rfl hg
    have hp : ∀ s, (decide (z ≤ s ∧ (2 : Int) ^ j ≤ calN s) = false) = ¬ (z ≤ s ∧ (2 : Int) ^ j ≤ calN s) := fun s => by simp only [decide_eq_false_iff_not]
    refine use_forEX (R := fun a xs H' => Same H H' ∧ H' a = some (.lst xs) ∧ xs = (csz w).map V.int) (fun Q hQ => ⟨_, rfl, fun _ => True, _, .int w, rfl, rfl, fun h => absurd h hw', fun w' ew _ r H' s1 _ er => hQ _ _ _ ⟨s1, er, by cases ew; rfl⟩⟩)
      (fun a xs i σ' H' => Same H H' ∧ H' a = some (.lst xs) ∧ xs = (csz w).map V.int ∧ (∀ k y, k < i → (csz w)[k]? = some y → ¬ (z ≤ y ∧ (2 : Int) ^ j ≤ calN y)) ∧ ∃ x y : Option V, σ' = [some (.int w), some (.int z), some (.int (2 ^ j)), x, y]) (fun a xs H' ⟨s1, e1, e2⟩ => ⟨s1, e1, e2, fun k y hk => absurd hk (Nat.not_lt_zero _), _, _, rfl⟩) (fun a xs i σ' H' _ ⟨_, e1, _⟩ => SqL.of e1) ?_ ?_
    · rintro a xs i x T1 σ' H' hx ⟨s1, e1, rfl, hno, y1, y2, rfl⟩ hT
      rw [List.getElem?_map] at hx
      obtain ⟨s, hs, rfl⟩ := Option.map_eq_some_iff.mp hx
      simp only [tSeq, tAsg, tRet, tRetN, tDrop, tNext, tVar, tC, gName, tOp, tUn, rI, rI0, rU, tIfS, tTest, tB, tIf, tAnd, tOr, tNot, tAndV, tOrV, tNotV, tCall, tCons, tNil, tCB, tLst, tTup, tChain, CMul, CDiv, CPow, rEq, rNe, gSub, L2.start, LL.cxK0, LL.cxK1, List.map_cons, List.map_nil, List.length_cons, List.length_nil, List.replicate_succ, List.replicate_zero, List.cons_append, List.nil_append, List.append_nil, List.getElem?_cons_zero, List.getElem?_cons_succ, List.set_cons_zero, List.set_cons_succ, Nat.add_sub_cancel, Nat.reduceAdd, Nat.reduceSub, Option.some.injEq, V.int.injEq, V.bl.injEq, V.ref.injEq, V.str.injEq, List.cons.injEq, and_true, true_and, and_false, false_and, exists_eq_left, exists_eq_left', exists_and_left, exists_and_right, exists_eq, exists_eq', LL.if_dec, reduceCtorEq, exists_false, exists_const, or_false, false_or, if_true, if_false, LL.rInt1, LL.rMx, LL.rMn, and_assoc, Int.reduceNeg, Int.reduceLT, Int.reduceLE, Int.reduceMul, Int.reduceAdd, Int.reduceSub, Int.reducePow, Int.reduceToNat, Nat.reducePow, Nat.reduceLT, true_or, or_true, Bool.not_true, Bool.not_false, Bool.false_eq_true, Bool.or_false, Bool.or_true, Bool.true_or, Bool.false_or, decide_true, decide_false, not_true_eq_false, not_false_eq_true, LL.scal_int, LL.scal_bl, LL.scal_str, LL.isInt, LL.isBl, LL.isStr, LL.isLst, LL.isTup, LL.isDic, gTup]
      refine ⟨_, SqT.of upd_same, rfl, ?_⟩
      simp only [tSeq, tAsg, tRet, tRetN, tDrop, tNext, tVar, tC, gName, tOp, tUn, rI, rI0, rU, tIfS, tTest, tB, tIf, tAnd, tOr, tNot, tAndV, tOrV, tNotV, tCall, tCons, tNil, tCB, tLst, tTup, tChain, CMul, CDiv, CPow, rEq, rNe, gSub, L2.start, LL.cxK0, LL.cxK1, List.map_cons, List.map_nil, List.length_cons, List.length_nil, List.replicate_succ, List.replicate_zero, List.cons_append, List.nil_append, List.append_nil, List.getElem?_cons_zero, List.getElem?_cons_succ, List.set_cons_zero, List.set_cons_succ, Nat.add_sub_cancel, Nat.reduceAdd, Nat.reduceSub, Option.some.injEq, V.int.injEq, V.bl.injEq, V.ref.injEq, V.str.injEq, List.cons.injEq, and_true, true_and, and_false, false_and, exists_eq_left, exists_eq_left', exists_and_left, exists_and_right, exists_eq, exists_eq', LL.if_dec, reduceCtorEq, exists_false, exists_const, or_false, false_or, if_true, if_false, LL.rInt1, LL.rMx, LL.rMn, and_assoc, Int.reduceNeg, Int.reduceLT, Int.reduceLE, Int.reduceMul, Int.reduceAdd, Int.reduceSub, Int.reducePow, Int.reduceToNat, Nat.reducePow, Nat.reduceLT, true_or, or_true, Bool.not_true, Bool.not_false, Bool.false_eq_true, Bool.or_false, Bool.or_true, Bool.true_or, Bool.false_or, decide_true, decide_false, not_true_eq_false, not_false_eq_true, LL.scal_int, LL.scal_bl, LL.scal_str, LL.isInt, LL.isBl, LL.isStr, LL.isLst, LL.isTup, LL.isDic, gCons, gNil]
      have sT : Same H' (upd H' T1 (.tup [.int (i : Nat), .int s])) := Same.new (Same.refl _) hT
      have mis : ¬ (z ≤ s ∧ (2 : Int) ^ j ≤ calN s) → ∀ (k : Nat) (y : Int), k < i + 1 → (csz w)[k]? = some y → ¬(z ≤ y ∧ 2 ^ j ≤ calN y) := fun hm k y hk hy => by
        by_cases e : k = i
        · rw [e, hs] at hy; cases hy; exact hm
        · exact hno k y (by omega) hy
      have hsz : s ∈ SZ := csz_sz (List.mem_of_getElem? hs)
      refine itei (fun h => ?_) (fun h => ⟨s1.trans sT, sT _ _ e1, mis fun c => h c.1⟩)
      refine ⟨fun _ => True, _, .int s, rfl, rfl, fun c => absurd (show szB (.int s) = true from decide_eq_true hsz) (by rw [c]; simp), fun z' ez _ => ?_⟩
      cases ez
      refine ⟨_, rfl, itei (fun h2 => ?_) (fun h2 => ⟨s1.trans sT, sT _ _ e1, mis fun c => h2 c.2⟩)⟩
      have e : clsN w z (2 ^ j) = some i := find_hit hs (decide_eq_true ⟨h, h2⟩) fun k y hk hy => decide_eq_false (hno k y hk hy)
      have q3 := q2 _ (s1.trans sT)
      unfold clsV at q3
      rw [e] at q3
      exact q3
    · rintro a xs σ' H' ⟨s1, e1, rfl, hno, y1, y2, rfl⟩
      simp only [tSeq, tAsg, tRet, tRetN, tDrop, tNext, tVar, tC, gName, tOp, tUn, rI, rI0, rU, tIfS, tTest, tB, tIf, tAnd, tOr, tNot, tAndV, tOrV, tNotV, tCall, tCons, tNil, tCB, tLst, tTup, tChain, CMul, CDiv, CPow, rEq, rNe, gSub, L2.start, LL.cxK0, LL.cxK1, List.map_cons, List.map_nil, List.length_cons, List.length_nil, List.replicate_succ, List.replicate_zero, List.cons_append, List.nil_append, List.append_nil, List.getElem?_cons_zero, List.getElem?_cons_succ, List.set_cons_zero, List.set_cons_succ, Nat.add_sub_cancel, Nat.reduceAdd, Nat.reduceSub, Option.some.injEq, V.int.injEq, V.bl.injEq, V.ref.injEq, V.str.injEq, List.cons.injEq, and_true, true_and, and_false, false_and, exists_eq_left, exists_eq_left', exists_and_left, exists_and_right, exists_eq, exists_eq', LL.if_dec, reduceCtorEq, exists_false, exists_const, or_false, false_or, if_true, if_false, LL.rInt1, LL.rMx, LL.rMn, and_assoc, Int.reduceNeg, Int.reduceLT, Int.reduceLE, Int.reduceMul, Int.reduceAdd, Int.reduceSub, Int.reducePow, Int.reduceToNat, Nat.reducePow, Nat.reduceLT, true_or, or_true, Bool.not_true, Bool.not_false, Bool.false_eq_true, Bool.or_false, Bool.or_true, Bool.true_or, Bool.false_or, decide_true, decide_false, not_true_eq_false, not_false_eq_true, LL.scal_int, LL.scal_bl, LL.scal_str, LL.isInt, LL.isBl, LL.isStr, LL.isLst, LL.isTup, LL.isDic]
      have e : clsN w z (2 ^ j) = none := find_miss fun k y hy => decide_eq_false (hno k y (by rw [List.length_map]; exact (List.getElem?_eq_some_iff.mp hy).1) hy)
      have q3 := q2 _ s1
      unfold clsV at q3
      rw [e] at q3
      exact q3
end K26

namespace K26
open PySem PySem.Spec PyProof.Rows L2 LL
variable {P : Program} {w : World} {K : PySem.W.Frag} {mg : Str → Option Value} {base : Heap}

def sp_law_up : Sp := fun vs H Q _ => ∃ (a b : Int), vs = [.int a, .int b] ∧ 0 < b ∧ b ≤ 1000000 ∧ -1000000 ≤ a ∧ a ≤ 1000000 ∧ Q (.int ((a + b - 1) / b * b)) H
def sp_law_class_sizes : Sp := fun vs H Q _ => ∃ (w : Int), vs = [.int w] ∧ ∀ r H', Same H H' → H r = none → H' r = some (.lst ((csz w).map V.int)) → Q (.ref r) H'
theorem use_clsizes {w : Int} {H : Hp} {Q : VK} {E : XK} (q : ∀ r H', Same H H' → H r = none → H' r = some (.lst ((csz w).map V.int)) → Q (.ref r) H') : sp_law_class_sizes [.int w] H Q E := ⟨w, rfl, q⟩

theorem ok_law_up (T : Tx K mg) : FnOk P w K mg base CX0 1 (He.ga K "_law_up") T.fd_law_up P_law_up sp_law_up := by
  refine T.F_law_up.ok sc_law_up (fun vs H Q E h => ?_) (fun cdv A outer s H vs Q E hr h => ⟨_, PSs.nox (pss_one (ps_ret (pe_op op_mul (pe_op op_fdiv (pe_op op_sub (pe_op op_add (pv 0) (pv 1)) (pe_int)) (pv 1)) (pv 1)))), ?_⟩)
  · obtain ⟨_, _, rfl, _⟩ := h
    rfl
  · obtain ⟨a, b, rfl, b0, b1, a0, a1, q⟩ := h
    simp only [tSeq, tAsg, tRet, tRetN, tDrop, tNext, tVar, tC, gName, tOp, tUn, rI, rI0, rU, tIfS, tTest, tB, tIf, tAnd, tOr, tNot, tAndV, tOrV, tNotV, tCall, tCons, tNil, tCB, tLst, tTup, tChain, CMul, CDiv, CPow, rEq, rNe, gSub, L2.start, LL.cxK0, LL.cxK1, List.map_cons, List.map_nil, List.length_cons, List.length_nil, List.replicate_succ, List.replicate_zero, List.cons_append, List.nil_append, List.append_nil, List.getElem?_cons_zero, List.getElem?_cons_succ, List.set_cons_zero, List.set_cons_succ, Nat.add_sub_cancel, Nat.reduceAdd, Nat.reduceSub, Option.some.injEq, V.int.injEq, V.bl.injEq, V.ref.injEq, V.str.injEq, List.cons.injEq, and_true, true_and, and_false, false_and, exists_eq_left, exists_eq_left', exists_and_left, exists_and_right, exists_eq, exists_eq', LL.if_dec, reduceCtorEq, exists_false, exists_const, or_false, false_or, if_true, if_false, LL.rInt1, LL.rMx, LL.rMn, and_assoc, Int.reduceNeg, Int.reduceLT, Int.reduceLE, Int.reduceMul, Int.reduceAdd, Int.reduceSub, Int.reducePow, Int.reduceToNat, Nat.reducePow, Nat.reduceLT, true_or, or_true, Bool.not_true, Bool.not_false, Bool.false_eq_true, Bool.or_false, Bool.or_true, Bool.true_or, Bool.false_or, decide_true, decide_false, not_true_eq_false, not_false_eq_true, LL.scal_int, LL.scal_bl, LL.scal_str, LL.isInt, LL.isBl, LL.isStr, LL.isLst, LL.isTup, LL.isDic, N_law_up]
    refine ⟨b0, by omega, .inr ⟨by omega, by omega⟩, q⟩
theorem ok_law_class_sizes (T : Tx K mg) : FnOk P w K mg base CX0 1 (He.ga K "_law_class_sizes") T.fd_law_class_sizes P_law_class_sizes sp_law_class_sizes := by
  refine T.F_law_class_sizes.ok sc_law_class_sizes (fun vs H Q E h => ?_) (fun cdv A outer s H vs Q E hr h => ⟨_, PSs.nox (pss_one (ps_ret (pe_lc (own := [("_law_size", 1)]) (by rfl) sc_law_class_sizes.nd (pi_list (pe_lst (pa_cons (pe_int) (pa_cons (pe_int) (pa_cons (pe_int) (pa_cons (pe_int) (pa_cons (pe_int) (pa_cons (pe_int) (pa_cons (pe_int) (pa_cons (pe_int) (pa_cons (pe_int) (pa_cons (pe_int) pa_nil)))))))))))) (blkOk_by (N := N_law_class_sizes) (sc := defScope s_law_class_sizes) (by decide +kernel)) (fun _ _ _ _ _ => (pg_name (i := 1) sc_law_class_sizes.nd rfl (Or.inl rfl))) (fun _ _ _ _ _ => pts_one (pt_cmpR op_le (pv 1) (pe_op op_fdiv (pv 0) (pe_int)) (nomark _))) (fun _ _ _ _ _ => (pv 1))))), ?_⟩)
  · obtain ⟨_, rfl, _⟩ := h
    rfl
  · obtain ⟨w, rfl, q⟩ := h
    simp only [tSeq, tAsg, tRet, tRetN, tDrop, tNext, tVar, tC, gName, tOp, tUn, rI, rI0, rU, tIfS, tTest, tB, tIf, tAnd, tOr, tNot, tAndV, tOrV, tNotV, tCall, tCons, tNil, tCB, tLst, tTup, tChain, CMul, CDiv, CPow, rEq, rNe, gSub, L2.start, LL.cxK0, LL.cxK1, List.map_cons, List.map_nil, List.length_cons, List.length_nil, List.replicate_succ, List.replicate_zero, List.cons_append, List.nil_append, List.append_nil, List.getElem?_cons_zero, List.getElem?_cons_succ, List.set_cons_zero, List.set_cons_succ, Nat.add_sub_cancel, Nat.reduceAdd, Nat.reduceSub, Option.some.injEq, V.int.injEq, V.bl.injEq, V.ref.injEq, V.str.injEq, List.cons.injEq, and_true, true_and, and_false, false_and, exists_eq_left, exists_eq_left', exists_and_left, exists_and_right, exists_eq, exists_eq', LL.if_dec, reduceCtorEq, exists_false, exists_const, or_false, false_or, if_true, if_false, LL.rInt1, LL.rMx, LL.rMn, and_assoc, Int.reduceNeg, Int.reduceLT, Int.reduceLE, Int.reduceMul, Int.reduceAdd, Int.reduceSub, Int.reducePow, Int.reduceToNat, Nat.reducePow, Nat.reduceLT, true_or, or_true, Bool.not_true, Bool.not_false, Bool.false_eq_true, Bool.or_false, Bool.or_true, Bool.true_or, Bool.false_or, decide_true, decide_false, not_true_eq_false, not_false_eq_true, LL.scal_int, LL.scal_bl, LL.scal_str, LL.isInt, LL.isBl, LL.isStr, LL.isLst, LL.isTup, LL.isDic, N_law_class_sizes]
    refine ⟨by decide, ?_⟩
    intro p1 np1
    generalize hq : upd H p1 _ = H1
    have sH1 : Same H H1 := hq ▸ Same.new (Same.refl _) np1
    have ep1 := hq ▸ (upd_same (H := H) (a := p1))
    clear hq
    refine ⟨_, rfl, ⟨_, SqL.of ep1⟩, fun D hD => ?_⟩
    refine lc_list (K := K) (a := p1) (xs := SZ.map V.int) (fun i H' => Same H1 H' ∧ H' D = some (.lst (((SZ.take i).filter fun z => decide (z ≤ w / 2)).map V.int))) ⟨Same.new (Same.refl _) hD, upd_same⟩ (fun i H' _ ⟨s1, _⟩ => SqL.of (s1 _ _ ep1)) ?_ ?_
    · rintro i x H' hi ⟨s1, eD⟩
      rw [List.getElem?_map] at hi
      obtain ⟨n, hn2, rfl⟩ := Option.map_eq_some_iff.mp hi
      simp only [tSeq, tAsg, tRet, tRetN, tDrop, tNext, tVar, tC, gName, tOp, tUn, rI, rI0, rU, tIfS, tTest, tB, tIf, tAnd, tOr, tNot, tAndV, tOrV, tNotV, tCall, tCons, tNil, tCB, tLst, tTup, tChain, CMul, CDiv, CPow, rEq, rNe, gSub, L2.start, LL.cxK0, LL.cxK1, List.map_cons, List.map_nil, List.length_cons, List.length_nil, List.replicate_succ, List.replicate_zero, List.cons_append, List.nil_append, List.append_nil, List.getElem?_cons_zero, List.getElem?_cons_succ, List.set_cons_zero, List.set_cons_succ, Nat.add_sub_cancel, Nat.reduceAdd, Nat.reduceSub, Option.some.injEq, V.int.injEq, V.bl.injEq, V.ref.injEq, V.str.injEq, List.cons.injEq, and_true, true_and, and_false, false_and, exists_eq_left, exists_eq_left', exists_and_left, exists_and_right, exists_eq, exists_eq', LL.if_dec, reduceCtorEq, exists_false, exists_const, or_false, false_or, if_true, if_false, LL.rInt1, LL.rMx, LL.rMn, and_assoc, Int.reduceNeg, Int.reduceLT, Int.reduceLE, Int.reduceMul, Int.reduceAdd, Int.reduceSub, Int.reducePow, Int.reduceToNat, Nat.reducePow, Nat.reduceLT, true_or, or_true, Bool.not_true, Bool.not_false, Bool.false_eq_true, Bool.or_false, Bool.or_true, Bool.true_or, Bool.false_or, decide_true, decide_false, not_true_eq_false, not_false_eq_true, LL.scal_int, LL.scal_bl, LL.scal_str, LL.isInt, LL.isBl, LL.isStr, LL.isLst, LL.isTup, LL.isDic, tYes, wipe, List.foldl_cons, List.foldl_nil]
      refine itei (fun h => ?_) (fun h => ⟨s1, ?_⟩)
      · refine ⟨_, eD, small_sz ?_, Same.own s1 hD, ?_⟩
        · rw [List.length_map]
          exact Nat.le_trans (List.length_filter_le _ _) (by rw [List.length_take]; exact Nat.le_trans (Nat.min_le_right _ _) (by decide))
        · rw [upd_same, take_filter hn2, if_pos (decide_eq_true h), List.map_append]
          rfl
      · rw [take_filter hn2, if_neg (by simpa using h), List.append_nil]
        exact eD
    · rintro H' ⟨s1, eD⟩
      rw [List.length_map, List.take_length] at eD
      exact q _ _ (sH1.trans s1) (sH1.free hD) eD
def sp_law_class_ask : Sp := fun vs H Q _ => ∃ (d s : Addr), vs = [.ref d] ∧ Drw d s H ∧ ∀ (a : Addr) (w z : Int) (k : Nat) H', Aft d s H H' → Drw d s H' → H a = none → H' a = some (.tup [.int w, .int z, .int (2 ^ k)]) → widB (.int w) = true → 1 ≤ z → z ≤ 1000000000 → k ≤ 30 → Q (.ref a) H'
theorem wid_in {w : Int} (h : w = 16 ∨ w = 32 ∨ w = 64) : widB (.int w) = true := decide_eq_true h

theorem ok_law_class_ask (T : Tx K mg) : FnOk P w K mg base CX0 6 (He.ga K "_law_class_ask") T.fd_law_class_ask P_law_class_ask sp_law_class_ask := by
  refine T.F_law_class_ask.ok sc_law_class_ask (fun vs H Q E h => ?_) (fun cdv A outer s H vs Q E hr h => ⟨_, PSs.nox (pss_cons (ps_set (i := 1) sc_law_class_ask.nd rfl (Or.inl rfl) (pe_call (ok_law_among T) (hr.mono (by decide)) rfl T.g_law_among T.F_law_among.kp (b_law_among T) .nil pass0 (pa_cons (pv 0) (pa_cons (pe_lst (pa_cons (pe_int) (pa_cons (pe_int) (pa_cons (pe_int) pa_nil)))) pa_nil)))) (pss_cons (ps_set (i := 2) sc_law_class_ask.nd rfl (Or.inl rfl) (pe_call (ok_law_take T) (hr.mono (by decide)) rfl T.g_law_take T.F_law_take.kp (b_law_take T) .nil pass0 (pa_cons (pv 0) (pa_cons (pe_int) pa_nil)))) (pss_cons (ps_set (i := 3) sc_law_class_ask.nd rfl (Or.inl rfl) (pe_call (ok_law_between T) (hr.mono (by decide)) rfl T.g_law_between T.F_law_between.kp (b_law_between T) .nil pass0 (pa_cons (pv 0) (pa_cons (pe_int) (pa_cons (pe_op op_add (pe_op op_fdiv (pv 1) (pe_int)) (pe_int)) pa_nil))))) (pss_cons (ps_if (pt_cmpR op_eq (pv 2) (pe_int) (nomark _)) (pss_one (ps_set (i := 3) sc_law_class_ask.nd rfl (Or.inl rfl) (pe_callB (LL.call_mx rfl) (by rfl) T.z_max (by decide +kernel) (pa_cons (pe_int) (pa_cons (pe_op op_sub (pe_op op_add (pe_call (ok_law_among T) (hr.mono (by decide)) rfl T.g_law_among T.F_law_among.kp (b_law_among T) .nil pass0 (pa_cons (pv 0) (pa_cons (pe_call (ok_law_class_sizes T) (hr.mono (by decide)) rfl T.g_law_class_sizes T.F_law_class_sizes.kp (b_law_class_sizes T) .nil pass0 (pa_cons (pe_int) pa_nil)) pa_nil))) (pe_call (ok_law_take T) (hr.mono (by decide)) rfl T.g_law_take T.F_law_take.kp (b_law_take T) .nil pass0 (pa_cons (pv 0) (pa_cons (pe_int) pa_nil)))) (pe_int)) pa_nil))))) pss_nil) (pss_cons (ps_if (pt_cmpR op_eq (pv 2) (pe_int) (nomark _)) (pss_one (ps_set (i := 3) sc_law_class_ask.nd rfl (Or.inl rfl) (pe_call (ok_law_number T) hr rfl T.g_law_number T.F_law_number.kp (b_law_number T) .nil pass0 (pa_cons (pv 0) (pa_cons (pe_int) (pa_cons (pe_op op_pow (pe_int) (pe_int)) pa_nil)))))) pss_nil) (pss_cons (ps_set (i := 4) sc_law_class_ask.nd rfl (Or.inl rfl) (pe_ix (show IxR _ (rIxL K) from ix_list) (pe_lst (pa_cons (pe_int) (pa_cons (pe_int) (pa_cons (pe_int) (pa_cons (pe_int) (pa_cons (pe_int) pa_nil)))))) (pe_call (ok_law_take T) (hr.mono (by decide)) rfl T.g_law_take T.F_law_take.kp (b_law_take T) .nil pass0 (pa_cons (pv 0) (pa_cons (pe_int) pa_nil))) (fun _ _ => rfl))) (pss_cons (ps_if (pt_cmpR op_eq (pv 4) (pe_int) (nomark _)) (pss_one (ps_set (i := 4) sc_law_class_ask.nd rfl (Or.inl rfl) (pe_call (ok_law_alignment T) (hr.mono (by decide)) rfl T.g_law_alignment T.F_law_alignment.kp (b_law_alignment T) .nil pass0 (pa_cons (pv 0) (pa_cons (pe_int) pa_nil))))) pss_nil) (pss_one (ps_ret (pe_tup (pa_cons (pv 1) (pa_cons (pv 3) (pa_cons (pv 4) pa_nil))))))))))))), ?_⟩)
  · obtain ⟨_, _, rfl, _⟩ := h
    rfl
  · obtain ⟨d, s, rfl, D, q⟩ := h
    simp only [tSeq, tAsg, tRet, tRetN, tDrop, tNext, tVar, tC, gName, tOp, tUn, rI, rI0, rU, tIfS, tTest, tB, tIf, tAnd, tOr, tNot, tAndV, tOrV, tNotV, tCall, tCons, tNil, tCB, tLst, tTup, tChain, CMul, CDiv, CPow, rEq, rNe, gSub, L2.start, LL.cxK0, LL.cxK1, List.map_cons, List.map_nil, List.length_cons, List.length_nil, List.replicate_succ, List.replicate_zero, List.cons_append, List.nil_append, List.append_nil, List.getElem?_cons_zero, List.getElem?_cons_succ, List.set_cons_zero, List.set_cons_succ, Nat.add_sub_cancel, Nat.reduceAdd, Nat.reduceSub, Option.some.injEq, V.int.injEq, V.bl.injEq, V.ref.injEq, V.str.injEq, List.cons.injEq, and_true, true_and, and_false, false_and, exists_eq_left, exists_eq_left', exists_and_left, exists_and_right, exists_eq, exists_eq', LL.if_dec, reduceCtorEq, exists_false, exists_const, or_false, false_or, if_true, if_false, LL.rInt1, LL.rMx, LL.rMn, and_assoc, Int.reduceNeg, Int.reduceLT, Int.reduceLE, Int.reduceMul, Int.reduceAdd, Int.reduceSub, Int.reducePow, Int.reduceToNat, Nat.reducePow, Nat.reduceLT, true_or, or_true, Bool.not_true, Bool.not_false, Bool.false_eq_true, Bool.or_false, Bool.or_true, Bool.true_or, Bool.false_or, decide_true, decide_false, not_true_eq_false, not_false_eq_true, LL.scal_int, LL.scal_bl, LL.scal_str, LL.isInt, LL.isBl, LL.isStr, LL.isLst, LL.isTup, LL.isDic, N_law_class_ask]
    refine ⟨by decide, ?_⟩
    intro p1 np1
    generalize hq : upd H p1 _ = H1
    have sH1 : Same H H1 := hq ▸ Same.new (Same.refl _) np1
    have ep1 := hq ▸ (upd_same (H := H) (a := p1))
    clear hq
    refine use_among (D.same sH1) (D.ne _ np1) ep1 (by simp) (by simp) fun x hx H2 a2 D2 => ?_
    obtain ⟨w, rfl, hw⟩ : ∃ w : Int, x = V.int w ∧ (w = 16 ∨ w = 32 ∨ w = 64) := by
      simp only [List.mem_cons, List.not_mem_nil, or_false] at hx
      rcases hx with rfl | rfl | rfl
      · exact ⟨_, rfl, .inl rfl⟩
      · exact ⟨_, rfl, .inr (.inl rfl)⟩
      · exact ⟨_, rfl, .inr (.inr rfl)⟩
    have A2 := (Aft.same D sH1).trans a2
    refine use_take D2 (by decide +kernel) fun i3 H3 a3 D3 i30 i31 => ?_
    refine ⟨_, rfl, use_between D3 (big_of (by omega) (by omega)) fun zz H5 a5 D5 z0 z1 => ⟨scal_int.mpr trivial, itei (fun h => ?pos) (fun h => ⟨scal_int.mpr trivial, itei (fun h1 => ?neg1) (fun h1 => ?neg2)⟩)⟩⟩
    case' pos =>
      have h : i3 = 0 := by simpa using h
      refine use_clsizes fun r H6 s6 nr er => use_among (D5.same s6) (D5.ne _ nr) er (by decide) (by decide) fun x hx H7 a7 D7 => ?_
      obtain ⟨n, hn, rfl⟩ := List.mem_map.mp hx
      obtain ⟨n0, n1⟩ := sz_fact n (csz_sz hn)
      refine use_take D7 (by decide +kernel) fun t H5 a8 D5 t0 t1 => ⟨_, rfl, _, rfl, scal_int.mpr trivial, ?_⟩
      rw [if_neg (by simp; omega)]
      generalize hzz : max 1 (n + t - 1) = zz
      have hz0 : 1 ≤ zz := by omega
      have hz1 : zz ≤ 1000000000 := by omega
      have A5 := (((A2.trans a3).trans a5).trans ((Aft.same a5.dr s6).trans a7)).trans a8
    case' neg1 =>
      refine ⟨by decide, use_number D5 (by decide) (by decide) (by decide) (by decide) fun zz H5 a6 D5 hz0 hz1 => ?_⟩
      have A5 := ((A2.trans a3).trans a5).trans a6
    case' neg2 =>
      have hz0 : 1 ≤ zz := by omega
      have hz1 : zz ≤ 1000000000 := by omega
      have A5 := (A2.trans a3).trans a5
    all_goals
      refine ⟨by decide, ?_⟩
      intro l6 nl6
      generalize hq : upd H5 l6 _ = H6
      have sH6 : Same H5 H6 := hq ▸ Same.new (Same.refl _) nl6
      have el6 := hq ▸ (upd_same (H := H5) (a := l6))
      clear hq
      refine use_take (D5.same sH6) (by decide +kernel) fun i7 H7 a7 D7 i70 i71 => ?_
      refine use_pick (a7.at el6 (D5.ne _ nl6)) i70 (by simp only [List.length_cons, List.length_nil]; omega) fun u hu => ?_
      have A7 := (A5.trans (Aft.same D5 sH6)).trans a7
      have fin : ∀ (k : Nat) (H8 : Hp), Aft d s H7 H8 → Drw d s H8 → k ≤ 30 → 3 ≤ sizeLine ∧ ∀ p, H8 p = none → Q (V.ref p) (upd H8 p (HO.tup [V.int w, V.int zz, V.int (2 ^ k)])) := fun k H8 a8 D8 hk => by
        refine ⟨by decide, ?_⟩
        intro p9 np9
        generalize hq : upd H8 p9 _ = H9
        have sH9 : Same H8 H9 := hq ▸ Same.new (Same.refl _) np9
        have ep9 := hq ▸ (upd_same (H := H8) (a := p9))
        clear hq
        exact q p9 w zz k _ ((A7.trans a8).trans (Aft.same D8 sH9)) (D8.same sH9) ((A7.trans a8).free np9) ep9 (wid_in hw) hz0 hz1 hk
      simp only [List.mem_cons, List.not_mem_nil, or_false] at hu
      rcases hu with rfl | rfl | rfl | rfl | rfl
      · exact ⟨scal_int.mpr trivial, by rw [if_neg (by decide)]; exact fin 0 H7 (Aft.refl D7) D7 (by decide)⟩
      · exact ⟨scal_int.mpr trivial, by rw [if_neg (by decide)]; exact fin 1 H7 (Aft.refl D7) D7 (by decide)⟩
      · exact ⟨scal_int.mpr trivial, by rw [if_neg (by decide)]; exact fin 2 H7 (Aft.refl D7) D7 (by decide)⟩
      · exact ⟨scal_int.mpr trivial, by rw [if_neg (by decide)]; exact fin 3 H7 (Aft.refl D7) D7 (by decide)⟩
      · refine ⟨scal_int.mpr trivial, ?_⟩
        rw [if_pos rfl]
        exact use_alignment D7 (by decide) (by decide) fun k H8 a8 D8 hk => fin k H8 a8 D8 (by omega)
theorem grain_fact : ∀ z ∈ SZ, (calN z = 1 ∨ calN z = 2 ∨ calN z = 4) ∧ z % calN z = 0 ∧ (calN z = 4 ∨ z % (2 * calN z) ≠ 0) := by decide +kernel
def sp_law_is_grain : Sp := fun vs H Q _ => ∃ z : Int, vs = [.int z, .int (calN z)] ∧ z ∈ SZ ∧ ∀ H', Same H H' → Q (.bl true) H'
def sp_law_is_within : Sp := fun vs H Q _ => ∃ (i lo hi : Int), vs = [.int i, .int lo, .int hi] ∧ Q (.bl (decide (lo ≤ i ∧ i ≤ hi))) H

theorem ok_law_is_within (T : Tx K mg) : FnOk P w K mg base CX0 2 (He.ga K "_law_is_within") T.fd_law_is_within P_law_is_within sp_law_is_within := by
  refine T.F_law_is_within.ok sc_law_is_within (fun vs H Q E h => ?_) (fun cdv A outer s H vs Q E hr h => ⟨_, PSs.nox (pss_one (ps_ret ((pe_and (pe_call (ok_law_is_int T) hr rfl T.g_law_is_int T.F_law_is_int.kp (b_law_is_int T) .nil pass0 (pa_cons (pv 0) pa_nil)) (pe_one (pe_chain op_le op_le (pv 1) (pv 0) (pv 2))))))), ?_⟩)
  · obtain ⟨_, _, _, rfl, _⟩ := h
    rfl
  · obtain ⟨i, lo, hi, rfl, q⟩ := h
    simp only [tSeq, tAsg, tRet, tRetN, tDrop, tNext, tVar, tC, gName, tOp, tUn, rI, rI0, rU, tIfS, tTest, tB, tIf, tAnd, tOr, tNot, tAndV, tOrV, tNotV, tCall, tCons, tNil, tCB, tLst, tTup, tChain, CMul, CDiv, CPow, rEq, rNe, gSub, L2.start, LL.cxK0, LL.cxK1, List.map_cons, List.map_nil, List.length_cons, List.length_nil, List.replicate_succ, List.replicate_zero, List.cons_append, List.nil_append, List.append_nil, List.getElem?_cons_zero, List.getElem?_cons_succ, List.set_cons_zero, List.set_cons_succ, Nat.add_sub_cancel, Nat.reduceAdd, Nat.reduceSub, Option.some.injEq, V.int.injEq, V.bl.injEq, V.ref.injEq, V.str.injEq, List.cons.injEq, and_true, true_and, and_false, false_and, exists_eq_left, exists_eq_left', exists_and_left, exists_and_right, exists_eq, exists_eq', LL.if_dec, reduceCtorEq, exists_false, exists_const, or_false, false_or, if_true, if_false, LL.rInt1, LL.rMx, LL.rMn, and_assoc, Int.reduceNeg, Int.reduceLT, Int.reduceLE, Int.reduceMul, Int.reduceAdd, Int.reduceSub, Int.reducePow, Int.reduceToNat, Nat.reducePow, Nat.reduceLT, true_or, or_true, Bool.not_true, Bool.not_false, Bool.false_eq_true, Bool.or_false, Bool.or_true, Bool.true_or, Bool.false_or, decide_true, decide_false, not_true_eq_false, not_false_eq_true, LL.scal_int, LL.scal_bl, LL.scal_str, LL.isInt, LL.isBl, LL.isStr, LL.isLst, LL.isTup, LL.isDic, N_law_is_within]
    refine use_isint (F := fun _ => True) (t := .int i) rfl ⟨true, rfl, ?_⟩
    rw [if_pos rfl]
    refine itei (fun h => ?_) (fun h => ?_)
    · rw [show decide (lo ≤ i ∧ i ≤ hi) = decide (i ≤ hi) from decide_eq_decide.mpr ⟨fun z => z.2, fun z => ⟨h, z⟩⟩] at q
      exact q
    · rw [decide_eq_false (fun z => h z.1)] at q
      exact q
theorem ok_law_is_grain (T : Tx K mg) : FnOk P w K mg base CX0 2 (He.ga K "_law_is_grain") T.fd_law_is_grain P_law_is_grain sp_law_is_grain := by
  refine T.F_law_is_grain.ok sc_law_is_grain (fun vs H Q E h => ?_) (fun cdv A outer s H vs Q E hr h => ⟨_, PSs.nox (pss_cons (ps_if (PW.pt (pw_or (pt_not (pt_val (pe_call (ok_law_is_int T) hr rfl T.g_law_is_int T.F_law_is_int.kp (b_law_is_int T) .nil pass0 (pa_cons (pv 1) pa_nil)))) (pw_or (pt_cmpR op_notIn_seq (pv 1) (pe_lst (pa_cons (pe_int) (pa_cons (pe_int) (pa_cons (pe_int) pa_nil)))) (by rfl)) (pw_or1 (pt_cmpR op_ne (pe_op op_mod (pe_callTy LL.call_intI (by rfl) T.z_int (by decide +kernel) (pa_cons (pv 0) pa_nil)) (pv 1)) (pe_int) (nomark _)))))) (pss_one (ps_ret (pe_bl))) pss_nil) (pss_one (ps_ret ((pe_or (pe_cmpR op_eq (pv 1) (pe_int) (nomark _)) (pe_one (pe_cmpR op_ne (pe_op op_mod (pe_callTy LL.call_intI (by rfl) T.z_int (by decide +kernel) (pa_cons (pv 0) pa_nil)) (pe_op op_mul (pe_int) (pv 1))) (pe_int) (nomark _)))))))), ?_⟩)
  · obtain ⟨_, rfl, _⟩ := h
    rfl
  · obtain ⟨z, rfl, hz, q⟩ := h
    simp only [tSeq, tAsg, tRet, tRetN, tDrop, tNext, tVar, tC, gName, tOp, tUn, rI, rI0, rU, tIfS, tTest, tB, tIf, tAnd, tOr, tNot, tAndV, tOrV, tNotV, tCall, tCons, tNil, tCB, tLst, tTup, tChain, CMul, CDiv, CPow, rEq, rNe, gSub, L2.start, LL.cxK0, LL.cxK1, List.map_cons, List.map_nil, List.length_cons, List.length_nil, List.replicate_succ, List.replicate_zero, List.cons_append, List.nil_append, List.append_nil, List.getElem?_cons_zero, List.getElem?_cons_succ, List.set_cons_zero, List.set_cons_succ, Nat.add_sub_cancel, Nat.reduceAdd, Nat.reduceSub, Option.some.injEq, V.int.injEq, V.bl.injEq, V.ref.injEq, V.str.injEq, List.cons.injEq, and_true, true_and, and_false, false_and, exists_eq_left, exists_eq_left', exists_and_left, exists_and_right, exists_eq, exists_eq', LL.if_dec, reduceCtorEq, exists_false, exists_const, or_false, false_or, if_true, if_false, LL.rInt1, LL.rMx, LL.rMn, and_assoc, Int.reduceNeg, Int.reduceLT, Int.reduceLE, Int.reduceMul, Int.reduceAdd, Int.reduceSub, Int.reducePow, Int.reduceToNat, Nat.reducePow, Nat.reduceLT, true_or, or_true, Bool.not_true, Bool.not_false, Bool.false_eq_true, Bool.or_false, Bool.or_true, Bool.true_or, Bool.false_or, decide_true, decide_false, not_true_eq_false, not_false_eq_true, LL.scal_int, LL.scal_bl, LL.scal_str, LL.isInt, LL.isBl, LL.isStr, LL.isLst, LL.isTup, LL.isDic, N_law_is_grain]
    obtain ⟨g1, g2, g3⟩ := grain_fact z hz
    refine use_isint (F := fun _ => True) (t := .int _) rfl ⟨true, rfl, ?_⟩
    rw [if_neg (by simp)]
    refine ⟨by decide, ?_⟩
    intro p1 np1
    generalize hq : upd H p1 _ = H1
    have sH1 : Same H H1 := hq ▸ Same.new (Same.refl _) np1
    have ep1 := hq ▸ (upd_same (H := H) (a := p1))
    clear hq
    refine ⟨_, _, rfl, .inl (SqL.of ep1), rfl, rfl, ?_⟩
    refine ⟨false, ?_, ?_⟩
    · rcases g1 with e | e | e <;> rw [e] <;> rfl
    · rw [if_neg (by simp)]
      refine ⟨by omega, ?_⟩
      rw [if_neg (by simp [g2])]
      refine itei (fun h => q _ sH1) (fun h => ⟨by omega, ?_⟩)
      rw [decide_eq_false (by rcases g3 with e | e; exact absurd e h; exact e)]
      exact q _ sH1
def fitB (w k z g : Int) : Bool := if k < 0 then false else decide (g + 2 * ((z + 1 + g - 1) / g * g) ≤ w * 2 ^ k.toNat)
def sp_law_two_fit : Sp := fun vs H Q _ => ∃ (w k z g : Int), vs = [.int w, .int k, .int z, .int g] ∧ 0 < g ∧ g ≤ 4 ∧ 0 ≤ z ∧ z ≤ 1000 ∧ 0 ≤ w ∧ w ≤ 64 ∧ k ≤ 60 ∧ Q (.bl (fitB w k z g)) H

theorem ok_law_two_fit (T : Tx K mg) : FnOk P w K mg base CX0 2 (He.ga K "_law_two_fit") T.fd_law_two_fit P_law_two_fit sp_law_two_fit := by
  refine T.F_law_two_fit.ok sc_law_two_fit (fun vs H Q E h => ?_) (fun cdv A outer s H vs Q E hr h => ⟨_, PSs.nox (pss_cons (ps_if (pt_cmpR op_lt (pv 1) (pe_int) (nomark _)) (pss_one (ps_ret (pe_bl))) pss_nil) (pss_one (ps_ret (pe_cmpR op_le (pe_op op_add (pv 3) (pe_op op_mul (pe_int) (pe_call (ok_law_up T) hr rfl T.g_law_up T.F_law_up.kp (b_law_up T) .nil pass0 (pa_cons (pe_op op_add (pv 2) (pe_int)) (pa_cons (pv 3) pa_nil))))) (pe_op op_mul (pv 0) (pe_call (ok_law_power T) hr rfl T.g_law_power T.F_law_power.kp (b_law_power T) .nil pass0 (pa_cons (pv 1) pa_nil))) (nomark _))))), ?_⟩)
  · obtain ⟨_, _, _, _, rfl, _⟩ := h
    rfl
  · obtain ⟨w, k, z, g, rfl, g0, g1, z0, z1, w0, w1, k1, q⟩ := h
    simp only [tSeq, tAsg, tRet, tRetN, tDrop, tNext, tVar, tC, gName, tOp, tUn, rI, rI0, rU, tIfS, tTest, tB, tIf, tAnd, tOr, tNot, tAndV, tOrV, tNotV, tCall, tCons, tNil, tCB, tLst, tTup, tChain, CMul, CDiv, CPow, rEq, rNe, gSub, L2.start, LL.cxK0, LL.cxK1, List.map_cons, List.map_nil, List.length_cons, List.length_nil, List.replicate_succ, List.replicate_zero, List.cons_append, List.nil_append, List.append_nil, List.getElem?_cons_zero, List.getElem?_cons_succ, List.set_cons_zero, List.set_cons_succ, Nat.add_sub_cancel, Nat.reduceAdd, Nat.reduceSub, Option.some.injEq, V.int.injEq, V.bl.injEq, V.ref.injEq, V.str.injEq, List.cons.injEq, and_true, true_and, and_false, false_and, exists_eq_left, exists_eq_left', exists_and_left, exists_and_right, exists_eq, exists_eq', LL.if_dec, reduceCtorEq, exists_false, exists_const, or_false, false_or, if_true, if_false, LL.rInt1, LL.rMx, LL.rMn, and_assoc, Int.reduceNeg, Int.reduceLT, Int.reduceLE, Int.reduceMul, Int.reduceAdd, Int.reduceSub, Int.reducePow, Int.reduceToNat, Nat.reducePow, Nat.reduceLT, true_or, or_true, Bool.not_true, Bool.not_false, Bool.false_eq_true, Bool.or_false, Bool.or_true, Bool.true_or, Bool.false_or, decide_true, decide_false, not_true_eq_false, not_false_eq_true, LL.scal_int, LL.scal_bl, LL.scal_str, LL.isInt, LL.isBl, LL.isStr, LL.isLst, LL.isTup, LL.isDic, N_law_two_fit]
    refine itei (fun h => ?_) (fun h => ?_)
    · unfold fitB at q
      rw [if_pos h] at q
      exact q
    · unfold fitB at q
      rw [if_neg h] at q
      refine ⟨z + 1, g, rfl, g0, by omega, by omega, by omega, ⟨_, rfl, k.toNat, by rw [show ((k.toNat : Nat) : Int) = k by omega], by omega, ⟨_, rfl, .inl ⟨by omega, by omega⟩, q⟩⟩⟩
theorem fit_fact : ∀ w ∈ ([16, 32, 64] : List Int), ∀ z ∈ SZ, fitB w (ordF w z : Nat) z (calN z) = true ∧ fitB w ((ordF w z : Nat) - 1) z (calN z) = false ∧ (ordF w z = 0 ∨ slts w ((ordF w z : Nat) - 1) z (calN z) = 0 ∨ slts w ((ordF w z : Nat) - 1) z (calN z) = 1) := by decide +kernel
def sp_law_is_order : Sp := fun vs H Q _ => ∃ (w z : Int), vs = [.int w, .int z, .int (ordF w z : Nat)] ∧ widB (.int w) = true ∧ z ∈ SZ ∧ ∀ H', Same H H' → Q (.bl true) H'

theorem ok_law_is_order (T : Tx K mg) : FnOk P w K mg base CX0 7 (He.ga K "_law_is_order") T.fd_law_is_order P_law_is_order sp_law_is_order := by
  refine T.F_law_is_order.ok sc_law_is_order (fun vs H Q E h => ?_) (fun cdv A outer s H vs Q E hr h => ⟨_, PSs.nox (pss_cons (ps_set (i := 3) sc_law_is_order.nd rfl (Or.inl rfl) (pe_call (ok_class_align T) (hr.mono (by decide)) rfl T.g_class_align T.F_class_align.kp (b_class_align T) .nil passE0 (pa_cons (pv 1) pa_nil))) (pss_cons (ps_if (PW.pt (pw_or (pt_not (pt_val (pe_call (ok_law_is_grain T) (hr.mono (by decide)) rfl T.g_law_is_grain T.F_law_is_grain.kp (b_law_is_grain T) .nil pass0 (pa_cons (pv 1) (pa_cons (pv 3) pa_nil))))) (pw_or1 (pt_not (pt_val (pe_call (ok_law_is_within T) (hr.mono (by decide)) rfl T.g_law_is_within T.F_law_is_within.kp (b_law_is_within T) .nil pass0 (pa_cons (pv 2) (pa_cons (pe_int) (pa_cons (pe_int) pa_nil))))))))) (pss_one (ps_ret (pe_bl))) pss_nil) (pss_cons (ps_if (PW.pt (pw_or (pt_not (pt_val (pe_call (ok_law_two_fit T) (hr.mono (by decide)) rfl T.g_law_two_fit T.F_law_two_fit.kp (b_law_two_fit T) .nil pass0 (pa_cons (pv 0) (pa_cons (pv 2) (pa_cons (pv 1) (pa_cons (pv 3) pa_nil))))))) (pw_or1 (pt_val (pe_call (ok_law_two_fit T) (hr.mono (by decide)) rfl T.g_law_two_fit T.F_law_two_fit.kp (b_law_two_fit T) .nil pass0 (pa_cons (pv 0) (pa_cons (pe_op op_sub (pv 2) (pe_int)) (pa_cons (pv 1) (pa_cons (pv 3) pa_nil))))))))) (pss_one (ps_ret (pe_bl))) pss_nil) (pss_cons (ps_set (i := 4) sc_law_is_order.nd rfl (Or.inl rfl) (pe_call (ok_slab_shape T) hr rfl T.g_slab_shape T.F_slab_shape.kp (b_slab_shape T) .nil passE0 (pa_cons (pv 0) (pa_cons (pv 2) (pa_cons (pv 1) (pa_cons (pv 3) pa_nil)))))) (pss_cons (ps_if (PW.pt (pw_or (pt_not (pt_val (pe_call (ok_law_is_intsT T) (hr.mono (by decide)) rfl T.g_law_is_ints T.F_law_is_ints.kp (b_law_is_ints T) .nil pass0 (pa_cons (pv 4) (pa_cons (pe_bl) (pa_cons (pe_int) pa_nil)))))) (pw_or1 (pt_cmpR op_lt (pe_ix (show IxR _ (rIxT K) from ix_tup) (pv 4) (pe_int) (fun _ _ => rfl)) (pe_int) (nomark _))))) (pss_one (ps_ret (pe_bl))) pss_nil) (pss_cons (ps_if (pt_cmpR op_eq (pv 2) (pe_int) (nomark _)) (pss_one (ps_ret (pe_bl))) pss_nil) (pss_cons (ps_set (i := 4) sc_law_is_order.nd rfl (Or.inl rfl) (pe_call (ok_slab_shape T) hr rfl T.g_slab_shape T.F_slab_shape.kp (b_slab_shape T) .nil passE0 (pa_cons (pv 0) (pa_cons (pe_op op_sub (pv 2) (pe_int)) (pa_cons (pv 1) (pa_cons (pv 3) pa_nil)))))) (pss_one (ps_ret ((pe_or (pe_cmpR op_isN (pv 4) (pe_non) (nomark _)) (pe_one ((pe_and (pe_call (ok_law_is_intsT T) (hr.mono (by decide)) rfl T.g_law_is_ints T.F_law_is_ints.kp (b_law_is_ints T) .nil pass0 (pa_cons (pv 4) (pa_cons (pe_bl) (pa_cons (pe_int) pa_nil)))) (pe_one (pe_cmpR op_eq (pe_ix (show IxR _ (rIxT K) from ix_tup) (pv 4) (pe_int) (fun _ _ => rfl)) (pe_int) (nomark _))))))))))))))))), ?_⟩)
  · obtain ⟨_, _, rfl, _⟩ := h
    rfl
  · obtain ⟨w, z, rfl, hw, hz, q⟩ := h
    simp only [tSeq, tAsg, tRet, tRetN, tDrop, tNext, tVar, tC, gName, tOp, tUn, rI, rI0, rU, tIfS, tTest, tB, tIf, tAnd, tOr, tNot, tAndV, tOrV, tNotV, tCall, tCons, tNil, tCB, tLst, tTup, tChain, CMul, CDiv, CPow, rEq, rNe, gSub, L2.start, LL.cxK0, LL.cxK1, List.map_cons, List.map_nil, List.length_cons, List.length_nil, List.replicate_succ, List.replicate_zero, List.cons_append, List.nil_append, List.append_nil, List.getElem?_cons_zero, List.getElem?_cons_succ, List.set_cons_zero, List.set_cons_succ, Nat.add_sub_cancel, Nat.reduceAdd, Nat.reduceSub, Option.some.injEq, V.int.injEq, V.bl.injEq, V.ref.injEq, V.str.injEq, List.cons.injEq, and_true, true_and, and_false, false_and, exists_eq_left, exists_eq_left', exists_and_left, exists_and_right, exists_eq, exists_eq', LL.if_dec, reduceCtorEq, exists_false, exists_const, or_false, false_or, if_true, if_false, LL.rInt1, LL.rMx, LL.rMn, and_assoc, Int.reduceNeg, Int.reduceLT, Int.reduceLE, Int.reduceMul, Int.reduceAdd, Int.reduceSub, Int.reducePow, Int.reduceToNat, Nat.reducePow, Nat.reduceLT, true_or, or_true, Bool.not_true, Bool.not_false, Bool.false_eq_true, Bool.or_false, Bool.or_true, Bool.true_or, Bool.false_or, decide_true, decide_false, not_true_eq_false, not_false_eq_true, LL.scal_int, LL.scal_bl, LL.scal_str, LL.isInt, LL.isBl, LL.isStr, LL.isLst, LL.isTup, LL.isDic, N_law_is_order]
    refine ⟨fun _ => True, _, .int z, rfl, rfl, fun c => absurd (show szB (.int z) = true from decide_eq_true hz) (by rw [c]; simp), fun z' ez _ => ?_⟩
    cases ez
    refine ⟨z, rfl, hz, fun H1 s1 => ⟨true, rfl, ?_⟩⟩
    rw [if_neg (by simp)]
    obtain ⟨f1, f2, f3⟩ := ord_fact w (wid_mem hw) z hz
    obtain ⟨g1, g2, g3⟩ := fit_fact w (wid_mem hw) z hz
    obtain ⟨z0, z1⟩ := sz_fact z hz
    obtain ⟨j0, ej, S⟩ := shp_cls (k := ordF w z) hw hz f1
    have hw2 := S.hw
    have hp := pow_pos' j0
    have hc : 0 < calN z ∧ calN z ≤ 4 := by
      rcases (grain_fact z hz).1 with e | e | e <;> rw [e] <;> decide
    refine ⟨_, 0, 8, rfl, true, by rw [decide_eq_true ⟨by omega, by omega⟩], ?_⟩
    rw [if_neg (by simp)]
    refine ⟨w, _, z, _, rfl, hc.1, hc.2, by omega, by omega, by omega, by omega, by omega, true, by rw [g1], ?_⟩
    rw [if_neg (by simp)]
    refine ⟨w, _, z, _, rfl, hc.1, hc.2, by omega, by omega, by omega, by omega, by omega, false, by rw [g2], ?_⟩
    rw [if_neg (by simp), ej]
    rw [ej] at f2 g3
    refine use_shape S fun r H2 s2 hr => ?_
    unfold shT at hr
    rw [if_neg (by omega)] at hr
    refine use_intsB hr ⟨true, rfl, ?_⟩
    rw [if_neg (by simp)]
    obtain ⟨p, xs, rfl, fp, ep, ⟨y1, _, rfl, e1, y2, _, rfl, e2, y3, _, rfl, e3, rfl⟩, _⟩ := hr
    obtain rfl : y2 = V.int _ := e2
    refine use_ixT ep rfl ⟨_, rfl, ?_⟩
    rw [if_neg (by omega)]
    refine itei (fun h => q _ (s1.trans s2)) (fun h => ?_)
    have ho : ¬ ordF w z = 0 := by omega
    obtain ⟨n, hn⟩ : ∃ n : Nat, ordF w z = n + 1 := ⟨ordF w z - 1, by omega⟩
    have en : ((ordF w z : Nat) : Int) - 1 = (n : Nat) := by omega
    rw [en] at g3 ⊢
    obtain ⟨j1, ej1, S1⟩ := shp_cls (k := n) hw hz (by omega)
    have S2 : Shp w (n : Nat) z j0 := ⟨S1.hw, S1.k0, S1.k1, S1.z0, S1.z1, S.ha⟩
    refine use_shape S2 fun r H3 s3 hr => ?_
    unfold shT at hr
    rcases g3 with g | g | g
    · exact absurd g ho
    · rw [if_pos g] at hr
      obtain rfl : r = V.non := hr
      rw [if_pos rfl]
      exact q _ ((s1.trans s2).trans s3)
    · rw [if_neg (by omega), g] at hr
      refine itei (fun h => q _ ((s1.trans s2).trans s3)) (fun h => ?_)
      refine use_intsB hr ⟨true, rfl, ?_⟩
      rw [if_pos rfl]
      obtain ⟨p, xs, rfl, fp, ep, ⟨y1, _, rfl, e1, y2, _, rfl, e2, y3, _, rfl, e3, rfl⟩, _⟩ := hr
      obtain rfl : y2 = V.int 1 := e2
      exact use_ixT ep rfl ⟨scal_int.mpr trivial, q _ ((s1.trans s2).trans s3)⟩
def sp_law_is_class : Sp := fun vs H Q _ => ∃ (p : Addr) (w z : Int) (k : Nat), vs = [.ref p, .int z, .int (2 ^ k), clsV w z (2 ^ k)] ∧ H p = some (.lst ((csz w).map V.int)) ∧ ∀ H', Same H H' → Q (.bl true) H'
theorem cls_some {w z a : Int} {i : Nat} (h : clsN w z a = some i) : i < (csz w).length ∧ (∀ y, (csz w)[i]? = some y → z ≤ y ∧ a ≤ calN y) ∧ ∀ j y, j < i → (csz w)[j]? = some y → ¬ (z ≤ y ∧ a ≤ calN y) := by
  unfold clsN at h
  rw [List.findIdx?_eq_some_iff_getElem] at h
  obtain ⟨hi, h1, h2⟩ := h
  refine ⟨hi, fun y hy => ?_, fun j y hj hy => ?_⟩
  · rw [List.getElem?_eq_getElem hi] at hy
    cases hy
    exact of_decide_eq_true h1
  · have hj2 := h2 j hj
    rw [List.getElem?_eq_getElem (by omega)] at hy
    cases hy
    simpa using hj2
theorem cls_none {w z a : Int} (h : clsN w z a = none) : ∀ (j : Nat) (y : Int), (csz w)[j]? = some y → ¬ (z ≤ y ∧ a ≤ calN y) := fun j y hy => by
  unfold clsN at h
  rw [List.findIdx?_eq_none_iff] at h
  have := h y (List.mem_of_getElem? hy)
  exact of_decide_eq_false this

theorem ok_law_is_class (T : Tx K mg) : FnOk P w K mg base CX0 6 (He.ga K "_law_is_class") T.fd_law_is_class P_law_is_class sp_law_is_class := by
  refine T.F_law_is_class.ok sc_law_is_class (fun vs H Q E h => ?_) (fun cdv A outer s H vs Q E hr h => ⟨_, PSs.nox (pss_cons (ps_if (PW.pt (pw_and (pt_cmpR op_notN (pv 3) (pe_non) (nomark _)) (pw_and1 (pt_not (pt_val (pe_call (ok_law_is_within T) (hr.mono (by decide)) rfl T.g_law_is_within T.F_law_is_within.kp (b_law_is_within T) .nil pass0 (pa_cons (pv 3) (pa_cons (pe_int) (pa_cons (pe_op op_sub (pe_callB LL.call_lenL (by rfl) T.z_len (by decide +kernel) (pa_cons (pv 0) pa_nil)) (pe_int)) pa_nil))))))))) (pss_one (ps_ret (pe_bl))) pss_nil) (pss_cons (ps_for PassesOwn.never rfl (pi_range1 rfl T.z_range (pa_cons (pe_callB LL.call_lenL (by rfl) T.z_len (by decide +kernel) (pa_cons (pv 0) pa_nil)) pa_nil)) (pg_name (i := 4) sc_law_is_class.nd rfl (Or.inl rfl)) (pss_cons (ps_set (i := 5) sc_law_is_class.nd rfl (Or.inl rfl) ((pe_and (pe_cmpR op_ge (pe_ix (show IxR _ (rIxL K) from ix_list) (pv 0) (pv 4) (fun _ _ => rfl)) (pv 1) (nomark _)) (pe_one (pe_cmpR op_ge (pe_call (ok_class_align T) hr rfl T.g_class_align T.F_class_align.kp (b_class_align T) .nil passE0 (pa_cons (pe_ix (show IxR _ (rIxL K) from ix_list) (pv 0) (pv 4) (fun _ _ => rfl)) pa_nil)) (pv 2) (nomark _)))))) (pss_one (ps_if (PW.pt (pw_or (pt_cmpR op_isN (pv 3) (pe_non) (nomark _)) (pw_or1 (pt_cmpR op_lt (pv 4) (pv 3) (nomark _))))) (pss_one (ps_if (pt_val (pv 5)) (pss_one (ps_ret (pe_bl))) pss_nil)) (pss_one (ps_if (PW.pt (pw_and (pt_cmpR op_eq (pv 4) (pv 3) (nomark _)) (pw_and1 (pt_not (pt_val (pv 5)))))) (pss_one (ps_ret (pe_bl))) pss_nil)))))) (pss_one (ps_ret (pe_bl))))), ?_⟩)
  · obtain ⟨_, _, _, _, rfl, _⟩ := h
    rfl
  · obtain ⟨p, w, z, k, rfl, ep, q⟩ := h
    simp only [tSeq, tAsg, tRet, tRetN, tDrop, tNext, tVar, tC, gName, tOp, tUn, rI, rI0, rU, tIfS, tTest, tB, tIf, tAnd, tOr, tNot, tAndV, tOrV, tNotV, tCall, tCons, tNil, tCB, tLst, tTup, tChain, CMul, CDiv, CPow, rEq, rNe, gSub, L2.start, LL.cxK0, LL.cxK1, List.map_cons, List.map_nil, List.length_cons, List.length_nil, List.replicate_succ, List.replicate_zero, List.cons_append, List.nil_append, List.append_nil, List.getElem?_cons_zero, List.getElem?_cons_succ, List.set_cons_zero, List.set_cons_succ, Nat.add_sub_cancel, Nat.reduceAdd, Nat.reduceSub, Option.some.injEq, V.int.injEq, V.bl.injEq, V.ref.injEq, V.str.injEq, List.cons.injEq, and_true, true_and, and_false, false_and, exists_eq_left, exists_eq_left', exists_and_left, exists_and_right, exists_eq, exists_eq', LL.if_dec, reduceCtorEq, exists_false, exists_const, or_false, false_or, if_true, if_false, LL.rInt1, LL.rMx, LL.rMn, and_assoc, Int.reduceNeg, Int.reduceLT, Int.reduceLE, Int.reduceMul, Int.reduceAdd, Int.reduceSub, Int.reducePow, Int.reduceToNat, Nat.reducePow, Nat.reduceLT, true_or, or_true, Bool.not_true, Bool.not_false, Bool.false_eq_true, Bool.or_false, Bool.or_true, Bool.true_or, Bool.false_or, decide_true, decide_false, not_true_eq_false, not_false_eq_true, LL.scal_int, LL.scal_bl, LL.scal_str, LL.isInt, LL.isBl, LL.isStr, LL.isLst, LL.isTup, LL.isDic, N_law_is_class]
    have hlen : (csz w).length ≤ 10 := Nat.le_trans (List.length_filter_le _ _) (by decide)
    cases hc : clsN w z (2 ^ k) with
    | none =>
      have e : clsV w z (2 ^ k) = .non := by unfold clsV; rw [hc]
      have hn := cls_none hc
      rw [e, if_neg (by simp)]
      refine use_forR (j := ((csz w).length : Nat)) (fun Q q => ⟨_, rfl, use_lenL ep (by rw [List.length_map]; exact q)⟩) (by omega) (by omega) (fun i σ' H' => Same H H' ∧ ∃ x y : Option V, σ' = [some (.ref p), some (.int z), some (.int (2 ^ k)), some (.non), x, y]) ⟨Same.refl _, _, _, rfl⟩ ?_ ?_
      · rintro i σ' H' hi ⟨s1, x, y, rfl⟩
        have hi2 : i < (csz w).length := by omega
        have hy := List.getElem?_eq_getElem hi2
        generalize (csz w)[i] = s at hy
        have hsz : s ∈ SZ := csz_sz (List.mem_of_getElem? hy)
        simp only [tSeq, tAsg, tRet, tRetN, tDrop, tNext, tVar, tC, gName, tOp, tUn, rI, rI0, rU, tIfS, tTest, tB, tIf, tAnd, tOr, tNot, tAndV, tOrV, tNotV, tCall, tCons, tNil, tCB, tLst, tTup, tChain, CMul, CDiv, CPow, rEq, rNe, gSub, L2.start, LL.cxK0, LL.cxK1, List.map_cons, List.map_nil, List.length_cons, List.length_nil, List.replicate_succ, List.replicate_zero, List.cons_append, List.nil_append, List.append_nil, List.getElem?_cons_zero, List.getElem?_cons_succ, List.set_cons_zero, List.set_cons_succ, Nat.add_sub_cancel, Nat.reduceAdd, Nat.reduceSub, Option.some.injEq, V.int.injEq, V.bl.injEq, V.ref.injEq, V.str.injEq, List.cons.injEq, and_true, true_and, and_false, false_and, exists_eq_left, exists_eq_left', exists_and_left, exists_and_right, exists_eq, exists_eq', LL.if_dec, reduceCtorEq, exists_false, exists_const, or_false, false_or, if_true, if_false, LL.rInt1, LL.rMx, LL.rMn, and_assoc, Int.reduceNeg, Int.reduceLT, Int.reduceLE, Int.reduceMul, Int.reduceAdd, Int.reduceSub, Int.reducePow, Int.reduceToNat, Nat.reducePow, Nat.reduceLT, true_or, or_true, Bool.not_true, Bool.not_false, Bool.false_eq_true, Bool.or_false, Bool.or_true, Bool.true_or, Bool.false_or, decide_true, decide_false, not_true_eq_false, not_false_eq_true, LL.scal_int, LL.scal_bl, LL.scal_str, LL.isInt, LL.isBl, LL.isStr, LL.isLst, LL.isTup, LL.isDic]
        rw [Int.zero_add]
        refine use_ixL (s1 _ _ ep) (v := .int s) (atI_nat (by rw [List.getElem?_map, hy]; rfl)) ⟨_, rfl, ?_⟩
        have mis := hn i s hy
        refine itei (fun h => ?_) (fun h => s1)
        refine use_ixL (s1 _ _ ep) (v := .int s) (atI_nat (by rw [List.getElem?_map, hy]; rfl)) ?_
        refine ⟨fun _ => True, _, .int s, rfl, rfl, fun c => absurd (show szB (.int s) = true from decide_eq_true hsz) (by rw [c]; simp), fun z' ez _ => ?_⟩
        cases ez
        refine ⟨_, rfl, ?_⟩
        rw [if_neg (fun h2 => mis ⟨h, h2⟩)]
        exact s1
      · rintro σ' H' ⟨s1, x, y, rfl⟩
        simp only [tSeq, tAsg, tRet, tRetN, tDrop, tNext, tVar, tC, gName, tOp, tUn, rI, rI0, rU, tIfS, tTest, tB, tIf, tAnd, tOr, tNot, tAndV, tOrV, tNotV, tCall, tCons, tNil, tCB, tLst, tTup, tChain, CMul, CDiv, CPow, rEq, rNe, gSub, L2.start, LL.cxK0, LL.cxK1, List.map_cons, List.map_nil, List.length_cons, List.length_nil, List.replicate_succ, List.replicate_zero, List.cons_append, List.nil_append, List.append_nil, List.getElem?_cons_zero, List.getElem?_cons_succ, List.set_cons_zero, List.set_cons_succ, Nat.add_sub_cancel, Nat.reduceAdd, Nat.reduceSub, Option.some.injEq, V.int.injEq, V.bl.injEq, V.ref.injEq, V.str.injEq, List.cons.injEq, and_true, true_and, and_false, false_and, exists_eq_left, exists_eq_left', exists_and_left, exists_and_right, exists_eq, exists_eq', LL.if_dec, reduceCtorEq, exists_false, exists_const, or_false, false_or, if_true, if_false, LL.rInt1, LL.rMx, LL.rMn, and_assoc, Int.reduceNeg, Int.reduceLT, Int.reduceLE, Int.reduceMul, Int.reduceAdd, Int.reduceSub, Int.reducePow, Int.reduceToNat, Nat.reducePow, Nat.reduceLT, true_or, or_true, Bool.not_true, Bool.not_false, Bool.false_eq_true, Bool.or_false, Bool.or_true, Bool.true_or, Bool.false_or, decide_true, decide_false, not_true_eq_false, not_false_eq_true, LL.scal_int, LL.scal_bl, LL.scal_str, LL.isInt, LL.isBl, LL.isStr, LL.isLst, LL.isTup, LL.isDic]
        exact q _ s1
    | some i0 =>
      have e : clsV w z (2 ^ k) = .int (i0 : Nat) := by unfold clsV; rw [hc]
      obtain ⟨c1, c2, c3⟩ := cls_some hc
      rw [e, if_pos (by simp)]
      refine use_lenL ep ⟨_, rfl, _, 0, _, rfl, true, by rw [decide_eq_true ⟨by omega, by rw [List.length_map]; omega⟩], ?_⟩
      rw [if_neg (by simp)]
      refine use_forR (j := ((csz w).length : Nat)) (fun Q q => ⟨_, rfl, use_lenL ep (by rw [List.length_map]; exact q)⟩) (by omega) (by omega) (fun i σ' H' => Same H H' ∧ ∃ x y : Option V, σ' = [some (.ref p), some (.int z), some (.int (2 ^ k)), some (.int (i0 : Nat)), x, y]) ⟨Same.refl _, _, _, rfl⟩ ?_ ?_
      · rintro i σ' H' hi ⟨s1, x, y, rfl⟩
        have hi2 : i < (csz w).length := by omega
        have hy := List.getElem?_eq_getElem hi2
        generalize (csz w)[i] = s at hy
        have hsz : s ∈ SZ := csz_sz (List.mem_of_getElem? hy)
        simp only [tSeq, tAsg, tRet, tRetN, tDrop, tNext, tVar, tC, gName, tOp, tUn, rI, rI0, rU, tIfS, tTest, tB, tIf, tAnd, tOr, tNot, tAndV, tOrV, tNotV, tCall, tCons, tNil, tCB, tLst, tTup, tChain, CMul, CDiv, CPow, rEq, rNe, gSub, L2.start, LL.cxK0, LL.cxK1, List.map_cons, List.map_nil, List.length_cons, List.length_nil, List.replicate_succ, List.replicate_zero, List.cons_append, List.nil_append, List.append_nil, List.getElem?_cons_zero, List.getElem?_cons_succ, List.set_cons_zero, List.set_cons_succ, Nat.add_sub_cancel, Nat.reduceAdd, Nat.reduceSub, Option.some.injEq, V.int.injEq, V.bl.injEq, V.ref.injEq, V.str.injEq, List.cons.injEq, and_true, true_and, and_false, false_and, exists_eq_left, exists_eq_left', exists_and_left, exists_and_right, exists_eq, exists_eq', LL.if_dec, reduceCtorEq, exists_false, exists_const, or_false, false_or, if_true, if_false, LL.rInt1, LL.rMx, LL.rMn, and_assoc, Int.reduceNeg, Int.reduceLT, Int.reduceLE, Int.reduceMul, Int.reduceAdd, Int.reduceSub, Int.reducePow, Int.reduceToNat, Nat.reducePow, Nat.reduceLT, true_or, or_true, Bool.not_true, Bool.not_false, Bool.false_eq_true, Bool.or_false, Bool.or_true, Bool.true_or, Bool.false_or, decide_true, decide_false, not_true_eq_false, not_false_eq_true, LL.scal_int, LL.scal_bl, LL.scal_str, LL.isInt, LL.isBl, LL.isStr, LL.isLst, LL.isTup, LL.isDic]
        rw [Int.zero_add]
        refine use_ixL (s1 _ _ ep) (v := .int s) (atI_nat (by rw [List.getElem?_map, hy]; rfl)) ⟨_, rfl, ?_⟩
        have yes : i = i0 → z ≤ s ∧ (2 : Int) ^ k ≤ calN s := fun e => by rw [e] at hy; exact c2 s hy
        have no : i < i0 → ¬ (z ≤ s ∧ (2 : Int) ^ k ≤ calN s) := fun e => c3 i s e hy
        refine itei (fun h => ?_) (fun h => ?_)
        · refine use_ixL (s1 _ _ ep) (v := .int s) (atI_nat (by rw [List.getElem?_map, hy]; rfl)) ?_
          refine ⟨fun _ => True, _, .int s, rfl, rfl, fun c => absurd (show szB (.int s) = true from decide_eq_true hsz) (by rw [c]; simp), fun z' ez _ => ?_⟩
          cases ez
          refine ⟨_, rfl, itei (fun h3 => ?_) (fun h3 => itei (fun h4 => ?_) (fun h4 => s1))⟩
          · rw [if_neg (fun h2 => no (by omega) ⟨h, h2⟩)]
            exact s1
          · rw [if_neg (by rw [decide_eq_true (yes (by omega)).2]; simp)]
            exact s1
        · refine itei (fun h3 => s1) (fun h3 => itei (fun h4 => ?_) (fun h4 => s1))
          exact absurd (yes (by omega)).1 h
      · rintro σ' H' ⟨s1, x, y, rfl⟩
        simp only [tSeq, tAsg, tRet, tRetN, tDrop, tNext, tVar, tC, gName, tOp, tUn, rI, rI0, rU, tIfS, tTest, tB, tIf, tAnd, tOr, tNot, tAndV, tOrV, tNotV, tCall, tCons, tNil, tCB, tLst, tTup, tChain, CMul, CDiv, CPow, rEq, rNe, gSub, L2.start, LL.cxK0, LL.cxK1, List.map_cons, List.map_nil, List.length_cons, List.length_nil, List.replicate_succ, List.replicate_zero, List.cons_append, List.nil_append, List.append_nil, List.getElem?_cons_zero, List.getElem?_cons_succ, List.set_cons_zero, List.set_cons_succ, Nat.add_sub_cancel, Nat.reduceAdd, Nat.reduceSub, Option.some.injEq, V.int.injEq, V.bl.injEq, V.ref.injEq, V.str.injEq, List.cons.injEq, and_true, true_and, and_false, false_and, exists_eq_left, exists_eq_left', exists_and_left, exists_and_right, exists_eq, exists_eq', LL.if_dec, reduceCtorEq, exists_false, exists_const, or_false, false_or, if_true, if_false, LL.rInt1, LL.rMx, LL.rMn, and_assoc, Int.reduceNeg, Int.reduceLT, Int.reduceLE, Int.reduceMul, Int.reduceAdd, Int.reduceSub, Int.reducePow, Int.reduceToNat, Nat.reducePow, Nat.reduceLT, true_or, or_true, Bool.not_true, Bool.not_false, Bool.false_eq_true, Bool.or_false, Bool.or_true, Bool.true_or, Bool.false_or, decide_true, decide_false, not_true_eq_false, not_false_eq_true, LL.scal_int, LL.scal_bl, LL.scal_str, LL.isInt, LL.isBl, LL.isStr, LL.isLst, LL.isTup, LL.isDic]
        exact q _ s1
end K26

namespace K26
open PySem PySem.Spec PyProof.Rows L2 LL
variable {P : Program} {w : World} {K : PySem.W.Frag} {mg : Str → Option Value} {base : Heap}

def eqI (m : Int) : LL.T → Bool
  | .int i => decide (i = m)
  | _ => false
def sp_same_int : Sp := fun vs H Q _ => ∃ (F : Addr → Prop) (v : V) (t : LL.T) (m : Int), vs = [v, .int m] ∧ Dt F H v t ∧ Q (.bl (eqI m t)) H
theorem ok_law_sameI (T : Tx K mg) : FnOk P w K mg base CX0 10 (He.ga K "_law_same") T.fd_law_same P_law_same sp_same_int := by
  have ih := ok_law_same (P := P) (w := w) (base := base) T 8
  refine T.F_law_same.ok sc_law_same (fun vs H Q E h => ?_) (fun cdv A outer s H vs Q E hr h => ⟨_, PSs.nox (pss_cons (ps_if (PW.pt (pw_or (pt_cmpR op_isN (pv 0) (pe_non) (nomark _)) (pw_or1 (pt_cmpR op_isN (pv 1) (pe_non) (nomark _))))) (pss_one (ps_ret ((pe_and (pe_cmpR op_isN (pv 0) (pe_non) (nomark _)) (pe_one (pe_cmpR op_isN (pv 1) (pe_non) (nomark _))))))) pss_nil) (pss_cons (ps_if (PW.pt (pw_or (pt_val (pe_callB call_isi (by rfl) T.z_isinstance (by decide +kernel) (pa_cons (pv 0) (pa_cons (pe_bltn (v := .ty "bool") (u := .type "bool") (by rfl) T.z_bool (by decide +kernel) rfl) pa_nil)))) (pw_or1 (pt_val (pe_callB call_isi (by rfl) T.z_isinstance (by decide +kernel) (pa_cons (pv 1) (pa_cons (pe_bltn (v := .ty "bool") (u := .type "bool") (by rfl) T.z_bool (by decide +kernel) rfl) pa_nil))))))) (pss_one (ps_ret ((pe_and (pe_callB call_isi (by rfl) T.z_isinstance (by decide +kernel) (pa_cons (pv 0) (pa_cons (pe_bltn (v := .ty "bool") (u := .type "bool") (by rfl) T.z_bool (by decide +kernel) rfl) pa_nil))) (pe_and (pe_callB call_isi (by rfl) T.z_isinstance (by decide +kernel) (pa_cons (pv 1) (pa_cons (pe_bltn (v := .ty "bool") (u := .type "bool") (by rfl) T.z_bool (by decide +kernel) rfl) pa_nil))) (pe_one (pe_cmpR op_eq (pv 0) (pv 1) (nomark _)))))))) pss_nil) (pss_cons (ps_if (pt_val (pe_callB call_isi (by rfl) T.z_isinstance (by decide +kernel) (pa_cons (pv 1) (pa_cons (pe_bltn (v := .ty "int") (u := .type "int") (by rfl) T.z_int (by decide +kernel) rfl) pa_nil)))) (pss_one (ps_ret ((pe_and (pe_callB call_isi (by rfl) T.z_isinstance (by decide +kernel) (pa_cons (pv 0) (pa_cons (pe_bltn (v := .ty "int") (u := .type "int") (by rfl) T.z_int (by decide +kernel) rfl) pa_nil))) (pe_one (pe_cmpR op_eq (pv 0) (pv 1) (nomark _))))))) pss_nil) (pss_cons (ps_if (pt_val (pe_callB call_isi (by rfl) T.z_isinstance (by decide +kernel) (pa_cons (pv 1) (pa_cons (pe_bltn (v := .ty "str") (u := .type "str") (by rfl) T.z_str (by decide +kernel) rfl) pa_nil)))) (pss_one (ps_ret ((pe_and (pe_callB call_isi (by rfl) T.z_isinstance (by decide +kernel) (pa_cons (pv 0) (pa_cons (pe_bltn (v := .ty "str") (u := .type "str") (by rfl) T.z_str (by decide +kernel) rfl) pa_nil))) (pe_one (pe_cmpR op_eq (pv 0) (pv 1) (nomark _))))))) pss_nil) (pss_cons (ps_if (pt_val (pe_callB call_isi (by rfl) T.z_isinstance (by decide +kernel) (pa_cons (pv 1) (pa_cons (pe_bltn (v := .ty "dict") (u := .type "dict") (by rfl) T.z_dict (by decide +kernel) rfl) pa_nil)))) (pss_cons (ps_if (PW.pt (pw_or (pt_not (pt_val (pe_callB call_isi (by rfl) T.z_isinstance (by decide +kernel) (pa_cons (pv 0) (pa_cons (pe_bltn (v := .ty "dict") (u := .type "dict") (by rfl) T.z_dict (by decide +kernel) rfl) pa_nil))))) (pw_or1 (pt_cmpR op_ne (pe_callB LL.call_lenA (by rfl) T.z_len (by decide +kernel) (pa_cons (pv 0) pa_nil)) (pe_callB LL.call_lenA (by rfl) T.z_len (by decide +kernel) (pa_cons (pv 1) pa_nil)) (nomark _))))) (pss_one (ps_ret (pe_bl))) pss_nil) (pss_cons (ps_for PassesOwn.never rfl (pi_list (pe_callTy (LL.call_lstD rfl) (by rfl) T.z_list (by decide +kernel) (pa_cons (pv 1) pa_nil))) (pg_name (i := 3) sc_law_same.nd rfl (Or.inl rfl)) (pss_one (ps_if (PW.pt (pw_or (pt_cmp (pc_dnotin (hu_of hr) (pv 3) (pv 0))) (pw_or1 (pt_not (pt_val (pe_call ih hr rfl T.g_law_same T.F_law_same.kp (b_law_same T) .nil pass0 (pa_cons (pe_dget (hu_of hr) (pv 0) (pv 3) (fun _ _ => rfl)) (pa_cons (pe_dget (hu_of hr) (pv 1) (pv 3) (fun _ _ => rfl)) pa_nil)))))))) (pss_one (ps_ret (pe_bl))) pss_nil))) (pss_one (ps_ret (pe_bl))))) pss_nil) (pss_cons (ps_if (pt_cmpR op_ne (pe_callB call_isi (by rfl) T.z_isinstance (by decide +kernel) (pa_cons (pv 1) (pa_cons (pe_bltn (v := .ty "list") (u := .type "list") (by rfl) T.z_list (by decide +kernel) rfl) pa_nil))) (pe_callB call_isi (by rfl) T.z_isinstance (by decide +kernel) (pa_cons (pv 0) (pa_cons (pe_bltn (v := .ty "list") (u := .type "list") (by rfl) T.z_list (by decide +kernel) rfl) pa_nil))) (nomark _)) (pss_one (ps_ret (pe_bl))) pss_nil) (pss_cons (ps_if (pt_cmpR op_ne (pe_callB call_isi (by rfl) T.z_isinstance (by decide +kernel) (pa_cons (pv 1) (pa_cons (pe_bltn (v := .ty "tuple") (u := .type "tuple") (by rfl) T.z_tuple (by decide +kernel) rfl) pa_nil))) (pe_callB call_isi (by rfl) T.z_isinstance (by decide +kernel) (pa_cons (pv 0) (pa_cons (pe_bltn (v := .ty "tuple") (u := .type "tuple") (by rfl) T.z_tuple (by decide +kernel) rfl) pa_nil))) (nomark _)) (pss_one (ps_ret (pe_bl))) pss_nil) (pss_cons (ps_if (PW.pt (pw_or (PW.pt (pw_and (pt_not (pt_val (pe_callB call_isi (by rfl) T.z_isinstance (by decide +kernel) (pa_cons (pv 1) (pa_cons (pe_bltn (v := .ty "list") (u := .type "list") (by rfl) T.z_list (by decide +kernel) rfl) pa_nil))))) (pw_and1 (pt_not (pt_val (pe_callB call_isi (by rfl) T.z_isinstance (by decide +kernel) (pa_cons (pv 1) (pa_cons (pe_bltn (v := .ty "tuple") (u := .type "tuple") (by rfl) T.z_tuple (by decide +kernel) rfl) pa_nil)))))))) (pw_or1 (pt_cmpR op_ne (pe_callB LL.call_lenA (by rfl) T.z_len (by decide +kernel) (pa_cons (pv 0) pa_nil)) (pe_callB LL.call_lenA (by rfl) T.z_len (by decide +kernel) (pa_cons (pv 1) pa_nil)) (nomark _))))) (pss_one (ps_ret (pe_bl))) pss_nil) (pss_cons (ps_for PassesOwn.never rfl (pi_range1 rfl T.z_range (pa_cons (pe_callB LL.call_lenA (by rfl) T.z_len (by decide +kernel) (pa_cons (pv 1) pa_nil)) pa_nil)) (pg_name (i := 2) sc_law_same.nd rfl (Or.inl rfl)) (pss_one (ps_if (pt_not (pt_val (pe_call ih hr rfl T.g_law_same T.F_law_same.kp (b_law_same T) .nil pass0 (pa_cons (pe_ix (show IxR _ (LL.rIxA K) from LL.ix_A) (pv 0) (pv 2) (fun _ _ => rfl)) (pa_cons (pe_ix (show IxR _ (LL.rIxA K) from LL.ix_A) (pv 1) (pv 2) (fun _ _ => rfl)) pa_nil))))) (pss_one (ps_ret (pe_bl))) pss_nil))) (pss_one (ps_ret (pe_bl)))))))))))), ?_⟩)
  · obtain ⟨_, _, _, _, rfl, _⟩ := h
    rfl
  · obtain ⟨F, v, t, m, rfl, h1, q⟩ := h
    have h2 : Dt F H (.int m) (.int m) := rfl
    cases t with
    | non =>
      obtain rfl : v = .non := h1
      simp only [tSeq, tAsg, tRet, tRetN, tDrop, tNext, tVar, tC, gName, tOp, tUn, rI, rI0, rU, tIfS, tTest, tB, tIf, tAnd, tOr, tNot, tAndV, tOrV, tNotV, tCall, tCons, tNil, tCB, tLst, tTup, tChain, CMul, CDiv, CPow, rEq, rNe, gSub, L2.start, LL.cxK0, LL.cxK1, List.map_cons, List.map_nil, List.length_cons, List.length_nil, List.replicate_succ, List.replicate_zero, List.cons_append, List.nil_append, List.append_nil, List.getElem?_cons_zero, List.getElem?_cons_succ, List.set_cons_zero, List.set_cons_succ, Nat.add_sub_cancel, Nat.reduceAdd, Nat.reduceSub, Option.some.injEq, V.int.injEq, V.bl.injEq, V.ref.injEq, V.str.injEq, List.cons.injEq, and_true, true_and, and_false, false_and, exists_eq_left, exists_eq_left', exists_and_left, exists_and_right, exists_eq, exists_eq', LL.if_dec, reduceCtorEq, exists_false, exists_const, or_false, false_or, if_true, if_false, LL.rInt1, LL.rMx, LL.rMn, and_assoc, Int.reduceNeg, Int.reduceLT, Int.reduceLE, Int.reduceMul, Int.reduceAdd, Int.reduceSub, Int.reducePow, Int.reduceToNat, Nat.reducePow, Nat.reduceLT, true_or, or_true, Bool.not_true, Bool.not_false, Bool.false_eq_true, Bool.or_false, Bool.or_true, Bool.true_or, Bool.false_or, decide_true, decide_false, not_true_eq_false, not_false_eq_true, LL.scal_int, LL.scal_bl, LL.scal_str, LL.isInt, LL.isBl, LL.isStr, LL.isLst, LL.isTup, LL.isDic, N_law_same]
      exact q
    | int i =>
      obtain rfl : v = .int i := h1
      have h1 : Dt F H (.int i) (.int i) := rfl
      simp only [tSeq, tAsg, tRet, tRetN, tDrop, tNext, tVar, tC, gName, tOp, tUn, rI, rI0, rU, tIfS, tTest, tB, tIf, tAnd, tOr, tNot, tAndV, tOrV, tNotV, tCall, tCons, tNil, tCB, tLst, tTup, tChain, CMul, CDiv, CPow, rEq, rNe, gSub, L2.start, LL.cxK0, LL.cxK1, List.map_cons, List.map_nil, List.length_cons, List.length_nil, List.replicate_succ, List.replicate_zero, List.cons_append, List.nil_append, List.append_nil, List.getElem?_cons_zero, List.getElem?_cons_succ, List.set_cons_zero, List.set_cons_succ, Nat.add_sub_cancel, Nat.reduceAdd, Nat.reduceSub, Option.some.injEq, V.int.injEq, V.bl.injEq, V.ref.injEq, V.str.injEq, List.cons.injEq, and_true, true_and, and_false, false_and, exists_eq_left, exists_eq_left', exists_and_left, exists_and_right, exists_eq, exists_eq', LL.if_dec, reduceCtorEq, exists_false, exists_const, or_false, false_or, if_true, if_false, LL.rInt1, LL.rMx, LL.rMn, and_assoc, Int.reduceNeg, Int.reduceLT, Int.reduceLE, Int.reduceMul, Int.reduceAdd, Int.reduceSub, Int.reducePow, Int.reduceToNat, Nat.reducePow, Nat.reduceLT, true_or, or_true, Bool.not_true, Bool.not_false, Bool.false_eq_true, Bool.or_false, Bool.or_true, Bool.true_or, Bool.false_or, decide_true, decide_false, not_true_eq_false, not_false_eq_true, LL.scal_int, LL.scal_bl, LL.scal_str, LL.isInt, LL.isBl, LL.isStr, LL.isLst, LL.isTup, LL.isDic, N_law_same]
      repeat (first | refine use_isi h1 (kit_int _) ?_ | refine use_isi h1 (kit_bool _) ?_ | refine use_isi h1 (kit_str _) ?_ | refine use_isi h1 (kit_list _) ?_ | refine use_isi h1 (kit_tuple _) ?_ | refine use_isi h1 (kit_dict _) ?_ | refine use_isi h2 (kit_int _) ?_ | refine use_isi h2 (kit_bool _) ?_ | refine use_isi h2 (kit_str _) ?_ | refine use_isi h2 (kit_list _) ?_ | refine use_isi h2 (kit_tuple _) ?_ | refine use_isi h2 (kit_dict _) ?_ | refine And.intro (show scal _ _ = true from rfl) ?_ | simp only [tSeq, tAsg, tRet, tRetN, tDrop, tNext, tVar, tC, gName, tOp, tUn, rI, rI0, rU, tIfS, tTest, tB, tIf, tAnd, tOr, tNot, tAndV, tOrV, tNotV, tCall, tCons, tNil, tCB, tLst, tTup, tChain, CMul, CDiv, CPow, rEq, rNe, gSub, L2.start, LL.cxK0, LL.cxK1, List.map_cons, List.map_nil, List.length_cons, List.length_nil, List.replicate_succ, List.replicate_zero, List.cons_append, List.nil_append, List.append_nil, List.getElem?_cons_zero, List.getElem?_cons_succ, List.set_cons_zero, List.set_cons_succ, Nat.add_sub_cancel, Nat.reduceAdd, Nat.reduceSub, Option.some.injEq, V.int.injEq, V.bl.injEq, V.ref.injEq, V.str.injEq, List.cons.injEq, and_true, true_and, and_false, false_and, exists_eq_left, exists_eq_left', exists_and_left, exists_and_right, exists_eq, exists_eq', LL.if_dec, reduceCtorEq, exists_false, exists_const, or_false, false_or, if_true, if_false, LL.rInt1, LL.rMx, LL.rMn, and_assoc, Int.reduceNeg, Int.reduceLT, Int.reduceLE, Int.reduceMul, Int.reduceAdd, Int.reduceSub, Int.reducePow, Int.reduceToNat, Nat.reducePow, Nat.reduceLT, true_or, or_true, Bool.not_true, Bool.not_false, Bool.false_eq_true, Bool.or_false, Bool.or_true, Bool.true_or, Bool.false_or, decide_true, decide_false, not_true_eq_false, not_false_eq_true, LL.scal_int, LL.scal_bl, LL.scal_str, LL.isInt, LL.isBl, LL.isStr, LL.isLst, LL.isTup, LL.isDic])
      exact q
    | bl b =>
      obtain rfl : v = .bl b := h1
      have h1 : Dt F H (.bl b) (.bl b) := rfl
      simp only [tSeq, tAsg, tRet, tRetN, tDrop, tNext, tVar, tC, gName, tOp, tUn, rI, rI0, rU, tIfS, tTest, tB, tIf, tAnd, tOr, tNot, tAndV, tOrV, tNotV, tCall, tCons, tNil, tCB, tLst, tTup, tChain, CMul, CDiv, CPow, rEq, rNe, gSub, L2.start, LL.cxK0, LL.cxK1, List.map_cons, List.map_nil, List.length_cons, List.length_nil, List.replicate_succ, List.replicate_zero, List.cons_append, List.nil_append, List.append_nil, List.getElem?_cons_zero, List.getElem?_cons_succ, List.set_cons_zero, List.set_cons_succ, Nat.add_sub_cancel, Nat.reduceAdd, Nat.reduceSub, Option.some.injEq, V.int.injEq, V.bl.injEq, V.ref.injEq, V.str.injEq, List.cons.injEq, and_true, true_and, and_false, false_and, exists_eq_left, exists_eq_left', exists_and_left, exists_and_right, exists_eq, exists_eq', LL.if_dec, reduceCtorEq, exists_false, exists_const, or_false, false_or, if_true, if_false, LL.rInt1, LL.rMx, LL.rMn, and_assoc, Int.reduceNeg, Int.reduceLT, Int.reduceLE, Int.reduceMul, Int.reduceAdd, Int.reduceSub, Int.reducePow, Int.reduceToNat, Nat.reducePow, Nat.reduceLT, true_or, or_true, Bool.not_true, Bool.not_false, Bool.false_eq_true, Bool.or_false, Bool.or_true, Bool.true_or, Bool.false_or, decide_true, decide_false, not_true_eq_false, not_false_eq_true, LL.scal_int, LL.scal_bl, LL.scal_str, LL.isInt, LL.isBl, LL.isStr, LL.isLst, LL.isTup, LL.isDic, N_law_same]
      repeat (first | refine use_isi h1 (kit_int _) ?_ | refine use_isi h1 (kit_bool _) ?_ | refine use_isi h1 (kit_str _) ?_ | refine use_isi h1 (kit_list _) ?_ | refine use_isi h1 (kit_tuple _) ?_ | refine use_isi h1 (kit_dict _) ?_ | refine use_isi h2 (kit_int _) ?_ | refine use_isi h2 (kit_bool _) ?_ | refine use_isi h2 (kit_str _) ?_ | refine use_isi h2 (kit_list _) ?_ | refine use_isi h2 (kit_tuple _) ?_ | refine use_isi h2 (kit_dict _) ?_ | refine And.intro (show scal _ _ = true from rfl) ?_ | simp only [tSeq, tAsg, tRet, tRetN, tDrop, tNext, tVar, tC, gName, tOp, tUn, rI, rI0, rU, tIfS, tTest, tB, tIf, tAnd, tOr, tNot, tAndV, tOrV, tNotV, tCall, tCons, tNil, tCB, tLst, tTup, tChain, CMul, CDiv, CPow, rEq, rNe, gSub, L2.start, LL.cxK0, LL.cxK1, List.map_cons, List.map_nil, List.length_cons, List.length_nil, List.replicate_succ, List.replicate_zero, List.cons_append, List.nil_append, List.append_nil, List.getElem?_cons_zero, List.getElem?_cons_succ, List.set_cons_zero, List.set_cons_succ, Nat.add_sub_cancel, Nat.reduceAdd, Nat.reduceSub, Option.some.injEq, V.int.injEq, V.bl.injEq, V.ref.injEq, V.str.injEq, List.cons.injEq, and_true, true_and, and_false, false_and, exists_eq_left, exists_eq_left', exists_and_left, exists_and_right, exists_eq, exists_eq', LL.if_dec, reduceCtorEq, exists_false, exists_const, or_false, false_or, if_true, if_false, LL.rInt1, LL.rMx, LL.rMn, and_assoc, Int.reduceNeg, Int.reduceLT, Int.reduceLE, Int.reduceMul, Int.reduceAdd, Int.reduceSub, Int.reducePow, Int.reduceToNat, Nat.reducePow, Nat.reduceLT, true_or, or_true, Bool.not_true, Bool.not_false, Bool.false_eq_true, Bool.or_false, Bool.or_true, Bool.true_or, Bool.false_or, decide_true, decide_false, not_true_eq_false, not_false_eq_true, LL.scal_int, LL.scal_bl, LL.scal_str, LL.isInt, LL.isBl, LL.isStr, LL.isLst, LL.isTup, LL.isDic])
      exact q
    | str z =>
      obtain rfl : v = .str z := h1
      have h1 : Dt F H (.str z) (.str z) := rfl
      simp only [tSeq, tAsg, tRet, tRetN, tDrop, tNext, tVar, tC, gName, tOp, tUn, rI, rI0, rU, tIfS, tTest, tB, tIf, tAnd, tOr, tNot, tAndV, tOrV, tNotV, tCall, tCons, tNil, tCB, tLst, tTup, tChain, CMul, CDiv, CPow, rEq, rNe, gSub, L2.start, LL.cxK0, LL.cxK1, List.map_cons, List.map_nil, List.length_cons, List.length_nil, List.replicate_succ, List.replicate_zero, List.cons_append, List.nil_append, List.append_nil, List.getElem?_cons_zero, List.getElem?_cons_succ, List.set_cons_zero, List.set_cons_succ, Nat.add_sub_cancel, Nat.reduceAdd, Nat.reduceSub, Option.some.injEq, V.int.injEq, V.bl.injEq, V.ref.injEq, V.str.injEq, List.cons.injEq, and_true, true_and, and_false, false_and, exists_eq_left, exists_eq_left', exists_and_left, exists_and_right, exists_eq, exists_eq', LL.if_dec, reduceCtorEq, exists_false, exists_const, or_false, false_or, if_true, if_false, LL.rInt1, LL.rMx, LL.rMn, and_assoc, Int.reduceNeg, Int.reduceLT, Int.reduceLE, Int.reduceMul, Int.reduceAdd, Int.reduceSub, Int.reducePow, Int.reduceToNat, Nat.reducePow, Nat.reduceLT, true_or, or_true, Bool.not_true, Bool.not_false, Bool.false_eq_true, Bool.or_false, Bool.or_true, Bool.true_or, Bool.false_or, decide_true, decide_false, not_true_eq_false, not_false_eq_true, LL.scal_int, LL.scal_bl, LL.scal_str, LL.isInt, LL.isBl, LL.isStr, LL.isLst, LL.isTup, LL.isDic, N_law_same]
      repeat (first | refine use_isi h1 (kit_int _) ?_ | refine use_isi h1 (kit_bool _) ?_ | refine use_isi h1 (kit_str _) ?_ | refine use_isi h1 (kit_list _) ?_ | refine use_isi h1 (kit_tuple _) ?_ | refine use_isi h1 (kit_dict _) ?_ | refine use_isi h2 (kit_int _) ?_ | refine use_isi h2 (kit_bool _) ?_ | refine use_isi h2 (kit_str _) ?_ | refine use_isi h2 (kit_list _) ?_ | refine use_isi h2 (kit_tuple _) ?_ | refine use_isi h2 (kit_dict _) ?_ | refine And.intro (show scal _ _ = true from rfl) ?_ | simp only [tSeq, tAsg, tRet, tRetN, tDrop, tNext, tVar, tC, gName, tOp, tUn, rI, rI0, rU, tIfS, tTest, tB, tIf, tAnd, tOr, tNot, tAndV, tOrV, tNotV, tCall, tCons, tNil, tCB, tLst, tTup, tChain, CMul, CDiv, CPow, rEq, rNe, gSub, L2.start, LL.cxK0, LL.cxK1, List.map_cons, List.map_nil, List.length_cons, List.length_nil, List.replicate_succ, List.replicate_zero, List.cons_append, List.nil_append, List.append_nil, List.getElem?_cons_zero, List.getElem?_cons_succ, List.set_cons_zero, List.set_cons_succ, Nat.add_sub_cancel, Nat.reduceAdd, Nat.reduceSub, Option.some.injEq, V.int.injEq, V.bl.injEq, V.ref.injEq, V.str.injEq, List.cons.injEq, and_true, true_and, and_false, false_and, exists_eq_left, exists_eq_left', exists_and_left, exists_and_right, exists_eq, exists_eq', LL.if_dec, reduceCtorEq, exists_false, exists_const, or_false, false_or, if_true, if_false, LL.rInt1, LL.rMx, LL.rMn, and_assoc, Int.reduceNeg, Int.reduceLT, Int.reduceLE, Int.reduceMul, Int.reduceAdd, Int.reduceSub, Int.reducePow, Int.reduceToNat, Nat.reducePow, Nat.reduceLT, true_or, or_true, Bool.not_true, Bool.not_false, Bool.false_eq_true, Bool.or_false, Bool.or_true, Bool.true_or, Bool.false_or, decide_true, decide_false, not_true_eq_false, not_false_eq_true, LL.scal_int, LL.scal_bl, LL.scal_str, LL.isInt, LL.isBl, LL.isStr, LL.isLst, LL.isTup, LL.isDic])
      exact q
    | lst us =>
      obtain ⟨p, xs, rfl, _⟩ := _root_.id h1
      simp only [tSeq, tAsg, tRet, tRetN, tDrop, tNext, tVar, tC, gName, tOp, tUn, rI, rI0, rU, tIfS, tTest, tB, tIf, tAnd, tOr, tNot, tAndV, tOrV, tNotV, tCall, tCons, tNil, tCB, tLst, tTup, tChain, CMul, CDiv, CPow, rEq, rNe, gSub, L2.start, LL.cxK0, LL.cxK1, List.map_cons, List.map_nil, List.length_cons, List.length_nil, List.replicate_succ, List.replicate_zero, List.cons_append, List.nil_append, List.append_nil, List.getElem?_cons_zero, List.getElem?_cons_succ, List.set_cons_zero, List.set_cons_succ, Nat.add_sub_cancel, Nat.reduceAdd, Nat.reduceSub, Option.some.injEq, V.int.injEq, V.bl.injEq, V.ref.injEq, V.str.injEq, List.cons.injEq, and_true, true_and, and_false, false_and, exists_eq_left, exists_eq_left', exists_and_left, exists_and_right, exists_eq, exists_eq', LL.if_dec, reduceCtorEq, exists_false, exists_const, or_false, false_or, if_true, if_false, LL.rInt1, LL.rMx, LL.rMn, and_assoc, Int.reduceNeg, Int.reduceLT, Int.reduceLE, Int.reduceMul, Int.reduceAdd, Int.reduceSub, Int.reducePow, Int.reduceToNat, Nat.reducePow, Nat.reduceLT, true_or, or_true, Bool.not_true, Bool.not_false, Bool.false_eq_true, Bool.or_false, Bool.or_true, Bool.true_or, Bool.false_or, decide_true, decide_false, not_true_eq_false, not_false_eq_true, LL.scal_int, LL.scal_bl, LL.scal_str, LL.isInt, LL.isBl, LL.isStr, LL.isLst, LL.isTup, LL.isDic, N_law_same]
      repeat (first | refine use_isi h1 (kit_int _) ?_ | refine use_isi h1 (kit_bool _) ?_ | refine use_isi h1 (kit_str _) ?_ | refine use_isi h1 (kit_list _) ?_ | refine use_isi h1 (kit_tuple _) ?_ | refine use_isi h1 (kit_dict _) ?_ | refine use_isi h2 (kit_int _) ?_ | refine use_isi h2 (kit_bool _) ?_ | refine use_isi h2 (kit_str _) ?_ | refine use_isi h2 (kit_list _) ?_ | refine use_isi h2 (kit_tuple _) ?_ | refine use_isi h2 (kit_dict _) ?_ | refine And.intro (show scal _ _ = true from rfl) ?_ | simp only [tSeq, tAsg, tRet, tRetN, tDrop, tNext, tVar, tC, gName, tOp, tUn, rI, rI0, rU, tIfS, tTest, tB, tIf, tAnd, tOr, tNot, tAndV, tOrV, tNotV, tCall, tCons, tNil, tCB, tLst, tTup, tChain, CMul, CDiv, CPow, rEq, rNe, gSub, L2.start, LL.cxK0, LL.cxK1, List.map_cons, List.map_nil, List.length_cons, List.length_nil, List.replicate_succ, List.replicate_zero, List.cons_append, List.nil_append, List.append_nil, List.getElem?_cons_zero, List.getElem?_cons_succ, List.set_cons_zero, List.set_cons_succ, Nat.add_sub_cancel, Nat.reduceAdd, Nat.reduceSub, Option.some.injEq, V.int.injEq, V.bl.injEq, V.ref.injEq, V.str.injEq, List.cons.injEq, and_true, true_and, and_false, false_and, exists_eq_left, exists_eq_left', exists_and_left, exists_and_right, exists_eq, exists_eq', LL.if_dec, reduceCtorEq, exists_false, exists_const, or_false, false_or, if_true, if_false, LL.rInt1, LL.rMx, LL.rMn, and_assoc, Int.reduceNeg, Int.reduceLT, Int.reduceLE, Int.reduceMul, Int.reduceAdd, Int.reduceSub, Int.reducePow, Int.reduceToNat, Nat.reducePow, Nat.reduceLT, true_or, or_true, Bool.not_true, Bool.not_false, Bool.false_eq_true, Bool.or_false, Bool.or_true, Bool.true_or, Bool.false_or, decide_true, decide_false, not_true_eq_false, not_false_eq_true, LL.scal_int, LL.scal_bl, LL.scal_str, LL.isInt, LL.isBl, LL.isStr, LL.isLst, LL.isTup, LL.isDic])
      exact q
    | tup us =>
      obtain ⟨p, xs, rfl, _⟩ := _root_.id h1
      simp only [tSeq, tAsg, tRet, tRetN, tDrop, tNext, tVar, tC, gName, tOp, tUn, rI, rI0, rU, tIfS, tTest, tB, tIf, tAnd, tOr, tNot, tAndV, tOrV, tNotV, tCall, tCons, tNil, tCB, tLst, tTup, tChain, CMul, CDiv, CPow, rEq, rNe, gSub, L2.start, LL.cxK0, LL.cxK1, List.map_cons, List.map_nil, List.length_cons, List.length_nil, List.replicate_succ, List.replicate_zero, List.cons_append, List.nil_append, List.append_nil, List.getElem?_cons_zero, List.getElem?_cons_succ, List.set_cons_zero, List.set_cons_succ, Nat.add_sub_cancel, Nat.reduceAdd, Nat.reduceSub, Option.some.injEq, V.int.injEq, V.bl.injEq, V.ref.injEq, V.str.injEq, List.cons.injEq, and_true, true_and, and_false, false_and, exists_eq_left, exists_eq_left', exists_and_left, exists_and_right, exists_eq, exists_eq', LL.if_dec, reduceCtorEq, exists_false, exists_const, or_false, false_or, if_true, if_false, LL.rInt1, LL.rMx, LL.rMn, and_assoc, Int.reduceNeg, Int.reduceLT, Int.reduceLE, Int.reduceMul, Int.reduceAdd, Int.reduceSub, Int.reducePow, Int.reduceToNat, Nat.reducePow, Nat.reduceLT, true_or, or_true, Bool.not_true, Bool.not_false, Bool.false_eq_true, Bool.or_false, Bool.or_true, Bool.true_or, Bool.false_or, decide_true, decide_false, not_true_eq_false, not_false_eq_true, LL.scal_int, LL.scal_bl, LL.scal_str, LL.isInt, LL.isBl, LL.isStr, LL.isLst, LL.isTup, LL.isDic, N_law_same]
      repeat (first | refine use_isi h1 (kit_int _) ?_ | refine use_isi h1 (kit_bool _) ?_ | refine use_isi h1 (kit_str _) ?_ | refine use_isi h1 (kit_list _) ?_ | refine use_isi h1 (kit_tuple _) ?_ | refine use_isi h1 (kit_dict _) ?_ | refine use_isi h2 (kit_int _) ?_ | refine use_isi h2 (kit_bool _) ?_ | refine use_isi h2 (kit_str _) ?_ | refine use_isi h2 (kit_list _) ?_ | refine use_isi h2 (kit_tuple _) ?_ | refine use_isi h2 (kit_dict _) ?_ | refine And.intro (show scal _ _ = true from rfl) ?_ | simp only [tSeq, tAsg, tRet, tRetN, tDrop, tNext, tVar, tC, gName, tOp, tUn, rI, rI0, rU, tIfS, tTest, tB, tIf, tAnd, tOr, tNot, tAndV, tOrV, tNotV, tCall, tCons, tNil, tCB, tLst, tTup, tChain, CMul, CDiv, CPow, rEq, rNe, gSub, L2.start, LL.cxK0, LL.cxK1, List.map_cons, List.map_nil, List.length_cons, List.length_nil, List.replicate_succ, List.replicate_zero, List.cons_append, List.nil_append, List.append_nil, List.getElem?_cons_zero, List.getElem?_cons_succ, List.set_cons_zero, List.set_cons_succ, Nat.add_sub_cancel, Nat.reduceAdd, Nat.reduceSub, Option.some.injEq, V.int.injEq, V.bl.injEq, V.ref.injEq, V.str.injEq, List.cons.injEq, and_true, true_and, and_false, false_and, exists_eq_left, exists_eq_left', exists_and_left, exists_and_right, exists_eq, exists_eq', LL.if_dec, reduceCtorEq, exists_false, exists_const, or_false, false_or, if_true, if_false, LL.rInt1, LL.rMx, LL.rMn, and_assoc, Int.reduceNeg, Int.reduceLT, Int.reduceLE, Int.reduceMul, Int.reduceAdd, Int.reduceSub, Int.reducePow, Int.reduceToNat, Nat.reducePow, Nat.reduceLT, true_or, or_true, Bool.not_true, Bool.not_false, Bool.false_eq_true, Bool.or_false, Bool.or_true, Bool.true_or, Bool.false_or, decide_true, decide_false, not_true_eq_false, not_false_eq_true, LL.scal_int, LL.scal_bl, LL.scal_str, LL.isInt, LL.isBl, LL.isStr, LL.isLst, LL.isTup, LL.isDic])
      exact q
    | dic u =>
      obtain ⟨p, xs, rfl, _⟩ := _root_.id h1
      simp only [tSeq, tAsg, tRet, tRetN, tDrop, tNext, tVar, tC, gName, tOp, tUn, rI, rI0, rU, tIfS, tTest, tB, tIf, tAnd, tOr, tNot, tAndV, tOrV, tNotV, tCall, tCons, tNil, tCB, tLst, tTup, tChain, CMul, CDiv, CPow, rEq, rNe, gSub, L2.start, LL.cxK0, LL.cxK1, List.map_cons, List.map_nil, List.length_cons, List.length_nil, List.replicate_succ, List.replicate_zero, List.cons_append, List.nil_append, List.append_nil, List.getElem?_cons_zero, List.getElem?_cons_succ, List.set_cons_zero, List.set_cons_succ, Nat.add_sub_cancel, Nat.reduceAdd, Nat.reduceSub, Option.some.injEq, V.int.injEq, V.bl.injEq, V.ref.injEq, V.str.injEq, List.cons.injEq, and_true, true_and, and_false, false_and, exists_eq_left, exists_eq_left', exists_and_left, exists_and_right, exists_eq, exists_eq', LL.if_dec, reduceCtorEq, exists_false, exists_const, or_false, false_or, if_true, if_false, LL.rInt1, LL.rMx, LL.rMn, and_assoc, Int.reduceNeg, Int.reduceLT, Int.reduceLE, Int.reduceMul, Int.reduceAdd, Int.reduceSub, Int.reducePow, Int.reduceToNat, Nat.reducePow, Nat.reduceLT, true_or, or_true, Bool.not_true, Bool.not_false, Bool.false_eq_true, Bool.or_false, Bool.or_true, Bool.true_or, Bool.false_or, decide_true, decide_false, not_true_eq_false, not_false_eq_true, LL.scal_int, LL.scal_bl, LL.scal_str, LL.isInt, LL.isBl, LL.isStr, LL.isLst, LL.isTup, LL.isDic, N_law_same]
      repeat (first | refine use_isi h1 (kit_int _) ?_ | refine use_isi h1 (kit_bool _) ?_ | refine use_isi h1 (kit_str _) ?_ | refine use_isi h1 (kit_list _) ?_ | refine use_isi h1 (kit_tuple _) ?_ | refine use_isi h1 (kit_dict _) ?_ | refine use_isi h2 (kit_int _) ?_ | refine use_isi h2 (kit_bool _) ?_ | refine use_isi h2 (kit_str _) ?_ | refine use_isi h2 (kit_list _) ?_ | refine use_isi h2 (kit_tuple _) ?_ | refine use_isi h2 (kit_dict _) ?_ | refine And.intro (show scal _ _ = true from rfl) ?_ | simp only [tSeq, tAsg, tRet, tRetN, tDrop, tNext, tVar, tC, gName, tOp, tUn, rI, rI0, rU, tIfS, tTest, tB, tIf, tAnd, tOr, tNot, tAndV, tOrV, tNotV, tCall, tCons, tNil, tCB, tLst, tTup, tChain, CMul, CDiv, CPow, rEq, rNe, gSub, L2.start, LL.cxK0, LL.cxK1, List.map_cons, List.map_nil, List.length_cons, List.length_nil, List.replicate_succ, List.replicate_zero, List.cons_append, List.nil_append, List.append_nil, List.getElem?_cons_zero, List.getElem?_cons_succ, List.set_cons_zero, List.set_cons_succ, Nat.add_sub_cancel, Nat.reduceAdd, Nat.reduceSub, Option.some.injEq, V.int.injEq, V.bl.injEq, V.ref.injEq, V.str.injEq, List.cons.injEq, and_true, true_and, and_false, false_and, exists_eq_left, exists_eq_left', exists_and_left, exists_and_right, exists_eq, exists_eq', LL.if_dec, reduceCtorEq, exists_false, exists_const, or_false, false_or, if_true, if_false, LL.rInt1, LL.rMx, LL.rMn, and_assoc, Int.reduceNeg, Int.reduceLT, Int.reduceLE, Int.reduceMul, Int.reduceAdd, Int.reduceSub, Int.reducePow, Int.reduceToNat, Nat.reducePow, Nat.reduceLT, true_or, or_true, Bool.not_true, Bool.not_false, Bool.false_eq_true, Bool.or_false, Bool.or_true, Bool.true_or, Bool.false_or, decide_true, decide_false, not_true_eq_false, not_false_eq_true, LL.scal_int, LL.scal_bl, LL.scal_str, LL.isInt, LL.isBl, LL.isStr, LL.isLst, LL.isTup, LL.isDic])
      exact q
/-- the values of which one that is not among the row is handed out -/
def oddT : List LL.T := [.int (-1), .int 0, .int 1, .int 2, .int 8, .int 15, .int 17, .int 33, .int 48, .int 128, .bl true, .bl false, .non, .str "", .str "worst", .str "16", .lst [], .tup [], .lst [.int 16], .tup [.str "best"]]
def notIn (ns : List Int) (t : LL.T) : Bool := ns.all fun n => !eqI n t
theorem odd_dep : ∀ t ∈ oddT, dep t ≤ 1 := by decide +kernel
def sp_law_not_among (K : PySem.W.Frag) : Sp := fun vs H Q _ => ∃ (d s p : Addr) (ns : List Int), vs = [.ref d, .ref p] ∧ Drw d s H ∧ p ≠ s ∧ H p = some (.lst (ns.map V.int)) ∧ ns.length ≤ 1000 ∧ ∀ v t H', Aft d s H H' → Drw d s H' → Dt (fun a => H a = none) H' v t → dep t ≤ 1 → (∀ n ∈ ns, t ≠ .int n) → Q v H'
theorem use_not_among {K : PySem.W.Frag} {d s p : Addr} {ns : List Int} {H : Hp} {Q : VK} {E : XK} (D : Drw d s H) (hp : p ≠ s) (ep : H p = some (.lst (ns.map V.int))) (hl : ns.length ≤ 1000) (q : ∀ v t H', Aft d s H H' → Drw d s H' → Dt (fun a => H a = none) H' v t → dep t ≤ 1 → (∀ n ∈ ns, t ≠ .int n) → Q v H') : sp_law_not_among K [.ref d, .ref p] H Q E := ⟨d, s, p, ns, rfl, D, hp, ep, hl, q⟩

theorem ok_law_not_among (T : Tx K mg) : FnOk P w K mg base CX0 11 (He.ga K "_law_not_among") T.fd_law_not_among P_law_not_among (sp_law_not_among K) := by
  refine T.F_law_not_among.ok sc_law_not_among (fun vs H Q E h => ?_) (fun cdv A outer s H vs Q E hr h => ⟨_, PSs.nox (pss_cons (ps_set (i := 2) sc_law_not_among.nd rfl (Or.inl rfl) (pe_lst pa_nil)) (pss_cons (ps_for PassesOwn.never rfl (pi_list (pe_lst (pa_cons (pe_un un_neg (pe_int)) (pa_cons (pe_int) (pa_cons (pe_int) (pa_cons (pe_int) (pa_cons (pe_int) (pa_cons (pe_int) (pa_cons (pe_int) (pa_cons (pe_int) (pa_cons (pe_int) (pa_cons (pe_int) (pa_cons (pe_bl) (pa_cons (pe_bl) (pa_cons (pe_non) (pa_cons (pe_str) (pa_cons (pe_str) (pa_cons (pe_str) (pa_cons (pe_lst pa_nil) (pa_cons (pe_tup pa_nil) (pa_cons (pe_lst (pa_cons (pe_int) pa_nil)) (pa_cons (pe_tup (pa_cons (pe_str) pa_nil)) pa_nil)))))))))))))))))))))) (pg_name (i := 3) sc_law_not_among.nd rfl (Or.inl rfl)) (pss_cons (ps_set (i := 4) sc_law_not_among.nd rfl (Or.inl rfl) (pe_bl)) (pss_cons (ps_for PassesOwn.never rfl (pi_list (pv 1)) (pg_name (i := 5) sc_law_not_among.nd rfl (Or.inl rfl)) (pss_one (ps_if (pt_val (pe_call (ok_law_sameI T) (hr.mono (by decide)) rfl T.g_law_same T.F_law_same.kp (b_law_same T) .nil pass0 (pa_cons (pv 3) (pa_cons (pv 5) pa_nil)))) (pss_one (ps_set (i := 4) sc_law_not_among.nd rfl (Or.inl rfl) (pe_bl))) pss_nil))) (pss_one (ps_if (pt_not (pt_val (pv 4))) (pss_one (ps_expr (pe_bm PySem.F.plainAttrs_list PySem.F.slot_list_append PySem.F.type_list_append mt_append (pv 2) (pa_cons (pv 3) pa_nil)))) pss_nil))))) (pss_one (ps_ret (pe_call (ok_law_among T) (hr.mono (by decide)) rfl T.g_law_among T.F_law_among.kp (b_law_among T) .nil pass0 (pa_cons (pv 0) (pa_cons (pv 2) pa_nil))))))), ?_⟩)
  · obtain ⟨_, _, _, _, rfl, _⟩ := h
    rfl
  · obtain ⟨d, s, p, ns, rfl, D, hp, ep, hl, q⟩ := h
    simp only [tSeq, tAsg, tRet, tRetN, tDrop, tNext, tVar, tC, gName, tOp, tUn, rI, rI0, rU, tIfS, tTest, tB, tIf, tAnd, tOr, tNot, tAndV, tOrV, tNotV, tCall, tCons, tNil, tCB, tLst, tTup, tChain, CMul, CDiv, CPow, rEq, rNe, gSub, L2.start, LL.cxK0, LL.cxK1, List.map_cons, List.map_nil, List.length_cons, List.length_nil, List.replicate_succ, List.replicate_zero, List.cons_append, List.nil_append, List.append_nil, List.getElem?_cons_zero, List.getElem?_cons_succ, List.set_cons_zero, List.set_cons_succ, Nat.add_sub_cancel, Nat.reduceAdd, Nat.reduceSub, Option.some.injEq, V.int.injEq, V.bl.injEq, V.ref.injEq, V.str.injEq, List.cons.injEq, and_true, true_and, and_false, false_and, exists_eq_left, exists_eq_left', exists_and_left, exists_and_right, exists_eq, exists_eq', LL.if_dec, reduceCtorEq, exists_false, exists_const, or_false, false_or, if_true, if_false, LL.rInt1, LL.rMx, LL.rMn, and_assoc, Int.reduceNeg, Int.reduceLT, Int.reduceLE, Int.reduceMul, Int.reduceAdd, Int.reduceSub, Int.reducePow, Int.reduceToNat, Nat.reducePow, Nat.reduceLT, true_or, or_true, Bool.not_true, Bool.not_false, Bool.false_eq_true, Bool.or_false, Bool.or_true, Bool.true_or, Bool.false_or, decide_true, decide_false, not_true_eq_false, not_false_eq_true, LL.scal_int, LL.scal_bl, LL.scal_str, LL.isInt, LL.isBl, LL.isStr, LL.isLst, LL.isTup, LL.isDic, N_law_not_among]
    have ep0 := ep
    refine ⟨by decide, ?_⟩
    intro rs nrs
    generalize hq : upd H rs _ = H1
    have sH1 : Same H H1 := hq ▸ Same.new (Same.refl _) nrs
    have ers := hq ▸ (upd_same (H := H) (a := rs))
    clear hq
    replace ep := sH1 _ _ ep
    have nrs2 : ∀ b, H1 b = none → b ≠ rs := fun b hb z => by rw [z, ers] at hb; cases hb
    have hrs := nrs
    replace nrs := D.ne _ nrs
    refine use_forLX (R := fun a xs H' => Same H1 H' ∧ H' a = some (.lst xs) ∧ a ≠ rs ∧ DtL (fun b => H1 b = none) H' xs oddT) (fun Q hQ => ?_)
      (fun a xs i σ' H' => Same H H' ∧ H' a = some (.lst xs) ∧ a ≠ rs ∧ DtL (fun b => H1 b = none) H' xs oddT ∧ (∃ acc, H' rs = some (.lst acc) ∧ DtL (fun b => H1 b = none) H' acc ((oddT.take i).filter (notIn ns))) ∧ ∃ x y z : Option V, σ' = [some (.ref d), some (.ref p), some (.ref rs), x, y, z]) ?_ (fun a xs i σ' H' _ ⟨_, e, _⟩ => SqL.of e) ?_ ?_
    · simp only [tSeq, tAsg, tRet, tRetN, tDrop, tNext, tVar, tC, gName, tOp, tUn, rI, rI0, rU, tIfS, tTest, tB, tIf, tAnd, tOr, tNot, tAndV, tOrV, tNotV, tCall, tCons, tNil, tCB, tLst, tTup, tChain, CMul, CDiv, CPow, rEq, rNe, gSub, L2.start, LL.cxK0, LL.cxK1, List.map_cons, List.map_nil, List.length_cons, List.length_nil, List.replicate_succ, List.replicate_zero, List.cons_append, List.nil_append, List.append_nil, List.getElem?_cons_zero, List.getElem?_cons_succ, List.set_cons_zero, List.set_cons_succ, Nat.add_sub_cancel, Nat.reduceAdd, Nat.reduceSub, Option.some.injEq, V.int.injEq, V.bl.injEq, V.ref.injEq, V.str.injEq, List.cons.injEq, and_true, true_and, and_false, false_and, exists_eq_left, exists_eq_left', exists_and_left, exists_and_right, exists_eq, exists_eq', LL.if_dec, reduceCtorEq, exists_false, exists_const, or_false, false_or, if_true, if_false, LL.rInt1, LL.rMx, LL.rMn, and_assoc, Int.reduceNeg, Int.reduceLT, Int.reduceLE, Int.reduceMul, Int.reduceAdd, Int.reduceSub, Int.reducePow, Int.reduceToNat, Nat.reducePow, Nat.reduceLT, true_or, or_true, Bool.not_true, Bool.not_false, Bool.false_eq_true, Bool.or_false, Bool.or_true, Bool.true_or, Bool.false_or, decide_true, decide_false, not_true_eq_false, not_false_eq_true, LL.scal_int, LL.scal_bl, LL.scal_str, LL.isInt, LL.isBl, LL.isStr, LL.isLst, LL.isTup, LL.isDic]
      refine ⟨by decide, ?_⟩
      intro q1 nq1
      generalize hq : upd H1 q1 _ = H2
      have sH2 : Same H1 H2 := hq ▸ Same.new (Same.refl _) nq1
      have eq1 := hq ▸ (upd_same (H := H1) (a := q1))
      clear hq
      refine ⟨by decide, ?_⟩
      intro q2 nq2
      generalize hq : upd H2 q2 _ = H3
      have sH3 : Same H2 H3 := hq ▸ Same.new (Same.refl _) nq2
      have eq2 := hq ▸ (upd_same (H := H2) (a := q2))
      clear hq
      replace eq1 := sH3 _ _ eq1
      refine ⟨by decide, ?_⟩
      intro q3 nq3
      generalize hq : upd H3 q3 _ = H4
      have sH4 : Same H3 H4 := hq ▸ Same.new (Same.refl _) nq3
      have eq3 := hq ▸ (upd_same (H := H3) (a := q3))
      clear hq
      replace eq1 := sH4 _ _ eq1
      replace eq2 := sH4 _ _ eq2
      refine ⟨by decide, ?_⟩
      intro q4 nq4
      generalize hq : upd H4 q4 _ = H5
      have sH5 : Same H4 H5 := hq ▸ Same.new (Same.refl _) nq4
      have eq4 := hq ▸ (upd_same (H := H4) (a := q4))
      clear hq
      replace eq1 := sH5 _ _ eq1
      replace eq2 := sH5 _ _ eq2
      replace eq3 := sH5 _ _ eq3
      refine ⟨by decide, ?_⟩
      intro q5 nq5
      generalize hq : upd H5 q5 _ = H6
      have sH6 : Same H5 H6 := hq ▸ Same.new (Same.refl _) nq5
      have eq5 := hq ▸ (upd_same (H := H5) (a := q5))
      clear hq
      replace eq1 := sH6 _ _ eq1
      replace eq2 := sH6 _ _ eq2
      replace eq3 := sH6 _ _ eq3
      replace eq4 := sH6 _ _ eq4
      have f2 := sH2.free nq2
      have f3 := (sH2.trans sH3).free nq3
      have f4 := ((sH2.trans sH3).trans sH4).free nq4
      have f5 := (((sH2.trans sH3).trans sH4).trans sH5).free nq5
      refine hQ _ _ _ ⟨(((sH2.trans sH3).trans sH4).trans sH5).trans sH6, eq5, nrs2 _ f5, ?_⟩
      have it : ∀ i : Int, Dt (fun b => H1 b = none) H6 (.int i) (.int i) := fun _ => rfl
      have bt : ∀ i : Bool, Dt (fun b => H1 b = none) H6 (.bl i) (.bl i) := fun _ => rfl
      have st : ∀ i : Str, Dt (fun b => H1 b = none) H6 (.str i) (.str i) := fun _ => rfl
      exact .cons (it _) (.cons (it _) (.cons (it _) (.cons (it _) (.cons (it _) (.cons (it _) (.cons (it _) (.cons (it _) (.cons (it _) (.cons (it _) (.cons (bt _) (.cons (bt _) (.cons rfl (.cons (st _) (.cons (st _) (.cons (st _) (.cons ⟨q1, _, rfl, nq1, eq1, rfl, by simp⟩ (.cons ⟨q2, _, rfl, f2, eq2, rfl, by simp⟩ (.cons ⟨q3, _, rfl, f3, eq3, .one rfl, by simp⟩ (.one ⟨q4, _, rfl, f4, eq4, .one rfl, by simp⟩)))))))))))))))))))
    · rintro a xs H' ⟨s1, ea, na, hx⟩
      exact ⟨sH1.trans s1, ea, na, hx, ⟨[], s1 _ _ ers, rfl⟩, _, _, _, rfl⟩
    · rintro a xs i x σ' H' hi ⟨s1, ea, na, hx, ⟨acc, er, hacc⟩, y1, y2, y3, rfl⟩
      obtain ⟨t, et, dt⟩ := hx.get _ hi
      simp only [tSeq, tAsg, tRet, tRetN, tDrop, tNext, tVar, tC, gName, tOp, tUn, rI, rI0, rU, tIfS, tTest, tB, tIf, tAnd, tOr, tNot, tAndV, tOrV, tNotV, tCall, tCons, tNil, tCB, tLst, tTup, tChain, CMul, CDiv, CPow, rEq, rNe, gSub, L2.start, LL.cxK0, LL.cxK1, List.map_cons, List.map_nil, List.length_cons, List.length_nil, List.replicate_succ, List.replicate_zero, List.cons_append, List.nil_append, List.append_nil, List.getElem?_cons_zero, List.getElem?_cons_succ, List.set_cons_zero, List.set_cons_succ, Nat.add_sub_cancel, Nat.reduceAdd, Nat.reduceSub, Option.some.injEq, V.int.injEq, V.bl.injEq, V.ref.injEq, V.str.injEq, List.cons.injEq, and_true, true_and, and_false, false_and, exists_eq_left, exists_eq_left', exists_and_left, exists_and_right, exists_eq, exists_eq', LL.if_dec, reduceCtorEq, exists_false, exists_const, or_false, false_or, if_true, if_false, LL.rInt1, LL.rMx, LL.rMn, and_assoc, Int.reduceNeg, Int.reduceLT, Int.reduceLE, Int.reduceMul, Int.reduceAdd, Int.reduceSub, Int.reducePow, Int.reduceToNat, Nat.reducePow, Nat.reduceLT, true_or, or_true, Bool.not_true, Bool.not_false, Bool.false_eq_true, Bool.or_false, Bool.or_true, Bool.true_or, Bool.false_or, decide_true, decide_false, not_true_eq_false, not_false_eq_true, LL.scal_int, LL.scal_bl, LL.scal_str, LL.isInt, LL.isBl, LL.isStr, LL.isLst, LL.isTup, LL.isDic]
      refine use_forL (a := p) (xs := ns.map V.int) (fun Q q => ⟨_, rfl, q⟩) (fun j σ' H2 => H2 = H' ∧ ∃ z : Option V, σ' = [some (.ref d), some (.ref p), some (.ref rs), some x, some (.bl (!notIn (ns.take j) t)), z]) ⟨rfl, _, rfl⟩ (fun j σ' H2 _ ⟨e, _⟩ => by rw [e]; exact SqL.of (s1 _ _ ep0)) ?_ ?_
      · rintro j m σ' H2 hj ⟨rfl, z, rfl⟩
        rw [List.getElem?_map] at hj
        obtain ⟨n, hn, rfl⟩ := Option.map_eq_some_iff.mp hj
        simp only [tSeq, tAsg, tRet, tRetN, tDrop, tNext, tVar, tC, gName, tOp, tUn, rI, rI0, rU, tIfS, tTest, tB, tIf, tAnd, tOr, tNot, tAndV, tOrV, tNotV, tCall, tCons, tNil, tCB, tLst, tTup, tChain, CMul, CDiv, CPow, rEq, rNe, gSub, L2.start, LL.cxK0, LL.cxK1, List.map_cons, List.map_nil, List.length_cons, List.length_nil, List.replicate_succ, List.replicate_zero, List.cons_append, List.nil_append, List.append_nil, List.getElem?_cons_zero, List.getElem?_cons_succ, List.set_cons_zero, List.set_cons_succ, Nat.add_sub_cancel, Nat.reduceAdd, Nat.reduceSub, Option.some.injEq, V.int.injEq, V.bl.injEq, V.ref.injEq, V.str.injEq, List.cons.injEq, and_true, true_and, and_false, false_and, exists_eq_left, exists_eq_left', exists_and_left, exists_and_right, exists_eq, exists_eq', LL.if_dec, reduceCtorEq, exists_false, exists_const, or_false, false_or, if_true, if_false, LL.rInt1, LL.rMx, LL.rMn, and_assoc, Int.reduceNeg, Int.reduceLT, Int.reduceLE, Int.reduceMul, Int.reduceAdd, Int.reduceSub, Int.reducePow, Int.reduceToNat, Nat.reducePow, Nat.reduceLT, true_or, or_true, Bool.not_true, Bool.not_false, Bool.false_eq_true, Bool.or_false, Bool.or_true, Bool.true_or, Bool.false_or, decide_true, decide_false, not_true_eq_false, not_false_eq_true, LL.scal_int, LL.scal_bl, LL.scal_str, LL.isInt, LL.isBl, LL.isStr, LL.isLst, LL.isTup, LL.isDic]
        refine ⟨_, _, t, n, rfl, dt, _, rfl, ?_⟩
        have e1 : notIn (ns.take (j + 1)) t = (notIn (ns.take j) t && !eqI n t) := by unfold notIn; rw [take_one hn, List.all_append]; simp
        refine itei (fun h => ⟨rfl, ?_⟩) (fun h => ⟨rfl, ?_⟩)
        · rw [e1, h]; simp
        · rw [e1, show eqI n t = false by cases hh : eqI n t; rfl; exact absurd hh h]; simp
      · rintro σ' H2 ⟨rfl, z, rfl⟩
        simp only [tSeq, tAsg, tRet, tRetN, tDrop, tNext, tVar, tC, gName, tOp, tUn, rI, rI0, rU, tIfS, tTest, tB, tIf, tAnd, tOr, tNot, tAndV, tOrV, tNotV, tCall, tCons, tNil, tCB, tLst, tTup, tChain, CMul, CDiv, CPow, rEq, rNe, gSub, L2.start, LL.cxK0, LL.cxK1, List.map_cons, List.map_nil, List.length_cons, List.length_nil, List.replicate_succ, List.replicate_zero, List.cons_append, List.nil_append, List.append_nil, List.getElem?_cons_zero, List.getElem?_cons_succ, List.set_cons_zero, List.set_cons_succ, Nat.add_sub_cancel, Nat.reduceAdd, Nat.reduceSub, Option.some.injEq, V.int.injEq, V.bl.injEq, V.ref.injEq, V.str.injEq, List.cons.injEq, and_true, true_and, and_false, false_and, exists_eq_left, exists_eq_left', exists_and_left, exists_and_right, exists_eq, exists_eq', LL.if_dec, reduceCtorEq, exists_false, exists_const, or_false, false_or, if_true, if_false, LL.rInt1, LL.rMx, LL.rMn, and_assoc, Int.reduceNeg, Int.reduceLT, Int.reduceLE, Int.reduceMul, Int.reduceAdd, Int.reduceSub, Int.reducePow, Int.reduceToNat, Nat.reducePow, Nat.reduceLT, true_or, or_true, Bool.not_true, Bool.not_false, Bool.false_eq_true, Bool.or_false, Bool.or_true, Bool.true_or, Bool.false_or, decide_true, decide_false, not_true_eq_false, not_false_eq_true, LL.scal_int, LL.scal_bl, LL.scal_str, LL.isInt, LL.isBl, LL.isStr, LL.isLst, LL.isTup, LL.isDic]
        rw [List.length_map, List.take_length]
        have e2 : (oddT.take (i + 1)).filter (notIn ns) = (oddT.take i).filter (notIn ns) ++ (if notIn ns t = true then [t] else []) := by
          rw [take_one et, List.filter_append]
          simp [List.filter_cons]
        refine itei (fun h => ?_) (fun h => ?_)
        · have h : notIn ns t = true := by simpa using h
          rw [e2, if_pos h]
          simp only [tSeq, tAsg, tRet, tRetN, tDrop, tNext, tVar, tC, gName, tOp, tUn, rI, rI0, rU, tIfS, tTest, tB, tIf, tAnd, tOr, tNot, tAndV, tOrV, tNotV, tCall, tCons, tNil, tCB, tLst, tTup, tChain, CMul, CDiv, CPow, rEq, rNe, gSub, L2.start, LL.cxK0, LL.cxK1, List.map_cons, List.map_nil, List.length_cons, List.length_nil, List.replicate_succ, List.replicate_zero, List.cons_append, List.nil_append, List.append_nil, List.getElem?_cons_zero, List.getElem?_cons_succ, List.set_cons_zero, List.set_cons_succ, Nat.add_sub_cancel, Nat.reduceAdd, Nat.reduceSub, Option.some.injEq, V.int.injEq, V.bl.injEq, V.ref.injEq, V.str.injEq, List.cons.injEq, and_true, true_and, and_false, false_and, exists_eq_left, exists_eq_left', exists_and_left, exists_and_right, exists_eq, exists_eq', LL.if_dec, reduceCtorEq, exists_false, exists_const, or_false, false_or, if_true, if_false, LL.rInt1, LL.rMx, LL.rMn, and_assoc, Int.reduceNeg, Int.reduceLT, Int.reduceLE, Int.reduceMul, Int.reduceAdd, Int.reduceSub, Int.reducePow, Int.reduceToNat, Nat.reducePow, Nat.reduceLT, true_or, or_true, Bool.not_true, Bool.not_false, Bool.false_eq_true, Bool.or_false, Bool.or_true, Bool.true_or, Bool.false_or, decide_true, decide_false, not_true_eq_false, not_false_eq_true, LL.scal_int, LL.scal_bl, LL.scal_str, LL.isInt, LL.isBl, LL.isStr, LL.isLst, LL.isTup, LL.isDic, tBM]
          refine ⟨ty_list er, use_append er (small_sz ?_) ?_⟩
          · rw [hacc.len]
            exact Nat.le_trans (List.length_filter_le _ _) (by rw [List.length_take]; exact Nat.le_trans (Nat.min_le_right _ _) (by decide))
          · refine ⟨Same.own s1 hrs, by rw [upd_ne na]; exact ea, na, hx.off nrs2, _, upd_same, DtL.app _ (hacc.off nrs2) (.one (dt.off nrs2))⟩
        · have h : ¬ notIn ns t = true := by simpa using h
          rw [e2, if_neg h, List.append_nil]
          exact ⟨s1, ea, na, hx, acc, er, hacc⟩
    · rintro a xs σ' H' ⟨s1, ea, na, hx, ⟨acc, er, hacc⟩, y1, y2, y3, rfl⟩
      simp only [tSeq, tAsg, tRet, tRetN, tDrop, tNext, tVar, tC, gName, tOp, tUn, rI, rI0, rU, tIfS, tTest, tB, tIf, tAnd, tOr, tNot, tAndV, tOrV, tNotV, tCall, tCons, tNil, tCB, tLst, tTup, tChain, CMul, CDiv, CPow, rEq, rNe, gSub, L2.start, LL.cxK0, LL.cxK1, List.map_cons, List.map_nil, List.length_cons, List.length_nil, List.replicate_succ, List.replicate_zero, List.cons_append, List.nil_append, List.append_nil, List.getElem?_cons_zero, List.getElem?_cons_succ, List.set_cons_zero, List.set_cons_succ, Nat.add_sub_cancel, Nat.reduceAdd, Nat.reduceSub, Option.some.injEq, V.int.injEq, V.bl.injEq, V.ref.injEq, V.str.injEq, List.cons.injEq, and_true, true_and, and_false, false_and, exists_eq_left, exists_eq_left', exists_and_left, exists_and_right, exists_eq, exists_eq', LL.if_dec, reduceCtorEq, exists_false, exists_const, or_false, false_or, if_true, if_false, LL.rInt1, LL.rMx, LL.rMn, and_assoc, Int.reduceNeg, Int.reduceLT, Int.reduceLE, Int.reduceMul, Int.reduceAdd, Int.reduceSub, Int.reducePow, Int.reduceToNat, Nat.reducePow, Nat.reduceLT, true_or, or_true, Bool.not_true, Bool.not_false, Bool.false_eq_true, Bool.or_false, Bool.or_true, Bool.true_or, Bool.false_or, decide_true, decide_false, not_true_eq_false, not_false_eq_true, LL.scal_int, LL.scal_bl, LL.scal_str, LL.isInt, LL.isBl, LL.isStr, LL.isLst, LL.isTup, LL.isDic]
      rw [hx.len, List.take_length] at hacc
      have hpos : 0 < ((oddT).filter (notIn ns)).length := List.length_pos_of_mem (a := .bl true) (List.mem_filter.mpr ⟨by simp [oddT], by simp [notIn, eqI]⟩)
      have hle : ((oddT).filter (notIn ns)).length ≤ 20 := List.length_filter_le _ _
      refine use_among (D.same s1) nrs er (by rw [hacc.len]; exact hpos) (by rw [hacc.len]; omega) fun v hv H2 a2 D2 => ?_
      obtain ⟨j, hj⟩ := List.getElem?_of_mem hv
      obtain ⟨t, et, dt⟩ := hacc.get _ hj
      obtain ⟨m1, m2⟩ := List.mem_filter.mp (List.mem_of_getElem? et)
      refine q v t H2 ((Aft.same D s1).trans a2) D2 ((dt.kp (fun b hb => D.ne b (sH1.free hb)) a2.kp).to fun b hb => sH1.free hb) (odd_dep t m1) fun n hn e => ?_
      have := List.all_eq_true.mp m2 n hn
      rw [e] at this
      simp [eqI] at this
end K26

namespace K26
open PySem PySem.Spec PyProof.Rows L2 LL
variable {P : Program} {w : World} {K : PySem.W.Frag} {mg : Str → Option Value} {base : Heap}

def ttl : Nat → Str
  | 0 => "sizes"
  | 1 => "align"
  | 2 => "order"
  | _ => "of"
def refBad (k : Nat) (a b c : LL.T) : Option Str := match k with
  | 0 => if widB a = false then some "width" else none
  | 1 => if szB b = false then some "size" else none
  | 2 => coBad a b
  | _ => cfBad a b c
def refT3 (n : Str) : LL.T := .tup [.str "BadValue", .str n, .tup [.str "BadValue", .tup [.str n]], .tup [.bl true, .bl true, .bl false]]
def sp_law_refusal : Sp := fun vs H Q _ => ∃ (F : Addr → Prop) (k : Nat) (p : Addr) (v1 v2 v3 : V) (t1 t2 t3 : LL.T) (n : Str), vs = [.str (ttl k), .ref p] ∧ k ≤ 3 ∧ H p = some (.lst [v1, v2, v3]) ∧ Dt F H v1 t1 ∧ Dt F H v2 t2 ∧ Dt F H v3 t3 ∧ refBad k t1 t2 t3 = some n ∧ ∀ r H', Same H H' → Dt (fun _ => True) H' r (refT3 n) → Q r H'

theorem ok_law_refusal (T : Tx K mg) : FnOk P w K mg base CX0 8 (He.ga K "_law_refusal") T.fd_law_refusal P_law_refusal sp_law_refusal := by
  refine T.F_law_refusal.ok sc_law_refusal (fun vs H Q E h => ?_) (fun cdv A outer s H vs Q E hr h => ⟨_, PSs.nox (pss_one (ps_try_as (i := 2) rfl rfl sc_law_refusal.nd rfl rfl ⟨rfl, by decide, Or.inl T.g_BadValue⟩ takes0 (fun W pn xe tk _ => (pss_cons (ps_if (pt_cmpR op_eq (pv 0) (pe_str) (nomark _)) (pss_one (ps_ret (pe_tup (pa_cons (pe_str) (pa_cons (by exact pe_callS (ok_class_sizes T) (hr.mono (by decide)) rfl T.g_class_sizes T.F_class_sizes.kp (b_class_sizes T) (fun σ => passAt tk σ) (by exact (pa_cons (pe_ix (show IxR _ (rIxL K) from ix_list) (pv 1) (pe_int) (fun _ _ => rfl)) pa_nil))) pa_nil))))) pss_nil) (pss_cons (ps_if (pt_cmpR op_eq (pv 0) (pe_str) (nomark _)) (pss_one (ps_ret (pe_tup (pa_cons (pe_str) (pa_cons (by exact pe_callS (ok_class_align T) (hr.mono (by decide)) rfl T.g_class_align T.F_class_align.kp (b_class_align T) (fun σ => passAt tk σ) (by exact (pa_cons (pe_ix (show IxR _ (rIxL K) from ix_list) (pv 1) (pe_int) (fun _ _ => rfl)) pa_nil))) pa_nil))))) pss_nil) (pss_cons (ps_if (pt_cmpR op_eq (pv 0) (pe_str) (nomark _)) (pss_one (ps_ret (pe_tup (pa_cons (pe_str) (pa_cons (by exact pe_callS (ok_class_order T) hr rfl T.g_class_order T.F_class_order.kp (b_class_order T) (fun σ => passAt tk σ) (by exact (pa_cons (pe_ix (show IxR _ (rIxL K) from ix_list) (pv 1) (pe_int) (fun _ _ => rfl)) (pa_cons (pe_ix (show IxR _ (rIxL K) from ix_list) (pv 1) (pe_int) (fun _ _ => rfl)) pa_nil)))) pa_nil))))) pss_nil) (pss_one (ps_ret (pe_tup (pa_cons (pe_str) (pa_cons (by exact pe_callS (ok_class_of T) (hr.mono (by decide)) rfl T.g_class_of T.F_class_of.kp (b_class_of T) (fun σ => passAt tk σ) (by exact (pa_cons (pe_ix (show IxR _ (rIxL K) from ix_list) (pv 1) (pe_int) (fun _ _ => rfl)) (pa_cons (pe_ix (show IxR _ (rIxL K) from ix_list) (pv 1) (pe_int) (fun _ _ => rfl)) (pa_cons (pe_ix (show IxR _ (rIxL K) from ix_list) (pv 1) (pe_int) (fun _ _ => rfl)) pa_nil))))) pa_nil))))))))) (fun a oe cls d pn hz hf => (pss_cons (ps_set (i := 3) sc_law_refusal.nd rfl (Or.inl rfl) (pe_tup (pa_cons (pe_callB (show CallR _ _ (LL.rIsXC K a (aBV K) cls d) from LL.call_isXC (p := (a, oe)) List.mem_cons_self T.d_BadValue hz hf) (by rfl) T.z_isinstance (by decide +kernel) (pa_cons (pv 2) (pa_cons (pe_glob (v := .ref (He.ga K "StoreError")) (u := .ref (He.ga K "StoreError")) rfl T.g_StoreError rfl) pa_nil))) (pa_cons (pe_callB (show CallR _ _ (LL.rIsXC K a (aBV K) cls d) from LL.call_isXC (p := (a, oe)) List.mem_cons_self T.d_BadValue hz hf) (by rfl) T.z_isinstance (by decide +kernel) (pa_cons (pv 2) (pa_cons (pe_bltn (v := .ty "ValueError") (u := .type "ValueError") (by rfl) T.z_ValueError (by decide +kernel) rfl) pa_nil))) (pa_cons (pe_callB (show CallR _ _ (LL.rIsXC K a (aBV K) cls d) from LL.call_isXC (p := (a, oe)) List.mem_cons_self T.d_BadValue hz hf) (by rfl) T.z_isinstance (by decide +kernel) (pa_cons (pv 2) (pa_cons (pe_glob (v := .ref (He.ga K "Unknown")) (u := .ref (He.ga K "Unknown")) rfl T.g_Unknown rfl) pa_nil))) pa_nil))))) (pss_one (ps_ret (pe_tup (pa_cons (pe_str) (pa_cons (pe_xf T.f_BadValue T.n_BadValue_parameter hz hf (pv 2)) (pa_cons (pe_xf T.f_BadValue T.n_BadValue_told hz hf (pv 2)) (pa_cons (pv 3) pa_nil))))))))))), ?_⟩)
  · obtain ⟨_, _, _, _, _, _, _, _, _, _, rfl, _⟩ := h
    rfl
  · obtain ⟨F, k, p, v1, v2, v3, t1, t2, t3, n, rfl, hk, ep, d1, d2, d3, hb, q⟩ := h
    simp only [tSeq, tAsg, tRet, tRetN, tDrop, tNext, tVar, tC, gName, tOp, tUn, rI, rI0, rU, tIfS, tTest, tB, tIf, tAnd, tOr, tNot, tAndV, tOrV, tNotV, tCall, tCons, tNil, tCB, tLst, tTup, tChain, CMul, CDiv, CPow, rEq, rNe, gSub, L2.start, LL.cxK0, LL.cxK1, List.map_cons, List.map_nil, List.length_cons, List.length_nil, List.replicate_succ, List.replicate_zero, List.cons_append, List.nil_append, List.append_nil, List.getElem?_cons_zero, List.getElem?_cons_succ, List.set_cons_zero, List.set_cons_succ, Nat.add_sub_cancel, Nat.reduceAdd, Nat.reduceSub, Option.some.injEq, V.int.injEq, V.bl.injEq, V.ref.injEq, V.str.injEq, List.cons.injEq, and_true, true_and, and_false, false_and, exists_eq_left, exists_eq_left', exists_and_left, exists_and_right, exists_eq, exists_eq', LL.if_dec, reduceCtorEq, exists_false, exists_const, or_false, false_or, if_true, if_false, LL.rInt1, LL.rMx, LL.rMn, and_assoc, Int.reduceNeg, Int.reduceLT, Int.reduceLE, Int.reduceMul, Int.reduceAdd, Int.reduceSub, Int.reducePow, Int.reduceToNat, Nat.reducePow, Nat.reduceLT, true_or, or_true, Bool.not_true, Bool.not_false, Bool.false_eq_true, Bool.or_false, Bool.or_true, Bool.true_or, Bool.false_or, decide_true, decide_false, not_true_eq_false, not_false_eq_true, LL.scal_int, LL.scal_bl, LL.scal_str, LL.isInt, LL.isBl, LL.isStr, LL.isLst, LL.isTup, LL.isDic, N_law_refusal, tCallS]
    match k, hk, hb with
    | 0, _, hb =>
      rw [if_pos (show ttl 0 = Str.ofString "sizes" from rfl)]
      refine use_ixL ep rfl ⟨F, v1, t1, rfl, d1, fun hw d H' B => ?_, fun w ew hw => ?_⟩
      · obtain rfl : (Str.ofString "width") = n := by
          have e : refBad 0 t1 t2 t3 = some (Str.ofString "width") := if_pos hw
          rw [e] at hb
          exact Option.some.inj hb
        obtain ⟨⟨p1, p2, e1, e2, e3, f1, f2⟩, sm, fd⟩ := B
        refine ⟨true, T.m_BadValue, fun _ a na => ?_, fun z => by cases z⟩
        simp only [tSeq, tAsg, tRet, tRetN, tDrop, tNext, tVar, tC, gName, tOp, tUn, rI, rI0, rU, tIfS, tTest, tB, tIf, tAnd, tOr, tNot, tAndV, tOrV, tNotV, tCall, tCons, tNil, tCB, tLst, tTup, tChain, CMul, CDiv, CPow, rEq, rNe, gSub, L2.start, LL.cxK0, LL.cxK1, List.map_cons, List.map_nil, List.length_cons, List.length_nil, List.replicate_succ, List.replicate_zero, List.cons_append, List.nil_append, List.append_nil, List.getElem?_cons_zero, List.getElem?_cons_succ, List.set_cons_zero, List.set_cons_succ, Nat.add_sub_cancel, Nat.reduceAdd, Nat.reduceSub, Option.some.injEq, V.int.injEq, V.bl.injEq, V.ref.injEq, V.str.injEq, List.cons.injEq, and_true, true_and, and_false, false_and, exists_eq_left, exists_eq_left', exists_and_left, exists_and_right, exists_eq, exists_eq', LL.if_dec, reduceCtorEq, exists_false, exists_const, or_false, false_or, if_true, if_false, LL.rInt1, LL.rMx, LL.rMn, and_assoc, Int.reduceNeg, Int.reduceLT, Int.reduceLE, Int.reduceMul, Int.reduceAdd, Int.reduceSub, Int.reducePow, Int.reduceToNat, Nat.reducePow, Nat.reduceLT, true_or, or_true, Bool.not_true, Bool.not_false, Bool.false_eq_true, Bool.or_false, Bool.or_true, Bool.true_or, Bool.false_or, decide_true, decide_false, not_true_eq_false, not_false_eq_true, LL.scal_int, LL.scal_bl, LL.scal_str, LL.isInt, LL.isBl, LL.isStr, LL.isLst, LL.isTup, LL.isDic, tXf]
        have l1 : List.lookup ("told" : Str) [("told", V.ref p2), ("parameter", V.str (Str.ofString "width"))] = some (V.ref p2) := by simp [List.lookup]
        have l2 : List.lookup ("parameter" : Str) [(("told" : Str), V.ref p2), ("parameter", V.str (Str.ofString "width"))] = some (V.str (Str.ofString "width")) := by
          have h : (("parameter" : Str) == ("told" : Str)) = false := by decide
          simp [List.lookup, h]
        refine use_isXC (.own _) T.k_StoreError e1 (use_isXC (.ty _) T.k_ValueError e1 (use_isXC (.own _) T.k_Unknown e1 ⟨by decide, ?_⟩))
        intro pk npk
        generalize hq : upd H' pk _ = H1
        have sH1 : Same H' H1 := hq ▸ Same.new (Same.refl _) npk
        have epk := hq ▸ (upd_same (H := H') (a := pk))
        clear hq
        replace e1 := sH1 _ _ e1
        replace e2 := sH1 _ _ e2
        replace e3 := sH1 _ _ e3
        refine ⟨_, e1, _, l2, _, e1, _, l1, by decide, ?_⟩
        intro pz npz
        generalize hq : upd H1 pz _ = H2
        have sH2 : Same H1 H2 := hq ▸ Same.new (Same.refl _) npz
        have epz := hq ▸ (upd_same (H := H1) (a := pz))
        clear hq
        replace e1 := sH2 _ _ e1
        replace e2 := sH2 _ _ e2
        replace e3 := sH2 _ _ e3
        replace epk := sH2 _ _ epk
        have bt : ∀ z : Bool, Dt (fun _ => True) H2 (.bl z) (.bl z) := fun z => rfl
        exact q _ _ ((sm.trans sH1).trans sH2) ⟨pz, _, rfl, trivial, epz, .cons rfl (.cons rfl (.cons ⟨p2, _, rfl, trivial, e3, .cons rfl (.one ⟨p1, _, rfl, trivial, e2, .one rfl, by simp⟩), by simp⟩ (.one ⟨pk, _, rfl, trivial, epk, .cons (bt _) (.cons (bt _) (.one (bt _))), by simp⟩))), by simp⟩
      · have e : refBad 0 t1 t2 t3 = none := if_neg (by rw [hw]; simp)
        rw [e] at hb
        cases hb
    | 1, _, hb =>
      rw [if_neg (show ¬ ttl 1 = Str.ofString "sizes" by decide), if_pos (show ttl 1 = Str.ofString "align" from rfl)]
      refine use_ixL ep rfl ⟨F, v2, t2, rfl, d2, fun hw d H' B => ?_, fun w ew hw => ?_⟩
      · obtain rfl : (Str.ofString "size") = n := by
          have e : refBad 1 t1 t2 t3 = some (Str.ofString "size") := if_pos hw
          rw [e] at hb
          exact Option.some.inj hb
        obtain ⟨⟨p1, p2, e1, e2, e3, f1, f2⟩, sm, fd⟩ := B
        refine ⟨true, T.m_BadValue, fun _ a na => ?_, fun z => by cases z⟩
        simp only [tSeq, tAsg, tRet, tRetN, tDrop, tNext, tVar, tC, gName, tOp, tUn, rI, rI0, rU, tIfS, tTest, tB, tIf, tAnd, tOr, tNot, tAndV, tOrV, tNotV, tCall, tCons, tNil, tCB, tLst, tTup, tChain, CMul, CDiv, CPow, rEq, rNe, gSub, L2.start, LL.cxK0, LL.cxK1, List.map_cons, List.map_nil, List.length_cons, List.length_nil, List.replicate_succ, List.replicate_zero, List.cons_append, List.nil_append, List.append_nil, List.getElem?_cons_zero, List.getElem?_cons_succ, List.set_cons_zero, List.set_cons_succ, Nat.add_sub_cancel, Nat.reduceAdd, Nat.reduceSub, Option.some.injEq, V.int.injEq, V.bl.injEq, V.ref.injEq, V.str.injEq, List.cons.injEq, and_true, true_and, and_false, false_and, exists_eq_left, exists_eq_left', exists_and_left, exists_and_right, exists_eq, exists_eq', LL.if_dec, reduceCtorEq, exists_false, exists_const, or_false, false_or, if_true, if_false, LL.rInt1, LL.rMx, LL.rMn, and_assoc, Int.reduceNeg, Int.reduceLT, Int.reduceLE, Int.reduceMul, Int.reduceAdd, Int.reduceSub, Int.reducePow, Int.reduceToNat, Nat.reducePow, Nat.reduceLT, true_or, or_true, Bool.not_true, Bool.not_false, Bool.false_eq_true, Bool.or_false, Bool.or_true, Bool.true_or, Bool.false_or, decide_true, decide_false, not_true_eq_false, not_false_eq_true, LL.scal_int, LL.scal_bl, LL.scal_str, LL.isInt, LL.isBl, LL.isStr, LL.isLst, LL.isTup, LL.isDic, tXf]
        have l1 : List.lookup ("told" : Str) [("told", V.ref p2), ("parameter", V.str (Str.ofString "size"))] = some (V.ref p2) := by simp [List.lookup]
        have l2 : List.lookup ("parameter" : Str) [(("told" : Str), V.ref p2), ("parameter", V.str (Str.ofString "size"))] = some (V.str (Str.ofString "size")) := by
          have h : (("parameter" : Str) == ("told" : Str)) = false := by decide
          simp [List.lookup, h]
        refine use_isXC (.own _) T.k_StoreError e1 (use_isXC (.ty _) T.k_ValueError e1 (use_isXC (.own _) T.k_Unknown e1 ⟨by decide, ?_⟩))
        intro pk npk
        generalize hq : upd H' pk _ = H1
        have sH1 : Same H' H1 := hq ▸ Same.new (Same.refl _) npk
        have epk := hq ▸ (upd_same (H := H') (a := pk))
        clear hq
        replace e1 := sH1 _ _ e1
        replace e2 := sH1 _ _ e2
        replace e3 := sH1 _ _ e3
        refine ⟨_, e1, _, l2, _, e1, _, l1, by decide, ?_⟩
        intro pz npz
        generalize hq : upd H1 pz _ = H2
        have sH2 : Same H1 H2 := hq ▸ Same.new (Same.refl _) npz
        have epz := hq ▸ (upd_same (H := H1) (a := pz))
        clear hq
        replace e1 := sH2 _ _ e1
        replace e2 := sH2 _ _ e2
        replace e3 := sH2 _ _ e3
        replace epk := sH2 _ _ epk
        have bt : ∀ z : Bool, Dt (fun _ => True) H2 (.bl z) (.bl z) := fun z => rfl
        exact q _ _ ((sm.trans sH1).trans sH2) ⟨pz, _, rfl, trivial, epz, .cons rfl (.cons rfl (.cons ⟨p2, _, rfl, trivial, e3, .cons rfl (.one ⟨p1, _, rfl, trivial, e2, .one rfl, by simp⟩), by simp⟩ (.one ⟨pk, _, rfl, trivial, epk, .cons (bt _) (.cons (bt _) (.one (bt _))), by simp⟩))), by simp⟩
      · have e : refBad 1 t1 t2 t3 = none := if_neg (by rw [ew, show szB (.int w) = true from decide_eq_true hw]; simp)
        rw [e] at hb
        cases hb
    | 2, _, hb =>
      rw [if_neg (show ¬ ttl 2 = Str.ofString "sizes" by decide), if_neg (show ¬ ttl 2 = Str.ofString "align" by decide), if_pos (show ttl 2 = Str.ofString "order" from rfl)]
      refine use_ixL ep rfl (use_ixL ep rfl ⟨F, F, v1, v2, t1, t2, rfl, d1, d2, fun m hm d H' B => ?_, fun w z ew ez hw hz => ?_⟩)
      · have e : refBad 2 t1 t2 t3 = some m := hm
        rw [e] at hb
        obtain rfl : m = n := Option.some.inj hb
        obtain ⟨⟨p1, p2, e1, e2, e3, f1, f2⟩, sm, fd⟩ := B
        refine ⟨true, T.m_BadValue, fun _ a na => ?_, fun z => by cases z⟩
        simp only [tSeq, tAsg, tRet, tRetN, tDrop, tNext, tVar, tC, gName, tOp, tUn, rI, rI0, rU, tIfS, tTest, tB, tIf, tAnd, tOr, tNot, tAndV, tOrV, tNotV, tCall, tCons, tNil, tCB, tLst, tTup, tChain, CMul, CDiv, CPow, rEq, rNe, gSub, L2.start, LL.cxK0, LL.cxK1, List.map_cons, List.map_nil, List.length_cons, List.length_nil, List.replicate_succ, List.replicate_zero, List.cons_append, List.nil_append, List.append_nil, List.getElem?_cons_zero, List.getElem?_cons_succ, List.set_cons_zero, List.set_cons_succ, Nat.add_sub_cancel, Nat.reduceAdd, Nat.reduceSub, Option.some.injEq, V.int.injEq, V.bl.injEq, V.ref.injEq, V.str.injEq, List.cons.injEq, and_true, true_and, and_false, false_and, exists_eq_left, exists_eq_left', exists_and_left, exists_and_right, exists_eq, exists_eq', LL.if_dec, reduceCtorEq, exists_false, exists_const, or_false, false_or, if_true, if_false, LL.rInt1, LL.rMx, LL.rMn, and_assoc, Int.reduceNeg, Int.reduceLT, Int.reduceLE, Int.reduceMul, Int.reduceAdd, Int.reduceSub, Int.reducePow, Int.reduceToNat, Nat.reducePow, Nat.reduceLT, true_or, or_true, Bool.not_true, Bool.not_false, Bool.false_eq_true, Bool.or_false, Bool.or_true, Bool.true_or, Bool.false_or, decide_true, decide_false, not_true_eq_false, not_false_eq_true, LL.scal_int, LL.scal_bl, LL.scal_str, LL.isInt, LL.isBl, LL.isStr, LL.isLst, LL.isTup, LL.isDic, tXf]
        have l1 : List.lookup ("told" : Str) [("told", V.ref p2), ("parameter", V.str m)] = some (V.ref p2) := by simp [List.lookup]
        have l2 : List.lookup ("parameter" : Str) [(("told" : Str), V.ref p2), ("parameter", V.str m)] = some (V.str m) := by
          have h : (("parameter" : Str) == ("told" : Str)) = false := by decide
          simp [List.lookup, h]
        refine use_isXC (.own _) T.k_StoreError e1 (use_isXC (.ty _) T.k_ValueError e1 (use_isXC (.own _) T.k_Unknown e1 ⟨by decide, ?_⟩))
        intro pk npk
        generalize hq : upd H' pk _ = H1
        have sH1 : Same H' H1 := hq ▸ Same.new (Same.refl _) npk
        have epk := hq ▸ (upd_same (H := H') (a := pk))
        clear hq
        replace e1 := sH1 _ _ e1
        replace e2 := sH1 _ _ e2
        replace e3 := sH1 _ _ e3
        refine ⟨_, e1, _, l2, _, e1, _, l1, by decide, ?_⟩
        intro pz npz
        generalize hq : upd H1 pz _ = H2
        have sH2 : Same H1 H2 := hq ▸ Same.new (Same.refl _) npz
        have epz := hq ▸ (upd_same (H := H1) (a := pz))
        clear hq
        replace e1 := sH2 _ _ e1
        replace e2 := sH2 _ _ e2
        replace e3 := sH2 _ _ e3
        replace epk := sH2 _ _ epk
        have bt : ∀ z : Bool, Dt (fun _ => True) H2 (.bl z) (.bl z) := fun z => rfl
        exact q _ _ ((sm.trans sH1).trans sH2) ⟨pz, _, rfl, trivial, epz, .cons rfl (.cons rfl (.cons ⟨p2, _, rfl, trivial, e3, .cons rfl (.one ⟨p1, _, rfl, trivial, e2, .one rfl, by simp⟩), by simp⟩ (.one ⟨pk, _, rfl, trivial, epk, .cons (bt _) (.cons (bt _) (.one (bt _))), by simp⟩))), by simp⟩
      · have e : refBad 2 t1 t2 t3 = none := by
          show coBad t1 t2 = none
          unfold coBad
          rw [if_neg (by rw [hw]; simp), if_neg (by rw [ez, show szB (.int z) = true from decide_eq_true hz]; simp)]
        rw [e] at hb
        cases hb
    | 3, _, hb =>
      rw [if_neg (show ¬ ttl 3 = Str.ofString "sizes" by decide), if_neg (show ¬ ttl 3 = Str.ofString "align" by decide), if_neg (show ¬ ttl 3 = Str.ofString "order" by decide)]
      refine use_ixL ep rfl (use_ixL ep rfl (use_ixL ep rfl ⟨F, F, F, v1, v2, v3, t1, t2, t3, rfl, d1, d2, d3, fun m hm d H' B => ?_, fun w z a ew ez ea hg => ?_⟩))
      · have e : refBad 3 t1 t2 t3 = some m := hm
        rw [e] at hb
        obtain rfl : m = n := Option.some.inj hb
        obtain ⟨⟨p1, p2, e1, e2, e3, f1, f2⟩, sm, fd⟩ := B
        refine ⟨true, T.m_BadValue, fun _ a na => ?_, fun z => by cases z⟩
        simp only [tSeq, tAsg, tRet, tRetN, tDrop, tNext, tVar, tC, gName, tOp, tUn, rI, rI0, rU, tIfS, tTest, tB, tIf, tAnd, tOr, tNot, tAndV, tOrV, tNotV, tCall, tCons, tNil, tCB, tLst, tTup, tChain, CMul, CDiv, CPow, rEq, rNe, gSub, L2.start, LL.cxK0, LL.cxK1, List.map_cons, List.map_nil, List.length_cons, List.length_nil, List.replicate_succ, List.replicate_zero, List.cons_append, List.nil_append, List.append_nil, List.getElem?_cons_zero, List.getElem?_cons_succ, List.set_cons_zero, List.set_cons_succ, Nat.add_sub_cancel, Nat.reduceAdd, Nat.reduceSub, Option.some.injEq, V.int.injEq, V.bl.injEq, V.ref.injEq, V.str.injEq, List.cons.injEq, and_true, true_and, and_false, false_and, exists_eq_left, exists_eq_left', exists_and_left, exists_and_right, exists_eq, exists_eq', LL.if_dec, reduceCtorEq, exists_false, exists_const, or_false, false_or, if_true, if_false, LL.rInt1, LL.rMx, LL.rMn, and_assoc, Int.reduceNeg, Int.reduceLT, Int.reduceLE, Int.reduceMul, Int.reduceAdd, Int.reduceSub, Int.reducePow, Int.reduceToNat, Nat.reducePow, Nat.reduceLT, true_or, or_true, Bool.not_true, Bool.not_false, Bool.false_eq_true, Bool.or_false, Bool.or_true, Bool.true_or, Bool.false_or, decide_true, decide_false, not_true_eq_false, not_false_eq_true, LL.scal_int, LL.scal_bl, LL.scal_str, LL.isInt, LL.isBl, LL.isStr, LL.isLst, LL.isTup, LL.isDic, tXf]
        have l1 : List.lookup ("told" : Str) [("told", V.ref p2), ("parameter", V.str m)] = some (V.ref p2) := by simp [List.lookup]
        have l2 : List.lookup ("parameter" : Str) [(("told" : Str), V.ref p2), ("parameter", V.str m)] = some (V.str m) := by
          have h : (("parameter" : Str) == ("told" : Str)) = false := by decide
          simp [List.lookup, h]
        refine use_isXC (.own _) T.k_StoreError e1 (use_isXC (.ty _) T.k_ValueError e1 (use_isXC (.own _) T.k_Unknown e1 ⟨by decide, ?_⟩))
        intro pk npk
        generalize hq : upd H' pk _ = H1
        have sH1 : Same H' H1 := hq ▸ Same.new (Same.refl _) npk
        have epk := hq ▸ (upd_same (H := H') (a := pk))
        clear hq
        replace e1 := sH1 _ _ e1
        replace e2 := sH1 _ _ e2
        replace e3 := sH1 _ _ e3
        refine ⟨_, e1, _, l2, _, e1, _, l1, by decide, ?_⟩
        intro pz npz
        generalize hq : upd H1 pz _ = H2
        have sH2 : Same H1 H2 := hq ▸ Same.new (Same.refl _) npz
        have epz := hq ▸ (upd_same (H := H1) (a := pz))
        clear hq
        replace e1 := sH2 _ _ e1
        replace e2 := sH2 _ _ e2
        replace e3 := sH2 _ _ e3
        replace epk := sH2 _ _ epk
        have bt : ∀ z : Bool, Dt (fun _ => True) H2 (.bl z) (.bl z) := fun z => rfl
        exact q _ _ ((sm.trans sH1).trans sH2) ⟨pz, _, rfl, trivial, epz, .cons rfl (.cons rfl (.cons ⟨p2, _, rfl, trivial, e3, .cons rfl (.one ⟨p1, _, rfl, trivial, e2, .one rfl, by simp⟩), by simp⟩ (.one ⟨pk, _, rfl, trivial, epk, .cons (bt _) (.cons (bt _) (.one (bt _))), by simp⟩))), by simp⟩
      · have e : refBad 3 t1 t2 t3 = none := hg
        rw [e] at hb
        cases hb
structure Ask3 (H : Hp) (a : Addr) (w z : Int) (k : Nat) : Prop where
  at_ : H a = some (.tup [.int w, .int z, .int (2 ^ k)])
  hw : widB (.int w) = true
  z0 : 1 ≤ z
  z1 : z ≤ 1000000000
  hk : k ≤ 30
/-- a row of which some parts were made bad -/
structure R3 (H0 H : Hp) (d s r : Addr) (xs : List V) (ts : List LL.T) : Prop where
  D0 : Drw d s H0
  new : H0 r = none
  A : Aft d s H0 H
  at_ : H r = some (.lst xs)
  dt : DtL (fun a => a ≠ s ∧ a ≠ r) H xs ts
theorem R3.ne {H0 H : Hp} {d s r : Addr} {xs : List V} {ts : List LL.T} (R : R3 H0 H d s r xs ts) : r ≠ s := R.D0.ne _ R.new
theorem R3.aft {H0 H H' : Hp} {d s r : Addr} {xs : List V} {ts : List LL.T} (R : R3 H0 H d s r xs ts) (a : Aft d s H H') : R3 H0 H' d s r xs ts := ⟨R.D0, R.new, R.A.trans a, a.at R.at_ R.ne, R.dt.kp (fun _ z => z.1) a.kp⟩
theorem R3.same {H0 H H' : Hp} {d s r : Addr} {xs : List V} {ts : List LL.T} (R : R3 H0 H d s r xs ts) (a : Same H H') : R3 H0 H' d s r xs ts := R.aft (Aft.same R.A.dr a)
theorem R3.set {H0 H : Hp} {d s r : Addr} {xs : List V} {ts : List LL.T} (R : R3 H0 H d s r xs ts) (j : Nat) {v : V} {t : LL.T} (h : Dt (fun a => a ≠ s ∧ a ≠ r) H v t) : R3 H0 (upd H r (.lst (xs.set j v))) d s r (xs.set j v) (ts.set j t) :=
  ⟨R.D0, R.new, Aft.own R.D0 R.A R.new, upd_same, (R.dt.set h).off fun a z => z.2⟩
theorem R3.new_dt {H0 H H' : Hp} {d s r : Addr} {xs : List V} {ts : List LL.T} {v : V} {t : LL.T} (R : R3 H0 H d s r xs ts) (h : Dt (fun a => H a = none) H' v t) : Dt (fun a => a ≠ s ∧ a ≠ r) H' v t := h.to fun a ha => ⟨R.A.dr.ne a ha, fun z => by rw [z, R.at_] at ha; cases ha⟩
def ttN : Nat → Str
  | 0 => "width"
  | 1 => "size"
  | _ => "align"
theorem no_wid {t : LL.T} (h : ∀ n ∈ ([16, 32, 64] : List Int), t ≠ .int n) : widB t = false := by
  cases t with
  | int i => exact decide_eq_false fun c => by rcases c with rfl | rfl | rfl <;> exact h _ (by simp) rfl
  | _ => rfl
theorem no_sz {t : LL.T} (h : ∀ n ∈ csz 64, t ≠ .int n) : szB t = false := by
  cases t with
  | int i => exact decide_eq_false fun c => h i (by rw [show csz 64 = SZ by decide]; exact c) rfl
  | _ => rfl
theorem out_in {lo hi : Int} {t : LL.T} (h : Out lo hi t) : ¬ InR lo hi t := by
  cases t with
  | int i =>
    have h : i < lo ∨ hi < i := h
    intro (z : lo ≤ i ∧ i ≤ hi)
    omega
  | _ => intro z; exact z
def Tail (K : PySem.W.Frag) (r : Addr) (nm : Str) (c : Int) (Q : VK) (H3 : Hp) : Prop := 3 ≤ sizeLine ∧ ∀ p, H3 p = none → rIxL K (.ref p) (.int c) (upd H3 p (.lst [.str "width", .str "size", .str "align"])) fun x H1 => 1 ≤ sizeLine ∧ ∀ p, H1 p = none → 2 ≤ sizeLine ∧ ∀ p_1, upd H1 p (.tup [x]) p_1 = none →
  3 ≤ sizeLine ∧ ∀ p_2, upd (upd H1 p (.tup [x])) p_1 (.tup [.str "BadValue", .ref p]) p_2 = none → 4 ≤ sizeLine ∧ ∀ p_3, upd (upd (upd H1 p (.tup [x])) p_1 (.tup [.str "BadValue", .ref p])) p_2 (.tup [.bl true, .bl true, .bl false]) p_3 = none →
  sp_law_refusal [.str nm, .ref r] (upd (upd (upd (upd H1 p (.tup [x])) p_1 (.tup [.str "BadValue", .ref p])) p_2 (.tup [.bl true, .bl true, .bl false])) p_3 (.tup [.str "BadValue", x, .ref p_1, .ref p_2])) (fun x H1 => sp_law_same 8 [x, .ref p_3] H1 Q E0) E0
theorem tail_ok {K : PySem.W.Frag} {H0 H : Hp} {d s r : Addr} {v1 v2 v3 : V} {t1 t2 t3 : LL.T} {k c : Nat} {Q : VK} (R : R3 H0 H d s r [v1, v2, v3] [t1, t2, t3]) (hk : k ≤ 3) (hc : c ≤ 2) (hb : refBad k t1 t2 t3 = some (ttN c)) (q : ∀ H', Q (.bl true) H') : Tail K r (ttl k) (c : Nat) Q H := by
  refine ⟨by decide, ?_⟩
  intro p1 np1
  generalize hq : upd H p1 _ = H1
  have sH1 : Same H H1 := hq ▸ Same.new (Same.refl _) np1
  have ep1 := hq ▸ (upd_same (H := H) (a := p1))
  clear hq
  refine use_ixL (v := .str (ttN c)) ep1 (by refine atI_nat ?_; match c, hc with | 0, _ => rfl | 1, _ => rfl | 2, _ => rfl) ⟨by decide, ?_⟩
  intro p2 np2
  generalize hq : upd H1 p2 _ = H2
  have sH2 : Same H1 H2 := hq ▸ Same.new (Same.refl _) np2
  have ep2 := hq ▸ (upd_same (H := H1) (a := p2))
  clear hq
  refine ⟨by decide, ?_⟩
  intro p3 np3
  generalize hq : upd H2 p3 _ = H3
  have sH3 : Same H2 H3 := hq ▸ Same.new (Same.refl _) np3
  have ep3 := hq ▸ (upd_same (H := H2) (a := p3))
  clear hq
  replace ep2 := sH3 _ _ ep2
  refine ⟨by decide, ?_⟩
  intro p4 np4
  generalize hq : upd H3 p4 _ = H4
  have sH4 : Same H3 H4 := hq ▸ Same.new (Same.refl _) np4
  have ep4 := hq ▸ (upd_same (H := H3) (a := p4))
  clear hq
  replace ep2 := sH4 _ _ ep2
  replace ep3 := sH4 _ _ ep3
  refine ⟨by decide, ?_⟩
  intro p5 np5
  generalize hq : upd H4 p5 _ = H5
  have sH5 : Same H4 H5 := hq ▸ Same.new (Same.refl _) np5
  have ep5 := hq ▸ (upd_same (H := H4) (a := p5))
  clear hq
  replace ep2 := sH5 _ _ ep2
  replace ep3 := sH5 _ _ ep3
  replace ep4 := sH5 _ _ ep4
  have R5 := R.same ((((sH1.trans sH2).trans sH3).trans sH4).trans sH5)
  obtain ⟨y1, _, e1, d1, y2, _, e2, d2, y3, _, e3, d3, e4⟩ := R5.dt
  simp only [List.cons.injEq] at e1 e2 e3
  obtain ⟨rfl, rfl⟩ := e1
  obtain ⟨rfl, rfl⟩ := e2
  obtain ⟨rfl, rfl⟩ := e3
  refine ⟨_, k, r, _, _, _, t1, t2, t3, _, rfl, hk, R5.at_, d1, d2, d3, hb, fun z H6 s6 hz => ?_⟩
  have g : Same H5 H6 := s6
  refine use_same (F := fun _ => True) (G := fun _ => True) (t := refT3 (ttN c)) hz ⟨p5, _, rfl, trivial, g _ _ ep5, .cons rfl (.cons rfl (.cons ⟨p3, _, rfl, trivial, g _ _ ep3, .cons rfl (.one ⟨p2, _, rfl, trivial, g _ _ ep2, .one rfl, by simp⟩), by simp⟩ (.one ⟨p4, _, rfl, trivial, g _ _ ep4, .cons rfl (.cons rfl (.one rfl)), by simp⟩))), by simp⟩ (by simp [refT3, dep, depL]) fun H7 _ => q H7
def sp_law_refuses : Sp := fun vs H Q _ => ∃ (d s a : Addr) (w z : Int) (k : Nat), vs = [.ref d, .ref a] ∧ Drw d s H ∧ a ≠ s ∧ Ask3 H a w z k ∧ ∀ H', Q (.bl true) H'

theorem ok_law_refuses (T : Tx K mg) : FnOk P w K mg base CX0 12 (He.ga K "_law_refuses") T.fd_law_refuses P_law_refuses sp_law_refuses := by
  refine T.F_law_refuses.ok sc_law_refuses (fun vs H Q E h => ?_) (fun cdv A outer s H vs Q E hr h => ⟨_, PSs.nox (pss_cons (ps_set (i := 2) sc_law_refuses.nd rfl (Or.inl rfl) (pe_lst (pa_cons (pe_ix (show IxR _ (rIxT K) from ix_tup) (pv 1) (pe_int) (fun _ _ => rfl)) (pa_cons (pe_call (ok_law_among T) (hr.mono (by decide)) rfl T.g_law_among T.F_law_among.kp (b_law_among T) .nil pass0 (pa_cons (pv 0) (pa_cons (pe_call (ok_law_class_sizes T) (hr.mono (by decide)) rfl T.g_law_class_sizes T.F_law_class_sizes.kp (b_law_class_sizes T) .nil pass0 (pa_cons (pe_int) pa_nil)) pa_nil))) (pa_cons (pe_ix (show IxR _ (rIxT K) from ix_tup) (pv 1) (pe_int) (fun _ _ => rfl)) pa_nil))))) (pss_cons (ps_set (i := 3) sc_law_refuses.nd rfl (Or.inl rfl) (pe_call (ok_law_take T) (hr.mono (by decide)) rfl T.g_law_take T.F_law_take.kp (b_law_take T) .nil pass0 (pa_cons (pv 0) (pa_cons (pe_int) pa_nil)))) (pss_cons (ps_set (i := 4) sc_law_refuses.nd rfl (Or.inl rfl) (pe_ix (show IxR _ (rIxL K) from ix_list) (pe_lst (pa_cons (pe_str) (pa_cons (pe_str) (pa_cons (pe_str) (pa_cons (pe_str) (pa_cons (pe_str) (pa_cons (pe_str) (pa_cons (pe_str) pa_nil)))))))) (pv 3) (fun _ _ => rfl))) (pss_cons (ps_set (i := 5) sc_law_refuses.nd rfl (Or.inl rfl) (pe_ix (show IxR _ (rIxL K) from ix_list) (pe_lst (pa_cons (pe_int) (pa_cons (pe_int) (pa_cons (pe_int) (pa_cons (pe_int) (pa_cons (pe_int) (pa_cons (pe_int) (pa_cons (pe_int) pa_nil)))))))) (pv 3) (fun _ _ => rfl))) (pss_cons (ps_if (pt_cmpR op_eq (pv 4) (pe_str) (nomark _)) (pss_one (ps_asg (pe_ix (show IxR _ (rIxT K) from ix_tup) (pv 1) (pe_int) (fun _ _ => rfl)) (pg_sub (pv 2) (pe_int) set_list))) pss_nil) (pss_cons (ps_if (pt_cmpR op_eq (pv 5) (pe_int) (nomark _)) (pss_one (ps_asg (pe_call (ok_law_not_among T) hr rfl T.g_law_not_among T.F_law_not_among.kp (b_law_not_among T) .nil pass0 (pa_cons (pv 0) (pa_cons (pe_lst (pa_cons (pe_int) (pa_cons (pe_int) (pa_cons (pe_int) pa_nil)))) pa_nil))) (pg_sub (pv 2) (pe_int) set_list))) pss_nil) (pss_cons (ps_if (PW.pt (pw_and (pt_cmpR op_eq (pv 5) (pe_int) (nomark _)) (pw_and1 (pt_cmpR op_eq (pv 4) (pe_str) (nomark _))))) (pss_one (ps_asg (pe_call (ok_law_not_within T) (hr.mono (by decide)) rfl T.g_law_not_within T.F_law_not_within.kp (b_law_not_within T) .nil pass0 (pa_cons (pv 0) (pa_cons (pe_int) (pa_cons (pe_op op_pow (pe_int) (pe_int)) pa_nil)))) (pg_sub (pv 2) (pe_int) set_list))) pss_nil) (pss_cons (ps_if (PW.pt (pw_and (pt_cmpR op_eq (pv 5) (pe_int) (nomark _)) (pw_and1 (pt_cmpR op_ne (pv 4) (pe_str) (nomark _))))) (pss_one (ps_asg (pe_call (ok_law_not_among T) hr rfl T.g_law_not_among T.F_law_not_among.kp (b_law_not_among T) .nil pass0 (pa_cons (pv 0) (pa_cons (pe_call (ok_law_class_sizes T) (hr.mono (by decide)) rfl T.g_law_class_sizes T.F_law_class_sizes.kp (b_law_class_sizes T) .nil pass0 (pa_cons (pe_int) pa_nil)) pa_nil))) (pg_sub (pv 2) (pe_int) set_list))) pss_nil) (pss_cons (ps_if (pt_cmpR op_eq (pv 5) (pe_int) (nomark _)) (pss_one (ps_asg (pe_call (ok_law_not_alignment T) (hr.mono (by decide)) rfl T.g_law_not_alignment T.F_law_not_alignment.kp (b_law_not_alignment T) .nil pass0 (pa_cons (pv 0) (pa_cons (pe_op op_pow (pe_int) (pe_int)) pa_nil))) (pg_sub (pv 2) (pe_int) set_list))) pss_nil) (pss_cons (ps_if (PW.pt (pw_and (pt_cmpR op_eq (pv 5) (pe_int) (nomark _)) (pw_and1 (pt_cmpR op_eq (pe_call (ok_law_take T) (hr.mono (by decide)) rfl T.g_law_take T.F_law_take.kp (b_law_take T) .nil pass0 (pa_cons (pv 0) (pa_cons (pe_int) pa_nil))) (pe_int) (nomark _))))) (pss_one (ps_asg (pe_int) (pg_sub (pv 2) (pe_int) set_list))) pss_nil) (pss_cons (ps_if (PW.pt (pw_and (pt_cmpR op_lt (pv 5) (pe_int) (nomark _)) (pw_and1 (pt_cmpR op_eq (pe_call (ok_law_take T) (hr.mono (by decide)) rfl T.g_law_take T.F_law_take.kp (b_law_take T) .nil pass0 (pa_cons (pv 0) (pa_cons (pe_int) pa_nil))) (pe_int) (nomark _))))) (pss_one (ps_asg (pe_un un_neg (pe_int)) (pg_sub (pv 2) (pe_int) set_list))) pss_nil) (pss_cons (ps_set (i := 6) sc_law_refuses.nd rfl (Or.inl rfl) (pe_ix (show IxR _ (rIxL K) from ix_list) (pe_lst (pa_cons (pe_str) (pa_cons (pe_str) (pa_cons (pe_str) pa_nil)))) (pv 5) (fun _ _ => rfl))) (pss_cons (ps_set (i := 7) sc_law_refuses.nd rfl (Or.inl rfl) (pe_tup (pa_cons (pe_str) (pa_cons (pv 6) (pa_cons (pe_tup (pa_cons (pe_str) (pa_cons (pe_tup (pa_cons (pv 6) pa_nil)) pa_nil))) (pa_cons (pe_tup (pa_cons (pe_bl) (pa_cons (pe_bl) (pa_cons (pe_bl) pa_nil)))) pa_nil)))))) (pss_one (ps_ret (pe_call (ok_law_same T 8) (hr.mono (by decide)) rfl T.g_law_same T.F_law_same.kp (b_law_same T) .nil pass0 (pa_cons (pe_call (ok_law_refusal T) (hr.mono (by decide)) rfl T.g_law_refusal T.F_law_refusal.kp (b_law_refusal T) .nil pass0 (pa_cons (pv 4) (pa_cons (pv 2) pa_nil))) (pa_cons (pv 7) pa_nil)))))))))))))))))), ?_⟩)
  · obtain ⟨_, _, _, _, _, _, rfl, _⟩ := h
    rfl
  · obtain ⟨d, s, a, w, z, k, rfl, D, na, S, q⟩ := h
    simp only [tSeq, tAsg, tRet, tRetN, tDrop, tNext, tVar, tC, gName, tOp, tUn, rI, rI0, rU, tIfS, tTest, tB, tIf, tAnd, tOr, tNot, tAndV, tOrV, tNotV, tCall, tCons, tNil, tCB, tLst, tTup, tChain, CMul, CDiv, CPow, rEq, rNe, gSub, L2.start, LL.cxK0, LL.cxK1, List.map_cons, List.map_nil, List.length_cons, List.length_nil, List.replicate_succ, List.replicate_zero, List.cons_append, List.nil_append, List.append_nil, List.getElem?_cons_zero, List.getElem?_cons_succ, List.set_cons_zero, List.set_cons_succ, Nat.add_sub_cancel, Nat.reduceAdd, Nat.reduceSub, Option.some.injEq, V.int.injEq, V.bl.injEq, V.ref.injEq, V.str.injEq, List.cons.injEq, and_true, true_and, and_false, false_and, exists_eq_left, exists_eq_left', exists_and_left, exists_and_right, exists_eq, exists_eq', LL.if_dec, reduceCtorEq, exists_false, exists_const, or_false, false_or, if_true, if_false, LL.rInt1, LL.rMx, LL.rMn, and_assoc, Int.reduceNeg, Int.reduceLT, Int.reduceLE, Int.reduceMul, Int.reduceAdd, Int.reduceSub, Int.reducePow, Int.reduceToNat, Nat.reducePow, Nat.reduceLT, true_or, or_true, Bool.not_true, Bool.not_false, Bool.false_eq_true, Bool.or_false, Bool.or_true, Bool.true_or, Bool.false_or, decide_true, decide_false, not_true_eq_false, not_false_eq_true, LL.scal_int, LL.scal_bl, LL.scal_str, LL.isInt, LL.isBl, LL.isStr, LL.isLst, LL.isTup, LL.isDic, N_law_refuses]
    refine use_ixT S.at_ rfl (use_clsizes fun r1 H1 s1 nr1 er1 => ?_)
    refine use_among (D.same s1) (D.ne _ nr1) er1 (by decide) (by decide) fun x hx H2 a2 D2 => ?_
    obtain ⟨y, hy, rfl⟩ := List.mem_map.mp hx
    replace hy := csz_sz hy
    have A2 := (Aft.same D s1).trans a2
    refine use_ixT (A2.at S.at_ na) rfl ⟨by decide, ?_⟩
    intro r nr
    generalize hq : upd H2 r _ = H3
    have sH3 : Same H2 H3 := hq ▸ Same.new (Same.refl _) nr
    have er := hq ▸ (upd_same (H := H2) (a := r))
    clear hq
    have nr0 := nr
    have nrs := D2.ne _ nr
    have A3 := A2.trans (Aft.same D2 sH3)
    refine use_take A3.dr (by decide +kernel) fun i H4 a4 D4 i0 i1 => ?_
    replace er := a4.at er nrs
    refine ⟨by decide, ?_⟩
    intro l5 nl5
    generalize hq : upd H4 l5 _ = H5
    have sH5 : Same H4 H5 := hq ▸ Same.new (Same.refl _) nl5
    have el5 := hq ▸ (upd_same (H := H4) (a := l5))
    clear hq
    replace er := sH5 _ _ er
    obtain h | h | h | h | h | h | h : i = 0 ∨ i = 1 ∨ i = 2 ∨ i = 3 ∨ i = 4 ∨ i = 5 ∨ i = 6 := by omega
    all_goals
      subst h
      refine use_ixL el5 rfl ⟨by decide, ?_⟩
      intro l6 nl6
      generalize hq : upd H5 l6 _ = H6
      have sH6 : Same H5 H6 := hq ▸ Same.new (Same.refl _) nl6
      have el6 := hq ▸ (upd_same (H := H5) (a := l6))
      clear hq
      replace er := sH6 _ _ er
      refine use_ixL el6 rfl ?_
      have R0 : R3 H2 H6 d s r [.int w, .int y, .int (2 ^ k)] [.int w, .int y, .int (2 ^ k)] := ⟨D2, nr0, (Aft.same D2 sH3).trans (a4.trans (Aft.same D4 (sH5.trans sH6))), er, .cons rfl (.cons rfl (.one rfl))⟩
      repeat (first | refine ⟨scal_int.mpr trivial, ?_⟩ | refine ⟨scal_str.mpr trivial, ?_⟩ | refine itei (fun h => ?_) (fun h => absurd (by decide) h) | refine itei (fun h => absurd h (by decide)) (fun h => ?_))
    · refine ⟨by decide, ?_⟩
      intro l7 nl7
      generalize hq : upd H6 l7 _ = H7
      have sH7 : Same H6 H7 := hq ▸ Same.new (Same.refl _) nl7
      have el7 := hq ▸ (upd_same (H := H6) (a := l7))
      clear hq
      have R1 := R0.same sH7
      refine use_not_among (ns := [16, 32, 64]) R1.A.dr (R0.A.dr.ne _ nl7) el7 (by decide) fun u t H8 a8 D8 hu _ hno => ?_
      have hb : widB t = false := no_wid hno
      refine use_setL (j := 0) (R1.aft a8).at_ rfl ?_
      have R2 := (R1.aft a8).set 0 (R1.new_dt hu)
      repeat (first | refine ⟨scal_int.mpr trivial, ?_⟩ | refine ⟨scal_str.mpr trivial, ?_⟩ | refine itei (fun h => ?_) (fun h => absurd (by decide) h) | refine itei (fun h => absurd h (by decide)) (fun h => ?_))
      refine use_take R2.A.dr (by decide +kernel) fun v9 H9 a9 D9 v90 v91 => ?_
      have R3' := R2.aft a9
      have hb2 : ∀ b c, refBad 0 t b c = some (ttN 0) := fun b c => if_pos hb
      refine ⟨scal_int.mpr trivial, itei (fun h => ?_) (fun h => ?_)⟩
      · refine use_setL (j := 1) R3'.at_ rfl ?_
        have R4 := R3'.set 1 (v := .int 0) (t := .int 0) rfl
        refine ⟨_, rfl, itei (fun h => ?_) (fun h => absurd (by decide) h)⟩
        refine use_take R4.A.dr (by decide +kernel) fun w1 J1 b1 B1 w10 w11 => ⟨scal_int.mpr trivial, itei (fun h => ?_) (fun h => ?_)⟩
        · exact use_setL (j := 2) (R4.aft b1).at_ rfl (tail_ok (k := 0) (c := 0) ((R4.aft b1).set 2 (v := .int (-1)) (t := .int (-1)) rfl) (by decide) (by decide) (hb2 _ _) q)
        · exact tail_ok (k := 0) (c := 0) (R4.aft b1) (by decide) (by decide) (hb2 _ _) q
      ·
        refine ⟨_, rfl, itei (fun h => ?_) (fun h => absurd (by decide) h)⟩
        refine use_take R3'.A.dr (by decide +kernel) fun w1 J1 b1 B1 w10 w11 => ⟨scal_int.mpr trivial, itei (fun h => ?_) (fun h => ?_)⟩
        · exact use_setL (j := 2) (R3'.aft b1).at_ rfl (tail_ok (k := 0) (c := 0) ((R3'.aft b1).set 2 (v := .int (-1)) (t := .int (-1)) rfl) (by decide) (by decide) (hb2 _ _) q)
        · exact tail_ok (k := 0) (c := 0) (R3'.aft b1) (by decide) (by decide) (hb2 _ _) q
    · refine use_clsizes fun l7 H7 s7 nl7 el7 => ?_
      have R1 := R0.same s7
      refine use_not_among (ns := csz 64) R1.A.dr (R0.A.dr.ne _ nl7) el7 (by decide) fun u t H8 a8 D8 hu _ hno => ?_
      have hb : szB t = false := no_sz hno
      refine use_setL (j := 1) (R1.aft a8).at_ rfl ?_
      have R2 := (R1.aft a8).set 1 (R1.new_dt hu)
      repeat (first | refine ⟨scal_int.mpr trivial, ?_⟩ | refine ⟨scal_str.mpr trivial, ?_⟩ | refine itei (fun h => ?_) (fun h => absurd (by decide) h) | refine itei (fun h => absurd h (by decide)) (fun h => ?_))
      have hb2 : ∀ c, refBad 1 (.int w) t c = some (ttN 1) := fun c => if_pos hb
      refine ⟨_, rfl, itei (fun h => ?_) (fun h => absurd (by decide) h)⟩
      refine use_take R2.A.dr (by decide +kernel) fun w1 J1 b1 B1 w10 w11 => ⟨scal_int.mpr trivial, itei (fun h => ?_) (fun h => ?_)⟩
      · exact use_setL (j := 2) (R2.aft b1).at_ rfl (tail_ok (k := 1) (c := 1) ((R2.aft b1).set 2 (v := .int (-1)) (t := .int (-1)) rfl) (by decide) (by decide) (hb2 _) q)
      · exact tail_ok (k := 1) (c := 1) (R2.aft b1) (by decide) (by decide) (hb2 _) q
    · refine ⟨by decide, ?_⟩
      intro l7 nl7
      generalize hq : upd H6 l7 _ = H7
      have sH7 : Same H6 H7 := hq ▸ Same.new (Same.refl _) nl7
      have el7 := hq ▸ (upd_same (H := H6) (a := l7))
      clear hq
      have R1 := R0.same sH7
      refine use_not_among (ns := [16, 32, 64]) R1.A.dr (R0.A.dr.ne _ nl7) el7 (by decide) fun u t H8 a8 D8 hu _ hno => ?_
      have hb : widB t = false := no_wid hno
      refine use_setL (j := 0) (R1.aft a8).at_ rfl ?_
      have R2 := (R1.aft a8).set 0 (R1.new_dt hu)
      repeat (first | refine ⟨scal_int.mpr trivial, ?_⟩ | refine ⟨scal_str.mpr trivial, ?_⟩ | refine itei (fun h => ?_) (fun h => absurd (by decide) h) | refine itei (fun h => absurd h (by decide)) (fun h => ?_))
      refine use_take R2.A.dr (by decide +kernel) fun v9 H9 a9 D9 v90 v91 => ?_
      have R3' := R2.aft a9
      have hb2 : ∀ b c, refBad 2 t b c = some (ttN 0) := fun b c => if_pos hb
      refine ⟨scal_int.mpr trivial, itei (fun h => ?_) (fun h => ?_)⟩
      · refine use_setL (j := 1) R3'.at_ rfl ?_
        have R4 := R3'.set 1 (v := .int 0) (t := .int 0) rfl
        refine ⟨_, rfl, itei (fun h => ?_) (fun h => absurd (by decide) h)⟩
        refine use_take R4.A.dr (by decide +kernel) fun w1 J1 b1 B1 w10 w11 => ⟨scal_int.mpr trivial, itei (fun h => ?_) (fun h => ?_)⟩
        · exact use_setL (j := 2) (R4.aft b1).at_ rfl (tail_ok (k := 2) (c := 0) ((R4.aft b1).set 2 (v := .int (-1)) (t := .int (-1)) rfl) (by decide) (by decide) (hb2 _ _) q)
        · exact tail_ok (k := 2) (c := 0) (R4.aft b1) (by decide) (by decide) (hb2 _ _) q
      ·
        refine ⟨_, rfl, itei (fun h => ?_) (fun h => absurd (by decide) h)⟩
        refine use_take R3'.A.dr (by decide +kernel) fun w1 J1 b1 B1 w10 w11 => ⟨scal_int.mpr trivial, itei (fun h => ?_) (fun h => ?_)⟩
        · exact use_setL (j := 2) (R3'.aft b1).at_ rfl (tail_ok (k := 2) (c := 0) ((R3'.aft b1).set 2 (v := .int (-1)) (t := .int (-1)) rfl) (by decide) (by decide) (hb2 _ _) q)
        · exact tail_ok (k := 2) (c := 0) (R3'.aft b1) (by decide) (by decide) (hb2 _ _) q
    · refine use_clsizes fun l7 H7 s7 nl7 el7 => ?_
      have R1 := R0.same s7
      refine use_not_among (ns := csz 64) R1.A.dr (R0.A.dr.ne _ nl7) el7 (by decide) fun u t H8 a8 D8 hu _ hno => ?_
      have hb : szB t = false := no_sz hno
      refine use_setL (j := 1) (R1.aft a8).at_ rfl ?_
      have R2 := (R1.aft a8).set 1 (R1.new_dt hu)
      repeat (first | refine ⟨scal_int.mpr trivial, ?_⟩ | refine ⟨scal_str.mpr trivial, ?_⟩ | refine itei (fun h => ?_) (fun h => absurd (by decide) h) | refine itei (fun h => absurd h (by decide)) (fun h => ?_))
      have hb2 : ∀ c, refBad 2 (.int w) t c = some (ttN 1) := fun c => by show coBad _ _ = _; unfold coBad; rw [if_neg (by rw [S.hw]; simp), if_pos hb]; rfl
      refine ⟨_, rfl, itei (fun h => ?_) (fun h => absurd (by decide) h)⟩
      refine use_take R2.A.dr (by decide +kernel) fun w1 J1 b1 B1 w10 w11 => ⟨scal_int.mpr trivial, itei (fun h => ?_) (fun h => ?_)⟩
      · exact use_setL (j := 2) (R2.aft b1).at_ rfl (tail_ok (k := 2) (c := 1) ((R2.aft b1).set 2 (v := .int (-1)) (t := .int (-1)) rfl) (by decide) (by decide) (hb2 _) q)
      · exact tail_ok (k := 2) (c := 1) (R2.aft b1) (by decide) (by decide) (hb2 _) q
    · refine use_ixT ((A3.trans a4).trans (Aft.same D4 (sH5.trans sH6)) |>.at S.at_ na) rfl ?_
      refine use_setL (j := 1) R0.at_ rfl ?_
      have R0 := R0.set 1 (v := .int z) (t := .int z) rfl
      generalize upd H6 r _ = HZ at R0 ⊢
      repeat (first | refine ⟨scal_int.mpr trivial, ?_⟩ | refine ⟨scal_str.mpr trivial, ?_⟩ | refine itei (fun h => ?_) (fun h => absurd (by decide) h) | refine itei (fun h => absurd h (by decide)) (fun h => ?_))
      refine ⟨by decide, ?_⟩
      intro l7 nl7
      generalize hq : upd HZ l7 _ = H7
      have sH7 : Same HZ H7 := hq ▸ Same.new (Same.refl _) nl7
      have el7 := hq ▸ (upd_same (H := HZ) (a := l7))
      clear hq
      have R1 := R0.same sH7
      refine use_not_among (ns := [16, 32, 64]) R1.A.dr (R0.A.dr.ne _ nl7) el7 (by decide) fun u t H8 a8 D8 hu _ hno => ?_
      have hb : widB t = false := no_wid hno
      refine use_setL (j := 0) (R1.aft a8).at_ rfl ?_
      have R2 := (R1.aft a8).set 0 (R1.new_dt hu)
      repeat (first | refine ⟨scal_int.mpr trivial, ?_⟩ | refine ⟨scal_str.mpr trivial, ?_⟩ | refine itei (fun h => ?_) (fun h => absurd (by decide) h) | refine itei (fun h => absurd h (by decide)) (fun h => ?_))
      refine use_take R2.A.dr (by decide +kernel) fun v9 H9 a9 D9 v90 v91 => ?_
      have R3' := R2.aft a9
      have hb2 : ∀ b c, refBad 3 t b c = some (ttN 0) := fun b c => if_pos hb
      refine ⟨scal_int.mpr trivial, itei (fun h => ?_) (fun h => ?_)⟩
      · refine use_setL (j := 1) R3'.at_ rfl ?_
        have R4 := R3'.set 1 (v := .int 0) (t := .int 0) rfl
        refine ⟨_, rfl, itei (fun h => ?_) (fun h => absurd (by decide) h)⟩
        refine use_take R4.A.dr (by decide +kernel) fun w1 J1 b1 B1 w10 w11 => ⟨scal_int.mpr trivial, itei (fun h => ?_) (fun h => ?_)⟩
        · exact use_setL (j := 2) (R4.aft b1).at_ rfl (tail_ok (k := 3) (c := 0) ((R4.aft b1).set 2 (v := .int (-1)) (t := .int (-1)) rfl) (by decide) (by decide) (hb2 _ _) q)
        · exact tail_ok (k := 3) (c := 0) (R4.aft b1) (by decide) (by decide) (hb2 _ _) q
      ·
        refine ⟨_, rfl, itei (fun h => ?_) (fun h => absurd (by decide) h)⟩
        refine use_take R3'.A.dr (by decide +kernel) fun w1 J1 b1 B1 w10 w11 => ⟨scal_int.mpr trivial, itei (fun h => ?_) (fun h => ?_)⟩
        · exact use_setL (j := 2) (R3'.aft b1).at_ rfl (tail_ok (k := 3) (c := 0) ((R3'.aft b1).set 2 (v := .int (-1)) (t := .int (-1)) rfl) (by decide) (by decide) (hb2 _ _) q)
        · exact tail_ok (k := 3) (c := 0) (R3'.aft b1) (by decide) (by decide) (hb2 _ _) q
    · refine use_ixT ((A3.trans a4).trans (Aft.same D4 (sH5.trans sH6)) |>.at S.at_ na) rfl ?_
      refine use_setL (j := 1) R0.at_ rfl ?_
      have R0 := R0.set 1 (v := .int z) (t := .int z) rfl
      repeat (first | refine ⟨scal_int.mpr trivial, ?_⟩ | refine ⟨scal_str.mpr trivial, ?_⟩ | refine itei (fun h => ?_) (fun h => absurd (by decide) h) | refine itei (fun h => absurd h (by decide)) (fun h => ?_))
      refine ⟨by decide, use_not_within R0.A.dr (by decide) (by decide) (by decide) (by decide) fun u t H8 a8 D8 hu _ ho => ?_⟩
      have hb : ¬ InR 1 1000000000 t := out_in ho
      have R1 := R0
      refine use_setL (j := 1) (R1.aft a8).at_ rfl ?_
      have R2 := (R1.aft a8).set 1 (R1.new_dt hu)
      repeat (first | refine ⟨scal_int.mpr trivial, ?_⟩ | refine ⟨scal_str.mpr trivial, ?_⟩ | refine itei (fun h => ?_) (fun h => absurd (by decide) h) | refine itei (fun h => absurd h (by decide)) (fun h => ?_))
      have hb2 : ∀ c, refBad 3 (.int w) t c = some (ttN 1) := fun c => by show cfBad _ _ _ = _; unfold cfBad; rw [if_neg (by rw [S.hw]; simp), if_pos hb]; rfl
      refine ⟨_, rfl, itei (fun h => ?_) (fun h => absurd (by decide) h)⟩
      refine use_take R2.A.dr (by decide +kernel) fun w1 J1 b1 B1 w10 w11 => ⟨scal_int.mpr trivial, itei (fun h => ?_) (fun h => ?_)⟩
      · exact use_setL (j := 2) (R2.aft b1).at_ rfl (tail_ok (k := 3) (c := 1) ((R2.aft b1).set 2 (v := .int (-1)) (t := .int (-1)) rfl) (by decide) (by decide) (hb2 _) q)
      · exact tail_ok (k := 3) (c := 1) (R2.aft b1) (by decide) (by decide) (hb2 _) q
    · refine use_ixT ((A3.trans a4).trans (Aft.same D4 (sH5.trans sH6)) |>.at S.at_ na) rfl ?_
      refine use_setL (j := 1) R0.at_ rfl ?_
      have R0 := R0.set 1 (v := .int z) (t := .int z) rfl
      repeat (first | refine ⟨scal_int.mpr trivial, ?_⟩ | refine ⟨scal_str.mpr trivial, ?_⟩ | refine itei (fun h => ?_) (fun h => absurd (by decide) h) | refine itei (fun h => absurd h (by decide)) (fun h => ?_))
      refine ⟨by decide, use_not_alignment R0.A.dr (by decide) (by decide) fun u t H8 a8 D8 hu _ hal => ?_⟩
      refine use_setL (j := 2) (R0.aft a8).at_ rfl ?_
      have R2 := (R0.aft a8).set 2 (R0.new_dt hu)
      repeat (first | refine ⟨scal_int.mpr trivial, ?_⟩ | refine ⟨scal_str.mpr trivial, ?_⟩ | refine itei (fun h => ?_) (fun h => absurd (by decide) h) | refine itei (fun h => absurd h (by decide)) (fun h => ?_))
      refine ⟨_, rfl, ?_⟩
      refine itei (fun h => absurd h (by decide)) (fun h => ?_)
      have hb2 : refBad 3 (.int w) (.int z) t = some (ttN 2) := by
        show cfBad _ _ _ = _
        have hz : InR 1 1000000000 (.int z) := ⟨S.z0, S.z1⟩
        unfold cfBad
        rw [if_neg (by rw [S.hw]; simp), if_neg (by simpa using hz), if_pos hal]
        rfl
      exact tail_ok (k := 3) (c := 2) R2 (by decide) (by decide) hb2 q
end K26

namespace K26
open PySem PySem.Spec PyProof.Rows L2 LL
variable {P : Program} {w : World} {K : PySem.W.Frag} {mg : Str → Option Value} {base : Heap}

def sp_law (K : PySem.W.Frag) : Sp := fun vs H Q _ => ∃ (a : Addr) (ns : List Int), vs = [.ref a] ∧ SqL K H a (ns.map V.int) ∧ ns.length ≤ 100000 ∧ ∀ H', Q (.bl true) H'
theorem Ask3.same {H H' : Hp} {a : Addr} {w z : Int} {k : Nat} (h : Ask3 H a w z k) (s : Same H H') : Ask3 H' a w z k := ⟨s _ _ h.at_, h.hw, h.z0, h.z1, h.hk⟩
theorem ix0 {l : List V} (h : 0 < l.length) : ixN l.length 0 = some 0 := by
  unfold ixN
  rw [if_pos (by decide), if_pos (by omega)]
  rfl
def IsAsk (H : Hp) (v : V) : Prop := ∃ a w z k, v = .ref a ∧ Ask3 H a w z k
theorem IsAsk.same {H H' : Hp} {v : V} (h : IsAsk H v) (s : Same H H') : IsAsk H' v := by
  obtain ⟨a, w, z, k, e, h⟩ := h
  exact ⟨a, w, z, k, e, h.same s⟩
theorem cf_good {w z : Int} {k : Nat} (hw : widB (.int w) = true) (z0 : 1 ≤ z) (z1 : z ≤ 1000000000) (hk : k ≤ 30) : cfBad (.int w) (.int z) (.int (2 ^ k)) = none := by
  have e2 : InR 1 1000000000 (.int z) := ⟨z0, z1⟩
  have e3 : alB 1073741824 (.int (2 ^ k)) = true := by
    have h3 : 2 ^ k ≤ 2 ^ 30 := Nat.pow_le_pow_right (by decide) hk
    have e : ((2 ^ k : Nat) : Int) = (2 : Int) ^ k := Int.natCast_pow 2 k
    show (isP (2 ^ k) && _) = true
    rw [isP_pow, decide_eq_true (show (2 : Int) ^ k ≤ 1073741824 by omega)]
    rfl
  unfold cfBad
  rw [if_neg (by rw [hw]; simp), if_neg (by simpa using e2), if_neg (by rw [e3]; simp)]
theorem ints_dt {F : Addr → Prop} {H : Hp} : ∀ ns : List Int, DtL F H (ns.map V.int) (ns.map LL.T.int)
  | [] => rfl
  | n :: ns => .cons rfl (ints_dt ns)
theorem dt_ints {F : Addr → Prop} {H : Hp} {p : Addr} {ns : List Int} (f : F p) (h : H p = some (.lst (ns.map V.int))) (hl : ns.length ≤ 100000) : Dt F H (.ref p) (.lst (ns.map LL.T.int)) := ⟨p, _, rfl, f, h, ints_dt ns, by rw [List.length_map]; exact hl⟩
theorem dep_ints : ∀ ns : List Int, depL (ns.map LL.T.int) = 0
  | [] => rfl
  | n :: ns => by show max 0 (depL (ns.map LL.T.int)) = 0; rw [dep_ints ns]; rfl

theorem ok_law (T : Tx K mg) : FnOk P w K mg base CX0 13 (He.ga K "law") T.fd_law P_law (sp_law K) := by
  refine T.F_law.ok sc_law (fun vs H Q E h => ?_) (fun cdv A outer s H vs Q E hr h => ⟨_, PSs.nox (pss_cons (ps_set (i := 1) sc_law.nd rfl (Or.inl rfl) (pe_call (ok_law_draws T) (hr.mono (by decide)) rfl T.g_law_draws T.F_law_draws.kp (b_law_draws T) .nil pass0 (pa_cons (pv 0) pa_nil))) (pss_cons (ps_set (i := 2) sc_law.nd rfl (Or.inl rfl) (pe_lst (pa_cons (pe_call (ok_law_class_ask T) (hr.mono (by decide)) rfl T.g_law_class_ask T.F_law_class_ask.kp (b_law_class_ask T) .nil pass0 (pa_cons (pv 1) pa_nil)) (pa_cons (pe_call (ok_law_class_ask T) (hr.mono (by decide)) rfl T.g_law_class_ask T.F_law_class_ask.kp (b_law_class_ask T) .nil pass0 (pa_cons (pv 1) pa_nil)) pa_nil)))) (pss_cons (ps_for PassesOwn.never rfl (pi_list (pe_op op_cat (pv 2) (pv 2))) (pg_tup rfl (pgs_cons (pg_name (i := 3) sc_law.nd rfl (Or.inl rfl)) (pgs_cons (pg_name (i := 4) sc_law.nd rfl (Or.inl rfl)) (pgs_cons (pg_name (i := 5) sc_law.nd rfl (Or.inl rfl)) pgs_nil)))) (pss_cons (ps_set (i := 6) sc_law.nd rfl (Or.inl rfl) (pe_call (ok_class_sizes T) (hr.mono (by decide)) rfl T.g_class_sizes T.F_class_sizes.kp (b_class_sizes T) .nil passE0 (pa_cons (pv 3) pa_nil))) (pss_cons (ps_if (pt_not (pt_val (pe_call (ok_law_same T 8) (hr.mono (by decide)) rfl T.g_law_same T.F_law_same.kp (b_law_same T) .nil pass0 (pa_cons (pv 6) (pa_cons (pe_call (ok_law_class_sizes T) (hr.mono (by decide)) rfl T.g_law_class_sizes T.F_law_class_sizes.kp (b_law_class_sizes T) .nil pass0 (pa_cons (pv 3) pa_nil)) pa_nil))))) (pss_one (ps_ret (pe_bl))) pss_nil) (pss_cons (ps_set (i := 7) sc_law.nd rfl (Or.inl rfl) (pe_call (ok_class_of T) (hr.mono (by decide)) rfl T.g_class_of T.F_class_of.kp (b_class_of T) .nil passE0 (pa_cons (pv 3) (pa_cons (pv 4) (pa_cons (pv 5) pa_nil))))) (pss_cons (ps_if (pt_not (pt_val (pe_call (ok_law_is_class T) (hr.mono (by decide)) rfl T.g_law_is_class T.F_law_is_class.kp (b_law_is_class T) .nil pass0 (pa_cons (pv 6) (pa_cons (pv 4) (pa_cons (pv 5) (pa_cons (pv 7) pa_nil))))))) (pss_one (ps_ret (pe_bl))) pss_nil) (pss_cons (ps_expr (pe_bm PySem.F.plainAttrs_list PySem.F.slot_list_append PySem.F.type_list_append mt_append (pv 6) (pa_cons (pe_int) pa_nil))) (pss_cons (ps_asg (pe_int) (pg_sub (pv 6) (pe_int) set_list)) (pss_one (ps_for PassesOwn.never rfl (pi_list (pe_call (ok_law_class_sizes T) (hr.mono (by decide)) rfl T.g_law_class_sizes T.F_law_class_sizes.kp (b_law_class_sizes T) .nil pass0 (pa_cons (pe_int) pa_nil))) (pg_name (i := 8) sc_law.nd rfl (Or.inl rfl)) (pss_one (ps_if (pt_not (pt_val (pe_call (ok_law_is_order T) (hr.mono (by decide)) rfl T.g_law_is_order T.F_law_is_order.kp (b_law_is_order T) .nil pass0 (pa_cons (pv 3) (pa_cons (pv 8) (pa_cons (pe_call (ok_class_order T) (hr.mono (by decide)) rfl T.g_class_order T.F_class_order.kp (b_class_order T) .nil passE0 (pa_cons (pv 3) (pa_cons (pv 8) pa_nil))) pa_nil)))))) (pss_one (ps_ret (pe_bl))) pss_nil))))))))))) (pss_one (ps_ret (pe_call (ok_law_refuses T) hr rfl T.g_law_refuses T.F_law_refuses.kp (b_law_refuses T) .nil pass0 (pa_cons (pv 1) (pa_cons (pe_ix (show IxR _ (rIxL K) from ix_list) (pv 2) (pe_int) (fun _ _ => rfl)) pa_nil)))))))), ?_⟩)
  · obtain ⟨_, _, rfl, _⟩ := h
    rfl
  · obtain ⟨a, ns, rfl, hs, hn, q⟩ := h
    simp only [tSeq, tAsg, tRet, tRetN, tDrop, tNext, tVar, tC, gName, tOp, tUn, rI, rI0, rU, tIfS, tTest, tB, tIf, tAnd, tOr, tNot, tAndV, tOrV, tNotV, tCall, tCons, tNil, tCB, tLst, tTup, tChain, CMul, CDiv, CPow, rEq, rNe, gSub, L2.start, LL.cxK0, LL.cxK1, List.map_cons, List.map_nil, List.length_cons, List.length_nil, List.replicate_succ, List.replicate_zero, List.cons_append, List.nil_append, List.append_nil, List.getElem?_cons_zero, List.getElem?_cons_succ, List.set_cons_zero, List.set_cons_succ, Nat.add_sub_cancel, Nat.reduceAdd, Nat.reduceSub, Option.some.injEq, V.int.injEq, V.bl.injEq, V.ref.injEq, V.str.injEq, List.cons.injEq, and_true, true_and, and_false, false_and, exists_eq_left, exists_eq_left', exists_and_left, exists_and_right, exists_eq, exists_eq', LL.if_dec, reduceCtorEq, exists_false, exists_const, or_false, false_or, if_true, if_false, LL.rInt1, LL.rMx, LL.rMn, and_assoc, Int.reduceNeg, Int.reduceLT, Int.reduceLE, Int.reduceMul, Int.reduceAdd, Int.reduceSub, Int.reducePow, Int.reduceToNat, Nat.reducePow, Nat.reduceLT, true_or, or_true, Bool.not_true, Bool.not_false, Bool.false_eq_true, Bool.or_false, Bool.or_true, Bool.true_or, Bool.false_or, decide_true, decide_false, not_true_eq_false, not_false_eq_true, LL.scal_int, LL.scal_bl, LL.scal_str, LL.isInt, LL.isBl, LL.isStr, LL.isLst, LL.isTup, LL.isDic, N_law]
    refine ⟨a, ns, rfl, hs, hn, fun d s H1 s1 D1 nd ns' => ?_⟩
    refine ⟨d, s, rfl, D1, fun b1 w1 z1 k1 H2 a2 D2 nb1 eb1 hw1 z10 z11 hk1 => ?_⟩
    refine ⟨d, s, rfl, D2, fun b2 w2 z2 k2 H3 a3 D3 nb2 eb2 hw2 z20 z21 hk2 => ⟨by decide, ?_⟩⟩
    have B1 : Ask3 H3 b1 w1 z1 k1 := ⟨a3.at eb1 (D1.ne _ nb1), hw1, z10, z11, hk1⟩
    have B2 : Ask3 H3 b2 w2 z2 k2 := ⟨eb2, hw2, z20, z21, hk2⟩
    intro la nla
    generalize hq : upd H3 la _ = H4
    have sH4 : Same H3 H4 := hq ▸ Same.new (Same.refl _) nla
    have ela := hq ▸ (upd_same (H := H3) (a := la))
    clear hq
    replace B1 := B1.same sH4
    replace B2 := B2.same sH4
    have nla2 := D3.ne _ nla
    have D4 := D3.same sH4
    have nb1s := D1.ne _ nb1
    clear eb1 eb2 a2 a3 D1 D2 D3
    refine use_forLX (R := fun p xs H' => Same H4 H' ∧ H' p = some (.lst xs) ∧ ∀ x ∈ xs, IsAsk H4 x) (fun Q hQ => ?_)
      (fun p xs i σ' H' => Same H4 H' ∧ H' p = some (.lst xs) ∧ (∀ x ∈ xs, IsAsk H4 x) ∧ ∃ y1 y2 y3 y4 y5 y6 : Option V, σ' = [some (.ref a), some (.ref d), some (.ref la), y1, y2, y3, y4, y5, y6]) (fun p xs H' ⟨h1, h2, h3⟩ => ⟨h1, h2, h3, _, _, _, _, _, _, rfl⟩) (fun p xs i σ' H' _ ⟨_, e, _⟩ => SqL.of e) ?_ ?_
    · simp only [tSeq, tAsg, tRet, tRetN, tDrop, tNext, tVar, tC, gName, tOp, tUn, rI, rI0, rU, tIfS, tTest, tB, tIf, tAnd, tOr, tNot, tAndV, tOrV, tNotV, tCall, tCons, tNil, tCB, tLst, tTup, tChain, CMul, CDiv, CPow, rEq, rNe, gSub, L2.start, LL.cxK0, LL.cxK1, List.map_cons, List.map_nil, List.length_cons, List.length_nil, List.replicate_succ, List.replicate_zero, List.cons_append, List.nil_append, List.append_nil, List.getElem?_cons_zero, List.getElem?_cons_succ, List.set_cons_zero, List.set_cons_succ, Nat.add_sub_cancel, Nat.reduceAdd, Nat.reduceSub, Option.some.injEq, V.int.injEq, V.bl.injEq, V.ref.injEq, V.str.injEq, List.cons.injEq, and_true, true_and, and_false, false_and, exists_eq_left, exists_eq_left', exists_and_left, exists_and_right, exists_eq, exists_eq', LL.if_dec, reduceCtorEq, exists_false, exists_const, or_false, false_or, if_true, if_false, LL.rInt1, LL.rMx, LL.rMn, and_assoc, Int.reduceNeg, Int.reduceLT, Int.reduceLE, Int.reduceMul, Int.reduceAdd, Int.reduceSub, Int.reducePow, Int.reduceToNat, Nat.reducePow, Nat.reduceLT, true_or, or_true, Bool.not_true, Bool.not_false, Bool.false_eq_true, Bool.or_false, Bool.or_true, Bool.true_or, Bool.false_or, decide_true, decide_false, not_true_eq_false, not_false_eq_true, LL.scal_int, LL.scal_bl, LL.scal_str, LL.isInt, LL.isBl, LL.isStr, LL.isLst, LL.isTup, LL.isDic]
      refine ⟨la, la, _, _, rfl, rfl, ela, ela, Nat.le_of_lt (small_sz (by simp)), fun p np => hQ _ _ _ ⟨Same.new (Same.refl _) np, upd_same, fun x hx => ?_⟩⟩
      simp only [List.cons_append, List.nil_append, List.mem_cons, List.not_mem_nil, or_false] at hx
      rcases hx with rfl | rfl | rfl | rfl
      · exact ⟨_, _, _, _, rfl, B1⟩
      · exact ⟨_, _, _, _, rfl, B2⟩
      · exact ⟨_, _, _, _, rfl, B1⟩
      · exact ⟨_, _, _, _, rfl, B2⟩
    · rintro p xs i x σ' H' hx ⟨g1, ep, hall, y1, y2, y3, y4, y5, y6, rfl⟩
      obtain ⟨b, w, z, k, rfl, hA⟩ := hall x (List.mem_of_getElem? hx)
      replace hA := hA.same g1
      simp only [tSeq, tAsg, tRet, tRetN, tDrop, tNext, tVar, tC, gName, tOp, tUn, rI, rI0, rU, tIfS, tTest, tB, tIf, tAnd, tOr, tNot, tAndV, tOrV, tNotV, tCall, tCons, tNil, tCB, tLst, tTup, tChain, CMul, CDiv, CPow, rEq, rNe, gSub, L2.start, LL.cxK0, LL.cxK1, List.map_cons, List.map_nil, List.length_cons, List.length_nil, List.replicate_succ, List.replicate_zero, List.cons_append, List.nil_append, List.append_nil, List.getElem?_cons_zero, List.getElem?_cons_succ, List.set_cons_zero, List.set_cons_succ, Nat.add_sub_cancel, Nat.reduceAdd, Nat.reduceSub, Option.some.injEq, V.int.injEq, V.bl.injEq, V.ref.injEq, V.str.injEq, List.cons.injEq, and_true, true_and, and_false, false_and, exists_eq_left, exists_eq_left', exists_and_left, exists_and_right, exists_eq, exists_eq', LL.if_dec, reduceCtorEq, exists_false, exists_const, or_false, false_or, if_true, if_false, LL.rInt1, LL.rMx, LL.rMn, and_assoc, Int.reduceNeg, Int.reduceLT, Int.reduceLE, Int.reduceMul, Int.reduceAdd, Int.reduceSub, Int.reducePow, Int.reduceToNat, Nat.reducePow, Nat.reduceLT, true_or, or_true, Bool.not_true, Bool.not_false, Bool.false_eq_true, Bool.or_false, Bool.or_true, Bool.true_or, Bool.false_or, decide_true, decide_false, not_true_eq_false, not_false_eq_true, LL.scal_int, LL.scal_bl, LL.scal_str, LL.isInt, LL.isBl, LL.isStr, LL.isLst, LL.isTup, LL.isDic, gTup]
      refine ⟨_, SqT.of hA.at_, rfl, ?_⟩
      simp only [tSeq, tAsg, tRet, tRetN, tDrop, tNext, tVar, tC, gName, tOp, tUn, rI, rI0, rU, tIfS, tTest, tB, tIf, tAnd, tOr, tNot, tAndV, tOrV, tNotV, tCall, tCons, tNil, tCB, tLst, tTup, tChain, CMul, CDiv, CPow, rEq, rNe, gSub, L2.start, LL.cxK0, LL.cxK1, List.map_cons, List.map_nil, List.length_cons, List.length_nil, List.replicate_succ, List.replicate_zero, List.cons_append, List.nil_append, List.append_nil, List.getElem?_cons_zero, List.getElem?_cons_succ, List.set_cons_zero, List.set_cons_succ, Nat.add_sub_cancel, Nat.reduceAdd, Nat.reduceSub, Option.some.injEq, V.int.injEq, V.bl.injEq, V.ref.injEq, V.str.injEq, List.cons.injEq, and_true, true_and, and_false, false_and, exists_eq_left, exists_eq_left', exists_and_left, exists_and_right, exists_eq, exists_eq', LL.if_dec, reduceCtorEq, exists_false, exists_const, or_false, false_or, if_true, if_false, LL.rInt1, LL.rMx, LL.rMn, and_assoc, Int.reduceNeg, Int.reduceLT, Int.reduceLE, Int.reduceMul, Int.reduceAdd, Int.reduceSub, Int.reducePow, Int.reduceToNat, Nat.reducePow, Nat.reduceLT, true_or, or_true, Bool.not_true, Bool.not_false, Bool.false_eq_true, Bool.or_false, Bool.or_true, Bool.true_or, Bool.false_or, decide_true, decide_false, not_true_eq_false, not_false_eq_true, LL.scal_int, LL.scal_bl, LL.scal_str, LL.isInt, LL.isBl, LL.isStr, LL.isLst, LL.isTup, LL.isDic, gCons, gNil]
      refine ⟨fun _ => True, _, .int w, rfl, rfl, fun h => absurd h (by rw [hA.hw]; simp), fun w' ew _ r5 H5 s5 nr5 er5 => ?_⟩
      cases ew
      refine use_clsizes fun r6 H6 s6 nr6 er6 => ?_
      have hlen : (csz w).length ≤ 10 := Nat.le_trans (List.length_filter_le _ _) (by decide)
      refine use_same (dt_ints (F := fun _ => True) trivial (s6 _ _ er5) (by omega)) (dt_ints (F := fun _ => True) trivial er6 (by omega)) (by show depL _ + 1 < 8; rw [dep_ints]; decide) fun H7 s7 => ⟨true, rfl, ?_⟩
      rw [if_neg (by simp)]
      have g7 := (s5.trans s6).trans s7
      replace er5 := (s6.trans s7) _ _ er5
      refine ⟨fun _ => True, fun _ => True, fun _ => True, _, _, _, .int w, .int z, .int (2 ^ k), rfl, rfl, rfl, rfl, fun n hn => absurd hn (by rw [cf_good hA.hw hA.z0 hA.z1 hA.hk]; simp), fun w' z' a' ew ez ea _ H8 s8 => ?_⟩
      cases ew
      cases ez
      cases ea
      refine ⟨r5, w, z, k, rfl, s8 _ _ er5, fun H9 s9 => ⟨true, rfl, ?_⟩⟩
      rw [if_neg (by simp)]
      replace er5 := (s8.trans s9) _ _ er5
      have g9 := g7.trans (s8.trans s9)
      simp only [tSeq, tAsg, tRet, tRetN, tDrop, tNext, tVar, tC, gName, tOp, tUn, rI, rI0, rU, tIfS, tTest, tB, tIf, tAnd, tOr, tNot, tAndV, tOrV, tNotV, tCall, tCons, tNil, tCB, tLst, tTup, tChain, CMul, CDiv, CPow, rEq, rNe, gSub, L2.start, LL.cxK0, LL.cxK1, List.map_cons, List.map_nil, List.length_cons, List.length_nil, List.replicate_succ, List.replicate_zero, List.cons_append, List.nil_append, List.append_nil, List.getElem?_cons_zero, List.getElem?_cons_succ, List.set_cons_zero, List.set_cons_succ, Nat.add_sub_cancel, Nat.reduceAdd, Nat.reduceSub, Option.some.injEq, V.int.injEq, V.bl.injEq, V.ref.injEq, V.str.injEq, List.cons.injEq, and_true, true_and, and_false, false_and, exists_eq_left, exists_eq_left', exists_and_left, exists_and_right, exists_eq, exists_eq', LL.if_dec, reduceCtorEq, exists_false, exists_const, or_false, false_or, if_true, if_false, LL.rInt1, LL.rMx, LL.rMn, and_assoc, Int.reduceNeg, Int.reduceLT, Int.reduceLE, Int.reduceMul, Int.reduceAdd, Int.reduceSub, Int.reducePow, Int.reduceToNat, Nat.reducePow, Nat.reduceLT, true_or, or_true, Bool.not_true, Bool.not_false, Bool.false_eq_true, Bool.or_false, Bool.or_true, Bool.true_or, Bool.false_or, decide_true, decide_false, not_true_eq_false, not_false_eq_true, LL.scal_int, LL.scal_bl, LL.scal_str, LL.isInt, LL.isBl, LL.isStr, LL.isLst, LL.isTup, LL.isDic, tBM]
      refine ⟨ty_list er5, use_append er5 (small_sz (by rw [List.length_map]; omega)) ?_⟩
      refine use_setL (j := 0) upd_same (ix0 (by simp)) ?_
      have g10 : Same H' (upd (upd H9 r5 (.lst ((csz w).map V.int ++ [V.int 1]))) r5 (.lst (((csz w).map V.int ++ [V.int 1]).set 0 (V.int 2)))) := Same.own (Same.own g9 nr5) nr5
      generalize upd (upd H9 r5 _) r5 _ = H10 at g10 ⊢
      refine use_forLX (R := fun p2 xs2 H2 => Same H' H2 ∧ H2 p2 = some (.lst xs2) ∧ xs2 = (csz 64).map V.int) (fun Q hQ => ?_)
        (fun p2 xs2 i2 σ' H2 => Same H' H2 ∧ H2 p2 = some (.lst xs2) ∧ xs2 = (csz 64).map V.int ∧ ∃ y1 y2 : Option V, σ' = [some (.ref a), some (.ref d), some (.ref la), some (.int w), some (.int z), some (.int (2 ^ k)), some (.ref r5), y1, y2]) (fun p2 xs2 H2 ⟨h1, h2, h3⟩ => ⟨h1, h2, h3, _, _, rfl⟩) (fun p2 xs2 i2 σ' H2 _ ⟨_, e, _⟩ => SqL.of e) ?_ ?_
      · exact use_clsizes (E := E0) fun r H11 s11 _ er => hQ _ _ _ ⟨g10.trans s11, er, rfl⟩
      · rintro p2 xs2 i2 x2 σ' H2 hx2 ⟨g2, e2, rfl, w1', w2', rfl⟩
        rw [List.getElem?_map] at hx2
        obtain ⟨y, hy, rfl⟩ := Option.map_eq_some_iff.mp hx2
        have hy2 := csz_sz (List.mem_of_getElem? hy)
        simp only [tSeq, tAsg, tRet, tRetN, tDrop, tNext, tVar, tC, gName, tOp, tUn, rI, rI0, rU, tIfS, tTest, tB, tIf, tAnd, tOr, tNot, tAndV, tOrV, tNotV, tCall, tCons, tNil, tCB, tLst, tTup, tChain, CMul, CDiv, CPow, rEq, rNe, gSub, L2.start, LL.cxK0, LL.cxK1, List.map_cons, List.map_nil, List.length_cons, List.length_nil, List.replicate_succ, List.replicate_zero, List.cons_append, List.nil_append, List.append_nil, List.getElem?_cons_zero, List.getElem?_cons_succ, List.set_cons_zero, List.set_cons_succ, Nat.add_sub_cancel, Nat.reduceAdd, Nat.reduceSub, Option.some.injEq, V.int.injEq, V.bl.injEq, V.ref.injEq, V.str.injEq, List.cons.injEq, and_true, true_and, and_false, false_and, exists_eq_left, exists_eq_left', exists_and_left, exists_and_right, exists_eq, exists_eq', LL.if_dec, reduceCtorEq, exists_false, exists_const, or_false, false_or, if_true, if_false, LL.rInt1, LL.rMx, LL.rMn, and_assoc, Int.reduceNeg, Int.reduceLT, Int.reduceLE, Int.reduceMul, Int.reduceAdd, Int.reduceSub, Int.reducePow, Int.reduceToNat, Nat.reducePow, Nat.reduceLT, true_or, or_true, Bool.not_true, Bool.not_false, Bool.false_eq_true, Bool.or_false, Bool.or_true, Bool.true_or, Bool.false_or, decide_true, decide_false, not_true_eq_false, not_false_eq_true, LL.scal_int, LL.scal_bl, LL.scal_str, LL.isInt, LL.isBl, LL.isStr, LL.isLst, LL.isTup, LL.isDic]
        refine ⟨fun _ => True, fun _ => True, _, _, .int w, .int y, rfl, rfl, rfl, fun n hn => absurd hn (by unfold coBad; rw [if_neg (by rw [hA.hw]; simp), if_neg (by rw [show szB (.int y) = true from decide_eq_true hy2]; simp)]; simp), fun w' y' ew ey _ _ H12 s12 => ?_⟩
        cases ew
        cases ey
        refine ⟨w, y, rfl, hA.hw, hy2, fun H13 s13 => ⟨true, rfl, ?_⟩⟩
        rw [if_neg (by simp)]
        exact ⟨g2.trans (s12.trans s13), (s12.trans s13) _ _ e2⟩
      · rintro p2 xs2 σ' H2 ⟨g2, e2, rfl, w1', w2', rfl⟩
        exact ⟨g1.trans g2, g2 _ _ ep, hall, _, _, _, _, _, _, rfl⟩
    · rintro p xs σ' H' ⟨g1, ep, hall, y1, y2, y3, y4, y5, y6, rfl⟩
      simp only [tSeq, tAsg, tRet, tRetN, tDrop, tNext, tVar, tC, gName, tOp, tUn, rI, rI0, rU, tIfS, tTest, tB, tIf, tAnd, tOr, tNot, tAndV, tOrV, tNotV, tCall, tCons, tNil, tCB, tLst, tTup, tChain, CMul, CDiv, CPow, rEq, rNe, gSub, L2.start, LL.cxK0, LL.cxK1, List.map_cons, List.map_nil, List.length_cons, List.length_nil, List.replicate_succ, List.replicate_zero, List.cons_append, List.nil_append, List.append_nil, List.getElem?_cons_zero, List.getElem?_cons_succ, List.set_cons_zero, List.set_cons_succ, Nat.add_sub_cancel, Nat.reduceAdd, Nat.reduceSub, Option.some.injEq, V.int.injEq, V.bl.injEq, V.ref.injEq, V.str.injEq, List.cons.injEq, and_true, true_and, and_false, false_and, exists_eq_left, exists_eq_left', exists_and_left, exists_and_right, exists_eq, exists_eq', LL.if_dec, reduceCtorEq, exists_false, exists_const, or_false, false_or, if_true, if_false, LL.rInt1, LL.rMx, LL.rMn, and_assoc, Int.reduceNeg, Int.reduceLT, Int.reduceLE, Int.reduceMul, Int.reduceAdd, Int.reduceSub, Int.reducePow, Int.reduceToNat, Nat.reducePow, Nat.reduceLT, true_or, or_true, Bool.not_true, Bool.not_false, Bool.false_eq_true, Bool.or_false, Bool.or_true, Bool.true_or, Bool.false_or, decide_true, decide_false, not_true_eq_false, not_false_eq_true, LL.scal_int, LL.scal_bl, LL.scal_str, LL.isInt, LL.isBl, LL.isStr, LL.isLst, LL.isTup, LL.isDic]
      exact use_ixL (g1 _ _ ela) (v := .ref b1) rfl ⟨d, s, b1, w1, z1, k1, rfl, D4.same g1, nb1s, B1.same g1, q⟩
end K26

namespace K26
open PySem PySem.Spec PyProof.Rows L2 LL
variable {P : Program} {w : World} {K : PySem.W.Frag} {mg : Str → Option Value} {base : Heap}

def dd_is_whole : He.DefD := ⟨("is_whole", none), "is_whole", "is_whole", defArgs s_is_whole, defBody s_is_whole, defScope s_is_whole, [], []⟩
def dd_need : He.DefD := ⟨("need", none), "need", "need", defArgs s_need, defBody s_need, defScope s_need, [], []⟩
def dd_need_whole : He.DefD := ⟨("need_whole", none), "need_whole", "need_whole", defArgs s_need_whole, defBody s_need_whole, defScope s_need_whole, [], []⟩
def dd_is_width : He.DefD := ⟨("is_width", none), "is_width", "is_width", defArgs s_is_width, defBody s_is_width, defScope s_is_width, [], []⟩
def dd_is_power : He.DefD := ⟨("is_power", none), "is_power", "is_power", defArgs s_is_power, defBody s_is_power, defScope s_is_power, [], []⟩
def dd_need_align : He.DefD := ⟨("need_align", none), "need_align", "need_align", defArgs s_need_align, defBody s_need_align, defScope s_need_align, [], []⟩
def dd_power_in : He.DefD := ⟨("power_in", none), "power_in", "power_in", defArgs s_power_in, defBody s_power_in, defScope s_power_in, [], []⟩
def dd_need_shape : He.DefD := ⟨("need_shape", none), "need_shape", "need_shape", defArgs s_need_shape, defBody s_need_shape, defScope s_need_shape, [], []⟩
def dd_slab_shape : He.DefD := ⟨("slab_shape", none), "slab_shape", "slab_shape", defArgs s_slab_shape, defBody s_slab_shape, defScope s_slab_shape, [], []⟩
def dd_class_sizes : He.DefD := ⟨("class_sizes", none), "class_sizes", "class_sizes", defArgs s_class_sizes, defBody s_class_sizes, defScope s_class_sizes, [], []⟩
def dd_class_align : He.DefD := ⟨("class_align", none), "class_align", "class_align", defArgs s_class_align, defBody s_class_align, defScope s_class_align, [], []⟩
def dd_class_order : He.DefD := ⟨("class_order", none), "class_order", "class_order", defArgs s_class_order, defBody s_class_order, defScope s_class_order, [], []⟩
def dd_has_slots : He.DefD := ⟨("has_slots", none), "has_slots", "has_slots", defArgs s_has_slots, defBody s_has_slots, defScope s_has_slots, [], []⟩
def dd_class_of : He.DefD := ⟨("class_of", none), "class_of", "class_of", defArgs s_class_of, defBody s_class_of, defScope s_class_of, [], []⟩
def dd_law_draws : He.DefD := ⟨("_law_draws", none), "_law_draws", "_law_draws", defArgs s_law_draws, defBody s_law_draws, defScope s_law_draws, [], []⟩
def dd_law_next_cell : He.DefD := ⟨("_law_next_cell", none), "_law_next_cell", "_law_next_cell", defArgs s_law_next_cell, defBody s_law_next_cell, defScope s_law_next_cell, [], []⟩
def dd_law_mixed : He.DefD := ⟨("_law_mixed", none), "_law_mixed", "_law_mixed", defArgs s_law_mixed, defBody s_law_mixed, defScope s_law_mixed, [], []⟩
def dd_law_take : He.DefD := ⟨("_law_take", none), "_law_take", "_law_take", defArgs s_law_take, defBody s_law_take, defScope s_law_take, [], []⟩
def dd_law_among : He.DefD := ⟨("_law_among", none), "_law_among", "_law_among", defArgs s_law_among, defBody s_law_among, defScope s_law_among, [], []⟩
def dd_law_between : He.DefD := ⟨("_law_between", none), "_law_between", "_law_between", defArgs s_law_between, defBody s_law_between, defScope s_law_between, [], []⟩
def dd_law_number : He.DefD := ⟨("_law_number", none), "_law_number", "_law_number", defArgs s_law_number, defBody s_law_number, defScope s_law_number, [], []⟩
def dd_law_alignment : He.DefD := ⟨("_law_alignment", none), "_law_alignment", "_law_alignment", defArgs s_law_alignment, defBody s_law_alignment, defScope s_law_alignment, [], []⟩
def dd_law_power : He.DefD := ⟨("_law_power", none), "_law_power", "_law_power", defArgs s_law_power, defBody s_law_power, defScope s_law_power, [], []⟩
def dd_law_up : He.DefD := ⟨("_law_up", none), "_law_up", "_law_up", defArgs s_law_up, defBody s_law_up, defScope s_law_up, [], []⟩
def dd_law_long : He.DefD := ⟨("_law_long", none), "_law_long", "_law_long", defArgs s_law_long, defBody s_law_long, defScope s_law_long, [], []⟩
def dd_law_not_integer : He.DefD := ⟨("_law_not_integer", none), "_law_not_integer", "_law_not_integer", defArgs s_law_not_integer, defBody s_law_not_integer, defScope s_law_not_integer, [], []⟩
def dd_law_not_within : He.DefD := ⟨("_law_not_within", none), "_law_not_within", "_law_not_within", defArgs s_law_not_within, defBody s_law_not_within, defScope s_law_not_within, [], []⟩
def dd_law_not_among : He.DefD := ⟨("_law_not_among", none), "_law_not_among", "_law_not_among", defArgs s_law_not_among, defBody s_law_not_among, defScope s_law_not_among, [], []⟩
def dd_law_not_alignment : He.DefD := ⟨("_law_not_alignment", none), "_law_not_alignment", "_law_not_alignment", defArgs s_law_not_alignment, defBody s_law_not_alignment, defScope s_law_not_alignment, [], []⟩
def dd_law_is_int : He.DefD := ⟨("_law_is_int", none), "_law_is_int", "_law_is_int", defArgs s_law_is_int, defBody s_law_is_int, defScope s_law_is_int, [], []⟩
def dd_law_is_within : He.DefD := ⟨("_law_is_within", none), "_law_is_within", "_law_is_within", defArgs s_law_is_within, defBody s_law_is_within, defScope s_law_is_within, [], []⟩
def dd_law_is_ints : He.DefD := ⟨("_law_is_ints", none), "_law_is_ints", "_law_is_ints", defArgs s_law_is_ints, defBody s_law_is_ints, defScope s_law_is_ints, [], []⟩
def dd_law_same : He.DefD := ⟨("_law_same", none), "_law_same", "_law_same", defArgs s_law_same, defBody s_law_same, defScope s_law_same, [], []⟩
def dd_law_class_sizes : He.DefD := ⟨("_law_class_sizes", none), "_law_class_sizes", "_law_class_sizes", defArgs s_law_class_sizes, defBody s_law_class_sizes, defScope s_law_class_sizes, [], []⟩
def dd_law_class_ask : He.DefD := ⟨("_law_class_ask", none), "_law_class_ask", "_law_class_ask", defArgs s_law_class_ask, defBody s_law_class_ask, defScope s_law_class_ask, [], []⟩
def dd_law_is_grain : He.DefD := ⟨("_law_is_grain", none), "_law_is_grain", "_law_is_grain", defArgs s_law_is_grain, defBody s_law_is_grain, defScope s_law_is_grain, [], []⟩
def dd_law_two_fit : He.DefD := ⟨("_law_two_fit", none), "_law_two_fit", "_law_two_fit", defArgs s_law_two_fit, defBody s_law_two_fit, defScope s_law_two_fit, [], []⟩
def dd_law_is_order : He.DefD := ⟨("_law_is_order", none), "_law_is_order", "_law_is_order", defArgs s_law_is_order, defBody s_law_is_order, defScope s_law_is_order, [], []⟩
def dd_law_is_class : He.DefD := ⟨("_law_is_class", none), "_law_is_class", "_law_is_class", defArgs s_law_is_class, defBody s_law_is_class, defScope s_law_is_class, [], []⟩
def dd_law_refusal : He.DefD := ⟨("_law_refusal", none), "_law_refusal", "_law_refusal", defArgs s_law_refusal, defBody s_law_refusal, defScope s_law_refusal, [], []⟩
def dd_law_refuses : He.DefD := ⟨("_law_refuses", none), "_law_refuses", "_law_refuses", defArgs s_law_refuses, defBody s_law_refuses, defScope s_law_refuses, [], []⟩
def dd_law : He.DefD := ⟨("law", none), "law", "law", defArgs s_law, defBody s_law, defScope s_law, [], []⟩
def dd_BadValue : He.DefD := ⟨("BadValue", some "__init__"), "__init__", "BadValue.__init__", defArgs s_BadValue, defBody s_BadValue, defScope s_BadValue, [], []⟩
def fn : List He.DefD := [dd_is_whole, dd_need, dd_need_whole, dd_is_width, dd_is_power, dd_need_align, dd_power_in, dd_need_shape, dd_slab_shape, dd_class_sizes, dd_class_align, dd_class_order, dd_has_slots, dd_class_of, dd_law_draws, dd_law_next_cell, dd_law_mixed, dd_law_take, dd_law_among, dd_law_between, dd_law_number, dd_law_alignment, dd_law_power, dd_law_up, dd_law_long, dd_law_not_integer, dd_law_not_within, dd_law_not_among, dd_law_not_alignment, dd_law_is_int, dd_law_is_within, dd_law_is_ints, dd_law_same, dd_law_class_sizes, dd_law_class_ask, dd_law_is_grain, dd_law_two_fit, dd_law_is_order, dd_law_is_class, dd_law_refusal, dd_law_refuses, dd_law, dd_BadValue]
def fa : List He.Fa := [.glo "is_whole", .glo "need", .glo "need_whole", .glo "is_width", .glo "is_power", .glo "need_align", .glo "power_in", .glo "need_shape", .glo "slab_shape", .glo "class_sizes", .glo "class_align", .glo "class_order", .glo "has_slots", .glo "class_of", .glo "_law_draws", .glo "_law_next_cell", .glo "_law_mixed", .glo "_law_take", .glo "_law_among", .glo "_law_between", .glo "_law_number", .glo "_law_alignment", .glo "_law_power", .glo "_law_up", .glo "_law_long", .glo "_law_not_integer", .glo "_law_not_within", .glo "_law_not_among", .glo "_law_not_alignment", .glo "_law_is_int", .glo "_law_is_within", .glo "_law_is_ints", .glo "_law_same", .glo "_law_class_sizes", .glo "_law_class_ask", .glo "_law_is_grain", .glo "_law_two_fit", .glo "_law_is_order", .glo "_law_is_class", .glo "_law_refusal", .glo "_law_refuses", .glo "law", .int "LEAST_SLOTS" 2, .int "MOST_ALIGN" 1073741824, .int "MOST_CLASS_ALIGN" 4, .int "MOST_ORDER" 8, .int "MOST_PLACE" 1000000000, .int "MOST_SLOT" 4096, .glo "SIZES", .glo "WIDTHS", .glo "BadValue", .glo "StoreError", .glo "Unknown", .free "ValueError", .free "bool", .free "dict", .free "enumerate", .free "int", .free "isinstance", .free "len", .free "list", .free "max", .free "min", .free "range", .free "str", .free "tuple"]
def exs : List (PySem.W.Frag → Bool) := [fun K => oexB K (He.ga K "BadValue"),
  fun K => decide (PySem.W.findIn K (.ref (He.ga K "BadValue")) "__init__" = some (some (.ref (He.ma K (He.ga K "BadValue") "__init__")))),
  fun K => decide (PySem.W.typeIn K (.ref (He.ma K (He.ga K "BadValue") "__init__")) = some (.type "function")),
  fun K => decide (PySem.W.findIn K (.ref (He.ga K "BadValue")) "parameter" = some none),
  fun K => decide (PySem.W.findIn K (.ref (He.ga K "BadValue")) "told" = some none),
  fun K => xfB K (He.ga K "BadValue"),
  fun K => excdB K (He.ga K "BadValue"),
  fun K => decide (PySem.W.exmOne K (.ref (He.ga K "BadValue")) (.ref (He.ga K "BadValue")) = some true),
  fun K => decide (PySem.W.kitOne K (.ref (He.ga K "BadValue")) (.type "ValueError") = some true),
  fun K => decide (PySem.W.kitOne K (.ref (He.ga K "BadValue")) (.ref (He.ga K "StoreError")) = some true),
  fun K => decide (PySem.W.kitOne K (.ref (He.ga K "BadValue")) (.ref (He.ga K "BadValue")) = some true),
  fun K => decide (PySem.W.kitOne K (.ref (He.ga K "BadValue")) (.ref (He.ga K "Unknown")) = some false),
  fun K => He.tupB K "SIZES" [.int 1, .int 2, .int 3, .int 4, .int 6, .int 8, .int 12, .int 16, .int 24, .int 32],
  fun K => He.tupB K "WIDTHS" [.int 16, .int 32, .int 64]]
def names : List Str := (["is_whole", "need", "need_whole", "is_width", "is_power", "need_align", "power_in", "need_shape", "slab_shape", "class_sizes", "class_align", "class_order", "has_slots", "class_of", "_law_draws", "_law_next_cell", "_law_mixed", "_law_take", "_law_among", "_law_between"] : List Str) ++ (["_law_number", "_law_alignment", "_law_power", "_law_up", "_law_long", "_law_not_integer", "_law_not_within", "_law_not_among", "_law_not_alignment", "_law_is_int", "_law_is_within", "_law_is_ints", "_law_same", "_law_class_sizes", "_law_class_ask", "_law_is_grain", "_law_two_fit", "_law_is_order", "_law_is_class", "_law_refusal"] : List Str) ++ (["_law_refuses", "StoreError", "BadValue", "Unknown", "WIDTHS", "MOST_PLACE", "MOST_ALIGN", "MOST_ORDER", "MOST_SLOT", "SIZES", "MOST_CLASS_ALIGN", "LEAST_SLOTS"] : List Str)
abbrev R : PySem.W.OpenRow := PySem.W.OpenLaw.row PySem.Challenge.rw_allgivenback_k26_classes
abbrev hk : PySem.W.Hook := hookY 6 fa fn (fun K => exs.all fun e => e K)
def ob (s : PySem.W.SharedT) : AlY := obsY 6 fa fn (fun K => exs.all fun e => e K) (HandSHeadRun.getT s)
theorem ob_eq (s : PySem.W.SharedT) : ob s = hk.obs s.abs := obsY_eq (HandSHeadRun.getT_eq s)
theorem run (w : World) : HandSHeadRun.RunEq R (PySem.W.view R.prog [58]) hk ob 4000 names w := by
  intro os
  kernel_rfl
theorem tx_of {K : PySem.W.Frag} {h : Heap} {mg : Str → Option Value} (X : K.In h) (G : h.Ns mainGlobals mg) (c : SaysY fa fn (fun K => exs.all fun e => e K) K) : Nonempty (Tx K mg) := by
  obtain ⟨fd_is_whole, F_is_whole⟩ := c.d.def_ 0 (d := dd_is_whole) rfl
  obtain ⟨fd_need, F_need⟩ := c.d.def_ 1 (d := dd_need) rfl
  obtain ⟨fd_need_whole, F_need_whole⟩ := c.d.def_ 2 (d := dd_need_whole) rfl
  obtain ⟨fd_is_width, F_is_width⟩ := c.d.def_ 3 (d := dd_is_width) rfl
  obtain ⟨fd_is_power, F_is_power⟩ := c.d.def_ 4 (d := dd_is_power) rfl
  obtain ⟨fd_need_align, F_need_align⟩ := c.d.def_ 5 (d := dd_need_align) rfl
  obtain ⟨fd_power_in, F_power_in⟩ := c.d.def_ 6 (d := dd_power_in) rfl
  obtain ⟨fd_need_shape, F_need_shape⟩ := c.d.def_ 7 (d := dd_need_shape) rfl
  obtain ⟨fd_slab_shape, F_slab_shape⟩ := c.d.def_ 8 (d := dd_slab_shape) rfl
  obtain ⟨fd_class_sizes, F_class_sizes⟩ := c.d.def_ 9 (d := dd_class_sizes) rfl
  obtain ⟨fd_class_align, F_class_align⟩ := c.d.def_ 10 (d := dd_class_align) rfl
  obtain ⟨fd_class_order, F_class_order⟩ := c.d.def_ 11 (d := dd_class_order) rfl
  obtain ⟨fd_has_slots, F_has_slots⟩ := c.d.def_ 12 (d := dd_has_slots) rfl
  obtain ⟨fd_class_of, F_class_of⟩ := c.d.def_ 13 (d := dd_class_of) rfl
  obtain ⟨fd_law_draws, F_law_draws⟩ := c.d.def_ 14 (d := dd_law_draws) rfl
  obtain ⟨fd_law_next_cell, F_law_next_cell⟩ := c.d.def_ 15 (d := dd_law_next_cell) rfl
  obtain ⟨fd_law_mixed, F_law_mixed⟩ := c.d.def_ 16 (d := dd_law_mixed) rfl
  obtain ⟨fd_law_take, F_law_take⟩ := c.d.def_ 17 (d := dd_law_take) rfl
  obtain ⟨fd_law_among, F_law_among⟩ := c.d.def_ 18 (d := dd_law_among) rfl
  obtain ⟨fd_law_between, F_law_between⟩ := c.d.def_ 19 (d := dd_law_between) rfl
  obtain ⟨fd_law_number, F_law_number⟩ := c.d.def_ 20 (d := dd_law_number) rfl
  obtain ⟨fd_law_alignment, F_law_alignment⟩ := c.d.def_ 21 (d := dd_law_alignment) rfl
  obtain ⟨fd_law_power, F_law_power⟩ := c.d.def_ 22 (d := dd_law_power) rfl
  obtain ⟨fd_law_up, F_law_up⟩ := c.d.def_ 23 (d := dd_law_up) rfl
  obtain ⟨fd_law_long, F_law_long⟩ := c.d.def_ 24 (d := dd_law_long) rfl
  obtain ⟨fd_law_not_integer, F_law_not_integer⟩ := c.d.def_ 25 (d := dd_law_not_integer) rfl
  obtain ⟨fd_law_not_within, F_law_not_within⟩ := c.d.def_ 26 (d := dd_law_not_within) rfl
  obtain ⟨fd_law_not_among, F_law_not_among⟩ := c.d.def_ 27 (d := dd_law_not_among) rfl
  obtain ⟨fd_law_not_alignment, F_law_not_alignment⟩ := c.d.def_ 28 (d := dd_law_not_alignment) rfl
  obtain ⟨fd_law_is_int, F_law_is_int⟩ := c.d.def_ 29 (d := dd_law_is_int) rfl
  obtain ⟨fd_law_is_within, F_law_is_within⟩ := c.d.def_ 30 (d := dd_law_is_within) rfl
  obtain ⟨fd_law_is_ints, F_law_is_ints⟩ := c.d.def_ 31 (d := dd_law_is_ints) rfl
  obtain ⟨fd_law_same, F_law_same⟩ := c.d.def_ 32 (d := dd_law_same) rfl
  obtain ⟨fd_law_class_sizes, F_law_class_sizes⟩ := c.d.def_ 33 (d := dd_law_class_sizes) rfl
  obtain ⟨fd_law_class_ask, F_law_class_ask⟩ := c.d.def_ 34 (d := dd_law_class_ask) rfl
  obtain ⟨fd_law_is_grain, F_law_is_grain⟩ := c.d.def_ 35 (d := dd_law_is_grain) rfl
  obtain ⟨fd_law_two_fit, F_law_two_fit⟩ := c.d.def_ 36 (d := dd_law_two_fit) rfl
  obtain ⟨fd_law_is_order, F_law_is_order⟩ := c.d.def_ 37 (d := dd_law_is_order) rfl
  obtain ⟨fd_law_is_class, F_law_is_class⟩ := c.d.def_ 38 (d := dd_law_is_class) rfl
  obtain ⟨fd_law_refusal, F_law_refusal⟩ := c.d.def_ 39 (d := dd_law_refusal) rfl
  obtain ⟨fd_law_refuses, F_law_refuses⟩ := c.d.def_ 40 (d := dd_law_refuses) rfl
  obtain ⟨fd_law, F_law⟩ := c.d.def_ 41 (d := dd_law) rfl
  obtain ⟨fd_BadValue, F_BadValue⟩ := c.d.def_ 42 (d := dd_BadValue) rfl
  exact ⟨{ fd_is_whole := fd_is_whole, F_is_whole := F_is_whole, g_is_whole := He.glo_ok X G (c.d.fact 0 (f := .glo "is_whole") rfl), fd_need := fd_need, F_need := F_need, g_need := He.glo_ok X G (c.d.fact 1 (f := .glo "need") rfl), fd_need_whole := fd_need_whole, F_need_whole := F_need_whole, g_need_whole := He.glo_ok X G (c.d.fact 2 (f := .glo "need_whole") rfl), fd_is_width := fd_is_width, F_is_width := F_is_width, g_is_width := He.glo_ok X G (c.d.fact 3 (f := .glo "is_width") rfl), fd_is_power := fd_is_power, F_is_power := F_is_power, g_is_power := He.glo_ok X G (c.d.fact 4 (f := .glo "is_power") rfl), fd_need_align := fd_need_align, F_need_align := F_need_align, g_need_align := He.glo_ok X G (c.d.fact 5 (f := .glo "need_align") rfl), fd_power_in := fd_power_in, F_power_in := F_power_in, g_power_in := He.glo_ok X G (c.d.fact 6 (f := .glo "power_in") rfl), fd_need_shape := fd_need_shape, F_need_shape := F_need_shape, g_need_shape := He.glo_ok X G (c.d.fact 7 (f := .glo "need_shape") rfl), fd_slab_shape := fd_slab_shape, F_slab_shape := F_slab_shape, g_slab_shape := He.glo_ok X G (c.d.fact 8 (f := .glo "slab_shape") rfl), fd_class_sizes := fd_class_sizes, F_class_sizes := F_class_sizes, g_class_sizes := He.glo_ok X G (c.d.fact 9 (f := .glo "class_sizes") rfl), fd_class_align := fd_class_align, F_class_align := F_class_align, g_class_align := He.glo_ok X G (c.d.fact 10 (f := .glo "class_align") rfl), fd_class_order := fd_class_order, F_class_order := F_class_order, g_class_order := He.glo_ok X G (c.d.fact 11 (f := .glo "class_order") rfl), fd_has_slots := fd_has_slots, F_has_slots := F_has_slots, g_has_slots := He.glo_ok X G (c.d.fact 12 (f := .glo "has_slots") rfl), fd_class_of := fd_class_of, F_class_of := F_class_of, g_class_of := He.glo_ok X G (c.d.fact 13 (f := .glo "class_of") rfl), fd_law_draws := fd_law_draws, F_law_draws := F_law_draws, g_law_draws := He.glo_ok X G (c.d.fact 14 (f := .glo "_law_draws") rfl), fd_law_next_cell := fd_law_next_cell, F_law_next_cell := F_law_next_cell, g_law_next_cell := He.glo_ok X G (c.d.fact 15 (f := .glo "_law_next_cell") rfl), fd_law_mixed := fd_law_mixed, F_law_mixed := F_law_mixed, g_law_mixed := He.glo_ok X G (c.d.fact 16 (f := .glo "_law_mixed") rfl), fd_law_take := fd_law_take, F_law_take := F_law_take, g_law_take := He.glo_ok X G (c.d.fact 17 (f := .glo "_law_take") rfl), fd_law_among := fd_law_among, F_law_among := F_law_among, g_law_among := He.glo_ok X G (c.d.fact 18 (f := .glo "_law_among") rfl), fd_law_between := fd_law_between, F_law_between := F_law_between, g_law_between := He.glo_ok X G (c.d.fact 19 (f := .glo "_law_between") rfl), fd_law_number := fd_law_number, F_law_number := F_law_number, g_law_number := He.glo_ok X G (c.d.fact 20 (f := .glo "_law_number") rfl), fd_law_alignment := fd_law_alignment, F_law_alignment := F_law_alignment, g_law_alignment := He.glo_ok X G (c.d.fact 21 (f := .glo "_law_alignment") rfl), fd_law_power := fd_law_power, F_law_power := F_law_power, g_law_power := He.glo_ok X G (c.d.fact 22 (f := .glo "_law_power") rfl), fd_law_up := fd_law_up, F_law_up := F_law_up, g_law_up := He.glo_ok X G (c.d.fact 23 (f := .glo "_law_up") rfl), fd_law_long := fd_law_long, F_law_long := F_law_long, g_law_long := He.glo_ok X G (c.d.fact 24 (f := .glo "_law_long") rfl), fd_law_not_integer := fd_law_not_integer, F_law_not_integer := F_law_not_integer, g_law_not_integer := He.glo_ok X G (c.d.fact 25 (f := .glo "_law_not_integer") rfl), fd_law_not_within := fd_law_not_within, F_law_not_within := F_law_not_within, g_law_not_within := He.glo_ok X G (c.d.fact 26 (f := .glo "_law_not_within") rfl), fd_law_not_among := fd_law_not_among, F_law_not_among := F_law_not_among, g_law_not_among := He.glo_ok X G (c.d.fact 27 (f := .glo "_law_not_among") rfl), fd_law_not_alignment := fd_law_not_alignment, F_law_not_alignment := F_law_not_alignment, g_law_not_alignment := He.glo_ok X G (c.d.fact 28 (f := .glo "_law_not_alignment") rfl), fd_law_is_int := fd_law_is_int, F_law_is_int := F_law_is_int, g_law_is_int := He.glo_ok X G (c.d.fact 29 (f := .glo "_law_is_int") rfl), fd_law_is_within := fd_law_is_within, F_law_is_within := F_law_is_within, g_law_is_within := He.glo_ok X G (c.d.fact 30 (f := .glo "_law_is_within") rfl), fd_law_is_ints := fd_law_is_ints, F_law_is_ints := F_law_is_ints, g_law_is_ints := He.glo_ok X G (c.d.fact 31 (f := .glo "_law_is_ints") rfl), fd_law_same := fd_law_same, F_law_same := F_law_same, g_law_same := He.glo_ok X G (c.d.fact 32 (f := .glo "_law_same") rfl), fd_law_class_sizes := fd_law_class_sizes, F_law_class_sizes := F_law_class_sizes, g_law_class_sizes := He.glo_ok X G (c.d.fact 33 (f := .glo "_law_class_sizes") rfl), fd_law_class_ask := fd_law_class_ask, F_law_class_ask := F_law_class_ask, g_law_class_ask := He.glo_ok X G (c.d.fact 34 (f := .glo "_law_class_ask") rfl), fd_law_is_grain := fd_law_is_grain, F_law_is_grain := F_law_is_grain, g_law_is_grain := He.glo_ok X G (c.d.fact 35 (f := .glo "_law_is_grain") rfl), fd_law_two_fit := fd_law_two_fit, F_law_two_fit := F_law_two_fit, g_law_two_fit := He.glo_ok X G (c.d.fact 36 (f := .glo "_law_two_fit") rfl), fd_law_is_order := fd_law_is_order, F_law_is_order := F_law_is_order, g_law_is_order := He.glo_ok X G (c.d.fact 37 (f := .glo "_law_is_order") rfl), fd_law_is_class := fd_law_is_class, F_law_is_class := F_law_is_class, g_law_is_class := He.glo_ok X G (c.d.fact 38 (f := .glo "_law_is_class") rfl), fd_law_refusal := fd_law_refusal, F_law_refusal := F_law_refusal, g_law_refusal := He.glo_ok X G (c.d.fact 39 (f := .glo "_law_refusal") rfl), fd_law_refuses := fd_law_refuses, F_law_refuses := F_law_refuses, g_law_refuses := He.glo_ok X G (c.d.fact 40 (f := .glo "_law_refuses") rfl), fd_law := fd_law, F_law := F_law, g_law := He.glo_ok X G (c.d.fact 41 (f := .glo "law") rfl), c_LEAST_SLOTS := He.int_ok X G (c.d.fact 42 (f := .int "LEAST_SLOTS" 2) rfl), c_MOST_ALIGN := He.int_ok X G (c.d.fact 43 (f := .int "MOST_ALIGN" 1073741824) rfl), c_MOST_CLASS_ALIGN := He.int_ok X G (c.d.fact 44 (f := .int "MOST_CLASS_ALIGN" 4) rfl), c_MOST_ORDER := He.int_ok X G (c.d.fact 45 (f := .int "MOST_ORDER" 8) rfl), c_MOST_PLACE := He.int_ok X G (c.d.fact 46 (f := .int "MOST_PLACE" 1000000000) rfl), c_MOST_SLOT := He.int_ok X G (c.d.fact 47 (f := .int "MOST_SLOT" 4096) rfl), g_SIZES := He.glo_ok X G (c.d.fact 48 (f := .glo "SIZES") rfl), g_WIDTHS := He.glo_ok X G (c.d.fact 49 (f := .glo "WIDTHS") rfl), g_BadValue := He.glo_ok X G (c.d.fact 50 (f := .glo "BadValue") rfl), g_StoreError := He.glo_ok X G (c.d.fact 51 (f := .glo "StoreError") rfl), g_Unknown := He.glo_ok X G (c.d.fact 52 (f := .glo "Unknown") rfl), z_ValueError := He.free_ok X G (c.d.fact 53 (f := .free "ValueError") rfl), z_bool := He.free_ok X G (c.d.fact 54 (f := .free "bool") rfl), z_dict := He.free_ok X G (c.d.fact 55 (f := .free "dict") rfl), z_enumerate := He.free_ok X G (c.d.fact 56 (f := .free "enumerate") rfl), z_int := He.free_ok X G (c.d.fact 57 (f := .free "int") rfl), z_isinstance := He.free_ok X G (c.d.fact 58 (f := .free "isinstance") rfl), z_len := He.free_ok X G (c.d.fact 59 (f := .free "len") rfl), z_list := He.free_ok X G (c.d.fact 60 (f := .free "list") rfl), z_max := He.free_ok X G (c.d.fact 61 (f := .free "max") rfl), z_min := He.free_ok X G (c.d.fact 62 (f := .free "min") rfl), z_range := He.free_ok X G (c.d.fact 63 (f := .free "range") rfl), z_str := He.free_ok X G (c.d.fact 64 (f := .free "str") rfl), z_tuple := He.free_ok X G (c.d.fact 65 (f := .free "tuple") rfl), fd_BadValue := fd_BadValue, F_BadValue := F_BadValue, x_BadValue := oexB_ok (c.ex 0 (e := fun K => oexB K (He.ga K "BadValue")) rfl), i_BadValue := of_decide_eq_true (c.ex 1 (e := fun K => decide (PySem.W.findIn K (.ref (He.ga K "BadValue")) "__init__" = some (some (.ref (He.ma K (He.ga K "BadValue") "__init__"))))) rfl), t_BadValue := of_decide_eq_true (c.ex 2 (e := fun K => decide (PySem.W.typeIn K (.ref (He.ma K (He.ga K "BadValue") "__init__")) = some (.type "function"))) rfl), n_BadValue_parameter := of_decide_eq_true (c.ex 3 (e := fun K => decide (PySem.W.findIn K (.ref (He.ga K "BadValue")) "parameter" = some none)) rfl), n_BadValue_told := of_decide_eq_true (c.ex 4 (e := fun K => decide (PySem.W.findIn K (.ref (He.ga K "BadValue")) "told" = some none)) rfl), f_BadValue := xfB_ok (c.ex 5 (e := fun K => xfB K (He.ga K "BadValue")) rfl), d_BadValue := excdB_ok (c.ex 6 (e := fun K => excdB K (He.ga K "BadValue")) rfl), m_BadValue := of_decide_eq_true (c.ex 7 (e := fun K => decide (PySem.W.exmOne K (.ref (He.ga K "BadValue")) (.ref (He.ga K "BadValue")) = some true)) rfl), k_ValueError := of_decide_eq_true (c.ex 8 (e := fun K => decide (PySem.W.kitOne K (.ref (He.ga K "BadValue")) (.type "ValueError") = some true)) rfl), k_StoreError := of_decide_eq_true (c.ex 9 (e := fun K => decide (PySem.W.kitOne K (.ref (He.ga K "BadValue")) (.ref (He.ga K "StoreError")) = some true)) rfl), k_BadValue := of_decide_eq_true (c.ex 10 (e := fun K => decide (PySem.W.kitOne K (.ref (He.ga K "BadValue")) (.ref (He.ga K "BadValue")) = some true)) rfl), k_Unknown := of_decide_eq_true (c.ex 11 (e := fun K => decide (PySem.W.kitOne K (.ref (He.ga K "BadValue")) (.ref (He.ga K "Unknown")) = some false)) rfl), w_SIZES := fun H => He.tupB_ok (c.ex 12 (e := fun K => He.tupB K "SIZES" [.int 1, .int 2, .int 3, .int 4, .int 6, .int 8, .int 12, .int 16, .int 24, .int 32]) rfl) H, w_WIDTHS := fun H => He.tupB_ok (c.ex 13 (e := fun K => He.tupB K "WIDTHS" [.int 16, .int 32, .int 64]) rfl) H }⟩
theorem facts {P : Program} {w : World} {K : PySem.W.Frag} {h : Heap} {mg : Str → Option Value} {f : Addr} (X : K.In h) (G : h.Ns mainGlobals mg) (hfa : mg ("law" : Str) = some (.ref f)) (c : SaysY fa fn (fun K => exs.all fun e => e K) K) :
    ∃ fd : FuncData, (∀ (s : Shared) (v : Value), BindsTo s fd ⟨[v], []⟩ [("_law_script", v)]) ∧ ∀ base : Heap, K.In base → base.Ns mainGlobals mg → FnOk P w K mg base CX0 13 f fd ["_law_script"] (sp_law K) := by
  obtain ⟨T⟩ := tx_of X G c
  have e := hfa.symm.trans T.g_law
  cases e
  have b := FunD.bindsA (ps := ["_law_script"]) T.F_law fun _ _ _ _ _ _ us hl => match us, hl with | [_], _ => rfl
  exact ⟨T.fd_law, fun s v => b s [v] rfl, fun base _ _ => ok_law T⟩
end K26
open PySem PySem.W PySem.Calls PyProof.Rows
set_option maxHeartbeats 0 in
theorem PySem.Challenge.cw_allgivenback_k26_classes_holds : PySem.Challenge.rw_allgivenback_k26_classes.Holds := by
  w_on; o_law
  refine HandSHeadRun.head_any (r := OpenLaw.row PySem.Challenge.rw_allgivenback_k26_classes) (q := view (OpenLaw.row PySem.Challenge.rw_allgivenback_k26_classes).prog [58]) (H := K26.hk) (ob := K26.ob) (M := 4000) (loose := K26.names) (d := HandSHeadRun.topDef (OpenLaw.row PySem.Challenge.rw_allgivenback_k26_classes).prog 58) (kwd := []) K26.ob_eq
    (by kernel_rfl) (fun s => by kernel_rfl) K26.run (by kernel_rfl) (by kernel_rfl) (by kernel_rfl) (by rfl) (by first | assumption | decide +kernel) (by decide +kernel) ⟨rfl, rfl, rfl, rfl, rfl, by decide +kernel⟩ ?hw ?hc
  case hw => w_witness2
  case hc =>
    refine L2.walk_ofE (l := PySem.Challenge.rw_allgivenback_k26_classes) (n := 63) (k := 13) (x := "_law_script") (CX := L2.CX0) rfl (by decide) (by kernel_rfl) ⟨rfl, by decide, by decide⟩ ?F (fun _ _ _ _ z => z)
    intro w mg fa h Y G hmg0
    obtain ⟨K, KX, c⟩ := Y
    have hmg : mg ("law" : PySem.Str) = some (.ref fa) := by
      have e : (HandSHeadRun.topDef (OpenLaw.row PySem.Challenge.rw_allgivenback_k26_classes).prog 58).name = ("law" : PySem.Str) := by kernel_rfl
      rw [← e]
      exact hmg0
    obtain ⟨fd, hb, hF⟩ := K26.facts (P := (PySem.Challenge.rw_allgivenback_k26_classes).prog) (w := w) KX G hmg c
    exact ⟨K, fd, K26.sp_law K, KX, hb, fun H a ns hl _ hS => ⟨a, ns, rfl, hS, Nat.le_trans hl (by decide), fun _ => rfl⟩, hF⟩

