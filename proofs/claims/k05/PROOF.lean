import PyProof.Rows.All
import Wide.All
import OpenK.AllK
import Wide.FinOn
import HandS.ForExc
import HandS.Defaults
import HandS.Dict
import HandS.Comp
import HandS.Wide
import HandS.WideBits
import HandS.IsInst
import HandS.More
import HandS.WordsDict
import HandS.Text
import HandS.HeadHook1
import HandS.HeadHook2
import KE.KExcIs
import HandS.ExcInit
import HandS.ExcField
import HandS.HotCalls
import KE.KStateDown
import Lean
import HandS.Head0
import HandS.Head1
import HandS.Head2
import HandS.HeadEnd
import HandS.Iter
import HandS.Conv
import HandS.Property
import HandS.MakeKwOnly
import HandS.Style
import HandS.DictComp
import HandS.SetFor
import HandS.SortInts
import HandS.Strs
import HandS.TupMul
import KE.SortData
import HandS.TupAny
import HandS.Steps
import HandS.ExcInitHot
import HandS.ExcCtx
import KE.GoesZip
import KE.GoesMore
import HandS.Zip
import KE.KRevSl
import HandS.TryMany
import HandS.TryOnly
import HandS.CallSlots
import HandS.Codes
import HandS.OwnIter
import OpenK.KMeth
import OpenK.KOps
import HandS.IterVal
import PyProof.Rows.TupMore
import PyProof.InstNe
import KE.DataMinMax
import PyProof.Claim2Refuses
import PySem.Challenge.RW_allgivenback_k05_starts
set_option Elab.async false
set_option linter.all false
set_option maxRecDepth 100000
set_option maxHeartbeats 4000000
namespace LL
open PySem PySem.Spec PyProof.Rows L2
section
variable {CX : CXT} {P : Program} {w : World} {K : PySem.W.Frag} {mg : Str → Option Value} {base : Heap} {N : List Str} {q : Str} {sc : Scope} {f : Addr} {cd : Value} {A : Around} {outer : List Env} {s : Shared} {H : Hp} {E : XK}
theorem cxK0 : (cxOf CX P w K mg base N q sc f cd A outer s H E).nox.K = K := rfl
theorem cxK1 : (cxOf CX P w K mg base N q sc f cd A outer s H E).K = K := rfl
end
theorem dec_eq {p : Prop} [Decidable p] : (decide p = true) = p := by simp
theorem bl_inj {a b : Bool} : (V.bl a = V.bl b) = (a = b) := by simp
theorem if_dec {p A B : Prop} [Decidable p] : (if decide p = true then A else B) = (if p then A else B) := by by_cases h : p <;> simp [h]
/-- what is told of a value that is written next to ∃ -/
theorem ex_eq {α : Sort _} {p : α → Prop} {a : α} : (∃ x, a = x ∧ p x) = p a := by simp
theorem ex_eq' {α : Sort _} {p : α → Prop} {a : α} : (∃ x, x = a ∧ p x) = p a := by simp

/-! ### heaps: all but s is kept -/
def Kp (s : Addr) (H H' : Hp) : Prop := ∀ b o, b ≠ s → H b = some o → H' b = some o
theorem Kp.refl {s : Addr} {H : Hp} : Kp s H H := fun _ _ _ h => h
theorem Kp.trans {s : Addr} {H H1 H2 : Hp} (a : Kp s H H1) (b : Kp s H1 H2) : Kp s H H2 := fun c o n h => b c o n (a c o n h)
theorem Kp.same {s : Addr} {H H' : Hp} (h : Same H H') : Kp s H H' := fun b o _ e => h b o e
theorem Kp.new {s : Addr} {H H1 : Hp} {p : Addr} {o : HO} (a : Kp s H H1) (n : H1 p = none) : Kp s H (upd H1 p o) := fun b u hb e => by
  have e1 := a b u hb e
  rw [upd_ne (ne_of_none e1 n)]
  exact e1
theorem Kp.at_ {s : Addr} {H H1 : Hp} {o : HO} (a : Kp s H H1) : Kp s H (upd H1 s o) := fun b u hb e => by
  rw [upd_ne hb]
  exact a b u hb e
/-- a thing that was not there at the start is changed -/
theorem Kp.own {s : Addr} {H H1 : Hp} {p : Addr} {o : HO} (a : Kp s H H1) (n : H p = none) : Kp s H (upd H1 p o) := fun b u hb e => by
  rw [upd_ne (ne_of_none e n)]
  exact a b u hb e
theorem Same.new {H H1 : Hp} {p : Addr} {o : HO} (a : Same H H1) (n : H1 p = none) : Same H (upd H1 p o) := fun b u e => by
  have e1 := a b u e
  rw [upd_ne (ne_of_none e1 n)]
  exact e1
theorem Same.own {H H1 : Hp} {p : Addr} {o : HO} (a : Same H H1) (n : H p = none) : Same H (upd H1 p o) := fun b u e => by
  rw [upd_ne (ne_of_none e n)]
  exact a b u e
theorem Kp.free {s : Addr} {H H' : Hp} (a : Kp s H H') {p : Addr} (hp : p ≠ s) (n : H' p = none) : H p = none := by
  cases e : H p with
  | none => rfl
  | some o =>
    rw [a p o hp e] at n
    cases n

/-! ### the draws -/
/-- the five numbers of the draws' state -/
def StAt (s : Addr) (H : Hp) : Prop := ∃ i v k t g : Int, 0 ≤ i ∧ H s = some (.lst [.int i, .int v, .int k, .int t, .int g])
structure Drw (d s : Addr) (H : Hp) : Prop where
  cs : ∃ c, H d = some (.lst [.ref c, .ref s]) ∧ c ≠ s ∧ ∃ ns : List Int, H c = some (.lst (ns.map V.int))
  st : StAt s H
  ds : d ≠ s
theorem Drw.kp {d s : Addr} {H H' : Hp} (D : Drw d s H) (k : Kp s H H') (st : StAt s H') : Drw d s H' := by
  obtain ⟨c, h1, h2, ns, h3⟩ := D.cs
  exact ⟨⟨c, k _ _ D.ds h1, h2, ns, k _ _ h2 h3⟩, st, D.ds⟩
/-- what a def that draws leaves: the draws are drawn on, all else is kept -/
structure Aft (d s : Addr) (H H' : Hp) : Prop where
  kp : Kp s H H'
  dr : Drw d s H'
theorem Aft.trans {d s : Addr} {H H1 H2 : Hp} (a : Aft d s H H1) (b : Aft d s H1 H2) : Aft d s H H2 := ⟨a.kp.trans b.kp, b.dr⟩
theorem Aft.refl {d s : Addr} {H : Hp} (D : Drw d s H) : Aft d s H H := ⟨.refl, D⟩
theorem Drw.same {d s : Addr} {H H' : Hp} (D : Drw d s H) (k : Same H H') : Drw d s H' := by
  obtain ⟨i, v, kk, t, g, h0, h1⟩ := D.st
  exact D.kp (.same k) ⟨i, v, kk, t, g, h0, k _ _ h1⟩
theorem Aft.new {d s : Addr} {H H1 : Hp} {p : Addr} {o : HO} (a : Aft d s H H1) (n : H1 p = none) : Aft d s H (upd H1 p o) :=
  ⟨a.kp.new n, a.dr.same (Same.new (Same.refl _) n)⟩

/-! ### small readings -/
theorem use_ixL {K : PySem.W.Frag} {p : Addr} {xs : List V} {i : Int} {v : V} {H : Hp} {Q : VK} (h : H p = some (.lst xs)) (e : atI xs i = some v) (q : Q v H) : rIxL K (.ref p) (.int i) H Q := ⟨p, xs, i, v, rfl, rfl, SqL.of h, e, q⟩
theorem use_ixT {K : PySem.W.Frag} {p : Addr} {xs : List V} {i : Int} {v : V} {H : Hp} {Q : VK} (h : H p = some (.tup xs)) (e : atI xs i = some v) (q : Q v H) : rIxT K (.ref p) (.int i) H Q := ⟨p, xs, i, v, rfl, rfl, SqT.of h, e, q⟩
theorem use_setL {p : Addr} {xs : List V} {k : Int} {j : Nat} {v : V} {H : Hp} {Q : Hp → Prop} (h : H p = some (.lst xs)) (e : ixN xs.length k = some j) (q : Q (upd H p (.lst (xs.set j v)))) : rSetL (.ref p) (.int k) v H Q := ⟨p, xs, k, j, rfl, rfl, h, e, q⟩
theorem Aft.st {d s : Addr} {H : Hp} (D : Drw d s H) {i v k t g : Int} (h0 : 0 ≤ i) : Aft d s H (upd H s (.lst [.int i, .int v, .int k, .int t, .int g])) :=
  have k1 : Kp s H (upd H s (.lst [.int i, .int v, .int k, .int t, .int g])) := Kp.refl.at_
  ⟨k1, D.kp k1 ⟨i, v, k, t, g, h0, upd_same⟩⟩
theorem Aft.st2 {d s : Addr} {H H1 : Hp} (a : Aft d s H H1) {i v k t g : Int} (h0 : 0 ≤ i) : Aft d s H (upd H1 s (.lst [.int i, .int v, .int k, .int t, .int g])) := a.trans (Aft.st a.dr h0)
theorem atI_cons0 {α : Type} {x : α} {xs : List α} : atI (x :: xs) 0 = some x := atI_nat (j := 0) rfl
theorem atI_int {xs : List Int} {i : Int} (h0 : 0 ≤ i) (h : i < (xs.map V.int).length) : ∃ n, atI (xs.map V.int) i = some (V.int n) := by
  obtain ⟨j, rfl⟩ := Int.eq_ofNat_of_zero_le h0
  have hj : j < (xs.map V.int).length := by omega
  have hj2 : j < xs.length := by rw [List.length_map] at hj; exact hj
  refine ⟨xs[j], atI_nat ?_⟩
  rw [List.getElem?_map, List.getElem?_eq_getElem hj2]
  rfl
/-! ### calls of built-ins, by ints and lists alone -/
section
variable {X : Cx}
def rInt1 : List V → Hp → VK → Prop := fun xs H Q => ∃ i, xs = [.int i] ∧ Q (.int i) H
theorem call_intI : CallR X (.type "int") rInt1 := fun pins s σ H xs us Q I r h => call_int1 pins s σ H xs us Q I r (.inl h)
def rLenL : List V → Hp → VK → Prop := fun vs H Q => ∃ p xs, vs = [.ref p] ∧ H p = some (.lst xs) ∧ Q (.int xs.length) H
theorem call_lenL : CallR X (.builtin "len") rLenL := fun pins s σ H vs us Q I r h => by
  obtain ⟨p, xs, rfl, e, q⟩ := h
  exact call_len_seq pins s σ H _ us Q I r ⟨p, xs, rfl, .inl (SqL.of e), q⟩
def rLenT : List V → Hp → VK → Prop := fun vs H Q => ∃ p xs, vs = [.ref p] ∧ H p = some (.tup xs) ∧ Q (.int xs.length) H
theorem call_lenT : CallR X (.builtin "len") rLenT := fun pins s σ H vs us Q I r h => by
  obtain ⟨p, xs, rfl, e, q⟩ := h
  exact call_len_seq pins s σ H _ us Q I r ⟨p, xs, rfl, .inr (SqT.of e), q⟩
end
theorem use_lenL {p : Addr} {xs : List V} {H : Hp} {Q : VK} (h : H p = some (.lst xs)) (q : Q (.int xs.length) H) : rLenL [.ref p] H Q := ⟨p, xs, rfl, h, q⟩
theorem use_lenT {p : Addr} {xs : List V} {H : Hp} {Q : VK} (h : H p = some (.tup xs)) (q : Q (.int xs.length) H) : rLenT [.ref p] H Q := ⟨p, xs, rfl, h, q⟩
/-! ### loops -/
theorem use_forL {K : PySem.W.Frag} {te : TE} {a : Addr} {xs : List V} {g : TG} {tb : TS} {D : Ends} {σ : L2.St} {H : Hp} (ht : ∀ Q : VK, Q (.ref a) H → te σ H Q) (Pv : Nat → L2.St → Hp → Prop) (h0 : Pv 0 σ H) (hl : ∀ i σ H, i ≤ xs.length → Pv i σ H → SqL K H a xs)
    (hs : ∀ i x σ H, xs[i]? = some x → Pv i σ H → g x σ H fun σ2 H2 => tb { D with nx := Pv (i + 1), ct := Pv (i + 1), bk := D.nx } σ2 H2) (hd : ∀ σ H, Pv xs.length σ H → D.nx σ H) : tFor (iList K te) g tb D σ H :=
  ht _ ⟨a, rfl, ⟨xs, hl 0 σ H (Nat.zero_le _) h0⟩, for_list Pv h0 hl hs hd⟩
theorem use_forR {te : TE} {j : Int} {g : TG} {tb : TS} {D : Ends} {σ : L2.St} {H : Hp} (ht : ∀ Q : VK, Q (.int j) H → te σ H Q) (h1 : j < 2 ^ 62) (h2 : -(2 ^ 62) ≤ j) (Pv : Nat → L2.St → Hp → Prop) (h0 : Pv 0 σ H)
    (hs : ∀ i σ H, i < j.toNat → Pv i σ H → g (.int (0 + (i : Int))) σ H fun σ2 H2 => tb { D with nx := Pv (i + 1), ct := Pv (i + 1), bk := D.nx } σ2 H2) (hd : ∀ σ H, Pv j.toNat σ H → D.nx σ H) : tFor (iRng1 (tCons te tNil)) g tb D σ H :=
  ht _ ⟨j, rfl, h2, h1, for_range Pv h0 hs hd⟩
theorem use_while {c : TT} {tb : TS} {D : Ends} {σ : L2.St} {H : Hp} (Pv : Nat → L2.St → Hp → Prop) (m0 : Nat) (h0 : Pv m0 σ H)
    (hs : ∀ m σ H, Pv m σ H → c σ H fun b H1 => if b = true then ∃ N : L2.St → Hp → Prop, (∀ σ' H', N σ' H' → ∃ m', m' < m ∧ Pv m' σ' H') ∧ tb { D with nx := N, ct := N, bk := D.nx } σ H1 else D.nx σ H1) : tWhile c tb D σ H := ⟨Pv, ⟨m0, h0⟩, hs⟩
theorem use_forRX {te : TE} {g : TG} {tb : TS} {D : Ends} {σ : L2.St} {H : Hp} {R : Int → Hp → Prop} (ht : ∀ Q : VK, (∀ j H', R j H' → Q (.int j) H') → te σ H Q) (hb : ∀ j H', R j H' → -(2 ^ 62) ≤ j ∧ j < 2 ^ 62) (Pv : Int → Nat → L2.St → Hp → Prop) (h0 : ∀ j H', R j H' → Pv j 0 σ H')
    (hs : ∀ j i σ H, i < j.toNat → Pv j i σ H → g (.int (0 + (i : Int))) σ H fun σ2 H2 => tb { D with nx := Pv j (i + 1), ct := Pv j (i + 1), bk := D.nx } σ2 H2) (hd : ∀ j σ H, Pv j j.toNat σ H → D.nx σ H) : tFor (iRng1 (tCons te tNil)) g tb D σ H :=
  ht _ fun j H' r => ⟨j, rfl, (hb j H' r).1, (hb j H' r).2, for_range (Pv j) (h0 j H' r) (hs j) (hd j)⟩
theorem use_forLX {K : PySem.W.Frag} {te : TE} {g : TG} {tb : TS} {D : Ends} {σ : L2.St} {H : Hp} {R : Addr → List V → Hp → Prop} (ht : ∀ Q : VK, (∀ a xs H', R a xs H' → Q (.ref a) H') → te σ H Q) (Pv : Addr → List V → Nat → L2.St → Hp → Prop) (h0 : ∀ a xs H', R a xs H' → Pv a xs 0 σ H')
    (hl : ∀ a xs i σ H, i ≤ xs.length → Pv a xs i σ H → SqL K H a xs)
    (hs : ∀ a xs i x σ H, xs[i]? = some x → Pv a xs i σ H → g x σ H fun σ2 H2 => tb { D with nx := Pv a xs (i + 1), ct := Pv a xs (i + 1), bk := D.nx } σ2 H2) (hd : ∀ a xs σ H, Pv a xs xs.length σ H → D.nx σ H) : tFor (iList K te) g tb D σ H :=
  ht _ fun a xs H' r => ⟨a, rfl, ⟨xs, hl a xs 0 σ H' (Nat.zero_le _) (h0 a xs H' r)⟩, for_list (Pv a xs) (h0 a xs H' r) (hl a xs) (hs a xs) (hd a xs)⟩
/-! ### plain data -/
inductive T where
  | non | bl (b : Bool) | int (i : Int) | str (x : Str) | lst (ts : List T) | tup (ts : List T) | dic (t : T)
/-! v is the data t, every object of which is at an address of F -/
mutual
def Dt (F : Addr → Prop) (H : Hp) : V → T → Prop
  | v, .non => v = .non
  | v, .bl b => v = .bl b
  | v, .int i => v = .int i
  | v, .str x => v = .str x
  | v, .lst ts => ∃ a xs, v = .ref a ∧ F a ∧ H a = some (.lst xs) ∧ DtL F H xs ts ∧ ts.length ≤ 100000
  | v, .tup ts => ∃ a xs, v = .ref a ∧ F a ∧ H a = some (.tup xs) ∧ DtL F H xs ts ∧ ts.length ≤ 100000
  | v, .dic t => ∃ a x, v = .ref a ∧ F a ∧ H a = some (.dK [(Sum.inr "a", x)]) ∧ Dt F H x t
def DtL (F : Addr → Prop) (H : Hp) : List V → List T → Prop
  | xs, [] => xs = []
  | xs, t :: ts => ∃ v vs, xs = v :: vs ∧ Dt F H v t ∧ DtL F H vs ts
end
mutual
def dep : T → Nat
  | .lst ts => depL ts + 1
  | .tup ts => depL ts + 1
  | .dic t => dep t + 1
  | _ => 0
def depL : List T → Nat
  | [] => 0
  | t :: ts => max (dep t) (depL ts)
end
section
variable {F G : Addr → Prop} {H H' : Hp}
mutual
theorem Dt.imp (hF : ∀ a o, F a → H a = some o → G a ∧ H' a = some o) : ∀ {v : V} (t : T), Dt F H v t → Dt G H' v t
  | _, .non, h => h
  | _, .bl _, h => h
  | _, .int _, h => h
  | _, .str _, h => h
  | _, .lst ts, h => by
    obtain ⟨a, xs, e, f, ha, hx, hz⟩ := h
    exact ⟨a, xs, e, (hF a _ f ha).1, (hF a _ f ha).2, DtL.imp hF ts hx, hz⟩
  | _, .tup ts, h => by
    obtain ⟨a, xs, e, f, ha, hx, hz⟩ := h
    exact ⟨a, xs, e, (hF a _ f ha).1, (hF a _ f ha).2, DtL.imp hF ts hx, hz⟩
  | _, .dic t, h => by
    obtain ⟨a, x, e, f, ha, hx⟩ := h
    exact ⟨a, x, e, (hF a _ f ha).1, (hF a _ f ha).2, Dt.imp hF t hx⟩
theorem DtL.imp (hF : ∀ a o, F a → H a = some o → G a ∧ H' a = some o) : ∀ {xs : List V} (ts : List T), DtL F H xs ts → DtL G H' xs ts
  | _, [], h => h
  | _, t :: ts, h => by
    obtain ⟨v, vs, e, h1, h2⟩ := h
    exact ⟨v, vs, e, Dt.imp hF t h1, DtL.imp hF ts h2⟩
end
theorem Dt.same {v : V} {t : T} (h : Dt F H v t) (k : Same H H') : Dt F H' v t := Dt.imp (fun a o f e => ⟨f, k a o e⟩) t h
theorem DtL.same {v : List V} {t : List T} (h : DtL F H v t) (k : Same H H') : DtL F H' v t := DtL.imp (fun a o f e => ⟨f, k a o e⟩) t h
theorem Dt.kp {s : Addr} {v : V} {t : T} (h : Dt F H v t) (hs : ∀ a, F a → a ≠ s) (k : Kp s H H') : Dt F H' v t := Dt.imp (fun a o f e => ⟨f, k a o (hs a f) e⟩) t h
theorem DtL.kp {s : Addr} {v : List V} {t : List T} (h : DtL F H v t) (hs : ∀ a, F a → a ≠ s) (k : Kp s H H') : DtL F H' v t := DtL.imp (fun a o f e => ⟨f, k a o (hs a f) e⟩) t h
theorem Dt.to {v : V} {t : T} (h : Dt F H v t) (hs : ∀ a, F a → G a) : Dt G H v t := Dt.imp (fun a o f e => ⟨hs a f, e⟩) t h
theorem DtL.to {v : List V} {t : List T} (h : DtL F H v t) (hs : ∀ a, F a → G a) : DtL G H v t := DtL.imp (fun a o f e => ⟨hs a f, e⟩) t h
theorem DtL.len : ∀ {xs : List V} (ts : List T), DtL F H xs ts → xs.length = ts.length
  | _, [], h => by rw [show _ = [] from h]; rfl
  | _, t :: ts, h => by
    obtain ⟨v, vs, rfl, h1, h2⟩ := h
    rw [List.length_cons, List.length_cons, DtL.len ts h2]
theorem DtL.get : ∀ {xs : List V} (ts : List T) {i : Nat} {x : V}, DtL F H xs ts → xs[i]? = some x → ∃ t, ts[i]? = some t ∧ Dt F H x t
  | _, [], _, _, h, e => by rw [show _ = [] from h] at e; cases e
  | _, t :: ts, 0, x, h, e => by
    obtain ⟨v, vs, rfl, h1, h2⟩ := h
    cases e
    exact ⟨t, rfl, h1⟩
  | _, t :: ts, i + 1, x, h, e => by
    obtain ⟨v, vs, rfl, h1, h2⟩ := h
    exact DtL.get ts (i := i) h2 e
theorem DtL.get' {xs : List V} {ts : List T} {i : Nat} {t : T} (h : DtL F H xs ts) (e : ts[i]? = some t) : ∃ x, xs[i]? = some x ∧ Dt F H x t := by
  have hi := (List.getElem?_eq_some_iff.mp e).1
  have hx : i < xs.length := by rw [DtL.len ts h]; exact hi
  obtain ⟨t', e', d⟩ := DtL.get ts h (List.getElem?_eq_getElem hx)
  rw [e] at e'
  cases e'
  exact ⟨_, List.getElem?_eq_getElem hx, d⟩
theorem DtL.app : ∀ {xs ys : List V} (ts : List T) {us : List T}, DtL F H xs ts → DtL F H ys us → DtL F H (xs ++ ys) (ts ++ us)
  | _, _, [], _, h, k => by rw [show _ = [] from h]; exact k
  | _, _, t :: ts, _, h, k => by
    obtain ⟨v, vs, rfl, h1, h2⟩ := h
    exact ⟨v, vs ++ _, rfl, h1, DtL.app ts h2 k⟩
theorem DtL.one {v : V} {t : T} (h : Dt F H v t) : DtL F H [v] [t] := ⟨v, [], rfl, h, rfl⟩
theorem DtL.cons {v : V} {t : T} {vs : List V} {ts : List T} (h : Dt F H v t) (k : DtL F H vs ts) : DtL F H (v :: vs) (t :: ts) := ⟨v, vs, rfl, h, k⟩
theorem depL_mem : ∀ {ts : List T} {i : Nat} {t : T}, ts[i]? = some t → dep t ≤ depL ts
  | [], _, _, e => by cases e
  | u :: ts, 0, t, e => by
    cases e
    exact Nat.le_max_left _ _
  | u :: ts, i + 1, t, e => Nat.le_trans (depL_mem (ts := ts) (i := i) e) (Nat.le_max_right _ _)
end
/-! ### what kind of data it is -/
def tyN : T → String
  | .non => "NoneType"
  | .bl _ => "bool"
  | .int _ => "int"
  | .str _ => "str"
  | .lst _ => "list"
  | .tup _ => "tuple"
  | .dic _ => "dict"
theorem tyx {K : PySem.W.Frag} {F : Addr → Prop} {H : Hp} {v : V} {t : T} (h : Dt F H v t) : TyX K H v (.type (tyN t)) := by
  cases t with
  | non => rw [show v = _ from h]; exact .base .non
  | bl b => rw [show v = _ from h]; exact .base (.bl b)
  | int i => rw [show v = _ from h]; exact .base (.int i)
  | str x => rw [show v = _ from h]; exact .base (.str x)
  | lst ts =>
    obtain ⟨a, xs, rfl, _, e, _⟩ := h
    exact .base (.lst e)
  | tup ts =>
    obtain ⟨a, xs, rfl, _, e, _⟩ := h
    exact .base (.tup e)
  | dic t =>
    obtain ⟨a, x, rfl, _, e, _⟩ := h
    exact .base (.dK e)
theorem use_isi {K : PySem.W.Frag} {F : Addr → Prop} {H : Hp} {v : V} {t : T} {n : String} {b : Bool} {Q : VK} (h : Dt F H v t) (k : kitB (tyN t) n = some b) (q : Q (.bl b) H) : rIsi K [v, .ty n] H Q :=
  ⟨v, .ty n, _, _, b, rfl, .ty n, tyx h, kit_ty k, q⟩
def isInt : T → Bool
  | .int _ => true
  | _ => false
def isBl : T → Bool
  | .bl _ => true
  | _ => false
def isStr : T → Bool
  | .str _ => true
  | _ => false
def isLst : T → Bool
  | .lst _ => true
  | _ => false
def isTup : T → Bool
  | .tup _ => true
  | _ => false
def isDic : T → Bool
  | .dic _ => true
  | _ => false
theorem kit_int (t : T) : kitB (tyN t) "int" = some (isInt t || isBl t) := by
  cases t <;> simp only [tyN, isInt, isBl, isStr, isLst, isTup, isDic] <;> decide +kernel
theorem kit_bool (t : T) : kitB (tyN t) "bool" = some (isBl t) := by
  cases t <;> simp only [tyN, isInt, isBl, isStr, isLst, isTup, isDic] <;> decide +kernel
theorem kit_str (t : T) : kitB (tyN t) "str" = some (isStr t) := by
  cases t <;> simp only [tyN, isInt, isBl, isStr, isLst, isTup, isDic] <;> decide +kernel
theorem kit_list (t : T) : kitB (tyN t) "list" = some (isLst t) := by
  cases t <;> simp only [tyN, isInt, isBl, isStr, isLst, isTup, isDic] <;> decide +kernel
theorem kit_tuple (t : T) : kitB (tyN t) "tuple" = some (isTup t) := by
  cases t <;> simp only [tyN, isInt, isBl, isStr, isLst, isTup, isDic] <;> decide +kernel
theorem kit_dict (t : T) : kitB (tyN t) "dict" = some (isDic t) := by
  cases t <;> simp only [tyN, isInt, isBl, isStr, isLst, isTup, isDic] <;> decide +kernel
section
variable {X : Cx}
/-- len of a list, a tuple, a dict -/
def rLenD : List V → Hp → VK → Prop := fun vs H Q => ∃ p kvs, vs = [.ref p] ∧ H p = some (.dK kvs) ∧ Q (.int kvs.length) H
def rLenA : List V → Hp → VK → Prop := fun vs H Q => rLenL vs H Q ∨ rLenT vs H Q ∨ rLenD vs H Q
theorem call_lenA : CallR X (.builtin "len") rLenA := fun pins s σ H vs us Q I r h => by
  rcases h with h | h | h
  · exact call_lenL pins s σ H vs us Q I r h
  · exact call_lenT pins s σ H vs us Q I r h
  · obtain ⟨p, kvs, rfl, e, q⟩ := h
    exact call_lenD pins s σ H _ us Q I r ⟨p, kvs, rfl, e, q⟩
/-- list(d), a dict -/
def rLstD : List V → Hp → VK → Prop := fun vs H Q => ∃ p kvs, vs = [.ref p] ∧ H p = some (.dK kvs) ∧ ∀ l, H l = none → Q (.ref l) (upd H l (.lst (kvs.map fun kv => kV kv.1)))
theorem call_lstD (hc : X.calm = true) : CallR X (.type "list") rLstD := fun pins s σ H vs us Q I r h => by
  obtain ⟨p, kvs, rfl, e, q⟩ := h
  exact call_listD hc pins s σ H _ us Q I r ⟨p, kvs, rfl, .inl e, q⟩
/-- tuple(list) -/
def rTupL : List V → Hp → VK → Prop := fun vs H Q => ∃ p ys, vs = [.ref p] ∧ H p = some (.lst ys) ∧ ∀ l, H l = none → Q (.ref l) (upd H l (.tup ys))
theorem call_tupL : CallR X (.type "tuple") rTupL := fun pins s σ H vs us Q I r h => by
  obtain ⟨p, ys, rfl, e, q⟩ := h
  exact call_tuple_of pins s σ H _ us Q I r ⟨p, ys, rfl, .inl ⟨SqL.of e, q⟩⟩
/-- xs[i], a list or a tuple -/
def rIxA (K : PySem.W.Frag) : R2 := fun x y H Q => rIxL K x y H Q ∨ rIxT K x y H Q
theorem ix_A : IxR X (rIxA X.K) := ix_list.or ix_tup
end
theorem use_pick {K : PySem.W.Frag} {p : Addr} {xs : List V} {i : Int} {H : Hp} {Q : VK} (h : H p = some (.lst xs)) (h0 : 0 ≤ i) (h1 : i < xs.length) (q : ∀ x ∈ xs, Q x H) : rIxL K (.ref p) (.int i) H Q := by
  obtain ⟨j, rfl⟩ := Int.eq_ofNat_of_zero_le h0
  have hj : j < xs.length := by omega
  exact use_ixL h (atI_nat (List.getElem?_eq_getElem hj)) (q _ (List.getElem_mem hj))
section
variable {X : Cx}
def rMx : List V → Hp → VK → Prop := fun vs H Q => ∃ i j, vs = [.int i, .int j] ∧ Q (.int (max i j)) H
def rMn : List V → Hp → VK → Prop := fun vs H Q => ∃ i j, vs = [.int i, .int j] ∧ Q (.int (min i j)) H
theorem call_mx (hc : X.calm = true) : CallR X (.builtin "max") rMx := fun pins s σ H vs us Q I r h => by
  obtain ⟨i, j, rfl, q⟩ := h
  refine call_max2 hc pins s σ H _ us Q I r ⟨i, j, rfl, ?_⟩
  have e : (if j > i then j else i) = max i j := by omega
  rw [e]
  exact q
theorem call_mn (hc : X.calm = true) : CallR X (.builtin "min") rMn := fun pins s σ H vs us Q I r h => by
  obtain ⟨i, j, rfl, q⟩ := h
  refine call_min2 hc pins s σ H _ us Q I r ⟨i, j, rfl, ?_⟩
  have e : (if j < i then j else i) = min i j := by omega
  rw [e]
  exact q
end
theorem freshS {s : Addr} {H : Hp} {o : HO} (h : H s = some o) : ∀ a, H a = none → a ≠ s := fun a e z => by
  rw [z, h] at e
  cases e
theorem StAt.ne {s : Addr} {H : Hp} (h : StAt s H) : ∀ a, H a = none → a ≠ s := by
  obtain ⟨_, _, _, _, _, _, e⟩ := h
  exact freshS e
theorem Drw.ne {d s : Addr} {H : Hp} (h : Drw d s H) : ∀ a, H a = none → a ≠ s := h.st.ne
theorem Aft.free {d s : Addr} {H H' : Hp} (a : Aft d s H H') {b : Addr} (n : H' b = none) : H b = none := a.kp.free (a.dr.ne b n) n
theorem use_forT {K : PySem.W.Frag} {te : TE} {a : Addr} {xs : List V} {g : TG} {tb : TS} {D : Ends} {σ : L2.St} {H : Hp} (ht : ∀ Q : VK, Q (.ref a) H → te σ H Q) (Pv : Nat → L2.St → Hp → Prop) (h0 : Pv 0 σ H) (hl : ∀ i σ H, i ≤ xs.length → Pv i σ H → SqT K H a xs)
    (hs : ∀ i x σ H, xs[i]? = some x → Pv i σ H → g x σ H fun σ2 H2 => tb { D with nx := Pv (i + 1), ct := Pv (i + 1), bk := D.nx } σ2 H2) (hd : ∀ σ H, Pv xs.length σ H → D.nx σ H) : tFor (iTup K te) g tb D σ H :=
  ht _ ⟨a, rfl, ⟨xs, hl 0 σ H (Nat.zero_le _) h0⟩, for_tup Pv h0 hl hs hd⟩
theorem scal_int {a b : Int} : (scal (V.int a) (V.int b) = true) = True := by simp [scal]
theorem scal_bl {a b : Bool} : (scal (V.bl a) (V.bl b) = true) = True := by simp [scal]
theorem scal_str {a b : Str} : (scal (V.str a) (V.str b) = true) = True := by simp [scal]
theorem scal_is {a : Int} {b : Str} : (scal (V.str b) (V.int a) = true) = True := by simp [scal]
theorem ty_list {K : PySem.W.Frag} {p : Addr} {xs : List V} {H : Hp} (h : H p = some (.lst xs)) : tyV K "list" (.ref p) H := Or.inl ⟨rfl, _, Or.inl (Or.inl h)⟩
theorem use_append {l : Addr} {xs : List V} {y : V} {H : Hp} {Q : VK} (h : H l = some (.lst xs)) (n : xs.length < sizeLine) (q : Q .non (upd H l (.lst (xs ++ [y])))) : rAppend (.ref l) [y] H Q := ⟨l, xs, y, rfl, rfl, h, n, q⟩
theorem small_sz {n : Nat} (h : n ≤ 200000) : n < sizeLine := Nat.lt_of_le_of_lt h (by decide)
/-- a list at D that is being made gets one more datum -/
theorem grow {G : Addr → Prop} {H H' H4 : Hp} {D : Addr} {acc : List V} {us : List T} {r : V} {t : T} (hD : H D = none) (s1 : Same H H') (s4 : Same H' H4) (hacc : DtL (fun a => H a = none ∧ a ≠ D) H' acc us) (hG : ∀ a, G a → H a = none ∧ a ≠ D) (dr : Dt G H4 r t) :
    Same H (upd H4 D (.lst (acc ++ [r]))) ∧ DtL (fun a => H a = none ∧ a ≠ D) (upd H4 D (.lst (acc ++ [r]))) (acc ++ [r]) (us ++ [t]) := by
  refine ⟨Same.own (s1.trans s4) hD, DtL.app _ (DtL.imp (fun a o fa ea => ⟨fa, ?_⟩) _ hacc) (.one (Dt.imp (fun a o fa ea => ⟨hG a fa, ?_⟩) _ dr))⟩
  · rw [upd_ne fa.2]
    exact s4 _ _ ea
  · rw [upd_ne (hG a fa).2]
    exact ea
theorem new_of {H H' : Hp} {D : Addr} {o : HO} (s1 : Same H H') (eD : H' D = some o) : ∀ a, H' a = none → H a = none ∧ a ≠ D := fun a n => ⟨s1.free n, fun z => by rw [z, eD] at n; cases n⟩
theorem take_one {α : Type} {l : List α} {i : Nat} {x : α} (h : l[i]? = some x) : l.take (i + 1) = l.take i ++ [x] := by
  rw [List.take_add_one, h]
  rfl
theorem use_lcR {te tel : TE} {g : TG} {vs : List Nat} {σ : L2.St} {H : Hp} {Q : VK} {R : Int → Hp → Prop} (ht : ∀ Q : VK, (∀ j H', R j H' → Q (.int j) H') → te σ H Q) (hb : ∀ j H', R j H' → -(2 ^ 62) ≤ j ∧ j < 2 ^ 62) (Pv : Int → Addr → Nat → Hp → Prop)
    (h0 : ∀ j H' D, R j H' → H' D = none → Pv j D 0 (upd H' D (.lst [])))
    (hs : ∀ j D i H', i < j.toNat → Pv j D i H' → g (.int (0 + (i : Int))) (wipe σ vs) H' fun σ2 H2 => wipe σ2 vs = wipe σ vs ∧ tYes σ2 H2 fun b H3 => if b = true then tel σ2 H3 fun y H4 => ∃ acc, H4 D = some (.lst acc) ∧ acc.length < sizeLine ∧ Pv j D (i + 1) (upd H4 D (.lst (acc ++ [y]))) else Pv j D (i + 1) H3)
    (hd : ∀ j D H', Pv j D j.toNat H' → Q (.ref D) H') : tLc (iRng1 (tCons te tNil)) g tYes tel vs σ H Q :=
  ht _ fun j H' r => ⟨j, rfl, (hb j H' r).1, (hb j H' r).2, fun D hD => lc_range (Pv j D) (h0 j H' D r hD) (hs j D) (hd j D)⟩
theorem Aft.own {d s : Addr} {H H4 : Hp} {D : Addr} {o : HO} (D0 : Drw d s H) (a : Aft d s H H4) (hD : H D = none) : Aft d s H (upd H4 D o) := by
  have k : Kp s H (upd H4 D o) := a.kp.own hD
  obtain ⟨i, v, kk, t, g, h0, e⟩ := a.dr.st
  exact ⟨k, D0.kp k ⟨i, v, kk, t, g, h0, by rw [upd_ne (D0.ne D hD).symm]; exact e⟩⟩
/-- a list at D that is being made while something is drawn gets one more datum -/
theorem growA {G : Addr → Prop} {d s : Addr} {H H' H4 : Hp} {D : Addr} {acc : List V} {us : List T} {r : V} {t : T} (D0 : Drw d s H) (hD : H D = none) (a1 : Aft d s H H') (a4 : Aft d s H' H4) (hacc : DtL (fun a => H a = none ∧ a ≠ D) H' acc us) (hG : ∀ a, G a → H a = none ∧ a ≠ D) (dr : Dt G H4 r t) :
    Aft d s H (upd H4 D (.lst (acc ++ [r]))) ∧ DtL (fun a => H a = none ∧ a ≠ D) (upd H4 D (.lst (acc ++ [r]))) (acc ++ [r]) (us ++ [t]) := by
  refine ⟨Aft.own D0 (a1.trans a4) hD, DtL.app _ (DtL.imp (fun a o fa ea => ⟨fa, ?_⟩) _ hacc) (.one (Dt.imp (fun a o fa ea => ⟨hG a fa, ?_⟩) _ dr))⟩
  · rw [upd_ne fa.2]
    exact a4.kp _ _ (D0.ne a fa.1) ea
  · rw [upd_ne (hG a fa).2]
    exact ea
theorem new_ofA {d s : Addr} {H H' : Hp} {D : Addr} {o : HO} (a : Aft d s H H') (eD : H' D = some o) : ∀ b, H' b = none → H b = none ∧ b ≠ D := fun b n => ⟨a.free n, fun z => by rw [z, eD] at n; cases n⟩
theorem depL_app : ∀ (ts us : List T), depL (ts ++ us) = max (depL ts) (depL us)
  | [], us => by simp [depL]
  | t :: ts, us => by
    show max (dep t) (depL (ts ++ us)) = max (max (dep t) (depL ts)) (depL us)
    rw [depL_app ts us]
    omega
end LL

namespace LL
open PySem PySem.Spec PyProof.Rows L2 L2H
/-! ### defs that are called within an except suite, on the exception that it holds -/
/-- a: the exception, D its class, dd its dict -/
structure FnZ (P : Program) (w : World) (K : PySem.W.Frag) (mg : Str → Option Value) (base : Heap) (k : Nat) (f : Addr) (fd : FuncData) (ps : List Str) (sp : Addr → Addr → Addr → Sp) : Prop where
  len : ∀ a D dd vs H Q E, sp a D dd vs H Q E → vs.length = ps.length
  run : ∀ (A : Around) (outer : List Env) (s : Shared) (H : Hp) (args : Args) (us : List Value) (vs : List V) (Q : VK) (E : XK) (p : Addr × Obj) (D dd : Addr),
    RoomH k A → Zc (.ref D) (some dd) p.2 → (∃ fs, p.2.data = .fields fs) → PinOk outer H s p → Env0 P w K mg base A outer s H → BindsTo s fd args (ps.zip us) → Vals vs us → sp p.1 D dd vs H Q E →
    codeAny (model P w) A (.call (.ref f) args) (CR CX0 outer P w H s Q E) s
section
variable {P : Program} {w : World} {K : PySem.W.Frag} {mg : Str → Option Value} {base : Heap} {k : Nat} {f : Addr} {fd : FuncData} {N ps : List Str} {sp : Addr → Addr → Addr → Sp} {x qual : Str} {pa : Arguments} {bd : List Stmt} {sc : Scope} {kws : List (Str × V)}
theorem okZ (F : FunD K x qual pa bd sc [] kws f fd) (S : FnScope N ps sc) (len : ∀ a D dd vs H Q E, sp a D dd vs H Q E → vs.length = ps.length)
    (hb : ∀ (cdv : Value) (A : Around) (outer : List Env) (s : Shared) (H : Hp) (vs : List V) (Q : VK) (E : XK) (p : Addr × Obj) (D dd : Addr), RoomH k (A.deeper (envOfC qual sc s.heap.objs.size f cdv)) →
      Zc (.ref D) (some dd) p.2 → (∃ fs, p.2.data = .fields fs) → sp p.1 D dd vs H Q E →
      ∃ t, PSs (cxH CX0 P w K mg base N qual sc f cdv A outer s H E p) bd t ∧ t { nx := fun _ H' => Q .non H', rt := Q } (L2.start N vs) H) : FnZ P w K mg base (k + 1) f fd ps sp := by
  obtain ⟨oc, od, dV, kV, doc, pm, an, cdv, ct, osl, rfl, lk, hcd, _, _⟩ := F.ex
  constructor
  · exact len
  · intro A outer s H args us vs Q E p D dd hr hz hf hpin e0 hbi r hsp
    have KX : K.In s.heap := e0.mod.kin.keeps (fun b o e => (e0.bs b o e).1)
    have lim : s.heap.NoLimit := e0.mod.nolimit.keeps (fun b o e => (e0.bs b o e).1)
    have hl : vs.length = ps.length := len _ _ _ _ _ _ _ hsp
    refine codeAny_call_function hr.depth (KX _ _ lk) rfl S.co S.gen rfl (PySem.W.codeRec_of KX hcd) (hbi _ _ _ _ (wpAny_newFunctionEnv_cells S.kind ?_ ?_))
    · rintro ⟨n, v⟩ hy
      cases S.par n (List.of_mem_zip hy).1 with
      | inl q => exact Or.inl q
      | inr q => exact Or.inr ⟨q, PySem.W.cellsFrom_some _ _ _ (Or.inl q)⟩
    · rintro env he s1 xx
      subst he
      obtain ⟨t, ht, hq⟩ := hb cdv A outer s H vs Q E p D dd (hr.deeper _) hz hf hsp
      have I := inv_startH (CX := CX0) (E := E) S hpin e0 hl r xx
      refine ⟨lim.keeps xx.toInCall.keep, codeAny_func (wpAny_mono (ht.run [] s1 _ H _ I hq) ?_ (fun e s' hs => hs))⟩
      intro fl s' hs
      cases fl with
      | ret u =>
        obtain ⟨v, σ', H', J, rv, q⟩ := hs
        exact ⟨v, H', J.os, J.bare, J.base, J.hok, rv, q⟩
      | next =>
        obtain ⟨σ', H', J, q⟩ := hs
        exact ⟨.non, H', J.os, J.bare, J.base, J.hok, rfl, q⟩
      | brk =>
        obtain ⟨_, _, _, q⟩ := hs
        exact q.elim
      | cont =>
        obtain ⟨_, _, _, q⟩ := hs
        exact q.elim
end
/-- f(e, ..) within the suite that holds the exception a -/
def tCallZ (cls : Value) (d : Option Addr) (a : Addr) (sp : Addr → Addr → Addr → Sp) (t : TA) : TE := fun σ H Q => t σ H fun vs H1 => ∃ D dd : Addr, cls = .ref D ∧ d = some dd ∧ sp a D dd vs H1 Q E0
theorem pe_callZ {X : Cx} {k : Nat} {f a : Addr} {fd : FuncData} {ps : List Str} {sp : Addr → Addr → Addr → Sp} {x : Str} {q pos : Pos} {e : Expr} {es : List Expr} {t : TA} {oe : Obj} {cls : Value} {d : Option Addr} {pn : List (Addr × Obj)}
    (F : FnZ X.prog X.w X.K X.mg X.base k f fd ps sp) (hr : Room k X.A) (hz : Zc cls d oe) (hf : ∃ fs, oe.data = .fields fs) (hg : Gl X x) (hm : X.mg x = some (.ref f)) (hk : PySem.W.keepIn X.K (.ref f) = true) (hb : Binds X.K fd ps [])
    (ha : PA (X.suite a ((a, oe) :: pn)) (e :: es) t) (hdb : (x == ("__debug__" : Str)) = false := by decide) (he : starEach (e :: es) X.env = (false, eval e X.env) :: starEach es X.env := by rfl) (hpl : (backTo pos (starEach es X.env)).any (·.1) = false := by rfl) :
    PE (X.suite a ((a, oe) :: pn)) (.Call (.Name x q) (e :: es) [] pos) (tCallZ cls d a sp t) := by
  refine ⟨fun pins s σ H Q I h => ?_⟩
  refine wpAny_Call_Name_kw (ld_glob (X := X.suite a ((a, oe) :: pn)) I hg hm ?_ hdb)
  refine PySem.W.callWith_K (h₀ := X.base) I.ok.mod.kin hk (thn (ha.run pos pins s σ H _ I h) ?_) he hpl
  rintro us s1 ⟨vs, H1, I1, r, D, dd, e1, e2, q1⟩
  subst e1 e2
  refine ⟨I1.kIn, ?_⟩
  have hl : us.length = ps.length := r.length.symm.trans (F.len _ _ _ _ _ _ _ q1)
  have b := hb s1 us I1.kIn (by rw [List.append_nil]; exact hl)
  rw [List.append_nil] at b
  obtain ⟨g1, g2, g3, g4, g5⟩ := I1.pin (a, oe) (List.mem_append.mpr (.inl List.mem_cons_self))
  have hpin : PinOk X.stack H1 s1 (a, oe) := ⟨g1, g2, fun hm => (List.mem_cons.mp (I1.stkSub a hm)).elim g3 g4, g5⟩
  refine wpAny_call (codeAny_mono (F.run (X.A.mark (some (.ref a))) X.stack s1 H1 ⟨us, []⟩ us vs Q E0 (a, oe) D dd ⟨hr.dp, hr.un⟩ hz hf hpin I1.env0 b r q1) ?_)
  intro r2 s2 hq
  cases r2 with
  | error e3 => exact hq.elim
  | ok fl =>
    cases fl with
    | ret u => exact I1.after hq
    | next => exact hq.elim
    | brk => exact hq.elim
    | cont => exact hq.elim
/-- what an exception class must say, that isinstance asks its instances rightly -/
structure ExcD (K : PySem.W.Frag) (D : Addr) : Prop where
  hc : (PySem.W.clsIn K D).isSome = true
  hg : PySem.W.findIn K (.ref D) "__getattribute__" = some (some (.builtin "BaseException.__getattribute__"))
  hk : PySem.W.findIn K (.ref D) "__getattr__" = some none
  hs : PySem.W.subIn K (.ref D) (.type "BaseException") = some true
  ha : PySem.W.findIn K (.ref D) "__class__" = some (some (.builtin "object.__class__"))
  hn : PySem.W.specialIn K (.builtin "object.__class__") "__get__" = some (some (.builtin "getset_descriptor.__get__"))
  ht : PySem.W.takesIn K (.builtin "object.__class__") = some true
  hm : PySem.W.mroIn K D (.type "object") = some true
def excdB (K : PySem.W.Frag) (D : Addr) : Bool := (PySem.W.clsIn K D).isSome && (decide (PySem.W.findIn K (.ref D) "__getattribute__" = some (some (.builtin "BaseException.__getattribute__"))) && (decide (PySem.W.findIn K (.ref D) "__getattr__" = some none) &&
  (decide (PySem.W.subIn K (.ref D) (.type "BaseException") = some true) && (decide (PySem.W.findIn K (.ref D) "__class__" = some (some (.builtin "object.__class__"))) && (decide (PySem.W.specialIn K (.builtin "object.__class__") "__get__" = some (some (.builtin "getset_descriptor.__get__"))) &&
  (decide (PySem.W.takesIn K (.builtin "object.__class__") = some true) && decide (PySem.W.mroIn K D (.type "object") = some true)))))))
theorem excdB_ok {K : PySem.W.Frag} {D : Addr} (h : excdB K D = true) : ExcD K D := by
  obtain ⟨h1, h⟩ := Bool.and_eq_true_iff.mp h
  obtain ⟨h2, h⟩ := Bool.and_eq_true_iff.mp h
  obtain ⟨h3, h⟩ := Bool.and_eq_true_iff.mp h
  obtain ⟨h4, h⟩ := Bool.and_eq_true_iff.mp h
  obtain ⟨h5, h⟩ := Bool.and_eq_true_iff.mp h
  obtain ⟨h6, h⟩ := Bool.and_eq_true_iff.mp h
  obtain ⟨h7, h8⟩ := Bool.and_eq_true_iff.mp h
  exact ⟨h1, of_decide_eq_true h2, of_decide_eq_true h3, of_decide_eq_true h4, of_decide_eq_true h5, of_decide_eq_true h6, of_decide_eq_true h7, of_decide_eq_true h8⟩
/-- isinstance(e, c), e the exception -/
def rIsX (K : PySem.W.Frag) (a D dd : Addr) : List V → Hp → VK → Prop := fun xs H Q => ∃ (c : V) (cv : Value) (b : Bool) (fs : List (Str × V)), xs = [.ref a, c] ∧ ClsV c cv ∧ PySem.W.kitOne K (.ref D) cv = some b ∧ H dd = some (.xd fs) ∧ Q (.bl b) H
theorem call_isX {X : Cx} {p : Addr × Obj} {D dd : Addr} (hp : p ∈ X.pn) (C : ExcD X.K D) (hz : Zc (.ref D) (some dd) p.2) (hf : ∃ fs, p.2.data = .fields fs) : CallR X (.builtin "isinstance") (rIsX X.K p.1 D dd) := by
  intro pins s σ H xs us Q I r h
  obtain ⟨c, cv, b, fs, rfl, hcv, e, hd, q⟩ := h
  obtain ⟨u1, u2, rfl, r1, r2⟩ := vals2 r
  cases (show u1 = Value.ref p.1 from r1)
  have e2 := hcv.eq r2
  subst e2
  obtain ⟨hget, _⟩ := I.pin p (List.mem_append_left _ hp)
  have hx : ObjOk X.prog X.w H s.heap dd (.xd fs) := I.hok dd _ hd
  obtain ⟨mA, ⟨od, es, ep, ho, hr⟩, _⟩ := hx
  obtain ⟨vs, hv⟩ := hf
  have J : PySem.W.InstAt s.heap p.1 p.2 D (some od) := ⟨hget, hz.1, by unfold PySem.W.notCls; rw [hv] <;> rfl, by rw [hz.2]; exact ho⟩
  exact PySem.W.kia_one (PySem.W.kitx_exc C.hc C.hg C.hk C.hs C.ha C.hn C.ht C.hm) I.kIn J e (fun z => nomatch z) fun tk => ⟨.bl b, H, I.tok tk, rfl, q⟩
/-- what the written part says of an exception class with its own __init__, as a Bool -/
def oexB (K : PySem.W.Frag) (C : Addr) : Bool := (match K.lookup C with
    | some ⟨.type "type", _, .cls cd, sl⟩ => (match cd.mro, sl.toList with
      | .ref C' :: bm, [_, _, _, _, some (.builtin n), _] => decide (C' = C) && (decide (n = "ValueError.__new__") && (!cd.hasDel && (cd.hasDict && PySem.HandSPX.refsVE bm)))
      | _, _ => false)
    | _ => false) && (decide (PySem.W.findIn K (.ref C) "__setattr__" = some (some (.builtin "object.__setattr__"))) && (decide (PySem.W.subIn K (.ref C) (.type "BaseException") = some true) &&
  (decide (PySem.W.typeIn K (.ref C) = some (.type "type")) && PySem.W.keepIn K (.ref C))))
theorem oexB_ok {K : PySem.W.Frag} {C : Addr} (h : oexB K C = true) : OexC K C := by
  obtain ⟨h1, h⟩ := Bool.and_eq_true_iff.mp h
  obtain ⟨h2, h⟩ := Bool.and_eq_true_iff.mp h
  obtain ⟨h3, h⟩ := Bool.and_eq_true_iff.mp h
  obtain ⟨h4, h5⟩ := Bool.and_eq_true_iff.mp h
  refine ⟨?_, of_decide_eq_true h2, of_decide_eq_true h3, of_decide_eq_true h4, h5⟩
  split at h1
  · rename_i dd cd sl ho
    split at h1
    · rename_i C' bm k0 k1 k2 k3 n k5 hm hs
      simp only [Bool.and_eq_true, decide_eq_true_eq, Bool.not_eq_true'] at h1
      obtain ⟨rfl, rfl, hdel, hdct, hr⟩ := h1
      obtain ⟨nm, bs, mro, ns, qn, hd, sn, sub, ab, col, del⟩ := cd
      dsimp only at hm hdel hdct
      subst hm hdel hdct
      have hsl : sl = #[k0, k1, k2, k3, some (.builtin "ValueError.__new__"), k5] := by
        obtain ⟨l⟩ := sl
        dsimp only at hs
        rw [hs]
      subst hsl
      exact ⟨nm, qn, ns, bs, bm, sn, sub, ab, col, dd, k0, k1, k2, k3, k5, ho, hr⟩
    · cases h1
  · cases h1
theorem passR {X : Cx} {W : WX} {E : XK} (tk : Takes X W) (hW : ∀ cls d σ H, E cls d H → W cls d σ H) : Passes (L2.CX X.prog X.w) X E := passes_call tk hW
end LL

namespace LL
open PySem PySem.Spec PyProof.Rows L2 L2H
/-! ### powers of two -/
theorem land_even (a b : Nat) : (2 * a) &&& (2 * b + 1) = 2 * (a &&& b) := by
  refine Nat.eq_of_testBit_eq fun i => ?_
  cases i with
  | zero => simp [Nat.testBit_zero]
  | succ i =>
    have h1 : ∀ x : Nat, (2 * x).testBit (i + 1) = x.testBit i := fun x => by rw [Nat.testBit_succ, Nat.mul_div_cancel_left _ (by decide)]
    have h2 : (2 * b + 1).testBit (i + 1) = b.testBit i := by rw [Nat.testBit_succ, show (2 * b + 1) / 2 = b by omega]
    rw [Nat.testBit_and, h1, h2, h1, Nat.testBit_and]
theorem land_odd (a b : Nat) : (2 * a + 1) &&& (2 * b) = 2 * (a &&& b) := by
  rw [Nat.and_comm, land_even, Nat.and_comm]
theorem land_pred : ∀ (k m : Nat), (2 ^ k * (2 * m + 1)) &&& (2 ^ k * (2 * m + 1) - 1) = 2 ^ k * (2 * m)
  | 0, m => by
    rw [Nat.pow_zero, Nat.one_mul, Nat.one_mul, show 2 * m + 1 - 1 = 2 * m by omega, land_odd, Nat.and_self]
  | k + 1, m => by
    have h := land_pred k m
    have hp : 0 < 2 ^ k * (2 * m + 1) := Nat.mul_pos (Nat.pow_pos (by decide)) (by omega)
    have e : 2 ^ (k + 1) * (2 * m + 1) = 2 * (2 ^ k * (2 * m + 1)) := by rw [Nat.pow_succ, Nat.mul_comm (2 ^ k) 2, Nat.mul_assoc]
    have e2 : 2 ^ (k + 1) * (2 * m) = 2 * (2 ^ k * (2 * m)) := by rw [Nat.pow_succ, Nat.mul_comm (2 ^ k) 2, Nat.mul_assoc]
    rw [e, e2]
    generalize 2 ^ k * (2 * m + 1) = x at h hp
    rw [show 2 * x - 1 = 2 * (x - 1) + 1 by omega, land_even, h]
theorem odd_part : ∀ n : Nat, 0 < n → ∃ k m, n = 2 ^ k * (2 * m + 1) := by
  intro n
  induction n using Nat.strongRecOn with
  | ind n ih =>
    intro hn
    by_cases h : n % 2 = 1
    · exact ⟨0, n / 2, by rw [Nat.pow_zero]; omega⟩
    · obtain ⟨k, m, e⟩ := ih (n / 2) (by omega) (by omega)
      refine ⟨k + 1, m, ?_⟩
      rw [Nat.pow_succ, Nat.mul_comm (2 ^ k) 2, Nat.mul_assoc, ← e]
      omega
theorem bitAnd_nat (a b : Nat) : Builtin.bitAnd (a : Int) (b : Int) = ((a &&& b : Nat) : Int) := by
  unfold Builtin.bitAnd
  rw [decide_eq_true (show (0 : Int) ≤ (a : Int) by omega), decide_eq_true (show (0 : Int) ≤ (b : Int) by omega)]
  rfl
theorem bitAnd_neg (n : Nat) (h : 0 < n) : Builtin.bitAnd (n : Int) (-(n : Int)) = (n : Int) - ((n &&& (n - 1) : Nat) : Int) := by
  unfold Builtin.bitAnd
  rw [decide_eq_true (show (0 : Int) ≤ (n : Int) by omega), decide_eq_false (show ¬ (0 : Int) ≤ -(n : Int) by omega)]
  show (n : Int) - (((n : Int).toNat &&& (Builtin.bitNot (-(n : Int))).toNat : Nat) : Int) = _
  rw [show (Builtin.bitNot (-(n : Int))).toNat = n - 1 by show (- -(n : Int) - 1).toNat = n - 1; omega, Int.toNat_natCast]
/-- i is a power of two -/
def isP (i : Int) : Bool := decide (1 ≤ i) && decide (Builtin.bitAnd i (i - 1) = 0)
theorem isP_pow (k : Nat) : isP (2 ^ k) = true := by
  have h := land_pred k 0
  rw [Nat.mul_zero, Nat.zero_add, Nat.mul_one, Nat.mul_zero] at h
  have hp : 0 < 2 ^ k := Nat.pow_pos (by decide)
  have e : (2 : Int) ^ k = ((2 ^ k : Nat) : Int) := by simp
  unfold isP
  rw [e, show ((2 ^ k : Nat) : Int) - 1 = ((2 ^ k - 1 : Nat) : Int) by omega, bitAnd_nat, h, decide_eq_true (show (1 : Int) ≤ ((2 ^ k : Nat) : Int) by omega)]
  rfl
theorem isP_of {i : Int} (h : isP i = true) : ∃ k : Nat, i = 2 ^ k := by
  obtain ⟨h1, h2⟩ := Bool.and_eq_true_iff.mp h
  have h1 := of_decide_eq_true h1
  have h2 := of_decide_eq_true h2
  obtain ⟨n, rfl⟩ : ∃ n : Nat, i = n := ⟨i.toNat, by omega⟩
  rw [show (n : Int) - 1 = ((n - 1 : Nat) : Int) by omega, bitAnd_nat] at h2
  obtain ⟨k, m, e⟩ := odd_part n (by omega)
  rw [e, land_pred] at h2
  have h3 : 2 ^ k * (2 * m) = 0 := by omega
  have hp : 0 < 2 ^ k := Nat.pow_pos (by decide)
  have hm : m = 0 := by
    rcases Nat.mul_eq_zero.mp h3 with h | h <;> omega
  refine ⟨k, ?_⟩
  rw [e, hm]
  simp
/-- the greatest power of two in n -/
theorem powIn {n : Int} (h : 1 ≤ n) : ∃ (k : Nat) (m : Int), Builtin.bitAnd n (-n) = 2 ^ k ∧ 0 ≤ m ∧ n = 2 ^ k * (2 * m + 1) := by
  obtain ⟨a, rfl⟩ : ∃ a : Nat, n = a := ⟨n.toNat, by omega⟩
  obtain ⟨k, m, e⟩ := odd_part a (by omega)
  have hl := land_pred k m
  refine ⟨k, m, ?_, by omega, by rw [e]; simp⟩
  rw [bitAnd_neg a (by omega), e, hl]
  have : 2 ^ k * (2 * m + 1) = 2 ^ k * (2 * m) + 2 ^ k := by rw [Nat.mul_add, Nat.mul_one]
  rw [this]
  have e3 : ((2 ^ k : Nat) : Int) = (2 : Int) ^ k := by simp
  omega
/-- bit_length of c - 1: the least exponent -/
theorem bits_least {c : Int} (h : 1 ≤ c) : c ≤ 2 ^ (Builtin.Int.intBits (c - 1)) ∧ (Builtin.Int.intBits (c - 1) = 0 ∨ (2 : Int) ^ (Builtin.Int.intBits (c - 1)) / 2 < c) := by
  obtain ⟨n, rfl⟩ : ∃ n : Nat, c = (n : Int) + 1 := ⟨(c - 1).toNat, by omega⟩
  rw [show (n : Int) + 1 - 1 = n by omega]
  unfold Builtin.Int.intBits
  by_cases hn : n = 0
  · subst hn
    exact ⟨by decide, .inl rfl⟩
  · rw [if_neg (show ¬ ((n : Int) == 0) = true by simpa using hn), Int.natAbs_natCast]
    have h1 : n < 2 ^ (n.log2 + 1) := Nat.lt_log2_self
    have h2 : 2 ^ n.log2 ≤ n := Nat.log2_self_le hn
    have e1 : ((2 ^ (n.log2 + 1) : Nat) : Int) = (2 : Int) ^ (n.log2 + 1) := by simp
    have e2 : ((2 ^ n.log2 : Nat) : Int) = (2 : Int) ^ n.log2 := by simp
    have e3 : (2 : Int) ^ (n.log2 + 1) = 2 * (2 : Int) ^ n.log2 := by rw [Int.pow_succ, Int.mul_comm]
    exact ⟨by omega, .inr (by omega)⟩
end LL

namespace LL
open PySem PySem.Spec PyProof.Rows L2
/-! ### the head's facts, and one more Bool of the written part -/
abbrev AlY : Type := He.AlD × Bool
def obsY (n : Nat) (fa : List He.Fa) (fn : List He.DefD) (ex : PySem.W.Frag → Bool) (g : Addr → Option Obj) : AlY := (He.obsD fa fn (He.frG g (He.asD g n)), ex (He.frG g (He.asD g n)))
structure SaysY (fa : List He.Fa) (fn : List He.DefD) (ex : PySem.W.Frag → Bool) (K : PySem.W.Frag) : Prop where
  d : He.SaysD fa fn K
  x : ex K = true
def hookY (n : Nat) (fa : List He.Fa) (fn : List He.DefD) (ex : PySem.W.Frag → Bool) : PySem.W.Hook where
  α := AlY
  obs := fun s => obsY n fa fn ex s.heap.get?
  val := fun _ => (He.valD fn, true)
  says := fun _ h => ∃ K : PySem.W.Frag, K.In h ∧ SaysY fa fn ex K
  of := fun _ _ e => ⟨_, He.frG_in, ⟨congrArg (fun z : AlY => z.1) e, congrArg (fun z : AlY => z.2) e⟩⟩
  keeps := fun _ _ _ ⟨K, hK, c⟩ k => ⟨K, PySem.W.Frag.In.keeps hK k, c⟩
theorem obsY_eq {n : Nat} {fa : List He.Fa} {fn : List He.DefD} {ex : PySem.W.Frag → Bool} {g : Addr → Option Obj} {s : Shared} (h : ∀ a, g a = s.heap.get? a) : obsY n fa fn ex g = (hookY n fa fn ex).obs s := by
  have e : g = s.heap.get? := funext h
  rw [e]
  rfl
theorem SaysY.ex {fa : List He.Fa} {fn : List He.DefD} {exs : List (PySem.W.Frag → Bool)} {K : PySem.W.Frag} (c : SaysY fa fn (fun K => exs.all fun e => e K) K) (i : Nat) {e : PySem.W.Frag → Bool} (h : exs[i]? = some e := by rfl) : e K = true :=
  List.all_eq_true.mp c.x e (List.mem_of_getElem? h)
end LL

namespace LL
open PySem PySem.Spec PyProof.Rows L2 L2H
/-- a field of the exception that a def called in an except suite is handed -/
theorem pe_xfP {X : Cx} {p : Addr × Obj} {C : Addr} {cls : Value} {d : Option Addr} {e : Expr} {te : TE} {pos : Pos} {n : Str} (hp : p ∈ X.pn) (T : XfC X.K C) (hno : PySem.W.findIn X.K (.ref C) n = some none)
    (hz : Zc cls d p.2) (hf : ∃ vs, p.2.data = .fields vs) (he : PE X e te) (hb : attributeBase e n X.env (eval e X.env) = eval e X.env := by rfl) :
    PE X (.Attribute e n pos) (tXf p.1 cls d C n te) := by
  refine ⟨fun pins s σ H Q I h => ?_⟩
  refine attr_of hb (thn (he.run pins s σ H _ I h) fun u s1 hh => ?_)
  obtain ⟨x, H1, I1, rx, ex, ec, dd, fs, v, ed, ea, l, q⟩ := hh
  subst ex
  obtain rfl : u = Value.ref p.1 := rx
  subst ec
  subst ed
  obtain ⟨ha, _⟩ := I1.pin p (List.mem_append_left _ hp)
  obtain ⟨vs, hd⟩ := hf
  have hx : ObjOk X.prog X.w H1 s1.heap dd (.xd fs) := I1.hok dd _ ea
  obtain ⟨mA, hns, hr⟩ := hx
  obtain ⟨od, ho, hl⟩ := lookIn_ns hns
  obtain ⟨u, hu, ru⟩ := RelO.some_of (v := v) (o := mA n) (by rw [← l]; exact hr n)
  have J : PySem.W.InstAt s1.heap p.1 p.2 C (some od) := ⟨ha, hz.1, by unfold PySem.W.notCls; rw [hd] <;> rfl, by rw [hz.2]; exact ho⟩
  exact HandSPX.exc_get I1.kIn J T.ga T.gg T.exC (PySem.W.findObj_own T.hdC hno rfl (by rw [hl, hu])) (handed_of ru) ⟨v, H1, I1.tok _, ru, q⟩
/-- isinstance(e, c) in the suite that holds e -/
def rIsXC (K : PySem.W.Frag) (a D : Addr) (cls : Value) (d : Option Addr) : List V → Hp → VK → Prop := fun xs H Q => ∃ (dd : Addr) (c : V) (cv : Value) (b : Bool) (fs : List (Str × V)), cls = .ref D ∧ d = some dd ∧ xs = [.ref a, c] ∧ ClsV c cv ∧ PySem.W.kitOne K (.ref D) cv = some b ∧ H dd = some (.xd fs) ∧ Q (.bl b) H
theorem call_isXC {X : Cx} {p : Addr × Obj} {D : Addr} {cls : Value} {d : Option Addr} (hp : p ∈ X.pn) (C : ExcD X.K D) (hz : Zc cls d p.2) (hf : ∃ fs, p.2.data = .fields fs) : CallR X (.builtin "isinstance") (rIsXC X.K p.1 D cls d) := by
  rintro pins s σ H xs us Q I r ⟨dd, c, cv, b, fs, rfl, rfl, rfl, h1, h2, h3, q⟩
  exact call_isX hp C hz hf pins s σ H _ us Q I r ⟨c, cv, b, fs, rfl, h1, h2, h3, q⟩
theorem use_isXC {K : PySem.W.Frag} {a D dd : Addr} {c : V} {cv : Value} {b : Bool} {fs : List (Str × V)} {H : Hp} {Q : VK} (hc : ClsV c cv) (hk : PySem.W.kitOne K (.ref D) cv = some b) (hd : H dd = some (.xd fs)) (q : Q (.bl b) H) : rIsXC K a D (.ref D) (some dd) [.ref a, c] H Q := ⟨dd, c, cv, b, fs, rfl, rfl, rfl, hc, hk, hd, q⟩
/-- a def that may raise, called where it does not -/
theorem passE0 {X : Cx} : Passes (L2.CX X.prog X.w) X E0 := fun _ _ _ _ _ _ _ h => by
  obtain ⟨_, _, _, _, _, _, _, _, _, _, _, _, hE⟩ := h
  exact hE.elim
theorem use_for2 {ta : TA} {g : TG} {tb : TS} {D : Ends} {σ : L2.St} {H : Hp} (lo hi : Int) (ht : ∀ Q : List V → Hp → Prop, Q [.int lo, .int hi] H → ta σ H Q) (b0 : -(2 ^ 62) ≤ lo) (b1 : lo < 2 ^ 62) (b2 : -(2 ^ 62) ≤ hi) (b3 : hi < 2 ^ 62) (Pv : Nat → L2.St → Hp → Prop) (h0 : Pv 0 σ H)
    (hs : ∀ i σ H, i < (hi - lo).toNat → Pv i σ H → g (.int (lo + (i : Int))) σ H fun σ2 H2 => tb { D with nx := Pv (i + 1), ct := Pv (i + 1), bk := D.nx } σ2 H2) (hd : ∀ σ H, Pv (hi - lo).toNat σ H → D.nx σ H) : tFor (iRng2 ta) g tb D σ H :=
  ht _ ⟨lo, hi, rfl, ⟨b0, b1, b2, b3⟩, for_range Pv h0 hs hd⟩
theorem use_lenA_L {p : Addr} {xs : List V} {H : Hp} {Q : VK} (h : H p = some (.lst xs)) (q : Q (.int xs.length) H) : rLenA [.ref p] H Q := .inl (use_lenL h q)
theorem use_lenA_T {p : Addr} {xs : List V} {H : Hp} {Q : VK} (h : H p = some (.tup xs)) (q : Q (.int xs.length) H) : rLenA [.ref p] H Q := .inr (.inl (use_lenT h q))
theorem use_ixA_L {K : PySem.W.Frag} {p : Addr} {xs : List V} {i : Int} {v : V} {H : Hp} {Q : VK} (h : H p = some (.lst xs)) (e : atI xs i = some v) (q : Q v H) : rIxA K (.ref p) (.int i) H Q := .inl (use_ixL h e q)
theorem use_ixA_T {K : PySem.W.Frag} {p : Addr} {xs : List V} {i : Int} {v : V} {H : Hp} {Q : VK} (h : H p = some (.tup xs)) (e : atI xs i = some v) (q : Q v H) : rIxA K (.ref p) (.int i) H Q := .inr (use_ixT h e q)
/-- a list or a tuple -/
def SeqH (H : Hp) (p : Addr) (xs : List V) : Prop := H p = some (.lst xs) ∨ H p = some (.tup xs)
theorem SeqH.same {H H' : Hp} {p : Addr} {xs : List V} (h : SeqH H p xs) (s : Same H H') : SeqH H' p xs := h.imp (s _ _) (s _ _)
theorem SeqH.kp {s : Addr} {H H' : Hp} {p : Addr} {xs : List V} (h : SeqH H p xs) (n : p ≠ s) (k : Kp s H H') : SeqH H' p xs := h.imp (k _ _ n) (k _ _ n)
theorem use_ixA {K : PySem.W.Frag} {p : Addr} {xs : List V} {i : Int} {v : V} {H : Hp} {Q : VK} (h : SeqH H p xs) (e : atI xs i = some v) (q : Q v H) : rIxA K (.ref p) (.int i) H Q := h.elim (fun h => use_ixA_L h e q) fun h => use_ixA_T h e q
mutual
/-- no dict in it -/
def noDic : T → Bool
  | .dic _ => false
  | .lst ts => noDics ts
  | .tup ts => noDics ts
  | _ => true
def noDics : List T → Bool
  | [] => true
  | t :: ts => noDic t && noDics ts
end
theorem noDicL : ∀ {ts : List T} {i : Nat} {t : T}, ts[i]? = some t → noDics ts = true → noDic t = true
  | [], _, _, e, _ => by cases e
  | u :: ts, 0, t, e, h => by
    cases e
    exact (Bool.and_eq_true_iff.mp h).1
  | u :: ts, i + 1, t, e, h => noDicL (ts := ts) (i := i) e (Bool.and_eq_true_iff.mp h).2
theorem Aft.same {d s : Addr} {H H' : Hp} (D : Drw d s H) (k : Same H H') : Aft d s H H' := ⟨.same k, D.same k⟩
theorem Aft.at {d s : Addr} {H H' : Hp} (a : Aft d s H H') {p : Addr} {o : HO} (h : H p = some o) (n : p ≠ s) : H' p = some o := a.kp _ _ n h
/-- a list of bools that is all True, made by a comprehension over range(n) -/
theorem rAll_true {K : PySem.W.Frag} {D : Addr} {n : Nat} {H : Hp} {Q : VK} (h : H D = some (.lst (List.replicate n (V.bl true)))) (q : Q (.bl true) H) : rAll K [.ref D] H Q :=
  ⟨D, List.replicate n true, rfl, .inl (.inl (by rw [List.map_replicate]; exact h)), by rw [show (List.replicate n true).all id = true by simp]; exact q⟩
theorem repl_succ {n : Nat} : List.replicate n (V.bl true) ++ [V.bl true] = List.replicate (n + 1) (V.bl true) := by rw [List.replicate_succ']
theorem itei {p : Prop} [Decidable p] {A B : Prop} (h1 : p → A) (h2 : ¬p → B) : if p then A else B := by
  by_cases h : p
  · rw [if_pos h]; exact h1 h
  · rw [if_neg h]; exact h2 h
/-- over enumerate(list), a list that the body leaves as it is -/
theorem use_forE {K : PySem.W.Frag} {ta : TA} {a : Addr} {xs : List V} {g : TG} {tb : TS} {D : Ends} {σ : L2.St} {H : Hp} (ht : ∀ Q : List V → Hp → Prop, Q [.ref a] H → ta σ H Q) (Pv : Nat → L2.St → Hp → Prop) (h0 : Pv 0 σ H) (hl : ∀ i σ H, i ≤ xs.length → Pv i σ H → SqL K H a xs)
    (hs : ∀ i x T σ H, xs[i]? = some x → Pv i σ H → H T = none → g (.ref T) σ (upd H T (.tup [.int (i : Nat), x])) fun σ2 H2 => tb { D with nx := Pv (i + 1), ct := Pv (i + 1), bk := D.nx } σ2 H2)
    (hd : ∀ σ H, Pv xs.length σ H → D.nx σ H) : tFor (iEnum K ta) g tb D σ H := by
  refine ht _ ⟨a, xs, rfl, hl 0 σ H (Nat.zero_le _) h0, fun i m σ H => i ≤ xs.length ∧ m + i = xs.length ∧ Pv i σ H, ⟨xs.length, Nat.zero_le _, Nat.add_zero _, h0⟩, ?_⟩
  rintro i m σ H ⟨hi, hm, p⟩
  have q := hl i σ H hi p
  rcases Nat.lt_or_ge i xs.length with hlt | hge
  · refine .inr ⟨⟨xs, xs[i], q, List.getElem?_eq_getElem hlt⟩, Pv (i + 1), fun σ' H' p' => ⟨m - 1, by omega, hlt, by omega, p'⟩, ?_⟩
    rintro z H' ⟨T, x, rfl, hT, rfl, hx⟩
    exact hs i x T σ H (hx xs q) p hT
  · obtain rfl : i = xs.length := by omega
    exact .inl ⟨⟨xs, q, Nat.le_refl _⟩, hd σ H p⟩
theorem use_forEX {K : PySem.W.Frag} {ta : TA} {g : TG} {tb : TS} {D : Ends} {σ : L2.St} {H : Hp} {R : Addr → List V → Hp → Prop} (ht : ∀ Q : List V → Hp → Prop, (∀ a xs H', R a xs H' → Q [.ref a] H') → ta σ H Q) (Pv : Addr → List V → Nat → L2.St → Hp → Prop) (h0 : ∀ a xs H', R a xs H' → Pv a xs 0 σ H')
    (hl : ∀ a xs i σ H, i ≤ xs.length → Pv a xs i σ H → SqL K H a xs)
    (hs : ∀ a xs i x T σ H, xs[i]? = some x → Pv a xs i σ H → H T = none → g (.ref T) σ (upd H T (.tup [.int (i : Nat), x])) fun σ2 H2 => tb { D with nx := Pv a xs (i + 1), ct := Pv a xs (i + 1), bk := D.nx } σ2 H2)
    (hd : ∀ a xs σ H, Pv a xs xs.length σ H → D.nx σ H) : tFor (iEnum K ta) g tb D σ H := by
  refine ht _ fun a xs H' r => ?_
  have p0 := h0 a xs H' r
  refine ⟨a, xs, rfl, hl a xs 0 σ H' (Nat.zero_le _) p0, fun i m σ H => i ≤ xs.length ∧ m + i = xs.length ∧ Pv a xs i σ H, ⟨xs.length, Nat.zero_le _, Nat.add_zero _, p0⟩, ?_⟩
  rintro i m σ H ⟨hi, hm, p⟩
  have q := hl a xs i σ H hi p
  rcases Nat.lt_or_ge i xs.length with hlt | hge
  · refine .inr ⟨⟨xs, xs[i], q, List.getElem?_eq_getElem hlt⟩, Pv a xs (i + 1), fun σ' H' p' => ⟨m - 1, by omega, hlt, by omega, p'⟩, ?_⟩
    rintro z H' ⟨T, x, rfl, hT, rfl, hx⟩
    exact hs a xs i x T σ H (hx xs q) p hT
  · obtain rfl : i = xs.length := by omega
    exact .inl ⟨⟨xs, q, Nat.le_refl _⟩, hd a xs σ H p⟩
theorem DtL.set {F : Addr → Prop} {H : Hp} : ∀ {xs : List V} {ts : List T} {i : Nat} {v : V} {t : T}, DtL F H xs ts → Dt F H v t → DtL F H (xs.set i v) (ts.set i t)
  | _, [], i, v, t, h, _ => by rw [show _ = [] from h]; rfl
  | _, u :: us, 0, v, t, h, d => by
    obtain ⟨x, xs, rfl, h1, h2⟩ := h
    exact ⟨v, xs, rfl, d, h2⟩
  | _, u :: us, i + 1, v, t, h, d => by
    obtain ⟨x, xs, rfl, h1, h2⟩ := h
    exact ⟨x, _, rfl, h1, DtL.set h2 d⟩
theorem DtL.off {F : Addr → Prop} {H : Hp} {r : Addr} {o : HO} {xs : List V} {ts : List T} (hF : ∀ a, F a → a ≠ r) (h : DtL F H xs ts) : DtL F (upd H r o) xs ts := DtL.imp (fun a u f e => ⟨f, by rw [upd_ne (hF a f)]; exact e⟩) _ h
theorem Dt.off {F : Addr → Prop} {H : Hp} {r : Addr} {o : HO} {v : V} {t : T} (hF : ∀ a, F a → a ≠ r) (h : Dt F H v t) : Dt F (upd H r o) v t := Dt.imp (fun a u f e => ⟨f, by rw [upd_ne (hF a f)]; exact e⟩) _ h
end LL

namespace LL
open PySem PySem.Spec PyProof.Rows L2 L2H
/-! ### exceptions as values -/
/-- C(e, ..), an own exception class whose __init__ keeps sp, as a value -/
def tMkV (C : Addr) (sp : Sp) (ta : TA) : TE := fun σ H Q => ta σ H fun vs H1 => vs.length ≤ 1000 ∧ ∀ a, H1 a = none → sp (.ref a :: vs) (upd H1 a (exo a C none)) (fun v H2 => v = .non ∧ Q (.ref a) H2) (fun _ _ _ => False)
section
variable {X : Cx} {e : Expr} {es : List Expr} {ta : TA} {p pos : Pos}
theorem pe_mkv {CX : CXT} {x : Str} {C fI : Addr} {k : Nat} {fd : FuncData} {ps : List Str} {sp : Sp} (T : OexC X.K C) (iC : PySem.W.findIn X.K (.ref C) "__init__" = some (some (.ref fI))) (tI : PySem.W.typeIn X.K (.ref fI) = some (.type "function"))
    (F1 : FnOk X.prog X.w X.K X.mg X.base CX k fI fd ps sp) (hr : Room (k + 1) X.A) (hb : Binds X.K fd ps []) (hx : Passes CX X (fun _ _ _ => False)) (hg : Gl X x) (hm : X.mg x = some (.ref C)) (ha : PA X (e :: es) ta)
    (hdb : (x == ("__debug__" : Str)) = false := by decide) (he : starEach (e :: es) X.env = (false, eval e X.env) :: starEach es X.env := by rfl) (hpl : (backTo pos (starEach es X.env)).any (·.1) = false := by rfl) :
    PE X (.Call (.Name x p) (e :: es) [] pos) (tMkV C sp ta) := by
  refine ⟨fun pins s σ H Q I h => ?_⟩
  obtain ⟨nm, q, N, bs, bm, sn, sub, ab, col, dd, k0, k1, k2, k3, k5, hC, hbm⟩ := T.cls
  refine wpAny_Call_Name_kw (ld_glob I hg hm ?_ hdb)
  refine PySem.W.callWith_K (h₀ := X.base) I.ok.mod.kin T.kC (thn (ha.run pos pins s σ H _ I h) fun us s1 ⟨vs, H1, I1, r1, hz, q1⟩ => ⟨I1.kIn, ?_⟩) he hpl
  show wpAny _ _ (call (.ref C) us) _ _ _
  obtain ⟨hp, g, dr, tk, os⟩ := s1
  have hsz : hp.objs.size ≤ hp.objs.size + 1 := Nat.le_succ _
  have hn : H1 (hp.objs.size + 1) = none := I1.hok.fresh hsz
  have hq := q1 (hp.objs.size + 1) hn
  have kk : ∀ b o, hp.get? b = some o → ((hp.push (PySem.W.kdv_tup us)).push (PySem.HandSPX.excO C hp.objs.size)).get? b = some o := fun b o e => Heap.get?_push_of_some _ (Heap.get?_push_of_some _ e)
  have hget : ((hp.push (PySem.W.kdv_tup us)).push (PySem.HandSPX.excO C hp.objs.size)).get? (hp.objs.size + 1) = some (PySem.HandSPX.excO C hp.objs.size) := by heap_get
  have I2 : Inv X pins σ (upd H1 (hp.objs.size + 1) (exo (hp.objs.size + 1) C none)) ⟨(hp.push (PySem.W.kdv_tup us)).push (PySem.HandSPX.excO C hp.objs.size), g, dr, tk, os⟩ :=
    I1.laid (t' := tk) (a := hp.objs.size + 1) (o := exo (hp.objs.size + 1) C none) (h' := (hp.push (PySem.W.kdv_tup us)).push (PySem.HandSPX.excO C hp.objs.size)) kk hsz (exo_ok hget)
  have r2 : Vals (V.ref (hp.objs.size + 1) :: vs) (Value.ref (hp.objs.size + 1) :: us) := .cons rfl r1
  have hl : (Value.ref (hp.objs.size + 1) :: us).length = ps.length := by
    have e := r2.length
    rw [F1.len _ _ _ _ hq] at e
    exact e.symm
  have hus : us.length ≤ sizeLine := by
    rw [← Paired.length r1, sizeLine_eq]
    omega
  have hb2 := hb ⟨(hp.push (PySem.W.kdv_tup us)).push (PySem.HandSPX.excO C hp.objs.size), g, dr, tk, os⟩ (Value.ref (hp.objs.size + 1) :: us) I2.kIn (by rw [List.append_nil]; exact hl)
  rw [List.append_nil] at hb2
  refine wpAny_call (PySem.HandSPX.call_own F.excBase_ValueError (fun Y => PySem.HandSPX.refsVE_contains Y bm hbm) (I1.kIn _ _ hC) (PySem.W.looks_findIn I1.kIn iC) (fun self => PySem.W.bind_fn I1.kIn self tI) hus
    (codeAny_mono (F1.run _ X.stack _ _ ⟨Value.ref (hp.objs.size + 1) :: us, []⟩ (Value.ref (hp.objs.size + 1) :: us) _ _ (fun _ _ _ => False) (hr.make C us []) (I2.env0.make C us []) hb2 r2 hq) fun r s' hq' => ?_))
  cases r with
  | error er => exact hx pins σ _ _ er s' I2 hq'
  | ok fl =>
    cases fl with
    | ret u =>
      obtain ⟨v, H2, os2, bare2, un2, hok2, rv, ev, q2⟩ := hq'
      subst ev
      have J := I2.call' (ch := []) os2 un2 hok2 bare2 (fun b z => absurd z (by simp))
      exact ⟨rv, ⟨V.ref (hp.objs.size + 1), H2, J, rfl, q2⟩⟩
    | next => exact False.elim hq'
    | brk => exact False.elim hq'
    | cont => exact False.elim hq'
end
/-- e.f, e an exception held as a value -/
def tXv (K : PySem.W.Frag) (f : Str) (te : TE) : TE := fun σ H Q => te σ H fun x H1 => ∃ (a C d : Addr) (fs : List (Str × V)) (v : V), x = .ref a ∧ H1 a = some (exo a C (some d)) ∧ H1 d = some (exd d fs) ∧ XfC K C ∧ PySem.W.findIn K (.ref C) f = some none ∧ fs.lookup f = some v ∧ Q v H1
theorem pe_xv {X : Cx} {e : Expr} {te : TE} {pos : Pos} {n : Str} (he : PE X e te) (hb : attributeBase e n X.env (eval e X.env) = eval e X.env := by rfl) : PE X (.Attribute e n pos) (tXv X.K n te) := by
  refine ⟨fun pins s σ H Q I h => ?_⟩
  refine attr_of hb (thn (he.run pins s σ H _ I h) fun u s1 hh => ?_)
  obtain ⟨x, H1, I1, rx, a, C, d, fs, v, ex, ea, ed, T, hno, l, q⟩ := hh
  subst ex
  obtain rfl : u = Value.ref a := rx
  obtain ⟨t1, ho⟩ := exo_at I1.hok ea
  obtain ⟨mA, hns, hr⟩ := exd_at I1.hok ed
  obtain ⟨od, hod, hl⟩ := lookIn_ns hns
  obtain ⟨u, hu, ru⟩ := RelO.some_of (v := v) (o := mA n) (by rw [← l]; exact hr n)
  have J : PySem.W.InstAt s1.heap a _ C (some od) := ⟨ho, rfl, rfl, hod⟩
  exact HandSPX.exc_get I1.kIn J T.ga T.gg T.exC (PySem.W.findObj_own T.hdC hno rfl (by rw [hl, hu])) (handed_of ru) ⟨v, H1, I1.tok _, ru, q⟩
/-- isinstance(e, c), e an exception held as a value -/
def rIsV (K : PySem.W.Frag) : List V → Hp → VK → Prop := fun xs H Q => ∃ (a C d : Addr) (c : V) (cv : Value) (b : Bool) (fs : List (Str × V)), xs = [.ref a, c] ∧ H a = some (exo a C (some d)) ∧ H d = some (exd d fs) ∧ ExcD K C ∧ ClsV c cv ∧ PySem.W.kitOne K (.ref C) cv = some b ∧ Q (.bl b) H
theorem call_isV {X : Cx} : CallR X (.builtin "isinstance") (rIsV X.K) := by
  intro pins s σ H xs us Q I r h
  obtain ⟨a, D, d, c, cv, b, fs, rfl, ea, ed, C, hcv, e, q⟩ := h
  obtain ⟨u1, u2, rfl, r1, r2⟩ := vals2 r
  cases (show u1 = Value.ref a from r1)
  have e2 := hcv.eq r2
  subst e2
  obtain ⟨t1, ho⟩ := exo_at I.hok ea
  obtain ⟨mA, ⟨od, es, ep, hod, hr⟩, _⟩ := exd_at I.hok ed
  have J : PySem.W.InstAt s.heap a _ D (some od) := ⟨ho, rfl, rfl, hod⟩
  exact PySem.W.kia_one (PySem.W.kitx_exc C.hc C.hg C.hk C.hs C.ha C.hn C.ht C.hm) I.kIn J e (fun z => nomatch z) fun tk => ⟨.bl b, H, I.tok tk, rfl, q⟩
/-! ### the eight classes -/
def kindsV (K : PySem.W.Frag) : List Value := [.ref (He.ga K "StoreError"), .type "ValueError", .ref (He.ga K "BadValue"), .ref (He.ga K "Broken"), .ref (He.ga K "Unknown"), .ref (He.ga K "NotHeld"), .ref (He.ga K "Fault"), .ref (He.ga K "NoRoom"), .ref (He.ga K "Cut"), .ref (He.ga K "BadLine")]
def bitsV (k : Nat) : List Bool := [true, true, decide (k = 0), decide (k = 1), decide (k = 2), decide (k = 3), decide (k = 4), decide (k = 5), decide (k = 6), decide (k = 7)]
def kindsOk (K : PySem.W.Frag) (C : Addr) (k : Nat) : Prop := (kindsV K).map (fun cv => PySem.W.kitOne K (.ref C) cv) = (bitsV k).map some
structure ExV (K : PySem.W.Frag) (n : Str) (fs : List Str) (k : Nat) : Prop where
  oex : OexC K (He.ga K n)
  ini : PySem.W.findIn K (.ref (He.ga K n)) "__init__" = some (some (.ref (He.ma K (He.ga K n) "__init__")))
  typ : PySem.W.typeIn K (.ref (He.ma K (He.ga K n) "__init__")) = some (.type "function")
  no : ∀ f ∈ ("told" : Str) :: fs, PySem.W.findIn K (.ref (He.ga K n)) f = some none
  xf : XfC K (He.ga K n)
  dd : ExcD K (He.ga K n)
  ks : kindsOk K (He.ga K n) k
def exvB (K : PySem.W.Frag) (n : Str) (fs : List Str) (k : Nat) : Bool := oexB K (He.ga K n) && (decide (PySem.W.findIn K (.ref (He.ga K n)) "__init__" = some (some (.ref (He.ma K (He.ga K n) "__init__")))) && (decide (PySem.W.typeIn K (.ref (He.ma K (He.ga K n) "__init__")) = some (.type "function")) &&
  (((("told" : Str) :: fs).all fun f => decide (PySem.W.findIn K (.ref (He.ga K n)) f = some none)) && (xfB K (He.ga K n) && (excdB K (He.ga K n) && decide ((kindsV K).map (fun cv => PySem.W.kitOne K (.ref (He.ga K n)) cv) = (bitsV k).map some))))))
theorem exvB_ok {K : PySem.W.Frag} {n : Str} {fs : List Str} {k : Nat} (h : exvB K n fs k = true) : ExV K n fs k := by
  obtain ⟨h1, h⟩ := Bool.and_eq_true_iff.mp h
  obtain ⟨h2, h⟩ := Bool.and_eq_true_iff.mp h
  obtain ⟨h3, h⟩ := Bool.and_eq_true_iff.mp h
  obtain ⟨h4, h⟩ := Bool.and_eq_true_iff.mp h
  obtain ⟨h5, h⟩ := Bool.and_eq_true_iff.mp h
  obtain ⟨h6, h7⟩ := Bool.and_eq_true_iff.mp h
  exact ⟨oexB_ok h1, of_decide_eq_true h2, of_decide_eq_true h3, fun f hf => of_decide_eq_true (List.all_eq_true.mp h4 f hf), xfB_ok h5, excdB_ok h6, by unfold kindsOk; exact of_decide_eq_true h7⟩
theorem ExV.kit {K : PySem.W.Frag} {n : Str} {fs : List Str} {k : Nat} (h : ExV K n fs k) {i : Nat} {cv : Value} {b : Bool} (h1 : (kindsV K)[i]? = some cv) (h2 : (bitsV k)[i]? = some b) : PySem.W.kitOne K (.ref (He.ga K n)) cv = some b := by
  have e := congrArg (fun l => l[i]?) h.ks
  simp only [List.getElem?_map, h1, h2, Option.map_some, Option.some.injEq] at e
  exact e
/-- an exception of the class n held as a value at a: its fields vs, and what it tells -/
def ExAt (K : PySem.W.Frag) (n title : Str) (fs : List Str) (a : Addr) (vs : List V) (H : Hp) : Prop := ∃ d p1 p2 : Addr, H a = some (exo a (He.ga K n) (some d)) ∧ H d = some (exd d (("told", .ref p2) :: (fs.zip vs).reverse)) ∧ H p1 = some (.tup vs) ∧ H p2 = some (.tup [.str title, .ref p1])
theorem ExAt.same {K : PySem.W.Frag} {n title : Str} {fs : List Str} {a : Addr} {vs : List V} {H H' : Hp} (h : ExAt K n title fs a vs H) (s : Same H H') : ExAt K n title fs a vs H' := by
  obtain ⟨d, p1, p2, e1, e2, e3, e4⟩ := h
  exact ⟨d, p1, p2, s _ _ e1, s _ _ e2, s _ _ e3, s _ _ e4⟩
/-- n.__init__ as a value's maker -/
def sp_ExV (K : PySem.W.Frag) (n : Str) (fs : List Str) : Sp := fun vs H Q _ => ∃ (a : Addr) (ns : List V), vs = .ref a :: ns ∧ ns.length = fs.length ∧ H a = some (exo a (He.ga K n) none) ∧ ∀ H', ExAt K n n fs a ns H' → (∀ b o, b ≠ a → H b = some o → H' b = some o) → Q .non H'
theorem same_made {H H2 : Hp} {a : Addr} {o : HO} (hn : H a = none) (k : ∀ b u, b ≠ a → upd H a o b = some u → H2 b = some u) : Same H H2 := fun b u e => k b u (ne_of_none e hn) (by rw [upd_ne (ne_of_none e hn)]; exact e)
end LL

namespace LL
open PySem PySem.Spec PyProof.Rows L2 L2H
/-! ### list(range(i, j, k)) -/
def stepV (i k : Int) (n : Nat) : List V := (List.range n).map fun j => V.int (i + (j : Nat) * k)
theorem stepV_len {i k : Int} {n : Nat} : (stepV i k n).length = n := by unfold stepV; rw [List.length_map, List.length_range]
theorem size_step {i k : Int} {n : Nat} (hk : 0 < k) : Builtin.Range.rangeSize i (i + n * k) k = n := by
  unfold Builtin.Range.rangeSize
  rw [if_pos hk]
  cases n with
  | zero => rw [if_neg (by simp)]; rfl
  | succ m =>
    have e : ((m + 1 : Nat) : Int) * k = k + (m : Int) * k := by rw [show ((m + 1 : Nat) : Int) = 1 + m by omega, Int.add_mul, Int.one_mul]
    have hm : 0 ≤ (m : Int) * k := Int.mul_nonneg (by omega) (by omega)
    rw [if_pos (by omega), show i + ((m + 1 : Nat) : Int) * k - i - 1 = (k - 1) + (m : Int) * k by omega, Int.add_mul_ediv_right _ _ (by omega), Int.ediv_eq_zero_of_lt (by omega) (by omega)]
    omega
theorem small_step {i k : Int} {n : Nat} (hk : 0 < k) (k1 : k ≤ 1000000) (i0 : 0 ≤ i) (i1 : i ≤ 1000000) (hn : n ≤ 100000) : Builtin.Range.small i (i + n * k) k = true := by
  have h1 : (n : Int) * k ≤ 100000 * 1000000 := Int.mul_le_mul (by omega) k1 (by omega) (by omega)
  have h0 : 0 ≤ (n : Int) * k := Int.mul_nonneg (by omega) (by omega)
  unfold Builtin.Range.small
  rw [size_step hk]
  simp only [Builtin.Range.rangeFitsLong, Bool.and_eq_true, Bool.or_eq_true, decide_eq_true_eq, beq_iff_eq]
  have : k > 0 := hk
  simp only [this, if_true]
  generalize (n : Int) * k = z at h0 h1 ⊢
  refine ⟨⟨⟨⟨⟨by omega, by omega⟩, by omega, by omega⟩, by omega, by omega⟩, by omega, by omega⟩, .inr ?_⟩
  rw [decide_eq_true (by omega), decide_eq_true (by omega)]
  rfl
def tLstRg3 (ta : TA) : TE := fun σ H Q => ta σ H fun vs H1 => ∃ (i k : Int) (n : Nat), vs = [.int i, .int (i + n * k), .int k] ∧ 0 < k ∧ k ≤ 1000000 ∧ 0 ≤ i ∧ i ≤ 1000000 ∧ n ≤ 100000 ∧ ∀ q, H1 q = none → Q (.ref q) (upd H1 q (.lst (stepV i k n)))
theorem vals_step {i k : Int} {n : Nat} {acc : Array Value} (h : ItemsOf (fun j v => ∃ t, v = .int (i + j * k) t) acc n) : Vals (stepV i k n) acc.toList := by
  have e : acc.toList.length = n := by rw [Array.length_toList]; exact h.1
  unfold stepV
  rw [← e]
  refine vals_of_get acc.toList (fun j => V.int (i + (j : Nat) * k)) fun j u hj => ?_
  obtain ⟨t, rfl⟩ := h.2 j u (by rw [← hj, Array.getElem?_toList])
  exact ⟨t, rfl⟩
theorem pe_listRg3 {X : Cx} {a b c : Expr} {ta : TA} {p p2 pos pos2 : Pos} (hcalm : X.calm = true) (hl : Gl X "list") (ml : X.mg "list" = none) (hg : Gl X "range") (hm : X.mg "range" = none) (ha : PA X [a, b, c] ta)
    (hs : starEach [a, b, c] X.env = (false, eval a X.env) :: starEach [b, c] X.env := by rfl) (hpl : (backTo pos (starEach [b, c] X.env)).any (·.1) = false := by rfl)
    (na : starEach [Expr.Call (.Name "range" p) [a, b, c] [] pos] X.env = (false, eval (Expr.Call (.Name "range" p) [a, b, c] [] pos) X.env) :: starEach [] X.env := by rfl) :
    PE X (.Call (.Name "list" p2) [.Call (.Name "range" p) [a, b, c] [] pos] [] pos2) (tLstRg3 ta) := by
  refine ⟨fun pins s σ H Q I h => ?_⟩
  have hr : wpAny (model X.prog X.w) X.A (eval (Expr.Call (.Name "range" p) [a, b, c] [] pos) X.env)
      (fun x s' => ∃ r i k n t u v H', x = .ref r ∧ IsRange s'.heap r i (i + (n : Nat) * k) k t u v ∧ Inv X pins σ H' s' ∧ (0 < k ∧ k ≤ 1000000 ∧ 0 ≤ i ∧ i ≤ 1000000 ∧ n ≤ 100000) ∧ ∀ q, H' q = none → Q (.ref q) (upd H' q (.lst (stepV i k n)))) X.xe s := by
    refine Call_ (ld_blt I hg hm boot_range (PyProof.Rows.callWith_type1 (thn (ha.run pos pins s σ H _ I h) fun us s1 ⟨vs, H1, I1, r1, q1⟩ => ?_) hs hpl))
    obtain ⟨i, k, n, e, k0, k1, i0, i1, hn, q⟩ := q1
    subst e
    cases r1 with
    | cons x1 rr =>
      cases rr with
      | cons x2 rr =>
        cases rr with
        | cons x3 rr =>
          cases rr
          obtain ⟨t1, rfl⟩ := x1
          obtain ⟨t2, rfl⟩ := x2
          obtain ⟨t3, rfl⟩ := x3
          refine call_range_3 (show k ≠ 0 by omega) ?_ (.inl (PyProof.noPylong_small (by omega)))
          exact ⟨_, i, k, n, _, _, _, H1, rfl, IsRange.new _ _ _ _ _ _ _, I1.kept (t' := s1.toks) fun b u e => Heap.get?_push_of_some _ e, ⟨k0, k1, i0, i1, hn⟩, q⟩
  refine Call_ (ld_blt I hl ml boot_list (PyProof.Rows.callWith_type1 (args_cons (thn hr fun x s1 ⟨r, i, k, n, t, u, v, H1, ex, hrg, I1, ⟨k0, k1, i0, i1, hn⟩, q⟩ => args_nil ?_) na) na))
  subst ex
  refine call_list_range (n := n) (I1.ok.hd hcalm) hrg (small_step k0 k1 i0 i1 hn) (size_step k0) (by omega) fun h' tk acc c' hk e' hi => ?_
  refine ⟨.ref s1.heap.objs.size, upd H1 s1.heap.objs.size (.lst (stepV i k n)), I1.laid hk (Nat.le_refl _) (show ObjOk X.prog X.w _ _ _ (.lst (stepV i k n)) from ⟨?_, acc.toList, c', vals_step hi, ?_⟩), rfl, q _ (I1.hok.fresh (Nat.le_refl _))⟩
  · rw [stepV_len]; exact Nat.le_of_lt (small_sz (by omega))
  · rw [Array.toArray_toList]; exact e'
end LL

namespace LL
open PySem PySem.Spec PyProof.Rows L2
/-! ### the head, with the getters of properties -/
/-- a property of a class, its getter's text -/
structure PrD where
  cls : Str
  name : Str
  qual : Str
  params : PySem.Arguments
  body : List Stmt
  scope : Scope
def gAd (K : PySem.W.Frag) (c x : Str) : Addr := match PySem.W.recIn K (He.ma K (He.ga K c) x) "property" with
  | some (.ref g :: _) => g
  | _ => 0
def gW (K : PySem.W.Frag) (d : PrD) : He.FnW := match List.lookup (gAd K d.cls d.name) K with
  | some ⟨_, _, .func fd, _⟩ => some (fd.name, fd.qualname, fd.params, fd.body, fd.scope, fd.globals, fd.closure, fd.builtins)
  | _ => none
def PrD.val (d : PrD) : He.FnW := some (d.name, d.qual, d.params, .stmts d.body, d.scope, mainGlobals, [], builtinsNs)
def gFn (K : PySem.W.Frag) (d : PrD) : Bool := PySem.W.keepIn K (.ref (gAd K d.cls d.name)) && match List.lookup (gAd K d.cls d.name) K with
  | some ⟨_, _, .func fd, _⟩ => PySem.W.codeIn K fd.code d.qual && (He.dflB K fd.defaults [] && He.kwdB K fd.kwdefaults [])
  | _ => false
def gPr (K : PySem.W.Frag) (d : PrD) : Bool := He.eqO (PySem.W.findIn K (.ref (He.ga K d.cls)) d.name) (some (some (.ref (He.ma K (He.ga K d.cls) d.name)))) && (He.eqO (PySem.W.specialIn K (.ref (He.ma K (He.ga K d.cls) d.name)) "__get__") (some (some (.builtin "property.__get__"))) && ((match PySem.W.takesIn K (.ref (He.ma K (He.ga K d.cls) d.name)) with | some b => b | none => false) && match PySem.W.recIn K (He.ma K (He.ga K d.cls) d.name) "property" with
  | some (.ref _ :: _) => true
  | _ => false))
def PrD.ok (K : PySem.W.Frag) (d : PrD) : Bool := gFn K d && gPr K d
theorem PrD.funD {K : PySem.W.Frag} {d : PrD} (e : gW K d = d.val) (c : gFn K d = true) : ∃ fd, FunD K d.name d.qual d.params d.body d.scope [] [] (gAd K d.cls d.name) fd := by
  obtain ⟨kp, c2⟩ := He.ba c
  unfold gW PrD.val at e
  cases h : List.lookup (gAd K d.cls d.name) K with
  | none => rw [h] at c2; cases c2
  | some o =>
    rw [h] at e c2
    obtain ⟨oc, od, dt, osl⟩ := o
    cases dt with
    | func fd =>
      obtain ⟨c3, c4⟩ := He.ba c2
      obtain ⟨c5, c6⟩ := He.ba c4
      obtain ⟨n, q, p, b, sc, gl, cl, dV, kV, doc, pm, an, cdv, ct, bi⟩ := fd
      simp only [Option.some.injEq, Prod.mk.injEq] at e
      obtain ⟨rfl, rfl, rfl, rfl, rfl, rfl, rfl, rfl⟩ := e
      exact ⟨_, ⟨⟨oc, od, dV, kV, doc, pm, an, cdv, ct, osl, rfl, h, c3, He.dflB_ok c5, He.kwdB_ok c6⟩, kp⟩⟩
    | _ => cases c2
theorem PrD.prop {K : PySem.W.Frag} {d : PrD} (c : gPr K d = true) : PropOf K (He.ga K d.cls) d.name (He.ma K (He.ga K d.cls) d.name) (gAd K d.cls d.name) := by
  obtain ⟨c1, c2⟩ := He.ba c
  obtain ⟨c2, c3⟩ := He.ba c2
  obtain ⟨c3, c4⟩ := He.ba c3
  refine ⟨He.eqO_ok c1, He.eqO_ok c2, ?_, ?_⟩
  · cases h : PySem.W.takesIn K (.ref (He.ma K (He.ga K d.cls) d.name)) with
    | none => rw [h] at c3; cases c3
    | some b => rw [h] at c3; rw [show b = true from c3]
  · unfold gAd
    cases h : PySem.W.recIn K (He.ma K (He.ga K d.cls) d.name) "property" with
    | none => rw [h] at c4; cases c4
    | some l =>
      rw [h] at c4
      cases l with
      | nil => cases c4
      | cons v r =>
        cases v with
        | ref g => exact ⟨r, rfl⟩
        | _ => cases c4
abbrev AlP : Type := (He.AlD × Bool) × List He.FnW
def obsP (n : Nat) (fa : List He.Fa) (fn : List He.DefD) (pr : List PrD) (ex : PySem.W.Frag → Bool) (g : Addr → Option Obj) : AlP := ((He.obsD fa fn (He.frG g (He.asD g n)), ex (He.frG g (He.asD g n)) && pr.all fun d => d.ok (He.frG g (He.asD g n))), pr.map fun d => gW (He.frG g (He.asD g n)) d)
structure SaysP (fa : List He.Fa) (fn : List He.DefD) (pr : List PrD) (ex : PySem.W.Frag → Bool) (K : PySem.W.Frag) : Prop where
  d : He.SaysD fa fn K
  x : (ex K && pr.all fun d => d.ok K) = true
  w : (pr.map fun d => gW K d) = pr.map PrD.val
def hookP (n : Nat) (fa : List He.Fa) (fn : List He.DefD) (pr : List PrD) (ex : PySem.W.Frag → Bool) : PySem.W.Hook where
  α := AlP
  obs := fun s => obsP n fa fn pr ex s.heap.get?
  val := fun _ => ((He.valD fn, true), pr.map PrD.val)
  says := fun _ h => ∃ K : PySem.W.Frag, K.In h ∧ SaysP fa fn pr ex K
  of := fun _ _ e => ⟨_, He.frG_in, ⟨congrArg (fun z : AlP => z.1.1) e, congrArg (fun z : AlP => z.1.2) e, congrArg (fun z : AlP => z.2) e⟩⟩
  keeps := fun _ _ _ ⟨K, hK, c⟩ k => ⟨K, PySem.W.Frag.In.keeps hK k, c⟩
theorem obsP_eq {n : Nat} {fa : List He.Fa} {fn : List He.DefD} {pr : List PrD} {ex : PySem.W.Frag → Bool} {g : Addr → Option Obj} {s : Shared} (h : ∀ a, g a = s.heap.get? a) : obsP n fa fn pr ex g = (hookP n fa fn pr ex).obs s := by
  have e : g = s.heap.get? := funext h
  rw [e]
  rfl
theorem SaysP.y {fa : List He.Fa} {fn : List He.DefD} {pr : List PrD} {ex : PySem.W.Frag → Bool} {K : PySem.W.Frag} (c : SaysP fa fn pr ex K) : SaysY fa fn ex K := ⟨c.d, (Bool.and_eq_true_iff.mp c.x).1⟩
theorem SaysP.pr {fa : List He.Fa} {fn : List He.DefD} {pr : List PrD} {ex : PySem.W.Frag → Bool} {K : PySem.W.Frag} (c : SaysP fa fn pr ex K) (i : Nat) {d : PrD} (h : pr[i]? = some d := by rfl) : (∃ fd, FunD K d.name d.qual d.params d.body d.scope [] [] (gAd K d.cls d.name) fd) ∧ PropOf K (He.ga K d.cls) d.name (He.ma K (He.ga K d.cls) d.name) (gAd K d.cls d.name) := by
  have h1 := List.all_eq_true.mp (Bool.and_eq_true_iff.mp c.x).2 d (List.mem_of_getElem? h)
  obtain ⟨h2, h3⟩ := He.ba h1
  refine ⟨PrD.funD ?_ h2, PrD.prop h3⟩
  have e := congrArg (fun l => l[i]?) c.w
  simp only [List.getElem?_map, h, Option.map_some, Option.some.injEq] at e
  exact e
end LL

namespace LL
open PySem PySem.W PySem.Calls PyProof.Rows HandSHeadRun
/-- one look of the run's end -/
def RunOne {β : Type} (r : OpenRow) (M : Nat) (f : SharedT → β) (v : β) (w : World) : Prop :=
  ∀ os : OsState, (endF (stepQ (denQ tabQ) r.prog w) M r.prog w os).map f = some v
/-- the look without the hook -/
def RunA (r : OpenRow) (q : Program) (M : Nat) (loose : List PySem.Str) (w : World) : Prop :=
  ∀ os : OsState, (endF (stepQ (denQ tabQ) r.prog w) M r.prog w os).map (fun s => (looksF r.prog (boot_heap w.params) s.abs, HandSHeadRun.seenQ q loose (importedModules r.prog.main.body) (fun s => xlAt q [] s && recOk r.toRowW.records s) s.abs)) = some (true, openGood q loose)
theorem opt_three {α β γ δ : Type} {x : Option α} {f : α → β × γ} {h : α → δ} {b : β} {c : γ} {d : δ} (h1 : x.map f = some (b, c)) (h3 : x.map h = some d) : x.map (fun s => ((f s).1, (f s).2, h s)) = some (b, c, d) := by
  cases x with
  | none => cases h1
  | some s => simp only [Option.map_some, Option.some.injEq] at h1 h3 ⊢; rw [h1, h3]
theorem opt_two {α β γ δ : Type} {x : Option α} {f : α → β} {g : α → γ} {g' : α → δ} {b : β} {c : γ} {d : δ} (h1 : x.map f = some b) (h2 : x.map (fun s => (g s, g' s)) = some (c, d)) : x.map (fun s => ((f s, g s), g' s)) = some ((b, c), d) := by
  cases x with
  | none => cases h1
  | some s => simp only [Option.map_some, Option.some.injEq, Prod.mk.injEq] at h1 h2 ⊢; rw [h1, h2.1, h2.2]; exact ⟨⟨rfl, rfl⟩, rfl⟩
/-- the run's equation from three looks of it -/
theorem run_parts {r : OpenRow} {q : Program} {M n : Nat} {loose : List PySem.Str} {w : World} {fa : List He.Fa} {fn : List He.DefD} {pr : List PrD} {ex : PySem.W.Frag → Bool}
    (h1 : RunA r q M loose w)
    (h2 : RunOne r M (fun s => He.obsD fa fn (He.frG (getT s) (He.asD (getT s) n))) (He.valD fn) w)
    (h3 : RunOne r M (fun s => ((ex (He.frG (getT s) (He.asD (getT s) n)) && pr.all fun d => d.ok (He.frG (getT s) (He.asD (getT s) n))), pr.map fun d => gW (He.frG (getT s) (He.asD (getT s) n)) d)) (true, pr.map PrD.val) w) :
    RunEq r q (hookP n fa fn pr ex) (fun s => obsP n fa fn pr ex (getT s)) M loose w := fun os =>
  opt_three (h1 os) (opt_two (h2 os) (h3 os))
theorem opt_four {α β : Type} {x : Option α} {a b c : α → Bool} {f : α → β} {g : α → Bool × β} {v : β} (ha : x.map a = some true) (hb : x.map b = some true) (hc : x.map c = some true) (hf : x.map f = some v) (hg : ∀ s, g s = (a s && (b s && c s), f s)) : x.map g = some (true, v) := by
  cases x with
  | none => cases ha
  | some s =>
    simp only [Option.map_some, Option.some.injEq] at ha hb hc hf ⊢
    rw [hg, ha, hb, hc, hf]
    rfl
/-- the run's equation from six looks of it: the least memory at once -/
theorem run_parts6 {r : OpenRow} {q : Program} {M n : Nat} (m : Nat) {loose : List PySem.Str} {w : World} {fa : List He.Fa} {fn : List He.DefD} {pr : List PrD} {ex : PySem.W.Frag → Bool}
    (h1 : RunA r q M loose w)
    (h2 : RunOne r M (fun s => fa.all fun f => f.ok (He.frG (getT s) (He.asD (getT s) n))) true w)
    (h3 : RunOne r M (fun s => (fn.take m).all fun d => d.ok (He.frG (getT s) (He.asD (getT s) n))) true w)
    (h4 : RunOne r M (fun s => (fn.drop m).all fun d => d.ok (He.frG (getT s) (He.asD (getT s) n))) true w)
    (h5 : RunOne r M (fun s => fn.map fun d => He.fnW (He.frG (getT s) (He.asD (getT s) n)) d.at_) (He.valD fn).2 w)
    (h6 : RunOne r M (fun s => ((ex (He.frG (getT s) (He.asD (getT s) n)) && pr.all fun d => d.ok (He.frG (getT s) (He.asD (getT s) n))), pr.map fun d => gW (He.frG (getT s) (He.asD (getT s) n)) d)) (true, pr.map PrD.val) w) :
    RunEq r q (hookP n fa fn pr ex) (fun s => obsP n fa fn pr ex (getT s)) M loose w :=
  run_parts h1 (fun os => opt_four (h2 os) (h3 os) (h4 os) (h5 os) fun s => by
    show ((fa.all _ && fn.all _, fn.map _) : Bool × _) = _
    rw [← List.all_append, List.take_append_drop]) h6
end LL

namespace LL
open PySem PySem.W PySem.Calls PyProof.Rows HandSHeadRun
/-! ### the head's look with addresses found by breadth: each object is read once -/
/-- what is new of a list of addresses: seen is a set of bits -/
def newB : List Addr → Nat → List Addr → List Addr × Nat
  | [], m, acc => (acc, m)
  | a :: r, m, acc => match Nat.beq (Nat.land (Nat.shiftRight m a) 1) 0 with
    | true => newB r (Nat.lor m (Nat.shiftLeft 1 a)) (a :: acc)
    | false => newB r m acc
def stepB (g : Addr → Option Obj) (fr : List Addr) : List Addr := fr.flatMap fun a => match g a with
  | some o => He.refsD o
  | none => []
def bfsB (g : Addr → Option Obj) : Nat → Nat → List Addr → List Addr → List Addr
  | 0, _, fr, seen => fr ++ seen
  | n + 1, m, fr, seen => match newB (stepB g fr) m [] with
    | (fr', m') => bfsB g n m' fr' (fr ++ seen)
def asB (g : Addr → Option Obj) (n : Nat) : List Addr := bfsB g n (Nat.shiftLeft 1 mainGlobals) [mainGlobals] []
def obsB (n : Nat) (fa : List He.Fa) (fn : List He.DefD) (pr : List PrD) (ex : PySem.W.Frag → Bool) (g : Addr → Option Obj) : AlP := ((He.obsD fa fn (He.frG g (asB g n)), ex (He.frG g (asB g n)) && pr.all fun d => d.ok (He.frG g (asB g n))), pr.map fun d => gW (He.frG g (asB g n)) d)
def hookB (n : Nat) (fa : List He.Fa) (fn : List He.DefD) (pr : List PrD) (ex : PySem.W.Frag → Bool) : PySem.W.Hook where
  α := AlP
  obs := fun s => obsB n fa fn pr ex s.heap.get?
  val := fun _ => ((He.valD fn, true), pr.map PrD.val)
  says := fun _ h => ∃ K : PySem.W.Frag, K.In h ∧ SaysP fa fn pr ex K
  of := fun _ _ e => ⟨_, He.frG_in, ⟨congrArg (fun z : AlP => z.1.1) e, congrArg (fun z : AlP => z.1.2) e, congrArg (fun z : AlP => z.2) e⟩⟩
  keeps := fun _ _ _ ⟨K, hK, c⟩ k => ⟨K, PySem.W.Frag.In.keeps hK k, c⟩
theorem obsB_eq {n : Nat} {fa : List He.Fa} {fn : List He.DefD} {pr : List PrD} {ex : PySem.W.Frag → Bool} {g : Addr → Option Obj} {s : Shared} (h : ∀ a, g a = s.heap.get? a) : obsB n fa fn pr ex g = (hookB n fa fn pr ex).obs s := by
  have e : g = s.heap.get? := funext h
  rw [e]
  rfl
theorem run_partsB {r : OpenRow} {q : Program} {M n : Nat} {loose : List PySem.Str} {w : World} {fa : List He.Fa} {fn : List He.DefD} {pr : List PrD} {ex : PySem.W.Frag → Bool}
    (h1 : RunA r q M loose w)
    (h2 : RunOne r M (fun s => He.obsD fa fn (He.frG (getT s) (asB (getT s) n))) (He.valD fn) w)
    (h3 : RunOne r M (fun s => ((ex (He.frG (getT s) (asB (getT s) n)) && pr.all fun d => d.ok (He.frG (getT s) (asB (getT s) n))), pr.map fun d => gW (He.frG (getT s) (asB (getT s) n)) d)) (true, pr.map PrD.val) w) :
    RunEq r q (hookB n fa fn pr ex) (fun s => obsB n fa fn pr ex (getT s)) M loose w := fun os =>
  opt_three (h1 os) (opt_two (h2 os) (h3 os))
/-- the run's equation from six looks of it -/
theorem run_partsB6 {r : OpenRow} {q : Program} {M n : Nat} (m : Nat) {loose : List PySem.Str} {w : World} {fa : List He.Fa} {fn : List He.DefD} {pr : List PrD} {ex : PySem.W.Frag → Bool}
    (h1 : RunA r q M loose w)
    (h2 : RunOne r M (fun s => fa.all fun f => f.ok (He.frG (getT s) (asB (getT s) n))) true w)
    (h3 : RunOne r M (fun s => (fn.take m).all fun d => d.ok (He.frG (getT s) (asB (getT s) n))) true w)
    (h4 : RunOne r M (fun s => (fn.drop m).all fun d => d.ok (He.frG (getT s) (asB (getT s) n))) true w)
    (h5 : RunOne r M (fun s => fn.map fun d => He.fnW (He.frG (getT s) (asB (getT s) n)) d.at_) (He.valD fn).2 w)
    (h6 : RunOne r M (fun s => ((ex (He.frG (getT s) (asB (getT s) n)) && pr.all fun d => d.ok (He.frG (getT s) (asB (getT s) n))), pr.map fun d => gW (He.frG (getT s) (asB (getT s) n)) d)) (true, pr.map PrD.val) w) :
    RunEq r q (hookB n fa fn pr ex) (fun s => obsB n fa fn pr ex (getT s)) M loose w :=
  run_partsB h1 (fun os => opt_four (h2 os) (h3 os) (h4 os) (h5 os) fun s => by
    show ((fa.all _ && fn.all _, fn.map _) : Bool × _) = _
    rw [← List.all_append, List.take_append_drop]) h6
end LL

/-! what isinstance asks of an own class -/
namespace LL
open PySem PySem.Spec PyProof.Rows L2
structure OwnC (K : PySem.W.Frag) (C : Addr) : Prop where
  ha : PySem.W.findIn K (.ref C) "__class__" = some (some (.builtin "object.__class__"))
  hn : PySem.W.specialIn K (.builtin "object.__class__") "__get__" = some (some (.builtin "getset_descriptor.__get__"))
  htk : PySem.W.takesIn K (.builtin "object.__class__") = some true
  hm : PySem.W.mroIn K C (.type "object") = some true
  me : PySem.W.kitOne K (.ref C) (.ref C) = some true
  no : ∀ n ∈ ["NoneType", "bool", "int", "str", "list", "tuple", "dict"], PySem.W.kitOne K (.type n) (.ref C) = some false
def ownB (K : PySem.W.Frag) (C : Addr) : Bool :=
  decide (PySem.W.findIn K (.ref C) "__class__" = some (some (.builtin "object.__class__"))) && (decide (PySem.W.specialIn K (.builtin "object.__class__") "__get__" = some (some (.builtin "getset_descriptor.__get__"))) &&
  (decide (PySem.W.takesIn K (.builtin "object.__class__") = some true) && (decide (PySem.W.mroIn K C (.type "object") = some true) && (decide (PySem.W.kitOne K (.ref C) (.ref C) = some true) &&
  (["NoneType", "bool", "int", "str", "list", "tuple", "dict"].all fun n => decide (PySem.W.kitOne K (.type n) (.ref C) = some false))))))
theorem ownB_ok {K : PySem.W.Frag} {C : Addr} (h : ownB K C = true) : OwnC K C := by
  unfold ownB at h
  obtain ⟨h1, h⟩ := Bool.and_eq_true_iff.mp h
  obtain ⟨h2, h⟩ := Bool.and_eq_true_iff.mp h
  obtain ⟨h3, h⟩ := Bool.and_eq_true_iff.mp h
  obtain ⟨h4, h⟩ := Bool.and_eq_true_iff.mp h
  obtain ⟨h5, h6⟩ := Bool.and_eq_true_iff.mp h
  exact ⟨of_decide_eq_true h1, of_decide_eq_true h2, of_decide_eq_true h3, of_decide_eq_true h4, of_decide_eq_true h5, fun n hn => of_decide_eq_true (List.all_eq_true.mp h6 n hn)⟩
/-- an exception's class, where not all of the eight stand -/
structure ExW (K : PySem.W.Frag) (n : Str) (fs : List Str) : Prop where
  oex : OexC K (He.ga K n)
  ini : PySem.W.findIn K (.ref (He.ga K n)) "__init__" = some (some (.ref (He.ma K (He.ga K n) "__init__")))
  typ : PySem.W.typeIn K (.ref (He.ma K (He.ga K n) "__init__")) = some (.type "function")
  no : ∀ f ∈ ("told" : Str) :: fs, PySem.W.findIn K (.ref (He.ga K n)) f = some none
  xf : XfC K (He.ga K n)
  dd : ExcD K (He.ga K n)
def exwB (K : PySem.W.Frag) (n : Str) (fs : List Str) : Bool := oexB K (He.ga K n) && (decide (PySem.W.findIn K (.ref (He.ga K n)) "__init__" = some (some (.ref (He.ma K (He.ga K n) "__init__")))) && (decide (PySem.W.typeIn K (.ref (He.ma K (He.ga K n) "__init__")) = some (.type "function")) &&
  (((("told" : Str) :: fs).all fun f => decide (PySem.W.findIn K (.ref (He.ga K n)) f = some none)) && (xfB K (He.ga K n) && excdB K (He.ga K n)))))
theorem exwB_ok {K : PySem.W.Frag} {n : Str} {fs : List Str} (h : exwB K n fs = true) : ExW K n fs := by
  obtain ⟨h1, h⟩ := Bool.and_eq_true_iff.mp h
  obtain ⟨h2, h⟩ := Bool.and_eq_true_iff.mp h
  obtain ⟨h3, h⟩ := Bool.and_eq_true_iff.mp h
  obtain ⟨h4, h⟩ := Bool.and_eq_true_iff.mp h
  obtain ⟨h5, h6⟩ := Bool.and_eq_true_iff.mp h
  exact ⟨oexB_ok h1, of_decide_eq_true h2, of_decide_eq_true h3, fun f hf => of_decide_eq_true (List.all_eq_true.mp h4 f hf), xfB_ok h5, excdB_ok h6⟩
end LL

/-! a default that is an empty tuple -/
namespace LL
open PySem PySem.Spec PyProof.Rows L2
section
variable {K : PySem.W.Frag}
def tup0B (K : PySem.W.Frag) (a : Addr) : Bool := match K.lookup a with
  | some ⟨.type c, _, .seq its _, _⟩ => decide (c = "tuple") && decide (its.size = 0)
  | _ => false
theorem tup0B_ok {a : Addr} (h : tup0B K a = true) (H : Hp) : SqT K H a [] := by
  unfold tup0B at h
  cases q : K.lookup a with
  | none =>
    rw [q] at h
    cases h
  | some o =>
    obtain ⟨oc, od, dt, osl⟩ := o
    rw [q] at h
    cases oc with
    | type c =>
      cases dt with
      | seq its n =>
        obtain ⟨h1, h2⟩ := Bool.and_eq_true_iff.mp (show (decide (c = "tuple") && decide (its.size = 0)) = true from h)
        have e : its = #[] := Array.eq_empty_of_size_eq_zero (of_decide_eq_true h2)
        subst e
        exact .inr ⟨_, #[], n, q, congrArg Value.type (of_decide_eq_true h1), rfl, Nat.zero_le _, .nil⟩
      | _ => cases h
    | _ => cases dt <;> cases h
end
end LL

namespace K05
open PySem PySem.Spec PyProof.Rows L2 LL
noncomputable def top (i : Nat) : Stmt := PySem.Challenge.pw_allgivenback_k05_starts.main.body.getD i (.Pass ⟨0, 0, 0, 0⟩)
noncomputable abbrev FnP (K : PySem.W.Frag) (x : Str) (st : Stmt) (f : Addr) (fd : FuncData) : Prop := FunD K x x (defArgs st) (defBody st) (defScope st) [] [] f fd
noncomputable def p_BadValue : { s : Stmt // inClass (top 3) 0 = s } := by
  refine ⟨?s, ?h⟩
  case h => conv => lhs; whnf
noncomputable abbrev s_BadValue : Stmt := p_BadValue.1
noncomputable abbrev P_BadValue : List Str := ["self", "parameter"]
theorem sc_BadValue : FnScope P_BadValue P_BadValue (defScope s_BadValue) := ⟨rfl, rfl, rfl, by decide +kernel, rfl, by decide +kernel, by decide +kernel⟩
noncomputable abbrev aBV (K : PySem.W.Frag) : Addr := He.ga K "BadValue"
noncomputable abbrev iBV (K : PySem.W.Frag) : Addr := He.ma K (He.ga K "BadValue") "__init__"
noncomputable def p_Places_init : { s : Stmt // inClass (top 31) 0 = s } := by
  refine ⟨?s, ?h⟩
  case h => conv => lhs; whnf
noncomputable abbrev s_Places_init : Stmt := p_Places_init.1
noncomputable abbrev N_Places_init : List Str := ["self", "spans", "span"]
noncomputable abbrev P_Places_init : List Str := ["self", "spans"]
theorem sc_Places_init : FnScope N_Places_init P_Places_init (defScope s_Places_init) := ⟨rfl, rfl, rfl, by decide +kernel, rfl, by decide +kernel, by decide +kernel⟩
noncomputable def p_Places_covers : { s : Stmt // inClass (top 31) 10 = s } := by
  refine ⟨?s, ?h⟩
  case h => conv => lhs; whnf
noncomputable abbrev s_Places_covers : Stmt := p_Places_covers.1
noncomputable abbrev N_Places_covers : List Str := ["self", "span", "at"]
noncomputable abbrev P_Places_covers : List Str := ["self", "span"]
theorem sc_Places_covers : FnScope N_Places_covers P_Places_covers (defScope s_Places_covers) := ⟨rfl, rfl, rfl, by decide +kernel, rfl, by decide +kernel, by decide +kernel⟩
noncomputable def p_Places_first_start : { s : Stmt // inClass (top 31) 11 = s } := by
  refine ⟨?s, ?h⟩
  case h => conv => lhs; whnf
noncomputable abbrev s_Places_first_start : Stmt := p_Places_first_start.1
noncomputable abbrev N_Places_first_start : List Str := ["self", "size", "align", "span", "start"]
noncomputable abbrev P_Places_first_start : List Str := ["self", "size", "align"]
theorem sc_Places_first_start : FnScope N_Places_first_start P_Places_first_start (defScope s_Places_first_start) := ⟨rfl, rfl, rfl, by decide +kernel, rfl, by decide +kernel, by decide +kernel⟩
noncomputable def p_Places_best_start : { s : Stmt // inClass (top 31) 12 = s } := by
  refine ⟨?s, ?h⟩
  case h => conv => lhs; whnf
noncomputable abbrev s_Places_best_start : Stmt := p_Places_best_start.1
noncomputable abbrev N_Places_best_start : List Str := ["self", "size", "align", "best", "least", "span", "start"]
noncomputable abbrev P_Places_best_start : List Str := ["self", "size", "align"]
theorem sc_Places_best_start : FnScope N_Places_best_start P_Places_best_start (defScope s_Places_best_start) := ⟨rfl, rfl, rfl, by decide +kernel, rfl, by decide +kernel, by decide +kernel⟩
noncomputable def p_Places_spans : { s : Stmt // inClass (top 31) 1 = s } := by
  refine ⟨?s, ?h⟩
  case h => conv => lhs; whnf
noncomputable abbrev s_Places_spans : Stmt := p_Places_spans.1
noncomputable abbrev N_Places_spans : List Str := ["self"]
noncomputable abbrev P_Places_spans : List Str := ["self"]
theorem sc_Places_spans : FnScope N_Places_spans P_Places_spans (defScope s_Places_spans) := ⟨rfl, rfl, rfl, by decide +kernel, rfl, by decide +kernel, by decide +kernel⟩
noncomputable def p_wall : { s : Stmt // top 0 = s } := by
  refine ⟨?s, ?h⟩
  case h => conv => lhs; whnf
noncomputable abbrev s_wall : Stmt := p_wall.1
noncomputable abbrev N_wall : List Str := ["k"]
noncomputable abbrev P_wall : List Str := ["k"]
theorem sc_wall : FnScope N_wall P_wall (defScope s_wall) := ⟨rfl, rfl, rfl, by decide +kernel, rfl, by decide +kernel, by decide +kernel⟩
noncomputable def p_is_whole : { s : Stmt // top 11 = s } := by
  refine ⟨?s, ?h⟩
  case h => conv => lhs; whnf
noncomputable abbrev s_is_whole : Stmt := p_is_whole.1
noncomputable abbrev N_is_whole : List Str := ["value"]
noncomputable abbrev P_is_whole : List Str := ["value"]
theorem sc_is_whole : FnScope N_is_whole P_is_whole (defScope s_is_whole) := ⟨rfl, rfl, rfl, by decide +kernel, rfl, by decide +kernel, by decide +kernel⟩
noncomputable def p_need : { s : Stmt // top 13 = s } := by
  refine ⟨?s, ?h⟩
  case h => conv => lhs; whnf
noncomputable abbrev s_need : Stmt := p_need.1
noncomputable abbrev N_need : List Str := ["holds", "parameter"]
noncomputable abbrev P_need : List Str := ["holds", "parameter"]
theorem sc_need : FnScope N_need P_need (defScope s_need) := ⟨rfl, rfl, rfl, by decide +kernel, rfl, by decide +kernel, by decide +kernel⟩
noncomputable def p_need_whole : { s : Stmt // top 14 = s } := by
  refine ⟨?s, ?h⟩
  case h => conv => lhs; whnf
noncomputable abbrev s_need_whole : Stmt := p_need_whole.1
noncomputable abbrev N_need_whole : List Str := ["value", "low", "high", "parameter"]
noncomputable abbrev P_need_whole : List Str := ["value", "low", "high", "parameter"]
theorem sc_need_whole : FnScope N_need_whole P_need_whole (defScope s_need_whole) := ⟨rfl, rfl, rfl, by decide +kernel, rfl, by decide +kernel, by decide +kernel⟩
noncomputable def p_is_row : { s : Stmt // top 15 = s } := by
  refine ⟨?s, ?h⟩
  case h => conv => lhs; whnf
noncomputable abbrev s_is_row : Stmt := p_is_row.1
noncomputable abbrev N_is_row : List Str := ["value"]
noncomputable abbrev P_is_row : List Str := ["value"]
theorem sc_is_row : FnScope N_is_row P_is_row (defScope s_is_row) := ⟨rfl, rfl, rfl, by decide +kernel, rfl, by decide +kernel, by decide +kernel⟩
noncomputable def p_is_span : { s : Stmt // top 19 = s } := by
  refine ⟨?s, ?h⟩
  case h => conv => lhs; whnf
noncomputable abbrev s_is_span : Stmt := p_is_span.1
noncomputable abbrev N_is_span : List Str := ["value", "start", "size"]
noncomputable abbrev P_is_span : List Str := ["value"]
theorem sc_is_span : FnScope N_is_span P_is_span (defScope s_is_span) := ⟨rfl, rfl, rfl, by decide +kernel, rfl, by decide +kernel, by decide +kernel⟩
noncomputable def p_is_power : { s : Stmt // top 20 = s } := by
  refine ⟨?s, ?h⟩
  case h => conv => lhs; whnf
noncomputable abbrev s_is_power : Stmt := p_is_power.1
noncomputable abbrev N_is_power : List Str := ["value"]
noncomputable abbrev P_is_power : List Str := ["value"]
theorem sc_is_power : FnScope N_is_power P_is_power (defScope s_is_power) := ⟨rfl, rfl, rfl, by decide +kernel, rfl, by decide +kernel, by decide +kernel⟩
noncomputable def p_need_align : { s : Stmt // top 21 = s } := by
  refine ⟨?s, ?h⟩
  case h => conv => lhs; whnf
noncomputable abbrev s_need_align : Stmt := p_need_align.1
noncomputable abbrev N_need_align : List Str := ["value", "most", "parameter"]
noncomputable abbrev P_need_align : List Str := ["value", "most", "parameter"]
theorem sc_need_align : FnScope N_need_align P_need_align (defScope s_need_align) := ⟨rfl, rfl, rfl, by decide +kernel, rfl, by decide +kernel, by decide +kernel⟩
noncomputable def p_end_of : { s : Stmt // top 22 = s } := by
  refine ⟨?s, ?h⟩
  case h => conv => lhs; whnf
noncomputable abbrev s_end_of : Stmt := p_end_of.1
noncomputable abbrev N_end_of : List Str := ["span"]
noncomputable abbrev P_end_of : List Str := ["span"]
theorem sc_end_of : FnScope N_end_of P_end_of (defScope s_end_of) := ⟨rfl, rfl, rfl, by decide +kernel, rfl, by decide +kernel, by decide +kernel⟩
noncomputable def p_align_up : { s : Stmt // top 23 = s } := by
  refine ⟨?s, ?h⟩
  case h => conv => lhs; whnf
noncomputable abbrev s_align_up : Stmt := p_align_up.1
noncomputable abbrev N_align_up : List Str := ["number", "align"]
noncomputable abbrev P_align_up : List Str := ["number", "align"]
theorem sc_align_up : FnScope N_align_up P_align_up (defScope s_align_up) := ⟨rfl, rfl, rfl, by decide +kernel, rfl, by decide +kernel, by decide +kernel⟩
noncomputable def p_merged : { s : Stmt // top 26 = s } := by
  refine ⟨?s, ?h⟩
  case h => conv => lhs; whnf
noncomputable abbrev s_merged : Stmt := p_merged.1
noncomputable abbrev N_merged : List Str := ["rows", "out", "start", "size", "first", "before"]
noncomputable abbrev P_merged : List Str := ["rows"]
theorem sc_merged : FnScope N_merged P_merged (defScope s_merged) := ⟨rfl, rfl, rfl, by decide +kernel, rfl, by decide +kernel, by decide +kernel⟩
noncomputable def p_gaps_in : { s : Stmt // top 27 = s } := by
  refine ⟨?s, ?h⟩
  case h => conv => lhs; whnf
noncomputable abbrev s_gaps_in : Stmt := p_gaps_in.1
noncomputable abbrev N_gaps_in : List Str := ["rows", "out", "edge", "start", "size"]
noncomputable abbrev P_gaps_in : List Str := ["rows"]
theorem sc_gaps_in : FnScope N_gaps_in P_gaps_in (defScope s_gaps_in) := ⟨rfl, rfl, rfl, by decide +kernel, rfl, by decide +kernel, by decide +kernel⟩
noncomputable def p_common : { s : Stmt // top 28 = s } := by
  refine ⟨?s, ?h⟩
  case h => conv => lhs; whnf
noncomputable abbrev s_common : Stmt := p_common.1
noncomputable abbrev N_common : List Str := ["mine", "others", "out", "at", "start", "size", "end", "ahead", "low", "high"]
noncomputable abbrev P_common : List Str := ["mine", "others"]
theorem sc_common : FnScope N_common P_common (defScope s_common) := ⟨rfl, rfl, rfl, by decide +kernel, rfl, by decide +kernel, by decide +kernel⟩
noncomputable def p_index_upto : { s : Stmt // top 29 = s } := by
  refine ⟨?s, ?h⟩
  case h => conv => lhs; whnf
noncomputable abbrev s_index_upto : Stmt := p_index_upto.1
noncomputable abbrev N_index_upto : List Str := ["rows", "place", "low", "high", "middle"]
noncomputable abbrev P_index_upto : List Str := ["rows", "place"]
theorem sc_index_upto : FnScope N_index_upto P_index_upto (defScope s_index_upto) := ⟨rfl, rfl, rfl, by decide +kernel, rfl, by decide +kernel, by decide +kernel⟩
noncomputable def p_start_in : { s : Stmt // top 30 = s } := by
  refine ⟨?s, ?h⟩
  case h => conv => lhs; whnf
noncomputable abbrev s_start_in : Stmt := p_start_in.1
noncomputable abbrev N_start_in : List Str := ["span", "size", "align", "start"]
noncomputable abbrev P_start_in : List Str := ["span", "size", "align"]
theorem sc_start_in : FnScope N_start_in P_start_in (defScope s_start_in) := ⟨rfl, rfl, rfl, by decide +kernel, rfl, by decide +kernel, by decide +kernel⟩
noncomputable def p_places_of : { s : Stmt // top 32 = s } := by
  refine ⟨?s, ?h⟩
  case h => conv => lhs; whnf
noncomputable abbrev s_places_of : Stmt := p_places_of.1
noncomputable abbrev N_places_of : List Str := ["rows", "made"]
noncomputable abbrev P_places_of : List Str := ["rows"]
theorem sc_places_of : FnScope N_places_of P_places_of (defScope s_places_of) := ⟨rfl, rfl, rfl, by decide +kernel, rfl, by decide +kernel, by decide +kernel⟩
noncomputable def p_law_draws : { s : Stmt // top 34 = s } := by
  refine ⟨?s, ?h⟩
  case h => conv => lhs; whnf
noncomputable abbrev s_law_draws : Stmt := p_law_draws.1
noncomputable abbrev N_law_draws : List Str := ["_law_script", "_law_cell"]
noncomputable abbrev P_law_draws : List Str := ["_law_script"]
theorem sc_law_draws : FnScope N_law_draws P_law_draws (defScope s_law_draws) := ⟨rfl, rfl, rfl, by decide +kernel, rfl, by decide +kernel, by decide +kernel⟩
noncomputable def p_law_next_cell : { s : Stmt // top 35 = s } := by
  refine ⟨?s, ?h⟩
  case h => conv => lhs; whnf
noncomputable abbrev s_law_next_cell : Stmt := p_law_next_cell.1
noncomputable abbrev N_law_next_cell : List Str := ["_law_draws_here", "_law_cells", "_law_state", "_law_cell"]
noncomputable abbrev P_law_next_cell : List Str := ["_law_draws_here"]
theorem sc_law_next_cell : FnScope N_law_next_cell P_law_next_cell (defScope s_law_next_cell) := ⟨rfl, rfl, rfl, by decide +kernel, rfl, by decide +kernel, by decide +kernel⟩
noncomputable def p_law_mixed : { s : Stmt // top 36 = s } := by
  refine ⟨?s, ?h⟩
  case h => conv => lhs; whnf
noncomputable abbrev s_law_mixed : Stmt := p_law_mixed.1
noncomputable abbrev N_law_mixed : List Str := ["_law_seed", "_law_turn", "_law_many", "_law_value", "_law_k", "_law_first", "_law_second"]
noncomputable abbrev P_law_mixed : List Str := ["_law_seed", "_law_turn", "_law_many"]
theorem sc_law_mixed : FnScope N_law_mixed P_law_mixed (defScope s_law_mixed) := ⟨rfl, rfl, rfl, by decide +kernel, rfl, by decide +kernel, by decide +kernel⟩
noncomputable def p_law_take : { s : Stmt // top 37 = s } := by
  refine ⟨?s, ?h⟩
  case h => conv => lhs; whnf
noncomputable abbrev s_law_take : Stmt := p_law_take.1
noncomputable abbrev N_law_take : List Str := ["_law_draws_here", "_law_many", "_law_state", "_law_value"]
noncomputable abbrev P_law_take : List Str := ["_law_draws_here", "_law_many"]
theorem sc_law_take : FnScope N_law_take P_law_take (defScope s_law_take) := ⟨rfl, rfl, rfl, by decide +kernel, rfl, by decide +kernel, by decide +kernel⟩
noncomputable def p_law_among : { s : Stmt // top 38 = s } := by
  refine ⟨?s, ?h⟩
  case h => conv => lhs; whnf
noncomputable abbrev s_law_among : Stmt := p_law_among.1
noncomputable abbrev N_law_among : List Str := ["_law_draws_here", "_law_row"]
noncomputable abbrev P_law_among : List Str := ["_law_draws_here", "_law_row"]
theorem sc_law_among : FnScope N_law_among P_law_among (defScope s_law_among) := ⟨rfl, rfl, rfl, by decide +kernel, rfl, by decide +kernel, by decide +kernel⟩
noncomputable def p_law_between : { s : Stmt // top 39 = s } := by
  refine ⟨?s, ?h⟩
  case h => conv => lhs; whnf
noncomputable abbrev s_law_between : Stmt := p_law_between.1
noncomputable abbrev N_law_between : List Str := ["_law_draws_here", "_law_low", "_law_high", "_law_kind"]
noncomputable abbrev P_law_between : List Str := ["_law_draws_here", "_law_low", "_law_high"]
theorem sc_law_between : FnScope N_law_between P_law_between (defScope s_law_between) := ⟨rfl, rfl, rfl, by decide +kernel, rfl, by decide +kernel, by decide +kernel⟩
noncomputable def p_law_number : { s : Stmt // top 40 = s } := by
  refine ⟨?s, ?h⟩
  case h => conv => lhs; whnf
noncomputable abbrev s_law_number : Stmt := p_law_number.1
noncomputable abbrev N_law_number : List Str := ["_law_draws_here", "_law_low", "_law_high", "_law_kind"]
noncomputable abbrev P_law_number : List Str := ["_law_draws_here", "_law_low", "_law_high"]
theorem sc_law_number : FnScope N_law_number P_law_number (defScope s_law_number) := ⟨rfl, rfl, rfl, by decide +kernel, rfl, by decide +kernel, by decide +kernel⟩
noncomputable def p_law_count : { s : Stmt // top 41 = s } := by
  refine ⟨?s, ?h⟩
  case h => conv => lhs; whnf
noncomputable abbrev s_law_count : Stmt := p_law_count.1
noncomputable abbrev N_law_count : List Str := ["_law_draws_here", "_law_small", "_law_great"]
noncomputable abbrev P_law_count : List Str := ["_law_draws_here", "_law_small", "_law_great"]
theorem sc_law_count : FnScope N_law_count P_law_count (defScope s_law_count) := ⟨rfl, rfl, rfl, by decide +kernel, rfl, by decide +kernel, by decide +kernel⟩
noncomputable def p_law_alignment : { s : Stmt // top 42 = s } := by
  refine ⟨?s, ?h⟩
  case h => conv => lhs; whnf
noncomputable abbrev s_law_alignment : Stmt := p_law_alignment.1
noncomputable abbrev N_law_alignment : List Str := ["_law_draws_here", "_law_most", "_law_value", "_law_k"]
noncomputable abbrev P_law_alignment : List Str := ["_law_draws_here", "_law_most"]
theorem sc_law_alignment : FnScope N_law_alignment P_law_alignment (defScope s_law_alignment) := ⟨rfl, rfl, rfl, by decide +kernel, rfl, by decide +kernel, by decide +kernel⟩
noncomputable def p_law_up : { s : Stmt // top 43 = s } := by
  refine ⟨?s, ?h⟩
  case h => conv => lhs; whnf
noncomputable abbrev s_law_up : Stmt := p_law_up.1
noncomputable abbrev N_law_up : List Str := ["_law_number_here", "_law_alignment_here"]
noncomputable abbrev P_law_up : List Str := ["_law_number_here", "_law_alignment_here"]
theorem sc_law_up : FnScope N_law_up P_law_up (defScope s_law_up) := ⟨rfl, rfl, rfl, by decide +kernel, rfl, by decide +kernel, by decide +kernel⟩
noncomputable def p_law_long : { s : Stmt // top 44 = s } := by
  refine ⟨?s, ?h⟩
  case h => conv => lhs; whnf
noncomputable abbrev s_law_long : Stmt := p_law_long.1
noncomputable abbrev N_law_long : List Str := ["_law_value", "_law_k"]
noncomputable abbrev P_law_long : List Str := []
theorem sc_law_long : FnScope N_law_long P_law_long (defScope s_law_long) := ⟨rfl, rfl, rfl, by decide +kernel, rfl, by decide +kernel, by decide +kernel⟩
noncomputable def p_law_not_integer : { s : Stmt // top 45 = s } := by
  refine ⟨?s, ?h⟩
  case h => conv => lhs; whnf
noncomputable abbrev s_law_not_integer : Stmt := p_law_not_integer.1
noncomputable abbrev N_law_not_integer : List Str := ["_law_draws_here"]
noncomputable abbrev P_law_not_integer : List Str := ["_law_draws_here"]
theorem sc_law_not_integer : FnScope N_law_not_integer P_law_not_integer (defScope s_law_not_integer) := ⟨rfl, rfl, rfl, by decide +kernel, rfl, by decide +kernel, by decide +kernel⟩
noncomputable def p_law_not_within : { s : Stmt // top 46 = s } := by
  refine ⟨?s, ?h⟩
  case h => conv => lhs; whnf
noncomputable abbrev s_law_not_within : Stmt := p_law_not_within.1
noncomputable abbrev N_law_not_within : List Str := ["_law_draws_here", "_law_low", "_law_high", "_law_kind"]
noncomputable abbrev P_law_not_within : List Str := ["_law_draws_here", "_law_low", "_law_high"]
theorem sc_law_not_within : FnScope N_law_not_within P_law_not_within (defScope s_law_not_within) := ⟨rfl, rfl, rfl, by decide +kernel, rfl, by decide +kernel, by decide +kernel⟩
noncomputable def p_law_not_alignment : { s : Stmt // top 47 = s } := by
  refine ⟨?s, ?h⟩
  case h => conv => lhs; whnf
noncomputable abbrev s_law_not_alignment : Stmt := p_law_not_alignment.1
noncomputable abbrev N_law_not_alignment : List Str := ["_law_draws_here", "_law_most", "_law_kind"]
noncomputable abbrev P_law_not_alignment : List Str := ["_law_draws_here", "_law_most"]
theorem sc_law_not_alignment : FnScope N_law_not_alignment P_law_not_alignment (defScope s_law_not_alignment) := ⟨rfl, rfl, rfl, by decide +kernel, rfl, by decide +kernel, by decide +kernel⟩
noncomputable def p_law_same : { s : Stmt // top 48 = s } := by
  refine ⟨?s, ?h⟩
  case h => conv => lhs; whnf
noncomputable abbrev s_law_same : Stmt := p_law_same.1
noncomputable abbrev N_law_same : List Str := ["_law_actual", "_law_expected", "_law_k", "_law_key"]
noncomputable abbrev P_law_same : List Str := ["_law_actual", "_law_expected"]
theorem sc_law_same : FnScope N_law_same P_law_same (defScope s_law_same) := ⟨rfl, rfl, rfl, by decide +kernel, rfl, by decide +kernel, by decide +kernel⟩
noncomputable def p_law_copy : { s : Stmt // top 49 = s } := by
  refine ⟨?s, ?h⟩
  case h => conv => lhs; whnf
noncomputable abbrev s_law_copy : Stmt := p_law_copy.1
noncomputable abbrev N_law_copy : List Str := ["_law_value", "_law_twin", "_law_key", "_law_one"]
noncomputable abbrev P_law_copy : List Str := ["_law_value"]
theorem sc_law_copy : FnScope N_law_copy P_law_copy (defScope s_law_copy) := ⟨rfl, rfl, rfl, by decide +kernel, rfl, by decide +kernel, by decide +kernel⟩
noncomputable def p_law_span : { s : Stmt // top 50 = s } := by
  refine ⟨?s, ?h⟩
  case h => conv => lhs; whnf
noncomputable abbrev s_law_span : Stmt := p_law_span.1
noncomputable abbrev N_law_span : List Str := ["_law_draws_here", "_law_most", "_law_size_here"]
noncomputable abbrev P_law_span : List Str := ["_law_draws_here", "_law_most"]
theorem sc_law_span : FnScope N_law_span P_law_span (defScope s_law_span) := ⟨rfl, rfl, rfl, by decide +kernel, rfl, by decide +kernel, by decide +kernel⟩
noncomputable def p_law_spans : { s : Stmt // top 51 = s } := by
  refine ⟨?s, ?h⟩
  case h => conv => lhs; whnf
noncomputable abbrev s_law_spans : Stmt := p_law_spans.1
noncomputable abbrev N_law_spans : List Str := ["_law_draws_here", "_law_count_here", "_law_most", "_law_row", "_law_k", "_law_kind", "_law_one", "_law_behind", "_law_skip"]
noncomputable abbrev P_law_spans : List Str := ["_law_draws_here", "_law_count_here", "_law_most"]
theorem sc_law_spans : FnScope N_law_spans P_law_spans (defScope s_law_spans) := ⟨rfl, rfl, rfl, by decide +kernel, rfl, by decide +kernel, by decide +kernel⟩
noncomputable def p_law_start_due : { s : Stmt // top 52 = s } := by
  refine ⟨?s, ?h⟩
  case h => conv => lhs; whnf
noncomputable abbrev s_law_start_due : Stmt := p_law_start_due.1
noncomputable abbrev N_law_start_due : List Str := ["_law_spans_here", "_law_size_here", "_law_alignment_here", "_law_best", "_law_found", "_law_least", "_law_start", "_law_count_here", "_law_one"]
noncomputable abbrev P_law_start_due : List Str := ["_law_spans_here", "_law_size_here", "_law_alignment_here", "_law_best"]
theorem sc_law_start_due : FnScope N_law_start_due P_law_start_due (defScope s_law_start_due) := ⟨rfl, rfl, rfl, by decide +kernel, rfl, by decide +kernel, by decide +kernel⟩
noncomputable def p_law_kinds : { s : Stmt // top 53 = s } := by
  refine ⟨?s, ?h⟩
  case h => conv => lhs; whnf
noncomputable abbrev s_law_kinds : Stmt := p_law_kinds.1
noncomputable abbrev N_law_kinds : List Str := ["_law_error"]
noncomputable abbrev P_law_kinds : List Str := ["_law_error"]
theorem sc_law_kinds : FnScope N_law_kinds P_law_kinds (defScope s_law_kinds) := ⟨rfl, rfl, rfl, by decide +kernel, rfl, by decide +kernel, by decide +kernel⟩
noncomputable def p_law_refused : { s : Stmt // top 54 = s } := by
  refine ⟨?s, ?h⟩
  case h => conv => lhs; whnf
noncomputable abbrev s_law_refused : Stmt := p_law_refused.1
noncomputable abbrev N_law_refused : List Str := ["_law_title", "_law_fields", "_law_titles", "_law_one"]
noncomputable abbrev P_law_refused : List Str := ["_law_title", "_law_fields"]
theorem sc_law_refused : FnScope N_law_refused P_law_refused (defScope s_law_refused) := ⟨rfl, rfl, rfl, by decide +kernel, rfl, by decide +kernel, by decide +kernel⟩
noncomputable def p_law_held : { s : Stmt // top 55 = s } := by
  refine ⟨?s, ?h⟩
  case h => conv => lhs; whnf
noncomputable abbrev s_law_held : Stmt := p_law_held.1
noncomputable abbrev N_law_held : List Str := ["_law_place", "_law_spans_here", "_law_start", "_law_size_here"]
noncomputable abbrev P_law_held : List Str := ["_law_place", "_law_spans_here"]
theorem sc_law_held : FnScope N_law_held P_law_held (defScope s_law_held) := ⟨rfl, rfl, rfl, by decide +kernel, rfl, by decide +kernel, by decide +kernel⟩
noncomputable def p_law_cuts_of : { s : Stmt // top 56 = s } := by
  refine ⟨?s, ?h⟩
  case h => conv => lhs; whnf
noncomputable abbrev s_law_cuts_of : Stmt := p_law_cuts_of.1
noncomputable abbrev N_law_cuts_of : List Str := ["_law_spans_here", "_law_cuts", "_law_start", "_law_size_here"]
noncomputable abbrev P_law_cuts_of : List Str := ["_law_spans_here"]
theorem sc_law_cuts_of : FnScope N_law_cuts_of P_law_cuts_of (defScope s_law_cuts_of) := ⟨rfl, rfl, rfl, by decide +kernel, rfl, by decide +kernel, by decide +kernel⟩
noncomputable def p_law_glued : { s : Stmt // top 57 = s } := by
  refine ⟨?s, ?h⟩
  case h => conv => lhs; whnf
noncomputable abbrev s_law_glued : Stmt := p_law_glued.1
noncomputable abbrev N_law_glued : List Str := ["_law_row", "_law_low", "_law_high"]
noncomputable abbrev P_law_glued : List Str := ["_law_row", "_law_low", "_law_high"]
theorem sc_law_glued : FnScope N_law_glued P_law_glued (defScope s_law_glued) := ⟨rfl, rfl, rfl, by decide +kernel, rfl, by decide +kernel, by decide +kernel⟩
noncomputable def p_law_normal_of : { s : Stmt // top 58 = s } := by
  refine ⟨?s, ?h⟩
  case h => conv => lhs; whnf
noncomputable abbrev s_law_normal_of : Stmt := p_law_normal_of.1
noncomputable abbrev N_law_normal_of : List Str := ["_law_spans_here", "_law_cuts", "_law_row", "_law_k"]
noncomputable abbrev P_law_normal_of : List Str := ["_law_spans_here"]
theorem sc_law_normal_of : FnScope N_law_normal_of P_law_normal_of (defScope s_law_normal_of) := ⟨rfl, rfl, rfl, by decide +kernel, rfl, by decide +kernel, by decide +kernel⟩
noncomputable def p_law_asked : { s : Stmt // top 59 = s } := by
  refine ⟨?s, ?h⟩
  case h => conv => lhs; whnf
noncomputable abbrev s_law_asked : Stmt := p_law_asked.1
noncomputable abbrev N_law_asked : List Str := ["_law_places", "_law_title", "_law_size_here", "_law_alignment_here", "e"]
noncomputable abbrev P_law_asked : List Str := ["_law_places", "_law_title", "_law_size_here", "_law_alignment_here"]
theorem sc_law_asked : FnScope N_law_asked P_law_asked (defScope s_law_asked) := ⟨rfl, rfl, rfl, by decide +kernel, rfl, by decide +kernel, by decide +kernel⟩
noncomputable def p_law_all_inside : { s : Stmt // top 60 = s } := by
  refine ⟨?s, ?h⟩
  case h => conv => lhs; whnf
noncomputable abbrev s_law_all_inside : Stmt := p_law_all_inside.1
noncomputable abbrev N_law_all_inside : List Str := ["_law_inside", "_law_start", "_law_size_here", "_law_place"]
noncomputable abbrev P_law_all_inside : List Str := ["_law_inside", "_law_start", "_law_size_here"]
theorem sc_law_all_inside : FnScope N_law_all_inside P_law_all_inside (defScope s_law_all_inside) := ⟨rfl, rfl, rfl, by decide +kernel, rfl, by decide +kernel, by decide +kernel⟩
noncomputable def p_law_walked : { s : Stmt // top 61 = s } := by
  refine ⟨?s, ?h⟩
  case h => conv => lhs; whnf
noncomputable abbrev s_law_walked : Stmt := p_law_walked.1
noncomputable abbrev N_law_walked : List Str := ["_law_spans_here", "_law_size_here", "_law_alignment_here", "_law_best", "_law_inside", "_law_run", "_law_starts", "_law_rows", "_law_place", "_law_one"]
noncomputable abbrev P_law_walked : List Str := ["_law_spans_here", "_law_size_here", "_law_alignment_here", "_law_best"]
theorem sc_law_walked : FnScope N_law_walked P_law_walked (defScope s_law_walked) := ⟨rfl, rfl, rfl, by decide +kernel, rfl, by decide +kernel, by decide +kernel⟩
noncomputable def p_law_due : { s : Stmt // top 62 = s } := by
  refine ⟨?s, ?h⟩
  case h => conv => lhs; whnf
noncomputable abbrev s_law_due : Stmt := p_law_due.1
noncomputable abbrev N_law_due : List Str := ["_law_spans_here", "_law_size_here", "_law_alignment_here", "_law_best", "_law_one"]
noncomputable abbrev P_law_due : List Str := ["_law_spans_here", "_law_size_here", "_law_alignment_here", "_law_best"]
theorem sc_law_due : FnScope N_law_due P_law_due (defScope s_law_due) := ⟨rfl, rfl, rfl, by decide +kernel, rfl, by decide +kernel, by decide +kernel⟩
noncomputable def p_law_size : { s : Stmt // top 63 = s } := by
  refine ⟨?s, ?h⟩
  case h => conv => lhs; whnf
noncomputable abbrev s_law_size : Stmt := p_law_size.1
noncomputable abbrev N_law_size : List Str := ["_law_draws_here", "_law_due_here"]
noncomputable abbrev P_law_size : List Str := ["_law_draws_here", "_law_due_here"]
theorem sc_law_size : FnScope N_law_size P_law_size (defScope s_law_size) := ⟨rfl, rfl, rfl, by decide +kernel, rfl, by decide +kernel, by decide +kernel⟩
noncomputable def p_law_tried_spans : { s : Stmt // top 64 = s } := by
  refine ⟨?s, ?h⟩
  case h => conv => lhs; whnf
noncomputable abbrev s_law_tried_spans : Stmt := p_law_tried_spans.1
noncomputable abbrev N_law_tried_spans : List Str := ["_law_draws_here", "_law_due_here", "_law_row", "_law_start", "_law_size_here", "_law_part"]
noncomputable abbrev P_law_tried_spans : List Str := ["_law_draws_here", "_law_due_here"]
theorem sc_law_tried_spans : FnScope N_law_tried_spans P_law_tried_spans (defScope s_law_tried_spans) := ⟨rfl, rfl, rfl, by decide +kernel, rfl, by decide +kernel, by decide +kernel⟩
noncomputable def p_law_starts_right : { s : Stmt // top 65 = s } := by
  refine ⟨?s, ?h⟩
  case h => conv => lhs; whnf
noncomputable abbrev s_law_starts_right : Stmt := p_law_starts_right.1
noncomputable abbrev N_law_starts_right : List Str := ["_law_places", "_law_spans_here", "_law_size_here", "_law_alignment_here", "_law_best", "_law_title"]
noncomputable abbrev P_law_starts_right : List Str := ["_law_places", "_law_spans_here", "_law_size_here", "_law_alignment_here"]
theorem sc_law_starts_right : FnScope N_law_starts_right P_law_starts_right (defScope s_law_starts_right) := ⟨rfl, rfl, rfl, by decide +kernel, rfl, by decide +kernel, by decide +kernel⟩
noncomputable def p_law_covers_right : { s : Stmt // top 66 = s } := by
  refine ⟨?s, ?h⟩
  case h => conv => lhs; whnf
noncomputable abbrev s_law_covers_right : Stmt := p_law_covers_right.1
noncomputable abbrev N_law_covers_right : List Str := ["_law_places", "_law_due_here", "_law_tried", "_law_start", "_law_size_here", "_law_inside", "_law_one"]
noncomputable abbrev P_law_covers_right : List Str := ["_law_places", "_law_due_here", "_law_tried"]
theorem sc_law_covers_right : FnScope N_law_covers_right P_law_covers_right (defScope s_law_covers_right) := ⟨rfl, rfl, rfl, by decide +kernel, rfl, by decide +kernel, by decide +kernel⟩
noncomputable def p_law_refused_right : { s : Stmt // top 67 = s } := by
  refine ⟨?s, ?h⟩
  case h => conv => lhs; whnf
noncomputable abbrev s_law_refused_right : Stmt := p_law_refused_right.1
noncomputable abbrev N_law_refused_right : List Str := ["_law_draws_here", "_law_places", "_law_size_here", "_law_alignment_here", "_law_few", "_law_odd", "_law_wrong", "_law_kept", "_law_title"]
noncomputable abbrev P_law_refused_right : List Str := ["_law_draws_here", "_law_places", "_law_size_here", "_law_alignment_here"]
theorem sc_law_refused_right : FnScope N_law_refused_right P_law_refused_right (defScope s_law_refused_right) := ⟨rfl, rfl, rfl, by decide +kernel, rfl, by decide +kernel, by decide +kernel⟩
noncomputable def p_law : { s : Stmt // top 68 = s } := by
  refine ⟨?s, ?h⟩
  case h => conv => lhs; whnf
noncomputable abbrev s_law : Stmt := p_law.1
noncomputable abbrev N_law : List Str := ["_law_script", "_law_draws_here", "_law_most", "_law_rows", "_law_dues", "_law_sets", "_law_size_here", "_law_alignment_here", "_law_turn", "_law_at", "_law_k", "_law_row"]
noncomputable abbrev P_law : List Str := ["_law_script"]
theorem sc_law : FnScope N_law P_law (defScope s_law) := ⟨rfl, rfl, rfl, by decide +kernel, rfl, by decide +kernel, by decide +kernel⟩
structure Tx (K : PySem.W.Frag) (mg : Str → Option Value) where
  fd_wall : FuncData
  F_wall : FnP K "_wall" s_wall (He.ga K "_wall") fd_wall
  g_wall : mg "_wall" = some (.ref (He.ga K "_wall"))
  fd_is_whole : FuncData
  F_is_whole : FnP K "is_whole" s_is_whole (He.ga K "is_whole") fd_is_whole
  g_is_whole : mg "is_whole" = some (.ref (He.ga K "is_whole"))
  fd_need : FuncData
  F_need : FnP K "need" s_need (He.ga K "need") fd_need
  g_need : mg "need" = some (.ref (He.ga K "need"))
  fd_need_whole : FuncData
  F_need_whole : FnP K "need_whole" s_need_whole (He.ga K "need_whole") fd_need_whole
  g_need_whole : mg "need_whole" = some (.ref (He.ga K "need_whole"))
  fd_is_row : FuncData
  F_is_row : FnP K "is_row" s_is_row (He.ga K "is_row") fd_is_row
  g_is_row : mg "is_row" = some (.ref (He.ga K "is_row"))
  fd_is_span : FuncData
  F_is_span : FnP K "is_span" s_is_span (He.ga K "is_span") fd_is_span
  g_is_span : mg "is_span" = some (.ref (He.ga K "is_span"))
  fd_is_power : FuncData
  F_is_power : FnP K "is_power" s_is_power (He.ga K "is_power") fd_is_power
  g_is_power : mg "is_power" = some (.ref (He.ga K "is_power"))
  fd_need_align : FuncData
  F_need_align : FnP K "need_align" s_need_align (He.ga K "need_align") fd_need_align
  g_need_align : mg "need_align" = some (.ref (He.ga K "need_align"))
  fd_end_of : FuncData
  F_end_of : FnP K "end_of" s_end_of (He.ga K "end_of") fd_end_of
  g_end_of : mg "end_of" = some (.ref (He.ga K "end_of"))
  fd_align_up : FuncData
  F_align_up : FnP K "align_up" s_align_up (He.ga K "align_up") fd_align_up
  g_align_up : mg "align_up" = some (.ref (He.ga K "align_up"))
  fd_merged : FuncData
  F_merged : FnP K "merged" s_merged (He.ga K "merged") fd_merged
  g_merged : mg "merged" = some (.ref (He.ga K "merged"))
  fd_gaps_in : FuncData
  F_gaps_in : FnP K "gaps_in" s_gaps_in (He.ga K "gaps_in") fd_gaps_in
  g_gaps_in : mg "gaps_in" = some (.ref (He.ga K "gaps_in"))
  fd_common : FuncData
  F_common : FnP K "common" s_common (He.ga K "common") fd_common
  g_common : mg "common" = some (.ref (He.ga K "common"))
  fd_index_upto : FuncData
  F_index_upto : FnP K "index_upto" s_index_upto (He.ga K "index_upto") fd_index_upto
  g_index_upto : mg "index_upto" = some (.ref (He.ga K "index_upto"))
  fd_start_in : FuncData
  F_start_in : FnP K "start_in" s_start_in (He.ga K "start_in") fd_start_in
  g_start_in : mg "start_in" = some (.ref (He.ga K "start_in"))
  fd_places_of : FuncData
  F_places_of : FnP K "places_of" s_places_of (He.ga K "places_of") fd_places_of
  g_places_of : mg "places_of" = some (.ref (He.ga K "places_of"))
  fd_law_draws : FuncData
  F_law_draws : FnP K "_law_draws" s_law_draws (He.ga K "_law_draws") fd_law_draws
  g_law_draws : mg "_law_draws" = some (.ref (He.ga K "_law_draws"))
  fd_law_next_cell : FuncData
  F_law_next_cell : FnP K "_law_next_cell" s_law_next_cell (He.ga K "_law_next_cell") fd_law_next_cell
  g_law_next_cell : mg "_law_next_cell" = some (.ref (He.ga K "_law_next_cell"))
  fd_law_mixed : FuncData
  F_law_mixed : FnP K "_law_mixed" s_law_mixed (He.ga K "_law_mixed") fd_law_mixed
  g_law_mixed : mg "_law_mixed" = some (.ref (He.ga K "_law_mixed"))
  fd_law_take : FuncData
  F_law_take : FnP K "_law_take" s_law_take (He.ga K "_law_take") fd_law_take
  g_law_take : mg "_law_take" = some (.ref (He.ga K "_law_take"))
  fd_law_among : FuncData
  F_law_among : FnP K "_law_among" s_law_among (He.ga K "_law_among") fd_law_among
  g_law_among : mg "_law_among" = some (.ref (He.ga K "_law_among"))
  fd_law_between : FuncData
  F_law_between : FnP K "_law_between" s_law_between (He.ga K "_law_between") fd_law_between
  g_law_between : mg "_law_between" = some (.ref (He.ga K "_law_between"))
  fd_law_number : FuncData
  F_law_number : FnP K "_law_number" s_law_number (He.ga K "_law_number") fd_law_number
  g_law_number : mg "_law_number" = some (.ref (He.ga K "_law_number"))
  fd_law_count : FuncData
  F_law_count : FnP K "_law_count" s_law_count (He.ga K "_law_count") fd_law_count
  g_law_count : mg "_law_count" = some (.ref (He.ga K "_law_count"))
  fd_law_alignment : FuncData
  F_law_alignment : FnP K "_law_alignment" s_law_alignment (He.ga K "_law_alignment") fd_law_alignment
  g_law_alignment : mg "_law_alignment" = some (.ref (He.ga K "_law_alignment"))
  fd_law_up : FuncData
  F_law_up : FnP K "_law_up" s_law_up (He.ga K "_law_up") fd_law_up
  g_law_up : mg "_law_up" = some (.ref (He.ga K "_law_up"))
  fd_law_long : FuncData
  F_law_long : FnP K "_law_long" s_law_long (He.ga K "_law_long") fd_law_long
  g_law_long : mg "_law_long" = some (.ref (He.ga K "_law_long"))
  fd_law_not_integer : FuncData
  F_law_not_integer : FnP K "_law_not_integer" s_law_not_integer (He.ga K "_law_not_integer") fd_law_not_integer
  g_law_not_integer : mg "_law_not_integer" = some (.ref (He.ga K "_law_not_integer"))
  fd_law_not_within : FuncData
  F_law_not_within : FnP K "_law_not_within" s_law_not_within (He.ga K "_law_not_within") fd_law_not_within
  g_law_not_within : mg "_law_not_within" = some (.ref (He.ga K "_law_not_within"))
  fd_law_not_alignment : FuncData
  F_law_not_alignment : FnP K "_law_not_alignment" s_law_not_alignment (He.ga K "_law_not_alignment") fd_law_not_alignment
  g_law_not_alignment : mg "_law_not_alignment" = some (.ref (He.ga K "_law_not_alignment"))
  fd_law_same : FuncData
  F_law_same : FnP K "_law_same" s_law_same (He.ga K "_law_same") fd_law_same
  g_law_same : mg "_law_same" = some (.ref (He.ga K "_law_same"))
  fd_law_copy : FuncData
  F_law_copy : FnP K "_law_copy" s_law_copy (He.ga K "_law_copy") fd_law_copy
  g_law_copy : mg "_law_copy" = some (.ref (He.ga K "_law_copy"))
  fd_law_span : FuncData
  F_law_span : FnP K "_law_span" s_law_span (He.ga K "_law_span") fd_law_span
  g_law_span : mg "_law_span" = some (.ref (He.ga K "_law_span"))
  fd_law_spans : FuncData
  F_law_spans : FnP K "_law_spans" s_law_spans (He.ga K "_law_spans") fd_law_spans
  g_law_spans : mg "_law_spans" = some (.ref (He.ga K "_law_spans"))
  fd_law_start_due : FuncData
  F_law_start_due : FnP K "_law_start_due" s_law_start_due (He.ga K "_law_start_due") fd_law_start_due
  g_law_start_due : mg "_law_start_due" = some (.ref (He.ga K "_law_start_due"))
  fd_law_kinds : FuncData
  F_law_kinds : FnP K "_law_kinds" s_law_kinds (He.ga K "_law_kinds") fd_law_kinds
  g_law_kinds : mg "_law_kinds" = some (.ref (He.ga K "_law_kinds"))
  fd_law_refused : FuncData
  F_law_refused : FnP K "_law_refused" s_law_refused (He.ga K "_law_refused") fd_law_refused
  g_law_refused : mg "_law_refused" = some (.ref (He.ga K "_law_refused"))
  fd_law_held : FuncData
  F_law_held : FnP K "_law_held" s_law_held (He.ga K "_law_held") fd_law_held
  g_law_held : mg "_law_held" = some (.ref (He.ga K "_law_held"))
  fd_law_cuts_of : FuncData
  F_law_cuts_of : FnP K "_law_cuts_of" s_law_cuts_of (He.ga K "_law_cuts_of") fd_law_cuts_of
  g_law_cuts_of : mg "_law_cuts_of" = some (.ref (He.ga K "_law_cuts_of"))
  fd_law_glued : FuncData
  F_law_glued : FnP K "_law_glued" s_law_glued (He.ga K "_law_glued") fd_law_glued
  g_law_glued : mg "_law_glued" = some (.ref (He.ga K "_law_glued"))
  fd_law_normal_of : FuncData
  F_law_normal_of : FnP K "_law_normal_of" s_law_normal_of (He.ga K "_law_normal_of") fd_law_normal_of
  g_law_normal_of : mg "_law_normal_of" = some (.ref (He.ga K "_law_normal_of"))
  fd_law_asked : FuncData
  F_law_asked : FnP K "_law_asked" s_law_asked (He.ga K "_law_asked") fd_law_asked
  g_law_asked : mg "_law_asked" = some (.ref (He.ga K "_law_asked"))
  fd_law_all_inside : FuncData
  F_law_all_inside : FnP K "_law_all_inside" s_law_all_inside (He.ga K "_law_all_inside") fd_law_all_inside
  g_law_all_inside : mg "_law_all_inside" = some (.ref (He.ga K "_law_all_inside"))
  fd_law_walked : FuncData
  F_law_walked : FnP K "_law_walked" s_law_walked (He.ga K "_law_walked") fd_law_walked
  g_law_walked : mg "_law_walked" = some (.ref (He.ga K "_law_walked"))
  fd_law_due : FuncData
  F_law_due : FnP K "_law_due" s_law_due (He.ga K "_law_due") fd_law_due
  g_law_due : mg "_law_due" = some (.ref (He.ga K "_law_due"))
  fd_law_size : FuncData
  F_law_size : FnP K "_law_size" s_law_size (He.ga K "_law_size") fd_law_size
  g_law_size : mg "_law_size" = some (.ref (He.ga K "_law_size"))
  fd_law_tried_spans : FuncData
  F_law_tried_spans : FnP K "_law_tried_spans" s_law_tried_spans (He.ga K "_law_tried_spans") fd_law_tried_spans
  g_law_tried_spans : mg "_law_tried_spans" = some (.ref (He.ga K "_law_tried_spans"))
  fd_law_starts_right : FuncData
  F_law_starts_right : FnP K "_law_starts_right" s_law_starts_right (He.ga K "_law_starts_right") fd_law_starts_right
  g_law_starts_right : mg "_law_starts_right" = some (.ref (He.ga K "_law_starts_right"))
  fd_law_covers_right : FuncData
  F_law_covers_right : FnP K "_law_covers_right" s_law_covers_right (He.ga K "_law_covers_right") fd_law_covers_right
  g_law_covers_right : mg "_law_covers_right" = some (.ref (He.ga K "_law_covers_right"))
  fd_law_refused_right : FuncData
  F_law_refused_right : FnP K "_law_refused_right" s_law_refused_right (He.ga K "_law_refused_right") fd_law_refused_right
  g_law_refused_right : mg "_law_refused_right" = some (.ref (He.ga K "_law_refused_right"))
  fd_law : FuncData
  F_law : FnP K "law" s_law (He.ga K "law") fd_law
  g_law : mg "law" = some (.ref (He.ga K "law"))
  c_MOST_ALIGN : ∃ t, mg "MOST_ALIGN" = some (.int 1073741824 t)
  c_MOST_PLACE : ∃ t, mg "MOST_PLACE" = some (.int 1000000000 t)
  c_MOST_SPANS : ∃ t, mg "MOST_SPANS" = some (.int 20000 t)
  g_BadLine : mg "BadLine" = some (.ref (He.ga K "BadLine"))
  g_BadValue : mg "BadValue" = some (.ref (He.ga K "BadValue"))
  g_Broken : mg "Broken" = some (.ref (He.ga K "Broken"))
  g_Cut : mg "Cut" = some (.ref (He.ga K "Cut"))
  g_Fault : mg "Fault" = some (.ref (He.ga K "Fault"))
  g_NoRoom : mg "NoRoom" = some (.ref (He.ga K "NoRoom"))
  g_NotHeld : mg "NotHeld" = some (.ref (He.ga K "NotHeld"))
  g_Places : mg "Places" = some (.ref (He.ga K "Places"))
  g_StoreError : mg "StoreError" = some (.ref (He.ga K "StoreError"))
  g_Unknown : mg "Unknown" = some (.ref (He.ga K "Unknown"))
  z_ValueError : mg "ValueError" = none
  z_bool : mg "bool" = none
  z_dict : mg "dict" = none
  z_int : mg "int" = none
  z_isinstance : mg "isinstance" = none
  z_len : mg "len" = none
  z_list : mg "list" = none
  z_max : mg "max" = none
  z_min : mg "min" = none
  z_range : mg "range" = none
  z_sorted : mg "sorted" = none
  z_str : mg "str" = none
  z_tuple : mg "tuple" = none
  fd_BadValue : FuncData
  F_BadValue : FunD K "__init__" "BadValue.__init__" (defArgs s_BadValue) (defBody s_BadValue) (defScope s_BadValue) [] [] (iBV K) fd_BadValue
  x_BadValue : OexC K (aBV K)
  i_BadValue : PySem.W.findIn K (.ref (aBV K)) "__init__" = some (some (.ref (iBV K)))
  t_BadValue : PySem.W.typeIn K (.ref (iBV K)) = some (.type "function")
  n_BadValue_parameter : PySem.W.findIn K (.ref (aBV K)) "parameter" = some none
  n_BadValue_told : PySem.W.findIn K (.ref (aBV K)) "told" = some none
  f_BadValue : XfC K (aBV K)
  d_BadValue : ExcD K (aBV K)
  m_BadValue : PySem.W.exmOne K (.ref (aBV K)) (.ref (aBV K)) = some true
  k_ValueError : PySem.W.kitOne K (.ref (aBV K)) (.type "ValueError") = some true
  k_StoreError : PySem.W.kitOne K (.ref (aBV K)) (.ref (He.ga K "StoreError")) = some true
  k_BadValue : PySem.W.kitOne K (.ref (aBV K)) (.ref (He.ga K "BadValue")) = some true
  k_Broken : PySem.W.kitOne K (.ref (aBV K)) (.ref (He.ga K "Broken")) = some false
  k_Unknown : PySem.W.kitOne K (.ref (aBV K)) (.ref (He.ga K "Unknown")) = some false
  k_NotHeld : PySem.W.kitOne K (.ref (aBV K)) (.ref (He.ga K "NotHeld")) = some false
  k_Fault : PySem.W.kitOne K (.ref (aBV K)) (.ref (He.ga K "Fault")) = some false
  k_NoRoom : PySem.W.kitOne K (.ref (aBV K)) (.ref (He.ga K "NoRoom")) = some false
  k_Cut : PySem.W.kitOne K (.ref (aBV K)) (.ref (He.ga K "Cut")) = some false
  k_BadLine : PySem.W.kitOne K (.ref (aBV K)) (.ref (He.ga K "BadLine")) = some false
  d0_Places : ∀ H : Hp, SqT K H (He.dflAt ("Places", some "__init__") 0 K) []
  m_BadValue_BadValue : PySem.W.exmOne K (.ref (He.ga K "BadValue")) (.ref (He.ga K "BadValue")) = some true
  v_BadValue : ExV K "BadValue" ["parameter"] 0
  kk_Places_list : PySem.W.kitOne K (.ref (He.ga K "Places")) (.type "list") = some false
  kk_Places_tuple : PySem.W.kitOne K (.ref (He.ga K "Places")) (.type "tuple") = some false
  fd_Places_init : FuncData
  F_Places_init : FunD K "__init__" "Places.__init__" (defArgs s_Places_init) (defBody s_Places_init) (defScope s_Places_init) [V.ref ((He.dflAt ("Places", some "__init__") 0) K)] [] (He.ma K (He.ga K "Places") "__init__") fd_Places_init
  k_Places : Mk K (He.ga K "Places") (He.ma K (He.ga K "Places") "__init__")
  fd_Places_covers : FuncData
  F_Places_covers : FunD K "covers" "Places.covers" (defArgs s_Places_covers) (defBody s_Places_covers) (defScope s_Places_covers) [] [] (He.ma K (He.ga K "Places") "covers") fd_Places_covers
  h_Places_covers : Meth K (He.ga K "Places") "covers" (He.ma K (He.ga K "Places") "covers")
  fd_Places_first_start : FuncData
  F_Places_first_start : FunD K "first_start" "Places.first_start" (defArgs s_Places_first_start) (defBody s_Places_first_start) (defScope s_Places_first_start) [] [("align", V.int 1)] (He.ma K (He.ga K "Places") "first_start") fd_Places_first_start
  h_Places_first_start : Meth K (He.ga K "Places") "first_start" (He.ma K (He.ga K "Places") "first_start")
  fd_Places_best_start : FuncData
  F_Places_best_start : FunD K "best_start" "Places.best_start" (defArgs s_Places_best_start) (defBody s_Places_best_start) (defScope s_Places_best_start) [] [("align", V.int 1)] (He.ma K (He.ga K "Places") "best_start") fd_Places_best_start
  h_Places_best_start : Meth K (He.ga K "Places") "best_start" (He.ma K (He.ga K "Places") "best_start")
  fd_Places_spans : FuncData
  F_Places_spans : FunD K "spans" "Places.spans" (defArgs s_Places_spans) (defBody s_Places_spans) (defScope s_Places_spans) [] [] (gAd K "Places" "spans") fd_Places_spans
  p_Places_spans : PropOf K (He.ga K "Places") "spans" (He.ma K (He.ga K "Places") "spans") (gAd K "Places" "spans")
  c_Places : Cls K (He.ga K "Places")
  n_Places__spans : NoAttr K (He.ga K "Places") "_spans"
  w_Places : OwnC K (He.ga K "Places")
variable {P : Program} {w : World} {K : PySem.W.Frag} {mg : Str → Option Value} {base : Heap}
theorem b_wall (T : Tx K mg) : Binds K T.fd_wall P_wall [] := T.F_wall.bindsN fun _ _ _ _ _ _ us hl => match us, hl with | [_], _ => rfl
theorem b_is_whole (T : Tx K mg) : Binds K T.fd_is_whole P_is_whole [] := T.F_is_whole.bindsN fun _ _ _ _ _ _ us hl => match us, hl with | [_], _ => rfl
theorem b_need (T : Tx K mg) : Binds K T.fd_need P_need [] := T.F_need.bindsN fun _ _ _ _ _ _ us hl => match us, hl with | [_, _], _ => rfl
theorem b_need_whole (T : Tx K mg) : Binds K T.fd_need_whole P_need_whole [] := T.F_need_whole.bindsN fun _ _ _ _ _ _ us hl => match us, hl with | [_, _, _, _], _ => rfl
theorem b_is_row (T : Tx K mg) : Binds K T.fd_is_row P_is_row [] := T.F_is_row.bindsN fun _ _ _ _ _ _ us hl => match us, hl with | [_], _ => rfl
theorem b_is_span (T : Tx K mg) : Binds K T.fd_is_span P_is_span [] := T.F_is_span.bindsN fun _ _ _ _ _ _ us hl => match us, hl with | [_], _ => rfl
theorem b_is_power (T : Tx K mg) : Binds K T.fd_is_power P_is_power [] := T.F_is_power.bindsN fun _ _ _ _ _ _ us hl => match us, hl with | [_], _ => rfl
theorem b_need_align (T : Tx K mg) : Binds K T.fd_need_align P_need_align [] := T.F_need_align.bindsN fun _ _ _ _ _ _ us hl => match us, hl with | [_, _, _], _ => rfl
theorem b_end_of (T : Tx K mg) : Binds K T.fd_end_of P_end_of [] := T.F_end_of.bindsN fun _ _ _ _ _ _ us hl => match us, hl with | [_], _ => rfl
theorem b_align_up (T : Tx K mg) : Binds K T.fd_align_up P_align_up [] := T.F_align_up.bindsN fun _ _ _ _ _ _ us hl => match us, hl with | [_, _], _ => rfl
theorem b_merged (T : Tx K mg) : Binds K T.fd_merged P_merged [] := T.F_merged.bindsN fun _ _ _ _ _ _ us hl => match us, hl with | [_], _ => rfl
theorem b_gaps_in (T : Tx K mg) : Binds K T.fd_gaps_in P_gaps_in [] := T.F_gaps_in.bindsN fun _ _ _ _ _ _ us hl => match us, hl with | [_], _ => rfl
theorem b_common (T : Tx K mg) : Binds K T.fd_common P_common [] := T.F_common.bindsN fun _ _ _ _ _ _ us hl => match us, hl with | [_, _], _ => rfl
theorem b_index_upto (T : Tx K mg) : Binds K T.fd_index_upto P_index_upto [] := T.F_index_upto.bindsN fun _ _ _ _ _ _ us hl => match us, hl with | [_, _], _ => rfl
theorem b_start_in (T : Tx K mg) : Binds K T.fd_start_in P_start_in [] := T.F_start_in.bindsN fun _ _ _ _ _ _ us hl => match us, hl with | [_, _, _], _ => rfl
theorem b_places_of (T : Tx K mg) : Binds K T.fd_places_of P_places_of [] := T.F_places_of.bindsN fun _ _ _ _ _ _ us hl => match us, hl with | [_], _ => rfl
theorem b_law_draws (T : Tx K mg) : Binds K T.fd_law_draws P_law_draws [] := T.F_law_draws.bindsN fun _ _ _ _ _ _ us hl => match us, hl with | [_], _ => rfl
theorem b_law_next_cell (T : Tx K mg) : Binds K T.fd_law_next_cell P_law_next_cell [] := T.F_law_next_cell.bindsN fun _ _ _ _ _ _ us hl => match us, hl with | [_], _ => rfl
theorem b_law_mixed (T : Tx K mg) : Binds K T.fd_law_mixed P_law_mixed [] := T.F_law_mixed.bindsN fun _ _ _ _ _ _ us hl => match us, hl with | [_, _, _], _ => rfl
theorem b_law_take (T : Tx K mg) : Binds K T.fd_law_take P_law_take [] := T.F_law_take.bindsN fun _ _ _ _ _ _ us hl => match us, hl with | [_, _], _ => rfl
theorem b_law_among (T : Tx K mg) : Binds K T.fd_law_among P_law_among [] := T.F_law_among.bindsN fun _ _ _ _ _ _ us hl => match us, hl with | [_, _], _ => rfl
theorem b_law_between (T : Tx K mg) : Binds K T.fd_law_between P_law_between [] := T.F_law_between.bindsN fun _ _ _ _ _ _ us hl => match us, hl with | [_, _, _], _ => rfl
theorem b_law_number (T : Tx K mg) : Binds K T.fd_law_number P_law_number [] := T.F_law_number.bindsN fun _ _ _ _ _ _ us hl => match us, hl with | [_, _, _], _ => rfl
theorem b_law_count (T : Tx K mg) : Binds K T.fd_law_count P_law_count [] := T.F_law_count.bindsN fun _ _ _ _ _ _ us hl => match us, hl with | [_, _, _], _ => rfl
theorem b_law_alignment (T : Tx K mg) : Binds K T.fd_law_alignment P_law_alignment [] := T.F_law_alignment.bindsN fun _ _ _ _ _ _ us hl => match us, hl with | [_, _], _ => rfl
theorem b_law_up (T : Tx K mg) : Binds K T.fd_law_up P_law_up [] := T.F_law_up.bindsN fun _ _ _ _ _ _ us hl => match us, hl with | [_, _], _ => rfl
theorem b_law_long (T : Tx K mg) : Binds K T.fd_law_long P_law_long [] := T.F_law_long.bindsN fun _ _ _ _ _ _ us hl => match us, hl with | [], _ => rfl
theorem b_law_not_integer (T : Tx K mg) : Binds K T.fd_law_not_integer P_law_not_integer [] := T.F_law_not_integer.bindsN fun _ _ _ _ _ _ us hl => match us, hl with | [_], _ => rfl
theorem b_law_not_within (T : Tx K mg) : Binds K T.fd_law_not_within P_law_not_within [] := T.F_law_not_within.bindsN fun _ _ _ _ _ _ us hl => match us, hl with | [_, _, _], _ => rfl
theorem b_law_not_alignment (T : Tx K mg) : Binds K T.fd_law_not_alignment P_law_not_alignment [] := T.F_law_not_alignment.bindsN fun _ _ _ _ _ _ us hl => match us, hl with | [_, _], _ => rfl
theorem b_law_same (T : Tx K mg) : Binds K T.fd_law_same P_law_same [] := T.F_law_same.bindsN fun _ _ _ _ _ _ us hl => match us, hl with | [_, _], _ => rfl
theorem b_law_copy (T : Tx K mg) : Binds K T.fd_law_copy P_law_copy [] := T.F_law_copy.bindsN fun _ _ _ _ _ _ us hl => match us, hl with | [_], _ => rfl
theorem b_law_span (T : Tx K mg) : Binds K T.fd_law_span P_law_span [] := T.F_law_span.bindsN fun _ _ _ _ _ _ us hl => match us, hl with | [_, _], _ => rfl
theorem b_law_spans (T : Tx K mg) : Binds K T.fd_law_spans P_law_spans [] := T.F_law_spans.bindsN fun _ _ _ _ _ _ us hl => match us, hl with | [_, _, _], _ => rfl
theorem b_law_start_due (T : Tx K mg) : Binds K T.fd_law_start_due P_law_start_due [] := T.F_law_start_due.bindsN fun _ _ _ _ _ _ us hl => match us, hl with | [_, _, _, _], _ => rfl
theorem b_law_kinds (T : Tx K mg) : Binds K T.fd_law_kinds P_law_kinds [] := T.F_law_kinds.bindsN fun _ _ _ _ _ _ us hl => match us, hl with | [_], _ => rfl
theorem b_law_refused (T : Tx K mg) : Binds K T.fd_law_refused P_law_refused [] := T.F_law_refused.bindsN fun _ _ _ _ _ _ us hl => match us, hl with | [_, _], _ => rfl
theorem b_law_held (T : Tx K mg) : Binds K T.fd_law_held P_law_held [] := T.F_law_held.bindsN fun _ _ _ _ _ _ us hl => match us, hl with | [_, _], _ => rfl
theorem b_law_cuts_of (T : Tx K mg) : Binds K T.fd_law_cuts_of P_law_cuts_of [] := T.F_law_cuts_of.bindsN fun _ _ _ _ _ _ us hl => match us, hl with | [_], _ => rfl
theorem b_law_glued (T : Tx K mg) : Binds K T.fd_law_glued P_law_glued [] := T.F_law_glued.bindsN fun _ _ _ _ _ _ us hl => match us, hl with | [_, _, _], _ => rfl
theorem b_law_normal_of (T : Tx K mg) : Binds K T.fd_law_normal_of P_law_normal_of [] := T.F_law_normal_of.bindsN fun _ _ _ _ _ _ us hl => match us, hl with | [_], _ => rfl
theorem b_law_asked (T : Tx K mg) : Binds K T.fd_law_asked P_law_asked [] := T.F_law_asked.bindsN fun _ _ _ _ _ _ us hl => match us, hl with | [_, _, _, _], _ => rfl
theorem b_law_all_inside (T : Tx K mg) : Binds K T.fd_law_all_inside P_law_all_inside [] := T.F_law_all_inside.bindsN fun _ _ _ _ _ _ us hl => match us, hl with | [_, _, _], _ => rfl
theorem b_law_walked (T : Tx K mg) : Binds K T.fd_law_walked P_law_walked [] := T.F_law_walked.bindsN fun _ _ _ _ _ _ us hl => match us, hl with | [_, _, _, _], _ => rfl
theorem b_law_due (T : Tx K mg) : Binds K T.fd_law_due P_law_due [] := T.F_law_due.bindsN fun _ _ _ _ _ _ us hl => match us, hl with | [_, _, _, _], _ => rfl
theorem b_law_size (T : Tx K mg) : Binds K T.fd_law_size P_law_size [] := T.F_law_size.bindsN fun _ _ _ _ _ _ us hl => match us, hl with | [_, _], _ => rfl
theorem b_law_tried_spans (T : Tx K mg) : Binds K T.fd_law_tried_spans P_law_tried_spans [] := T.F_law_tried_spans.bindsN fun _ _ _ _ _ _ us hl => match us, hl with | [_, _], _ => rfl
theorem b_law_starts_right (T : Tx K mg) : Binds K T.fd_law_starts_right P_law_starts_right [] := T.F_law_starts_right.bindsN fun _ _ _ _ _ _ us hl => match us, hl with | [_, _, _, _], _ => rfl
theorem b_law_covers_right (T : Tx K mg) : Binds K T.fd_law_covers_right P_law_covers_right [] := T.F_law_covers_right.bindsN fun _ _ _ _ _ _ us hl => match us, hl with | [_, _, _], _ => rfl
theorem b_law_refused_right (T : Tx K mg) : Binds K T.fd_law_refused_right P_law_refused_right [] := T.F_law_refused_right.bindsN fun _ _ _ _ _ _ us hl => match us, hl with | [_, _, _, _], _ => rfl
theorem b_law (T : Tx K mg) : Binds K T.fd_law P_law [] := T.F_law.bindsN fun _ _ _ _ _ _ us hl => match us, hl with | [_], _ => rfl
theorem b0_Places_init (T : Tx K mg) : ∃ ds, Vals [V.ref ((He.dflAt ("Places", some "__init__") 0) K)] ds ∧ Binds K T.fd_Places_init P_Places_init ds := T.F_Places_init.binds1 1 0 (List.cons_ne_nil _ _) rfl fun _ _ _ _ _ _ _ us its hu hi => match us, hu, its, hi with | [_], _, [_], _ => ⟨_, rfl, rfl⟩
theorem b1_Places_init (T : Tx K mg) : ∃ ds, Vals [] ds ∧ Binds K T.fd_Places_init P_Places_init ds := T.F_Places_init.binds1 2 1 (List.cons_ne_nil _ _) rfl fun _ _ _ _ _ _ _ us its hu hi => match us, hu, its, hi with | [_, _], _, [_], _ => ⟨_, rfl, rfl⟩
theorem b_Places_covers (T : Tx K mg) : Binds K T.fd_Places_covers P_Places_covers [] := T.F_Places_covers.bindsN fun _ _ _ _ _ _ us hl => match us, hl with | [_, _], _ => rfl
theorem bk_Places_first_start_align (T : Tx K mg) : KBn K T.fd_Places_first_start P_Places_first_start 2 ["align"] (fun us ws => us ++ ws) (fun vs zs => vs ++ zs) := by
  obtain ⟨mv, h⟩ := T.F_Places_first_start.kbinds0 (ps := P_Places_first_start) 2 ["align"] [] (fun us _ ws => us ++ ws) (by simp) (fun _ h => by cases h) (fun r1 _ r3 => r1.append r3) (fun D doc pm an cdv ct us mv ws h1 h2 h3 => match us, mv, ws, h1, h2, h3 with | [_, _], [], [_], _, _, _ => rfl)
  exact h
theorem bz_Places_first_start (T : Tx K mg) : ∃ ds, Vals [V.int 1] ds ∧ Binds K T.fd_Places_first_start P_Places_first_start ds := T.F_Places_first_start.binds0 2 (by simp) rfl fun D doc pm an cdv ct us ks h1 h2 => match us, ks, h1, h2 with | [_, _], [_], _, _ => ⟨_, _, _, _, _, _, rfl, rfl, rfl⟩
theorem bk_Places_best_start_align (T : Tx K mg) : KBn K T.fd_Places_best_start P_Places_best_start 2 ["align"] (fun us ws => us ++ ws) (fun vs zs => vs ++ zs) := by
  obtain ⟨mv, h⟩ := T.F_Places_best_start.kbinds0 (ps := P_Places_best_start) 2 ["align"] [] (fun us _ ws => us ++ ws) (by simp) (fun _ h => by cases h) (fun r1 _ r3 => r1.append r3) (fun D doc pm an cdv ct us mv ws h1 h2 h3 => match us, mv, ws, h1, h2, h3 with | [_, _], [], [_], _, _, _ => rfl)
  exact h
theorem bz_Places_best_start (T : Tx K mg) : ∃ ds, Vals [V.int 1] ds ∧ Binds K T.fd_Places_best_start P_Places_best_start ds := T.F_Places_best_start.binds0 2 (by simp) rfl fun D doc pm an cdv ct us ks h1 h2 => match us, ks, h1, h2 with | [_, _], [_], _, _ => ⟨_, _, _, _, _, _, rfl, rfl, rfl⟩
theorem b_Places_spans (T : Tx K mg) : Binds K T.fd_Places_spans P_Places_spans [] := T.F_Places_spans.bindsN fun _ _ _ _ _ _ us hl => match us, hl with | [_], _ => rfl
theorem b_BadValue (T : Tx K mg) : Binds K T.fd_BadValue P_BadValue [] := T.F_BadValue.bindsN fun _ _ _ _ _ _ us hl => match us, hl with | [_, _], _ => rfl
end K05

namespace K05
open PySem PySem.Spec PyProof.Rows L2 LL
variable {P : Program} {w : World} {K : PySem.W.Frag} {mg : Str → Option Value} {base : Heap}

noncomputable def dd_wall : He.DefD := ⟨("_wall", none), "_wall", "_wall", defArgs s_wall, defBody s_wall, defScope s_wall, [], []⟩
noncomputable def dd_is_whole : He.DefD := ⟨("is_whole", none), "is_whole", "is_whole", defArgs s_is_whole, defBody s_is_whole, defScope s_is_whole, [], []⟩
noncomputable def dd_need : He.DefD := ⟨("need", none), "need", "need", defArgs s_need, defBody s_need, defScope s_need, [], []⟩
noncomputable def dd_need_whole : He.DefD := ⟨("need_whole", none), "need_whole", "need_whole", defArgs s_need_whole, defBody s_need_whole, defScope s_need_whole, [], []⟩
noncomputable def dd_is_row : He.DefD := ⟨("is_row", none), "is_row", "is_row", defArgs s_is_row, defBody s_is_row, defScope s_is_row, [], []⟩
noncomputable def dd_is_span : He.DefD := ⟨("is_span", none), "is_span", "is_span", defArgs s_is_span, defBody s_is_span, defScope s_is_span, [], []⟩
noncomputable def dd_is_power : He.DefD := ⟨("is_power", none), "is_power", "is_power", defArgs s_is_power, defBody s_is_power, defScope s_is_power, [], []⟩
noncomputable def dd_need_align : He.DefD := ⟨("need_align", none), "need_align", "need_align", defArgs s_need_align, defBody s_need_align, defScope s_need_align, [], []⟩
noncomputable def dd_end_of : He.DefD := ⟨("end_of", none), "end_of", "end_of", defArgs s_end_of, defBody s_end_of, defScope s_end_of, [], []⟩
noncomputable def dd_align_up : He.DefD := ⟨("align_up", none), "align_up", "align_up", defArgs s_align_up, defBody s_align_up, defScope s_align_up, [], []⟩
noncomputable def dd_merged : He.DefD := ⟨("merged", none), "merged", "merged", defArgs s_merged, defBody s_merged, defScope s_merged, [], []⟩
noncomputable def dd_gaps_in : He.DefD := ⟨("gaps_in", none), "gaps_in", "gaps_in", defArgs s_gaps_in, defBody s_gaps_in, defScope s_gaps_in, [], []⟩
noncomputable def dd_common : He.DefD := ⟨("common", none), "common", "common", defArgs s_common, defBody s_common, defScope s_common, [], []⟩
noncomputable def dd_index_upto : He.DefD := ⟨("index_upto", none), "index_upto", "index_upto", defArgs s_index_upto, defBody s_index_upto, defScope s_index_upto, [], []⟩
noncomputable def dd_start_in : He.DefD := ⟨("start_in", none), "start_in", "start_in", defArgs s_start_in, defBody s_start_in, defScope s_start_in, [], []⟩
noncomputable def dd_places_of : He.DefD := ⟨("places_of", none), "places_of", "places_of", defArgs s_places_of, defBody s_places_of, defScope s_places_of, [], []⟩
noncomputable def dd_law_draws : He.DefD := ⟨("_law_draws", none), "_law_draws", "_law_draws", defArgs s_law_draws, defBody s_law_draws, defScope s_law_draws, [], []⟩
noncomputable def dd_law_next_cell : He.DefD := ⟨("_law_next_cell", none), "_law_next_cell", "_law_next_cell", defArgs s_law_next_cell, defBody s_law_next_cell, defScope s_law_next_cell, [], []⟩
noncomputable def dd_law_mixed : He.DefD := ⟨("_law_mixed", none), "_law_mixed", "_law_mixed", defArgs s_law_mixed, defBody s_law_mixed, defScope s_law_mixed, [], []⟩
noncomputable def dd_law_take : He.DefD := ⟨("_law_take", none), "_law_take", "_law_take", defArgs s_law_take, defBody s_law_take, defScope s_law_take, [], []⟩
noncomputable def dd_law_among : He.DefD := ⟨("_law_among", none), "_law_among", "_law_among", defArgs s_law_among, defBody s_law_among, defScope s_law_among, [], []⟩
noncomputable def dd_law_between : He.DefD := ⟨("_law_between", none), "_law_between", "_law_between", defArgs s_law_between, defBody s_law_between, defScope s_law_between, [], []⟩
noncomputable def dd_law_number : He.DefD := ⟨("_law_number", none), "_law_number", "_law_number", defArgs s_law_number, defBody s_law_number, defScope s_law_number, [], []⟩
noncomputable def dd_law_count : He.DefD := ⟨("_law_count", none), "_law_count", "_law_count", defArgs s_law_count, defBody s_law_count, defScope s_law_count, [], []⟩
noncomputable def dd_law_alignment : He.DefD := ⟨("_law_alignment", none), "_law_alignment", "_law_alignment", defArgs s_law_alignment, defBody s_law_alignment, defScope s_law_alignment, [], []⟩
noncomputable def dd_law_up : He.DefD := ⟨("_law_up", none), "_law_up", "_law_up", defArgs s_law_up, defBody s_law_up, defScope s_law_up, [], []⟩
noncomputable def dd_law_long : He.DefD := ⟨("_law_long", none), "_law_long", "_law_long", defArgs s_law_long, defBody s_law_long, defScope s_law_long, [], []⟩
noncomputable def dd_law_not_integer : He.DefD := ⟨("_law_not_integer", none), "_law_not_integer", "_law_not_integer", defArgs s_law_not_integer, defBody s_law_not_integer, defScope s_law_not_integer, [], []⟩
noncomputable def dd_law_not_within : He.DefD := ⟨("_law_not_within", none), "_law_not_within", "_law_not_within", defArgs s_law_not_within, defBody s_law_not_within, defScope s_law_not_within, [], []⟩
noncomputable def dd_law_not_alignment : He.DefD := ⟨("_law_not_alignment", none), "_law_not_alignment", "_law_not_alignment", defArgs s_law_not_alignment, defBody s_law_not_alignment, defScope s_law_not_alignment, [], []⟩
noncomputable def dd_law_same : He.DefD := ⟨("_law_same", none), "_law_same", "_law_same", defArgs s_law_same, defBody s_law_same, defScope s_law_same, [], []⟩
noncomputable def dd_law_copy : He.DefD := ⟨("_law_copy", none), "_law_copy", "_law_copy", defArgs s_law_copy, defBody s_law_copy, defScope s_law_copy, [], []⟩
noncomputable def dd_law_span : He.DefD := ⟨("_law_span", none), "_law_span", "_law_span", defArgs s_law_span, defBody s_law_span, defScope s_law_span, [], []⟩
noncomputable def dd_law_spans : He.DefD := ⟨("_law_spans", none), "_law_spans", "_law_spans", defArgs s_law_spans, defBody s_law_spans, defScope s_law_spans, [], []⟩
noncomputable def dd_law_start_due : He.DefD := ⟨("_law_start_due", none), "_law_start_due", "_law_start_due", defArgs s_law_start_due, defBody s_law_start_due, defScope s_law_start_due, [], []⟩
noncomputable def dd_law_kinds : He.DefD := ⟨("_law_kinds", none), "_law_kinds", "_law_kinds", defArgs s_law_kinds, defBody s_law_kinds, defScope s_law_kinds, [], []⟩
noncomputable def dd_law_refused : He.DefD := ⟨("_law_refused", none), "_law_refused", "_law_refused", defArgs s_law_refused, defBody s_law_refused, defScope s_law_refused, [], []⟩
noncomputable def dd_law_held : He.DefD := ⟨("_law_held", none), "_law_held", "_law_held", defArgs s_law_held, defBody s_law_held, defScope s_law_held, [], []⟩
noncomputable def dd_law_cuts_of : He.DefD := ⟨("_law_cuts_of", none), "_law_cuts_of", "_law_cuts_of", defArgs s_law_cuts_of, defBody s_law_cuts_of, defScope s_law_cuts_of, [], []⟩
noncomputable def dd_law_glued : He.DefD := ⟨("_law_glued", none), "_law_glued", "_law_glued", defArgs s_law_glued, defBody s_law_glued, defScope s_law_glued, [], []⟩
noncomputable def dd_law_normal_of : He.DefD := ⟨("_law_normal_of", none), "_law_normal_of", "_law_normal_of", defArgs s_law_normal_of, defBody s_law_normal_of, defScope s_law_normal_of, [], []⟩
noncomputable def dd_law_asked : He.DefD := ⟨("_law_asked", none), "_law_asked", "_law_asked", defArgs s_law_asked, defBody s_law_asked, defScope s_law_asked, [], []⟩
noncomputable def dd_law_all_inside : He.DefD := ⟨("_law_all_inside", none), "_law_all_inside", "_law_all_inside", defArgs s_law_all_inside, defBody s_law_all_inside, defScope s_law_all_inside, [], []⟩
noncomputable def dd_law_walked : He.DefD := ⟨("_law_walked", none), "_law_walked", "_law_walked", defArgs s_law_walked, defBody s_law_walked, defScope s_law_walked, [], []⟩
noncomputable def dd_law_due : He.DefD := ⟨("_law_due", none), "_law_due", "_law_due", defArgs s_law_due, defBody s_law_due, defScope s_law_due, [], []⟩
noncomputable def dd_law_size : He.DefD := ⟨("_law_size", none), "_law_size", "_law_size", defArgs s_law_size, defBody s_law_size, defScope s_law_size, [], []⟩
noncomputable def dd_law_tried_spans : He.DefD := ⟨("_law_tried_spans", none), "_law_tried_spans", "_law_tried_spans", defArgs s_law_tried_spans, defBody s_law_tried_spans, defScope s_law_tried_spans, [], []⟩
noncomputable def dd_law_starts_right : He.DefD := ⟨("_law_starts_right", none), "_law_starts_right", "_law_starts_right", defArgs s_law_starts_right, defBody s_law_starts_right, defScope s_law_starts_right, [], []⟩
noncomputable def dd_law_covers_right : He.DefD := ⟨("_law_covers_right", none), "_law_covers_right", "_law_covers_right", defArgs s_law_covers_right, defBody s_law_covers_right, defScope s_law_covers_right, [], []⟩
noncomputable def dd_law_refused_right : He.DefD := ⟨("_law_refused_right", none), "_law_refused_right", "_law_refused_right", defArgs s_law_refused_right, defBody s_law_refused_right, defScope s_law_refused_right, [], []⟩
noncomputable def dd_law : He.DefD := ⟨("law", none), "law", "law", defArgs s_law, defBody s_law, defScope s_law, [], []⟩
noncomputable def dd_BadValue : He.DefD := ⟨("BadValue", some "__init__"), "__init__", "BadValue.__init__", defArgs s_BadValue, defBody s_BadValue, defScope s_BadValue, [], []⟩
noncomputable def dd_Places_init : He.DefD := ⟨("Places", some "__init__"), "__init__", "Places.__init__", defArgs s_Places_init, defBody s_Places_init, defScope s_Places_init, [.adr (He.dflAt ("Places", some "__init__") 0)], []⟩
noncomputable def dd_Places_covers : He.DefD := ⟨("Places", some "covers"), "covers", "Places.covers", defArgs s_Places_covers, defBody s_Places_covers, defScope s_Places_covers, [], []⟩
noncomputable def dd_Places_first_start : He.DefD := ⟨("Places", some "first_start"), "first_start", "Places.first_start", defArgs s_Places_first_start, defBody s_Places_first_start, defScope s_Places_first_start, [], [("align", .int 1)]⟩
noncomputable def dd_Places_best_start : He.DefD := ⟨("Places", some "best_start"), "best_start", "Places.best_start", defArgs s_Places_best_start, defBody s_Places_best_start, defScope s_Places_best_start, [], [("align", .int 1)]⟩
noncomputable def pp_Places_spans : PrD := ⟨"Places", "spans", "Places.spans", defArgs s_Places_spans, defBody s_Places_spans, defScope s_Places_spans⟩
noncomputable def prs : List PrD := [pp_Places_spans]
noncomputable def fn : List He.DefD := [dd_wall, dd_is_whole, dd_need, dd_need_whole, dd_is_row, dd_is_span, dd_is_power, dd_need_align, dd_end_of, dd_align_up, dd_merged, dd_gaps_in, dd_common, dd_index_upto, dd_start_in, dd_places_of, dd_law_draws, dd_law_next_cell, dd_law_mixed, dd_law_take, dd_law_among, dd_law_between, dd_law_number, dd_law_count, dd_law_alignment, dd_law_up, dd_law_long, dd_law_not_integer, dd_law_not_within, dd_law_not_alignment, dd_law_same, dd_law_copy, dd_law_span, dd_law_spans, dd_law_start_due, dd_law_kinds, dd_law_refused, dd_law_held, dd_law_cuts_of, dd_law_glued, dd_law_normal_of, dd_law_asked, dd_law_all_inside, dd_law_walked, dd_law_due, dd_law_size, dd_law_tried_spans, dd_law_starts_right, dd_law_covers_right, dd_law_refused_right, dd_law, dd_BadValue, dd_Places_init, dd_Places_covers, dd_Places_first_start, dd_Places_best_start]
noncomputable def fa : List He.Fa := [.glo "_wall", .glo "is_whole", .glo "need", .glo "need_whole", .glo "is_row", .glo "is_span", .glo "is_power", .glo "need_align", .glo "end_of", .glo "align_up", .glo "merged", .glo "gaps_in", .glo "common", .glo "index_upto", .glo "start_in", .glo "places_of", .glo "_law_draws", .glo "_law_next_cell", .glo "_law_mixed", .glo "_law_take", .glo "_law_among", .glo "_law_between", .glo "_law_number", .glo "_law_count", .glo "_law_alignment", .glo "_law_up", .glo "_law_long", .glo "_law_not_integer", .glo "_law_not_within", .glo "_law_not_alignment", .glo "_law_same", .glo "_law_copy", .glo "_law_span", .glo "_law_spans", .glo "_law_start_due", .glo "_law_kinds", .glo "_law_refused", .glo "_law_held", .glo "_law_cuts_of", .glo "_law_glued", .glo "_law_normal_of", .glo "_law_asked", .glo "_law_all_inside", .glo "_law_walked", .glo "_law_due", .glo "_law_size", .glo "_law_tried_spans", .glo "_law_starts_right", .glo "_law_covers_right", .glo "_law_refused_right", .glo "law", .int "MOST_ALIGN" 1073741824, .int "MOST_PLACE" 1000000000, .int "MOST_SPANS" 20000, .glo "BadLine", .glo "BadValue", .glo "Broken", .glo "Cut", .glo "Fault", .glo "NoRoom", .glo "NotHeld", .glo "Places", .glo "StoreError", .glo "Unknown", .free "ValueError", .free "bool", .free "dict", .free "int", .free "isinstance", .free "len", .free "list", .free "max", .free "min", .free "range", .free "sorted", .free "str", .free "tuple", .mkr "Places", .meth "Places" "covers", .meth "Places" "first_start", .meth "Places" "best_start", .cls "Places", .noat "Places" "_spans"]
noncomputable def exs : List (PySem.W.Frag → Bool) := [fun K => oexB K (He.ga K "BadValue"),
  fun K => decide (PySem.W.findIn K (.ref (He.ga K "BadValue")) "__init__" = some (some (.ref (He.ma K (He.ga K "BadValue") "__init__")))),
  fun K => decide (PySem.W.typeIn K (.ref (He.ma K (He.ga K "BadValue") "__init__")) = some (.type "function")),
  fun K => decide (PySem.W.findIn K (.ref (He.ga K "BadValue")) "parameter" = some none),
  fun K => decide (PySem.W.findIn K (.ref (He.ga K "BadValue")) "told" = some none),
  fun K => xfB K (He.ga K "BadValue"),
  fun K => excdB K (He.ga K "BadValue"),
  fun K => decide (PySem.W.exmOne K (.ref (He.ga K "BadValue")) (.ref (He.ga K "BadValue")) = some true),
  fun K => decide (PySem.W.kitOne K (.ref (He.ga K "BadValue")) (.type "ValueError") = some true),
  fun K => decide (PySem.W.kitOne K (.ref (He.ga K "BadValue")) (.ref (He.ga K "StoreError")) = some true),
  fun K => decide (PySem.W.kitOne K (.ref (He.ga K "BadValue")) (.ref (He.ga K "BadValue")) = some true),
  fun K => decide (PySem.W.kitOne K (.ref (He.ga K "BadValue")) (.ref (He.ga K "Broken")) = some false),
  fun K => decide (PySem.W.kitOne K (.ref (He.ga K "BadValue")) (.ref (He.ga K "Unknown")) = some false),
  fun K => decide (PySem.W.kitOne K (.ref (He.ga K "BadValue")) (.ref (He.ga K "NotHeld")) = some false),
  fun K => decide (PySem.W.kitOne K (.ref (He.ga K "BadValue")) (.ref (He.ga K "Fault")) = some false),
  fun K => decide (PySem.W.kitOne K (.ref (He.ga K "BadValue")) (.ref (He.ga K "NoRoom")) = some false),
  fun K => decide (PySem.W.kitOne K (.ref (He.ga K "BadValue")) (.ref (He.ga K "Cut")) = some false),
  fun K => decide (PySem.W.kitOne K (.ref (He.ga K "BadValue")) (.ref (He.ga K "BadLine")) = some false),
  fun K => decide (PySem.W.exmOne K (.ref (He.ga K "BadValue")) (.ref (He.ga K "BadValue")) = some true),
  fun K => decide (PySem.W.kitOne K (.ref (He.ga K "Places")) (.type "list") = some false),
  fun K => decide (PySem.W.kitOne K (.ref (He.ga K "Places")) (.type "tuple") = some false),
  fun K => ownB K (He.ga K "Places"),
  fun K => exvB K "BadValue" ["parameter"] 0,
  fun K => tup0B K (He.dflAt ("Places", some "__init__") 0 K)]
noncomputable def names : List Str := (["_wall", "is_whole", "need", "need_whole", "is_row", "is_span", "is_power", "need_align", "end_of", "align_up", "merged", "gaps_in", "common", "index_upto", "start_in", "places_of", "_law_draws", "_law_next_cell", "_law_mixed", "_law_take"] : List Str) ++ (["_law_among", "_law_between", "_law_number", "_law_count", "_law_alignment", "_law_up", "_law_long", "_law_not_integer", "_law_not_within", "_law_not_alignment", "_law_same", "_law_copy", "_law_span", "_law_spans", "_law_start_due", "_law_kinds", "_law_refused", "_law_held", "_law_cuts_of", "_law_glued"] : List Str) ++ (["_law_normal_of", "_law_asked", "_law_all_inside", "_law_walked", "_law_due", "_law_size", "_law_tried_spans", "_law_starts_right", "_law_covers_right", "_law_refused_right", "StoreError", "BadValue", "Broken", "Unknown", "NotHeld", "Fault", "NoRoom", "Cut", "BadLine", "Places"] : List Str) ++ (["MOST_PLACE", "MOST_ALIGN", "MOST_SPANS"] : List Str)
noncomputable abbrev R : PySem.W.OpenRow := PySem.W.OpenLaw.row PySem.Challenge.rw_allgivenback_k05_starts
noncomputable abbrev hk : PySem.W.Hook := hookB 6 fa fn prs (fun K => exs.all fun e => e K)
noncomputable def ob (s : PySem.W.SharedT) : AlP := obsB 6 fa fn prs (fun K => exs.all fun e => e K) (HandSHeadRun.getT s)
theorem ob_eq (s : PySem.W.SharedT) : ob s = hk.obs s.abs := obsB_eq (HandSHeadRun.getT_eq s)
theorem run_a (w : World) : LL.RunA R (PySem.W.view R.prog [68]) 40000 names w := by
  intro os
  kernel_rfl
theorem run_f (w : World) : LL.RunOne R 40000 (fun s => fa.all fun f => f.ok (He.frG (HandSHeadRun.getT s) (LL.asB (HandSHeadRun.getT s) 6))) true w := by
  intro os
  kernel_rfl
theorem run_d (w : World) : LL.RunOne R 40000 (fun s => (fn.take 36).all fun d => d.ok (He.frG (HandSHeadRun.getT s) (LL.asB (HandSHeadRun.getT s) 6))) true w := by
  intro os
  kernel_rfl
theorem run_e (w : World) : LL.RunOne R 40000 (fun s => (fn.drop 36).all fun d => d.ok (He.frG (HandSHeadRun.getT s) (LL.asB (HandSHeadRun.getT s) 6))) true w := by
  intro os
  kernel_rfl
theorem run_v (w : World) : LL.RunOne R 40000 (fun s => fn.map fun d => He.fnW (He.frG (HandSHeadRun.getT s) (LL.asB (HandSHeadRun.getT s) 6)) d.at_) (He.valD fn).2 w := by
  intro os
  kernel_rfl
theorem run_x (w : World) : LL.RunOne R 40000 (fun s => ((exs.all (fun e => e (He.frG (HandSHeadRun.getT s) (LL.asB (HandSHeadRun.getT s) 6))) && prs.all fun d => d.ok (He.frG (HandSHeadRun.getT s) (LL.asB (HandSHeadRun.getT s) 6))), prs.map fun d => gW (He.frG (HandSHeadRun.getT s) (LL.asB (HandSHeadRun.getT s) 6)) d)) (true, prs.map PrD.val) w := by
  intro os
  kernel_rfl
theorem run (w : World) : HandSHeadRun.RunEq R (PySem.W.view R.prog [68]) hk ob 40000 names w := LL.run_partsB6 36 (run_a w) (run_f w) (run_d w) (run_e w) (run_v w) (run_x w)
end K05

section
open PySem PySem.W PySem.Calls PyProof.Rows
set_option maxHeartbeats 0 in
theorem K05.holds_of (F : ∀ (w : PySem.World) (mg : PySem.Str → Option PySem.Value) (fa : PySem.Addr) (h : PySem.Heap), K05.hk.says w h → h.Ns mainGlobals mg → mg ("law" : PySem.Str) = some (.ref fa) →
      ∃ (K : PySem.W.Frag) (fd : PySem.FuncData) (sp : L2.Sp), K.In h ∧ (∀ (s : PySem.Shared) (u : PySem.Value), PySem.BindsTo s fd ⟨[u], []⟩ [("_law_script", u)]) ∧
        (∀ (H : L2.Hp) (a : PySem.Addr) (ns : List Int), ns.length ≤ 63 → L2.Only H → L2.SqL K H a (ns.map L2.V.int) → sp [.ref a] H (fun v _ => v = .bl true) fun _ _ _ => False) ∧
        ∀ base : PySem.Heap, K.In base → base.Ns mainGlobals mg → L2.FnOk (PySem.Challenge.rw_allgivenback_k05_starts).prog w K mg base L2.CX0 11 fa fd ["_law_script"] sp) : PySem.Challenge.rw_allgivenback_k05_starts.Holds := by
  w_on; o_law
  refine HandSHeadRun.head_any (r := OpenLaw.row PySem.Challenge.rw_allgivenback_k05_starts) (q := view (OpenLaw.row PySem.Challenge.rw_allgivenback_k05_starts).prog [68]) (H := K05.hk) (ob := K05.ob) (M := 40000) (loose := K05.names) (d := HandSHeadRun.topDef (OpenLaw.row PySem.Challenge.rw_allgivenback_k05_starts).prog 68) (kwd := []) K05.ob_eq
    (by kernel_rfl) (fun s => by kernel_rfl) K05.run (by kernel_rfl) (by kernel_rfl) (by kernel_rfl) (by rfl) (by first | assumption | decide +kernel) (by decide +kernel) ⟨rfl, rfl, rfl, rfl, rfl, by decide +kernel⟩ ?hw ?hc
  case hw => w_witness2
  case hc =>
    refine L2.walk_ofE (l := PySem.Challenge.rw_allgivenback_k05_starts) (n := 63) (k := 11) (x := "_law_script") (CX := L2.CX0) rfl (by decide) (by kernel_rfl) ⟨rfl, by decide, by decide⟩ ?F (fun _ _ _ _ z => z)
    intro w mg fa h Y G hmg0
    have hmg : mg ("law" : PySem.Str) = some (.ref fa) := by
      have e : (HandSHeadRun.topDef (OpenLaw.row PySem.Challenge.rw_allgivenback_k05_starts).prog 68).name = ("law" : PySem.Str) := by kernel_rfl
      rw [← e]
      exact hmg0
    exact F w mg fa h Y G hmg
end

namespace LL
open PySem PySem.Spec PyProof.Rows L2 L2H
/-! ### for x in e, e a list or a tuple -/
def iSeq (K : PySem.W.Frag) (te : TE) : TI := fun σ H R => te σ H fun x H1 => ∃ a, x = .ref a ∧ (((∃ xs, SqL K H1 a xs) ∧ R (Itl K a) H1) ∨ ((∃ xs, SqT K H1 a xs) ∧ R (Itt K a) H1))
theorem pi_seq {X : Cx} {tg l : Expr} {te : TE} (hl : PE X l te) : PI X tg l (iSeq X.K te) := by
  refine ⟨fun pins s σ H R I h => thn (hl.run pins s σ H _ I h) fun v s1 hh => ?_⟩
  obtain ⟨x, H1, I1, r1, a, ex, q⟩ := hh
  subst ex
  obtain rfl : v = Value.ref a := r1
  rcases q with ⟨⟨xs, hq⟩, q⟩ | ⟨⟨xs, hq⟩, q⟩
  · obtain ⟨its, rv, pl, hz⟩ := I1.list hq
    refine wpAny_pyIter_list pl.isList ⟨s1.heap.objs.size, [s1.heap.objs.size], _, _, H1, rfl, I1.kept (t' := s1.toks) fun b o e => Heap.get?_push_of_some _ e, turn_list a _, ⟨_, Heap.get?_push_size _ rfl, rfl, rfl⟩, fun b hb => ?_, q⟩
    rw [show b = s1.heap.objs.size by simpa using hb]
    exact I1.fpOk (Nat.le_refl _) (I1.hok.fresh (Nat.le_refl _))
  · obtain ⟨its, rv, pl, hz⟩ := I1.tuple hq
    refine wpAny_pyIter_tuple (show s1.heap.IsTuple a its.toArray from pl) ⟨s1.heap.objs.size, [s1.heap.objs.size], _, _, H1, rfl, I1.kept (t' := s1.toks) fun b o e => Heap.get?_push_of_some _ e, turn_tuple a _, ⟨_, Heap.get?_push_size _ rfl, rfl, rfl⟩, fun b hb => ?_, q⟩
    rw [show b = s1.heap.objs.size by simpa using hb]
    exact I1.fpOk (Nat.le_refl _) (I1.hok.fresh (Nat.le_refl _))
theorem use_forS {K : PySem.W.Frag} {te : TE} {a : Addr} {xs : List V} {g : TG} {tb : TS} {D : Ends} {σ : L2.St} {H : Hp} (ht : ∀ Q : VK, Q (.ref a) H → te σ H Q) (Pv : Nat → L2.St → Hp → Prop) (h0 : Pv 0 σ H)
    (hl : (∀ i σ H, i ≤ xs.length → Pv i σ H → SqL K H a xs) ∨ (∀ i σ H, i ≤ xs.length → Pv i σ H → SqT K H a xs))
    (hs : ∀ i x σ H, xs[i]? = some x → Pv i σ H → g x σ H fun σ2 H2 => tb { D with nx := Pv (i + 1), ct := Pv (i + 1), bk := D.nx } σ2 H2) (hd : ∀ σ H, Pv xs.length σ H → D.nx σ H) : tFor (iSeq K te) g tb D σ H := by
  rcases hl with hl | hl
  · exact ht _ ⟨a, rfl, .inl ⟨⟨xs, hl 0 σ H (Nat.zero_le _) h0⟩, for_list Pv h0 hl hs hd⟩⟩
  · exact ht _ ⟨a, rfl, .inr ⟨⟨xs, hl 0 σ H (Nat.zero_le _) h0⟩, for_tup Pv h0 hl hs hd⟩⟩
/-- x is True, x is False, x plain data -/
def okIs : V → Bool
  | .non => true
  | .bl _ => true
  | .int _ => true
  | .str _ => true
  | .ref _ => true
  | _ => false
def rIsBx : R2 := fun x y H Q => ∃ b : Bool, y = .bl b ∧ okIs x = true ∧ Q (.bl (decide (x = .bl b))) H
theorem op_isB {X : Cx} : OpR X (compareOp .Is) rIsBx := by
  rintro pins s σ H x y v u Q I rx ry ⟨b, rfl, hx, q⟩
  obtain rfl : u = Value.bool b := ry
  by_cases e : x = .bl b
  · subst e
    obtain rfl : v = Value.bool b := rx
    exact wpAny_is_self rfl ⟨.bl true, H, I, rfl, by simpa using q⟩
  · have q := q
    cases x with
    | non =>
      obtain rfl : v = Value.none := rx
      exact wpAny_is_other rfl (by intro z; cases z) ⟨.bl false, H, I, rfl, by simpa [e] using q⟩
    | bl a =>
      obtain rfl : v = Value.bool a := rx
      exact wpAny_is_other rfl (fun z => e (congrArg V.bl (Value.bool.inj z))) ⟨.bl false, H, I, rfl, by simpa [e] using q⟩
    | int i =>
      obtain ⟨t, rfl⟩ := rx
      exact wpAny_is_other rfl (by intro z; cases z) ⟨.bl false, H, I, rfl, by simpa [e] using q⟩
    | str i =>
      obtain ⟨t, rfl⟩ := rx
      exact wpAny_is_other rfl (by intro z; cases z) ⟨.bl false, H, I, rfl, by simpa [e] using q⟩
    | ref a =>
      obtain rfl : v = Value.ref a := rx
      exact wpAny_is_other rfl (by intro z; cases z) ⟨.bl false, H, I, rfl, by simpa [e] using q⟩
    | _ => cases hx
theorem dt_okIs {F : Addr → Prop} {H : Hp} {v : V} {t : T} (h : Dt F H v t) : okIs v = true := by
  cases t with
  | non => rw [show v = _ from h]; rfl
  | bl b => rw [show v = _ from h]; rfl
  | int i => rw [show v = _ from h]; rfl
  | str x => rw [show v = _ from h]; rfl
  | lst ts =>
    obtain ⟨a, xs, rfl, _⟩ := h
    rfl
  | tup ts =>
    obtain ⟨a, xs, rfl, _⟩ := h
    rfl
  | dic t =>
    obtain ⟨a, x, rfl, _⟩ := h
    rfl
end LL

namespace LL
open PySem PySem.Spec PyProof.Rows L2 L2H
/-! ### name = {k: v for ..}, the name a local -/
theorem sw_trueD {kx vx : Expr} {gs : List Comprehension} {scope : Scope} {pos py : Pos} {y : Str} {l : Nat} {env : Env} (hk : env.scope.kind = .function) (hy : env.scope.names.lookup y = some .local) (hl : (py.line == pos.line) = true)
    (ha : (scope.names.any fun (n, k) => n == y && (k == .local || k == .cell)) = false) : swapsWith (.DictComp kx vx gs scope pos) (some (.Name y py)) l env = pure true := by
  have k1 : env.kindOf y = some .local := hy
  have k2 : env.blockKind = .function := by
    unfold Env.blockKind
    rw [hk]
    rfl
  unfold swapsWith
  simp only [k2, k1, ha, Expr.pos, hl]
  rfl
theorem ps_setDc {X : Cx} {i : Nat} {y : Str} {py : Pos} {kx vx tg iter : Expr} {ifs : List Expr} {scope : Scope} {own : List (Str × Nat)} {pos spos : Pos} {wi : TI} {g : TG} {tt : TT} {tk tv : TE} (hc : X.calm = true) (hN : X.N.Nodup) (hy : X.N[i]? = some y) (hyl : X.env.scope.names.lookup y = some .local)
    (hsw : swapsWith (.DictComp kx vx [⟨tg, iter, ifs, 0⟩] scope pos) (some (.Name y py)) spos.line X.env = pure true) (hi : PI X tg iter wi) (ok : BlkOk X.N X.env.scope scope own)
    (hg : ∀ (s : Shared) (H : Hp) (C : Addr) (cl : List (Str × Addr)) (fp : List Addr), PG (X.blk s H scope (compEnvC scope cl C X.env) fp) tg g) (ht : ∀ (s : Shared) (H : Hp) (C : Addr) (cl : List (Str × Addr)) (fp : List Addr), PTs (X.blk s H scope (compEnvC scope cl C X.env) fp) ifs tt)
    (hk : ∀ (s : Shared) (H : Hp) (C : Addr) (cl : List (Str × Addr)) (fp : List Addr), PE (X.blk s H scope (compEnvC scope cl C X.env) fp) kx tk) (he : ∀ (s : Shared) (H : Hp) (C : Addr) (cl : List (Str × Addr)) (fp : List Addr), PE (X.blk s H scope (compEnvC scope cl C X.env) fp) vx tv)
    (hs : ∀ x, foldedSetIterable iter X.env x = pure x := by intro _; rfl) :
    PS X (.Assign [.Name y py] (.DictComp kx vx [⟨tg, iter, ifs, 0⟩] scope pos) spos) (tAsg (tDc wi g tt tk tv (own.map (·.2))) (gName i)) := by
  refine ⟨fun pins s σ H D I h0 => ?_⟩
  rw [exec_Assign_Name_used _ _ _ _ hsw]
  refine wpAny_bind (wpAny_standAt (wpAny_bind ?_))
  show wpAny _ X.A (do let _ ← comprehension (.DictComp kx vx [⟨tg, iter, ifs, 0⟩] scope pos) scope X.env (firstIterPos [⟨tg, iter, ifs, 0⟩] pos) newDict false (eval iter X.env) (some (assign (.Name y py) X.env))) _ _ s
  have h1 : tDc wi g tt tk tv (own.map (·.2)) σ H (fun x H1 => gName i x σ H1 D.nx) := h0
  refine wpAny_bind (thn (dc_core (Qf := fun _ s' => SP X pins D .next s') hc hN I hi ok hg ht hk he hs h1 fun L C s' m H' I' q hn f => ?_) fun _ s' hq => wpAny_pure (wpAny_pure hq))
  show wpAny _ _ (assign (.Name y py) X.env (.ref L)) _ _ _
  refine wpAny_assign_Name (store_ok2 (v := V.ref L) I' hN hy (.inl hyl) rfl (fun s2 I2 ⟨a, sb, ha⟩ => ?_) (.inr hyl))
  obtain ⟨f0, f1, f2, f3, f4, f5⟩ := f
  have hCa : C ≠ a := ha.elim (fun z => by rw [z]; exact f1) fun z e => f4 y a z e.symm
  exact ⟨m, hn.sameBut sb hCa, fun h3 sb3 => ⟨_, H', I2.turned (t' := s2.toks) (fun b o hb e => (sb3.2 b hb).trans e) f0 f1 f3 f4 f5, q⟩⟩
end LL

/-! set(t) of a tuple of ints of which few differ; sorted of a set of any size -/
namespace LL
open PySem PySem.Spec PyProof.Rows L2
theorem nodup_le : ∀ {l ds : List Int}, l.Nodup → (∀ k ∈ l, k ∈ ds) → l.length ≤ ds.length
  | [], _, _, _ => Nat.zero_le _
  | x :: l, ds, h, s => by
    obtain ⟨h1, h2⟩ := List.nodup_cons.mp h
    have hx := s x List.mem_cons_self
    have ih := nodup_le (ds := ds.erase x) h2 fun k hk => (List.mem_erase_of_ne (fun e : k = x => h1 (by rw [← e]; exact hk))).mpr (s k (List.mem_cons_of_mem _ hk))
    rw [List.length_erase_of_mem hx] at ih
    have := List.length_pos_of_mem hx
    simp only [List.length_cons]
    omega
theorem setR_le {w : World} {h : Heap} {a : Addr} {S : Int → Bool} {n : Nat} {ds : List Int} (R : SetR w h a S n) (s : ∀ k, S k = true → k ∈ ds) : n ≤ ds.length := by
  obtain ⟨o, es, ep, t, ho, hex, hd, g, nd, hm, hb, hf, hn, hr, hl⟩ := R
  have := nodup_le nd fun k hk => s k ((hm k).mpr hk)
  rw [List.length_map, Array.length_toList, hn] at this
  exact this
section
variable {P : Program} {w : World} {A : Around} {E : Value → Shared → Prop} {s : Shared}
/-- the turns of the update, counted by the different ones -/
theorem upd_few {I : Addr} {fp wr : List Addr} {G : Array GenState → Array GenState → Prop} {n : Nat} {Pv : Nat → Value → Prop} {St : Nat → Shared → Prop} {R : Result → Shared → Prop} {S : Addr} {ns ds : List Int}
    (W : WalksS P w A.in1 I fp wr G n Pv St) (out : S ∉ fp) (hn : n = ns.length) (few : ds.length + 1 < scanBound) (sub : ∀ k ∈ ns, k ∈ ds) (item : ∀ i v, Pv i v → ∃ k t, ns[i]? = some k ∧ v = .int k t) (m : Nat) :
    ∀ (i : Nat) (s : Shared), n - i = m → i ≤ n → St i s → (∃ c, SetR w s.heap S (fun j => decide (j ∈ ns.take i)) c) → (∀ s' c, Moved (S :: wr) G s s' → SetR w s'.heap S (fun j => decide (j ∈ ns)) c → R (.ok (.ret .none)) s') → codeAny (model P w) A (.builtin "set.update.loop" ⟨[.ref S, .ref I], []⟩) R s := by
  have wS : S ∉ wr := fun h => out (W.sub _ h)
  have wr' : ∀ b ∈ wr, b ∈ S :: wr := fun b hb => List.mem_cons_of_mem _ hb
  induction m with
  | zero =>
    rintro i s hk hi hst ⟨c, hS⟩ hR
    obtain rfl : i = n := by omega
    refine codeAny_builtin F.entry_set_update_loop ?_
    rw [Around.under_plainId F.plain_set_update_loop _] ; show wpAny _ A.in1 (pyNext (.ref I) >>= _) _ _ s
    refine wpAny_bind (W.done s _ _ hst fun s1 mv => ?_)
    show wpAny _ A.in1 (ret Value.none) _ _ s1
    rw [List.take_of_length_le (Nat.le_of_eq hn.symm)] at hS
    exact wpAny_pure (hR s1 c (mv.mono wr') (hS.at fun o e => mv.heap S o wS e))
  | succ m ih =>
    rintro i s hk hi hst ⟨c, hS⟩ hR
    refine codeAny_builtin F.entry_set_update_loop ?_
    rw [Around.under_plainId F.plain_set_update_loop _] ; show wpAny _ A.in1 (pyNext (.ref I) >>= _) _ _ s
    refine wpAny_bind (W.item i s _ _ (by omega) hst fun v s1 pv st1 mv => ?_)
    obtain ⟨z, t, hz, rfl⟩ := item i v pv
    have S1 : SetR w s1.heap S (fun j => decide (j ∈ ns.take i)) c := hS.at fun o e => mv.heap S o wS e
    have c1 : c ≤ ds.length := setR_le S1 fun k hk => sub k (List.mem_of_mem_take (of_decide_eq_true hk))
    show wpAny _ A.in1 (holding [Value.int z t] (setAdd S (.int z t)) >>= _) _ _ s1
    refine wpAny_bind (wpAny_holding ?_) ; unfold setAdd ; refine wpAny_holding (wpAny_bind ((intKind P w).pyHash (k := z) (intKind_is _ _ _ _) ?_))
    refine setR_add_hashed (s := { s1 with toks := s1.toks + 1 }) S1 (by omega) fun h2 same S2 => ?_
    have S3 : SetR w h2 S (fun j => decide (j ∈ ns.take (i + 1))) _ := S2.congr fun j => by rw [List.take_add_one, hz] ; simp [List.mem_append]
    have other : ∀ b o, b ≠ S → s1.heap.get? b = some o → h2.get? b = some o := fun b o hb e => by rw [same.2 b hb] ; exact e
    refine wpAny_pure ⟨plainId_quiet F.plain_set_update_loop _, ih (i + 1) _ (by omega) (by omega) (W.frame _ s1 _ _ st1 (Nat.le_succ _) fun b hb o e => other b o (fun z => out (z ▸ hb)) e) ⟨_, S3⟩ fun s2 c2 m2 S4 => hR s2 c2 (Moved.trans W.gtrans ((mv.mono wr').then_heap (Nat.le_succ _) fun b o hb e => other b o (fun z => hb (z ▸ List.mem_cons_self)) e) m2) S4⟩
/-- the object of an empty set -/
abbrev emp (w : World) : Obj := { cls := .type "set", dict := none, data := .set #[] 0 (.fresh 0 0 (!w.params.followText "set-order")) }
set_option maxHeartbeats 8000000 in
theorem call_set_few {l : Addr} {items : Array Value} {ns ds : List Int} {Q : Value → Shared → Prop} (hh : A.handled = none) (hl : s.heap.IsTuple l items) (hit : IntsAre items.toList ns) (few : ds.length + 1 < scanBound) (sub : ∀ k ∈ ns, k ∈ ds)
    (h : ∀ (h' : Heap) (tk c : Nat), SetR w h' s.heap.objs.size (fun j => decide (j ∈ ns)) c → (∀ b o, s.heap.get? b = some o → h'.get? b = some o) → Q (.ref s.heap.objs.size) { s with heap := h', toks := tk }) : wpAny (model P w) A (call (.type "set") [.ref l]) Q E s := by
  have size : items.size = ns.length := by have q := IntsAre.length hit ; rw [Array.length_toList] at q ; exact q
  obtain ⟨c, tl, f0⟩ := F.called_set.mro
  have f1 := F.called_set.made ; have f2 := F.called_set.sub ; have f3 := F.called_set.notType ; have f4 := F.called_set.canCreate ; have f5 := F.typeCall_set_1 (.ref l)
  refine wpAny_call (codeAny_of_tree ?_) ; show wpAny _ _ (callAny (.type "set") _) _ _ _
  refine wpAny_pure ⟨Code.quiet_builtin _ (by decide +kernel), codeAny_builtin F.entry_type_call ?_⟩ ; rw [Around.under_plain (weight_type_call_type "set" [.ref l] []) rfl]
  repeat (any_goals (first | assumption | wp_step)) ; skip
  refine codeAny_mono (code_set_led1 (.ref l) (E := E) (Q₁ := fun obj z => obj = .ref s.heap.objs.size ∧ z = { s with heap := s.heap.push (emp w) }) ⟨rfl, rfl⟩) fun r z hr => ?_
  match r, hr with
  | .error e, hr => exact hr
  | .ok .next, hr => exact hr.elim
  | .ok .brk, hr => exact hr.elim
  | .ok .cont, hr => exact hr.elim
  | .ok (.ret obj), hr =>
    obtain ⟨rfl, rfl⟩ := hr
    have set0 : (s.heap.push (emp w)).get? s.heap.objs.size = some (emp w) := Heap.get?_push_size _ rfl
    have type0 : Shared.TypeIs { s with heap := s.heap.push (emp w) } (.ref s.heap.objs.size) "set" := ⟨_, set0, rfl⟩
    have g1 := F.called_set.init.lookup ; have g2 := F.called_set.init.bind (.ref s.heap.objs.size)
    repeat (any_goals (first | assumption | wp_step)) ; skip
    refine codeAny_mono (codeAny_call_builtin (R := wants (fun r z => r = .none ∧ ∃ h' tk c, z = { s with heap := h', toks := tk } ∧ SetR w h' s.heap.objs.size (fun j => decide (j ∈ ns)) c ∧ (∀ b o, s.heap.get? b = some o → h'.get? b = some o)) E) F.called_set.init.plain F.entry_set_init (check_set_init_1 type0 ?_)) fun r z hr => ?_
    · obtain ⟨⟨c0, d0, t0, k0⟩, got, e1, len, e2⟩ := hl
      simp only at e1 e2 ; subst e1 ; subst e2
      have got' : (s.heap.push (emp w)).get? l = some { cls := .type "tuple", dict := d0, data := .seq items len, slots := k0 } := Heap.get?_push_of_some _ got
      have k1 := F.sub_tuple_set ; have k2 := F.sub_tuple_frozenset ; have k3 : (Value.type "tuple" == Value.type "dict") = false := by decide
      have tup : (s.heap.push (emp w)).IsTuple l items := ⟨_, got', rfl, len, rfl⟩
      unfold Builtin.«set.__init__» noKeywords Builtin.Frozenset.updateFrom ; generalize it : pyIter = PI ; wp_walk ; subst it
      refine wpAny_pyIter_tuple tup (wpAny_bind (wpAny_runValue ?_))
      have lt : l < s.heap.objs.size := Heap.lt_size got
      have hd : A.in1.in1.in1.handled = none := by simp [hh]
      have n1 : l ≠ (s.heap.push (emp w)).objs.size := by rw [Heap.size_push] ; exact Nat.ne_of_lt (Nat.lt_succ_of_lt lt)
      have n2 : s.heap.objs.size ∉ [(s.heap.push (emp w)).objs.size, l] := by rw [Heap.size_push] ; simp ; exact fun z => absurd (z ▸ lt) (Nat.lt_irrefl _)
      refine upd_few (ds := ds) ((Walks.tuple hd _ l n1 items).toS) (S := s.heap.objs.size) n2 size few sub (fun i v hv => ?_) (items.size - 0) 0 _ (by omega) (Nat.zero_le _) ⟨⟨_, Heap.get?_push_size _ rfl, rfl, rfl⟩, (tup.push _)⟩ ⟨0, setR_new_at (Heap.get?_push_of_some _ set0)⟩ ?_
      · have hi : i < ns.length := by rw [← size] ; exact (Array.getElem?_eq_some_iff.mp hv).1
        obtain ⟨t, e⟩ := PyProof.Rows.IntsAre.int_at hit i v (by rw [Array.getElem?_toList] ; exact hv)
        exact ⟨ns[i], t, List.getElem?_eq_getElem hi, by rw [e, List.getD_eq_getElem?_getD, List.getElem?_eq_getElem hi] <;> rfl⟩
      · rintro ⟨h2, g2, d2, tk2, o2⟩ c2 mv S2
        obtain rfl : g2 = s.gens := mv.gens ; obtain rfl : d2 = s.drawn := mv.drawn ; obtain rfl : o2 = s.os := mv.os
        show wpAny _ _ _ _ _ _ ; refine wpAny_pure ?_ ; show wpAny _ _ (ret Value.none) _ _ _
        refine wpAny_pure ⟨rfl, h2, tk2, c2, rfl, S2, fun b o e => mv.heap b o ?_ (Heap.get?_push_of_some _ (Heap.get?_push_of_some _ e))⟩
        have lb := Heap.lt_size e ; rw [Heap.size_push] ; simp ; exact ⟨Nat.ne_of_lt lb, Nat.ne_of_lt (Nat.lt_succ_of_lt lb)⟩
    · match r, hr with
      | .error e, hr => exact hr
      | .ok .next, hr => exact hr.elim
      | .ok .brk, hr => exact hr.elim
      | .ok .cont, hr => exact hr.elim
      | .ok (.ret u), hr =>
        obtain ⟨rfl, h2, tk2, c2, rfl, S2, k⟩ := hr
        repeat (any_goals (first | assumption | wp_step)) ; skip
        exact h _ _ _ S2 k
/-- sorted of a set, of any size -/
theorem sorted_setN {a : Addr} {S : Int → Bool} {n : Nat} {Q : Value → Shared → Prop} (R : SetR w s.heap a S n) (hh : A.handled = none)
    (hQ : ∀ s' p (out : Array Value) (c : Nat) (ns : List Int), (∀ b o, s.heap.get? b = some o → s'.heap.get? b = some o) → s'.gens = s.gens → s'.os = s.os → s.heap.objs.size ≤ p → s'.heap.get? p = some (seqObj "list" out c) → IntsAre out.toList ns → ns.Pairwise (· < ·) → (∀ k, k ∈ ns ↔ S k = true) → ns.length ≤ sizeLine → Q (.ref p) s') :
    wpAny (model P w) A (call (.builtin "sorted") [.ref a]) Q E s := by
  obtain ⟨o, es, ep, t, ho, hex, hd, g, nd, hm, hb, hf, hn, hr, hl⟩ := R
  refine Calls.call_function_entry kind_sorted plain_sorted entry_sorted (args_sorted1 _) ?_ ; unfold Builtin.«sorted»
  refine wpAny_bind (m := checkCount "sorted" 1 1 _) (wpAny_pure (wpAny_bind (collect_set (A := A.in1) hh ⟨o, ho, hex.1, hd⟩ hf hb hr hl fun s1 vs k1 hz g1 o1 pm => ?_)))
  have len : vs.length = es.size := by rw [pm.length_eq, List.length_map, Array.length_toList]
  have line : vs.length ≤ sizeLine := by rw [len] ; exact fits_of_scanBound hb
  have ivs : IntsAre vs (vs.map Builtin.Re.reRawOf) := ints_of vs fun v hv => by
    obtain ⟨e, he, q⟩ := List.mem_map.mp (pm.mem_iff.mp hv) ; obtain ⟨k, tk, h1, _⟩ := g e he ; exact ⟨k, tk, by rw [← q] ; exact h1⟩
  have perm : (vs.map Builtin.Re.reRawOf).Perm (es.toList.map keyOf) := by have q := pm.map Builtin.Re.reRawOf ; rw [List.map_map] at q ; exact q
  refine wpAny_bind (wpAny_newList ?_ line)
  have lst0 : (s1.heap.push (seqObj "list" vs.toArray 0)).get? s1.heap.objs.size = some (seqObj "list" vs.toArray 0) := Heap.get?_push_size _ rfl
  refine wpAny_bind (wpAny_holding (wpAny_call_entry slot_list_sort ⟨_, lst0, rfl⟩ entry_list_sort (SrtO.list_sort_ord SrtO.swo_int lst0 line (fun h2 => SrtO.ints_sortable ivs h2) fun out a1 a2 => ⟨_, rfl, ?_⟩) (args_list_sort _)))
  obtain ⟨k1', k2, k3⟩ := SrtO.ints_out ivs a1 a2
  obtain ⟨c, hc⟩ := sortedHeap_at (vs := vs) (out := out.toArray) lst0
  have pn := k2.trans perm
  refine wpAny_pure ⟨_, rfl, hQ _ s1.heap.objs.size out.toArray c _ (fun b u e => ?_) g1 o1 hz hc k1' (lt_of_le_nodup _ k3 (pn.nodup_iff.mpr nd)) (fun k => by rw [pn.mem_iff, ← hm k]) (by rw [k2.length_eq, List.length_map] ; exact line)⟩
  have lt := Heap.lt_size (k1 b u e)
  show (sortedHeap (s1.heap.push (seqObj "list" vs.toArray 0)) s1.heap.objs.size vs out.toArray).get? b = some u
  rw [sortedHeap_old (Nat.ne_of_lt lt) (by rw [size_push'] ; exact Nat.lt_succ_of_lt lt)] ; exact Heap.get?_push_of_some _ (k1 b u e)
end
section
variable {X : Cx}
/-- set(t), t a tuple of ints, each of them in ds -/
def rSetT (K : PySem.W.Frag) (w : World) : List V → Hp → VK → Prop := fun xs H Q => ∃ (p : Addr) (ns ds : List Int), xs = [.ref p] ∧ SqT K H p (ns.map V.int) ∧ ds.length + 1 < scanBound ∧ (∀ k ∈ ns, k ∈ ds) ∧ ∀ a c, H a = none → Q (.ref a) (upd H a (SetO w a (fun j => decide (j ∈ ns)) c))
theorem cr_setT (hc : X.calm = true) : CallR X (.type "set") (rSetT X.K X.w) := by
  rintro pins s σ H xs us Q I r ⟨p, ns, ds, rfl, hs, few, sub, q⟩
  obtain ⟨its, rv, pt, hz⟩ := I.tuple hs
  rw [Vals.ref1 r]
  refine call_set_few (ds := ds) (I.ok.hd hc) (show s.heap.IsTuple p its.toArray from pt) rv.ints few sub fun h' tk c R k => ?_
  have hn : H s.heap.objs.size = none := I.hok.fresh (Nat.le_refl _)
  exact ⟨.ref _, upd H s.heap.objs.size (SetO X.w s.heap.objs.size _ c), I.laid (t' := tk) k (Nat.le_refl _) (setO_new R), rfl, q _ c hn⟩
/-- sorted(a set) -/
def rSortS (w : World) : List V → Hp → VK → Prop := fun vs H Q => ∃ (a : Addr) (S : Int → Bool) (n : Nat), vs = [V.ref a] ∧ H a = some (SetO w a S n) ∧ ∀ (ns : List Int) (p : Addr), ns.Pairwise (· < ·) → (∀ k : Int, k ∈ ns ↔ S k = true) → H p = none → Q (.ref p) (upd H p (.lst (ns.map V.int)))
theorem cr_sortS (hc : X.calm = true) : CallR X (.builtin "sorted") (rSortS X.w) := by
  rintro pins s σ H vs us Q I r ⟨a, S, n, rfl, ha, q⟩
  rw [Vals.ref1 r]
  refine sorted_setN (setO_get I ha) (I.ok.hd hc) fun s' p out c ns k g o hp hg hi hs hm hl => ?_
  have hn : H p = none := I.hok.fresh hp
  have hlen : (ns.map V.int).length ≤ sizeLine := by rw [List.length_map] ; exact hl
  have J : Inv X pins σ (upd H p (.lst (ns.map V.int))) { s with heap := s'.heap, gens := s'.gens, drawn := s'.drawn, toks := s'.toks } := I.call (ch := []) (Un.laid k hp hn) (I.hok.laid k hp ⟨hlen, out.toList, c, vals_of_ints hi, hg⟩) (by rw [g] ; exact I.bare) (fun _ z => nomatch z)
  have e : s' = { s with heap := s'.heap, gens := s'.gens, drawn := s'.drawn, toks := s'.toks } := by cases s' ; cases s ; cases o ; rfl
  rw [e]
  exact ⟨.ref p, _, J, rfl, q ns p hs hm hn⟩
/-- t * n, a great number of items -/
def rRepW (K : PySem.W.Frag) : R2 := fun x y H Q => ∃ l k xs, x = .ref l ∧ y = .int k ∧ SqT K H l xs ∧ xs ≠ [] ∧ 2 ≤ k ∧ xs.length * k.toNat ≤ 1000000 ∧ ∀ p, H p = none → Q (.ref p) (upd H p (.tup (List.replicate k.toNat xs).flatten))
theorem op_repW : OpR X (binaryOp .Mult) (rRepW X.K) := by
  rintro pins s σ H x y v u Q I rx ry ⟨l, k, xs, rfl, rfl, hT, ne, two, size, q⟩
  cases rx ; obtain ⟨t, rfl⟩ := ry
  obtain ⟨its, r, ⟨⟨cls, dd, data, sl⟩, ho, hc, n, hd⟩, hs⟩ := I.tuple hT
  simp only at hc hd ; subst hc hd
  have len : its.length = xs.length := r.length.symm
  have pos : 0 < xs.length := List.length_pos_iff.mpr ne
  obtain ⟨m, rfl⟩ : ∃ m : Nat, k = m := ⟨k.toNat, by omega⟩
  rw [Int.toNat_natCast] at size q
  have less : m ≤ 1000000 := Nat.le_trans (Nat.le_mul_of_pos_left m pos) size
  have e0 : its.toArray.isEmpty = false := by cases its with | nil => rw [← len] at pos ; exact absurd pos (Nat.lt_irrefl 0) | cons a b => rfl
  have mul : ((its.toArray.size : Nat) : Int) * (m : Int) ≤ 1000000 := by rw [List.size_toArray, len] ; exact (Int.natCast_mul xs.length m) ▸ Int.ofNat_le.mpr size
  have flat : (List.replicate m its).flatten.length ≤ sizeLine := by rw [PyProof.Rows.lm_len_rep_flat, len, sizeLine_eq, Nat.mul_comm] ; omega
  have w1 : (decide ((m : Int) < -(2 ^ 63)) || decide ((m : Int) ≥ 2 ^ 63)) = false := by rw [decide_eq_false (by omega), decide_eq_false (by omega)] ; rfl
  have w2 : (its.toArray.isEmpty || (m : Int) == 1) = false := by rw [e0, Bool.false_or] ; exact beq_eq_false_iff_ne.mpr (by omega)
  have w3 : (decide ((m : Int) ≤ 0) || its.toArray.isEmpty) = false := by rw [e0, Bool.or_false] ; exact decide_eq_false (by omega)
  have w4 : Builtin.Tuple.tupleTooMany (((its.toArray.size : Nat) : Int) * (m : Int)) = false := by unfold Builtin.Tuple.tupleTooMany ; rw [sizeLine_eq] ; exact decide_eq_false (by omega)
  have made := tuple_mulW l its.toArray n dd sl m t w1 w2 w3 (by omega) w4 (by rw [Int.toNat_natCast, size_rep, List.size_toArray] ; exact flat)
  refine wpAny_binaryOp_repeat_ref (T := "tuple") (U := "int") (by decide) ⟨_, ho, rfl⟩ (fun s' => typeIs_int s' m t) noFill_tuple_mul F.fills_int_mul F.slot_int_rmul repeat_tuple F.slot_int_index.lookup (call_meets F.slot_int_rmul (typeIs_int s m t) F.entry_int_rmul (F.args_int_rmul_2 _ _) (int_rmul_tuple m t l its.toArray n dd sl) ⟨ho, rfl, ⟨_, ho, rfl⟩, call_meets F.slot_tuple_mul ⟨_, ho, rfl⟩ F.entry_tuple_mul (F.args_tuple_mul_2 _ _) made ⟨ho, ?_⟩⟩)
  rw [Int.toNat_natCast, size_rep]
  have val : Vals (List.replicate m xs).flatten (List.replicate m its).flatten := by
    clear made w1 w2 w3 w4 flat mul less two size q
    induction m with
    | zero => exact .nil
    | succ m ih => rw [List.replicate_succ, List.replicate_succ, List.flatten_cons, List.flatten_cons] ; exact r.append ih
  exact ⟨.ref s.heap.objs.size, _, I.laid (t' := s.toks) (o := .tup (List.replicate m xs).flatten) (fun b ob z => Heap.get?_push_of_some _ z) (Nat.le_refl _) ⟨by rw [val.length] ; exact flat, _, val, IsTup.new _ _⟩, rfl, q _ (I.hok.fresh (Nat.le_refl _))⟩
end
end LL

/-! sorted of rows of ints, of any number -/
namespace LL
open PySem PySem.Spec PyProof.Rows L2 PySem.W
def encR (b : V × List Int) : PyData := .tuple (b.2.map .int)
def leR (a b : List Int) : Bool := decide (a ≤ b)
theorem vals_each : ∀ {bs : List (V × List Int)} {us : List Value}, Vals (bs.map (·.1)) us → EachIs (fun v (b : V × List Int) => RelV b.1 v) us bs
  | [], us, h => by cases h ; exact .nil
  | b :: bs, us, h => by cases h with | cons r rr => exact .cons r (vals_each rr)
theorem each_vals : ∀ {bs : List (V × List Int)} {us : List Value}, EachIs (fun v (b : V × List Int) => RelV b.1 v) us bs → Vals (bs.map (·.1)) us
  | [], us, h => by cases h ; exact .nil
  | b :: bs, us, h => by cases h with | cons r rr => exact .cons r (each_vals rr)
theorem each_reads {X : Cx} {pins : List (Addr × Obj)} {σ : L2.St} {H : Hp} {s : Shared} (I : Inv X pins σ H s) : ∀ {bs : List (V × List Int)} {us : List Value}, (∀ b ∈ bs, Dp X.K H b.1 (encR b)) → Vals (bs.map (·.1)) us → EachIs (fun v b => ∃ as, Reads s.heap v (encR b) as) us bs
  | [], us, _, h => by cases h ; exact .nil
  | b :: bs, us, d, h => by cases h with | cons r rr => exact .cons (Dp.reads I _ _ _ (d b List.mem_cons_self) r) (each_reads I (fun c hc => d c (List.mem_cons_of_mem _ hc)) rr)
theorem dataLe_tup : dataLe false encR = fun a b => leR a.2 b.2 := by
  funext a b
  rw [dataLe_eq]
  show (!dataLt (.tuple (b.2.map .int)) (.tuple (a.2.map .int))) = _
  rw [show dataLt (.tuple (b.2.map .int)) (.tuple (a.2.map .int)) = rowLt (b.2.map .int) (a.2.map .int) from rfl, dataLt_ints]
  unfold leR
  by_cases h : a.2 ≤ b.2
  · rw [decide_eq_true h, decide_eq_false (fun z => h z)] ; rfl
  · rw [decide_eq_false h, decide_eq_true (Classical.not_not.mp h)] ; rfl
def rSortedR (K : PySem.W.Frag) : List V → Hp → VK → Prop := fun vs H Q => ∃ (a : Addr) (bs : List (V × List Int)), vs = [V.ref a] ∧ SqL K H a (bs.map (·.1)) ∧ (∀ b ∈ bs, Dp K H b.1 (encR b) ∧ b.2 ≠ []) ∧ ∀ p, H p = none → Q (.ref p) (upd H p (.lst ((bs.mergeSort fun a b => leR a.2 b.2).map (·.1))))
theorem cr_sortedR {X : Cx} (hu : X.A.units + 64 < cLine) : CallR X (.builtin "sorted") (rSortedR X.K) := by
  rintro pins s σ H vs us Q I r ⟨a, bs, rfl, hs, hb, q⟩
  obtain ⟨its, rv, hl, hz⟩ := I.list hs
  rw [Vals.ref1 r]
  have len : bs.length ≤ sizeLine := by rw [List.length_map] at hz ; exact hz
  refine sorted_data (bs := bs) (enc := encR) (R := fun v (b : V × List Int) => RelV b.1 v) (vs := its) hl.isList (vals_each rv) (each_reads I (fun b h => (hb b h).1) rv) (AllAlike.of fun b b' => alike_ints b.2 b'.2) (.inl fun d hd => ?_) len (fun b h => ?_) fun out hol he => ?_
  · obtain ⟨b, h, rfl⟩ := List.mem_map.mp hd
    obtain ⟨x, xs, e⟩ := List.exists_cons_of_ne_nil (hb b h).2
    exact ⟨.int x, xs.map .int, by unfold encR ; rw [e] ; rfl⟩
  · have d0 := depth_ints b.2
    have : (encR b).depth ≤ 1 := by unfold encR ; simp [PyData.depth, d0]
    show X.A.units + 2 + (encR b).depth < cLine
    omega
  · rw [dataLe_tup] at he
    obtain ⟨ep, he'⟩ := PyProof.Rows.sortedAll_at s.heap its out.toArray
    have hlen : ((bs.mergeSort fun a b => leR a.2 b.2).map (·.1)).length ≤ sizeLine := by rw [List.length_map, List.length_mergeSort] ; exact len
    exact ⟨.ref _, upd H (s.heap.objs.size + 1) (.lst ((bs.mergeSort fun a b => leR a.2 b.2).map (·.1))), I.laid (t' := s.toks) (fun _ _ => PyProof.Rows.sortedAll_old) (Nat.le_succ _) ⟨hlen, out, ep, each_vals he, he'⟩, rfl, q _ (I.hok.fresh (Nat.le_succ _))⟩
end LL

/-! data as trees; what code does, said of trees alone -/
namespace LT
open PySem PySem.Spec PyProof.Rows L2 LL

inductive Tr where
  | non | bl (b : Bool) | int (i : Int) | str (x : Str) | lst (ts : List Tr) | tup (ts : List Tr) | dic (ks : List Key) (ts : List Tr) | obj (a : Addr) | drw | ty (n : String)
/-- what may change, at its address -/
inductive Cell where
  | lst (ts : List Tr) | dic (ks : List Key) (ts : List Tr) | ins (C dx : Addr) (ns : List Str) (ts : List Tr)
abbrev Om := Addr → Option Cell
def put (Ω : Om) (a : Addr) (c : Cell) : Om := fun b => if b = a then some c else Ω b
def cut (Ω : Om) (a : Addr) : Om := fun b => if b = a then none else Ω b
theorem put_same {Ω : Om} {a : Addr} {c : Cell} : put Ω a c a = some c := by unfold put; rw [if_pos rfl]
theorem put_ne {Ω : Om} {a b : Addr} {c : Cell} (h : b ≠ a) : put Ω a c b = Ω b := by unfold put; rw [if_neg h]
theorem put_put {Ω : Om} {a : Addr} {c e : Cell} : put (put Ω a c) a e = put Ω a e := by
  funext b; unfold put; split <;> rfl
theorem cut_put {Ω : Om} {a : Addr} {c : Cell} (h : Ω a = none) : cut (put Ω a c) a = Ω := by
  funext b; unfold cut put
  split
  · rename_i e; rw [e, h]
  · rfl
theorem cut_same {Ω : Om} {a : Addr} : cut Ω a a = none := by unfold cut; rw [if_pos rfl]
theorem cut_ne {Ω : Om} {a b : Addr} (h : b ≠ a) : cut Ω a b = Ω b := by unfold cut; rw [if_neg h]
/-- an exception's value: its class, its fields -/
structure XV where
  cls : Str
  ns : List Str
  ts : List Tr
structure Gh where
  dr : Option (Addr × Addr)
  pr : Addr → Prop
  ex : List (Value × Option Addr × XV)
/-- a constant of the program's top -/
def ConstT (K : PySem.W.Frag) (a : Addr) (xs : List V) : Prop := (∀ H, SqT K H a xs) ∧ xs.all flatV = true
section
variable (K : PySem.W.Frag) (dr : Option (Addr × Addr)) (F : Addr → Prop) (H : Hp)
mutual
def VD : V → Tr → Prop
  | v, .non => v = .non
  | v, .bl b => v = .bl b
  | v, .int i => v = .int i
  | v, .str x => v = .str x
  | v, .lst ts => ∃ a xs, v = .ref a ∧ F a ∧ H a = some (.lst xs) ∧ VDL xs ts ∧ ts.length ≤ 1000000
  | v, .tup ts => ∃ a xs, v = .ref a ∧ ((F a ∧ H a = some (.tup xs)) ∨ ConstT K a xs) ∧ VDL xs ts ∧ ts.length ≤ 1000000
  | v, .dic ks ts => ∃ a xs, v = .ref a ∧ F a ∧ H a = some (.dK (ks.zip xs)) ∧ VDL xs ts ∧ ts.length = ks.length ∧ ts.length ≤ 1000000
  | v, .obj a => v = .ref a
  | v, .drw => ∃ d s, dr = some (d, s) ∧ v = .ref d
  | v, .ty n => v = .ty n
def VDL : List V → List Tr → Prop
  | xs, [] => xs = []
  | xs, t :: ts => ∃ v vs, xs = v :: vs ∧ VD v t ∧ VDL vs ts
end
end
section
variable {K : PySem.W.Frag} {dr : Option (Addr × Addr)} {F G : Addr → Prop} {H H' : Hp}
mutual
theorem VD.imp (hF : ∀ a o, F a → H a = some o → G a ∧ H' a = some o) : ∀ {v : V} (t : Tr), VD K dr F H v t → VD K dr G H' v t
  | _, .non, h => h
  | _, .bl _, h => h
  | _, .int _, h => h
  | _, .str _, h => h
  | _, .lst ts, h => by
    obtain ⟨a, xs, e, f, ha, hx, hz⟩ := h
    exact ⟨a, xs, e, (hF a _ f ha).1, (hF a _ f ha).2, VDL.imp hF ts hx, hz⟩
  | _, .tup ts, h => by
    obtain ⟨a, xs, e, ha, hx, hz⟩ := h
    exact ⟨a, xs, e, ha.imp (fun z => ⟨(hF a _ z.1 z.2).1, (hF a _ z.1 z.2).2⟩) id, VDL.imp hF ts hx, hz⟩
  | _, .dic ks ts, h => by
    obtain ⟨a, xs, e, f, ha, hx, hz⟩ := h
    exact ⟨a, xs, e, (hF a _ f ha).1, (hF a _ f ha).2, VDL.imp hF ts hx, hz⟩
  | _, .obj a, h => h
  | _, .drw, h => h
  | _, .ty n, h => h
theorem VDL.imp (hF : ∀ a o, F a → H a = some o → G a ∧ H' a = some o) : ∀ {xs : List V} (ts : List Tr), VDL K dr F H xs ts → VDL K dr G H' xs ts
  | _, [], h => h
  | _, t :: ts, h => by
    obtain ⟨v, vs, e, h1, h2⟩ := h
    exact ⟨v, vs, e, VD.imp hF t h1, VDL.imp hF ts h2⟩
end
theorem VDL.len : ∀ {xs : List V} (ts : List Tr), VDL K dr F H xs ts → xs.length = ts.length
  | _, [], h => by rw [show _ = [] from h]; rfl
  | _, t :: ts, h => by
    obtain ⟨v, vs, rfl, h1, h2⟩ := h
    rw [List.length_cons, List.length_cons, VDL.len ts h2]
theorem VDL.get : ∀ {xs : List V} (ts : List Tr) {i : Nat} {x : V}, VDL K dr F H xs ts → xs[i]? = some x → ∃ t, ts[i]? = some t ∧ VD K dr F H x t
  | _, [], _, _, h, e => by rw [show _ = [] from h] at e; cases e
  | _, t :: ts, 0, x, h, e => by
    obtain ⟨v, vs, rfl, h1, h2⟩ := h
    cases e
    exact ⟨t, rfl, h1⟩
  | _, t :: ts, i + 1, x, h, e => by
    obtain ⟨v, vs, rfl, h1, h2⟩ := h
    exact VDL.get ts (i := i) h2 e
theorem VDL.get' {xs : List V} {ts : List Tr} {i : Nat} {t : Tr} (h : VDL K dr F H xs ts) (e : ts[i]? = some t) : ∃ x, xs[i]? = some x ∧ VD K dr F H x t := by
  have hi := (List.getElem?_eq_some_iff.mp e).1
  have hx : i < xs.length := by rw [VDL.len ts h]; exact hi
  obtain ⟨t', e', d⟩ := VDL.get ts h (List.getElem?_eq_getElem hx)
  rw [e] at e'
  cases e'
  exact ⟨_, List.getElem?_eq_getElem hx, d⟩
theorem VDL.app : ∀ {xs ys : List V} (ts : List Tr) {us : List Tr}, VDL K dr F H xs ts → VDL K dr F H ys us → VDL K dr F H (xs ++ ys) (ts ++ us)
  | _, _, [], _, h, k => by rw [show _ = [] from h]; exact k
  | _, _, t :: ts, _, h, k => by
    obtain ⟨v, vs, rfl, h1, h2⟩ := h
    exact ⟨v, vs ++ _, rfl, h1, VDL.app ts h2 k⟩
theorem VDL.one {v : V} {t : Tr} (h : VD K dr F H v t) : VDL K dr F H [v] [t] := ⟨v, [], rfl, h, rfl⟩
theorem VDL.cons {v : V} {t : Tr} {vs : List V} {ts : List Tr} (h : VD K dr F H v t) (k : VDL K dr F H vs ts) : VDL K dr F H (v :: vs) (t :: ts) := ⟨v, vs, rfl, h, k⟩
theorem VDL.cons_inv {x : V} {xs : List V} {us : List Tr} (h : VDL K dr F H (x :: xs) us) : ∃ t ts, us = t :: ts ∧ VD K dr F H x t ∧ VDL K dr F H xs ts := by
  cases us with
  | nil => cases h
  | cons t ts =>
    obtain ⟨v, vs, e, h1, h2⟩ := h
    cases e
    exact ⟨t, ts, rfl, h1, h2⟩
theorem VDL.nil_inv {us : List Tr} (h : VDL K dr F H [] us) : us = [] := by
  cases us with
  | nil => rfl
  | cons t ts => obtain ⟨v, vs, e, _⟩ := h; cases e
theorem VDL.of_all : ∀ {xs : List V} {ts : List Tr}, xs.length = ts.length → (∀ (i : Nat) x t, xs[i]? = some x → ts[i]? = some t → VD K dr F H x t) → VDL K dr F H xs ts
  | [], [], _, _ => rfl
  | x :: xs, t :: ts, hl, h => ⟨x, xs, rfl, h 0 x t rfl rfl, VDL.of_all (by simpa using hl) fun i y u a b => h (i + 1) y u a b⟩
theorem VDL.all {xs : List V} {ts : List Tr} (h : VDL K dr F H xs ts) : ∀ (i : Nat) x t, xs[i]? = some x → ts[i]? = some t → VD K dr F H x t := fun i x t e1 e2 => by
  obtain ⟨t', e', d⟩ := h.get _ e1
  rw [e2] at e'
  cases e'
  exact d
theorem VDL.set {v : V} {t : Tr} {xs : List V} {ts : List Tr} {j : Nat} (h : VDL K dr F H xs ts) (d : VD K dr F H v t) : VDL K dr F H (xs.set j v) (ts.set j t) := by
  refine VDL.of_all (by rw [List.length_set, List.length_set, h.len]) fun i x u e1 e2 => ?_
  by_cases hij : j = i
  · subst hij
    have hl := h.len
    have hj := (List.getElem?_eq_some_iff.mp e2).1
    rw [List.length_set] at hj
    rw [List.getElem?_set_self (by omega)] at e1
    rw [List.getElem?_set_self hj] at e2
    cases e1
    cases e2
    exact d
  · rw [List.getElem?_set_ne hij] at e1 e2
    exact h.all i x u e1 e2
theorem VDL.sub {xs : List V} {ts : List Tr} (h : VDL K dr F H xs ts) (a n : Nat) : VDL K dr F H ((xs.drop a).take n) ((ts.drop a).take n) := by
  refine VDL.of_all (by rw [List.length_take, List.length_take, List.length_drop, List.length_drop, h.len]) fun i x u e1 e2 => ?_
  have hi : i < n := by
    have := (List.getElem?_eq_some_iff.mp e1).1
    rw [List.length_take] at this
    omega
  rw [List.getElem?_take_of_lt hi, List.getElem?_drop] at e1 e2
  exact h.all _ x u e1 e2
end
/-- may stand in data that is handed on -/
def NM (g : Gh) (Ω : Om) (b : Addr) : Prop := Ω b = none ∧ (∀ d, g.dr ≠ some (d, b)) ∧ ¬ g.pr b
def Keep (g : Gh) (H : Hp) (Ω : Om) (H' : Hp) (Ω' : Om) : Prop := ∀ b o, Ω b = none → (∀ d, g.dr ≠ some (d, b)) → H b = some o → H' b = some o ∧ Ω' b = none
section
variable {K : PySem.W.Frag} {g : Gh} {H H' H2 : Hp} {Ω Ω' Ω2 : Om}
theorem Keep.refl : Keep g H Ω H Ω := fun _ _ h _ e => ⟨e, h⟩
theorem Keep.trans (a : Keep g H Ω H' Ω') (b : Keep g H' Ω' H2 Ω2) : Keep g H Ω H2 Ω2 := fun c o h d e => b c o (a c o h d e).2 d (a c o h d e).1
theorem VD.keep {v : V} {t : Tr} (h : VD K g.dr (NM g Ω) H v t) (k : Keep g H Ω H' Ω') : VD K g.dr (NM g Ω') H' v t := VD.imp (fun a o f e => ⟨⟨(k a o f.1 f.2.1 e).2, f.2⟩, (k a o f.1 f.2.1 e).1⟩) t h
theorem VDL.keep {v : List V} {t : List Tr} (h : VDL K g.dr (NM g Ω) H v t) (k : Keep g H Ω H' Ω') : VDL K g.dr (NM g Ω') H' v t := VDL.imp (fun a o f e => ⟨⟨(k a o f.1 f.2.1 e).2, f.2⟩, (k a o f.1 f.2.1 e).1⟩) t h
end
/-- the exception's own dict tells its fields -/
def XR (K : PySem.W.Frag) (g : Gh) (Ω : Om) (H : Hp) (cls : Value) (d : Option Addr) (x : XV) : Prop :=
  cls = .ref (He.ga K x.cls) ∧ ∃ dd fs, d = some dd ∧ NM g Ω dd ∧ H dd = some (.xd fs) ∧ fs.map (·.1) = x.ns ∧ VDL K g.dr (NM g Ω) H (fs.map (·.2)) x.ts
def CellOk (K : PySem.W.Frag) (g : Gh) (Ω : Om) (H : Hp) (a : Addr) : Cell → Prop
  | .lst ts => ∃ xs, H a = some (.lst xs) ∧ VDL K g.dr (NM g Ω) H xs ts ∧ ts.length ≤ 1000000
  | .dic ks ts => ∃ xs, H a = some (.dK (ks.zip xs)) ∧ VDL K g.dr (NM g Ω) H xs ts ∧ ts.length = ks.length ∧ ts.length ≤ 1000000
  | .ins C dx ns ts => ∃ xs, H a = some (.ins C dx (ns.zip xs)) ∧ VDL K g.dr (NM g Ω) H xs ts ∧ ts.length = ns.length
/-- the draws stand, and none of their objects is a cell -/
def DrOk (pr : Addr → Prop) (H : Hp) (Ω : Om) (d s : Addr) : Prop := ∃ (c : Addr) (ns : List Int), H d = some (.lst [.ref c, .ref s]) ∧ c ≠ s ∧ H c = some (.lst (ns.map V.int)) ∧ StAt s H ∧ d ≠ s ∧ Ω d = none ∧ Ω s = none ∧ Ω c = none ∧ ¬ pr d ∧ ¬ pr s ∧ ¬ pr c
theorem DrOk.drw {pr : Addr → Prop} {H : Hp} {Ω : Om} {d s : Addr} (h : DrOk pr H Ω d s) : Drw d s H := by
  obtain ⟨c, ns, h1, h2, h3, h4, h5, _⟩ := h
  exact ⟨⟨c, h1, h2, ns, h3⟩, h4, h5⟩
theorem DrOk.imp {pr : Addr → Prop} {H H' : Hp} {Ω Ω' : Om} {d s : Addr} (h : DrOk pr H Ω d s) (st : StAt s H') (k : ∀ b o, b ≠ s → Ω b = none → H b = some o → H' b = some o) (kΩ : ∀ b, Ω b = none → H b ≠ none → Ω' b = none) : DrOk pr H' Ω' d s := by
  obtain ⟨c, ns, h1, h2, h3, h4, h5, h6, h7, h8, h9⟩ := h
  obtain ⟨_, _, _, _, _, _, q⟩ := h4
  exact ⟨c, ns, k _ _ h5 h6 h1, h2, k _ _ h2 h8 h3, st, h5, kΩ _ h6 (by rw [h1]; simp), kΩ _ h7 (by rw [q]; simp), kΩ _ h8 (by rw [h3]; simp), h9⟩
structure OmOk (K : PySem.W.Frag) (g : Gh) (H : Hp) (Ω : Om) : Prop where
  dr : ∀ d s, g.dr = some (d, s) → DrOk g.pr H Ω d s
  ce : ∀ a c, Ω a = some c → ¬ g.pr a ∧ CellOk K g Ω H a c
  ex : ∀ p ∈ g.ex, XR K g Ω H p.1 p.2.1 p.2.2
  pt : ∀ b, g.pr b → ∃ o, H b = some o
section
variable {K : PySem.W.Frag} {g : Gh} {H H' H2 : Hp} {Ω Ω' Ω2 : Om}
theorem CellOk.tracked {a : Addr} {c : Cell} (h : CellOk K g Ω H a c) : ∃ o, H a = some o := by
  cases c with
  | lst ts => obtain ⟨xs, e, _⟩ := h; exact ⟨_, e⟩
  | dic ks ts => obtain ⟨xs, e, _⟩ := h; exact ⟨_, e⟩
  | ins C dx ns ts => obtain ⟨xs, e, _⟩ := h; exact ⟨_, e⟩
theorem OmOk.fresh (h : OmOk K g H Ω) {a : Addr} (n : H a = none) : Ω a = none := by
  cases e : Ω a with
  | none => rfl
  | some c =>
    obtain ⟨o, q⟩ := (h.ce a c e).2.tracked
    rw [n] at q; cases q
theorem OmOk.nodr (h : OmOk K g H Ω) {a : Addr} (n : H a = none) : ∀ d, g.dr ≠ some (d, a) := fun d e => by
  obtain ⟨_, _, _, _, _, _, q⟩ := (h.dr d a e).drw.st
  rw [n] at q; cases q
theorem XR.keep {cls : Value} {d : Option Addr} {x : XV} (h : XR K g Ω H cls d x) (k : Keep g H Ω H' Ω') : XR K g Ω' H' cls d x := by
  obtain ⟨e, dd, fs, e1, n, e2, e3, e4⟩ := h
  exact ⟨e, dd, fs, e1, ⟨(k _ _ n.1 n.2.1 e2).2, n.2⟩, (k _ _ n.1 n.2.1 e2).1, e3, e4.keep k⟩
theorem CellOk.imp {a : Addr} {c : Cell} (h : CellOk K g Ω H a c) (e : H' a = H a) (k : ∀ b o, NM g Ω b → H b = some o → NM g Ω' b ∧ H' b = some o) : CellOk K g Ω' H' a c := by
  cases c with
  | lst ts => obtain ⟨xs, q, r, z⟩ := h; exact ⟨xs, by rw [e]; exact q, r.imp k, z⟩
  | dic ks ts => obtain ⟨xs, q, r, z⟩ := h; exact ⟨xs, by rw [e]; exact q, r.imp k, z⟩
  | ins C dx ns ts => obtain ⟨xs, q, r, z⟩ := h; exact ⟨xs, by rw [e]; exact q, r.imp k, z⟩
/-- a new object that is data -/
theorem Keep.new {p : Addr} {o : HO} (n : H p = none) : Keep g H Ω (upd H p o) Ω := fun b u hb _ e => ⟨by rw [upd_ne (ne_of_none e n)]; exact e, hb⟩
theorem OmOk.new {p : Addr} {o : HO} (h : OmOk K g H Ω) (n : H p = none) : OmOk K g (upd H p o) Ω where
  dr := fun d s e => by
    have D := h.dr d s e
    exact D.imp (D.drw.same (Same.new (Same.refl _) n)).st (fun b o _ _ q => by rw [upd_ne (ne_of_none q n)]; exact q) fun _ q _ => q
  ce := fun a c e => ⟨(h.ce a c e).1, (h.ce a c e).2.imp (by obtain ⟨o, q⟩ := (h.ce a c e).2.tracked; rw [upd_ne (ne_of_none q n)]) fun b u f q => ⟨f, by rw [upd_ne (ne_of_none q n)]; exact q⟩⟩
  ex := fun p hp => (h.ex p hp).keep (Keep.new n)
  pt := fun b hb => by
    obtain ⟨o, e⟩ := h.pt b hb
    exact ⟨o, by rw [upd_ne (ne_of_none e n)]; exact e⟩
theorem NM.new (h : OmOk K g H Ω) {p : Addr} (n : H p = none) (hp : ¬ g.pr p) : NM g Ω p := ⟨h.fresh n, h.nodr n, hp⟩
/-- a new cell -/
theorem Keep.cell {p : Addr} {o : HO} {c : Cell} (n : H p = none) : Keep g H Ω (upd H p o) (put Ω p c) := fun b u hb _ e => ⟨by rw [upd_ne (ne_of_none e n)]; exact e, by rw [put_ne (ne_of_none e n)]; exact hb⟩
/-- a cell is changed -/
theorem Keep.write {a : Addr} {o : HO} {c e : Cell} (h : Ω a = some c) : Keep g H Ω (upd H a o) (put Ω a e) := fun b u hb _ q => by
  have hba : b ≠ a := fun z => by rw [z, h] at hb; cases hb
  exact ⟨by rw [upd_ne hba]; exact q, by rw [put_ne hba]; exact hb⟩
theorem NM.put_new {p b : Addr} {c : Cell} {o : HO} (f : NM g Ω b) (e : H b = some o) (n : H p = none) : NM g (put Ω p c) b := ⟨by rw [put_ne (ne_of_none e n)]; exact f.1, f.2⟩
theorem NM.put_old {a b : Addr} {c e : Cell} (f : NM g Ω b) (h : Ω a = some c) : NM g (put Ω a e) b := ⟨by rw [put_ne (fun z => by rw [z] at f; rw [f.1] at h; cases h)]; exact f.1, f.2⟩
theorem OmOk.cell {p : Addr} {o : HO} {c : Cell} (h : OmOk K g H Ω) (n : H p = none) (hp : ¬ g.pr p) (hc : CellOk K g (put Ω p c) (upd H p o) p c) : OmOk K g (upd H p o) (put Ω p c) where
  dr := fun d s e => by
    have D := h.dr d s e
    exact D.imp (D.drw.same (Same.new (Same.refl _) n)).st (fun b o _ _ q => by rw [upd_ne (ne_of_none q n)]; exact q) fun b q nn => by rw [put_ne (fun z => nn (by rw [z]; exact n))]; exact q
  ce := fun a c' e => by
    by_cases ha : a = p
    · subst ha
      rw [put_same] at e
      cases e
      exact ⟨hp, hc⟩
    · rw [put_ne ha] at e
      exact ⟨(h.ce a c' e).1, (h.ce a c' e).2.imp (upd_ne ha) fun b u f q => ⟨f.put_new q n, by rw [upd_ne (ne_of_none q n)]; exact q⟩⟩
  ex := fun p hp => (h.ex p hp).keep (Keep.cell n)
  pt := fun b hb => by
    obtain ⟨o, e⟩ := h.pt b hb
    exact ⟨o, by rw [upd_ne (ne_of_none e n)]; exact e⟩
theorem OmOk.write {a : Addr} {o : HO} {c e : Cell} (h : OmOk K g H Ω) (ha : Ω a = some c) (hc : CellOk K g (put Ω a e) (upd H a o) a e) : OmOk K g (upd H a o) (put Ω a e) where
  dr := fun d s q => by
    have D := h.dr d s q
    have hs : s ≠ a := fun z => by
      obtain ⟨_, _, _, _, _, _, _, _, h7, _⟩ := D
      rw [z, ha] at h7; cases h7
    have st : StAt s (upd H a o) := by
      obtain ⟨i, v, kk, t, gg, h0, q4⟩ := D.drw.st
      exact ⟨i, v, kk, t, gg, h0, by rw [upd_ne hs]; exact q4⟩
    have ns : ∀ b, Ω b = none → b ≠ a := fun b hb z => by rw [z, ha] at hb; cases hb
    exact D.imp st (fun b u _ hb r => by rw [upd_ne (ns b hb)]; exact r) fun b hb _ => by rw [put_ne (ns b hb)]; exact hb
  ce := fun b c' q => by
    by_cases hb : b = a
    · subst hb
      rw [put_same] at q
      cases q
      exact ⟨(h.ce b c ha).1, hc⟩
    · rw [put_ne hb] at q
      exact ⟨(h.ce b c' q).1, (h.ce b c' q).2.imp (upd_ne hb) fun x u f r => ⟨f.put_old ha, by rw [upd_ne (fun z => by rw [z] at f; rw [f.1] at ha; cases ha)]; exact r⟩⟩
  ex := fun p hp => (h.ex p hp).keep (Keep.write ha)
  pt := fun b hb => by
    obtain ⟨o, e⟩ := h.pt b hb
    exact ⟨o, by rw [upd_ne (fun z => (h.ce a c ha).1 (by rw [← z]; exact hb))]; exact e⟩
/-- an object that is being made, and that nothing tells -/
def Gh.with (g : Gh) (D : Addr) : Gh := ⟨g.dr, fun b => g.pr b ∨ b = D, g.ex⟩
theorem NM.less {D : Addr} {b : Addr} (f : NM (g.with D) Ω b) : NM g Ω b := ⟨f.1, f.2.1, fun z => f.2.2 (.inl z)⟩
theorem NM.more {D : Addr} {b : Addr} (f : NM g Ω b) (h : b ≠ D) : NM (g.with D) Ω b := ⟨f.1, f.2.1, fun z => z.elim f.2.2 h⟩
theorem OmOk.less {D : Addr} (h : OmOk K (g.with D) H Ω) : OmOk K g H Ω where
  dr := fun d s e => by
    obtain ⟨c, ns, h1, h2, h3, h4, h5, h6, h7, h8, p1, p2, p3⟩ := h.dr d s e
    exact ⟨c, ns, h1, h2, h3, h4, h5, h6, h7, h8, fun z => p1 (.inl z), fun z => p2 (.inl z), fun z => p3 (.inl z)⟩
  ce := fun a c e => ⟨fun z => (h.ce a c e).1 (.inl z), (h.ce a c e).2.imp (g := g.with D) rfl (fun b o f q => ⟨f, q⟩) |> fun r => by
    cases c with
    | lst ts => obtain ⟨xs, q, r, z⟩ := r; exact ⟨xs, q, r.imp fun b o f q => ⟨f.less, q⟩, z⟩
    | dic ks ts => obtain ⟨xs, q, r, z⟩ := r; exact ⟨xs, q, r.imp fun b o f q => ⟨f.less, q⟩, z⟩
    | ins C dx ns ts => obtain ⟨xs, q, r, z⟩ := r; exact ⟨xs, q, r.imp fun b o f q => ⟨f.less, q⟩, z⟩⟩
  ex := fun p hp => by
    obtain ⟨e, dd, fs, e1, n, e2, e3, e4⟩ := h.ex p hp
    exact ⟨e, dd, fs, e1, n.less, e2, e3, e4.imp fun b o f q => ⟨f.less, q⟩⟩
  pt := fun b hb => h.pt b (.inl hb)
theorem VD.more {D : Addr} {v : V} {t : Tr} (h : VD K g.dr (NM g Ω) H v t) (n : H D = none) : VD K g.dr (NM (g.with D) Ω) H v t := VD.imp (fun b o f q => ⟨f.more (ne_of_none q n), q⟩) t h
theorem VDL.more {D : Addr} {v : List V} {t : List Tr} (h : VDL K g.dr (NM g Ω) H v t) (n : H D = none) : VDL K g.dr (NM (g.with D) Ω) H v t := VDL.imp (fun b o f q => ⟨f.more (ne_of_none q n), q⟩) t h
theorem VD.less {D : Addr} {v : V} {t : Tr} (h : VD K g.dr (NM (g.with D) Ω) H v t) : VD K g.dr (NM g Ω) H v t := VD.imp (fun b o f q => ⟨f.less, q⟩) t h
theorem VDL.less {D : Addr} {v : List V} {t : List Tr} (h : VDL K g.dr (NM (g.with D) Ω) H v t) : VDL K g.dr (NM g Ω) H v t := VDL.imp (fun b o f q => ⟨f.less, q⟩) t h
/-- D is laid -/
theorem OmOk.more {D : Addr} {o : HO} (h : OmOk K g H Ω) (n : H D = none) : OmOk K (g.with D) (upd H D o) Ω where
  dr := fun d s e => by
    have D0 := h.dr d s e
    obtain ⟨c, ns, h1, h2, h3, h4, h5, h6, h7, h8, p1, p2, p3⟩ := (h.new (o := o) n).dr d s e
    obtain ⟨c', ns', g1, _, g3, g4, _⟩ := D0
    obtain ⟨_, _, _, _, _, _, g5⟩ := g4
    have e1 : d ≠ D := ne_of_none g1 n
    have e2 : s ≠ D := ne_of_none g5 n
    have e3 : c = c' := by
      rw [upd_ne e1, g1] at h1
      cases h1; rfl
    have e4 : c ≠ D := by rw [e3]; exact ne_of_none g3 n
    exact ⟨c, ns, h1, h2, h3, h4, h5, h6, h7, h8, fun z => z.elim p1 e1, fun z => z.elim p2 e2, fun z => z.elim p3 e4⟩
  ce := fun a c e => by
    obtain ⟨u, q⟩ := (h.ce a c e).2.tracked
    have ha : a ≠ D := ne_of_none q n
    refine ⟨fun z => z.elim (h.ce a c e).1 ha, ?_⟩
    have r := (h.ce a c e).2
    have up : ∀ b o', NM g Ω b → H b = some o' → NM (g.with D) Ω b ∧ upd H D o b = some o' := fun b o' f r => ⟨f.more (ne_of_none r n), by rw [upd_ne (ne_of_none r n)]; exact r⟩
    cases c with
    | lst ts => obtain ⟨xs, q, r, z⟩ := r; exact ⟨xs, by rw [upd_ne ha]; exact q, r.imp up, z⟩
    | dic ks ts => obtain ⟨xs, q, r, z⟩ := r; exact ⟨xs, by rw [upd_ne ha]; exact q, r.imp up, z⟩
    | ins C dx ns ts => obtain ⟨xs, q, r, z⟩ := r; exact ⟨xs, by rw [upd_ne ha]; exact q, r.imp up, z⟩
  ex := fun p hp => by
    obtain ⟨e, dd, fs, e1, nn, e2, e3, e4⟩ := h.ex p hp
    have up : ∀ b o', NM g Ω b → H b = some o' → NM (g.with D) Ω b ∧ upd H D o b = some o' := fun b o' f r => ⟨f.more (ne_of_none r n), by rw [upd_ne (ne_of_none r n)]; exact r⟩
    exact ⟨e, dd, fs, e1, (up _ _ nn e2).1, (up _ _ nn e2).2, e3, e4.imp up⟩
  pt := fun b hb => by
    by_cases e : b = D
    · exact ⟨o, by rw [e, upd_same]⟩
    · obtain ⟨u, q⟩ := h.pt b (hb.resolve_right e)
      exact ⟨u, by rw [upd_ne e]; exact q⟩
/-- D is changed -/
theorem OmOk.prot {D : Addr} {o : HO} (h : OmOk K (g.with D) H Ω) : OmOk K (g.with D) (upd H D o) Ω where
  dr := fun d s e => by
    have D0 := h.dr d s e
    obtain ⟨c, ns, h1, h2, h3, h4, h5, h6, h7, h8, p1, p2, p3⟩ := D0
    obtain ⟨i, v, kk, t, gg, h0, q4⟩ := h4
    have e1 : d ≠ D := fun z => p1 (.inr z)
    have e2 : s ≠ D := fun z => p2 (.inr z)
    have e3 : c ≠ D := fun z => p3 (.inr z)
    exact ⟨c, ns, by rw [upd_ne e1]; exact h1, h2, by rw [upd_ne e3]; exact h3, ⟨i, v, kk, t, gg, h0, by rw [upd_ne e2]; exact q4⟩, h5, h6, h7, h8, p1, p2, p3⟩
  ce := fun a c e => by
    have ha : a ≠ D := fun z => (h.ce a c e).1 (.inr z)
    exact ⟨(h.ce a c e).1, (h.ce a c e).2.imp (upd_ne ha) fun b u f q => ⟨f, by rw [upd_ne (fun z => f.2.2 (.inr z))]; exact q⟩⟩
  ex := fun p hp => by
    obtain ⟨e, dd, fs, e1, nn, e2, e3, e4⟩ := h.ex p hp
    have up : ∀ b o', NM (g.with D) Ω b → H b = some o' → NM (g.with D) Ω b ∧ upd H D o b = some o' := fun b u f q => ⟨f, by rw [upd_ne (fun z => f.2.2 (.inr z))]; exact q⟩
    exact ⟨e, dd, fs, e1, nn, (up _ _ nn e2).2, e3, e4.imp up⟩
  pt := fun b hb => by
    by_cases e : b = D
    · exact ⟨o, by rw [e, upd_same]⟩
    · obtain ⟨u, q⟩ := h.pt b hb
      exact ⟨u, by rw [upd_ne e]; exact q⟩
theorem VDL.prot {D : Addr} {o : HO} {v : List V} {t : List Tr} (h : VDL K g.dr (NM (g.with D) Ω) H v t) : VDL K g.dr (NM (g.with D) Ω) (upd H D o) v t := VDL.imp (fun b u f q => ⟨f, by rw [upd_ne (fun z => f.2.2 (.inr z))]; exact q⟩) t h
theorem VD.prot {D : Addr} {o : HO} {v : V} {t : Tr} (h : VD K g.dr (NM (g.with D) Ω) H v t) : VD K g.dr (NM (g.with D) Ω) (upd H D o) v t := VD.imp (fun b u f q => ⟨f, by rw [upd_ne (fun z => f.2.2 (.inr z))]; exact q⟩) t h
/-- D becomes a cell -/
theorem OmOk.toCell {D : Addr} {c : Cell} (h : OmOk K (g.with D) H Ω) (hp : ¬ g.pr D) (hc : CellOk K (g.with D) Ω H D c) : OmOk K g H (put Ω D c) := by
  have hD : Ω D = none := by
    cases e : Ω D with
    | none => rfl
    | some c' => exact absurd (.inr rfl) (h.ce D c' e).1
  have up : ∀ b o', NM (g.with D) Ω b → H b = some o' → NM g (put Ω D c) b ∧ H b = some o' := fun b o' f r => ⟨⟨by rw [put_ne (fun z => f.2.2 (.inr z))]; exact f.1, f.less.2⟩, r⟩
  have cell : ∀ a c', CellOk K (g.with D) Ω H a c' → CellOk K g (put Ω D c) H a c' := fun a c' r => by
    cases c' with
    | lst ts => obtain ⟨xs, q, r, z⟩ := r; exact ⟨xs, q, r.imp up, z⟩
    | dic ks ts => obtain ⟨xs, q, r, z⟩ := r; exact ⟨xs, q, r.imp up, z⟩
    | ins C dx ns ts => obtain ⟨xs, q, r, z⟩ := r; exact ⟨xs, q, r.imp up, z⟩
  refine ⟨fun d s e => ?_, fun a c' e => ?_, fun p hp => ?_, fun b hb => h.pt b (.inl hb)⟩
  · obtain ⟨cc, ns, h1, h2, h3, h4, h5, h6, h7, h8, p1, p2, p3⟩ := h.dr d s e
    have e1 : d ≠ D := fun z => p1 (.inr z)
    have e2 : s ≠ D := fun z => p2 (.inr z)
    have e3 : cc ≠ D := fun z => p3 (.inr z)
    exact ⟨cc, ns, h1, h2, h3, h4, h5, by rw [put_ne e1]; exact h6, by rw [put_ne e2]; exact h7, by rw [put_ne e3]; exact h8, fun z => p1 (.inl z), fun z => p2 (.inl z), fun z => p3 (.inl z)⟩
  · by_cases ha : a = D
    · subst ha
      rw [put_same] at e
      cases e
      exact ⟨hp, cell _ _ hc⟩
    · rw [put_ne ha] at e
      exact ⟨fun z => (h.ce a c' e).1 (.inl z), cell _ _ (h.ce a c' e).2⟩
  · obtain ⟨e, dd, fs, e1, nn, e2, e3, e4⟩ := h.ex p hp
    exact ⟨e, dd, fs, e1, (up _ _ nn e2).1, e2, e3, e4.imp up⟩
/-- a cell becomes data -/
theorem Keep.freeze {a : Addr} : Keep g H Ω H (cut Ω a) := fun b o hb _ e => ⟨e, by unfold cut; split; rfl; exact hb⟩
theorem NM.cut {a b : Addr} (f : NM g Ω b) : NM g (cut Ω a) b := ⟨by unfold LT.cut; split; rfl; exact f.1, f.2⟩
theorem OmOk.freeze {a : Addr} (h : OmOk K g H Ω) : OmOk K g H (cut Ω a) := by
  have up : ∀ b o', NM g Ω b → H b = some o' → NM g (cut Ω a) b ∧ H b = some o' := fun b o' f r => ⟨f.cut, r⟩
  have hn : ∀ b, Ω b = none → cut Ω a b = none := fun b hb => by unfold cut; split; rfl; exact hb
  refine ⟨fun d s e => ?_, fun b c e => ?_, fun p hp => ?_, h.pt⟩
  · obtain ⟨cc, ns, h1, h2, h3, h4, h5, h6, h7, h8, p1⟩ := h.dr d s e
    exact ⟨cc, ns, h1, h2, h3, h4, h5, hn _ h6, hn _ h7, hn _ h8, p1⟩
  · by_cases hb : b = a
    · subst hb; rw [cut_same] at e; cases e
    · rw [cut_ne hb] at e
      exact ⟨(h.ce b c e).1, (h.ce b c e).2.imp rfl up⟩
  · exact (h.ex p hp).keep Keep.freeze
end
end LT

namespace LT
open PySem PySem.Spec PyProof.Rows L2 LL
/-! ### readings of trees -/
abbrev En := List (Option Tr)
abbrev PT' := Tr → Om → Prop
abbrev PXt := XV → Om → Prop
abbrev DE := En → Om → PT' → PXt → Prop
abbrev DA := En → Om → (List Tr → Om → Prop) → PXt → Prop
abbrev DT := En → Om → (Bool → Om → Prop) → PXt → Prop
structure DN where
  nx : En → Om → Prop
  rt : PT'
  bk : En → Om → Prop := fun _ _ => False
  ct : En → Om → Prop := fun _ _ => False
  ex : En → XV → Om → Prop := fun _ _ _ => False
abbrev DS := DN → En → Om → Prop
abbrev DG := Tr → En → Om → (En → Om → Prop) → PXt → Prop
abbrev DGs := List Tr → En → Om → (En → Om → Prop) → PXt → Prop
abbrev DI := En → Om → (List Tr → (Om → Prop) → Om → Prop) → PXt → Prop
abbrev DO := En → Om → (Option Int → Om → Prop) → PXt → Prop
def nox : PXt := fun _ _ => False
abbrev EK := L2.St → XK
structure Rel (K : PySem.W.Frag) (g : Gh) (σ : L2.St) (H : Hp) (ρ : En) (Ω : Om) : Prop where
  om : OmOk K g H Ω
  len : σ.length = ρ.length
  env : ∀ (i : Nat) t, ρ[i]? = some (some t) → ∃ v, σ[i]? = some (some v) ∧ VD K g.dr (NM g Ω) H v t
section
variable {K : PySem.W.Frag} {g : Gh} {H H' H2 : Hp} {Ω Ω' Ω2 : Om} {σ σ' : L2.St} {ρ ρ' : En}
theorem Rel.keep (R : Rel K g σ H ρ Ω) (k : Keep g H Ω H' Ω') (o : OmOk K g H' Ω') : Rel K g σ H' ρ Ω' := ⟨o, R.len, fun i t e => by
  obtain ⟨v, h1, h2⟩ := R.env i t e
  exact ⟨v, h1, h2.keep k⟩⟩
theorem Rel.set {v : V} {t : Tr} {i : Nat} (R : Rel K g σ H ρ Ω) (d : VD K g.dr (NM g Ω) H v t) : Rel K g (σ.set i (some v)) H (ρ.set i (some t)) Ω := ⟨R.om, by rw [List.length_set, List.length_set, R.len], fun j u e => by
  by_cases hij : i = j
  · subst hij
    have hj := (List.getElem?_eq_some_iff.mp e).1
    rw [List.length_set] at hj
    rw [List.getElem?_set_self hj] at e
    cases e
    exact ⟨v, List.getElem?_set_self (by rw [R.len]; exact hj), d⟩
  · rw [List.getElem?_set_ne hij] at e ⊢
    exact R.env j u e⟩
theorem Rel.none {i : Nat} (R : Rel K g σ H ρ Ω) : Rel K g (σ.set i none) H (ρ.set i none) Ω := ⟨R.om, by rw [List.length_set, List.length_set, R.len], fun j u e => by
  by_cases hij : i = j
  · subst hij
    have hj := (List.getElem?_eq_some_iff.mp e).1
    rw [List.length_set] at hj
    rw [List.getElem?_set_self hj] at e
    cases e
  · rw [List.getElem?_set_ne hij] at e ⊢
    exact R.env j u e⟩
end
/-! ### what a part's reading owes to the trees' reading -/
section
variable (K : PySem.W.Frag) (G : List (Value × Option Addr × XV) → Prop) (E : EK)
/-- what follows behind a value -/
def After (g : Gh) (H : Hp) (Ω : Om) (P : PT') (Q : VK) : Prop := ∀ t Ω' v H', P t Ω' → Keep g H Ω H' Ω' → OmOk K g H' Ω' → VD K g.dr (NM g Ω') H' v t → Q v H'
def AfterX (g : Gh) (H : Hp) (Ω : Om) (P : PXt) (Q : XK) : Prop := ∀ x Ω' cls d H', P x Ω' → Keep g H Ω H' Ω' → OmOk K g H' Ω' → XR K g Ω' H' cls d x → Q cls d H'
def SimE (te : TE) (de : DE) : Prop := ∀ g σ H ρ Ω P PX Q, G g.ex → Rel K g σ H ρ Ω → de ρ Ω P PX → After K g H Ω P Q → AfterX K g H Ω PX (E σ) → te σ H Q
def SimA (te : TA) (de : DA) : Prop := ∀ g σ H ρ Ω P PX Q, G g.ex → Rel K g σ H ρ Ω → de ρ Ω P PX → (∀ ts Ω' vs H', P ts Ω' → Keep g H Ω H' Ω' → OmOk K g H' Ω' → VDL K g.dr (NM g Ω') H' vs ts → Q vs H') → AfterX K g H Ω PX (E σ) → te σ H Q
def SimT (te : TT) (de : DT) : Prop := ∀ g σ H ρ Ω P PX Q, G g.ex → Rel K g σ H ρ Ω → de ρ Ω P PX → (∀ b Ω' H', P b Ω' → Keep g H Ω H' Ω' → OmOk K g H' Ω' → Q b H') → AfterX K g H Ω PX (E σ) → te σ H Q
def SimO (te : TO) (de : DO) : Prop := ∀ g σ H ρ Ω P PX Q, G g.ex → Rel K g σ H ρ Ω → de ρ Ω P PX → (∀ b Ω' H', P b Ω' → Keep g H Ω H' Ω' → OmOk K g H' Ω' → Q b H') → AfterX K g H Ω PX (E σ) → te σ H Q
def SimG (te : TG) (de : DG) : Prop := ∀ g σ H ρ Ω v t P PX Q, G g.ex → Rel K g σ H ρ Ω → VD K g.dr (NM g Ω) H v t → de t ρ Ω P PX → (∀ ρ' Ω' σ' H', P ρ' Ω' → Keep g H Ω H' Ω' → Rel K g σ' H' ρ' Ω' → Q σ' H') → (∀ cls d H', (∃ x Ω', PX x Ω' ∧ Keep g H Ω H' Ω' ∧ OmOk K g H' Ω' ∧ XR K g Ω' H' cls d x) → E σ cls d H') → te v σ H Q
def SimGs (te : TGs) (de : DGs) : Prop := ∀ g σ H ρ Ω v t P Q, G g.ex → Rel K g σ H ρ Ω → VDL K g.dr (NM g Ω) H v t → de t ρ Ω P nox → (∀ ρ' Ω' σ' H', P ρ' Ω' → Keep g H Ω H' Ω' → Rel K g σ' H' ρ' Ω' → Q σ' H') → te v σ H Q
structure EndsR (g : Gh) (H : Hp) (Ω : Om) (D : Ends) (DD : DN) : Prop where
  nx : ∀ ρ' Ω' σ' H', DD.nx ρ' Ω' → Keep g H Ω H' Ω' → Rel K g σ' H' ρ' Ω' → D.nx σ' H'
  rt : After K g H Ω DD.rt D.rt
  bk : ∀ ρ' Ω' σ' H', DD.bk ρ' Ω' → Keep g H Ω H' Ω' → Rel K g σ' H' ρ' Ω' → D.bk σ' H'
  ct : ∀ ρ' Ω' σ' H', DD.ct ρ' Ω' → Keep g H Ω H' Ω' → Rel K g σ' H' ρ' Ω' → D.ct σ' H'
  ex : ∀ x ρ' Ω' σ' cls d H', DD.ex ρ' x Ω' → Keep g H Ω H' Ω' → Rel K g σ' H' ρ' Ω' → XR K g Ω' H' cls d x → E σ' cls d H'
def SimS (ts : TS) (ds : DS) : Prop := ∀ g σ H ρ Ω D DD, G g.ex → Rel K g σ H ρ Ω → ds DD ρ Ω → EndsR K E g H Ω D DD → ts D σ H
end
section
variable {K : PySem.W.Frag} {G : List (Value × Option Addr × XV) → Prop} {E : EK}
theorem After.at {g : Gh} {H H1 : Hp} {Ω Ω1 : Om} {P : PT'} {Q : VK} (h : After K g H Ω P Q) (k : Keep g H Ω H1 Ω1) : After K g H1 Ω1 P Q := fun t Ω' v H' p k' o d => h t Ω' v H' p (k.trans k') o d
theorem AfterX.at {g : Gh} {H H1 : Hp} {Ω Ω1 : Om} {P : PXt} {Q : XK} (h : AfterX K g H Ω P Q) (k : Keep g H Ω H1 Ω1) : AfterX K g H1 Ω1 P Q := fun x Ω' c d H' p k' o r => h x Ω' c d H' p (k.trans k') o r
theorem EndsR.at {g : Gh} {H H1 : Hp} {Ω Ω1 : Om} {D : Ends} {DD : DN} (h : EndsR K E g H Ω D DD) (k : Keep g H Ω H1 Ω1) : EndsR K E g H1 Ω1 D DD :=
  ⟨fun ρ' Ω' σ' H' p k' r => h.nx ρ' Ω' σ' H' p (k.trans k') r, h.rt.at k, fun ρ' Ω' σ' H' p k' r => h.bk ρ' Ω' σ' H' p (k.trans k') r, fun ρ' Ω' σ' H' p k' r => h.ct ρ' Ω' σ' H' p (k.trans k') r, fun x ρ' Ω' σ' c d H' p k' r z => h.ex x ρ' Ω' σ' c d H' p (k.trans k') r z⟩
theorem AfterX.nox {g : Gh} {H : Hp} {Ω : Om} {Q : XK} : AfterX K g H Ω nox Q := fun _ _ _ _ _ p => p.elim
/-- an exception leaves a statement -/
theorem EndsR.exx {g : Gh} {σ : L2.St} {H : Hp} {ρ : En} {Ω : Om} {D : Ends} {DD : DN} (h : EndsR K E g H Ω D DD) (R : Rel K g σ H ρ Ω) : AfterX K g H Ω (fun x Ω' => DD.ex ρ x Ω') (E σ) := fun x Ω' c d H' p k o r => h.ex x ρ Ω' σ c d H' p k (R.keep k o) r
/-! ### names, constants, operators -/
def dVar (i : Nat) : DE := fun ρ Ω P _ => ∃ t, ρ[i]? = some (some t) ∧ P t Ω
theorem sim_var {i : Nat} : SimE K G E (tVar i) (dVar i) := fun g σ H ρ Ω P PX Q _ R ⟨t, e, p⟩ q _ => by
  obtain ⟨v, h1, h2⟩ := R.env i t e
  exact ⟨v, h1, q t Ω v H p .refl R.om h2⟩
def dC (t : Tr) : DE := fun _ Ω P _ => P t Ω
theorem sim_int {i : Int} : SimE K G E (tC (.int i)) (dC (.int i)) := fun g σ H ρ Ω P PX Q _ R p q _ => q _ Ω _ H p .refl R.om rfl
theorem sim_bl {b : Bool} : SimE K G E (tC (.bl b)) (dC (.bl b)) := fun g σ H ρ Ω P PX Q _ R p q _ => q _ Ω _ H p .refl R.om rfl
theorem sim_str {x : Str} : SimE K G E (tC (.str x)) (dC (.str x)) := fun g σ H ρ Ω P PX Q _ R p q _ => q _ Ω _ H p .refl R.om rfl
theorem sim_non : SimE K G E (tC .non) (dC .non) := fun g σ H ρ Ω P PX Q _ R p q _ => q _ Ω _ H p .refl R.om rfl
theorem sim_ty {n : String} : SimE K G E (tC (.ty n)) (dC (.ty n)) := fun g σ H ρ Ω P PX Q _ R p q _ => q _ Ω _ H p .refl R.om rfl
/-- a value without objects -/
def flatT : Tr → Bool
  | .non => true
  | .bl _ => true
  | .int _ => true
  | .str _ => true
  | .ty _ => true
  | _ => false
def toV : Tr → V
  | .non => .non
  | .bl b => .bl b
  | .int i => .int i
  | .str x => .str x
  | .ty n => .ty n
  | .obj a => .ref a
  | _ => .non
def ofV : V → Tr
  | .non => .non
  | .bl b => .bl b
  | .int i => .int i
  | .str x => .str x
  | .ty n => .ty n
  | _ => .non
def flatV' : V → Bool
  | .non => true
  | .bl _ => true
  | .int _ => true
  | .str _ => true
  | .ty _ => true
  | _ => false
theorem vd_flat {dr : Option (Addr × Addr)} {F : Addr → Prop} {H : Hp} {v : V} {t : Tr} (h : VD K dr F H v t) (f : flatT t = true) : v = toV t := by
  cases t with
  | non => exact h
  | bl b => exact h
  | int i => exact h
  | str x => exact h
  | ty n => exact h
  | _ => cases f
theorem vd_ofV {dr : Option (Addr × Addr)} {F : Addr → Prop} {H : Hp} {v : V} (h : flatV' v = true) : VD K dr F H v (ofV v) := by
  cases v with
  | non => rfl
  | bl b => rfl
  | int i => rfl
  | str x => rfl
  | ty n => rfl
  | _ => cases h
/-- a rule over two values -/
def SimR (K : PySem.W.Frag) (r : R2) (d : Tr → Tr → Om → PT' → Prop) : Prop := ∀ g H Ω x y tx ty P Q, OmOk K g H Ω → VD K g.dr (NM g Ω) H x tx → VD K g.dr (NM g Ω) H y ty → d tx ty Ω P → After K g H Ω P Q → r x y H Q
def dOp (d : Tr → Tr → Om → PT' → Prop) (da db : DE) : DE := fun ρ Ω P PX => da ρ Ω (fun x Ω1 => db ρ Ω1 (fun y Ω2 => d x y Ω2 P) PX) PX
theorem sim_op {r : R2} {d : Tr → Tr → Om → PT' → Prop} {ta tb : TE} {da db : DE} (hr : SimR K r d) (ha : SimE K G E ta da) (hb : SimE K G E tb db) : SimE K G E (tOp r ta tb) (dOp d da db) := fun g σ H ρ Ω P PX Q hG R h q qx =>
  ha g σ H ρ Ω _ PX _ hG R h (fun x Ω1 v H1 h1 k1 o1 d1 => hb g σ H1 ρ Ω1 _ PX _ hG (R.keep k1 o1) h1 (fun y Ω2 u H2 h2 k2 o2 d2 => hr g H2 Ω2 v u x y P Q o2 (d1.keep k2) d2 h2 (q.at (k1.trans k2))) (qx.at k1)) qx
def dI (C : Int → Int → Prop) (f : Int → Int → V) : Tr → Tr → Om → PT' → Prop := fun x y Ω P => ∃ i j, x = .int i ∧ y = .int j ∧ C i j ∧ P (ofV (f i j)) Ω
def dI0 (f : Int → Int → V) : Tr → Tr → Om → PT' → Prop := fun x y Ω P => ∃ i j, x = .int i ∧ y = .int j ∧ P (ofV (f i j)) Ω
theorem simr_I {C : Int → Int → Prop} {f : Int → Int → V} (hf : ∀ i j, flatV' (f i j) = true) : SimR K (rI C f) (dI C f) := fun g H Ω x y tx ty P Q o d1 d2 ⟨i, j, e1, e2, c, p⟩ q => by
  subst e1 e2
  exact ⟨i, j, d1, d2, c, q _ Ω _ H p .refl o (vd_ofV (hf i j))⟩
theorem simr_I0 {f : Int → Int → V} (hf : ∀ i j, flatV' (f i j) = true) : SimR K (rI0 f) (dI0 f) := fun g H Ω x y tx ty P Q o d1 d2 ⟨i, j, e1, e2, p⟩ q => by
  subst e1 e2
  exact ⟨i, j, d1, d2, q _ Ω _ H p .refl o (vd_ofV (hf i j))⟩
def dEq : Tr → Tr → Om → PT' → Prop := fun x y Ω P => flatT x = true ∧ flatT y = true ∧ scal (toV x) (toV y) = true ∧ P (.bl (decide (toV x = toV y))) Ω
def dNe : Tr → Tr → Om → PT' → Prop := fun x y Ω P => flatT x = true ∧ flatT y = true ∧ scal (toV x) (toV y) = true ∧ P (.bl (!decide (toV x = toV y))) Ω
theorem simr_Eq : SimR K rEq dEq := fun g H Ω x y tx ty P Q o d1 d2 ⟨f1, f2, s, p⟩ q => by
  obtain rfl := vd_flat d1 f1
  obtain rfl := vd_flat d2 f2
  exact ⟨s, q _ Ω _ H p .refl o rfl⟩
theorem simr_Ne : SimR K rNe dNe := fun g H Ω x y tx ty P Q o d1 d2 ⟨f1, f2, s, p⟩ q => by
  obtain rfl := vd_flat d1 f1
  obtain rfl := vd_flat d2 f2
  exact ⟨s, q _ Ω _ H p .refl o rfl⟩
def dUn (d : Tr → Om → PT' → Prop) (da : DE) : DE := fun ρ Ω P PX => da ρ Ω (fun x Ω1 => d x Ω1 P) PX
def dU (f : Int → V) : Tr → Om → PT' → Prop := fun x Ω P => ∃ i, x = .int i ∧ P (ofV (f i)) Ω
theorem sim_un {f : Int → V} {ta : TE} {da : DE} (hf : ∀ i, flatV' (f i) = true) (ha : SimE K G E ta da) : SimE K G E (tUn (rU f) ta) (dUn (dU f) da) := fun g σ H ρ Ω P PX Q hG R h q qx =>
  ha g σ H ρ Ω _ PX _ hG R h (fun x Ω1 v H1 ⟨i, e, p⟩ k1 o1 d1 => by
    subst e
    exact ⟨i, d1, q _ Ω1 _ H1 p k1 o1 (vd_ofV (hf i))⟩) qx
def isNonT : Tr → Bool
  | .non => true
  | _ => false
theorem vd_non {dr : Option (Addr × Addr)} {F : Addr → Prop} {H : Hp} {v : V} {t : Tr} (h : VD K dr F H v t) : decide (v = .non) = isNonT t := by
  cases t with
  | non => rw [show v = _ from h]; rfl
  | bl b => rw [show v = _ from h]; rfl
  | int b => rw [show v = _ from h]; rfl
  | str b => rw [show v = _ from h]; rfl
  | ty b => rw [show v = _ from h]; rfl
  | lst ts => obtain ⟨a, xs, rfl, _⟩ := h; rfl
  | tup ts => obtain ⟨a, xs, rfl, _⟩ := h; rfl
  | dic ks ts => obtain ⟨a, xs, rfl, _⟩ := h; rfl
  | obj a => rw [show v = _ from h]; rfl
  | drw => obtain ⟨d, s, _, rfl⟩ := h; rfl
/-! ### tests -/
def dTest (de : DE) : DT := fun ρ Ω P PX => de ρ Ω (fun x Ω1 => ∃ k, x = .bl k ∧ P k Ω1) PX
theorem sim_test {te : TE} {de : DE} (h : SimE K G E te de) : SimT K G E (tTest te) (dTest de) := fun g σ H ρ Ω P PX Q hG R h1 q qx =>
  h g σ H ρ Ω _ PX _ hG R h1 (fun x Ω1 v H1 ⟨k, e, p⟩ k1 o1 d1 => by
    subst e
    exact ⟨k, d1, q _ Ω1 H1 p k1 o1⟩) qx
theorem sim_tB {te : TE} {de : DE} (h : SimE K G E te de) : SimT K G E (tB te) (dTest de) := sim_test h
def dAnd (da db : DT) : DT := fun ρ Ω P PX => da ρ Ω (fun c Ω1 => if c = true then db ρ Ω1 P PX else P false Ω1) PX
def dOr (da db : DT) : DT := fun ρ Ω P PX => da ρ Ω (fun c Ω1 => if c = true then P true Ω1 else db ρ Ω1 P PX) PX
def dNot (da : DT) : DT := fun ρ Ω P PX => da ρ Ω (fun c Ω1 => P (!c) Ω1) PX
theorem sim_and {ta tb : TT} {da db : DT} (ha : SimT K G E ta da) (hb : SimT K G E tb db) : SimT K G E (tAnd ta tb) (dAnd da db) := fun g σ H ρ Ω P PX Q hG R h q qx =>
  ha g σ H ρ Ω _ PX _ hG R h (fun c Ω1 H1 h1 k1 o1 => by
    by_cases hc : c = true
    · rw [if_pos hc] at h1 ⊢
      exact hb g σ H1 ρ Ω1 P PX Q hG (R.keep k1 o1) h1 (fun b Ω2 H2 p k2 o2 => q b Ω2 H2 p (k1.trans k2) o2) (qx.at k1)
    · rw [if_neg hc] at h1 ⊢
      exact q _ Ω1 H1 h1 k1 o1) qx
theorem sim_or {ta tb : TT} {da db : DT} (ha : SimT K G E ta da) (hb : SimT K G E tb db) : SimT K G E (tOr ta tb) (dOr da db) := fun g σ H ρ Ω P PX Q hG R h q qx =>
  ha g σ H ρ Ω _ PX _ hG R h (fun c Ω1 H1 h1 k1 o1 => by
    by_cases hc : c = true
    · rw [if_pos hc] at h1 ⊢
      exact q _ Ω1 H1 h1 k1 o1
    · rw [if_neg hc] at h1 ⊢
      exact hb g σ H1 ρ Ω1 P PX Q hG (R.keep k1 o1) h1 (fun b Ω2 H2 p k2 o2 => q b Ω2 H2 p (k1.trans k2) o2) (qx.at k1)) qx
theorem sim_not {ta : TT} {da : DT} (ha : SimT K G E ta da) : SimT K G E (tNot ta) (dNot da) := fun g σ H ρ Ω P PX Q hG R h q qx =>
  ha g σ H ρ Ω _ PX _ hG R h (fun c Ω1 H1 h1 k1 o1 => q _ Ω1 H1 h1 k1 o1) qx
def dAndV (da db : DE) : DE := fun ρ Ω P PX => da ρ Ω (fun x Ω1 => ∃ c, x = .bl c ∧ if c = true then db ρ Ω1 P PX else P (.bl false) Ω1) PX
def dOrV (da db : DE) : DE := fun ρ Ω P PX => da ρ Ω (fun x Ω1 => ∃ c, x = .bl c ∧ if c = true then P (.bl true) Ω1 else db ρ Ω1 P PX) PX
def dNotV (da : DE) : DE := fun ρ Ω P PX => da ρ Ω (fun x Ω1 => ∃ c, x = .bl c ∧ P (.bl (!c)) Ω1) PX
theorem sim_andV {ta tb : TE} {da db : DE} (ha : SimE K G E ta da) (hb : SimE K G E tb db) : SimE K G E (tAndV ta tb) (dAndV da db) := fun g σ H ρ Ω P PX Q hG R h q qx =>
  ha g σ H ρ Ω _ PX _ hG R h (fun x Ω1 v H1 ⟨c, e, h1⟩ k1 o1 d1 => by
    subst e
    refine ⟨c, d1, ?_⟩
    by_cases hc : c = true
    · rw [if_pos hc] at h1 ⊢
      exact hb g σ H1 ρ Ω1 P PX Q hG (R.keep k1 o1) h1 (q.at k1) (qx.at k1)
    · rw [if_neg hc] at h1 ⊢
      exact q _ Ω1 _ H1 h1 k1 o1 rfl) qx
theorem sim_orV {ta tb : TE} {da db : DE} (ha : SimE K G E ta da) (hb : SimE K G E tb db) : SimE K G E (tOrV ta tb) (dOrV da db) := fun g σ H ρ Ω P PX Q hG R h q qx =>
  ha g σ H ρ Ω _ PX _ hG R h (fun x Ω1 v H1 ⟨c, e, h1⟩ k1 o1 d1 => by
    subst e
    refine ⟨c, d1, ?_⟩
    by_cases hc : c = true
    · rw [if_pos hc] at h1 ⊢
      exact q _ Ω1 _ H1 h1 k1 o1 rfl
    · rw [if_neg hc] at h1 ⊢
      exact hb g σ H1 ρ Ω1 P PX Q hG (R.keep k1 o1) h1 (q.at k1) (qx.at k1)) qx
theorem sim_notV {ta : TE} {da : DE} (ha : SimE K G E ta da) : SimE K G E (tNotV ta) (dNotV da) := fun g σ H ρ Ω P PX Q hG R h q qx =>
  ha g σ H ρ Ω _ PX _ hG R h (fun x Ω1 v H1 ⟨c, e, h1⟩ k1 o1 d1 => by
    subst e
    exact ⟨c, d1, q _ Ω1 _ H1 h1 k1 o1 rfl⟩) qx
def dIf (dt : DT) (da db : DE) : DE := fun ρ Ω P PX => dt ρ Ω (fun c Ω1 => if c = true then da ρ Ω1 P PX else db ρ Ω1 P PX) PX
theorem sim_if {tt : TT} {ta tb : TE} {dt : DT} {da db : DE} (ht : SimT K G E tt dt) (ha : SimE K G E ta da) (hb : SimE K G E tb db) : SimE K G E (tIf tt ta tb) (dIf dt da db) := fun g σ H ρ Ω P PX Q hG R h q qx =>
  ht g σ H ρ Ω _ PX _ hG R h (fun c Ω1 H1 h1 k1 o1 => by
    by_cases hc : c = true
    · rw [if_pos hc] at h1 ⊢
      exact ha g σ H1 ρ Ω1 P PX Q hG (R.keep k1 o1) h1 (q.at k1) (qx.at k1)
    · rw [if_neg hc] at h1 ⊢
      exact hb g σ H1 ρ Ω1 P PX Q hG (R.keep k1 o1) h1 (q.at k1) (qx.at k1)) qx
def dChain (d d' : Tr → Tr → Om → PT' → Prop) (da db dc : DE) : DE := fun ρ Ω P PX => da ρ Ω (fun x Ω1 => db ρ Ω1 (fun y Ω2 => d x y Ω2 fun z Ω3 => ∃ k, z = .bl k ∧ if k = true then dc ρ Ω3 (fun w Ω4 => d' y w Ω4 P) PX else P (.bl false) Ω3) PX) PX
/-! ### argument lists, displays -/
def dNil : DA := fun _ Ω P _ => P [] Ω
def dCons (de : DE) (da : DA) : DA := fun ρ Ω P PX => de ρ Ω (fun x Ω1 => da ρ Ω1 (fun xs Ω2 => P (x :: xs) Ω2) PX) PX
theorem sim_nil : SimA K G E tNil dNil := fun g σ H ρ Ω P PX Q _ R p q _ => q [] Ω [] H p .refl R.om rfl
theorem sim_cons {te : TE} {ta : TA} {de : DE} {da : DA} (he : SimE K G E te de) (ha : SimA K G E ta da) : SimA K G E (tCons te ta) (dCons de da) := fun g σ H ρ Ω P PX Q hG R h q qx =>
  he g σ H ρ Ω _ PX _ hG R h (fun x Ω1 v H1 h1 k1 o1 d1 => ha g σ H1 ρ Ω1 _ PX _ hG (R.keep k1 o1) h1 (fun ts Ω2 vs H2 p k2 o2 d2 => q _ Ω2 _ H2 p (k1.trans k2) o2 (.cons (d1.keep k2) d2)) (qx.at k1)) qx
theorem size_ok {n : Nat} (h : n ≤ 1000000) : n ≤ sizeLine := Nat.le_trans h (by decide)
theorem size_lt {n : Nat} (h : n ≤ 1000000) : n < sizeLine := Nat.lt_of_le_of_lt h (by decide)
def dTup (da : DA) : DE := fun ρ Ω P PX => da ρ Ω (fun ts Ω1 => ts.length ≤ 1000000 ∧ P (.tup ts) Ω1) PX
/-- a new tuple -/
theorem new_tup {g : Gh} {H : Hp} {Ω : Om} {vs : List V} {ts : List Tr} {P : PT'} {Q : VK} {p : Addr} (o : OmOk K g H Ω) (d : VDL K g.dr (NM g Ω) H vs ts) (hz : ts.length ≤ 1000000) (h : P (.tup ts) Ω) (q : After K g H Ω P Q) (n : H p = none) : Q (.ref p) (upd H p (.tup vs)) :=
  have np : ¬ g.pr p := fun z => by obtain ⟨u, e⟩ := o.pt p z; rw [n] at e; cases e
  q _ Ω _ _ h (.new n) (o.new n) ⟨p, vs, rfl, .inl ⟨NM.new o n np, upd_same⟩, d.keep (.new n), hz⟩
theorem sim_tup {ta : TA} {da : DA} (ha : SimA K G E ta da) : SimE K G E (tTup ta) (dTup da) := fun g σ H ρ Ω P PX Q hG R h q qx =>
  ha g σ H ρ Ω _ PX _ hG R h (fun ts Ω1 vs H1 ⟨hz, p⟩ k1 o1 d1 => ⟨by rw [d1.len]; exact size_ok hz, fun a n => new_tup o1 d1 hz p (q.at k1) n⟩) qx
/-- a new list: data, or a cell -/
def lstNew (ts : List Tr) (Ω : Om) (P : PT') : Prop := P (.lst ts) Ω ∨ ∀ a, Ω a = none → P (.obj a) (put Ω a (.lst ts))
theorem new_lst {g : Gh} {H : Hp} {Ω : Om} {vs : List V} {ts : List Tr} {P : PT'} {Q : VK} {p : Addr} (o : OmOk K g H Ω) (d : VDL K g.dr (NM g Ω) H vs ts) (hz : ts.length ≤ 1000000) (h : lstNew ts Ω P) (q : After K g H Ω P Q) (n : H p = none) : Q (.ref p) (upd H p (.lst vs)) := by
  have np : ¬ g.pr p := fun z => by obtain ⟨u, e⟩ := o.pt p z; rw [n] at e; cases e
  rcases h with h | h
  · exact q _ Ω _ _ h (.new n) (o.new n) ⟨p, vs, rfl, NM.new o n np, upd_same, d.keep (.new n), hz⟩
  · exact q _ _ _ _ (h p (o.fresh n)) (.cell n) (o.cell n np ⟨vs, upd_same, d.keep (.cell n), hz⟩) rfl
def dLst (da : DA) : DE := fun ρ Ω P PX => da ρ Ω (fun ts Ω1 => ts.length ≤ 1000000 ∧ lstNew ts Ω1 P) PX
theorem sim_lst {ta : TA} {da : DA} (ha : SimA K G E ta da) : SimE K G E (tLst ta) (dLst da) := fun g σ H ρ Ω P PX Q hG R h q qx =>
  ha g σ H ρ Ω _ PX _ hG R h (fun ts Ω1 vs H1 ⟨hz, p⟩ k1 o1 d1 => ⟨by rw [d1.len]; exact size_ok hz, fun a n => new_lst o1 d1 hz p (q.at k1) n⟩) qx
/-! ### calls -/
abbrev Pw := List Tr → Om → PT' → PXt → Prop
def spD (K : PySem.W.Frag) (P : Pw) (n : Nat) : Sp := fun vs H Q E => ∃ (g : Gh) (Ω : Om) (ts : List Tr) (PQ : PT') (PX : PXt), ts.length = n ∧ VDL K g.dr (NM g Ω) H vs ts ∧ OmOk K g H Ω ∧ P ts Ω PQ PX ∧ After K g H Ω PQ Q ∧ AfterX K g H Ω PX E
def dCall (P : Pw) (n : Nat) (da : DA) : DE := fun ρ Ω Q PX => da ρ Ω (fun ts Ω1 => ts.length = n ∧ P ts Ω1 Q PX) PX
def dCall0 (P : Pw) (n : Nat) (da : DA) : DE := fun ρ Ω Q PX => da ρ Ω (fun ts Ω1 => ts.length = n ∧ P ts Ω1 Q nox) PX
theorem sim_call {P : Pw} {n : Nat} {E1 : XK} {ta : TA} {da : DA} (ha : SimA K G (fun _ => E1) ta da) : SimE K G (fun _ => E1) (tCall (spD K P n) [] E1 ta) (dCall P n da) := fun g σ H ρ Ω Q PX QQ hG R h q qx =>
  ha g σ H ρ Ω _ PX _ hG R h (fun ts Ω1 vs H1 ⟨hl, p⟩ k1 o1 d1 => by rw [List.append_nil]; exact ⟨g, Ω1, ts, Q, PX, hl, d1, o1, p, q.at k1, qx.at k1⟩) qx
theorem sim_call0 {P : Pw} {n : Nat} {ta : TA} {da : DA} (ha : SimA K G E ta da) : SimE K G E (tCall (spD K P n) [] E0 ta) (dCall0 P n da) := fun g σ H ρ Ω Q PX QQ hG R h q qx =>
  ha g σ H ρ Ω _ PX _ hG R h (fun ts Ω1 vs H1 ⟨hl, p⟩ k1 o1 d1 => by rw [List.append_nil]; exact ⟨g, Ω1, ts, Q, nox, hl, d1, o1, p, q.at k1, AfterX.nox⟩) qx
theorem sim_callS {P : Pw} {n : Nat} {ta : TA} {da : DA} (ha : SimA K G E ta da) : SimE K G E (tCallS (spD K P n) E ta) (dCall P n da) := fun g σ H ρ Ω Q PX QQ hG R h q qx =>
  ha g σ H ρ Ω _ PX _ hG R h (fun ts Ω1 vs H1 ⟨hl, p⟩ k1 o1 d1 => ⟨g, Ω1, ts, Q, PX, hl, d1, o1, p, q.at k1, qx.at k1⟩) qx
/-- a built-in's rule -/
def SimC (K : PySem.W.Frag) (r : List V → Hp → VK → Prop) (d : List Tr → Om → PT' → Prop) : Prop := ∀ g H Ω vs ts P Q, OmOk K g H Ω → VDL K g.dr (NM g Ω) H vs ts → d ts Ω P → After K g H Ω P Q → r vs H Q
def dCB (d : List Tr → Om → PT' → Prop) (da : DA) : DE := fun ρ Ω P PX => da ρ Ω (fun ts Ω1 => d ts Ω1 P) PX
theorem sim_CB {r : List V → Hp → VK → Prop} {d : List Tr → Om → PT' → Prop} {ta : TA} {da : DA} (hr : SimC K r d) (ha : SimA K G E ta da) : SimE K G E (tCB r ta) (dCB d da) := fun g σ H ρ Ω P PX Q hG R h q qx =>
  ha g σ H ρ Ω _ PX _ hG R h (fun ts Ω1 vs H1 p k1 o1 d1 => hr g H1 Ω1 vs ts P Q o1 d1 p (q.at k1)) qx
/-! ### statements -/
def dNext : DS := fun D ρ Ω => D.nx ρ Ω
theorem sim_next : SimS K G E tNext dNext := fun g σ H ρ Ω D DD _ R h e => e.nx ρ Ω σ H h .refl R
def dSeq (a b : DS) : DS := fun D ρ Ω => a { D with nx := b D } ρ Ω
theorem sim_seq {a b : TS} {da db : DS} (ha : SimS K G E a da) (hb : SimS K G E b db) : SimS K G E (tSeq a b) (dSeq da db) := fun g σ H ρ Ω D DD hG R h e =>
  ha g σ H ρ Ω _ _ hG R h ⟨fun ρ' Ω' σ' H' p k r => hb g σ' H' ρ' Ω' D DD hG r p (e.at k), e.rt, e.bk, e.ct, e.ex⟩
def dRet (de : DE) : DS := fun D ρ Ω => de ρ Ω D.rt (fun x Ω' => D.ex ρ x Ω')
theorem sim_ret {te : TE} {de : DE} (h : SimE K G E te de) : SimS K G E (tRet te) (dRet de) := fun g σ H ρ Ω D DD hG R p e => h g σ H ρ Ω _ _ _ hG R p e.rt (e.exx R)
def dRetN : DS := fun D _ Ω => D.rt .non Ω
theorem sim_retN : SimS K G E tRetN dRetN := fun g σ H ρ Ω D DD _ R h e => e.rt _ Ω _ H h .refl R.om rfl
def dDrop (de : DE) : DS := fun D ρ Ω => de ρ Ω (fun _ Ω' => D.nx ρ Ω') (fun x Ω' => D.ex ρ x Ω')
theorem sim_drop {te : TE} {de : DE} (h : SimE K G E te de) : SimS K G E (tDrop te) (dDrop de) := fun g σ H ρ Ω D DD hG R p e => h g σ H ρ Ω _ _ _ hG R p (fun t Ω' v H' p k o d => e.nx ρ Ω' σ H' p k (R.keep k o)) (e.exx R)
def dBreak : DS := fun D ρ Ω => D.bk ρ Ω
def dCont : DS := fun D ρ Ω => D.ct ρ Ω
theorem sim_break : SimS K G E tBreak dBreak := fun g σ H ρ Ω D DD _ R h e => e.bk ρ Ω σ H h .refl R
theorem sim_cont : SimS K G E tCont dCont := fun g σ H ρ Ω D DD _ R h e => e.ct ρ Ω σ H h .refl R
def dIfS (dt : DT) (a b : DS) : DS := fun D ρ Ω => dt ρ Ω (fun c Ω1 => if c = true then a D ρ Ω1 else b D ρ Ω1) (fun x Ω' => D.ex ρ x Ω')
theorem sim_ifS {tt : TT} {a b : TS} {dt : DT} {da db : DS} (ht : SimT K G E tt dt) (ha : SimS K G E a da) (hb : SimS K G E b db) : SimS K G E (tIfS tt a b) (dIfS dt da db) := fun g σ H ρ Ω D DD hG R h e =>
  ht g σ H ρ Ω _ _ _ hG R h (fun c Ω1 H1 h1 k1 o1 => by
    by_cases hc : c = true
    · rw [if_pos hc] at h1 ⊢
      exact ha g σ H1 ρ Ω1 D DD hG (R.keep k1 o1) h1 (e.at k1)
    · rw [if_neg hc] at h1 ⊢
      exact hb g σ H1 ρ Ω1 D DD hG (R.keep k1 o1) h1 (e.at k1)) (e.exx R)
/-! ### targets -/
def dName (i : Nat) : DG := fun t ρ Ω P _ => P (ρ.set i (some t)) Ω
theorem sim_gName {i : Nat} : SimG K G E (gName i) (dName i) := fun g σ H ρ Ω v t P PX Q _ R d p q _ => q _ Ω _ H p .refl (R.set d)
def dgNil : DGs := fun ts ρ Ω P _ => ts = [] ∧ P ρ Ω
def dgCons (d : DG) (u : DGs) : DGs := fun ts ρ Ω P PX => ∃ t r, ts = t :: r ∧ d t ρ Ω (fun ρ' Ω' => u r ρ' Ω' P PX) PX
theorem sim_gNil : SimGs K G gNil dgNil := fun g σ H ρ Ω v t P Q _ R d ⟨e, p⟩ q => by
  subst e
  exact ⟨d, q ρ Ω σ H p .refl R⟩
theorem sim_gCons {t : TG} {u : TGs} {d : DG} {e : DGs} (ht : SimG K G (fun _ _ _ _ => False) t d) (hu : SimGs K G u e) : SimGs K G (gCons t u) (dgCons d e) := fun g σ H ρ Ω v ts P Q hG R dd ⟨x, r, e1, p⟩ q => by
  subst e1
  obtain ⟨v, vs, rfl, d1, d2⟩ := dd
  refine ⟨v, vs, rfl, ht g σ H ρ Ω v x _ _ _ hG R d1 p (fun ρ' Ω' σ' H' p' k r => hu g σ' H' ρ' Ω' vs _ P Q hG r (d2.keep k) p' fun ρ2 Ω2 σ2 H2 p2 k2 r2 => q ρ2 Ω2 σ2 H2 p2 (k.trans k2) r2) fun _ _ _ ⟨_, _, z, _⟩ => z.elim⟩
def dTupG (n : Nat) (d : DGs) : DG := fun t ρ Ω P _ => ∃ ts, t = .tup ts ∧ ts.length = n ∧ d ts ρ Ω P nox
theorem sqt {dr : Option (Addr × Addr)} {F : Addr → Prop} {H : Hp} {v : V} {ts : List Tr} (h : VD K dr F H v (.tup ts)) : ∃ a xs, v = .ref a ∧ SqT K H a xs ∧ VDL K dr F H xs ts ∧ ts.length ≤ 1000000 := by
  obtain ⟨a, xs, e, h, d, z⟩ := h
  exact ⟨a, xs, e, h.elim (fun h => SqT.of h.2) fun h => h.1 H, d, z⟩
theorem sql {dr : Option (Addr × Addr)} {F : Addr → Prop} {H : Hp} {v : V} {ts : List Tr} (h : VD K dr F H v (.lst ts)) : ∃ a xs, v = .ref a ∧ SqL K H a xs ∧ VDL K dr F H xs ts ∧ ts.length ≤ 1000000 := by
  obtain ⟨a, xs, e, f, h, d, z⟩ := h
  exact ⟨a, xs, e, SqL.of h, d, z⟩
theorem sim_gTup {n : Nat} {t : TGs} {d : DGs} (h : SimGs K G t d) : SimG K G E (gTup K n t) (dTupG n d) := fun g σ H ρ Ω v t' P PX Q hG R dd ⟨ts, e1, hl, p⟩ q _ => by
  subst e1
  obtain ⟨a, xs, rfl, hs, dl, hz⟩ := sqt dd
  exact ⟨a, xs, rfl, hs, by rw [dl.len]; exact hl, h g σ H ρ Ω xs ts P Q hG R dl p q⟩
def dAsg (de : DE) (dg : DG) : DS := fun D ρ Ω => de ρ Ω (fun x Ω1 => dg x ρ Ω1 D.nx (fun y Ω' => D.ex ρ y Ω')) (fun y Ω' => D.ex ρ y Ω')
theorem sim_asg {te : TE} {tg : TG} {de : DE} {dg : DG} (he : SimE K G E te de) (hg : SimG K G E tg dg) : SimS K G E (tAsg te tg) (dAsg de dg) := fun g σ H ρ Ω D DD hG R h e =>
  he g σ H ρ Ω _ _ _ hG R h (fun x Ω1 v H1 h1 k1 o1 d1 => hg g σ H1 ρ Ω1 v x _ _ _ hG (R.keep k1 o1) d1 h1 (fun ρ' Ω' σ' H' p k r => e.nx ρ' Ω' σ' H' p (k1.trans k) r) fun c d H' ⟨y, Ω', p, k, o, r⟩ => e.ex y ρ Ω' σ c d H' p (k1.trans k) (R.keep (k1.trans k) o) r) (e.exx R)
/-! ### loops -/
def ItOk (K : PySem.W.Frag) (g : Gh) (J : It) (items : List Tr) (H1 : Hp) (Ω1 : Om) (stay : Om → Prop) : Prop :=
  ∀ (g' : Gh), (g' = g ∨ ∃ D, H1 D = none ∧ g' = g.with D) → ∀ (i : Nat) H' Ω', Keep g H1 Ω1 H' Ω' → OmOk K g' H' Ω' → stay Ω' →
    (i = items.length → J.stop i H') ∧ (i < items.length → J.go i H' ∧ ∀ x H'', J.yld i H' x H'' → Keep g H' Ω' H'' Ω' ∧ OmOk K g' H'' Ω' ∧ ∃ t, items[i]? = some t ∧ VD K g'.dr (NM g' Ω') H'' x t)
def SimI (K : PySem.W.Frag) (G : List (Value × Option Addr × XV) → Prop) (E : EK) (wi : TI) (di : DI) : Prop := ∀ g σ H ρ Ω P PX R, G g.ex → Rel K g σ H ρ Ω → di ρ Ω P PX → (∀ items stay Ω' J H', P items stay Ω' → Keep g H Ω H' Ω' → OmOk K g H' Ω' → ItOk K g J items H' Ω' stay → R J H') → AfterX K g H Ω PX (E σ) → wi σ H R
def dFor (di : DI) (dg : DG) (db : DS) : DS := fun D ρ Ω => di ρ Ω (fun items stay Ω1 => ∃ W : Nat → En → Om → Prop, W 0 ρ Ω1 ∧ (∀ i ρ' Ω', W i ρ' Ω' → stay Ω') ∧
  (∀ i t ρ' Ω', items[i]? = some t → W i ρ' Ω' → dg t ρ' Ω' (fun ρ2 Ω2 => db { D with nx := W (i + 1), ct := W (i + 1), bk := D.nx } ρ2 Ω2) nox) ∧ ∀ ρ' Ω', W items.length ρ' Ω' → D.nx ρ' Ω') (fun y Ω' => D.ex ρ y Ω')
theorem sim_for {wi : TI} {tg : TG} {tb : TS} {di : DI} {dg : DG} {db : DS} (hi : SimI K G E wi di) (hg : SimG K G E tg dg) (hb : SimS K G E tb db) : SimS K G E (tFor wi tg tb) (dFor di dg db) := fun g σ H ρ Ω D DD hG R h e => by
  refine hi g σ H ρ Ω _ _ _ hG R h (fun items stay Ω1 J H1 h1 k1 o1 it => ?_) (e.exx R)
  obtain ⟨W, w0, wst, step, fin⟩ := h1
  refine ⟨fun i m σ' H' => m + i = items.length ∧ ∃ ρ' Ω', Keep g H1 Ω1 H' Ω' ∧ Rel K g σ' H' ρ' Ω' ∧ W i ρ' Ω', ⟨items.length, by omega, ρ, Ω1, .refl, R.keep k1 o1, w0⟩, ?_⟩
  rintro i m σ' H' ⟨hm, ρ', Ω', k2, R2, w⟩
  obtain ⟨s1, s2⟩ := it g (.inl rfl) i H' Ω' k2 R2.om (wst _ _ _ w)
  rcases Nat.lt_or_ge i items.length with hlt | hge
  · obtain ⟨go, yl⟩ := s2 hlt
    refine .inr ⟨go, fun σ2 H2 => m - 1 + (i + 1) = items.length ∧ ∃ ρ2 Ω2, Keep g H1 Ω1 H2 Ω2 ∧ Rel K g σ2 H2 ρ2 Ω2 ∧ W (i + 1) ρ2 Ω2, fun σ2 H2 z => ⟨m - 1, by omega, z⟩, fun x H'' y => ?_⟩
    obtain ⟨k3, o3, t, et, dt⟩ := yl x H'' y
    have R3 := R2.keep k3 o3
    refine hg g σ' H'' ρ' Ω' x t _ _ _ hG R3 dt (step i t ρ' Ω' et w) (fun ρ2 Ω2 σ2 H2 p k4 R4 => ?_) fun _ _ _ ⟨_, _, z, _⟩ => z.elim
    have k5 := (k2.trans k3).trans k4
    refine hb g σ2 H2 ρ2 Ω2 _ _ hG R4 p ⟨fun ρ3 Ω3 σ3 H3 p3 k r => ⟨by omega, ρ3, Ω3, k5.trans k, r, p3⟩, (e.rt.at k1).at k5, fun ρ3 Ω3 σ3 H3 p3 k r => e.nx ρ3 Ω3 σ3 H3 p3 ((k1.trans k5).trans k) r, fun ρ3 Ω3 σ3 H3 p3 k r => ⟨by omega, ρ3, Ω3, k5.trans k, r, p3⟩, fun x ρ3 Ω3 σ3 c d H3 p3 k r z => e.ex x ρ3 Ω3 σ3 c d H3 p3 ((k1.trans k5).trans k) r z⟩
  · have hi : i = items.length := by omega
    exact .inl ⟨s1 hi, e.nx ρ' Ω' σ' H' (fin ρ' Ω' (hi ▸ w)) (k1.trans k2) R2⟩
def dWhile (dt : DT) (db : DS) : DS := fun D ρ Ω => ∃ W : Nat → En → Om → Prop, (∃ m, W m ρ Ω) ∧ ∀ m ρ' Ω', W m ρ' Ω' → dt ρ' Ω' (fun b Ω1 => if b = true then db { D with nx := fun ρ2 Ω2 => ∃ m', m' < m ∧ W m' ρ2 Ω2, ct := fun ρ2 Ω2 => ∃ m', m' < m ∧ W m' ρ2 Ω2, bk := D.nx } ρ' Ω1 else D.nx ρ' Ω1) (fun x Ω1 => D.ex ρ' x Ω1)
theorem sim_while {tt : TT} {tb : TS} {dt : DT} {db : DS} (ht : SimT K G E tt dt) (hb : SimS K G E tb db) : SimS K G E (tWhile tt tb) (dWhile dt db) := fun g σ H ρ Ω D DD hG R ⟨W, ⟨m0, w0⟩, step⟩ e => by
  refine ⟨fun m σ' H' => ∃ ρ' Ω', Keep g H Ω H' Ω' ∧ Rel K g σ' H' ρ' Ω' ∧ W m ρ' Ω', ⟨m0, ρ, Ω, .refl, R, w0⟩, ?_⟩
  rintro m σ' H' ⟨ρ', Ω', k, R', w⟩
  refine ht g σ' H' ρ' Ω' _ _ _ hG R' (step m ρ' Ω' w) (fun b Ω1 H1 h1 k1 o1 => ?_) (fun x Ω1 c d H1 p k1 o1 r => e.ex x ρ' Ω1 σ' c d H1 p (k.trans k1) (R'.keep k1 o1) r)
  by_cases hbb : b = true
  · rw [if_pos hbb] at h1 ⊢
    have kk := k.trans k1
    refine ⟨fun σ2 H2 => ∃ m', m' < m ∧ ∃ ρ2 Ω2, Keep g H Ω H2 Ω2 ∧ Rel K g σ2 H2 ρ2 Ω2 ∧ W m' ρ2 Ω2, fun σ2 H2 z => z, ?_⟩
    exact hb g σ' H1 ρ' Ω1 _ _ hG (R'.keep k1 o1) h1 ⟨fun ρ3 Ω3 σ3 H3 ⟨m', hm, p3⟩ k3 r => ⟨m', hm, ρ3, Ω3, kk.trans k3, r, p3⟩, e.rt.at kk, fun ρ3 Ω3 σ3 H3 p3 k3 r => e.nx ρ3 Ω3 σ3 H3 p3 (kk.trans k3) r, fun ρ3 Ω3 σ3 H3 ⟨m', hm, p3⟩ k3 r => ⟨m', hm, ρ3, Ω3, kk.trans k3, r, p3⟩, fun x ρ3 Ω3 σ3 c d H3 p3 k3 r z => e.ex x ρ3 Ω3 σ3 c d H3 p3 (kk.trans k3) r z⟩
  · rw [if_neg hbb] at h1 ⊢
    exact e.nx ρ' Ω1 σ' H1 h1 (k.trans k1) (R'.keep k1 o1)
end
end LT

namespace LT
open PySem PySem.Spec PyProof.Rows L2 LL
section
variable {K : PySem.W.Frag} {G : List (Value × Option Addr × XV) → Prop} {E : EK}
/-! ### what is walked -/
def cellL : Option Cell → Option (List Tr)
  | some (.lst ts) => some ts
  | _ => none
/-- the items of a list, data or cell -/
def asL : Tr → Om → Option (List Tr)
  | .lst ts, _ => some ts
  | .obj a, Ω => cellL (Ω a)
  | _, _ => none
def asT : Tr → Option (List Tr)
  | .tup ts => some ts
  | _ => none
def asS : Tr → Om → Option (List Tr)
  | .tup ts, _ => some ts
  | .lst ts, _ => some ts
  | .obj a, Ω => cellL (Ω a)
  | _, _ => none
theorem asL_lst {ts : List Tr} {Ω : Om} : asL (.lst ts) Ω = some ts := rfl
theorem asL_obj {a : Addr} {ts : List Tr} {Ω : Om} (h : Ω a = some (.lst ts)) : asL (.obj a) Ω = some ts := by show cellL (Ω a) = _; rw [h]; rfl
theorem asS_lst {ts : List Tr} {Ω : Om} : asS (.lst ts) Ω = some ts := rfl
theorem asS_tup {ts : List Tr} {Ω : Om} : asS (.tup ts) Ω = some ts := rfl
theorem asT_tup {ts : List Tr} : asT (.tup ts) = some ts := rfl
theorem asS_obj {a : Addr} {ts : List Tr} {Ω : Om} (h : Ω a = some (.lst ts)) : asS (.obj a) Ω = some ts := by show cellL (Ω a) = _; rw [h]; rfl
theorem at_L {g : Gh} {H : Hp} {Ω : Om} {v : V} {t : Tr} {ts : List Tr} (o : OmOk K g H Ω) (d : VD K g.dr (NM g Ω) H v t) (h : asL t Ω = some ts) : ∃ a xs, v = .ref a ∧ SqL K H a xs ∧ H a = some (.lst xs) ∧ VDL K g.dr (NM g Ω) H xs ts ∧ ts.length ≤ 1000000 := by
  cases t with
  | lst us =>
    cases h
    obtain ⟨a, xs, e, f, h, d, z⟩ := d
    exact ⟨a, xs, e, SqL.of h, h, d, z⟩
  | obj a =>
    cases e : Ω a with
    | none =>
      replace h : cellL (Ω a) = some ts := h
      rw [e] at h
      cases h
    | some c =>
      cases c with
      | lst us =>
        rw [asL_obj e] at h
        cases h
        obtain ⟨xs, h1, h2, z⟩ := (o.ce a _ e).2
        exact ⟨a, xs, d, SqL.of h1, h1, h2, z⟩
      | _ =>
        replace h : cellL (Ω a) = some ts := h
        rw [e] at h
        cases h
  | _ => cases h
theorem at_T {g : Gh} {H : Hp} {Ω : Om} {v : V} {t : Tr} {ts : List Tr} (d : VD K g.dr (NM g Ω) H v t) (h : asT t = some ts) : ∃ a xs, v = .ref a ∧ SqT K H a xs ∧ VDL K g.dr (NM g Ω) H xs ts ∧ ts.length ≤ 1000000 := by
  cases t with
  | tup us =>
    cases h
    obtain ⟨a, xs, e, s, d, z⟩ := sqt d
    exact ⟨a, xs, e, s, d, z⟩
  | _ => cases h
theorem at_S {g : Gh} {H : Hp} {Ω : Om} {v : V} {t : Tr} {ts : List Tr} (o : OmOk K g H Ω) (d : VD K g.dr (NM g Ω) H v t) (h : asS t Ω = some ts) : ∃ a xs, v = .ref a ∧ (SqL K H a xs ∨ SqT K H a xs) ∧ VDL K g.dr (NM g Ω) H xs ts ∧ ts.length ≤ 1000000 := by
  cases t with
  | tup us =>
    obtain ⟨a, xs, e, s, d, z⟩ := at_T (ts := ts) d h
    exact ⟨a, xs, e, .inr s, d, z⟩
  | lst us =>
    obtain ⟨a, xs, e, s, _, d, z⟩ := at_L (ts := ts) o d h
    exact ⟨a, xs, e, .inl s, d, z⟩
  | obj us =>
    obtain ⟨a, xs, e, s, _, d, z⟩ := at_L (ts := ts) o d h
    exact ⟨a, xs, e, .inl s, d, z⟩
  | _ => cases h
/-- what must stay so while it is walked -/
def stay : Tr → List Tr → Om → Prop
  | .obj a, ts => fun Ω => Ω a = some (.lst ts)
  | _, _ => fun _ => True
theorem vd_at {g g' : Gh} {H1 H' : Hp} {Ω1 Ω' : Om} {v : V} {t : Tr} (hg : g' = g ∨ ∃ D, H1 D = none ∧ g' = g.with D) (k : Keep g H1 Ω1 H' Ω') (d : VD K g.dr (NM g Ω1) H1 v t) : VD K g'.dr (NM g' Ω') H' v t := by
  rcases hg with rfl | ⟨D, n, rfl⟩
  · exact d.keep k
  · exact (d.more n).keep (g := g.with D) k
theorem vdl_at {g g' : Gh} {H1 H' : Hp} {Ω1 Ω' : Om} {v : List V} {t : List Tr} (hg : g' = g ∨ ∃ D, H1 D = none ∧ g' = g.with D) (k : Keep g H1 Ω1 H' Ω') (d : VDL K g.dr (NM g Ω1) H1 v t) : VDL K g'.dr (NM g' Ω') H' v t := by
  rcases hg with rfl | ⟨D, n, rfl⟩
  · exact d.keep k
  · exact (d.more n).keep (g := g.with D) k
/-- a list that stays, at every turn -/
theorem stays_L {g g' : Gh} {H1 H' : Hp} {Ω1 Ω' : Om} {t : Tr} {ts : List Tr} {a : Addr} (hg : g' = g ∨ ∃ D, H1 D = none ∧ g' = g.with D) (k : Keep g H1 Ω1 H' Ω') (o' : OmOk K g' H' Ω') (st : stay t ts Ω') (h : asL t Ω1 = some ts) (d : VD K g.dr (NM g Ω1) H1 (.ref a) t) : ∃ ys, SqL K H' a ys ∧ VDL K g'.dr (NM g' Ω') H' ys ts := by
  cases t with
  | lst us =>
    cases h
    obtain ⟨b, ys, e, f, h, d, z⟩ := vd_at hg k d
    cases e
    exact ⟨ys, SqL.of h, d⟩
  | obj b =>
    cases d
    obtain ⟨ys, h1, h2, _⟩ := (o'.ce a _ st).2
    exact ⟨ys, SqL.of h1, h2⟩
  | _ => cases h
theorem itl_ok {g : Gh} {H1 : Hp} {Ω1 : Om} {t : Tr} {ts : List Tr} {a : Addr} (h : asL t Ω1 = some ts) (d : VD K g.dr (NM g Ω1) H1 (.ref a) t) : ItOk K g (Itl K a) ts H1 Ω1 (stay t ts) := fun g' hg i H' Ω' k o' st => by
  obtain ⟨ys, s, dl⟩ := stays_L hg k o' st h d
  refine ⟨fun e => ⟨ys, s, by rw [dl.len]; omega⟩, fun hi => ⟨⟨ys, ys[i]'(by rw [dl.len]; exact hi), s, List.getElem?_eq_getElem _⟩, ?_⟩⟩
  rintro x H'' ⟨rfl, hx⟩
  obtain ⟨t, et, dt⟩ := dl.get _ (hx ys s)
  exact ⟨.refl, o', t, et, dt⟩
theorem itt_ok {g : Gh} {H1 : Hp} {Ω1 : Om} {t : Tr} {ts : List Tr} {a : Addr} (h : asT t = some ts) (d : VD K g.dr (NM g Ω1) H1 (.ref a) t) : ItOk K g (Itt K a) ts H1 Ω1 (fun _ => True) := fun g' hg i H' Ω' k o' _ => by
  obtain ⟨b, ys, e, s, dl, _⟩ := at_T (vd_at hg k d) h
  cases e
  refine ⟨fun e => ⟨ys, s, by rw [dl.len]; omega⟩, fun hi => ⟨⟨ys, ys[i]'(by rw [dl.len]; exact hi), s, List.getElem?_eq_getElem _⟩, ?_⟩⟩
  rintro x H'' ⟨rfl, hx⟩
  obtain ⟨t, et, dt⟩ := dl.get _ (hx ys s)
  exact ⟨.refl, o', t, et, dt⟩
def diL (de : DE) : DI := fun ρ Ω P PX => de ρ Ω (fun t Ω1 => ∃ ts, asL t Ω1 = some ts ∧ (ts.length ≤ 1000000 → P ts (stay t ts) Ω1)) PX
theorem sim_iL {te : TE} {de : DE} (h : SimE K G E te de) : SimI K G E (iList K te) (diL de) := fun g σ H ρ Ω P PX R hG r p q qx =>
  h g σ H ρ Ω _ PX _ hG r p (fun t Ω1 v H1 ⟨ts, e, p1⟩ k1 o1 d1 => by
    obtain ⟨a, xs, rfl, s, _, dl, z⟩ := at_L o1 d1 e
    exact ⟨a, rfl, ⟨xs, s⟩, q ts _ Ω1 _ H1 (p1 z) k1 o1 (itl_ok e d1)⟩) qx
def diT (de : DE) : DI := fun ρ Ω P PX => de ρ Ω (fun t Ω1 => ∃ ts, asT t = some ts ∧ (ts.length ≤ 1000000 → P ts (fun _ => True) Ω1)) PX
theorem sim_iT {te : TE} {de : DE} (h : SimE K G E te de) : SimI K G E (iTup K te) (diT de) := fun g σ H ρ Ω P PX R hG r p q qx =>
  h g σ H ρ Ω _ PX _ hG r p (fun t Ω1 v H1 ⟨ts, e, p1⟩ k1 o1 d1 => by
    obtain ⟨a, xs, rfl, s, dl, z⟩ := at_T d1 e
    exact ⟨a, rfl, ⟨xs, s⟩, q ts _ Ω1 _ H1 (p1 z) k1 o1 (itt_ok e d1)⟩) qx
def diS (de : DE) : DI := fun ρ Ω P PX => de ρ Ω (fun t Ω1 => ∃ ts, asS t Ω1 = some ts ∧ (ts.length ≤ 1000000 → P ts (stay t ts) Ω1)) PX
theorem sim_iS {te : TE} {de : DE} (h : SimE K G E te de) : SimI K G E (iSeq K te) (diS de) := fun g σ H ρ Ω P PX R hG r p q qx =>
  h g σ H ρ Ω _ PX _ hG r p (fun t Ω1 v H1 ⟨ts, e, p1⟩ k1 o1 d1 => by
    cases t with
    | tup us =>
      obtain ⟨a, xs, rfl, s, dl, z⟩ := at_T (ts := ts) d1 e
      exact ⟨a, rfl, .inr ⟨⟨xs, s⟩, q ts _ Ω1 _ H1 (p1 z) k1 o1 (itt_ok (t := .tup us) e d1)⟩⟩
    | lst us =>
      obtain ⟨a, xs, rfl, s, _, dl, z⟩ := at_L (ts := ts) o1 d1 e
      exact ⟨a, rfl, .inl ⟨⟨xs, s⟩, q ts _ Ω1 _ H1 (p1 z) k1 o1 (itl_ok (t := .lst us) e d1)⟩⟩
    | obj b =>
      obtain ⟨a, xs, rfl, s, _, dl, z⟩ := at_L (ts := ts) o1 d1 e
      exact ⟨a, rfl, .inl ⟨⟨xs, s⟩, q ts _ Ω1 _ H1 (p1 z) k1 o1 (itl_ok (t := .obj b) e d1)⟩⟩
    | _ => cases e) qx
/-- the numbers of a range -/
def rngT (lo : Int) (n : Nat) : List Tr := (List.range n).map fun (i : Nat) => Tr.int (lo + i)
theorem rngT_len {lo : Int} {n : Nat} : (rngT lo n).length = n := by unfold rngT; rw [List.length_map, List.length_range]
theorem rngT_get {lo : Int} {n i : Nat} (h : i < n) : (rngT lo n)[i]? = some (.int (lo + i)) := by
  unfold rngT
  rw [List.getElem?_map, List.getElem?_range h]
  rfl
theorem itr_ok {g : Gh} {H1 : Hp} {Ω1 : Om} {lo : Int} {n : Nat} : ItOk K g (Itr lo n) (rngT lo n) H1 Ω1 (fun _ => True) := fun g' _ i H' Ω' k o' _ => by
  rw [rngT_len]
  refine ⟨fun e => (show n ≤ i by omega), fun hi => ⟨hi, ?_⟩⟩
  rintro x H'' ⟨rfl, rfl⟩
  exact ⟨.refl, o', _, rngT_get hi, rfl⟩
def diR1 (da : DA) : DI := fun ρ Ω P PX => da ρ Ω (fun ts Ω1 => ∃ j : Int, ts = [.int j] ∧ -(2 ^ 62) ≤ j ∧ j < 2 ^ 62 ∧ P (rngT 0 j.toNat) (fun _ => True) Ω1) PX
theorem sim_iR1 {ta : TA} {da : DA} (h : SimA K G E ta da) : SimI K G E (iRng1 ta) (diR1 da) := fun g σ H ρ Ω P PX R hG r p q qx =>
  h g σ H ρ Ω _ PX _ hG r p (fun ts Ω1 vs H1 ⟨j, e, b1, b2, p1⟩ k1 o1 d1 => by
    subst e
    obtain ⟨v, _, rfl, d, rfl⟩ := d1
    exact ⟨j, by rw [show v = _ from d], b1, b2, q _ _ Ω1 _ H1 p1 k1 o1 itr_ok⟩) qx
def diR2 (da : DA) : DI := fun ρ Ω P PX => da ρ Ω (fun ts Ω1 => ∃ i j : Int, ts = [.int i, .int j] ∧ (-(2 ^ 62) ≤ i ∧ i < 2 ^ 62 ∧ -(2 ^ 62) ≤ j ∧ j < 2 ^ 62) ∧ P (rngT i (j - i).toNat) (fun _ => True) Ω1) PX
theorem sim_iR2 {ta : TA} {da : DA} (h : SimA K G E ta da) : SimI K G E (iRng2 ta) (diR2 da) := fun g σ H ρ Ω P PX R hG r p q qx =>
  h g σ H ρ Ω _ PX _ hG r p (fun ts Ω1 vs H1 ⟨i, j, e, b1, p1⟩ k1 o1 d1 => by
    subst e
    obtain ⟨v, _, rfl, d, u, _, rfl, d2, rfl⟩ := d1
    exact ⟨i, j, by rw [show v = _ from d, show u = _ from d2], b1, q _ _ Ω1 _ H1 p1 k1 o1 itr_ok⟩) qx
/-- (0, x), (1, y), .. -/
def enumT (ts : List Tr) : List Tr := ts.mapIdx fun i t => .tup [.int (i : Nat), t]
theorem enumT_len {ts : List Tr} : (enumT ts).length = ts.length := by unfold enumT; rw [List.length_mapIdx]
theorem enumT_get {ts : List Tr} {i : Nat} {t : Tr} (h : ts[i]? = some t) : (enumT ts)[i]? = some (.tup [.int (i : Nat), t]) := by
  unfold enumT
  rw [List.getElem?_mapIdx, h]
  rfl
theorem not_pr {g : Gh} {H : Hp} {Ω : Om} (o : OmOk K g H Ω) {p : Addr} (n : H p = none) : ¬ g.pr p := fun z => by
  obtain ⟨u, e⟩ := o.pt p z
  rw [n] at e; cases e
theorem ite_ok {g : Gh} {H1 : Hp} {Ω1 : Om} {t : Tr} {ts : List Tr} {a : Addr} (h : asL t Ω1 = some ts) (d : VD K g.dr (NM g Ω1) H1 (.ref a) t) : ItOk K g (Ite K a) (enumT ts) H1 Ω1 (stay t ts) := fun g' hg i H' Ω' k o' st => by
  obtain ⟨ys, s, dl⟩ := stays_L hg k o' st h d
  rw [enumT_len]
  refine ⟨fun e => ⟨ys, s, by rw [dl.len]; omega⟩, fun hi => ⟨⟨ys, ys[i]'(by rw [dl.len]; exact hi), s, List.getElem?_eq_getElem _⟩, ?_⟩⟩
  rintro v H'' ⟨T, x, rfl, n, rfl, hx⟩
  obtain ⟨t, et, dt⟩ := dl.get _ (hx ys s)
  have kn : Keep g' H' Ω' (upd H' T (.tup [.int (i : Nat), x])) Ω' := .new n
  have hk : Keep g H' Ω' (upd H' T (.tup [.int (i : Nat), x])) Ω' := .new n
  exact ⟨hk, o'.new n, _, enumT_get et, T, _, rfl, .inl ⟨NM.new o' n (not_pr o' n), upd_same⟩, .cons rfl (.one (dt.keep kn)), by simp⟩
def diE (da : DA) : DI := fun ρ Ω P PX => da ρ Ω (fun us Ω1 => ∃ t ts, us = [t] ∧ asL t Ω1 = some ts ∧ (ts.length ≤ 1000000 → P (enumT ts) (stay t ts) Ω1)) PX
theorem sim_iE {ta : TA} {da : DA} (h : SimA K G E ta da) : SimI K G E (iEnum K ta) (diE da) := fun g σ H ρ Ω P PX R hG r p q qx =>
  h g σ H ρ Ω _ PX _ hG r p (fun us Ω1 vs H1 ⟨t, ts, e0, e, p1⟩ k1 o1 d1 => by
    subst e0
    obtain ⟨v, _, rfl, d, rfl⟩ := d1
    obtain ⟨a, xs, rfl, s, _, dl, z⟩ := at_L o1 d e
    exact ⟨a, xs, rfl, s, q _ _ Ω1 _ H1 (p1 z) k1 o1 (ite_ok e d)⟩) qx
/-! ### comprehensions -/
def wipeT (ρ : En) : List Nat → En
  | [] => ρ
  | v :: vs => (wipeT ρ vs).set v none
theorem Rel.wipe {g : Gh} {σ : L2.St} {H : Hp} {ρ : En} {Ω : Om} (R : Rel K g σ H ρ Ω) : ∀ vs : List Nat, Rel K g (L2.wipe σ vs) H (wipeT ρ vs) Ω
  | [] => R
  | v :: vs => (Rel.wipe R vs).none
theorem wipe_set {σ : L2.St} {x : Option V} : ∀ {vs : List Nat} {i : Nat}, i ∈ vs → L2.wipe (σ.set i x) vs = L2.wipe σ vs
  | v :: vs, i, h => by
    show (L2.wipe (σ.set i x) vs).set v none = (L2.wipe σ vs).set v none
    by_cases hv : i ∈ vs
    · rw [wipe_set hv]
    · have e : i = v := (List.mem_cons.mp h).resolve_right hv
      subst e
      have : ∀ (ws : List Nat), i ∉ ws → (L2.wipe (σ.set i x) ws).set i none = (L2.wipe σ ws).set i none := by
        intro ws
        induction ws with
        | nil => intro _; show (σ.set i x).set i none = σ.set i none; rw [List.set_set]
        | cons w ws ih =>
          intro hw
          have hne : w ≠ i := fun z => hw (z ▸ List.mem_cons_self)
          show ((L2.wipe (σ.set i x) ws).set w none).set i none = ((L2.wipe σ ws).set w none).set i none
          rw [List.set_comm _ _ hne, ih (fun z => hw (List.mem_cons_of_mem _ z)), List.set_comm _ _ hne]
      exact this vs hv
theorem wipe_idem {σ : L2.St} : ∀ {vs : List Nat}, L2.wipe (L2.wipe σ vs) vs = L2.wipe σ vs := by
  have h : ∀ (us vs : List Nat), (∀ u ∈ us, u ∈ vs) → L2.wipe (L2.wipe σ us) vs = L2.wipe σ vs := by
    intro us
    induction us with
    | nil => intro vs _; rfl
    | cons u us ih =>
      intro vs hs
      show L2.wipe ((L2.wipe σ us).set u none) vs = _
      rw [wipe_set (hs u List.mem_cons_self), ih vs fun z hz => hs z (List.mem_cons_of_mem _ hz)]
  intro vs
  exact h vs vs fun _ z => z
/-- a target that stores into slots of vs alone -/
def GIn (vs : List Nat) (tg : TG) : Prop := ∀ v σ H Q, tg v σ H Q → tg v σ H fun σ2 H2 => Q σ2 H2 ∧ L2.wipe σ2 vs = L2.wipe σ vs
def GsIn (vs : List Nat) (tg : TGs) : Prop := ∀ v σ H Q, tg v σ H Q → tg v σ H fun σ2 H2 => Q σ2 H2 ∧ L2.wipe σ2 vs = L2.wipe σ vs
theorem gin_name {vs : List Nat} {i : Nat} (h : i ∈ vs) : GIn vs (gName i) := fun v σ H Q q => ⟨q, wipe_set h⟩
theorem gin_nil {vs : List Nat} : GsIn vs gNil := fun v σ H Q ⟨e, q⟩ => ⟨e, q, rfl⟩
theorem gin_cons {vs : List Nat} {t : TG} {u : TGs} (ht : GIn vs t) (mt : ∀ v σ H (Q Q' : L2.St → Hp → Prop), (∀ a b, Q a b → Q' a b) → t v σ H Q → t v σ H Q') (hu : GsIn vs u) (mu : ∀ v σ H (Q Q' : L2.St → Hp → Prop), (∀ a b, Q a b → Q' a b) → u v σ H Q → u v σ H Q') : GsIn vs (gCons t u) := fun v σ H Q ⟨x, r, e, q⟩ =>
  ⟨x, r, e, mt _ _ _ _ _ (fun σ2 H2 ⟨q2, w2⟩ => mu _ _ _ _ _ (fun σ3 H3 ⟨q3, w3⟩ => ⟨q3, w3.trans w2⟩) (hu _ _ _ _ q2)) (ht _ _ _ _ q)⟩
theorem mono_name {i : Nat} : ∀ v σ H (Q Q' : L2.St → Hp → Prop), (∀ a b, Q a b → Q' a b) → gName i v σ H Q → gName i v σ H Q' := fun _ _ _ _ _ h q => h _ _ q
theorem mono_nil : ∀ v σ H (Q Q' : L2.St → Hp → Prop), (∀ a b, Q a b → Q' a b) → gNil v σ H Q → gNil v σ H Q' := fun _ _ _ _ _ h q => ⟨q.1, h _ _ q.2⟩
theorem mono_cons {t : TG} {u : TGs} (mt : ∀ v σ H (Q Q' : L2.St → Hp → Prop), (∀ a b, Q a b → Q' a b) → t v σ H Q → t v σ H Q') (mu : ∀ v σ H (Q Q' : L2.St → Hp → Prop), (∀ a b, Q a b → Q' a b) → u v σ H Q → u v σ H Q') :
    ∀ v σ H (Q Q' : L2.St → Hp → Prop), (∀ a b, Q a b → Q' a b) → gCons t u v σ H Q → gCons t u v σ H Q' := fun _ _ _ _ _ h ⟨x, r, e, q⟩ => ⟨x, r, e, mt _ _ _ _ _ (fun _ _ z => mu _ _ _ _ _ h z) q⟩
theorem gin_tup {vs : List Nat} {n : Nat} {t : TGs} (h : GsIn vs t) : GIn vs (gTup K n t) := fun v σ H Q ⟨a, xs, e, s, l, q⟩ => ⟨a, xs, e, s, l, h _ _ _ _ q⟩
theorem mono_tup {n : Nat} {t : TGs} (mt : ∀ v σ H (Q Q' : L2.St → Hp → Prop), (∀ a b, Q a b → Q' a b) → t v σ H Q → t v σ H Q') : ∀ v σ H (Q Q' : L2.St → Hp → Prop), (∀ a b, Q a b → Q' a b) → gTup K n t v σ H Q → gTup K n t v σ H Q' := fun _ _ _ _ _ h ⟨a, xs, e, s, l, q⟩ => ⟨a, xs, e, s, l, mt _ _ _ _ _ h q⟩
def dYes : DT := fun _ Ω P _ => P true Ω
theorem sim_yes : SimT K G E tYes dYes := fun g σ H ρ Ω P PX Q _ R p q _ => q _ Ω H p .refl R.om
def dLc (di : DI) (dg : DG) (dt : DT) (de : DE) (vs : List Nat) : DE := fun ρ Ω P PX => di ρ Ω (fun items st Ω1 => items.length ≤ 1000000 ∧ ∃ W : Nat → List Tr → Om → Prop, W 0 [] Ω1 ∧ (∀ i acc Ω', W i acc Ω' → st Ω') ∧
  (∀ i t acc Ω', items[i]? = some t → W i acc Ω' → dg t (wipeT ρ vs) Ω' (fun ρ2 Ω2 => dt ρ2 Ω2 (fun b Ω3 => if b = true then de ρ2 Ω3 (fun y Ω4 => W (i + 1) (acc ++ [y]) Ω4) nox else W (i + 1) acc Ω3) nox) nox) ∧
  ∀ acc Ω', W items.length acc Ω' → lstNew acc Ω' P) PX
theorem Keep.with {g : Gh} {D : Addr} {H H' : Hp} {Ω Ω' : Om} (k : Keep (g.with D) H Ω H' Ω') : Keep g H Ω H' Ω' := k
theorem Keep.prot {g : Gh} {D : Addr} {H H' : Hp} {Ω Ω' : Om} {o : HO} (k : Keep g H Ω H' Ω') (n : H D = none) : Keep g H Ω (upd H' D o) Ω' := fun b u h d e => ⟨by rw [upd_ne (ne_of_none e n)]; exact (k b u h d e).1, (k b u h d e).2⟩
theorem sim_lc {wi : TI} {tg : TG} {tt : TT} {te : TE} {vs : List Nat} {di : DI} {dg : DG} {dt : DT} {de : DE} (hi : SimI K G E wi di) (hg : SimG K G E tg dg) (gi : GIn vs tg) (ht : SimT K G E tt dt) (he : SimE K G E te de) : SimE K G E (tLc wi tg tt te vs) (dLc di dg dt de vs) := fun g σ H ρ Ω P PX Q hG R h q qx => by
  refine hi g σ H ρ Ω _ _ _ hG R h (fun items st Ω1 J H1 h1 k1 o1 it => ?_) qx
  obtain ⟨hz, W, w0, wst, step, fin⟩ := h1
  intro D nD
  have npr : ¬ g.pr D := not_pr o1 nD
  refine ⟨fun i m H' => m + i = items.length ∧ ∃ xs acc Ω', H' D = some (.lst xs) ∧ VDL K g.dr (NM (g.with D) Ω') H' xs acc ∧ acc.length ≤ i ∧ Keep g H1 Ω1 H' Ω' ∧ OmOk K (g.with D) H' Ω' ∧ W i acc Ω', ⟨items.length, by omega, [], [], Ω1, upd_same, rfl, Nat.le_refl _, .new nD, o1.more nD, w0⟩, ?_⟩
  rintro i m H' ⟨hm, xs, acc, Ω', eD, da, hl, k2, o2, w⟩
  obtain ⟨s1, s2⟩ := it (g.with D) (.inr ⟨D, nD, rfl⟩) i H' Ω' k2 o2 (wst _ _ _ w)
  have nΩ : ∀ {H2 : Hp} {Ω2 : Om}, OmOk K (g.with D) H2 Ω2 → Ω2 D = none := fun {H2 Ω2} o => by
    cases e : Ω2 D with
    | none => rfl
    | some c => exact absurd (.inr rfl) (o.ce D c e).1
  have nd : ∀ d, g.dr ≠ some (d, D) := o1.nodr nD
  rcases Nat.lt_or_ge i items.length with hlt | hge
  · obtain ⟨go, yl⟩ := s2 hlt
    refine .inr ⟨go, fun H2 => m - 1 + (i + 1) = items.length ∧ ∃ xs acc Ω', H2 D = some (.lst xs) ∧ VDL K g.dr (NM (g.with D) Ω') H2 xs acc ∧ acc.length ≤ i + 1 ∧ Keep g H1 Ω1 H2 Ω' ∧ OmOk K (g.with D) H2 Ω' ∧ W (i + 1) acc Ω', fun H2 z => ⟨m - 1, by omega, z⟩, fun x H'' y => ?_⟩
    obtain ⟨k3, o3, t, et, dd⟩ := yl x H'' y
    have Rw : Rel K (g.with D) (L2.wipe σ vs) H'' (wipeT ρ vs) Ω' := by
      have k13 := k2.trans k3
      refine ⟨o3, (Rel.wipe R vs).len, fun j u e => ?_⟩
      obtain ⟨v, h1, h2⟩ := ((Rel.wipe R vs).keep k1 o1).env j u e
      exact ⟨v, h1, (h2.more nD).keep (g := g.with D) k13⟩
    have h0 := hg (g.with D) (L2.wipe σ vs) H'' (wipeT ρ vs) Ω' x t _ _ (fun σ2 H2 => tt σ2 H2 fun b H3 => if b = true then te σ2 H3 fun y H4 => ∃ acc, H4 D = some (.lst acc) ∧ acc.length < sizeLine ∧ (m - 1 + (i + 1) = items.length ∧ ∃ xs acc_1 Ω', upd H4 D (.lst (acc ++ [y])) D = some (.lst xs) ∧ VDL K g.dr (NM (g.with D) Ω') (upd H4 D (.lst (acc ++ [y]))) xs acc_1 ∧ acc_1.length ≤ i + 1 ∧ Keep g H1 Ω1 (upd H4 D (.lst (acc ++ [y]))) Ω' ∧ OmOk K (g.with D) (upd H4 D (.lst (acc ++ [y]))) Ω' ∧ W (i + 1) acc_1 Ω') else (m - 1 + (i + 1) = items.length ∧ ∃ xs acc Ω', H3 D = some (.lst xs) ∧ VDL K g.dr (NM (g.with D) Ω') H3 xs acc ∧ acc.length ≤ i + 1 ∧ Keep g H1 Ω1 H3 Ω' ∧ OmOk K (g.with D) H3 Ω' ∧ W (i + 1) acc Ω')) hG Rw dd (step i t acc Ω' et w) (fun ρ2 Ω2 σ2 H2 p k4 R4 => ?_) fun _ _ _ ⟨_, _, z, _⟩ => z.elim
    · have h1 := gi _ _ _ _ h0
      refine Eq.mpr (congrArg (tg x (L2.wipe σ vs) H'') ?_) h1
      funext σ2 H2
      rw [wipe_idem]
      exact propext And.comm
    · have k5 := (k2.trans k3).trans k4
      refine ht (g.with D) σ2 H2 ρ2 Ω2 _ _ _ hG R4 p (fun b Ω3 H3 p3 k6 o6 => ?_) AfterX.nox
      have eD2 : H2 D = some (.lst xs) := (k4 D _ (nΩ o3) nd (k3 D _ (nΩ o2) nd eD).1).1
      have eD3 : H3 D = some (.lst xs) := (k6 D _ (nΩ R4.om) nd eD2).1
      have k7 := k5.trans k6
      have ka : Keep (g.with D) H' Ω' H3 Ω3 := (k3.trans k4).trans k6
      by_cases hb : b = true
      · rw [if_pos hb] at p3 ⊢
        refine he (g.with D) σ2 H3 ρ2 Ω3 _ _ _ hG (R4.keep k6 o6) p3 (fun y Ω4 v H4 p4 k8 o8 d8 => ?_) AfterX.nox
        have eD4 : H4 D = some (.lst xs) := (k8 D _ (nΩ o6) nd eD3).1
        have dac : VDL K g.dr (NM (g.with D) Ω4) H4 xs acc := (da.keep ka).keep (g := g.with D) k8
        refine ⟨xs, eD4, size_lt (by rw [da.len]; omega), by omega, xs ++ [v], acc ++ [y], Ω4, upd_same, (dac.app _ (.one d8)).prot, by rw [List.length_append]; simp; omega, (k7.trans k8).prot nD, o8.prot, p4⟩
      · rw [if_neg hb] at p3 ⊢
        exact ⟨by omega, xs, acc, Ω3, eD3, da.keep ka, by omega, k7, o6, p3⟩
  · have hi : i = items.length := by omega
    refine .inl ⟨s1 hi, ?_⟩
    have f := fin acc Ω' (hi ▸ w)
    rcases f with f | f
    · exact q _ Ω' _ H' f (k1.trans k2) o2.less ⟨D, xs, rfl, ⟨nΩ o2, nd, npr⟩, eD, da.less, by omega⟩
    · have kc : Keep g H1 Ω1 H' (put Ω' D (.lst acc)) := fun b u hb hd e => ⟨(k2 b u hb hd e).1, by rw [put_ne (ne_of_none e nD)]; exact (k2 b u hb hd e).2⟩
      exact q _ _ _ H' (f D (nΩ o2)) (k1.trans kc) (o2.toCell npr ⟨xs, eD, da, by omega⟩) rfl
/-- where each item has its value, whatever went before -/
theorem lc_map {items : List Tr} {st : Om → Prop} {Ω : Om} {ρ : En} {dg : DG} {de : DE} {vs : List Nat} {P : PT'} (f : Nat → Tr → Tr) (hz : items.length ≤ 1000000) (hst : st Ω) (hs : ∀ i t Q, items[i]? = some t → Q (f i t) Ω → dg t (wipeT ρ vs) Ω (fun ρ2 Ω2 => dYes ρ2 Ω2 (fun b Ω3 => if b = true then de ρ2 Ω3 Q nox else True) nox) nox)
    (hm : ∀ t ρ (P P' : En → Om → Prop), (∀ a b, P a b → P' a b) → dg t ρ Ω P nox → dg t ρ Ω P' nox) (h : lstNew (items.mapIdx f) Ω P) : items.length ≤ 1000000 ∧ ∃ W : Nat → List Tr → Om → Prop, W 0 [] Ω ∧ (∀ i acc Ω', W i acc Ω' → st Ω') ∧
  (∀ i t acc Ω', items[i]? = some t → W i acc Ω' → dg t (wipeT ρ vs) Ω' (fun ρ2 Ω2 => dYes ρ2 Ω2 (fun b Ω3 => if b = true then de ρ2 Ω3 (fun y Ω4 => W (i + 1) (acc ++ [y]) Ω4) nox else W (i + 1) acc Ω3) nox) nox) ∧
  ∀ acc Ω', W items.length acc Ω' → lstNew acc Ω' P := by
  refine ⟨hz, fun i acc Ω' => Ω' = Ω ∧ acc = (items.mapIdx f).take i, ⟨rfl, rfl⟩, fun i acc Ω' e => e.1 ▸ hst, ?_, ?_⟩
  · rintro i t acc Ω' ht ⟨rfl, rfl⟩
    refine hm _ _ _ _ (fun a b z => ?_) (hs i t (fun y Ω4 => Ω4 = Ω' ∧ (items.mapIdx f).take i ++ [y] = (items.mapIdx f).take (i + 1)) ht ⟨rfl, ?_⟩)
    · simpa [dYes] using z
    · rw [take_one (x := f i t) (by rw [List.getElem?_mapIdx, ht]; rfl)]
  · rintro acc Ω' ⟨rfl, rfl⟩
    rw [show items.length = (items.mapIdx f).length by rw [List.length_mapIdx], List.take_length]
    exact h
end
end LT

namespace LT
open PySem PySem.Spec PyProof.Rows L2 L2H LL
section
variable {K : PySem.W.Frag} {G : List (Value × Option Addr × XV) → Prop} {E : EK}
/-! ### a def -/
theorem dok {P : Program} {w : World} {mg : Str → Option Value} {base : Heap} {x qual : Str} {params : Arguments} {body : List Stmt} {sc : Scope} {kws : List (Str × V)} {f : Addr} {fd : FuncData} {CX : CXT} {N ps : List Str} {k : Nat} {Pd : Pw} (F : FunD K x qual params body sc [] kws f fd) (S : FnScope N ps sc)
    (h : ∀ (cdv : Value) (A : Around) (outer : List Env) (s : Shared) (H : Hp) (E : XK), Room k (A.deeper (envOfC qual sc s.heap.objs.size f cdv)) → ∃ t ds, PSs (cxOf CX P w K mg base N qual sc f cdv A outer s H E) body t ∧ SimS K (fun _ => True) (fun _ => E) t ds ∧
      ∀ ts Ω PQ PX, ts.length = ps.length → Pd ts Ω PQ PX → ds { nx := fun _ Ω' => PQ .non Ω', rt := PQ, ex := fun _ => PX } (ts.map some ++ List.replicate (N.length - ps.length) none) Ω) :
    FnOk P w K mg base CX (k + 1) f fd ps (spD K Pd ps.length) := by
  refine F.ok S (fun vs H Q E ⟨g, Ω, ts, PQ, PX, hl, d, _⟩ => by rw [d.len]; exact hl) (fun cdv A outer s H vs Q E hr hsp => ?_)
  obtain ⟨g, Ω, ts, PQ, PX, hl, d, o, p, q, qx⟩ := hsp
  obtain ⟨t, ds, h1, h2, h3⟩ := h cdv A outer s H E hr
  refine ⟨t, h1, h2 g _ H _ Ω _ _ trivial ⟨o, ?_, fun i u e => ?_⟩ (h3 ts Ω PQ PX hl p) ⟨fun ρ' Ω' σ' H' p k r => q _ Ω' _ H' p k r.om rfl, q, fun _ _ _ _ z => z.elim, fun _ _ _ _ z => z.elim, fun x ρ' Ω' σ' c dd H' p k r z => qx x Ω' c dd H' p k r.om z⟩⟩
  · show (vs.map some ++ List.replicate (N.length - vs.length) none).length = _
    rw [List.length_append, List.length_append, List.length_map, List.length_map, List.length_replicate, List.length_replicate, d.len, hl]
  · show ∃ v, (vs.map some ++ List.replicate (N.length - vs.length) none)[i]? = some (some v) ∧ _
    rw [List.getElem?_append] at e ⊢
    rw [List.length_map] at e ⊢
    rw [d.len]
    split at e
    · rename_i hlt
      rw [if_pos hlt]
      rw [List.getElem?_map] at e ⊢
      cases et : ts[i]? with
      | none => rw [et] at e; cases e
      | some t' =>
        rw [et] at e
        cases e
        obtain ⟨v, ev, dv⟩ := d.get' et
        exact ⟨v, by rw [ev]; rfl, dv⟩
    · have := List.mem_of_getElem? e
      rw [List.mem_replicate] at this
      exact absurd this.2 (by simp)
theorem dokMk {X : Cx} {body : List Stmt} {E : XK} {Q : DS → Prop} {t : TS} {ds : DS} (term : PSs X body t) (sim : SimS K (fun _ => True) (fun _ => E) t ds) (go : Q ds) : ∃ t ds, PSs X body t ∧ SimS K (fun _ => True) (fun _ => E) t ds ∧ Q ds := ⟨t, ds, term, sim, go⟩
/-! ### index, length, slices -/
theorem VDL.atI {dr : Option (Addr × Addr)} {F : Addr → Prop} {H : Hp} {xs : List V} {ts : List Tr} {i : Int} {t : Tr} (d : VDL K dr F H xs ts) (h : L2.atI ts i = some t) : ∃ v, L2.atI xs i = some v ∧ VD K dr F H v t := by
  unfold L2.atI at h ⊢
  rw [d.len]
  cases e : ixN ts.length i with
  | none => rw [e] at h; cases h
  | some j =>
    rw [e] at h
    obtain ⟨v, ev, dv⟩ := d.get' (i := j) h
    exact ⟨v, ev, dv⟩
def dIx (as : Tr → Om → Option (List Tr)) : Tr → Tr → Om → PT' → Prop := fun x y Ω P => ∃ ts i t, as x Ω = some ts ∧ y = .int i ∧ atI ts i = some t ∧ P t Ω
theorem simr_IxL : SimR K (rIxL K) (dIx asL) := fun g H Ω x y tx ty P Q o d1 d2 ⟨ts, i, t, e1, e2, e3, p⟩ q => by
  subst e2
  obtain ⟨a, xs, rfl, s, _, dl, _⟩ := at_L o d1 e1
  obtain ⟨v, ev, dv⟩ := dl.atI e3
  exact ⟨a, xs, i, v, rfl, d2, s, ev, q t Ω v H p .refl o dv⟩
theorem simr_IxT : SimR K (rIxT K) (dIx fun x _ => asT x) := fun g H Ω x y tx ty P Q o d1 d2 ⟨ts, i, t, e1, e2, e3, p⟩ q => by
  subst e2
  obtain ⟨a, xs, rfl, s, dl, _⟩ := at_T d1 e1
  obtain ⟨v, ev, dv⟩ := dl.atI e3
  exact ⟨a, xs, i, v, rfl, d2, s, ev, q t Ω v H p .refl o dv⟩
theorem simr_IxA : SimR K (rIxA K) (dIx asS) := fun g H Ω x y tx ty P Q o d1 d2 ⟨ts, i, t, e1, e2, e3, p⟩ q => by
  subst e2
  obtain ⟨a, xs, rfl, s, dl, _⟩ := at_S o d1 e1
  obtain ⟨v, ev, dv⟩ := dl.atI e3
  exact s.elim (fun s => .inl ⟨a, xs, i, v, rfl, d2, s, ev, q t Ω v H p .refl o dv⟩) fun s => .inr ⟨a, xs, i, v, rfl, d2, s, ev, q t Ω v H p .refl o dv⟩
def dIxS : Tr → Tr → Om → PT' → Prop := fun x y Ω P => ∃ z i c, x = .str z ∧ y = .int i ∧ z.length ≤ sizeLine ∧ atI z.cps.toList i = some c ∧ P (.str ⟨#[c]⟩) Ω
theorem simr_IxS : SimR K rIxS dIxS := fun g H Ω x y tx ty P Q o d1 d2 ⟨z, i, c, e1, e2, h1, h2, p⟩ q => by
  subst e1 e2
  exact ⟨z, i, c, d1, d2, h1, h2, q _ Ω _ H p .refl o rfl⟩
/-- the dict's keys and values -/
def cellD : Option Cell → Option (List Key × List Tr)
  | some (.dic ks ts) => some (ks, ts)
  | _ => none
def asD : Tr → Om → Option (List Key × List Tr)
  | .dic ks ts, _ => some (ks, ts)
  | .obj a, Ω => cellD (Ω a)
  | _, _ => none
theorem asD_obj {a : Addr} {ks : List Key} {ts : List Tr} {Ω : Om} (h : Ω a = some (.dic ks ts)) : asD (.obj a) Ω = some (ks, ts) := by show cellD (Ω a) = _; rw [h]; rfl
theorem at_D {g : Gh} {H : Hp} {Ω : Om} {v : V} {t : Tr} {ks : List Key} {ts : List Tr} (o : OmOk K g H Ω) (d : VD K g.dr (NM g Ω) H v t) (h : asD t Ω = some (ks, ts)) : ∃ a xs, v = .ref a ∧ H a = some (.dK (ks.zip xs)) ∧ VDL K g.dr (NM g Ω) H xs ts ∧ ts.length = ks.length ∧ ts.length ≤ 1000000 := by
  cases t with
  | dic ks' us =>
    cases h
    obtain ⟨a, xs, e, f, h, d, z⟩ := d
    exact ⟨a, xs, e, h, d, z⟩
  | obj a =>
    cases e : Ω a with
    | none =>
      replace h : cellD (Ω a) = some (ks, ts) := h
      rw [e] at h
      cases h
    | some c =>
      cases c with
      | dic ks' us =>
        rw [asD_obj e] at h
        cases h
        obtain ⟨xs, h1, h2, h3⟩ := (o.ce a _ e).2
        exact ⟨a, xs, d, h1, h2, h3⟩
      | _ =>
        replace h : cellD (Ω a) = some (ks, ts) := h
        rw [e] at h
        cases h
  | _ => cases h
def lenT : Tr → Om → Option Nat
  | .lst ts, _ => some ts.length
  | .tup ts, _ => some ts.length
  | .dic ks ts, _ => some ts.length
  | .obj a, Ω => match cellL (Ω a) with
    | some ts => some ts.length
    | none => (cellD (Ω a)).map fun (z : List Key × List Tr) => z.2.length
  | _, _ => none
theorem lenT_obj {a : Addr} {ts : List Tr} {Ω : Om} (h : Ω a = some (.lst ts)) : lenT (.obj a) Ω = some ts.length := by
  show (match cellL (Ω a) with | some ts => some ts.length | none => (cellD (Ω a)).map fun (z : List Key × List Tr) => z.2.length) = _
  rw [h]; rfl
theorem lenT_objD {a : Addr} {ks : List Key} {ts : List Tr} {Ω : Om} (h : Ω a = some (.dic ks ts)) : lenT (.obj a) Ω = some ts.length := by
  show (match cellL (Ω a) with | some ts => some ts.length | none => (cellD (Ω a)).map fun (z : List Key × List Tr) => z.2.length) = _
  rw [h]; rfl
/-- len of a list, a tuple, a dict -/
def rLenS (K : PySem.W.Frag) : List V → Hp → VK → Prop := fun vs H Q => (∃ p xs, vs = [.ref p] ∧ (SqL K H p xs ∨ SqT K H p xs) ∧ Q (.int xs.length) H) ∨ rLenD vs H Q
theorem call_lenS {X : Cx} : CallR X (.builtin "len") (rLenS X.K) := fun pins s σ H vs us Q I r h => by
  rcases h with ⟨p, xs, rfl, e, q⟩ | ⟨p, kvs, rfl, e, q⟩
  · exact call_len_seq pins s σ H _ us Q I r ⟨p, xs, rfl, e, q⟩
  · exact call_lenD pins s σ H _ us Q I r ⟨p, kvs, rfl, e, q⟩
def dLen : List Tr → Om → PT' → Prop := fun us Ω P => ∃ t n, us = [t] ∧ lenT t Ω = some n ∧ (n ≤ 1000000 → P (.int n) Ω)
theorem simc_len : SimC K (rLenS K) dLen := fun g H Ω vs us P Q o d ⟨t, n, e, hn, p⟩ q => by
  subst e
  obtain ⟨v, _, rfl, d, rfl⟩ := d
  have dic : ∀ (ks : List Key) (ts : List Tr), asD t Ω = some (ks, ts) → ts.length = n → rLenS K [v] H Q := fun ks ts h hn => by
    obtain ⟨a, xs, rfl, h1, h2, h3, z⟩ := at_D o d h
    refine .inr ⟨a, _, rfl, h1, ?_⟩
    rw [List.length_zip, h2.len, ← h3, Nat.min_self, hn]
    exact q _ Ω _ H (p (hn ▸ z)) .refl o rfl
  have lst : ∀ (ts : List Tr), asS t Ω = some ts → ts.length = n → rLenS K [v] H Q := fun ts h hn => by
    obtain ⟨a, xs, rfl, s, dl, z⟩ := at_S o d h
    exact .inl ⟨a, xs, rfl, s, by rw [dl.len, hn]; exact q _ Ω _ H (p (hn ▸ z)) .refl o rfl⟩
  cases t with
  | lst ts => exact lst ts rfl (by cases hn; rfl)
  | tup ts => exact lst ts rfl (by cases hn; rfl)
  | dic ks ts => exact dic ks ts rfl (by cases hn; rfl)
  | obj a =>
    cases e : Ω a with
    | none => simp only [lenT, e, cellL, cellD] at hn; cases hn
    | some c =>
      cases c with
      | lst ts =>
        rw [lenT_obj e] at hn
        exact lst ts (asS_obj e) (by cases hn; rfl)
      | dic ks ts =>
        rw [lenT_objD e] at hn
        exact dic ks ts (asD_obj e) (by cases hn; rfl)
      | ins _ _ _ _ => simp only [lenT, e, cellL, cellD] at hn; cases hn
  | _ => cases hn
/-! ### int, bool, max, min, sum, all, any -/
def rInt (xs : List V) (H : Hp) (Q : VK) : Prop := (∃ i, xs = [.int i] ∧ Q (.int i) H) ∨ ∃ k : Bool, xs = [.bl k] ∧ Q (.int (if k then 1 else 0)) H
theorem call_int {X : Cx} : CallR X (.type "int") rInt := call_int1
def dInt : List Tr → Om → PT' → Prop := fun us Ω P => ∃ t, us = [t] ∧ ((∃ i, t = .int i ∧ P (.int i) Ω) ∨ ∃ k : Bool, t = .bl k ∧ P (.int (if k then 1 else 0)) Ω)
theorem simc_int : SimC K rInt dInt := fun g H Ω vs us P Q o d ⟨t, e, h⟩ q => by
  subst e
  obtain ⟨v, _, rfl, d, rfl⟩ := d
  rcases h with ⟨i, e, p⟩ | ⟨k, e, p⟩
  · subst e
    exact .inl ⟨i, by rw [show v = _ from d], q _ Ω _ H p .refl o rfl⟩
  · subst e
    exact .inr ⟨k, by rw [show v = _ from d], q _ Ω _ H p .refl o rfl⟩
def dMx (f : Int → Int → Int) : List Tr → Om → PT' → Prop := fun us Ω P => ∃ i j, us = [.int i, .int j] ∧ P (.int (f i j)) Ω
theorem simc_mx : SimC K rMx (dMx max) := fun g H Ω vs us P Q o d ⟨i, j, e, p⟩ q => by
  subst e
  obtain ⟨v, _, rfl, d1, u, _, rfl, d2, rfl⟩ := d
  exact ⟨i, j, by rw [show v = _ from d1, show u = _ from d2], q _ Ω _ H p .refl o rfl⟩
theorem simc_mn : SimC K rMn (dMx min) := fun g H Ω vs us P Q o d ⟨i, j, e, p⟩ q => by
  subst e
  obtain ⟨v, _, rfl, d1, u, _, rfl, d2, rfl⟩ := d
  exact ⟨i, j, by rw [show v = _ from d1, show u = _ from d2], q _ Ω _ H p .refl o rfl⟩
theorem vdl_ints {dr : Option (Addr × Addr)} {F : Addr → Prop} {H : Hp} : ∀ {ns : List Int} {xs : List V}, VDL K dr F H xs (ns.map Tr.int) → xs = ns.map V.int
  | [], xs, h => h
  | n :: ns, xs, h => by
    obtain ⟨v, vs, rfl, h1, h2⟩ := h
    rw [show v = _ from h1, vdl_ints h2]
    rfl
theorem vdl_of_ints {dr : Option (Addr × Addr)} {F : Addr → Prop} {H : Hp} : ∀ {ns : List Int}, VDL K dr F H (ns.map V.int) (ns.map Tr.int)
  | [] => rfl
  | n :: ns => ⟨_, _, rfl, rfl, vdl_of_ints⟩
theorem vdl_bools {dr : Option (Addr × Addr)} {F : Addr → Prop} {H : Hp} : ∀ {ns : List Bool} {xs : List V}, VDL K dr F H xs (ns.map Tr.bl) → xs = ns.map V.bl
  | [], xs, h => h
  | n :: ns, xs, h => by
    obtain ⟨v, vs, rfl, h1, h2⟩ := h
    rw [show v = _ from h1, vdl_bools h2]
    rfl
def dSum : List Tr → Om → PT' → Prop := fun us Ω P => ∃ (t : Tr) (ns : List Int), us = [t] ∧ asL t Ω = some (ns.map Tr.int) ∧ P (.int ns.sum) Ω
theorem simc_sum : SimC K (rSum K) dSum := fun g H Ω vs us P Q o d ⟨t, ns, e, h, p⟩ q => by
  subst e
  obtain ⟨v, _, rfl, d, rfl⟩ := d
  obtain ⟨a, xs, rfl, s, _, dl, _⟩ := at_L o d h
  rw [vdl_ints dl] at s
  exact ⟨a, ns, rfl, s, q _ Ω _ H p .refl o rfl⟩
def dMaxL : List Tr → Om → PT' → Prop := fun us Ω P => ∃ (t : Tr) (ns : List Int), us = [t] ∧ asL t Ω = some (ns.map Tr.int) ∧ 0 < ns.length ∧ ∀ m, m ∈ ns → (∀ y, y ∈ ns → y ≤ m) → P (.int m) Ω
theorem simc_maxL : SimC K (rMax K) dMaxL := fun g H Ω vs us P Q o d ⟨t, ns, e, h, h0, p⟩ q => by
  subst e
  obtain ⟨v, _, rfl, d, rfl⟩ := d
  obtain ⟨a, xs, rfl, s, _, dl, _⟩ := at_L o d h
  rw [vdl_ints dl] at s
  exact ⟨a, ns, rfl, s, h0, fun m h1 h2 => q _ Ω _ H (p m h1 h2) .refl o rfl⟩
def dMinL : List Tr → Om → PT' → Prop := fun us Ω P => ∃ (t : Tr) (ns : List Int), us = [t] ∧ asL t Ω = some (ns.map Tr.int) ∧ 0 < ns.length ∧ ∀ m, m ∈ ns → (∀ y, y ∈ ns → m ≤ y) → P (.int m) Ω
theorem simc_minL : SimC K (rMin K) dMinL := fun g H Ω vs us P Q o d ⟨t, ns, e, h, h0, p⟩ q => by
  subst e
  obtain ⟨v, _, rfl, d, rfl⟩ := d
  obtain ⟨a, xs, rfl, s, _, dl, _⟩ := at_L o d h
  rw [vdl_ints dl] at s
  exact ⟨a, ns, rfl, s, h0, fun m h1 h2 => q _ Ω _ H (p m h1 h2) .refl o rfl⟩
def dAll (f : List Bool → Bool) : List Tr → Om → PT' → Prop := fun us Ω P => ∃ (t : Tr) (bs : List Bool), us = [t] ∧ asL t Ω = some (bs.map Tr.bl) ∧ P (.bl (f bs)) Ω
theorem simc_all : SimC K (rAll K) (dAll fun bs => bs.all id) := fun g H Ω vs us P Q o d ⟨t, ns, e, h, p⟩ q => by
  subst e
  obtain ⟨v, _, rfl, d, rfl⟩ := d
  obtain ⟨a, xs, rfl, s, _, dl, _⟩ := at_L o d h
  rw [vdl_bools dl] at s
  exact ⟨a, ns, rfl, s, q _ Ω _ H p .refl o rfl⟩
theorem simc_any : SimC K (rAny K) (dAll fun bs => bs.any id) := fun g H Ω vs us P Q o d ⟨t, ns, e, h, p⟩ q => by
  subst e
  obtain ⟨v, _, rfl, d, rfl⟩ := d
  obtain ⟨a, xs, rfl, s, _, dl, _⟩ := at_L o d h
  rw [vdl_bools dl] at s
  exact ⟨a, ns, rfl, s, q _ Ω _ H p .refl o rfl⟩
/-! ### list(x), tuple(x) -/
def rList (K : PySem.W.Frag) (xs : List V) (H : Hp) (Q : VK) : Prop := (∃ p ys, xs = [.ref p] ∧ (SqL K H p ys ∨ SqT K H p ys) ∧ ∀ l, H l = none → Q (.ref l) (upd H l (.lst ys))) ∨ rLstD xs H Q
theorem call_list {X : Cx} (hc : X.calm = true) : CallR X (.type "list") (rList X.K) := fun pins s σ H xs us Q I r h => by
  rcases h with h | h
  · exact call_list_of pins s σ H xs us Q I r h
  · exact call_lstD hc pins s σ H xs us Q I r h
def kT : Key → Tr
  | .inl i => .int i
  | .inr x => .str x
def dList : List Tr → Om → PT' → Prop := fun us Ω P => ∃ t, us = [t] ∧ ((∃ ts, asS t Ω = some ts ∧ (ts.length ≤ 1000000 → lstNew ts Ω P)) ∨ ∃ ks ts, asD t Ω = some (ks, ts) ∧ (ks.length ≤ 1000000 → lstNew (ks.map kT) Ω P))
theorem vdl_keys {dr : Option (Addr × Addr)} {F : Addr → Prop} {H : Hp} : ∀ {ks : List Key}, VDL K dr F H (ks.map kV) (ks.map kT)
  | [] => rfl
  | .inl i :: ks => ⟨_, _, rfl, rfl, vdl_keys⟩
  | .inr i :: ks => ⟨_, _, rfl, rfl, vdl_keys⟩
theorem simc_list : SimC K (rList K) dList := fun g H Ω vs us P Q o d ⟨t, e, h⟩ q => by
  subst e
  obtain ⟨v, _, rfl, d, rfl⟩ := d
  rcases h with ⟨ts, h, p⟩ | ⟨ks, ts, h, p⟩
  · obtain ⟨a, xs, rfl, s, dl, hz⟩ := at_S o d h
    exact .inl ⟨a, xs, rfl, s, fun l n => new_lst o dl hz (p hz) q n⟩
  · obtain ⟨a, xs, rfl, s, dl, hl, hz⟩ := at_D o d h
    rw [hl] at hz
    refine .inr ⟨a, _, rfl, s, fun l n => ?_⟩
    have e : (ks.zip xs).map (fun kv => kV kv.1) = ks.map kV := by
      have e2 : (ks.zip xs).map (fun kv => kV kv.1) = ((ks.zip xs).map Prod.fst).map kV := by rw [List.map_map]; rfl
      rw [e2, List.map_fst_zip (by rw [dl.len, hl]; exact Nat.le_refl _)]
    rw [e]
    exact new_lst o vdl_keys (by rw [List.length_map]; exact hz) (p hz) q n
def rTuple (K : PySem.W.Frag) (xs : List V) (H : Hp) (Q : VK) : Prop := ∃ p ys, xs = [.ref p] ∧ ((SqL K H p ys ∧ ∀ l, H l = none → Q (.ref l) (upd H l (.tup ys))) ∨ (SqT K H p ys ∧ Q (.ref p) H))
theorem call_tuple {X : Cx} : CallR X (.type "tuple") (rTuple X.K) := call_tuple_of
def dTuple : List Tr → Om → PT' → Prop := fun us Ω P => ∃ t ts, us = [t] ∧ asS t Ω = some ts ∧ (ts.length ≤ 1000000 → P (.tup ts) Ω)
theorem simc_tuple : SimC K (rTuple K) dTuple := fun g H Ω vs us P Q o d ⟨t, ts, e, h, p⟩ q => by
  subst e
  obtain ⟨v, _, rfl, d, rfl⟩ := d
  have lst : ∀ (h : asL t Ω = some ts), rTuple K [v] H Q := fun h => by
    obtain ⟨a, xs, rfl, s, _, dl, hz⟩ := at_L o d h
    exact ⟨a, xs, rfl, .inl ⟨s, fun l n => new_tup o dl hz (p hz) q n⟩⟩
  cases t with
  | tup us =>
    cases h
    obtain ⟨a, xs, rfl, s, dl, hz⟩ := sqt d
    exact ⟨a, xs, rfl, .inr ⟨s, q _ Ω _ H (p hz) .refl o d⟩⟩
  | lst us => exact lst h
  | obj b => exact lst h
  | _ => cases h
/-! ### isinstance -/
def kindT : Tr → Option String
  | .non => some "NoneType"
  | .bl _ => some "bool"
  | .int _ => some "int"
  | .str _ => some "str"
  | .lst _ => some "list"
  | .tup _ => some "tuple"
  | .dic _ _ => some "dict"
  | _ => none
theorem tyx_T {H : Hp} {a : Addr} {xs : List V} (h : SqT K H a xs) : TyX K H (.ref a) (.type "tuple") := by
  rcases h with (h | ⟨o, h⟩) | ⟨o, its, n, h1, h2, _⟩
  · exact .base (.tup h)
  · exact .fTuple h
  · exact .kTuple h1 h2
theorem tyx_of {dr : Option (Addr × Addr)} {F : Addr → Prop} {H : Hp} {v : V} {t : Tr} {n : String} (d : VD K dr F H v t) (h : kindT t = some n) : TyX K H v (.type n) := by
  cases t with
  | non => cases h; rw [show v = _ from d]; exact .base .non
  | bl b => cases h; rw [show v = _ from d]; exact .base (.bl b)
  | int b => cases h; rw [show v = _ from d]; exact .base (.int b)
  | str b => cases h; rw [show v = _ from d]; exact .base (.str b)
  | lst ts =>
    cases h
    obtain ⟨a, xs, rfl, f, e, _⟩ := d
    exact .base (.lst e)
  | tup ts =>
    cases h
    obtain ⟨a, xs, rfl, e, _⟩ := d
    rcases e with e | e
    · exact .base (.tup e.2)
    · exact tyx_T (e.1 H)
  | dic ks ts =>
    cases h
    obtain ⟨a, xs, rfl, f, e, _⟩ := d
    exact .base (.dK e)
  | _ => cases h
def tyNames : List String := ["int", "bool", "str", "list", "tuple", "dict"]
def isK (k n : String) : Bool := (kitB k n).getD false
def isT (t : Tr) (n : String) : Bool := match kindT t with
  | some k => isK k n
  | none => false
theorem kit_known : ∀ k ∈ ["NoneType", "bool", "int", "str", "list", "tuple", "dict"], ∀ n ∈ tyNames, kitB k n = some (isK k n) := by decide +kernel
theorem kind_mem {t : Tr} {k : String} (h : kindT t = some k) : k ∈ ["NoneType", "bool", "int", "str", "list", "tuple", "dict"] := by
  cases t <;> cases h <;> simp
def dIsi : List Tr → Om → PT' → Prop := fun us Ω P => ∃ x n, us = [x, .ty n] ∧ (kindT x).isSome = true ∧ n ∈ tyNames ∧ P (.bl (isT x n)) Ω
theorem simc_isi : SimC K (rIsi K) dIsi := fun g H Ω vs us P Q o d ⟨x, n, e, hk, hn, p⟩ q => by
  subst e
  obtain ⟨v, _, rfl, d1, u, _, rfl, d2, rfl⟩ := d
  obtain rfl : u = .ty n := d2
  obtain ⟨k, ek⟩ := Option.isSome_iff_exists.mp hk
  refine ⟨v, .ty n, _, _, isT x n, rfl, .ty n, tyx_of d1 ek, ?_, q _ Ω _ H p .refl o rfl⟩
  have := kit_known k (kind_mem ek) n hn
  unfold isT
  rw [ek]
  exact kit_ty this
theorem isT_int {t : Tr} : isT t "int" = (match t with | .int _ => true | .bl _ => true | _ => false) := by
  cases t <;> simp only [isT, kindT] <;> decide +kernel
theorem isT_bool {t : Tr} : isT t "bool" = (match t with | .bl _ => true | _ => false) := by
  cases t <;> simp only [isT, kindT] <;> decide +kernel
theorem isT_str {t : Tr} : isT t "str" = (match t with | .str _ => true | _ => false) := by
  cases t <;> simp only [isT, kindT] <;> decide +kernel
theorem isT_list {t : Tr} : isT t "list" = (match t with | .lst _ => true | _ => false) := by
  cases t <;> simp only [isT, kindT] <;> decide +kernel
theorem isT_tuple {t : Tr} : isT t "tuple" = (match t with | .tup _ => true | _ => false) := by
  cases t <;> simp only [isT, kindT] <;> decide +kernel
theorem isT_dict {t : Tr} : isT t "dict" = (match t with | .dic _ _ => true | _ => false) := by
  cases t <;> simp only [isT, kindT] <;> decide +kernel
end
end LT

namespace LT
open PySem PySem.Spec PyProof.Rows L2 L2H LL
section
variable {K : PySem.W.Frag} {G : List (Value × Option Addr × XV) → Prop} {E : EK}
/-! ### slices -/
def doNone : DO := fun _ Ω P _ => P none Ω
def doSome (de : DE) : DO := fun ρ Ω P PX => de ρ Ω (fun x Ω1 => ∃ i, x = .int i ∧ P (some i) Ω1) PX
theorem sim_oNone : SimO K G E tNoPart doNone := fun g σ H ρ Ω P PX Q _ R p q _ => q none Ω H p .refl R.om
theorem sim_oSome {te : TE} {de : DE} (h : SimE K G E te de) : SimO K G E (tPart te) (doSome de) := fun g σ H ρ Ω P PX Q hG R p q qx =>
  h g σ H ρ Ω _ PX _ hG R p (fun x Ω1 v H1 ⟨i, e, p1⟩ k1 o1 d1 => by
    subst e
    exact ⟨i, d1, q (some i) Ω1 H1 p1 k1 o1⟩) qx
def cutT (ts : List Tr) (lo hi : Option Int) : List Tr := (ts.drop (HT.sIx ts.length 0 lo)).take (HT.sIx ts.length ts.length hi - HT.sIx ts.length 0 lo)
theorem VDL.cut {dr : Option (Addr × Addr)} {F : Addr → Prop} {H : Hp} {xs : List V} {ts : List Tr} (d : VDL K dr F H xs ts) (lo hi : Option Int) : VDL K dr F H (cutV xs lo hi) (cutT ts lo hi) := by
  unfold cutV cutT
  rw [d.len]
  exact d.sub _ _
theorem cutT_le (ts : List Tr) (lo hi : Option Int) : (cutT ts lo hi).length ≤ ts.length := by
  unfold cutT
  rw [List.length_take, List.length_drop]
  omega
def SimSl (K : PySem.W.Frag) (r : V → Option Int → Option Int → Hp → VK → Prop) (d : Tr → Option Int → Option Int → Om → PT' → Prop) : Prop := ∀ g H Ω x tx lo hi P Q, OmOk K g H Ω → VD K g.dr (NM g Ω) H x tx → d tx lo hi Ω P → After K g H Ω P Q → r x lo hi H Q
def dSl (d : Tr → Option Int → Option Int → Om → PT' → Prop) (de : DE) (dl dh : DO) : DE := fun ρ Ω P PX => de ρ Ω (fun x Ω1 => dl ρ Ω1 (fun l Ω2 => dh ρ Ω2 (fun u Ω3 => d x l u Ω3 P) PX) PX) PX
theorem sim_sl {r : V → Option Int → Option Int → Hp → VK → Prop} {d : Tr → Option Int → Option Int → Om → PT' → Prop} {te : TE} {tl th : TO} {de : DE} {dl dh : DO} (hr : SimSl K r d) (he : SimE K G E te de) (hl : SimO K G E tl dl) (hh : SimO K G E th dh) : SimE K G E (tSl r te tl th) (dSl d de dl dh) := fun g σ H ρ Ω P PX Q hG R p q qx =>
  he g σ H ρ Ω _ PX _ hG R p (fun x Ω1 v H1 p1 k1 o1 d1 => hl g σ H1 ρ Ω1 _ PX _ hG (R.keep k1 o1) p1 (fun l Ω2 H2 p2 k2 o2 => hh g σ H2 ρ Ω2 _ PX _ hG (R.keep (k1.trans k2) o2) p2 (fun u Ω3 H3 p3 k3 o3 => hr g H3 Ω3 v x l u P Q o3 (d1.keep (k2.trans k3)) p3 (q.at ((k1.trans k2).trans k3))) (qx.at (k1.trans k2))) (qx.at k1)) qx
def dSlL : Tr → Option Int → Option Int → Om → PT' → Prop := fun x lo hi Ω P => ∃ ts, asL x Ω = some ts ∧ (ts.length ≤ 1000000 → lstNew (cutT ts lo hi) Ω P)
theorem simsl_L : SimSl K (rSlL K) dSlL := fun g H Ω x tx lo hi P Q o d ⟨ts, e, p⟩ q => by
  obtain ⟨a, xs, rfl, s, _, dl, z⟩ := at_L o d e
  exact ⟨a, xs, rfl, s, fun l n => new_lst o (dl.cut lo hi) (Nat.le_trans (cutT_le ts lo hi) z) (p z) q n⟩
def rSlG (K : PySem.W.Frag) : V → Option Int → Option Int → Hp → VK → Prop := fun x lo hi H Q => rSlL K x lo hi H Q ∨ rSlA K x lo hi H Q ∨ rSlS x lo hi H Q
theorem sl_G {X : Cx} : SlR X (rSlG X.K) := sl_list.or (sl_tupA.or sl_str)
def dSlG : Tr → Option Int → Option Int → Om → PT' → Prop
  | .tup ts, lo, hi, Ω, P => P (.tup (cutT ts lo hi)) Ω
  | .str z, lo, hi, Ω, P => z.length ≤ sizeLine ∧ P (.str (cutS z lo hi)) Ω
  | x, lo, hi, Ω, P => ∃ ts, asL x Ω = some ts ∧ (ts.length ≤ 1000000 → lstNew (cutT ts lo hi) Ω P)
theorem cut_whole {ts : List Tr} {lo hi : Option Int} (h : HT.sIx ts.length 0 lo = 0 ∧ HT.sIx ts.length ts.length hi = ts.length) : cutT ts lo hi = ts := by
  unfold cutT
  rw [h.1, h.2]
  simp
theorem simsl_G : SimSl K (rSlG K) dSlG := fun g H Ω x tx lo hi P Q o d p q => by
  have lst : (∃ ts, asL tx Ω = some ts ∧ (ts.length ≤ 1000000 → lstNew (cutT ts lo hi) Ω P)) → rSlG K x lo hi H Q := fun p => .inl (simsl_L g H Ω x tx lo hi P Q o d p q)
  cases tx with
  | tup ts =>
    obtain ⟨a, xs, rfl, s, dl, z⟩ := sqt d
    refine .inr (.inl ⟨a, xs, rfl, s, fun h => ?_, fun _ l n => ?_⟩)
    · rw [dl.len] at h
      replace p : P (.tup (cutT ts lo hi)) Ω := p
      rw [cut_whole h] at p
      exact q _ Ω _ H p .refl o d
    · exact new_tup o (dl.cut lo hi) (Nat.le_trans (cutT_le ts lo hi) z) p q n
  | str y => exact .inr (.inr ⟨y, d, p.1, q _ Ω _ H p.2 .refl o rfl⟩)
  | _ => exact lst p
/-! ### x + y -/
def rAddS : R2 := fun x y H Q => ∃ i j, x = .str i ∧ y = .str j ∧ i.length + j.length ≤ sizeLine ∧ Q (.str (i ++ j)) H
def rAddG (K : PySem.W.Frag) : R2 := fun x y H Q => rI0 (fun i j => V.int (i + j)) x y H Q ∨ rCat x y H Q ∨ rCatA K x y H Q ∨ rAddS x y H Q
theorem op_addG {X : Cx} : OpR X (binaryOp .Add) (rAddG X.K) := op_add.or (op_cat.or (op_catA.or op_add_str))
def dAddG : Tr → Tr → Om → PT' → Prop
  | .int i, .int j, Ω, P => P (.int (i + j)) Ω
  | .tup xs, .tup ys, Ω, P => xs.length + ys.length ≤ 1000000 ∧ P (.tup (xs ++ ys)) Ω
  | .str a, .str b, Ω, P => a.length + b.length ≤ sizeLine ∧ P (.str (a ++ b)) Ω
  | x, y, Ω, P => ∃ xs ys, asL x Ω = some xs ∧ asL y Ω = some ys ∧ xs.length + ys.length ≤ 1000000 ∧ lstNew (xs ++ ys) Ω P
theorem simr_addG : SimR K (rAddG K) dAddG := fun g H Ω x y tx ty P Q o d1 d2 p q => by
  have lst : (∃ xs ys, asL tx Ω = some xs ∧ asL ty Ω = some ys ∧ xs.length + ys.length ≤ 1000000 ∧ lstNew (xs ++ ys) Ω P) → rAddG K x y H Q := fun ⟨xs, ys, e1, e2, hz, p⟩ => by
    obtain ⟨a, us, rfl, _, h1, l1, _⟩ := at_L o d1 e1
    obtain ⟨b, ws, rfl, _, h2, l2, _⟩ := at_L o d2 e2
    exact .inr (.inl ⟨a, b, us, ws, rfl, rfl, h1, h2, by rw [l1.len, l2.len]; exact size_ok hz, fun l n => new_lst o (l1.app _ l2) (by rw [List.length_append]; exact hz) p q n⟩)
  cases tx with
  | int i =>
    cases ty with
    | int j => exact .inl ⟨i, j, d1, d2, q _ Ω _ H p .refl o rfl⟩
    | _ => exact lst p
  | tup xs =>
    cases ty with
    | tup ys =>
      obtain ⟨hz, p⟩ := p
      have d1' := d1
      have d2' := d2
      obtain ⟨a, us, rfl, s1, l1, _⟩ := sqt d1
      obtain ⟨b, ws, rfl, s2, l2, _⟩ := sqt d2
      refine .inr (.inr (.inl ⟨a, b, us, ws, rfl, rfl, s1, s2, by rw [l1.len, l2.len]; exact size_ok hz, fun e => ?_, fun _ e => ?_, fun _ _ l n => new_tup o (l1.app _ l2) (by rw [List.length_append]; exact hz) p q n⟩))
      · subst e
        rw [l1.nil_inv] at p
        exact q _ Ω _ H p .refl o d2'
      · subst e
        rw [l2.nil_inv, List.append_nil] at p
        exact q _ Ω _ H p .refl o d1'
    | _ => exact lst p
  | str a =>
    cases ty with
    | str b => exact .inr (.inr (.inr ⟨a, b, d1, d2, p.1, q _ Ω _ H p.2 .refl o rfl⟩))
    | _ => exact lst p
  | lst a => cases ty <;> exact lst p
  | obj a => cases ty <;> exact lst p
  | _ => exact lst p
/-! ### methods of cells, items of cells -/
def dApp (de : DE) (da : DA) : DE := fun ρ Ω P PX => de ρ Ω (fun x Ω1 => (asL x Ω1).isSome = true ∧ da ρ Ω1 (fun ts Ω2 => ∃ a us y, x = .obj a ∧ ts = [y] ∧ Ω2 a = some (.lst us) ∧ us.length + 1 ≤ 1000000 ∧ P .non (put Ω2 a (.lst (us ++ [y])))) PX) PX
theorem sim_append {te : TE} {ta : TA} {de : DE} {da : DA} (he : SimE K G E te de) (ha : SimA K G E ta da) : SimE K G E (tBM K "list" rAppend te ta) (dApp de da) := fun g σ H ρ Ω P PX Q hG R p q qx =>
  he g σ H ρ Ω _ PX _ hG R p (fun x Ω1 v H1 ⟨hs, p1⟩ k1 o1 d1 => by
    obtain ⟨us, e1⟩ := Option.isSome_iff_exists.mp hs
    obtain ⟨a, xs, e2, s, _⟩ := at_L o1 d1 e1
    refine ⟨by rw [e2]; exact .inl ⟨rfl, xs, s⟩, ha g σ H1 ρ Ω1 _ PX _ hG (R.keep k1 o1) p1 (fun ts Ω2 vs H2 ⟨b, us, y, e, ey, h1, hz, p2⟩ k2 o2 d2 => ?_) (qx.at k1)⟩
    subst e ey
    obtain ⟨w, _, rfl, dw, rfl⟩ := d2
    obtain ⟨_, ys, e3, _, h2, l2, z2⟩ := at_L o2 (show VD K g.dr (NM g Ω2) H2 (.ref b) (.obj b) from rfl) (asL_obj h1)
    cases e3
    rw [show v = .ref b from d1]
    refine ⟨b, ys, w, rfl, rfl, h2, by rw [l2.len]; exact size_lt z2, q _ _ _ _ p2 ((k1.trans k2).trans (.write h1)) (o2.write h1 ⟨ys ++ [w], upd_same, ?_, by rw [List.length_append]; exact hz⟩) rfl⟩
    have kw : Keep g H2 Ω2 (upd H2 b (.lst (ys ++ [w]))) (put Ω2 b (.lst (us ++ [y]))) := .write h1
    exact (l2.keep kw).app _ (.one (dw.keep kw))) qx
def dSet (v : Tr) (o i : Tr) (Ω : Om) (P : Om → Prop) : Prop := ∃ a us k j, o = .obj a ∧ i = .int k ∧ Ω a = some (.lst us) ∧ ixN us.length k = some j ∧ P (put Ω a (.lst (us.set j v)))
def dSub (d1 d2 : DE) : DG := fun v ρ Ω P PX => d1 ρ Ω (fun o Ω1 => d2 ρ Ω1 (fun i Ω2 => dSet v o i Ω2 (P ρ)) PX) PX
theorem sim_gSub {t1 t2 : TE} {d1 d2 : DE} (h1 : SimE K G E t1 d1) (h2 : SimE K G E t2 d2) : SimG K G E (gSub t1 t2 rSetL) (dSub d1 d2) := fun g σ H ρ Ω v t P PX Q hG R dv p q qx =>
  h1 g σ H ρ Ω _ PX _ hG R p (fun o Ω1 ov H1 p1 k1 o1 do1 => h2 g σ H1 ρ Ω1 _ PX _ hG (R.keep k1 o1) p1 (fun i Ω2 iv H2 ⟨a, us, k, j, e1, e2, hc, hx, p2⟩ k2 o2 di => by
    subst e1 e2
    obtain ⟨_, ys, e3, _, hh, l2, z2⟩ := at_L o2 (show VD K g.dr (NM g Ω2) H2 (.ref a) (.obj a) from rfl) (asL_obj hc)
    cases e3
    have kw : Keep g H2 Ω2 (upd H2 a (.lst (ys.set j v))) (put Ω2 a (.lst (us.set j t))) := .write hc
    have kk := (k1.trans k2).trans kw
    have o3 : OmOk K g (upd H2 a (.lst (ys.set j v))) (put Ω2 a (.lst (us.set j t))) := o2.write hc ⟨_, upd_same, (l2.keep kw).set (dv.keep kk), by rw [List.length_set]; exact z2⟩
    exact ⟨a, ys, k, j, show ov = .ref a from do1, show iv = .int k from di, hh, by rw [l2.len]; exact hx, q ρ _ σ _ p2 kk (R.keep kk o3)⟩) (fun x Ω' c d H' hp k o r => qx c d H' ⟨x, Ω', hp, k1.trans k, o, r⟩)) fun x Ω' c d H' hp k o r => qx c d H' ⟨x, Ω', hp, k, o, r⟩
/-- a cell becomes data (nothing runs) -/
theorem freeze {g : Gh} {σ : L2.St} {H : Hp} {ρ : En} {Ω : Om} {i : Nat} {a : Addr} {ts : List Tr} (R : Rel K g σ H ρ Ω) (h1 : ρ[i]? = some (some (.obj a))) (h2 : Ω a = some (.lst ts)) : Rel K g σ H (ρ.set i (some (.lst ts))) (cut Ω a) := by
  have R1 := R.keep Keep.freeze (R.om.freeze (a := a))
  obtain ⟨v, ev, dv⟩ := R.env i _ h1
  obtain ⟨xs, h3, h4, h5⟩ := (R.om.ce a _ h2).2
  have hd : ∀ d, g.dr ≠ some (d, a) := fun d e => by
    obtain ⟨_, _, _, _, _, _, _, _, h7, _⟩ := R.om.dr d a e
    rw [h2] at h7
    cases h7
  have hn : NM g (cut Ω a) a := ⟨cut_same, hd, (R.om.ce a _ h2).1⟩
  have R2 := R1.set (v := v) (t := .lst ts) (i := i) ⟨a, xs, dv, hn, h3, h4.keep Keep.freeze, h5⟩
  have es : σ.set i (some v) = σ := by
    apply List.ext_getElem?
    intro j
    by_cases hj : i = j
    · subst hj
      rw [List.getElem?_set_self ((List.getElem?_eq_some_iff.mp ev).1), ev]
    · rw [List.getElem?_set_ne hj]
  rw [es] at R2
  exact R2
/-- what follows may take the cell of slot i as data -/
def dThaw (i : Nat) (d : DS) : DS := fun D ρ Ω => d D ρ Ω ∨ ∃ a ts, ρ[i]? = some (some (.obj a)) ∧ Ω a = some (.lst ts) ∧ d D (ρ.set i (some (.lst ts))) (cut Ω a)
theorem sim_thaw {i : Nat} {ts : TS} {ds : DS} (h : SimS K G E ts ds) : SimS K G E ts (dThaw i ds) := fun g σ H ρ Ω D DD hG R p e => by
  rcases p with p | ⟨a, us, h1, h2, p⟩
  · exact h g σ H ρ Ω D DD hG R p e
  · exact h g σ H _ _ D DD hG (freeze R h1 h2) p (e.at Keep.freeze)
/-- return: the cell of slot i may become data first -/
def dRetT (i : Nat) (de : DE) : DS := dThaw i (dRet de)
theorem sim_retThaw {i : Nat} {te : TE} {de : DE} (h : SimE K G E te de) : SimS K G E (tRet te) (dRetT i de) := sim_thaw (sim_ret h)
end
end LT

namespace LT
open PySem PySem.Spec PyProof.Rows L2 L2H LL
section
variable {K : PySem.W.Frag} {G : List (Value × Option Addr × XV) → Prop} {E : EK}
/-! ### == of data -/
mutual
def toP : Tr → PyData
  | .bl b => .bool b
  | .int i => .int i
  | .str x => .str x
  | .lst ts => .list (toPs ts)
  | .tup ts => .tuple (toPs ts)
  | _ => .none
def toPs : List Tr → List PyData
  | [] => []
  | t :: ts => toP t :: toPs ts
end
mutual
/-- no dict, no cell in it -/
def plainT : Tr → Bool
  | .dic _ _ => false
  | .obj _ => false
  | .drw => false
  | .ty _ => false
  | .lst ts => plainTs ts
  | .tup ts => plainTs ts
  | _ => true
def plainTs : List Tr → Bool
  | [] => true
  | t :: ts => plainT t && plainTs ts
end
mutual
theorem dp_of {dr : Option (Addr × Addr)} {F : Addr → Prop} {H : Hp} : ∀ {v : V} (t : Tr), VD K dr F H v t → plainT t = true → Dp K H v (toP t)
  | _, .non, h, _ => by rw [show _ = V.non from h]; exact .non
  | _, .bl b, h, _ => by rw [show _ = V.bl b from h]; exact .bl b
  | _, .int b, h, _ => by rw [show _ = V.int b from h]; exact .int b
  | _, .str b, h, _ => by rw [show _ = V.str b from h]; exact .str b
  | _, .lst ts, h, p => by
    obtain ⟨a, xs, rfl, s, d, _⟩ := sql h
    exact .lst s (dps_of ts d p)
  | _, .tup ts, h, p => by
    obtain ⟨a, xs, rfl, s, d, _⟩ := sqt h
    exact .tup s (dps_of ts d p)
  | _, .dic _ _, _, p => by cases p
  | _, .obj _, _, p => by cases p
  | _, .drw, _, p => by cases p
  | _, .ty _, _, p => by cases p
theorem dps_of {dr : Option (Addr × Addr)} {F : Addr → Prop} {H : Hp} : ∀ {vs : List V} (ts : List Tr), VDL K dr F H vs ts → plainTs ts = true → DpAll K H vs (toPs ts)
  | _, [], h, _ => by rw [show _ = [] from h]; exact .nil
  | _, t :: ts, h, p => by
    obtain ⟨v, vs, rfl, h1, h2⟩ := h
    have p' := Bool.and_eq_true_iff.mp (show (plainT t && plainTs ts) = true from p)
    exact .cons (dp_of t h1 p'.1) (dps_of ts h2 p'.2)
end
def eqT (x y : Tr) : Bool := PyData.eqv (toP x) (toP y)
def okEq (x : Tr) : Bool := plainT x && SeqAt.shaped (toP x)
def dEqD (f : Bool → Bool) : Tr → Tr → Om → PT' → Prop := fun x y Ω P => okEq x = true ∧ okEq y = true ∧ P (.bl (f (eqT x y))) Ω
theorem simr_EqD : SimR K (rEqD K) (dEqD fun b => b) := fun g H Ω x y tx ty P Q o d1 d2 ⟨h1, h2, p⟩ q =>
  have a := Bool.and_eq_true_iff.mp h1
  have b := Bool.and_eq_true_iff.mp h2
  ⟨_, _, dp_of tx d1 a.1, dp_of ty d2 b.1, a.2, b.2, q _ Ω _ H p .refl o rfl⟩
theorem simr_NeD : SimR K (rNeD K) (dEqD fun b => !b) := fun g H Ω x y tx ty P Q o d1 d2 ⟨h1, h2, p⟩ q =>
  have a := Bool.and_eq_true_iff.mp h1
  have b := Bool.and_eq_true_iff.mp h2
  ⟨_, _, dp_of tx d1 a.1, dp_of ty d2 b.1, a.2, b.2, q _ Ω _ H p .refl o rfl⟩
/-! ### x is None -/
theorem sim_isN {te : TE} {de : DE} (h : SimE K G E te de) : SimE K G E (tIsN te) (fun ρ Ω P PX => de ρ Ω (fun x Ω1 => P (.bl (isNonT x)) Ω1) PX) := fun g σ H ρ Ω P PX Q hG R p q qx =>
  h g σ H ρ Ω _ PX _ hG R p (fun x Ω1 v H1 p1 k1 o1 d1 => by rw [vd_non d1]; exact q _ Ω1 _ H1 p1 k1 o1 rfl) qx
/-! ### dicts -/
def keyT : Tr → Option Key
  | .int i => some (.inl i)
  | .str x => some (.inr x)
  | _ => none
def valT (ks : List Key) (ts : List Tr) (k : Key) : Option Tr := ((ks.zip ts).find? fun kv => decide (kv.1 = k)).map (·.2)
theorem valT_nil {ts : List Tr} {k : Key} : valT [] ts k = none := rfl
theorem valT_cons {a : Key} {ks : List Key} {t : Tr} {ts : List Tr} {k : Key} : valT (a :: ks) (t :: ts) k = if a = k then some t else valT ks ts k := by
  unfold valT
  rw [List.zip_cons_cons, List.find?_cons]
  by_cases h : a = k
  · simp [h]
  · simp [h]
theorem vd_key {dr : Option (Addr × Addr)} {F : Addr → Prop} {H : Hp} {v : V} {t : Tr} {k : Key} (d : VD K dr F H v t) (h : keyT t = some k) : v = kV k := by
  cases t with
  | int i => cases h; exact d
  | str i => cases h; exact d
  | _ => cases h
theorem val_of {dr : Option (Addr × Addr)} {F : Addr → Prop} {H : Hp} {k : Key} : ∀ {ks : List Key} {xs : List V} {ts : List Tr}, VDL K dr F H xs ts → ts.length = ks.length → (valV (ks.zip xs) k = none ∧ valT ks ts k = none) ∨ ∃ v t, valV (ks.zip xs) k = some v ∧ valT ks ts k = some t ∧ VD K dr F H v t
  | [], _, _, _, _ => .inl ⟨rfl, rfl⟩
  | a :: ks, xs, [], _, hl => by cases hl
  | a :: ks, xs, t :: ts, d, hl => by
    obtain ⟨v, vs, rfl, d1, d2⟩ := d
    rw [valT_cons]
    by_cases h : a = k
    · subst h
      rw [if_pos rfl]
      exact .inr ⟨v, t, by rw [List.zip_cons_cons, valV_pos rfl], rfl, d1⟩
    · rw [if_neg h]
      rw [List.zip_cons_cons, valV_neg h]
      exact val_of d2 (by simpa using hl)
def dGet (dd dk : DE) : DE := fun ρ Ω P PX => dd ρ Ω (fun x Ω1 => dk ρ Ω1 (fun y Ω2 => ∃ ks ts k t, asD x Ω2 = some (ks, ts) ∧ keyT y = some k ∧ valT ks ts k = some t ∧ P t Ω2) PX) PX
theorem sim_dget {td tk : TE} {dd dk : DE} (hd : SimE K G E td dd) (hk : SimE K G E tk dk) : SimE K G E (tDGet td tk) (dGet dd dk) := fun g σ H ρ Ω P PX Q hG R p q qx =>
  hd g σ H ρ Ω _ PX _ hG R p (fun x Ω1 v H1 p1 k1 o1 d1 => hk g σ H1 ρ Ω1 _ PX _ hG (R.keep k1 o1) p1 (fun y Ω2 u H2 ⟨ks, ts, k, t, e1, e2, e3, p2⟩ k2 o2 d2 => by
    obtain ⟨a, xs, rfl, h1, h2, h3, _⟩ := at_D o2 (d1.keep k2) e1
    obtain rfl := vd_key d2 e2
    rcases val_of (k := k) h2 h3 with ⟨_, z⟩ | ⟨w, t', z1, z2, dw⟩
    · rw [e3] at z; cases z
    · rw [e3] at z2
      cases z2
      exact ⟨a, w, rfl, by rw [← z1]; exact DGet.k h1, q _ Ω2 _ H2 p2 (k1.trans k2) o2 dw⟩) (qx.at k1)) qx
def dGet2 (dd dk dx : DE) : DE := fun ρ Ω P PX => dd ρ Ω (fun x Ω1 => (asD x Ω1).isSome = true ∧ dk ρ Ω1 (fun y Ω2 => dx ρ Ω2 (fun z Ω3 => ∃ ks ts k, asD x Ω3 = some (ks, ts) ∧ keyT y = some k ∧ P ((valT ks ts k).getD z) Ω3) PX) PX) PX
theorem isD_of {g : Gh} {H : Hp} {Ω : Om} {v : V} {t : Tr} (o : OmOk K g H Ω) (d : VD K g.dr (NM g Ω) H v t) (h : (asD t Ω).isSome = true) : ∃ a, v = .ref a ∧ IsD H a := by
  obtain ⟨⟨ks, ts⟩, e⟩ := Option.isSome_iff_exists.mp h
  obtain ⟨a, xs, rfl, h1, _⟩ := at_D o d e
  exact ⟨a, rfl, .inl ⟨_, .inl h1⟩⟩
theorem sim_dget2 {td tk tx : TE} {dd dk dx : DE} (hd : SimE K G E td dd) (hk : SimE K G E tk dk) (hx : SimE K G E tx dx) : SimE K G E (tDGet2 td tk tx) (dGet2 dd dk dx) := fun g σ H ρ Ω P PX Q hG R p q qx =>
  hd g σ H ρ Ω _ PX _ hG R p (fun x Ω1 v H1 ⟨hs, p1⟩ k1 o1 d1 => by
    obtain ⟨a, rfl, isd⟩ := isD_of o1 d1 hs
    refine ⟨a, rfl, isd, hk g σ H1 ρ Ω1 _ PX _ hG (R.keep k1 o1) p1 (fun y Ω2 u H2 p2 k2 o2 d2 => hx g σ H2 ρ Ω2 _ PX _ hG (R.keep (k1.trans k2) o2) p2 (fun z Ω3 zz H3 ⟨ks, ts, k, e1, e2, p3⟩ k3 o3 d3 => ?_) (qx.at (k1.trans k2))) (qx.at k1)⟩
    obtain ⟨b, xs, e, h1, h2, h3, _⟩ := at_D o3 (d1.keep (k2.trans k3)) e1
    cases e
    obtain rfl := vd_key (d2.keep k3) e2
    have kk := (k1.trans k2).trans k3
    rcases val_of (k := k) h2 h3 with ⟨z1, z2⟩ | ⟨w, t', z1, z2, dw⟩
    · exact ⟨none, by rw [← z1]; exact DGet.k h1, by rw [z2] at p3; exact q _ Ω3 _ H3 p3 kk o3 d3⟩
    · exact ⟨some w, by rw [← z1]; exact DGet.k h1, by rw [z2] at p3; exact q _ Ω3 _ H3 p3 kk o3 dw⟩) qx
def dGet1 (dd dk : DE) : DE := fun ρ Ω P PX => dd ρ Ω (fun x Ω1 => (asD x Ω1).isSome = true ∧ dk ρ Ω1 (fun y Ω2 => ∃ ks ts k, asD x Ω2 = some (ks, ts) ∧ keyT y = some k ∧ P ((valT ks ts k).getD .non) Ω2) PX) PX
theorem sim_dget1 {td tk : TE} {dd dk : DE} (hd : SimE K G E td dd) (hk : SimE K G E tk dk) : SimE K G E (tDGet1 td tk) (dGet1 dd dk) := fun g σ H ρ Ω P PX Q hG R p q qx =>
  hd g σ H ρ Ω _ PX _ hG R p (fun x Ω1 v H1 ⟨hs, p1⟩ k1 o1 d1 => by
    obtain ⟨a, rfl, isd⟩ := isD_of o1 d1 hs
    refine ⟨a, rfl, isd, hk g σ H1 ρ Ω1 _ PX _ hG (R.keep k1 o1) p1 (fun y Ω2 u H2 ⟨ks, ts, k, e1, e2, p3⟩ k2 o2 d2 => ?_) (qx.at k1)⟩
    obtain ⟨b, xs, e, h1, h2, h3, _⟩ := at_D o2 (d1.keep k2) e1
    cases e
    obtain rfl := vd_key d2 e2
    have kk := k1.trans k2
    rcases val_of (k := k) h2 h3 with ⟨z1, z2⟩ | ⟨w, t', z1, z2, dw⟩
    · exact ⟨none, by rw [← z1]; exact DGet.k h1, by rw [z2] at p3; exact q _ Ω2 _ H2 p3 kk o2 rfl⟩
    · exact ⟨some w, by rw [← z1]; exact DGet.k h1, by rw [z2] at p3; exact q _ Ω2 _ H2 p3 kk o2 dw⟩) qx
def dIn (neg : Bool) (dk dd : DE) : DE := fun ρ Ω P PX => dk ρ Ω (fun y Ω1 => dd ρ Ω1 (fun x Ω2 => ∃ ks ts k, asD x Ω2 = some (ks, ts) ∧ keyT y = some k ∧ P (.bl (if neg then !(valT ks ts k).isSome else (valT ks ts k).isSome)) Ω2) PX) PX
theorem sim_din {td tk : TE} {dd dk : DE} (hk : SimE K G E tk dk) (hd : SimE K G E td dd) : SimE K G E (tDIn tk td) (dIn false dk dd) := fun g σ H ρ Ω P PX Q hG R p q qx =>
  hk g σ H ρ Ω _ PX _ hG R p (fun y Ω1 u H1 p1 k1 o1 d1 => hd g σ H1 ρ Ω1 _ PX _ hG (R.keep k1 o1) p1 (fun x Ω2 v H2 ⟨ks, ts, k, e1, e2, p2⟩ k2 o2 d2 => by
    obtain ⟨a, xs, rfl, h1, h2, h3, _⟩ := at_D o2 d2 e1
    obtain rfl := vd_key d1 e2
    refine ⟨a, _, rfl, DGet.k h1, ?_⟩
    rcases val_of (k := k) h2 h3 with ⟨z1, z2⟩ | ⟨w, t', z1, z2, dw⟩
    · rw [z1]; rw [z2] at p2; exact q _ Ω2 _ H2 p2 (k1.trans k2) o2 rfl
    · rw [z1]; rw [z2] at p2; exact q _ Ω2 _ H2 p2 (k1.trans k2) o2 rfl) (qx.at k1)) qx
theorem sim_dnotin {td tk : TE} {dd dk : DE} (hk : SimE K G E tk dk) (hd : SimE K G E td dd) : SimE K G E (tDNotIn tk td) (dIn true dk dd) := fun g σ H ρ Ω P PX Q hG R p q qx =>
  hk g σ H ρ Ω _ PX _ hG R p (fun y Ω1 u H1 p1 k1 o1 d1 => hd g σ H1 ρ Ω1 _ PX _ hG (R.keep k1 o1) p1 (fun x Ω2 v H2 ⟨ks, ts, k, e1, e2, p2⟩ k2 o2 d2 => by
    obtain ⟨a, xs, rfl, h1, h2, h3, _⟩ := at_D o2 d2 e1
    obtain rfl := vd_key d1 e2
    refine ⟨a, _, rfl, DGet.k h1, ?_⟩
    rcases val_of (k := k) h2 h3 with ⟨z1, z2⟩ | ⟨w, t', z1, z2, dw⟩
    · rw [z1]; rw [z2] at p2; exact q _ Ω2 _ H2 p2 (k1.trans k2) o2 rfl
    · rw [z1]; rw [z2] at p2; exact q _ Ω2 _ H2 p2 (k1.trans k2) o2 rfl) (qx.at k1)) qx
/-- an entry in its place, or at the end -/
def putT (kvs : List (Key × Tr)) (k : Key) (v : Tr) : List (Key × Tr) :=
  if (kvs.any fun kv => decide (kv.1 = k)) = true then kvs.map (fun kv => if kv.1 = k then (kv.1, v) else kv) else kvs ++ [(k, v)]
def dicOf (kvs : List (Key × Tr)) : Tr := .dic (kvs.map (·.1)) (kvs.map (·.2))
/-- the same keys, the values' data -/
def KVD (K : PySem.W.Frag) (dr : Option (Addr × Addr)) (F : Addr → Prop) (H : Hp) (kvs : List (Key × V)) (us : List (Key × Tr)) : Prop := kvs.map (·.1) = us.map (·.1) ∧ VDL K dr F H (kvs.map (·.2)) (us.map (·.2))
theorem KVD.put {dr : Option (Addr × Addr)} {F : Addr → Prop} {H : Hp} {k : Key} {v : V} {t : Tr} (d : VD K dr F H v t) : ∀ {kvs : List (Key × V)} {us : List (Key × Tr)}, KVD K dr F H kvs us → KVD K dr F H (putK kvs k v) (putT us k t) := by
  have any : ∀ {kvs : List (Key × V)} {us : List (Key × Tr)}, KVD K dr F H kvs us → (kvs.any fun kv => decide (kv.1 = k)) = (us.any fun kv => decide (kv.1 = k)) := fun {kvs us} h => by
    have e1 : (kvs.any fun kv => decide (kv.1 = k)) = (kvs.map (·.1)).any fun x => decide (x = k) := by rw [List.any_map]; rfl
    have e2 : (us.any fun kv => decide (kv.1 = k)) = (us.map (·.1)).any fun x => decide (x = k) := by rw [List.any_map]; rfl
    rw [e1, e2, h.1]
  have mp : ∀ {kvs : List (Key × V)} {us : List (Key × Tr)}, KVD K dr F H kvs us → KVD K dr F H (kvs.map (fun kv => if kv.1 = k then (kv.1, v) else kv)) (us.map (fun kv => if kv.1 = k then (kv.1, t) else kv)) := by
    intro kvs
    induction kvs with
    | nil =>
      intro us h
      cases us with
      | nil => exact h
      | cons u us => cases h.1
    | cons kv kvs ih =>
      intro us h
      cases us with
      | nil => cases h.1
      | cons u us =>
        obtain ⟨h1, w, ws, e, h2, h3⟩ := h
        simp only [List.map_cons, List.cons.injEq] at h1 e
        have r := ih (us := us) ⟨h1.2, by rw [e.2]; exact h3⟩
        obtain ⟨k1, v1⟩ := kv
        obtain ⟨k2, t2⟩ := u
        simp only at h1 e h2
        obtain ⟨rfl, h1'⟩ := h1
        obtain ⟨rfl, e'⟩ := e
        by_cases hk : k1 = k
        · simp only [List.map_cons, hk, if_true]
          exact ⟨by simp only [List.map_cons]; rw [r.1], v, _, rfl, d, r.2⟩
        · simp only [List.map_cons, hk, if_false]
          exact ⟨by simp only [List.map_cons]; rw [r.1], _, _, rfl, h2, r.2⟩
  intro kvs us h
  unfold putK putT
  rw [any h]
  by_cases hc : (us.any fun kv => decide (kv.1 = k)) = true
  · rw [if_pos hc, if_pos hc]
    exact mp h
  · rw [if_neg hc, if_neg hc]
    exact ⟨by rw [List.map_append, List.map_append, h.1]; rfl, by rw [List.map_append, List.map_append]; exact h.2.app _ (.one d)⟩
theorem putT_len {kvs : List (Key × Tr)} {k : Key} {t : Tr} : (putT kvs k t).length ≤ kvs.length + 1 := by
  unfold putT
  split
  · rw [List.length_map]; omega
  · rw [List.length_append]; simp
theorem KVD.len {dr : Option (Addr × Addr)} {F : Addr → Prop} {H : Hp} {kvs : List (Key × V)} {us : List (Key × Tr)} (h : KVD K dr F H kvs us) : kvs.length = us.length := by
  have := congrArg List.length h.1
  simpa using this
theorem zip_fst_snd {α β : Type} : ∀ (l : List (α × β)), (l.map (·.1)).zip (l.map (·.2)) = l
  | [] => rfl
  | (a, b) :: l => by simp only [List.map_cons, List.zip_cons_cons, zip_fst_snd l]
/-- a new dict: data, or a cell -/
def dicNew (us : List (Key × Tr)) (Ω : Om) (P : PT') : Prop := P (dicOf us) Ω ∨ ∀ a, Ω a = none → P (.obj a) (put Ω a (.dic (us.map (·.1)) (us.map (·.2))))
def dDc (di : DI) (dg : DG) (dt : DT) (dk dv : DE) (vs : List Nat) : DE := fun ρ Ω P PX => di ρ Ω (fun items st Ω1 => items.length ≤ 1000000 ∧ ∃ W : Nat → List (Key × Tr) → Om → Prop, W 0 [] Ω1 ∧ (∀ i acc Ω', W i acc Ω' → st Ω') ∧
  (∀ i t acc Ω', items[i]? = some t → W i acc Ω' → dg t (wipeT ρ vs) Ω' (fun ρ2 Ω2 => dt ρ2 Ω2 (fun b Ω3 => if b = true then dk ρ2 Ω3 (fun y Ω4 => dv ρ2 Ω4 (fun z Ω5 => ∃ k, keyT y = some k ∧ W (i + 1) (putT acc k z) Ω5) nox) nox else W (i + 1) acc Ω3) nox) nox) ∧
  ∀ acc Ω', W items.length acc Ω' → dicNew acc Ω' P) PX
theorem sim_dc {wi : TI} {tg : TG} {tt : TT} {tk te : TE} {vs : List Nat} {di : DI} {dg : DG} {dt : DT} {dk de : DE} (hi : SimI K G E wi di) (hg : SimG K G E tg dg) (gi : GIn vs tg) (ht : SimT K G E tt dt) (hk : SimE K G E tk dk) (he : SimE K G E te de) : SimE K G E (tDc wi tg tt tk te vs) (dDc di dg dt dk de vs) := fun g σ H ρ Ω P PX Q hG R h q qx => by
  refine hi g σ H ρ Ω _ _ _ hG R h (fun items st Ω1 J H1 h1 k1 o1 it => ?_) qx
  obtain ⟨hz, W, w0, wst, step, fin⟩ := h1
  intro D nD
  have npr : ¬ g.pr D := not_pr o1 nD
  refine ⟨fun i m H' => m + i = items.length ∧ ∃ xs acc Ω', H' D = some (.dK xs) ∧ KVD K g.dr (NM (g.with D) Ω') H' xs acc ∧ acc.length ≤ i ∧ Keep g H1 Ω1 H' Ω' ∧ OmOk K (g.with D) H' Ω' ∧ W i acc Ω', ⟨items.length, by omega, [], [], Ω1, upd_same, ⟨rfl, rfl⟩, Nat.le_refl _, .new nD, o1.more nD, w0⟩, ?_⟩
  rintro i m H' ⟨hm, xs, acc, Ω', eD, da, hl, k2, o2, w⟩
  obtain ⟨s1, s2⟩ := it (g.with D) (.inr ⟨D, nD, rfl⟩) i H' Ω' k2 o2 (wst _ _ _ w)
  have nΩ : ∀ {H2 : Hp} {Ω2 : Om}, OmOk K (g.with D) H2 Ω2 → Ω2 D = none := fun {H2 Ω2} o => by
    cases e : Ω2 D with
    | none => rfl
    | some c => exact absurd (.inr rfl) (o.ce D c e).1
  have nd : ∀ d, g.dr ≠ some (d, D) := o1.nodr nD
  rcases Nat.lt_or_ge i items.length with hlt | hge
  · obtain ⟨go, yl⟩ := s2 hlt
    refine .inr ⟨go, fun H2 => m - 1 + (i + 1) = items.length ∧ ∃ xs acc Ω', H2 D = some (.dK xs) ∧ KVD K g.dr (NM (g.with D) Ω') H2 xs acc ∧ acc.length ≤ i + 1 ∧ Keep g H1 Ω1 H2 Ω' ∧ OmOk K (g.with D) H2 Ω' ∧ W (i + 1) acc Ω', fun H2 z => ⟨m - 1, by omega, z⟩, fun x H'' y => ?_⟩
    obtain ⟨k3, o3, t, et, dd⟩ := yl x H'' y
    have Rw : Rel K (g.with D) (L2.wipe σ vs) H'' (wipeT ρ vs) Ω' := by
      have k13 := k2.trans k3
      refine ⟨o3, (Rel.wipe R vs).len, fun j u e => ?_⟩
      obtain ⟨v, h1, h2⟩ := ((Rel.wipe R vs).keep k1 o1).env j u e
      exact ⟨v, h1, (h2.more nD).keep (g := g.with D) k13⟩
    have h0 := hg (g.with D) (L2.wipe σ vs) H'' (wipeT ρ vs) Ω' x t _ _ (fun σ2 H2 => tt σ2 H2 fun b H3 => if b = true then tk σ2 H3 fun y H4 => te σ2 H4 fun z H5 => ∃ kvs k, y = kV k ∧ H5 D = some (.dK kvs) ∧ kvs.length < sizeLine ∧ (m - 1 + (i + 1) = items.length ∧ ∃ xs acc_1 Ω', upd H5 D (.dK (putK kvs k z)) D = some (.dK xs) ∧ KVD K g.dr (NM (g.with D) Ω') (upd H5 D (.dK (putK kvs k z))) xs acc_1 ∧ acc_1.length ≤ i + 1 ∧ Keep g H1 Ω1 (upd H5 D (.dK (putK kvs k z))) Ω' ∧ OmOk K (g.with D) (upd H5 D (.dK (putK kvs k z))) Ω' ∧ W (i + 1) acc_1 Ω') else (m - 1 + (i + 1) = items.length ∧ ∃ xs acc Ω', H3 D = some (.dK xs) ∧ KVD K g.dr (NM (g.with D) Ω') H3 xs acc ∧ acc.length ≤ i + 1 ∧ Keep g H1 Ω1 H3 Ω' ∧ OmOk K (g.with D) H3 Ω' ∧ W (i + 1) acc Ω')) hG Rw dd (step i t acc Ω' et w) (fun ρ2 Ω2 σ2 H2 p k4 R4 => ?_) fun _ _ _ ⟨_, _, z, _⟩ => z.elim
    · have h1 := gi _ _ _ _ h0
      refine Eq.mpr (congrArg (tg x (L2.wipe σ vs) H'') ?_) h1
      funext σ2 H2
      rw [wipe_idem]
      exact propext And.comm
    · have k5 := (k2.trans k3).trans k4
      refine ht (g.with D) σ2 H2 ρ2 Ω2 _ _ _ hG R4 p (fun b Ω3 H3 p3 k6 o6 => ?_) AfterX.nox
      have eD2 : H2 D = some (.dK xs) := (k4 D _ (nΩ o3) nd (k3 D _ (nΩ o2) nd eD).1).1
      have eD3 : H3 D = some (.dK xs) := (k6 D _ (nΩ R4.om) nd eD2).1
      have k7 := k5.trans k6
      have ka : Keep (g.with D) H' Ω' H3 Ω3 := (k3.trans k4).trans k6
      by_cases hb : b = true
      · rw [if_pos hb] at p3 ⊢
        refine hk (g.with D) σ2 H3 ρ2 Ω3 _ _ _ hG (R4.keep k6 o6) p3 (fun y Ω4 v H4 p4 k8 o8 d8 => ?_) AfterX.nox
        refine he (g.with D) σ2 H4 ρ2 Ω4 _ _ _ hG (R4.keep (k6.trans k8) o8) p4 (fun z Ω5 u H5 ⟨k, ek, p5⟩ k9 o9 d9 => ?_) AfterX.nox
        have eD4 : H4 D = some (.dK xs) := (k8 D _ (nΩ o6) nd eD3).1
        have eD5 : H5 D = some (.dK xs) := (k9 D _ (nΩ o8) nd eD4).1
        have dac : VDL K g.dr (NM (g.with D) Ω5) H5 (xs.map (·.2)) (acc.map (·.2)) := ((da.2.keep ka).keep (g := g.with D) k8).keep (g := g.with D) k9
        have r := KVD.put (k := k) d9 (show KVD K _ _ H5 xs acc from ⟨da.1, dac⟩)
        have hlen := da.len
        refine ⟨xs, k, vd_key d8 ek, eD5, size_lt (by omega), by omega, _, putT acc k z, Ω5, upd_same, ⟨r.1, r.2.prot⟩, Nat.le_trans putT_len (by omega), ((k7.trans k8).trans k9).prot nD, o9.prot, p5⟩
      · rw [if_neg hb] at p3 ⊢
        exact ⟨by omega, xs, acc, Ω3, eD3, ⟨da.1, VDL.keep (g := g.with D) (v := xs.map (·.2)) (t := acc.map (·.2)) da.2 ka⟩, by omega, k7, o6, p3⟩
  · have hi : i = items.length := by omega
    refine .inl ⟨s1 hi, ?_⟩
    have f := fin acc Ω' (hi ▸ w)
    have hlen := da.len
    have ez : (acc.map (·.1)).zip (xs.map (·.2)) = xs := by rw [← da.1]; exact zip_fst_snd xs
    rcases f with f | f
    · exact q _ Ω' _ H' f (k1.trans k2) o2.less ⟨D, xs.map (·.2), rfl, ⟨nΩ o2, nd, npr⟩, by rw [ez]; exact eD, da.2.less, by simp, by rw [List.length_map]; omega⟩
    · have kc : Keep g H1 Ω1 H' (put Ω' D (.dic (acc.map (·.1)) (acc.map (·.2)))) := fun b u hb hd e => ⟨(k2 b u hb hd e).1, by rw [put_ne (ne_of_none e nD)]; exact (k2 b u hb hd e).2⟩
      exact q _ _ _ H' (f D (nΩ o2)) (k1.trans kc) (o2.toCell npr ⟨xs.map (·.2), by rw [ez]; exact eD, (show VDL K (g.with D).dr (NM (g.with D) Ω') H' (xs.map (·.2)) (acc.map (·.2)) from da.2), by simp, by rw [List.length_map]; omega⟩) rfl
end
end LT

namespace LT
open PySem PySem.Spec PyProof.Rows L2 L2H LL
section
variable {K : PySem.W.Frag} {G : List (Value × Option Addr × XV) → Prop} {E : EK}
/-! ### raise, try -/
/-- n.__init__: the fields are kept in order, then told -/
def sp_Exc (K : PySem.W.Frag) (cn : Str) (ns : List Str) : Sp := fun vs H Q _ => ∃ (a : Addr) (us : List V), vs = .ref a :: us ∧ us.length = ns.length ∧ H a = some (exo a (He.ga K cn) none) ∧
  ∀ d p1 p2 H', H d = none → d ≠ a → H' a = some (exo a (He.ga K cn) (some d)) → H' d = some (exd d (("told", .ref p2) :: (ns.zip us).reverse)) → H' p1 = some (.tup us) → H' p2 = some (.tup [.str cn, .ref p1]) → H p1 = none → H p2 = none → (∀ b o, b ≠ a → H b = some o → H' b = some o) → Q .non H'
theorem exd_tup' {a : Addr} {vs : List (Str × V)} {xs : List V} : ¬ exd a vs = .tup xs := exd_tup
def excT (cn : Str) (ns : List Str) (ts : List Tr) : XV := ⟨cn, "told" :: ns.reverse, .tup [.str cn, .tup ts] :: ts.reverse⟩
def dRaise (cn : Str) (ns : List Str) (da : DA) : DS := fun D ρ Ω => da ρ Ω (fun ts Ω' => ts.length = ns.length ∧ ts.length ≤ 100 ∧ D.ex ρ (excT cn ns ts) Ω') (fun x Ω' => D.ex ρ x Ω')
theorem VDL.rev {dr : Option (Addr × Addr)} {F : Addr → Prop} {H : Hp} : ∀ {xs : List V} {ts : List Tr}, VDL K dr F H xs ts → VDL K dr F H xs.reverse ts.reverse
  | _, [], h => by rw [show _ = [] from h]; rfl
  | _, t :: ts, h => by
    obtain ⟨v, vs, rfl, h1, h2⟩ := h
    rw [List.reverse_cons, List.reverse_cons]
    exact VDL.app _ (VDL.rev h2) (.one h1)
theorem sim_raise {cn : Str} {ns : List Str} {ta : TA} {da : DA} (ha : SimA K G E ta da) : SimS K G E (fun _ σ H => tMkO (He.ga K cn) (sp_Exc K cn ns) [] ta σ H fun cls d H' => E σ cls d H') (dRaise cn ns da) := fun g σ H ρ Ω D DD hG R p e => by
  refine ha g σ H ρ Ω _ _ _ hG R p (fun ts Ω1 vs H1 ⟨hl, hz, p1⟩ k1 o1 d1 => ?_) (e.exx R)
  refine ⟨by rw [d1.len]; omega, fun a na => ?_⟩
  rw [List.append_nil]
  refine ⟨a, vs, rfl, by rw [d1.len, hl], upd_same, fun d p1' p2' H' hd hne e1 e2 e3 e4 f1 f2 kk => ⟨rfl, d, _, e1, e2, ?_, ?_⟩⟩
  · rw [upd_ne hne] at hd; exact hd
  · have fd : H1 d = none := by rw [upd_ne hne] at hd; exact hd
    have na1 : p1' ≠ a := fun z => by rw [z, upd_same] at f1; cases f1
    have na2 : p2' ≠ a := fun z => by rw [z, upd_same] at f2; cases f2
    have nd1 : p1' ≠ d := fun z => by rw [z, e2] at e3; exact exd_tup' (Option.some.inj e3)
    have nd2 : p2' ≠ d := fun z => by rw [z, e2] at e4; exact exd_tup' (Option.some.inj e4)
    rw [upd_ne na1] at f1
    rw [upd_ne na2] at f2
    have nb : ∀ b o, H1 b = some o → upd (del H' a) d (.xd (("told", .ref p2') :: (ns.zip vs).reverse)) b = some o := fun b o q => by
      have nba : b ≠ a := ne_of_none q na
      rw [upd_ne (ne_of_none q fd), del_ne nba]
      exact kk b o nba (by rw [upd_ne nba]; exact q)
    have k2 : Keep g H1 Ω1 (upd (del H' a) d (.xd (("told", .ref p2') :: (ns.zip vs).reverse))) Ω1 := fun b o h _ q => ⟨nb b o q, h⟩
    have o2 : OmOk K g (upd (del H' a) d (.xd (("told", .ref p2') :: (ns.zip vs).reverse))) Ω1 := by
      refine ⟨fun d' s' q => ?_, fun b c q => ?_, fun q hq => (o1.ex q hq).keep k2, fun b hb => ?_⟩
      · have D0 := o1.dr d' s' q
        exact D0.imp (D0.drw.same nb).st (fun b o _ _ q => nb b o q) fun _ q _ => q
      · obtain ⟨u, hu⟩ := (o1.ce b c q).2.tracked
        exact ⟨(o1.ce b c q).1, (o1.ce b c q).2.imp (by rw [nb b u hu, hu]) fun b' o' f q' => ⟨f, nb b' o' q'⟩⟩
      · obtain ⟨u, hu⟩ := o1.pt b hb
        exact ⟨u, nb b u hu⟩
    have hp1 : upd (del H' a) d (.xd (("told", .ref p2') :: (ns.zip vs).reverse)) p1' = some (.tup vs) := by rw [upd_ne nd1, del_ne na1]; exact e3
    have hp2 : upd (del H' a) d (.xd (("told", .ref p2') :: (ns.zip vs).reverse)) p2' = some (.tup [.str cn, .ref p1']) := by rw [upd_ne nd2, del_ne na2]; exact e4
    have n1 : NM g Ω1 p1' := NM.new o1 f1 (not_pr o1 f1)
    have n2 : NM g Ω1 p2' := NM.new o1 f2 (not_pr o1 f2)
    have d2 := d1.keep k2
    refine e.ex _ ρ Ω1 σ _ _ _ p1 (k1.trans k2) (R.keep (k1.trans k2) o2) ⟨rfl, d, _, rfl, NM.new o1 fd (not_pr o1 fd), upd_same, ?_, ?_⟩
    · show ("told" : Str) :: ((ns.zip vs).reverse).map (·.1) = ("told" : Str) :: ns.reverse
      rw [List.map_reverse, List.map_fst_zip (by rw [d1.len, hl]; exact Nat.le_refl _)]
    · show VDL K g.dr _ _ (V.ref p2' :: ((ns.zip vs).reverse).map (·.2)) (Tr.tup [.str cn, .tup ts] :: ts.reverse)
      rw [List.map_reverse, List.map_snd_zip (by rw [d1.len, hl]; exact Nat.le_refl _)]
      refine .cons ⟨p2', _, rfl, .inl ⟨n2, hp2⟩, .cons rfl (.one ⟨p1', vs, rfl, .inl ⟨n1, hp1⟩, d2, by omega⟩), by simp⟩ d2.rev
/-- the exceptions that are known in the suite -/
def GX (G : List (Value × Option Addr × XV) → Prop) (cls : Value) (d : Option Addr) (x : XV) : List (Value × Option Addr × XV) → Prop := fun l => ∃ r, l = (cls, d, x) :: r ∧ G r
def Gh.and (g : Gh) (p : Value × Option Addr × XV) : Gh := ⟨g.dr, g.pr, p :: g.ex⟩
theorem OmOk.and {g : Gh} {H : Hp} {Ω : Om} {cls : Value} {d : Option Addr} {x : XV} (o : OmOk K g H Ω) (h : XR K g Ω H cls d x) : OmOk K (g.and (cls, d, x)) H Ω := by
  refine ⟨o.dr, fun a c q => ⟨(o.ce a c q).1, (by cases c <;> exact (o.ce a _ q).2)⟩, fun p hp => ?_, o.pt⟩
  rcases List.mem_cons.mp hp with rfl | hp
  · exact h
  · exact o.ex p hp
theorem OmOk.drop {g : Gh} {H : Hp} {Ω : Om} {p : Value × Option Addr × XV} (o : OmOk K (g.and p) H Ω) : OmOk K g H Ω :=
  ⟨o.dr, fun a c q => ⟨(o.ce a c q).1, (by cases c <;> exact (o.ce a _ q).2)⟩, fun p hp => o.ex p (List.mem_cons_of_mem _ hp), o.pt⟩
theorem Rel.and {g : Gh} {σ : L2.St} {H : Hp} {ρ : En} {Ω : Om} {cls : Value} {d : Option Addr} {x : XV} (R : Rel K g σ H ρ Ω) (h : XR K g Ω H cls d x) : Rel K (g.and (cls, d, x)) σ H ρ Ω := ⟨R.om.and h, R.len, R.env⟩
theorem Rel.drop {g : Gh} {σ : L2.St} {H : Hp} {ρ : En} {Ω : Om} {p : Value × Option Addr × XV} (R : Rel K (g.and p) σ H ρ Ω) : Rel K g σ H ρ Ω := ⟨R.om.drop, R.len, R.env⟩
def dTry (K : PySem.W.Frag) (c : Value) (i : Nat) (db : DS) (ds : Addr → XV → DS) : DS := fun DD ρ Ω => db { DD with ex := fun ρ' x Ω' => ∃ b, PySem.W.exmOne K (.ref (He.ga K x.cls)) c = some b ∧
  (b = true → ∀ a, ds a x { nx := fun ρ2 Ω2 => DD.nx (ρ2.set i none) Ω2, rt := DD.rt, bk := fun ρ2 Ω2 => DD.bk (ρ2.set i none) Ω2, ct := fun ρ2 Ω2 => DD.ct (ρ2.set i none) Ω2, ex := fun _ _ _ => False } (ρ'.set i (some (.obj a))) Ω') ∧ (b = false → DD.ex ρ' x Ω') } ρ Ω
theorem sim_try {c : Value} {i : Nat} {tb : WX → TS} {ts : Addr → Value → Option Addr → TS} {Wout : WX} {db : DS} {ds : Addr → XV → DS} (hE : ∀ σ cls d H, E σ cls d H = Wout cls d σ H) (hb : ∀ W : WX, SimS K G (fun σ cls d H => W cls d σ H) (tb W) db)
    (hs : ∀ a cls d x, SimS K (GX G cls d x) (fun _ _ _ _ => False) (ts a cls d) (ds a x)) : SimS K G E (fun D σ H => tb (wAs K c i ts Wout D) D σ H) (dTry K c i db ds) := fun g σ H ρ Ω D DD hG R p e => by
  refine hb _ g σ H ρ Ω D _ hG R p ⟨e.nx, e.rt, e.bk, e.ct, fun x ρ' Ω' σ' cls d H' ⟨b, eb, h1, h2⟩ k R' xr => ?_⟩
  have ec : cls = .ref (He.ga K x.cls) := xr.1
  refine ⟨b, by rw [ec]; exact eb, fun hb' a na => ?_, fun hb' => by rw [← hE]; exact e.ex x ρ' Ω' σ' cls d H' (h2 hb') k R' xr⟩
  refine hs a cls d x (g.and (cls, d, x)) _ H' _ Ω' _ _ ⟨g.ex, rfl, hG⟩ ((R'.set (v := .ref a) (t := .obj a) rfl).and xr) (h1 hb' a) ⟨fun ρ2 Ω2 σ2 H2 p2 k2 r2 => e.nx _ Ω2 _ H2 p2 (k.trans k2) r2.drop.none, fun t Ω2 v H2 p2 k2 o2 d2 => e.rt t Ω2 v H2 p2 (k.trans k2) o2.drop d2, fun ρ2 Ω2 σ2 H2 p2 k2 r2 => e.bk _ Ω2 _ H2 p2 (k.trans k2) r2.drop.none, fun ρ2 Ω2 σ2 H2 p2 k2 r2 => e.ct _ Ω2 _ H2 p2 (k.trans k2) r2.drop.none, fun _ _ _ _ _ _ _ z => z.elim⟩
/-- e.f in the suite -/
def dXf (K : PySem.W.Frag) (a : Addr) (x : XV) (C : Addr) (n : Str) (de : DE) : DE := fun ρ Ω P PX => de ρ Ω (fun t Ω1 => ∃ u, t = .obj a ∧ He.ga K x.cls = C ∧ (x.ns.zip x.ts).lookup n = some u ∧ P u Ω1) PX
theorem lookup_vd {dr : Option (Addr × Addr)} {F : Addr → Prop} {H : Hp} {n : Str} {u : Tr} : ∀ {fs : List (Str × V)} {ns : List Str} {ts : List Tr}, fs.map (·.1) = ns → VDL K dr F H (fs.map (·.2)) ts → (ns.zip ts).lookup n = some u → ∃ v, fs.lookup n = some v ∧ VD K dr F H v u
  | [], ns, ts, e, _, h => by
    subst e
    simp at h
  | (m, w) :: fs, ns, ts, e, d, h => by
    subst e
    obtain ⟨t, ts', rfl, d1, d2⟩ := VDL.cons_inv d
    rw [List.map_cons, List.zip_cons_cons, List.lookup_cons] at h
    rw [List.lookup_cons]
    cases q : n == m with
    | true =>
      rw [q] at h
      cases h
      exact ⟨w, rfl, d1⟩
    | false =>
      rw [q] at h
      exact lookup_vd rfl d2 h
theorem sim_xf {a C : Addr} {cls : Value} {d : Option Addr} {x : XV} {n : Str} {te : TE} {de : DE} (h : SimE K (GX G cls d x) E te de) : SimE K (GX G cls d x) E (tXf a cls d C n te) (dXf K a x C n de) := fun g σ H ρ Ω P PX Q hG R p q qx =>
  h g σ H ρ Ω _ PX _ hG R p (fun t Ω1 v H1 ⟨u, e, ec, hl, p1⟩ k1 o1 d1 => by
    subst e
    obtain ⟨r, er, _⟩ := hG
    obtain ⟨ecls, dd, fs, ed, nn, eh, en, dl⟩ := o1.ex (cls, d, x) (by rw [er]; exact List.mem_cons_self)
    obtain ⟨w, hw, dw⟩ := lookup_vd en dl hl
    exact ⟨d1, by rw [← ec]; exact ecls, dd, fs, w, ed, eh, hw, q u Ω1 w H1 p1 k1 o1 dw⟩) qx
def clsV : Tr → Option Value
  | .ty n => some (.type n)
  | .obj a => some (.ref a)
  | _ => none
/-- isinstance(e, c) in the suite -/
def dIsX (K : PySem.W.Frag) (a : Addr) (x : XV) : List Tr → Om → PT' → Prop := fun us Ω P => ∃ c cv b, us = [.obj a, c] ∧ clsV c = some cv ∧ PySem.W.kitOne K (.ref (He.ga K x.cls)) cv = some b ∧ P (.bl b) Ω
theorem sim_isX {a C : Addr} {cls : Value} {d : Option Addr} {x : XV} {ta : TA} {da : DA} (h : SimA K (GX G cls d x) E ta da) : SimE K (GX G cls d x) E (tCB (rIsXC K a C cls d) ta) (fun ρ Ω P PX => da ρ Ω (fun us Ω1 => He.ga K x.cls = C ∧ dIsX K a x us Ω1 P) PX) := fun g σ H ρ Ω P PX Q hG R p q qx =>
  h g σ H ρ Ω _ PX _ hG R p (fun us Ω1 vs H1 ⟨ec, c, cv, b, e, hc, hk, p1⟩ k1 o1 d1 => by
    subst e
    obtain ⟨v, _, rfl, dv, u, _, rfl, du, rfl⟩ := d1
    obtain ⟨r, er, _⟩ := hG
    obtain ⟨ecls, dd, fs, ed, nn, eh, en, dl⟩ := o1.ex (cls, d, x) (by rw [er]; exact List.mem_cons_self)
    obtain rfl : v = .ref a := dv
    have hcv : ClsV u cv := by
      cases c with
      | ty n => cases hc; rw [show u = _ from du]; exact .ty n
      | obj b => cases hc; rw [show u = _ from du]; exact .own b
      | _ => cases hc
    exact ⟨dd, u, cv, b, fs, by rw [← ec]; exact ecls, ed, rfl, hcv, by rw [← ec]; exact hk, eh, q _ Ω1 _ H1 p1 k1 o1 rfl⟩) qx
theorem sim_ref {a : Addr} : SimE K G E (tC (.ref a)) (dC (.obj a)) := fun g σ H ρ Ω P PX Q _ R p q _ => q _ Ω _ H p .refl R.om rfl
def flatK : Tr → Bool
  | .non => true
  | .bl _ => true
  | .int _ => true
  | .str _ => true
  | _ => false
theorem vdl_flat {dr : Option (Addr × Addr)} {F : Addr → Prop} {H : Hp} : ∀ {us : List Tr}, us.all flatK = true → VDL K dr F H (us.map toV) us
  | [], _ => rfl
  | t :: ts, hf => by
    have hf' := Bool.and_eq_true_iff.mp (show (flatK t && ts.all flatK) = true from hf)
    refine ⟨_, _, rfl, ?_, vdl_flat hf'.2⟩
    cases t with
    | non => rfl
    | bl b => rfl
    | int b => rfl
    | str b => rfl
    | _ => cases (show false = true from hf'.1)
theorem sim_const {a : Addr} {us : List Tr} {xs : List V} (hc : ∀ H, SqT K H a xs) (hx : xs = us.map toV) (hf : us.all flatK = true) (hz : us.length ≤ 1000) : SimE K G E (tC (.ref a)) (dC (.tup us)) := fun g σ H ρ Ω P PX Q _ R p q _ =>
  q _ Ω _ H p .refl R.om ⟨a, xs, rfl, .inr ⟨hc, by
    subst hx
    rw [List.all_map, List.all_eq_true]
    intro t ht
    have := List.all_eq_true.mp hf t ht
    cases t <;> first | rfl | cases (show false = true from this)⟩, by subst hx; exact vdl_flat hf, by omega⟩
def dIsN (f : Bool → Bool) : Tr → Tr → Om → PT' → Prop := fun x y Ω P => y = .non ∧ P (.bl (f (isNonT x))) Ω
theorem simr_isN : SimR K rIsN (dIsN fun b => b) := fun g H Ω x y tx ty P Q o d1 d2 ⟨e, p⟩ q => by
  subst e
  exact ⟨d2, by rw [vd_non d1]; exact q _ Ω _ H p .refl o rfl⟩
theorem simr_notN : SimR K rNotN (dIsN fun b => !b) := fun g H Ω x y tx ty P Q o d1 d2 ⟨e, p⟩ q => by
  subst e
  exact ⟨d2, by rw [vd_non d1]; exact q _ Ω _ H p .refl o rfl⟩
def isBT (b : Bool) : Tr → Bool
  | .bl c => decide (c = b)
  | _ => false
def dIsB : Tr → Tr → Om → PT' → Prop := fun x y Ω P => ∃ b : Bool, y = .bl b ∧ (kindT x).isSome = true ∧ P (.bl (isBT b x)) Ω
theorem simr_isB : SimR K rIsBx dIsB := fun g H Ω x y tx ty P Q o d1 d2 ⟨b, e, hk, p⟩ q => by
  subst e
  have fin : okIs x = true → decide (x = .bl b) = isBT b tx → rIsBx x y H Q := fun h1 h2 => ⟨b, d2, h1, by rw [h2]; exact q _ Ω _ H p .refl o rfl⟩
  cases tx with
  | non => rw [show x = _ from d1] at fin ⊢; exact fin rfl rfl
  | bl c => rw [show x = _ from d1] at fin ⊢; exact fin rfl (by simp [isBT])
  | int c => rw [show x = _ from d1] at fin ⊢; exact fin rfl rfl
  | str c => rw [show x = _ from d1] at fin ⊢; exact fin rfl rfl
  | lst ts => obtain ⟨a, xs, rfl, _⟩ := d1; exact fin rfl rfl
  | tup ts => obtain ⟨a, xs, rfl, _⟩ := d1; exact fin rfl rfl
  | dic ks ts => obtain ⟨a, xs, rfl, _⟩ := d1; exact fin rfl rfl
  | _ => cases hk
def inT (x : Tr) (ts : List Tr) : Bool := ts.any fun t => eqV (toV t) (toV x)
def dIn' (neg : Bool) : Tr → Tr → Om → PT' → Prop := fun x y Ω P => ∃ ts, asS y Ω = some ts ∧ flatK x = true ∧ ts.all flatK = true ∧ P (.bl (if neg then !inT x ts else inT x ts)) Ω
theorem flatK_V {t : Tr} (h : flatK t = true) : flatT t = true ∧ flatV (toV t) = true := by
  cases t <;> first | exact ⟨rfl, rfl⟩ | cases (show false = true from h)
theorem vdl_flatV {dr : Option (Addr × Addr)} {F : Addr → Prop} {H : Hp} : ∀ {xs : List V} {ts : List Tr}, VDL K dr F H xs ts → ts.all flatK = true → xs = ts.map toV
  | _, [], d, _ => d
  | _, t :: ts, d, h2 => by
    obtain ⟨v, vs, rfl, h, k⟩ := d
    have h2' := Bool.and_eq_true_iff.mp (show (flatK t && ts.all flatK) = true from h2)
    rw [List.map_cons, ← vdl_flatV k h2'.2, vd_flat h (flatK_V h2'.1).1]
theorem simr_in {neg : Bool} : SimR K (rIn K neg) (dIn' neg) := fun g H Ω x y tx ty P Q o d1 d2 ⟨ts, e, h1, h2, p⟩ q => by
  obtain ⟨a, xs, rfl, s, dl, z⟩ := at_S o d2 e
  obtain rfl := vd_flat d1 (flatK_V h1).1
  have ex : xs = ts.map toV := vdl_flatV dl h2
  refine ⟨a, xs, rfl, s, (flatK_V h1).2, ?_, ?_⟩
  · rw [ex, List.all_map, List.all_eq_true]
    exact fun t ht => (flatK_V (List.all_eq_true.mp h2 t ht)).2
  · have ei : inV (toV tx) xs = inT tx ts := by
      unfold inV inT
      rw [ex, List.any_map]
      rfl
    rw [ei]
    exact q _ Ω _ H p .refl o rfl
/-- isinstance(x, (A, B, ..)) -/
def dIsiT : List Tr → Om → PT' → Prop := fun us Ω P => ∃ x ns, us = [x, .tup (ns.map Tr.ty)] ∧ ns ≠ [] ∧ (kindT x).isSome = true ∧ (∀ n ∈ ns, n ∈ tyNames) ∧ P (.bl (ns.any fun n => isT x n)) Ω
theorem clsv_all {dr : Option (Addr × Addr)} {F : Addr → Prop} {H : Hp} : ∀ {xs : List V} {ns : List String}, VDL K dr F H xs (ns.map Tr.ty) → Paired ClsV xs (ns.map Value.type)
  | xs, [], d => by rw [show xs = [] from d]; exact .nil
  | xs, n :: ns, d => by
    obtain ⟨w, ws, rfl, h1, h2⟩ := d
    rw [show w = _ from h1]
    exact .cons (.ty n) (clsv_all h2)
theorem kit_all {x : Tr} {k : String} (ek : kindT x = some k) : ∀ {ns : List String}, (∀ n ∈ ns, n ∈ tyNames) → PySem.W.kitAny K (.type k) (ns.map Value.type) = some (ns.any fun n => isT x n)
  | [], _ => rfl
  | n :: ns, hn => by
    have e1 : PySem.W.kitOne K (.type k) (.type n) = some (isT x n) := by
      have := kit_known k (kind_mem ek) n (hn n List.mem_cons_self)
      unfold isT
      rw [ek]
      exact kit_ty this
    refine kitAny_cons e1 (fun hb => ?_) fun hb => by simp [hb]
    rw [show ((n :: ns).any fun n => isT x n) = (ns.any fun n => isT x n) by rw [List.any_cons, hb]; rfl]
    exact kit_all ek fun m hm => hn m (List.mem_cons_of_mem _ hm)
theorem simc_isiT : SimC K (rIsiT K) dIsiT := fun g H Ω vs us P Q o d ⟨x, ns, e, hne, hk, hn, p⟩ q => by
  subst e
  obtain ⟨v, _, rfl, d1, u, _, rfl, d2, rfl⟩ := d
  obtain ⟨k, ek⟩ := Option.isSome_iff_exists.mp hk
  obtain ⟨a, xs, rfl, h, dl, _⟩ := d2
  rcases h with ⟨_, h⟩ | h
  · refine ⟨v, a, xs, .type k, ns.map Value.type, _, rfl, h, ?_, tyx_of d1 ek, ?_, q _ Ω _ H p .refl o rfl⟩
    · exact clsv_all dl
    · exact kit_all ek hn
  · exfalso
    cases ns with
    | nil => exact hne rfl
    | cons n ns =>
      obtain ⟨w, ws, rfl, h1, _⟩ := dl
      have h2 := h.2
      rw [show w = _ from h1] at h2
      cases h2
theorem sim_chain {r r' : R2} {d d' : Tr → Tr → Om → PT' → Prop} {ta tb tc : TE} {da db dc : DE} (hr : SimR K r d) (hr' : SimR K r' d') (ha : SimE K G E ta da) (hb : SimE K G E tb db) (hc : SimE K G E tc dc) : SimE K G E (tChain r r' ta tb tc) (dChain d d' da db dc) := fun g σ H ρ Ω P PX Q hG R p q qx =>
  ha g σ H ρ Ω _ PX _ hG R p (fun x Ω1 v H1 p1 k1 o1 d1 => hb g σ H1 ρ Ω1 _ PX _ hG (R.keep k1 o1) p1 (fun y Ω2 u H2 p2 k2 o2 d2 => hr g H2 Ω2 v u x y _ _ o2 (d1.keep k2) d2 p2 (fun z Ω3 zz H3 ⟨b, ez, p3⟩ k3 o3 d3 => by
    subst ez
    refine ⟨b, d3, ?_⟩
    have kk := (k1.trans k2).trans k3
    by_cases hb' : b = true
    · rw [if_pos hb'] at p3 ⊢
      exact hc g σ H3 ρ Ω3 _ PX _ hG (R.keep kk o3) p3 (fun w Ω4 ww H4 p4 k4 o4 d4 => hr' g H4 Ω4 u ww y w P Q o4 (d2.keep (k3.trans k4)) d4 p4 (q.at (kk.trans k4))) (qx.at kk)
    · rw [if_neg hb'] at p3 ⊢
      exact q _ Ω3 _ H3 p3 kk o3 rfl)) (qx.at k1)) qx
/-! ### readings of written trees -/
theorem kindT_non  : kindT .non = some "NoneType" := rfl
theorem isNonT_non  : isNonT .non = true := rfl
theorem flatT_non  : flatT .non = true := rfl
theorem flatK_non  : flatK .non = true := rfl
theorem isBT_non_true  : isBT true .non = false := rfl
theorem isBT_non_false  : isBT false .non = false := rfl
theorem toV_non  : toV Tr.non = V.non := rfl
theorem ofV_non  : ofV V.non = Tr.non := rfl
theorem keyT_non  : keyT .non = none := rfl
theorem isT_non_int  : isT .non "int" = false := show isK "NoneType" "int" = false from by decide +kernel
theorem isT_non_bool  : isT .non "bool" = false := show isK "NoneType" "bool" = false from by decide +kernel
theorem isT_non_str  : isT .non "str" = false := show isK "NoneType" "str" = false from by decide +kernel
theorem isT_non_list  : isT .non "list" = false := show isK "NoneType" "list" = false from by decide +kernel
theorem isT_non_tuple  : isT .non "tuple" = false := show isK "NoneType" "tuple" = false from by decide +kernel
theorem isT_non_dict  : isT .non "dict" = false := show isK "NoneType" "dict" = false from by decide +kernel
theorem kindT_bl {b : Bool} : kindT (.bl b) = some "bool" := rfl
theorem isNonT_bl {b : Bool} : isNonT (.bl b) = false := rfl
theorem flatT_bl {b : Bool} : flatT (.bl b) = true := rfl
theorem flatK_bl {b : Bool} : flatK (.bl b) = true := rfl
theorem toV_bl {b : Bool} : toV (Tr.bl b) = (V.bl b) := rfl
theorem ofV_bl {b : Bool} : ofV (V.bl b) = (Tr.bl b) := rfl
theorem keyT_bl {b : Bool} : keyT (.bl b) = none := rfl
theorem isT_bl_int {b : Bool} : isT (.bl b) "int" = true := show isK "bool" "int" = true from by decide +kernel
theorem isT_bl_bool {b : Bool} : isT (.bl b) "bool" = true := show isK "bool" "bool" = true from by decide +kernel
theorem isT_bl_str {b : Bool} : isT (.bl b) "str" = false := show isK "bool" "str" = false from by decide +kernel
theorem isT_bl_list {b : Bool} : isT (.bl b) "list" = false := show isK "bool" "list" = false from by decide +kernel
theorem isT_bl_tuple {b : Bool} : isT (.bl b) "tuple" = false := show isK "bool" "tuple" = false from by decide +kernel
theorem isT_bl_dict {b : Bool} : isT (.bl b) "dict" = false := show isK "bool" "dict" = false from by decide +kernel
theorem kindT_int {i : Int} : kindT (.int i) = some "int" := rfl
theorem isNonT_int {i : Int} : isNonT (.int i) = false := rfl
theorem flatT_int {i : Int} : flatT (.int i) = true := rfl
theorem flatK_int {i : Int} : flatK (.int i) = true := rfl
theorem isBT_int_true {i : Int} : isBT true (.int i) = false := rfl
theorem isBT_int_false {i : Int} : isBT false (.int i) = false := rfl
theorem toV_int {i : Int} : toV (Tr.int i) = (V.int i) := rfl
theorem ofV_int {i : Int} : ofV (V.int i) = (Tr.int i) := rfl
theorem keyT_int {i : Int} : keyT (.int i) = some (.inl i) := rfl
theorem isT_int_int {i : Int} : isT (.int i) "int" = true := show isK "int" "int" = true from by decide +kernel
theorem isT_int_bool {i : Int} : isT (.int i) "bool" = false := show isK "int" "bool" = false from by decide +kernel
theorem isT_int_str {i : Int} : isT (.int i) "str" = false := show isK "int" "str" = false from by decide +kernel
theorem isT_int_list {i : Int} : isT (.int i) "list" = false := show isK "int" "list" = false from by decide +kernel
theorem isT_int_tuple {i : Int} : isT (.int i) "tuple" = false := show isK "int" "tuple" = false from by decide +kernel
theorem isT_int_dict {i : Int} : isT (.int i) "dict" = false := show isK "int" "dict" = false from by decide +kernel
theorem kindT_str {x : Str} : kindT (.str x) = some "str" := rfl
theorem isNonT_str {x : Str} : isNonT (.str x) = false := rfl
theorem flatT_str {x : Str} : flatT (.str x) = true := rfl
theorem flatK_str {x : Str} : flatK (.str x) = true := rfl
theorem isBT_str_true {x : Str} : isBT true (.str x) = false := rfl
theorem isBT_str_false {x : Str} : isBT false (.str x) = false := rfl
theorem toV_str {x : Str} : toV (Tr.str x) = (V.str x) := rfl
theorem ofV_str {x : Str} : ofV (V.str x) = (Tr.str x) := rfl
theorem keyT_str {x : Str} : keyT (.str x) = some (.inr x) := rfl
theorem isT_str_int {x : Str} : isT (.str x) "int" = false := show isK "str" "int" = false from by decide +kernel
theorem isT_str_bool {x : Str} : isT (.str x) "bool" = false := show isK "str" "bool" = false from by decide +kernel
theorem isT_str_str {x : Str} : isT (.str x) "str" = true := show isK "str" "str" = true from by decide +kernel
theorem isT_str_list {x : Str} : isT (.str x) "list" = false := show isK "str" "list" = false from by decide +kernel
theorem isT_str_tuple {x : Str} : isT (.str x) "tuple" = false := show isK "str" "tuple" = false from by decide +kernel
theorem isT_str_dict {x : Str} : isT (.str x) "dict" = false := show isK "str" "dict" = false from by decide +kernel
theorem kindT_lst {ts : List Tr} : kindT (.lst ts) = some "list" := rfl
theorem isNonT_lst {ts : List Tr} : isNonT (.lst ts) = false := rfl
theorem flatT_lst {ts : List Tr} : flatT (.lst ts) = false := rfl
theorem flatK_lst {ts : List Tr} : flatK (.lst ts) = false := rfl
theorem isBT_lst_true {ts : List Tr} : isBT true (.lst ts) = false := rfl
theorem isBT_lst_false {ts : List Tr} : isBT false (.lst ts) = false := rfl
theorem lenT_lst {ts : List Tr} {Ω : Om} : lenT (.lst ts) Ω = some ts.length := rfl
theorem keyT_lst {ts : List Tr} : keyT (.lst ts) = none := rfl
theorem isT_lst_int {ts : List Tr} : isT (.lst ts) "int" = false := show isK "list" "int" = false from by decide +kernel
theorem isT_lst_bool {ts : List Tr} : isT (.lst ts) "bool" = false := show isK "list" "bool" = false from by decide +kernel
theorem isT_lst_str {ts : List Tr} : isT (.lst ts) "str" = false := show isK "list" "str" = false from by decide +kernel
theorem isT_lst_list {ts : List Tr} : isT (.lst ts) "list" = true := show isK "list" "list" = true from by decide +kernel
theorem isT_lst_tuple {ts : List Tr} : isT (.lst ts) "tuple" = false := show isK "list" "tuple" = false from by decide +kernel
theorem isT_lst_dict {ts : List Tr} : isT (.lst ts) "dict" = false := show isK "list" "dict" = false from by decide +kernel
theorem kindT_tup {ts : List Tr} : kindT (.tup ts) = some "tuple" := rfl
theorem isNonT_tup {ts : List Tr} : isNonT (.tup ts) = false := rfl
theorem flatT_tup {ts : List Tr} : flatT (.tup ts) = false := rfl
theorem flatK_tup {ts : List Tr} : flatK (.tup ts) = false := rfl
theorem isBT_tup_true {ts : List Tr} : isBT true (.tup ts) = false := rfl
theorem isBT_tup_false {ts : List Tr} : isBT false (.tup ts) = false := rfl
theorem lenT_tup {ts : List Tr} {Ω : Om} : lenT (.tup ts) Ω = some ts.length := rfl
theorem keyT_tup {ts : List Tr} : keyT (.tup ts) = none := rfl
theorem isT_tup_int {ts : List Tr} : isT (.tup ts) "int" = false := show isK "tuple" "int" = false from by decide +kernel
theorem isT_tup_bool {ts : List Tr} : isT (.tup ts) "bool" = false := show isK "tuple" "bool" = false from by decide +kernel
theorem isT_tup_str {ts : List Tr} : isT (.tup ts) "str" = false := show isK "tuple" "str" = false from by decide +kernel
theorem isT_tup_list {ts : List Tr} : isT (.tup ts) "list" = false := show isK "tuple" "list" = false from by decide +kernel
theorem isT_tup_tuple {ts : List Tr} : isT (.tup ts) "tuple" = true := show isK "tuple" "tuple" = true from by decide +kernel
theorem isT_tup_dict {ts : List Tr} : isT (.tup ts) "dict" = false := show isK "tuple" "dict" = false from by decide +kernel
theorem kindT_dic {ks : List Key} {ts : List Tr} : kindT (.dic ks ts) = some "dict" := rfl
theorem isNonT_dic {ks : List Key} {ts : List Tr} : isNonT (.dic ks ts) = false := rfl
theorem flatT_dic {ks : List Key} {ts : List Tr} : flatT (.dic ks ts) = false := rfl
theorem flatK_dic {ks : List Key} {ts : List Tr} : flatK (.dic ks ts) = false := rfl
theorem isBT_dic_true {ks : List Key} {ts : List Tr} : isBT true (.dic ks ts) = false := rfl
theorem isBT_dic_false {ks : List Key} {ts : List Tr} : isBT false (.dic ks ts) = false := rfl
theorem lenT_dic {ks : List Key} {ts : List Tr} {Ω : Om} : lenT (.dic ks ts) Ω = some ts.length := rfl
theorem keyT_dic {ks : List Key} {ts : List Tr} : keyT (.dic ks ts) = none := rfl
theorem isT_dic_int {ks : List Key} {ts : List Tr} : isT (.dic ks ts) "int" = false := show isK "dict" "int" = false from by decide +kernel
theorem isT_dic_bool {ks : List Key} {ts : List Tr} : isT (.dic ks ts) "bool" = false := show isK "dict" "bool" = false from by decide +kernel
theorem isT_dic_str {ks : List Key} {ts : List Tr} : isT (.dic ks ts) "str" = false := show isK "dict" "str" = false from by decide +kernel
theorem isT_dic_list {ks : List Key} {ts : List Tr} : isT (.dic ks ts) "list" = false := show isK "dict" "list" = false from by decide +kernel
theorem isT_dic_tuple {ks : List Key} {ts : List Tr} : isT (.dic ks ts) "tuple" = false := show isK "dict" "tuple" = false from by decide +kernel
theorem isT_dic_dict {ks : List Key} {ts : List Tr} : isT (.dic ks ts) "dict" = true := show isK "dict" "dict" = true from by decide +kernel
theorem kindT_obj {a : Addr} : kindT (.obj a) = none := rfl
theorem isNonT_obj {a : Addr} : isNonT (.obj a) = false := rfl
theorem flatT_obj {a : Addr} : flatT (.obj a) = false := rfl
theorem flatK_obj {a : Addr} : flatK (.obj a) = false := rfl
theorem isBT_obj_true {a : Addr} : isBT true (.obj a) = false := rfl
theorem isBT_obj_false {a : Addr} : isBT false (.obj a) = false := rfl
theorem keyT_obj {a : Addr} : keyT (.obj a) = none := rfl
theorem kindT_drw  : kindT .drw = none := rfl
theorem isNonT_drw  : isNonT .drw = false := rfl
theorem flatT_drw  : flatT .drw = false := rfl
theorem flatK_drw  : flatK .drw = false := rfl
theorem isBT_drw_true  : isBT true .drw = false := rfl
theorem isBT_drw_false  : isBT false .drw = false := rfl
theorem keyT_drw  : keyT .drw = none := rfl
theorem kindT_ty {n : String} : kindT (.ty n) = none := rfl
theorem isNonT_ty {n : String} : isNonT (.ty n) = false := rfl
theorem flatT_ty {n : String} : flatT (.ty n) = true := rfl
theorem flatK_ty {n : String} : flatK (.ty n) = false := rfl
theorem isBT_ty_true {n : String} : isBT true (.ty n) = false := rfl
theorem isBT_ty_false {n : String} : isBT false (.ty n) = false := rfl
theorem toV_ty {n : String} : toV (Tr.ty n) = (V.ty n) := rfl
theorem ofV_ty {n : String} : ofV (V.ty n) = (Tr.ty n) := rfl
theorem keyT_ty {n : String} : keyT (.ty n) = none := rfl
theorem asD_dic {ks : List Key} {ts : List Tr} {Ω : Om} : asD (.dic ks ts) Ω = some (ks, ts) := rfl
theorem isBT_bl {b c : Bool} : isBT b (.bl c) = decide (c = b) := rfl
theorem dAddG_int {i j : Int} {Ω : Om} {P : PT'} : dAddG (.int i) (.int j) Ω P = P (.int (i + j)) Ω := rfl
theorem dAddG_str {a b : Str} {Ω : Om} {P : PT'} : dAddG (.str a) (.str b) Ω P = (a.length + b.length ≤ sizeLine ∧ P (.str (a ++ b)) Ω) := rfl
theorem dAddG_tup {xs ys : List Tr} {Ω : Om} {P : PT'} : dAddG (.tup xs) (.tup ys) Ω P = (xs.length + ys.length ≤ 1000000 ∧ P (.tup (xs ++ ys)) Ω) := rfl
theorem dAddG_lst_lst {xs : List Tr} {ys : List Tr} {Ω : Om} {P : PT'} : dAddG (.lst xs) (.lst ys) Ω P = ∃ us ws, asL (.lst xs) Ω = some us ∧ asL (.lst ys) Ω = some ws ∧ us.length + ws.length ≤ 1000000 ∧ lstNew (us ++ ws) Ω P := rfl
theorem dAddG_lst_obj {xs : List Tr} {b : Addr} {Ω : Om} {P : PT'} : dAddG (.lst xs) (.obj b) Ω P = ∃ us ws, asL (.lst xs) Ω = some us ∧ asL (.obj b) Ω = some ws ∧ us.length + ws.length ≤ 1000000 ∧ lstNew (us ++ ws) Ω P := rfl
theorem dAddG_obj_lst {a : Addr} {ys : List Tr} {Ω : Om} {P : PT'} : dAddG (.obj a) (.lst ys) Ω P = ∃ us ws, asL (.obj a) Ω = some us ∧ asL (.lst ys) Ω = some ws ∧ us.length + ws.length ≤ 1000000 ∧ lstNew (us ++ ws) Ω P := rfl
theorem dAddG_obj_obj {a : Addr} {b : Addr} {Ω : Om} {P : PT'} : dAddG (.obj a) (.obj b) Ω P = ∃ us ws, asL (.obj a) Ω = some us ∧ asL (.obj b) Ω = some ws ∧ us.length + ws.length ≤ 1000000 ∧ lstNew (us ++ ws) Ω P := rfl
theorem dSlG_tup {ts : List Tr} {lo hi : Option Int} {Ω : Om} {P : PT'} : dSlG (.tup ts) lo hi Ω P = P (.tup (cutT ts lo hi)) Ω := rfl
theorem dSlG_str {z : Str} {lo hi : Option Int} {Ω : Om} {P : PT'} : dSlG (.str z) lo hi Ω P = (z.length ≤ sizeLine ∧ P (.str (cutS z lo hi)) Ω) := rfl
theorem dSlG_lst {xs : List Tr} {lo hi : Option Int} {Ω : Om} {P : PT'} : dSlG (.lst xs) lo hi Ω P = ∃ ts, asL (.lst xs) Ω = some ts ∧ (ts.length ≤ 1000000 → lstNew (cutT ts lo hi) Ω P) := rfl
theorem dSlG_obj {a : Addr} {lo hi : Option Int} {Ω : Om} {P : PT'} : dSlG (.obj a) lo hi Ω P = ∃ ts, asL (.obj a) Ω = some ts ∧ (ts.length ≤ 1000000 → lstNew (cutT ts lo hi) Ω P) := rfl
theorem tyN_int : (("int" : String) ∈ tyNames) = True := eq_true (by decide)
theorem tyN_bool : (("bool" : String) ∈ tyNames) = True := eq_true (by decide)
theorem tyN_str : (("str" : String) ∈ tyNames) = True := eq_true (by decide)
theorem tyN_list : (("list" : String) ∈ tyNames) = True := eq_true (by decide)
theorem tyN_tuple : (("tuple" : String) ∈ tyNames) = True := eq_true (by decide)
theorem tyN_dict : (("dict" : String) ∈ tyNames) = True := eq_true (by decide)
/-! ### the draws, by the promises that stand -/
theorem of_aft {g : Gh} {H H' : Hp} {Ω : Om} {d s : Addr} (o : OmOk K g H Ω) (e : g.dr = some (d, s)) (a : Aft d s H H') : Keep g H Ω H' Ω ∧ OmOk K g H' Ω := by
  have hs : Ω s = none := by
    obtain ⟨_, _, _, _, _, _, _, _, h7, _⟩ := o.dr d s e
    exact h7
  have nx : ∀ b, (∀ d, g.dr ≠ some (d, b)) → b ≠ s := fun b h z => h d (by rw [z]; exact e)
  have nc : ∀ b, Ω b ≠ none → b ≠ s := fun b h z => h (by rw [z]; exact hs)
  have k : Keep g H Ω H' Ω := fun b u h hd q => ⟨a.kp b u (nx b hd) q, h⟩
  have np : ¬ g.pr s := by
    obtain ⟨_, _, _, _, _, _, _, _, _, _, _, p, _⟩ := o.dr d s e
    exact p
  refine ⟨k, fun d' s' q => ?_, fun b c q => ⟨(o.ce b c q).1, ?_⟩, fun p hp => (o.ex p hp).keep k, fun b hb => ?_⟩
  · rw [e] at q
    cases q
    exact (o.dr d s e).imp a.dr.st (fun b u hb _ q => a.kp b u hb q) fun _ h _ => h
  · obtain ⟨u, hu⟩ := (o.ce b c q).2.tracked
    have hb := nc b (by rw [q]; simp)
    exact (o.ce b c q).2.imp (by rw [a.kp b u hb hu, hu]) fun b' o' f q' => ⟨f, a.kp b' o' (nx b' f.2.1) q'⟩
  · obtain ⟨u, hu⟩ := o.pt b hb
    exact ⟨u, a.kp b u (fun z => np (z ▸ hb)) hu⟩
end
end LT

namespace LT
open PySem PySem.Spec PyProof.Rows L2 L2H LL
section
variable {prog : Program} {w : World} {A : Around} {E : Value → Shared → Prop} {s : Shared} {l : Addr} {its : List Value} {ns : List Int}
theorem min_intTup {xs : Array (Int × Tok)} {Q : Value → Shared → Prop} (hh : A.handled = none) (hl : s.heap.IsTuple l (intItems xs)) (hne : 0 < xs.size)
    (h : ∀ v h' tk, (intItems xs)[argBest (fun i j => decide (numAt xs i < numAt xs j)) (xs.size - 1)]? = some v → (∀ b o, s.heap.get? b = some o → h'.get? b = some o) → Q v { s with heap := h', toks := tk }) :
    wpAny (model prog w) A (call (.builtin "min") [.ref l]) Q E s := by
  have hlt : l < s.heap.objs.size := by obtain ⟨_, e, _⟩ := hl; exact Heap.lt_size e
  refine call_min_walk (wpAny_pyIter_tuple hl ?_)
  refine ⟨_, [_, l], [_], _, _, _, _, rfl, Walks.tuple (A := A.in1) hh _ l (Nat.ne_of_lt hlt) (intItems xs), ⟨⟨_, Heap.get?_push_size _ rfl, rfl, rfl⟩, hl.push _⟩, fun c hc => ?_, by simpa [intItems] using hne, CmpOf.ints_lt (numAt xs) (fun _ _ => intItems_at), fun v h' tk hP hk => ?_⟩
  · show c < (s.heap.push _).objs.size
    rw [Heap.size_push]
    rcases List.mem_cons.mp hc with rfl | hc
    · exact Nat.lt_succ_self _
    · rcases List.mem_cons.mp hc with rfl | hc
      · exact Nat.lt_succ_of_lt hlt
      · cases hc
  · refine h v h' tk (by simpa [intItems] using hP) fun b o e => ?_
    refine hk b o (fun hm => ?_) (Heap.get?_push_of_some _ e)
    rcases List.mem_cons.mp hm with e1 | hm
    · exact absurd (e1 ▸ Heap.lt_size e) (Nat.lt_irrefl _)
    · cases hm
theorem min_rawT {Q : Value → Shared → Prop} (hh : A.handled = none) (hl : s.heap.IsTuple l its.toArray) (hi : IntsAre its ns) (hne : 0 < ns.length)
    (h : ∀ h' tk M t', (∀ b o, s.heap.get? b = some o → h'.get? b = some o) → M ∈ ns → (∀ a, a ∈ ns → M ≤ a) → Q (.int M t') { s with heap := h', toks := tk }) : wpAny (model prog w) A (call (.builtin "min") [.ref l]) Q E s := by
  obtain ⟨xs, e⟩ := hi.allInts.items
  have hn : numsOf (intItems xs).toList = ns := by rw [← e]; exact hi.numsOf
  rw [nums_intItems] at hn
  subst hn
  rw [e] at hl
  have hsz : 0 < xs.size := by simpa using hne
  refine min_intTup hh hl hsz fun v h' tk hv hk => ?_
  obtain ⟨t, rfl⟩ := intItems_at hv
  obtain ⟨h1, h2⟩ := argBest_lt (numAt xs) (xs.size - 1)
  refine h h' tk _ t hk ?_ fun a ha => ?_
  · rw [numAt_eq]; exact PySem.getD_mem (by rw [List.length_map, Array.length_toList]; omega)
  · obtain ⟨j, hj, rfl⟩ := mem_getD ha
    rw [List.length_map, Array.length_toList] at hj
    rw [← numAt_eq]; exact h2 j (by omega)
end
/-- min(t), t a list or a tuple of ints -/
def rMinS (K : PySem.W.Frag) : List V → Hp → VK → Prop := fun vs H Q => ∃ (a : Addr) (ns : List Int), vs = [V.ref a] ∧ (SqL K H a (ns.map V.int) ∨ SqT K H a (ns.map V.int)) ∧ 0 < ns.length ∧ ∀ m, m ∈ ns → (∀ y, y ∈ ns → m ≤ y) → Q (.int m) H
theorem cr_minS {X : Cx} (hc : X.calm = true) : CallR X (.builtin "min") (rMinS X.K) := by
  intro pins s σ H vs us Q I r h
  obtain ⟨a, ns, rfl, hs, hne, q⟩ := h
  rcases hs with hs | hs
  · exact cr_min hc pins s σ H _ us Q I r ⟨a, ns, rfl, hs, hne, q⟩
  · obtain ⟨its, rv, hl, _⟩ := I.tuple hs
    rw [Vals.ref1 r]
    exact min_rawT (I.ok.hd hc) hl rv.ints hne fun h' tk m t' hk h1 h2 => ⟨.int _, H, I.kept hk, ⟨_, rfl⟩, q m h1 h2⟩
def dMinS : List Tr → Om → PT' → Prop := fun us Ω P => ∃ (t : Tr) (ns : List Int), us = [t] ∧ asS t Ω = some (ns.map Tr.int) ∧ 0 < ns.length ∧ ∀ m, m ∈ ns → (∀ y, y ∈ ns → m ≤ y) → P (.int m) Ω
theorem simc_minS {K : PySem.W.Frag} : SimC K (rMinS K) dMinS := fun g H Ω vs us P Q o d ⟨t, ns, e, h, h0, p⟩ q => by
  subst e
  obtain ⟨v, _, rfl, d, rfl⟩ := d
  obtain ⟨a, xs, rfl, s, dl, _⟩ := at_S o d h
  rw [vdl_ints dl] at s
  exact ⟨a, ns, rfl, s, h0, fun m h1 h2 => q _ Ω _ H (p m h1 h2) .refl o rfl⟩
/-! ### [x] * n -/
def dRep : Tr → Tr → Om → PT' → Prop := fun x y Ω P => ∃ ts k, asL x Ω = some ts ∧ y = .int k ∧ -(2 ^ 63) ≤ k ∧ k < 2 ^ 63 ∧ ts.length * k.toNat ≤ 1000000 ∧ lstNew (List.replicate k.toNat ts).flatten Ω P
theorem VDL.rep {K : PySem.W.Frag} {dr : Option (Addr × Addr)} {F : Addr → Prop} {H : Hp} {xs : List V} {ts : List Tr} (d : VDL K dr F H xs ts) : ∀ n : Nat, VDL K dr F H (List.replicate n xs).flatten (List.replicate n ts).flatten
  | 0 => rfl
  | n + 1 => by
    rw [List.replicate_succ, List.replicate_succ, List.flatten_cons, List.flatten_cons]
    exact d.app _ (VDL.rep d n)
theorem simr_rep {K : PySem.W.Frag} : SimR K rRep dRep := fun g H Ω x y tx ty P Q o d1 d2 ⟨ts, k, e, e2, h1, h2, hz, p⟩ q => by
  subst e2
  obtain ⟨a, xs, rfl, _, hh, dl, _⟩ := at_L o d1 e
  refine ⟨a, k, xs, rfl, d2, hh, h1, h2, by rw [dl.len]; exact size_ok hz, fun l n => new_lst o (dl.rep _) ?_ p q n⟩
  have : ∀ m : Nat, (List.replicate m ts).flatten.length = ts.length * m := fun m => by
    induction m with
    | zero => simp
    | succ m ih => rw [List.replicate_succ, List.flatten_cons, List.length_append, ih, Nat.mul_succ, Nat.add_comm]
  rw [this]; exact hz
/-! ### loops -/
section
variable {dg : DG} {db : DS} {D : DN} {ρ : En} {Ω : Om}
theorem stay_of {t : Tr} {ts : List Tr} (h : asS t Ω = some ts) : stay t ts Ω := by
  cases t with
  | obj a =>
    have h' : cellL (Ω a) = some ts := h
    cases e : Ω a with
    | none => rw [e] at h'; cases h'
    | some c =>
      cases c with
      | lst us => rw [e] at h'; cases h'; exact e
      | _ => rw [e] at h'; cases h'
  | _ => trivial
/-- over a list or a tuple in slot i -/
theorem for_S {i : Nat} {t : Tr} {ts : List Tr} (ht : ρ[i]? = some (some t)) (hs : asS t Ω = some ts) (W : Nat → En → Om → Prop) (w0 : W 0 ρ Ω) (wst : ∀ i ρ' Ω', W i ρ' Ω' → stay t ts Ω')
    (step : ts.length ≤ 1000000 → ∀ i x ρ' Ω', ts[i]? = some x → W i ρ' Ω' → dg x ρ' Ω' (fun ρ2 Ω2 => db { D with nx := W (i + 1), ct := W (i + 1), bk := D.nx } ρ2 Ω2) nox) (fin : ∀ ρ' Ω', W ts.length ρ' Ω' → D.nx ρ' Ω') : dFor (diS (dVar i)) dg db D ρ Ω :=
  ⟨t, ht, ts, hs, fun hz => ⟨W, w0, wst, step hz, fin⟩⟩
/-- over any list or tuple -/
theorem for_Se {de : DE} {t : Tr} {ts : List Tr} {Ω1 : Om} (he : ∀ P : PT', P t Ω1 → de ρ Ω P (fun y Ω' => D.ex ρ y Ω')) (hs : asS t Ω1 = some ts) (W : Nat → En → Om → Prop) (w0 : W 0 ρ Ω1) (wst : ∀ i ρ' Ω', W i ρ' Ω' → stay t ts Ω')
    (step : ts.length ≤ 1000000 → ∀ i x ρ' Ω', ts[i]? = some x → W i ρ' Ω' → dg x ρ' Ω' (fun ρ2 Ω2 => db { D with nx := W (i + 1), ct := W (i + 1), bk := D.nx } ρ2 Ω2) nox) (fin : ∀ ρ' Ω', W ts.length ρ' Ω' → D.nx ρ' Ω') : dFor (diS de) dg db D ρ Ω :=
  he _ ⟨ts, hs, fun hz => ⟨W, w0, wst, step hz, fin⟩⟩
/-- over range(a, b) -/
theorem for_R2 {da : DA} {a b : Int} {Ω1 : Om} (he : ∀ P : List Tr → Om → Prop, P [.int a, .int b] Ω1 → da ρ Ω P (fun y Ω' => D.ex ρ y Ω')) (hb : -(2 ^ 62) ≤ a ∧ a < 2 ^ 62 ∧ -(2 ^ 62) ≤ b ∧ b < 2 ^ 62) (W : Nat → En → Om → Prop) (w0 : W 0 ρ Ω1)
    (step : ∀ (i : Nat) ρ' Ω', i < (b - a).toNat → W i ρ' Ω' → dg (.int (a + i)) ρ' Ω' (fun ρ2 Ω2 => db { D with nx := W (i + 1), ct := W (i + 1), bk := D.nx } ρ2 Ω2) nox) (fin : ∀ ρ' Ω', W (b - a).toNat ρ' Ω' → D.nx ρ' Ω') : dFor (diR2 da) dg db D ρ Ω :=
  he _ ⟨a, b, rfl, hb, W, w0, fun _ _ _ _ => trivial, fun i t ρ' Ω' e w => by
    have hi : i < (b - a).toNat := by have := (List.getElem?_eq_some_iff.mp e).1; rwa [rngT_len] at this
    rw [rngT_get hi] at e
    cases e
    exact step i ρ' Ω' hi w, fun ρ' Ω' w => fin ρ' Ω' (by rwa [rngT_len] at w)⟩
/-- over range(n) -/
theorem for_R1 {da : DA} {n : Int} {Ω1 : Om} (he : ∀ P : List Tr → Om → Prop, P [.int n] Ω1 → da ρ Ω P (fun y Ω' => D.ex ρ y Ω')) (hb : -(2 ^ 62) ≤ n ∧ n < 2 ^ 62) (W : Nat → En → Om → Prop) (w0 : W 0 ρ Ω1)
    (step : ∀ (i : Nat) ρ' Ω', i < n.toNat → W i ρ' Ω' → dg (.int (i : Int)) ρ' Ω' (fun ρ2 Ω2 => db { D with nx := W (i + 1), ct := W (i + 1), bk := D.nx } ρ2 Ω2) nox) (fin : ∀ ρ' Ω', W n.toNat ρ' Ω' → D.nx ρ' Ω') : dFor (diR1 da) dg db D ρ Ω :=
  he _ ⟨n, rfl, hb.1, hb.2, W, w0, fun _ _ _ _ => trivial, fun i t ρ' Ω' e w => by
    have hi : i < n.toNat := by have := (List.getElem?_eq_some_iff.mp e).1; rwa [rngT_len] at this
    rw [rngT_get hi, Int.zero_add] at e
    cases e
    exact step i ρ' Ω' hi w, fun ρ' Ω' w => fin ρ' Ω' (by rwa [rngT_len] at w)⟩
/-- the same, the number drawn -/
theorem for_R1X {da : DA} {R : Int → Prop} {Ω1 : Om} (he : ∀ P : List Tr → Om → Prop, (∀ n : Int, R n → P [.int n] Ω1) → da ρ Ω P (fun y Ω' => D.ex ρ y Ω')) (hb : ∀ n, R n → -(2 ^ 62) ≤ n ∧ n < 2 ^ 62) (W : Int → Nat → En → Om → Prop) (w0 : ∀ n, R n → W n 0 ρ Ω1)
    (step : ∀ n, R n → ∀ (i : Nat) ρ' Ω', i < n.toNat → W n i ρ' Ω' → dg (.int (i : Int)) ρ' Ω' (fun ρ2 Ω2 => db { D with nx := W n (i + 1), ct := W n (i + 1), bk := D.nx } ρ2 Ω2) nox) (fin : ∀ n, R n → ∀ ρ' Ω', W n n.toNat ρ' Ω' → D.nx ρ' Ω') : dFor (diR1 da) dg db D ρ Ω :=
  he _ fun n hn => ⟨n, rfl, (hb n hn).1, (hb n hn).2, W n, w0 n hn, fun _ _ _ _ => trivial, fun i t ρ' Ω' e w => by
    have hi : i < n.toNat := by have := (List.getElem?_eq_some_iff.mp e).1; rwa [rngT_len] at this
    rw [rngT_get hi, Int.zero_add] at e
    cases e
    exact step n hn i ρ' Ω' hi w, fun ρ' Ω' w => fin n hn ρ' Ω' (by rwa [rngT_len] at w)⟩
end
/-- a comprehension over a list or a tuple, each item with its value -/
theorem map_S {de : DE} {t : Tr} {ts : List Tr} {ρ : En} {Ω : Om} {dg : DG} {del : DE} {vs : List Nat} {P : PT'} {PX : PXt} (he : ∀ P : PT', P t Ω → de ρ Ω P PX) (hs : asS t Ω = some ts) (f : Tr → Tr)
    (hm : ∀ t ρ (P P' : En → Om → Prop), (∀ a b, P a b → P' a b) → dg t ρ Ω P nox → dg t ρ Ω P' nox) (hf : ∀ x ∈ ts, ∀ Q : PT', Q (f x) Ω → dg x (wipeT ρ vs) Ω (fun ρ2 Ω2 => del ρ2 Ω2 Q nox) nox) (h : lstNew (ts.map f) Ω P) : dLc (diS de) dg dYes del vs ρ Ω P PX :=
  he _ ⟨ts, hs, fun hz => by
    refine ⟨hz, fun i acc Ω' => Ω' = Ω ∧ acc = (ts.map f).take i, ⟨rfl, rfl⟩, fun i acc Ω' e => e.1 ▸ stay_of hs, ?_, ?_⟩
    · rintro i x acc Ω' hx ⟨rfl, rfl⟩
      refine hm _ _ _ _ (fun a b z => ?_) (hf x (List.mem_of_getElem? hx) (fun y Ω4 => Ω4 = Ω' ∧ (ts.map f).take i ++ [y] = (ts.map f).take (i + 1)) ⟨rfl, ?_⟩)
      · simpa [dYes] using z
      · rw [take_one (x := f x) (by rw [List.getElem?_map, hx]; rfl)]
    · rintro acc Ω' ⟨rfl, rfl⟩
      rw [show ts.length = (ts.map f).length by rw [List.length_map], List.take_length]
      exact h⟩
theorem mono_dName {i : Nat} {Ω : Om} : ∀ t ρ (P P' : En → Om → Prop), (∀ a b, P a b → P' a b) → dName i t ρ Ω P nox → dName i t ρ Ω P' nox := fun _ _ _ _ h p => h _ _ p
theorem atI_0 {α : Type} {a : α} {r : List α} : atI (a :: r) 0 = some a := atI_nat (j := 0) rfl
theorem atI_1 {α : Type} {a b : α} {r : List α} : atI (a :: b :: r) 1 = some b := atI_nat (j := 1) rfl
theorem atI_2 {α : Type} {a b c : α} {r : List α} : atI (a :: b :: c :: r) 2 = some c := atI_nat (j := 2) rfl
theorem atI_3 {α : Type} {a b c d : α} {r : List α} : atI (a :: b :: c :: d :: r) 3 = some d := atI_nat (j := 3) rfl
theorem atI_4 {α : Type} {a b c d e : α} {r : List α} : atI (a :: b :: c :: d :: e :: r) 4 = some e := atI_nat (j := 4) rfl
theorem atI_5 {α : Type} {a b c d e f : α} {r : List α} : atI (a :: b :: c :: d :: e :: f :: r) 5 = some f := atI_nat (j := 5) rfl
theorem atI_6 {α : Type} {a b c d e f g : α} {r : List α} : atI (a :: b :: c :: d :: e :: f :: g :: r) 6 = some g := atI_nat (j := 6) rfl
theorem atI_7 {α : Type} {a b c d e f g h : α} {r : List α} : atI (a :: b :: c :: d :: e :: f :: g :: h :: r) 7 = some h := atI_nat (j := 7) rfl
theorem atI_8 {α : Type} {a b c d e f g h i : α} {r : List α} : atI (a :: b :: c :: d :: e :: f :: g :: h :: i :: r) 8 = some i := atI_nat (j := 8) rfl
theorem atI_9 {α : Type} {a b c d e f g h i j : α} {r : List α} : atI (a :: b :: c :: d :: e :: f :: g :: h :: i :: j :: r) 9 = some j := atI_nat (j := 9) rfl
theorem exq {α : Type} {a : α} {p : α → Prop} : (∃ x, some a = some x ∧ p x) = p a := by simp
theorem stay_put {t : Tr} {ts : List Tr} {Ω : Om} {a : Addr} {c : Cell} (h : asS t Ω = some ts) (ha : Ω a = none) : stay t ts (put Ω a c) := by
  have s := stay_of h
  cases t with
  | obj b =>
    show put Ω a c b = _
    rw [put_ne (fun z => by rw [z] at s; rw [show Ω a = _ from s] at ha; cases ha)]
    exact s
  | _ => trivial
theorem asS_put {t : Tr} {ts : List Tr} {Ω : Om} {a : Addr} {c : Cell} (h : asS t Ω = some ts) (ha : Ω a = none) : asS t (put Ω a c) = some ts := by
  cases t with
  | obj b =>
    have s : Ω b = some (.lst ts) := stay_of h
    exact asS_obj (by rw [put_ne (fun z => by rw [z] at s; rw [s] at ha; cases ha)]; exact s)
  | _ => exact h
theorem asL_put {a : Addr} {ts : List Tr} {Ω : Om} : asL (.obj a) (put Ω a (.lst ts)) = some ts := asL_obj put_same
/-- the list that was made is handed back as data -/
theorem ret_new {D : DN} {ρ : En} {Ω : Om} {i : Nat} {a : Addr} {ts : List Tr} (h1 : ρ[i]? = some (some (.obj a))) (ha : Ω a = none) (q : D.rt (.lst ts) Ω) : dRetT i (dVar i) D ρ (put Ω a (.lst ts)) :=
  .inr ⟨a, ts, h1, put_same, .lst ts, by rw [List.getElem?_set_self (List.getElem?_eq_some_iff.mp h1).1], by rw [cut_put ha]; exact q⟩
/-- a list that was made, as data, ahead of what follows -/
theorem thaw_new {d : DS} {D : DN} {ρ : En} {Ω : Om} {i : Nat} {a : Addr} {ts : List Tr} (h1 : ρ[i]? = some (some (.obj a))) (ha : Ω a = none) (q : d D (ρ.set i (some (.lst ts))) Ω) : dThaw i d D ρ (put Ω a (.lst ts)) :=
  .inr ⟨a, ts, h1, put_same, by rw [cut_put ha]; exact q⟩
/-- a slice of a list or a tuple, as data -/
theorem slice_S {c : Tr} {us : List Tr} {lo hi : Option Int} {Ω : Om} {P : PT'} (h : c = .lst us ∨ c = .tup us) (q : ∀ d, (d = .lst (cutT us lo hi) ∨ d = .tup (cutT us lo hi)) → P d Ω) : dSlG c lo hi Ω P := by
  rcases h with rfl | rfl
  · exact ⟨us, rfl, fun _ => .inl (q _ (.inl rfl))⟩
  · exact q _ (.inr rfl)
theorem seq_asS {d : Tr} {us : List Tr} {Ω : Om} (h : d = .lst us ∨ d = .tup us) : asS d Ω = some us := by
  rcases h with rfl | rfl <;> rfl
theorem seq_stay {d : Tr} {us : List Tr} {Ω : Om} (h : d = .lst us ∨ d = .tup us) : stay d us Ω := by
  rcases h with rfl | rfl <;> trivial
theorem cutT_nat {us : List Tr} {f k : Nat} (hf : f ≤ us.length) : cutT us (some (f : Int)) (some (k : Int)) = (us.drop f).take (k - f) := by
  unfold cutT
  rw [HT.sIx_nat, HT.sIx_nat, Nat.min_eq_left hf]
  rcases Nat.le_total k us.length with h | h
  · rw [Nat.min_eq_left h]
  · rw [Nat.min_eq_right h, List.take_of_length_le (by rw [List.length_drop]; exact Nat.le_refl _), List.take_of_length_le (by rw [List.length_drop]; omega)]
/-- over something that is the items us, a list or a tuple, as data -/
theorem for_SX {dg : DG} {db : DS} {D : DN} {ρ : En} {Ω : Om} {de : DE} {us : List Tr} (he : ∀ P : PT', (∀ d, (d = .lst us ∨ d = .tup us) → P d Ω) → de ρ Ω P (fun y Ω' => D.ex ρ y Ω')) (W : Nat → En → Om → Prop) (w0 : W 0 ρ Ω)
    (step : us.length ≤ 1000000 → ∀ i x ρ' Ω', us[i]? = some x → W i ρ' Ω' → dg x ρ' Ω' (fun ρ2 Ω2 => db { D with nx := W (i + 1), ct := W (i + 1), bk := D.nx } ρ2 Ω2) nox) (fin : ∀ ρ' Ω', W us.length ρ' Ω' → D.nx ρ' Ω') : dFor (diS de) dg db D ρ Ω :=
  he _ fun d hd => ⟨us, seq_asS hd, fun hz => ⟨W, w0, fun _ _ _ _ => seq_stay hd, step hz, fin⟩⟩
theorem pg_tupK {X : Cx} {K : PySem.W.Frag} {pos : Pos} {es : List Expr} {k : Nat} {t : TGs} {n : Nat} (hK : X.K = K) (hc : X.calm = true) (h : PGs X es t) (h1 : (assignEach es X.env).length = n := by rfl) (h2 : List.findIdx? (fun x => x.1) (assignEach es X.env) = none := by rfl) : PG X (.Tuple es k pos) (gTup K n t) := hK ▸ pg_tup hc h h1 h2
theorem pi_seqK {X : Cx} {K : PySem.W.Frag} {tg l : Expr} {te : TE} (hK : X.K = K) (hl : PE X l te) : PI X tg l (iSeq K te) := hK ▸ LL.pi_seq hl
def MonoG (dg : DG) : Prop := ∀ t ρ Ω (P P' : En → Om → Prop), (∀ a b, P a b → P' a b) → dg t ρ Ω P nox → dg t ρ Ω P' nox
def MonoGs (dg : DGs) : Prop := ∀ t ρ Ω (P P' : En → Om → Prop), (∀ a b, P a b → P' a b) → dg t ρ Ω P nox → dg t ρ Ω P' nox
theorem mg_name {i : Nat} : MonoG (dName i) := fun _ _ _ _ _ h p => h _ _ p
theorem mg_nil : MonoGs dgNil := fun _ _ _ _ _ h p => ⟨p.1, h _ _ p.2⟩
theorem mg_cons {d : DG} {u : DGs} (hd : MonoG d) (hu : MonoGs u) : MonoGs (dgCons d u) := fun ts ρ Ω P P' h ⟨t, r, e, p⟩ => ⟨t, r, e, hd _ _ _ _ _ (fun a b z => hu _ _ _ _ _ h z) p⟩
theorem mg_tup {n : Nat} {u : DGs} (hu : MonoGs u) : MonoG (dTupG n u) := fun t ρ Ω P P' h ⟨ts, e, l, p⟩ => ⟨ts, e, l, hu _ _ _ _ _ h p⟩
/-! ### written dicts -/
section
variable {K : PySem.W.Frag} {G : List (Value × Option Addr × XV) → Prop} {E : EK}
theorem new_dic {g : Gh} {H : Hp} {Ω : Om} {D : Addr} {kvs : List (Key × V)} {us : List (Key × Tr)} {P : PT'} {Q : VK} {H0 : Hp} {Ω0 : Om} (o : OmOk K (g.with D) H Ω) (npr : ¬ g.pr D) (nd : ∀ d, g.dr ≠ some (d, D)) (e : H D = some (.dK kvs)) (d : KVD K g.dr (NM (g.with D) Ω) H kvs us) (hz : us.length ≤ 1000000) (k : Keep g H0 Ω0 H Ω) (n0 : H0 D = none) (h : dicNew us Ω P) (q : After K g H0 Ω0 P Q) : Q (.ref D) H := by
  have nΩ : Ω D = none := by
    cases e : Ω D with
    | none => rfl
    | some c => exact absurd (.inr rfl) (o.ce D c e).1
  have hlen := d.len
  have ez : (us.map (·.1)).zip (kvs.map (·.2)) = kvs := by rw [← d.1]; exact LT.zip_fst_snd kvs
  rcases h with h | h
  · exact q _ Ω _ H h k o.less ⟨D, kvs.map (·.2), rfl, ⟨nΩ, nd, npr⟩, by rw [ez]; exact e, d.2.less, by simp, by rw [List.length_map]; omega⟩
  · have kc : Keep g H0 Ω0 H (put Ω D (.dic (us.map (·.1)) (us.map (·.2)))) := fun b u hb hd e => ⟨(k b u hb hd e).1, by rw [put_ne (ne_of_none e n0)]; exact (k b u hb hd e).2⟩
    exact q _ _ _ H (h D nΩ) kc (o.toCell npr ⟨kvs.map (·.2), by rw [ez]; exact e, (show VDL K (g.with D).dr (NM (g.with D) Ω) H (kvs.map (·.2)) (us.map (·.2)) from d.2), by simp, by rw [List.length_map]; omega⟩) rfl
def dNewD : DE := fun _ Ω P _ => dicNew [] Ω P
theorem sim_newD : SimE K G E tDNewK dNewD := fun g σ H ρ Ω P PX Q _ R p q _ D nD =>
  new_dic (us := []) (R.om.more nD) (not_pr R.om nD) (R.om.nodr nD) upd_same ⟨rfl, rfl⟩ (by simp) (.new nD) nD p q
def dDisp1 (dk dv : DE) : DE := fun ρ Ω P PX => dk ρ Ω (fun y Ω1 => dv ρ Ω1 (fun z Ω2 => ∃ k, keyT y = some k ∧ dicNew [(k, z)] Ω2 P) nox) nox
theorem sim_disp1 {tk tv : TE} {dk dv : DE} (hk : SimE K G E tk dk) (hv : SimE K G E tv dv) : SimE K G E (tDisp [(tk, tv)]) (dDisp1 dk dv) := fun g σ H ρ Ω P PX Q hG R p q _ D nD => by
  have o1 : OmOk K (g.with D) (upd H D (.dK [])) Ω := R.om.more nD
  have k1 : Keep g H Ω (upd H D (.dK [])) Ω := .new nD
  have nd := R.om.nodr nD
  have nΩ : ∀ {H2 : Hp} {Ω2 : Om}, OmOk K (g.with D) H2 Ω2 → Ω2 D = none := fun {H2 Ω2} o => by
    cases e : Ω2 D with
    | none => rfl
    | some c => exact absurd (.inr rfl) (o.ce D c e).1
  have R1 : Rel K (g.with D) σ (upd H D (.dK [])) ρ Ω := ⟨o1, R.len, fun j u e => by
    obtain ⟨v, h1, h2⟩ := R.env j u e
    exact ⟨v, h1, (h2.more nD).keep (g := g.with D) k1⟩⟩
  refine hk (g.with D) σ _ ρ Ω _ _ _ hG R1 p (fun y Ω1 v H1 p1 k2 o2 d2 => ?_) AfterX.nox
  refine hv (g.with D) σ H1 ρ Ω1 _ _ _ hG (R1.keep k2 o2) p1 (fun z Ω2 u H2 ⟨k, ek, p2⟩ k3 o3 d3 => ?_) AfterX.nox
  have e1 : H1 D = some (.dK []) := (k2 D _ (nΩ o1) nd upd_same).1
  have e2 : H2 D = some (.dK []) := (k3 D _ (nΩ o2) nd e1).1
  refine ⟨e2, [(k, u)], by rw [vd_key d2 ek]; rfl, by simp, ?_⟩
  have kk : Keep g H Ω (upd H2 D (.dK (mergeK [] [(k, u)]))) Ω2 := ((k1.trans k2).trans k3).prot nD
  exact new_dic o3.prot (not_pr R.om nD) nd upd_same (us := [(k, z)]) ⟨rfl, .one d3.prot⟩ (by simp) kk nD p2 q
end
end LT
namespace LT
open PySem PySem.Spec PyProof.Rows L2 L2H LL
section
variable {K : PySem.W.Frag} {G : List (Value × Option Addr × XV) → Prop} {E : EK}
/-- try .. except C as n, its reading kept folded -/
def tTryAs (K : PySem.W.Frag) (c : Value) (i : Nat) (tb : WX → TS) (ts : Addr → Value → Option Addr → TS) (Wout : WX) : TS := fun D σ H => tb (wAs K c i ts Wout D) D σ H
theorem ps_tryT {X : Cx} {x n : Str} {c : Value} {i : Nat} {body suite : List Stmt} {b₀ : Stmt} {np pos pos' : Pos} {tb : WX → TS} {ts : Addr → Value → Option Addr → TS} {Wout : WX} (hs : X.stack = X.env :: X.outer) (hf : X.env.frame = some X.env.locals) (hN : X.N.Nodup) (hi : X.N[i]? = some n) (hln : X.env.kindOf n = some .local) (hc : Names X x c) (tk : Takes X Wout)
    (hb : ∀ (W : WX) (pn : List (Addr × Obj)) (xe : Value → Shared → Prop), Takes (X.tr pn xe) W → PassesOwn (model X.prog X.w) X.A X.env xe → PSs (X.tr pn xe) body (tb W))
    (hsu : ∀ (a : Addr) (oe : Obj) (cls : Value) (d : Option Addr) (pn : List (Addr × Obj)), Zc cls d oe → (∃ vs, oe.data = .fields vs) → PSs (X.suite a ((a, oe) :: pn)) (b₀ :: suite) (ts a cls d)) :
    PS X (.Try body [.ExceptHandler (some (.Name x np)) (some n) (b₀ :: suite) pos'] [] [] pos) (tTryAs X.K c i tb ts Wout) := ps_try_as hs hf hN hi hln hc tk hb hsu
theorem sim_tryT {c : Value} {i : Nat} {tb : WX → TS} {ts : Addr → Value → Option Addr → TS} {Wout : WX} {db : DS} {ds : Addr → XV → DS} (hE : ∀ σ cls d H, E σ cls d H = Wout cls d σ H) (hb : ∀ W : WX, SimS K G (WE W) (tb W) db)
    (hs : ∀ a cls d x, SimS K (GX G cls d x) (fun _ _ _ _ => False) (ts a cls d) (ds a x)) : SimS K G E (tTryAs K c i tb ts Wout) (dTry K c i db ds) := sim_try hE hb hs
theorem pickP {us : List Tr} {v : Int} {P : Tr → Prop} (h0 : 0 ≤ v) (h1 : v < us.length) (h : ∀ x ∈ us, P x) : ∃ x, L2.atI us v = some x ∧ P x := by
  obtain ⟨j, rfl⟩ := Int.eq_ofNat_of_zero_le h0
  have hj : j < us.length := by omega
  exact ⟨us[j], atI_nat (List.getElem?_eq_getElem hj), h _ (List.getElem_mem hj)⟩
end
end LT
namespace LT
open PySem PySem.Spec PyProof.Rows L2 L2H LL
section
variable {K : PySem.W.Frag} {G : List (Value × Option Addr × XV) → Prop} {E : EK}
/-- in a def that raises nothing: each exception is caught -/
def dTry0 (K : PySem.W.Frag) (c : Value) (i : Nat) (db : DS) (ds : Addr → XV → DS) : DS := fun DD ρ Ω => db { DD with ex := fun ρ' x Ω' => PySem.W.exmOne K (.ref (He.ga K x.cls)) c = some true ∧ ∀ a, ds a x { nx := fun ρ2 Ω2 => DD.nx (ρ2.set i none) Ω2, rt := DD.rt, bk := fun ρ2 Ω2 => DD.bk (ρ2.set i none) Ω2, ct := fun ρ2 Ω2 => DD.ct (ρ2.set i none) Ω2, ex := fun _ _ _ => False } (ρ'.set i (some (.obj a))) Ω' } ρ Ω
theorem sim_tryT0 {c : Value} {i : Nat} {tb : WX → TS} {ts : Addr → Value → Option Addr → TS} {db : DS} {ds : Addr → XV → DS} (hb : ∀ W : WX, SimS K G (WE W) (tb W) db)
    (hs : ∀ a cls d x, SimS K (GX G cls d x) (fun _ _ _ _ => False) (ts a cls d) (ds a x)) : SimS K G E (tTryAs K c i tb ts (fun _ _ _ _ => False)) (dTry0 K c i db ds) := fun g σ H ρ Ω D DD hG R p e => by
  refine hb _ g σ H ρ Ω D _ hG R p ⟨e.nx, e.rt, e.bk, e.ct, fun x ρ' Ω' σ' cls d H' ⟨eb, h1⟩ k R' xr => ?_⟩
  have ec : cls = .ref (He.ga K x.cls) := xr.1
  refine ⟨true, by rw [ec]; exact eb, fun hb' a na => ?_, fun hb' => by cases hb'⟩
  refine hs a cls d x (g.and (cls, d, x)) _ H' _ Ω' _ _ ⟨g.ex, rfl, hG⟩ ((R'.set (v := .ref a) (t := .obj a) rfl).and xr) (h1 a) ⟨fun ρ2 Ω2 σ2 H2 p2 k2 r2 => e.nx _ Ω2 _ H2 p2 (k.trans k2) r2.drop.none, fun t Ω2 v H2 p2 k2 o2 d2 => e.rt t Ω2 v H2 p2 (k.trans k2) o2.drop d2, fun ρ2 Ω2 σ2 H2 p2 k2 r2 => e.bk _ Ω2 _ H2 p2 (k.trans k2) r2.drop.none, fun ρ2 Ω2 σ2 H2 p2 k2 r2 => e.ct _ Ω2 _ H2 p2 (k.trans k2) r2.drop.none, fun _ _ _ _ _ _ _ z => z.elim⟩
end
end LT
namespace LT
open PySem PySem.Spec PyProof.Rows L2 L2H LL
/-- a loop that may be left at two places: what comes behind it once -/
theorem for_cut {di : DI} {dg : DG} {db : DS} {D : DN} {ρ : En} {Ω : Om} (R : En → Om → Prop) (h1 : ∀ ρ' Ω', R ρ' Ω' → D.nx ρ' Ω') (h2 : ∀ N : En → Om → Prop, (∀ ρ' Ω', R ρ' Ω' → N ρ' Ω') → dFor di dg db { D with nx := N } ρ Ω) : dFor di dg db D ρ Ω := h2 D.nx h1
/-- a comprehension with a condition -/
theorem flt_S {de : DE} {t : Tr} {ts : List Tr} {ρ : En} {Ω : Om} {dg : DG} {dt : DT} {del : DE} {vs : List Nat} {P : PT'} {PX : PXt} (he : ∀ P : PT', P t Ω → de ρ Ω P PX) (hs : asS t Ω = some ts) (f : Tr → Tr) (b : Tr → Bool)
    (hf : ∀ x ∈ ts, ∀ (Q : PT') (N : Om → Prop), (b x = true → Q (f x) Ω) → (b x = false → N Ω) → dg x (wipeT ρ vs) Ω (fun ρ2 Ω2 => dt ρ2 Ω2 (fun k Ω3 => if k = true then del ρ2 Ω3 Q nox else N Ω3) nox) nox) (h : lstNew ((ts.filter b).map f) Ω P) : dLc (diS de) dg dt del vs ρ Ω P PX :=
  he _ ⟨ts, hs, fun hz => by
    refine ⟨hz, fun i acc Ω' => Ω' = Ω ∧ acc = ((ts.take i).filter b).map f, ⟨rfl, rfl⟩, fun i acc Ω' e => e.1 ▸ stay_of hs, ?_, ?_⟩
    · rintro i x acc Ω' hx ⟨rfl, rfl⟩
      have e1 : ts.take (i + 1) = ts.take i ++ [x] := take_one hx
      refine hf x (List.mem_of_getElem? hx) (fun y Ω4 => Ω4 = Ω' ∧ ((ts.take i).filter b).map f ++ [y] = ((ts.take (i + 1)).filter b).map f) (fun Ω3 => Ω3 = Ω' ∧ ((ts.take i).filter b).map f = ((ts.take (i + 1)).filter b).map f) (fun hb => ⟨rfl, ?_⟩) (fun hb => ⟨rfl, ?_⟩)
      · rw [e1, List.filter_append, List.map_append, List.filter_cons, hb]; rfl
      · rw [e1, List.filter_append, List.map_append, List.filter_cons, hb]; exact (List.append_nil _).symm
    · rintro acc Ω' ⟨rfl, rfl⟩
      rw [List.take_length]
      exact h⟩
theorem cutT_from {us : List Tr} {f : Nat} (hf : f ≤ us.length) : cutT us (some (f : Int)) none = us.drop f := by
  have h := cutT_nat (us := us) (f := f) (k := us.length) hf
  have e : cutT us (some (f : Int)) none = cutT us (some (f : Int)) (some (us.length : Int)) := by
    unfold cutT
    rw [HT.sIx_nat us.length us.length us.length, Nat.min_self]; rfl
  rw [e, h, List.take_of_length_le]
  rw [List.length_drop]; omega
theorem cutT_to {us : List Tr} {k : Nat} : cutT us none (some (k : Int)) = us.take k := by
  have h := cutT_nat (us := us) (f := 0) (k := k) (Nat.zero_le _)
  have e : cutT us none (some (k : Int)) = cutT us (some ((0 : Nat) : Int)) (some (k : Int)) := by
    unfold cutT
    rw [HT.sIx_nat us.length 0 0, Nat.zero_min]; rfl
  rw [e, h]; rfl
end LT
namespace LT
open PySem PySem.Spec PyProof.Rows L2 L2H LL
/-- over a list of which only a fact about its items is known -/
theorem for_SR {dg : DG} {db : DS} {D : DN} {ρ : En} {Ω : Om} {de : DE} (R : Tr → Prop) (he : ∀ P : PT', (∀ us, (∀ x ∈ us, R x) → P (.lst us) Ω) → de ρ Ω P (fun y Ω' => D.ex ρ y Ω')) (W : En → Om → Prop) (w0 : W ρ Ω)
    (step : ∀ x ρ' Ω', R x → W ρ' Ω' → dg x ρ' Ω' (fun ρ2 Ω2 => db { D with nx := W, ct := W, bk := D.nx } ρ2 Ω2) nox) (fin : ∀ ρ' Ω', W ρ' Ω' → D.nx ρ' Ω') : dFor (diS de) dg db D ρ Ω :=
  he _ fun us hus => ⟨us, rfl, fun hz => ⟨fun _ => W, w0, fun _ _ _ _ => trivial, fun i x ρ' Ω' hx w => step x ρ' Ω' (hus x (List.mem_of_getElem? hx)) w, fin⟩⟩
/-- a comprehension over range(n), its items known -/
theorem map_R1 {da : DA} {n : Int} {ρ : En} {Ω : Om} {dg : DG} {del : DE} {vs : List Nat} {P : PT'} {PX : PXt} (he : ∀ P : List Tr → Om → Prop, P [.int n] Ω → da ρ Ω P PX) (hb : 0 ≤ n ∧ n ≤ 1000000) (f : Nat → Tr)
    (hf : ∀ i : Nat, i < n.toNat → ∀ Q : PT', Q (f i) Ω → dg (.int (i : Int)) (wipeT ρ vs) Ω (fun ρ2 Ω2 => dYes ρ2 Ω2 (fun b Ω3 => if b = true then del ρ2 Ω3 Q nox else False) nox) nox) (hm : MonoG dg) (h : lstNew ((List.range n.toNat).map f) Ω P) : dLc (diR1 da) dg dYes del vs ρ Ω P PX :=
  he _ ⟨n, rfl, by omega, by omega, by
    refine ⟨by rw [rngT_len]; omega, fun i acc Ω' => Ω' = Ω ∧ acc = ((List.range n.toNat).map f).take i, ⟨rfl, rfl⟩, fun _ _ _ _ => trivial, ?_, ?_⟩
    · rintro i x acc Ω' e ⟨rfl, rfl⟩
      have hi : i < n.toNat := by have := (List.getElem?_eq_some_iff.mp e).1; rwa [rngT_len] at this
      rw [rngT_get hi, Int.zero_add] at e
      cases e
      refine hm _ _ _ _ _ (fun a b z => ?_) (hf i hi (fun y Ω4 => Ω4 = Ω' ∧ ((List.range n.toNat).map f).take i ++ [y] = ((List.range n.toNat).map f).take (i + 1)) ⟨rfl, ?_⟩)
      · simpa [dYes] using z
      · rw [take_one (x := f i) (by rw [List.getElem?_map, List.getElem?_range hi]; rfl)]
    · rintro acc Ω' ⟨rfl, rfl⟩
      rw [rngT_len, List.take_of_length_le (by simp)]
      exact h⟩
/-- a comprehension over range(n), both drawn -/
theorem map_R1R {da : DA} {ρ : En} {Ω : Om} {dg : DG} {del : DE} {vs : List Nat} {P : PT'} {PX : PXt} (A : Tr → Prop) (he : ∀ P : List Tr → Om → Prop, (∀ n : Int, 0 ≤ n → n ≤ 1000000 → P [.int n] Ω) → da ρ Ω P PX)
    (hf : ∀ (i : Nat), i < 1000000 → ∀ (Q : PT'), (∀ t, A t → Q t Ω) → dg (.int (i : Int)) (wipeT ρ vs) Ω (fun ρ2 Ω2 => dYes ρ2 Ω2 (fun b Ω3 => if b = true then del ρ2 Ω3 Q nox else False) nox) nox) (hm : MonoG dg) (h : ∀ us : List Tr, us.length ≤ 1000000 → (∀ t ∈ us, A t) → lstNew us Ω P) : dLc (diR1 da) dg dYes del vs ρ Ω P PX :=
  he _ fun n n0 n1 => ⟨n, rfl, by omega, by omega, by
    refine ⟨by rw [rngT_len]; omega, fun i acc Ω' => Ω' = Ω ∧ acc.length = i ∧ ∀ t ∈ acc, A t, ⟨rfl, rfl, fun _ z => (List.not_mem_nil z).elim⟩, fun _ _ _ _ => trivial, ?_, ?_⟩
    · rintro i x acc Ω' e ⟨rfl, hl, ha⟩
      have hi : i < n.toNat := by have := (List.getElem?_eq_some_iff.mp e).1; rwa [rngT_len] at this
      rw [rngT_get hi, Int.zero_add] at e
      cases e
      refine hm _ _ _ _ _ (fun a b z => ?_) (hf i (by omega) (fun y Ω4 => Ω4 = Ω' ∧ (acc ++ [y]).length = i + 1 ∧ ∀ t ∈ acc ++ [y], A t) fun t ht => ⟨rfl, by rw [List.length_append, hl]; rfl, fun u hu => ?_⟩)
      · simpa [dYes] using z
      · rcases List.mem_append.mp hu with hu | hu
        · exact ha u hu
        · rw [List.mem_singleton.mp hu]; exact ht
    · rintro acc Ω' ⟨rfl, hl, ha⟩
      rw [rngT_len] at hl
      exact h acc (by omega) ha⟩
end LT

namespace LT
open PySem PySem.Spec PyProof.Rows L2 L2H LL
section
variable {K : PySem.W.Frag} {G : List (Value × Option Addr × XV) → Prop} {E : EK}
/-! ### a def that is called within an except suite -/
theorem dokH {P : Program} {w : World} {mg : Str → Option Value} {base : Heap} {x qual : Str} {params : Arguments} {body : List Stmt} {sc : Scope} {f : Addr} {fd : FuncData} {N ps : List Str} {k : Nat} {Pd : Pw} (F : FunD K x qual params body sc [] [] f fd) (S : FnScope N ps sc)
    (h : ∀ (cdv : Value) (A : Around) (outer : List Env) (s : Shared) (H : Hp) (E : XK) (p : Addr × Obj), Hot1 A p → RoomH k (A.deeper (envOfC qual sc s.heap.objs.size f cdv)) → ∃ t ds, PSs (cxH CX0 P w K mg base N qual sc f cdv A outer s H E p) body t ∧ SimS K (fun _ => True) (fun _ => E) t ds ∧
      ∀ ts Ω PQ PX, ts.length = ps.length → Pd ts Ω PQ PX → ds { nx := fun _ Ω' => PQ .non Ω', rt := PQ, ex := fun _ => PX } (ts.map some ++ List.replicate (N.length - ps.length) none) Ω) :
    FnH P w K mg base CX0 (k + 1) f fd ps (spD K Pd ps.length) := by
  obtain ⟨oc, od, dV, kV, doc, pm, an, cdv, ct, osl, rfl, lk, hcd, _, _⟩ := F.ex
  refine fn_ofH lk hcd S (fun vs H Q E ⟨g, Ω, ts, PQ, PX, hl, d, _⟩ => by rw [d.len]; exact hl) (fun A outer s H vs Q E p hot hr hsp => ?_)
  obtain ⟨g, Ω, ts, PQ, PX, hl, d, o, pp, q, qx⟩ := hsp
  obtain ⟨t, ds, h1, h2, h3⟩ := h cdv A outer s H E p hot hr
  refine ⟨t, h1, h2 g _ H _ Ω _ _ trivial ⟨o, ?_, fun i u e => ?_⟩ (h3 ts Ω PQ PX hl pp) ⟨fun ρ' Ω' σ' H' p k r => q _ Ω' _ H' p k r.om rfl, q, fun _ _ _ _ z => z.elim, fun _ _ _ _ z => z.elim, fun x ρ' Ω' σ' c dd H' p k r z => qx x Ω' c dd H' p k r.om z⟩⟩
  · show (vs.map some ++ List.replicate (N.length - vs.length) none).length = _
    rw [List.length_append, List.length_append, List.length_map, List.length_map, List.length_replicate, List.length_replicate, d.len, hl]
  · show ∃ v, (vs.map some ++ List.replicate (N.length - vs.length) none)[i]? = some (some v) ∧ _
    rw [List.getElem?_append] at e ⊢
    rw [List.length_map] at e ⊢
    rw [d.len]
    split at e
    · rename_i hlt
      rw [if_pos hlt]
      rw [List.getElem?_map] at e ⊢
      cases et : ts[i]? with
      | none => rw [et] at e; cases e
      | some t' =>
        rw [et] at e
        cases e
        obtain ⟨v, ev, dv⟩ := d.get' et
        exact ⟨v, by rw [ev]; rfl, dv⟩
    · have := List.mem_of_getElem? e
      rw [List.mem_replicate] at this
      exact absurd this.2 (by simp)
/-- what is never reached -/
def tDead : TS := fun _ _ _ => False
def dDead : DS := fun _ _ _ => False
theorem ps_dead {X : Cx} {s : Stmt} : PS X s tDead := ⟨fun pins s σ H D I h => h.elim⟩
theorem sim_dead : SimS K G E tDead dDead := fun g σ H ρ Ω D DD hG R h e => h.elim
theorem hot_deeper {A : Around} {env : Env} {p : Addr × Obj} (h : Hot1 A p) : Hot1 (A.deeper env) p := h
theorem pass0H {X : Cx} {E : XK} {σ : L2.St} : PassesAt CX0 X σ E := fun _ _ _ e s' I c => by
  exact (show False from c).elim
end
end LT
namespace LT
open PySem PySem.Spec PyProof.Rows L2 L2H LL
theorem law_cut {te : TE} {tg : TG} {rest : TS} {D : Ends} {σ : L2.St} {H : Hp} (C : L2.St → Hp → Prop) (h : ∀ N : L2.St → Hp → Prop, (∀ σ' H', C σ' H' → N σ' H') → tAsg te tg { D with nx := N } σ H) (h2 : ∀ σ' H', C σ' H' → rest D σ' H') : tSeq (tAsg te tg) rest D σ H := h _ h2
theorem law_sim {K : PySem.W.Frag} {E : EK} {rest : TS} {dr : DS} (sim : SimS K (fun _ => True) E rest dr) {d s : Addr} {H : Hp} {Q : VK} {σ : L2.St} {n : Nat} {v0 : Option V} (hs : σ = v0 :: some (.ref d) :: List.replicate n none) (D1 : Drw d s H) (q : ∀ H', Q (.bl true) H') (nx : L2.St → Hp → Prop)
    (h : dr { nx := fun _ _ => False, rt := fun t _ => t = .bl true, ex := fun _ => nox } (none :: some .drw :: List.replicate n none) (fun _ => none)) : rest { nx := nx, rt := Q } σ H := by
  subst hs
  refine sim ⟨some (d, s), fun _ => False, []⟩ _ H _ (fun _ => none) _ _ trivial ⟨?_, ?_, fun i t e => ?_⟩ h ⟨fun _ _ _ _ z => z.elim, fun t Ω' v H' e k o dv => ?_, fun _ _ _ _ z => z.elim, fun _ _ _ _ z => z.elim, fun _ _ _ _ _ _ _ z => z.elim⟩
  · refine ⟨fun d' s' e => ?_, (fun a c e => by cases e), (fun p hp => (List.not_mem_nil hp).elim), fun b z => (show False from z).elim⟩
    cases e
    obtain ⟨⟨c, h1, h2, ns, h3⟩, h4, h5⟩ := D1
    exact ⟨c, ns, h1, h2, h3, h4, h5, rfl, rfl, rfl, id, id, id⟩
  · rw [List.length_cons, List.length_cons, List.length_cons, List.length_cons, List.length_replicate, List.length_replicate]
  · match i, e with
    | 1, e =>
      cases e
      exact ⟨_, rfl, d, s, rfl, rfl⟩
    | i + 2, e =>
      have := List.mem_of_getElem? (show (List.replicate n (none : Option Tr))[i]? = some (some t) from e)
      rw [List.mem_replicate] at this
      cases this.2
  · have e' : t = .bl true := e
    subst e'
    rw [show v = .bl true from dv]
    exact q H'
end LT

namespace LT
open PySem PySem.Spec PyProof.Rows L2
/-- C(e, ..) makes an exception whose context is None -/
theorem pmkN {Y : Cx} {D : CXT} {cn : Str} {e0 : Expr} {er : List Expr} {t0 : TA} {p1 p2 : Pos} {Ca ia : Addr} {j : Nat} {fn : FuncData} {pn : List Str} {spc : Sp} {dv : List Value} {dw : List V} (o : OexC Y.K Ca) (i1 : PySem.W.findIn Y.K (.ref Ca) "__init__" = some (some (.ref ia))) (i2 : PySem.W.typeIn Y.K (.ref ia) = some (.type "function"))
    (f1 : FnOk Y.prog Y.w Y.K Y.mg Y.base D j ia fn pn spc) (room : Room (j + 1) Y.A) (bi : Binds Y.K fn pn dv) (dd : Vals dw dv) (px : Passes D Y (fun _ _ _ => False)) (gl : Gl Y cn) (mg : Y.mg cn = some (.ref Ca)) (args : PA Y (e0 :: er) t0)
    (nd : (cn == ("__debug__" : Str)) = false := by decide) (s1 : starEach (e0 :: er) Y.env = (false, eval e0 Y.env) :: starEach er Y.env := by rfl) (s2 : (backTo p2 (starEach er Y.env)).any (·.1) = false := by rfl) :
    L2N.PMk Y (.Call (.Name cn p1) (e0 :: er) [] p2) (tMkO Ca spc dw t0) := fun ps st ρ G W inv hyp => by
  obtain ⟨_, _, _, _, bm, _, _, _, _, _, _, _, _, _, _, cls, refs⟩ := o.cls
  refine wpAny_Call_Name_kw (ld_glob inv gl mg (PySem.W.callWith_K (h₀ := Y.base) inv.ok.mod.kin o.kC (thn (args.run p2 ps st ρ G _ inv hyp) fun ua ⟨hp, g, dr, tk, os⟩ ⟨vs, G1, inv1, rel, _, ask⟩ => ⟨inv1.kIn, ?_⟩) s1 s2) nd)
  have new : hp.objs.size ≤ hp.objs.size + 1 := Nat.le_succ _
  have call1 := ask (hp.objs.size + 1) (inv1.hok.fresh new)
  let h2 := (hp.push (PySem.W.kdv_tup ua)).push (PySem.HandSPX.excO Ca hp.objs.size)
  have keep : ∀ b ob, hp.get? b = some ob → h2.get? b = some ob := fun b ob z => Heap.get?_push_of_some _ (Heap.get?_push_of_some _ z)
  have there : h2.get? (hp.objs.size + 1) = some (PySem.HandSPX.excO Ca hp.objs.size) := by show ((hp.push _).push _).get? _ = _; heap_get
  have inv2 : Inv Y ps ρ (upd G1 (hp.objs.size + 1) (exo (hp.objs.size + 1) Ca none)) ⟨h2, g, dr, tk, os⟩ := inv1.laid (t' := tk) (o := exo (hp.objs.size + 1) Ca none) keep new (exo_ok there)
  have rel2 : Vals (V.ref (hp.objs.size + 1) :: (vs ++ dw)) (Value.ref (hp.objs.size + 1) :: (ua ++ dv)) := .cons rfl (rel.append dd)
  have len2 : (Value.ref (hp.objs.size + 1) :: ua ++ dv).length = pn.length := (f1.len _ _ _ _ call1 ▸ rel2.length).symm
  have small : ua.length ≤ sizeLine := by have := Paired.length rel; rw [sizeLine_eq]; omega
  refine wpAny_call (PySem.HandSPX.call_own F.excBase_ValueError (fun Z => PySem.HandSPX.refsVE_contains Z bm refs) (inv1.kIn _ _ cls) (PySem.W.looks_findIn inv1.kIn i1) (fun self => PySem.W.bind_fn inv1.kIn self i2) small (codeAny_mono (f1.run _ Y.stack _ _ ⟨Value.ref (hp.objs.size + 1) :: ua, []⟩ (Value.ref (hp.objs.size + 1) :: (ua ++ dv)) _ _ (fun _ _ _ => False) (room.make Ca ua []) (inv2.env0.make Ca ua []) (bi _ (Value.ref (hp.objs.size + 1) :: ua) inv2.kIn len2) rel2 call1) fun r fin out => ?_))
  match r, out with
  | .error er, out => exact px ps ρ _ _ er fin inv2 out
  | .ok (.ret u), ⟨v, G2, o2, ba2, un2, ho2, rv, ev, d, fs, ea, ed, n1, w2⟩ =>
    subst ev
    obtain ⟨hf, gf, df, tf, of⟩ := fin
    obtain ⟨t9, G9, J9, k9, ge9, he9, na9⟩ := mk_end0 (d2 := df) (t2 := tf) inv1 new keep un2 ho2 o2 ba2 ea ed n1
    exact ⟨rv, hp.objs.size + 1, _, _, ⟨G9, gf, df, tf, of⟩, _, .ref Ca, some d, rfl, J9, k9, ge9, he9, ⟨rfl, rfl, fun z hz => by cases hz; rfl⟩, rfl, rfl, na9, rfl, ba2, raises_own o.exC o.tyC, w2⟩
  | .ok .next, out => exact False.elim out
  | .ok .brk, out => exact False.elim out
  | .ok .cont, out => exact False.elim out
theorem takes0N {X : Cx} : L2N.Takes X (fun _ _ _ _ => False) := fun u s' z => by
  obtain ⟨_, _, _, _, _, _, _, _, _, _, _, _, _, _, _, _, w⟩ := z
  exact w.elim
theorem hotN {X : Cx} {a : Addr} {oe : Obj} {cls : Value} {d : Option Addr} {pn : List (Addr × Obj)} (hz : L2N.Zn cls d oe) (hf : ∃ vs, oe.data = .fields vs) : L2H.HotC (X.suite a ((a, oe) :: pn)) := by
  obtain ⟨vs, e⟩ := hf
  exact ⟨(a, oe), ⟨rfl, vs, e, hz.2.2 vs e⟩, List.mem_cons_self⟩
theorem ps_tryN {X : Cx} {x n : Str} {c : Value} {i : Nat} {body suite : List Stmt} {b₀ : Stmt} {np pos pos' : Pos} {tb : WX → TS} {ts : Addr → Value → Option Addr → TS} {Wout : WX} (hs : X.stack = X.env :: X.outer) (hf : X.env.frame = some X.env.locals) (hN : X.N.Nodup) (hi : X.N[i]? = some n) (hln : X.env.kindOf n = some .local) (hc : Names X x c) (tk : L2N.Takes X Wout)
    (hb : ∀ (W : WX) (pn : List (Addr × Obj)) (xe : Value → Shared → Prop), L2N.Takes (X.tr pn xe) W → PassesOwn (model X.prog X.w) X.A X.env xe → PSs (X.tr pn xe) body (tb W))
    (hsu : ∀ (a : Addr) (oe : Obj) (cls : Value) (d : Option Addr) (pn : List (Addr × Obj)), L2N.Zn cls d oe → (∃ vs, oe.data = .fields vs) → PSs (X.suite a ((a, oe) :: pn)) (b₀ :: suite) (ts a cls d)) :
    PS X (.Try body [.ExceptHandler (some (.Name x np)) (some n) (b₀ :: suite) pos'] [] [] pos) (tTryAs X.K c i tb ts Wout) := L2N.ps_try_as hs hf hN hi hln hc tk hb hsu
end LT

/-! zip of two, each a list or a tuple -/
namespace LL
open PySem PySem.Spec PyProof.Rows L2
/-- b: a tuple; else a list -/
def SqB (K : PySem.W.Frag) (b : Bool) (H : Hp) (a : Addr) (xs : List V) : Prop := if b = true then SqT K H a xs else SqL K H a xs
def itB (b : Bool) (h : Heap) (j a : Addr) (n : Nat) : Prop := if b = true then h.IsTupleIter j a n else h.IsListIter j a n
def isB (b : Bool) (h : Heap) (a : Addr) (xs : Array Value) : Prop := if b = true then h.IsTuple a xs else h.IsList a xs
theorem itB_obj {b : Bool} {h : Heap} {j a : Addr} {n : Nat} (e : itB b h j a n) : ∃ o, h.get? j = some o ∧ ∃ vs, o.data = .fields vs := by
  cases b
  · obtain ⟨o, e1, _, e2⟩ := (show h.IsListIter j a n from e)
    exact ⟨o, e1, _, e2⟩
  · obtain ⟨o, e1, _, e2⟩ := (show h.IsTupleIter j a n from e)
    exact ⟨o, e1, _, e2⟩
theorem itB_at {b : Bool} {h h' : Heap} {j a : Addr} {n : Nat} (e : itB b h j a n) (k : ∀ o, h.get? j = some o → h'.get? j = some o) : itB b h' j a n := by
  cases b
  · exact (show h.IsListIter j a n from e).at k
  · exact (show h.IsTupleIter j a n from e).at k
theorem drawsB {prog : Program} {w : World} {A : Around} (hh : A.handled = none) (b : Bool) (j a : Addr) (hne : a ≠ j) (xs : List Value) : Draws prog w A j [j, a] xs.length (fun i v => xs[i]? = some v) (fun i h => itB b h j a i ∧ isB b h a xs.toArray) := by
  have e : (fun (i : Nat) (v : Value) => xs.toArray[i]? = some v) = (fun (i : Nat) (v : Value) => xs[i]? = some v) := by
    funext i v
    simp
  rw [← e, ← List.size_toArray (as := xs)]
  cases b
  · exact Draws.list hh j a hne xs.toArray
  · exact Draws.tuple hh j a hne xs.toArray
theorem sqB_inv {X : Cx} {pins : List (Addr × Obj)} {σ : L2.St} {H : Hp} {s : Shared} {b : Bool} {a : Addr} {xs : List V} (I : Inv X pins σ H s) (h : SqB X.K b H a xs) : ∃ its : List Value, Vals xs its ∧ isB b s.heap a its.toArray := by
  cases b
  · obtain ⟨its, rv, p, _⟩ := I.list (show SqL X.K H a xs from h)
    exact ⟨its, rv, p.isList⟩
  · obtain ⟨its, rv, p, _⟩ := I.tuple (show SqT X.K H a xs from h)
    exact ⟨its, rv, p⟩
theorem sqB_inj {X : Cx} {pins : List (Addr × Obj)} {σ : L2.St} {H : Hp} {s : Shared} {b : Bool} {a : Addr} {xs ys : List V} (I : Inv X pins σ H s) (h : SqB X.K b H a xs) (k : SqB X.K b H a ys) : xs = ys := by
  cases b
  · exact I.list_inj (show SqL X.K H a xs from h) k
  · exact I.tuple_inj (show SqT X.K H a xs from h) k
/-- pairs of the items at a and at b -/
def ItzB (K : PySem.W.Frag) (b1 b2 : Bool) (a b : Addr) : It :=
  ⟨fun i H => ∃ xs ys x y, SqB K b1 H a xs ∧ SqB K b2 H b ys ∧ xs[i]? = some x ∧ ys[i]? = some y,
    fun i H v H' => ∃ T x y, v = .ref T ∧ H T = none ∧ H' = upd H T (.tup [x, y]) ∧ (∀ xs, SqB K b1 H a xs → xs[i]? = some x) ∧ (∀ ys, SqB K b2 H b ys → ys[i]? = some y),
    fun i H => ∃ xs ys, SqB K b1 H a xs ∧ SqB K b2 H b ys ∧ i ≤ xs.length ∧ i ≤ ys.length ∧ (i = xs.length ∨ i = ys.length)⟩
theorem turn_zipB {P : Program} {w : World} {K : PySem.W.Frag} {elts : List Expr} {kk : Nat} {tpos : Pos} {b1 b2 : Bool} {a b z TI TO j1 j2 : Addr} (S : ZipSep2 z TI TO j1 j2 [j1, a] [j2, b]) (n1 : a ≠ j1) (n2 : b ≠ j2) :
    Turn P w K (.Tuple elts kk tpos) (ItzB K b1 b2 a b) [z, TI, TO, j1, j2] z (fun i h => IsZip h z TI TO .none ∧ IsTupOf2 h TI (.ref j1) (.ref j2) ∧ (∃ x y, IsTupOf2 h TO x y) ∧ itB b1 h j1 a i ∧ itB b2 h j2 b i) where
  mem := List.mem_cons_self
  obj := fun i h st c hc => by
    obtain ⟨f1, f2, ⟨u, v, f3⟩, f4, f5⟩ := st
    simp only [List.mem_cons, List.not_mem_nil, or_false] at hc
    rcases hc with rfl | rfl | rfl | rfl | rfl
    · exact ⟨_, f1, fun _ e => nomatch e⟩
    · exact ⟨_, f2, fun _ e => nomatch e⟩
    · exact ⟨_, f3, fun _ e => nomatch e⟩
    · obtain ⟨o, e1, vs, e2⟩ := itB_obj f4
      exact ⟨o, e1, fun _ e => by rw [e2] at e; cases e⟩
    · obtain ⟨o, e1, vs, e2⟩ := itB_obj f5
      exact ⟨o, e1, fun _ e => by rw [e2] at e; cases e⟩
  keep := fun i h h' st k => by
    obtain ⟨f1, f2, ⟨u, v, f3⟩, f4, f5⟩ := st
    exact ⟨k z (by simp) _ f1, k TI (by simp) _ f2, ⟨u, v, k TO (by simp) _ f3⟩, itB_at f4 fun o e => k j1 (by simp) o e, itB_at f5 fun o e => k j2 (by simp) o e⟩
  item := by
    intro X eP ew eK hc i pins s σ H E I hf st hg
    subst eP ew eK
    obtain ⟨f1, f2, ⟨u0, v0, f3⟩, f4, f5⟩ := st
    obtain ⟨xs, ys, x, y, sx, sy, ex, ey⟩ := hg
    obtain ⟨as, ra, pa⟩ := sqB_inv I sx
    obtain ⟨bs, rb, pb⟩ := sqB_inv I sy
    obtain ⟨u, eu, ru⟩ := ra.get ex
    obtain ⟨v, ev, rv⟩ := rb.get ey
    have hzl : z < s.heap.objs.size := Heap.lt_size f1
    have hTl : TO < s.heap.objs.size := Heap.lt_size f3
    have hIl : TI < s.heap.objs.size := Heap.lt_size f2
    have h1l : j1 < s.heap.objs.size := by obtain ⟨_, e, _⟩ := itB_obj f4; exact Heap.lt_size e
    have h2l : j2 < s.heap.objs.size := by obtain ⟨_, e, _⟩ := itB_obj f5; exact Heap.lt_size e
    have hd : X.A.handled = none := I.ok.hd hc
    have D1 := drawsB (prog := X.prog) (w := X.w) (A := X.A.in1) hd b1 j1 a n1 as
    have D2 := drawsB (prog := X.prog) (w := X.w) (A := X.A.in1) hd b2 j2 b n2 bs
    refine wpAny_pyNext_zipD2_item S D1 D2 f1 f2 f3 (i := i) ⟨f4, pa⟩ ⟨f5, pb⟩ (List.getElem?_eq_some_iff.mp eu).1 (List.getElem?_eq_some_iff.mp ev).1 fun u' v' h' tk q1 q2 g1 g2 g3 g4 g5 _ hk => ?_
    rw [eu] at q1
    rw [ev] at q2
    cases q1
    cases q2
    refine ⟨_, rfl, wpAny_letOwnedTupleGo_zip (s := { s with heap := h', toks := tk }) g1 fun h2 g1' sb => ?_⟩
    have eT : h2.get? s.heap.objs.size = some { cls := .type "tuple", data := .seq #[u, v] } := (sb.2 _ (Nat.ne_of_gt hzl)).trans g5
    have fresh := I.hok.fresh (Nat.le_refl s.heap.objs.size)
    have ob : ObjOk X.prog X.w (upd H s.heap.objs.size (.tup [x, y])) h2 s.heap.objs.size (.tup [x, y]) := ⟨(show 2 ≤ sizeLine by decide), [u, v], .cons ru (.cons rv .nil), ⟨_, eT, rfl, _, rfl⟩⟩
    have kp : ∀ c o, c ∉ [z, TI, TO, j1, j2] → s.heap.get? c = some o → h2.get? c = some o := fun c o hb e => by
      simp only [List.mem_cons, List.not_mem_nil, or_false, not_or] at hb
      exact (sb.2 c hb.1).trans (hk c o hb.1 hb.2.2.1 hb.2.2.2.1 hb.2.2.2.2 e)
    have J : Inv X pins σ (upd H s.heap.objs.size (.tup [x, y])) { s with heap := h2, toks := tk } := I.turnedNew (t' := tk) (ch := [z, TI, TO, j1, j2]) kp hf (Nat.le_refl _) ob
    refine ⟨.ref s.heap.objs.size, _, J, rfl, ⟨_, x, y, rfl, fresh, rfl, fun l hl => by rw [sqB_inj I hl sx]; exact ex, fun l hl => by rw [sqB_inj I hl sy]; exact ey⟩, ⟨g1', ?_, ⟨u, v, ?_⟩, ?_, ?_⟩, fun c hcm => ?_⟩
    · exact (sb.2 _ S.TIz).trans (hk _ _ S.TIz S.TITO S.TIi1 S.TIi2 f2)
    · exact (sb.2 _ S.TOz).trans g2
    · exact itB_at g3.1 fun o e => (sb.2 _ S.zi1.symm).trans e
    · exact itB_at g4.1 fun o e => (sb.2 _ S.zi2.symm).trans e
    · have hlt : c < s.heap.objs.size := by
        simp only [List.mem_cons, List.not_mem_nil, or_false] at hcm
        rcases hcm with rfl | rfl | rfl | rfl | rfl <;> assumption
      rw [upd_ne (Nat.ne_of_lt hlt)]
      exact (hf c hcm).1
  done := by
    intro X eP ew eK hc i pins s σ H E I hf st hg
    subst eP ew eK
    obtain ⟨f1, f2, ⟨u0, v0, f3⟩, f4, f5⟩ := st
    obtain ⟨xs, ys, sx, sy, l1, l2, hend⟩ := hg
    obtain ⟨as, ra, pa⟩ := sqB_inv I sx
    obtain ⟨bs, rb, pb⟩ := sqB_inv I sy
    have e1 : xs.length = as.length := ra.length
    have e2 : ys.length = bs.length := rb.length
    have hd : X.A.handled = none := I.ok.hd hc
    have D1 := drawsB (prog := X.prog) (w := X.w) (A := X.A.in1) hd b1 j1 a n1 as
    have D2 := drawsB (prog := X.prog) (w := X.w) (A := X.A.in1) hd b2 j2 b n2 bs
    refine wpAny_pyNext_zipD2_end S D1 D2 f1 f2 f3 (i := i) ⟨f4, pa⟩ ⟨f5, pb⟩ (by omega) (by omega) (by omega) fun h' tk hk => ⟨rfl, I.turnedL (t' := tk) (ch := [z, TI, TO, j1, j2]) (fun c o hb e => ?_) hf⟩
    simp only [List.mem_cons, List.not_mem_nil, or_false, not_or] at hb
    exact hk c o hb.1 hb.2.2.1 hb.2.2.2.1 hb.2.2.2.2 e
  self := fun A i s Q E st h => wpAny_pyIter_zip st.1 h
def iZipB (K : PySem.W.Frag) (ta : TA) : TI := fun σ H R => ta σ H fun vs H1 => ∃ b1 b2 a b xs ys, vs = [.ref a, .ref b] ∧ SqB K b1 H1 a xs ∧ SqB K b2 H1 b ys ∧ R (ItzB K b1 b2 a b) H1
theorem beginsB (b : Bool) (a : Addr) (xs : Array Value) : ∃ o, Begins (.ref a) o (fun h => isB b h a xs) ∧ ∀ h j, h.get? j = some o → itB b h j a 0 := by
  cases b
  · exact ⟨_, begins_list a xs, fun h j e => ⟨_, e, rfl, rfl⟩⟩
  · exact ⟨_, begins_tuple a xs, fun h j e => ⟨_, e, rfl, rfl⟩⟩
theorem isB_lt {b : Bool} {h : Heap} {a : Addr} {xs : Array Value} (e : isB b h a xs) : a < h.objs.size := by
  cases b
  · obtain ⟨o, q, _⟩ := (show h.IsList a xs from e)
    exact Heap.lt_size q
  · obtain ⟨o, q, _⟩ := (show h.IsTuple a xs from e)
    exact Heap.lt_size q
theorem pi_zipB {X : Cx} {e e2 : Expr} {ta : TA} {p pos tpos : Pos} {elts : List Expr} {kk : Nat} {K : PySem.W.Frag} (hK : X.K = K) (hg : Gl X "zip") (hm : X.mg "zip" = none) (ha : PA X [e, e2] ta)
    (hs : starEach [e, e2] X.env = (false, eval e X.env) :: starEach [e2] X.env := by rfl) (hpl : (backTo pos (starEach [e2] X.env)).any (·.1) = false := by rfl) : PI X (.Tuple elts kk tpos) (.Call (.Name "zip" p) [e, e2] [] pos) (iZipB K ta) := by
  subst hK
  refine ⟨fun pins s σ H R I h => Call_ (ld_blt I hg hm PyProof.Rows.boot_zip (PyProof.Rows.callWith_type1 (thn (ha.run pos pins s σ H _ I h) fun us s1 ⟨vs, H1, I1, r1, q1⟩ => ?_) hs hpl))⟩
  obtain ⟨b1, b2, a, b, xs, ys, rfl, sx, sy, q⟩ := q1
  cases r1 with
  | cons r rr =>
    cases rr with
    | cons r' rr =>
      cases rr
      cases r
      cases r'
      obtain ⟨as, ra, pa⟩ := sqB_inv I1 sx
      obtain ⟨bs, rb, pb⟩ := sqB_inv I1 sy
      obtain ⟨o1, B1, t1⟩ := beginsB b1 a as.toArray
      obtain ⟨o2, B2, t2⟩ := beginsB b2 b bs.toArray
      have la := isB_lt pa
      have lb := isB_lt pb
      refine zip_begins2 B1 B2 pa pb fun h' g1 g2 g3 g4 g5 _ hk => wpAny_pyIter_zip g1 ?_
      have I2 : Inv X pins σ H1 { s1 with heap := h' } := I1.kept (t' := s1.toks) hk
      have S : ZipSep2 (s1.heap.objs.size + 4) (s1.heap.objs.size + 2) (s1.heap.objs.size + 3) s1.heap.objs.size (s1.heap.objs.size + 1) [s1.heap.objs.size, a] [s1.heap.objs.size + 1, b] := by
        generalize s1.heap.objs.size = n at la lb
        have ha2 : a ≠ n := Nat.ne_of_lt la
        have hb2 : b ≠ n := Nat.ne_of_lt lb
        have x1 : ∀ k : Nat, n + k ≠ a := fun k z => by have : n + k < n := z ▸ la; omega
        have x2 : ∀ k : Nat, n + k ≠ b := fun k z => by have : n + k < n := z ▸ lb; omega
        have x3 : ∀ k l : Nat, k ≠ l → n + k ≠ n + l := fun k l h z => h (by have : n + k = n + l := z; omega)
        have x4 : ∀ k : Nat, k ≠ 0 → n + k ≠ n := fun k h z => h (by have : n + k = n := z; omega)
        refine ⟨x3 2 4 (by decide), x3 3 4 (by decide), x3 2 3 (by decide), x4 2 (by decide), List.mem_cons_self, ?_, ?_, x3 2 1 (by decide), List.mem_cons_self, ?_, ?_, ?_, ?_⟩ <;> simp only [List.mem_cons, List.not_mem_nil, or_false, not_or]
        · exact ⟨x4 4 (by decide), x1 4⟩
        · exact ⟨x4 3 (by decide), x1 3⟩
        · exact ⟨x3 4 1 (by decide), x2 4⟩
        · exact ⟨x3 3 1 (by decide), x2 3⟩
        · exact ⟨(x4 1 (by decide)).symm, hb2.symm⟩
        · exact ⟨x4 1 (by decide), x1 1⟩
      refine ⟨s1.heap.objs.size + 4, _, _, _, H1, rfl, I2, turn_zipB S (Nat.ne_of_lt la) (Nat.ne_of_lt (Nat.lt_succ_of_lt lb)), ⟨g1, g2, ⟨_, _, g3⟩, t1 _ _ g4, t2 _ _ g5⟩, fun c hcm => ?_, q⟩
      have hle : s1.heap.objs.size ≤ c := by
        simp only [List.mem_cons, List.not_mem_nil, or_false] at hcm
        generalize s1.heap.objs.size = n at hcm
        rcases hcm with e | e | e | e | e <;> rw [e]
        · exact Nat.le_add_right n 4
        · exact Nat.le_add_right n 2
        · exact Nat.le_add_right n 3
        · exact Nat.le_refl n
        · exact Nat.le_add_right n 1
      exact I1.fpOk hle (I1.hok.fresh hle)
end LL

/-! t[::-1], t a tuple -/
namespace LL
open PySem PySem.Spec PyProof.Rows L2 HT
theorem back_pick (n : Nat) (xs : Array Value) (hn : n = xs.size) : ((List.range n).filterMap fun (m : Nat) => xs[((n : Int) - 1 + (m : Int) * (-1)).toNat]?) = xs.toList.reverse := by
  subst hn
  have e : (fun (m : Nat) => xs[(((xs.size : Nat) : Int) - 1 + (m : Int) * (-1)).toNat]?) = (fun k => xs[k]?) ∘ fun k => xs.size - 1 - k := by
    funext m
    show _ = xs[xs.size - 1 - m]?
    congr 1
    omega
  rw [e, ← List.filterMap_map, PySem.W.krv_range, List.filterMap_reverse, PySem.W.krv_all]
theorem back_places (n : Nat) : Builtin.Slice.slicePlaces ((n : Int) - 1) (-1) (-1) = n := by
  unfold Builtin.Slice.slicePlaces
  have h1 : ¬ (-1 : Int) > 0 := by omega
  simp only [h1, if_false, show (- -1 : Int) = 1 by decide, Int.ediv_one]
  split <;> omega
section
variable {prog : Program} {w : World} {A : Around} {E : Value → Shared → Prop} {s : Shared}
theorem tup_back {t sl : Addr} {xs : Array Value} {v1 v2 v3 : Value} {Q : Value → Shared → Prop} (ht : IsTup s.heap t xs) (hq : s.heap.IsSliceOf sl v1 v2 v3) (p1 : IsPart v1 none) (p2 : IsPart v2 none) (p3 : IsPart v3 (some (-1)))
    (h : Q (.ref s.heap.objs.size) { s with heap := s.heap.push { cls := .type "tuple", data := .seq xs.toList.reverse.toArray } }) (hz : xs.size ≤ sizeLine) : wpAny (model prog w) A (getItem (.ref t) (.ref sl)) Q E s := by
  have sz : sizeOk (.seq xs.toList.reverse.toArray) := by
    show xs.toList.reverse.toArray.size ≤ sizeLine
    rw [List.size_toArray, List.length_reverse, Array.length_toList]; exact hz
  obtain ⟨ob, eo, ec, ed⟩ := id hq
  have tS : s.TypeIs (.ref sl) "slice" := ⟨ob, eo, ec⟩
  unfold getItem
  try with_reducible refine wpAny_holding ?_
  first | refine wpAny_bind (wpAny_pure ?_) | skip
  refine wpAny_bind (wpAny_sequenceKey ht.typeIs (by decide) (wpAny_bind (wpAny_callSpecial?_slot (name := Str.ofString "__getitem__") ht.typeIs PyProof.Rows.slot_tuple_getitem (wpAny_call_entry PyProof.Rows.slot_tuple_getitem ht.typeIs entry_tuple_getitem ?_ (args_tuple_getitem _ _)))))
  show wpAny _ _ (Builtin.Tuple.tupleItemsOf (.ref t) >>= fun _ => _) _ _ s
  refine wpAny_bind (tupleItemsOf_ ht (wpAny_bind (wpAny_typeOf tS ?_)))
  rw [if_pos (show _ = true by decide)]
  refine wpAny_bind ?_
  · unfold Builtin.Slice.sliceApplied Builtin.Slice.sliceFields
    refine wpAny_bind (wpAny_bind (wpAny_field eo ed (x := v1) rfl (wpAny_bind (wpAny_field eo ed (x := v2) rfl (wpAny_bind (wpAny_field eo ed (x := v3) rfl (wpAny_pure ?_)))))))
    refine wpAny_bind (slicePart_ p3 ?_)
    show wpAny _ _ (if ((-1 : Int) == 0) = true then _ else _) _ _ s
    rw [if_neg (show ¬ _ by decide)]
    refine wpAny_bind (slicePart_ p1 (wpAny_bind (slicePart_ p2 (wpAny_bind (wpAny_pure ?_)))))
    show wpAny _ _ (pure ((((xs.size : Nat) : Int) - 1), (-1 : Int), Builtin.Slice.slicePlaces (((xs.size : Nat) : Int) - 1) (-1) (-1))) _ _ s
    rw [back_places]
    refine wpAny_pure ?_
    have no : ¬ (((((xs.size : Nat) : Int) - 1 == 0) && ((-1 : Int) == 1) && (xs.size == xs.size)) = true) := by
      intro z
      rw [show ((-1 : Int) == 1) = false by decide] at z
      simp at z
    show wpAny _ _ (if (((((xs.size : Nat) : Int) - 1 == 0) && ((-1 : Int) == 1) && (xs.size == xs.size)) = true) then _ else _) _ _ s
    rw [if_neg no, back_pick xs.size xs rfl]
    first
      | exact wpAny_bind (m := Builtin.Tuple.tupleExact _) (wpAny_newObj_type (wpAny_pure ⟨_, rfl, wpAny_pure h⟩) sz)
      | exact wpAny_bind (m := Builtin.Tuple.tupleExact _) (wpAny_newObj_type (wpAny_bind (wpAny_pure (wpAny_pure ⟨_, rfl, wpAny_pure h⟩))) sz)
      | exact wpAny_bind (wpAny_bind (m := Builtin.Tuple.tupleExact _) (wpAny_newObj_type (wpAny_pure (wpAny_pure ⟨_, rfl, wpAny_pure h⟩)) sz))
      | exact wpAny_bind (wpAny_bind (m := Builtin.Tuple.tupleExact _) (wpAny_newObj_type (wpAny_pure ⟨_, rfl, wpAny_pure h⟩) sz))
end
def tRevT (K : PySem.W.Frag) (te : TE) : TE := fun σ H Q => te σ H fun x H1 => ∃ a xs, x = .ref a ∧ SqT K H1 a xs ∧ ∀ p, H1 p = none → Q (.ref p) (upd H1 p (.tup xs.reverse))
theorem pe_revT {X : Cx} {K : PySem.W.Frag} {e : Expr} {te : TE} {k : Nat} {q1 q2 q3 pos : Pos} (hK : X.K = K) (he : PE X e te) : PE X (.Subscript e (.Slice none none (some (.UnaryOp .USub (.Constant (.int 1) k q1) q2)) q3) pos) (tRevT K te) := by
  subst hK
  refine ⟨fun pins s σ H Q I h => Subscript_ (thn (he.run pins s σ H _ I h) fun v s1 ⟨x, H1, I1, r1, a, xs, ex, hx, q⟩ => ?_)⟩
  subst ex
  cases r1
  have hst : PO X (some (.UnaryOp .USub (.Constant (.int 1) k q1) q2)) (tPart (tUn (rU fun i => .int (-i)) (tC (.int 1)))) := po_some (pe_un un_neg pe_int)
  refine wpAny_Slice (thn (po_none.run pins s1 σ H1 (fun o G => o = none ∧ G = H1) I1 ⟨rfl, rfl⟩) fun v1 s2 ⟨l, H2, I2, p1, el, e2⟩ => ?_)
  subst el e2
  refine thn (po_none.run pins s2 σ H2 (fun o G => o = none ∧ G = H2) I2 ⟨rfl, rfl⟩) fun v2 s3 ⟨u, H3, I3, p2, eu, e3⟩ => ?_
  subst eu e3
  refine thn (hst.run pins s3 σ H3 (fun o G => o = some (-1) ∧ G = H3) I3 ⟨1, rfl, -1, rfl, rfl, rfl⟩) fun v3 s4 ⟨o, H4, I4, p3, eo, e4⟩ => ?_
  subst eo e4
  have J : Inv X pins σ H4 { s4 with heap := s4.heap.push { cls := .type "slice", data := .fields #[v1, v2, v3] } } := I4.kept (t' := s4.toks) fun b ob z => Heap.get?_push_of_some _ z
  obtain ⟨its, r, ht, hz⟩ := J.tuple hx
  have hlen := r.length
  show wpAny (model X.prog X.w) X.A (subscriptTail e (.Slice none none (some (.UnaryOp .USub (.Constant (.int 1) k q1) q2)) q3) (.ref a) (.ref s4.heap.objs.size)) (EP X pins σ Q) X.xe { s4 with heap := s4.heap.push { cls := .type "slice", data := .fields #[v1, v2, v3] } }
  refine tail_any (ops := [.ref a, .ref s4.heap.objs.size]) ht.typeIs PyProof.Rows.slot_tuple_getitem.lookup ?_ (by with_unfolding_all rfl)
  refine tup_back ht (Heap.IsSliceOf.new _ v1 v2 v3) p1 p2 p3 ?_ (by rw [List.size_toArray]; omega)
  refine ⟨.ref _, _, J.laid (t' := s4.toks) (o := .tup xs.reverse) (fun b ob z => Heap.get?_push_of_some _ z) (Nat.le_refl _) ?_, rfl, q _ (J.hok.fresh (Nat.le_refl _))⟩
  exact ⟨by rw [List.length_reverse]; exact hz, _, r.reverse, IsTup.new _ _⟩
end LL

namespace LT
open PySem PySem.Spec PyProof.Rows L2 LL
section
variable {K : PySem.W.Frag} {G : List (Value × Option Addr × XV) → Prop} {E : EK}
theorem passE0N {X : Cx} : Passes (L2N.CX X.prog X.w) X E0 := fun _ _ _ _ _ _ _ h => by
  obtain ⟨_, _, _, _, _, _, _, _, _, _, _, _, hE⟩ := h
  exact hE.elim
theorem wide_mul' {v : Int} (h : v.natAbs < 2 ^ 5000) : CMulW v 10000000000000000000000000000000000000000000000000000000000000000 := wide_mul h (b := 300) (by decide) (by decide) (by decide) (by decide)
theorem nil_all {P : Tr → Prop} : ∀ x ∈ ([] : List Tr), P x := fun _ h => nomatch h
theorem rngT_mem {lo : Int} {n : Nat} {x : Tr} (h : x ∈ rngT lo n) : ∃ i : Nat, i < n ∧ x = .int (lo + i) := by
  unfold rngT at h
  obtain ⟨i, hi, rfl⟩ := List.mem_map.mp h
  exact ⟨i, List.mem_range.mp hi, rfl⟩
/-! ### zip -/
def zipT (us ws : List Tr) : List Tr := List.zipWith (fun x y => .tup [x, y]) us ws
theorem zipT_get {us ws : List Tr} {i : Nat} {x y : Tr} (h1 : us[i]? = some x) (h2 : ws[i]? = some y) : (zipT us ws)[i]? = some (.tup [x, y]) := by
  unfold zipT
  rw [List.getElem?_zipWith, h1, h2]
theorem zipT_at {us ws : List Tr} {i : Nat} {x : Tr} (h : (zipT us ws)[i]? = some x) : ∃ a b, us[i]? = some a ∧ ws[i]? = some b ∧ x = .tup [a, b] := by
  unfold zipT at h
  rw [List.getElem?_zipWith] at h
  split at h
  · rename_i a b ha hb
    cases h
    exact ⟨a, b, ha, hb, rfl⟩
  · cases h
theorem atI_last {us : List Tr} {x : Tr} {n : Nat} (h : us[n]? = some x) (hn : us.length = n + 1) : L2.atI us (-1) = some x := by
  have e : ixN us.length (-1) = some n := by
    unfold ixN
    rw [if_neg (by omega), hn]
    first
      | (rw [if_pos (by omega)]; congr 1; omega)
      | simp
  unfold L2.atI
  rw [e]
  exact h
theorem zipT_len {us ws : List Tr} : (zipT us ws).length = min us.length ws.length := by unfold zipT; rw [List.length_zipWith]
/-- a list or a tuple, as the machine has it -/
def isTupT : Tr → Bool
  | .tup _ => true
  | _ => false
theorem at_B {g : Gh} {H : Hp} {Ω : Om} {v : V} {t : Tr} {ts : List Tr} (o : OmOk K g H Ω) (d : VD K g.dr (NM g Ω) H v t) (h : asS t Ω = some ts) : ∃ a xs, v = .ref a ∧ SqB K (isTupT t) H a xs ∧ VDL K g.dr (NM g Ω) H xs ts ∧ ts.length ≤ 1000000 := by
  cases t with
  | tup us =>
    obtain ⟨a, xs, e, s, d, z⟩ := at_T (ts := ts) d h
    exact ⟨a, xs, e, s, d, z⟩
  | lst us =>
    obtain ⟨a, xs, e, s, _, d, z⟩ := at_L (ts := ts) o d h
    exact ⟨a, xs, e, s, d, z⟩
  | obj us =>
    obtain ⟨a, xs, e, s, _, d, z⟩ := at_L (ts := ts) o d h
    exact ⟨a, xs, e, s, d, z⟩
  | _ => cases h
theorem stays_B {g g' : Gh} {H1 H' : Hp} {Ω1 Ω' : Om} {t : Tr} {ts : List Tr} {a : Addr} (hg : g' = g ∨ ∃ D, H1 D = none ∧ g' = g.with D) (k : Keep g H1 Ω1 H' Ω') (o' : OmOk K g' H' Ω') (st : stay t ts Ω') (h : asS t Ω1 = some ts) (d : VD K g.dr (NM g Ω1) H1 (.ref a) t) : ∃ ys, SqB K (isTupT t) H' a ys ∧ VDL K g'.dr (NM g' Ω') H' ys ts := by
  cases t with
  | tup us =>
    obtain ⟨b, ys, e, s, dl, _⟩ := at_T (ts := ts) (vd_at hg k d) h
    cases e
    exact ⟨ys, s, dl⟩
  | lst us =>
    obtain ⟨ys, s, dl⟩ := stays_L (ts := ts) hg k o' st h d
    exact ⟨ys, s, dl⟩
  | obj us =>
    obtain ⟨ys, s, dl⟩ := stays_L (ts := ts) hg k o' st h d
    exact ⟨ys, s, dl⟩
  | _ => cases h
theorem itz_ok {g : Gh} {H1 : Hp} {Ω1 : Om} {t u : Tr} {ts us : List Tr} {a b : Addr} (h : asS t Ω1 = some ts) (d : VD K g.dr (NM g Ω1) H1 (.ref a) t) (h2 : asS u Ω1 = some us) (d2 : VD K g.dr (NM g Ω1) H1 (.ref b) u) : ItOk K g (ItzB K (isTupT t) (isTupT u) a b) (zipT ts us) H1 Ω1 (fun Ω => stay t ts Ω ∧ stay u us Ω) := fun g' hg i H' Ω' k o' st => by
  obtain ⟨xs, s1, l1⟩ := stays_B hg k o' st.1 h d
  obtain ⟨ys, s2, l2⟩ := stays_B hg k o' st.2 h2 d2
  have e1 := l1.len
  have e2 := l2.len
  rw [zipT_len]
  refine ⟨fun e => ⟨xs, ys, s1, s2, by omega, by omega, by omega⟩, fun hi => ⟨⟨xs, ys, xs[i]'(by omega), ys[i]'(by omega), s1, s2, List.getElem?_eq_getElem _, List.getElem?_eq_getElem _⟩, ?_⟩⟩
  rintro v H'' ⟨T, x, y, rfl, n, rfl, hx, hy⟩
  obtain ⟨tx, ex, dx⟩ := l1.get _ (hx xs s1)
  obtain ⟨ty, ey, dy⟩ := l2.get _ (hy ys s2)
  have kn : Keep g' H' Ω' (upd H' T (.tup [x, y])) Ω' := .new n
  have hk : Keep g H' Ω' (upd H' T (.tup [x, y])) Ω' := .new n
  exact ⟨hk, o'.new n, _, zipT_get ex ey, T, _, rfl, .inl ⟨NM.new o' n (not_pr o' n), upd_same⟩, .cons (dx.keep kn) (.one (dy.keep kn)), by simp⟩
def diZ (da : DA) : DI := fun ρ Ω P PX => da ρ Ω (fun vs Ω1 => ∃ t u ts us, vs = [t, u] ∧ asS t Ω1 = some ts ∧ asS u Ω1 = some us ∧ (ts.length ≤ 1000000 → us.length ≤ 1000000 → P (zipT ts us) (fun Ω => stay t ts Ω ∧ stay u us Ω) Ω1)) PX
theorem sim_iZ {ta : TA} {da : DA} (h : SimA K G E ta da) : SimI K G E (iZipB K ta) (diZ da) := fun g σ H ρ Ω P PX R hG r p q qx =>
  h g σ H ρ Ω _ PX _ hG r p (fun vs Ω1 ws H1 ⟨t, u, ts, us, e0, e1, e2, p1⟩ k1 o1 d1 => by
    subst e0
    obtain ⟨v, _, rfl, dv, w, _, rfl, dw, rfl⟩ := d1
    obtain ⟨a, xs, rfl, s1, l1, z1⟩ := at_B o1 dv e1
    obtain ⟨b, ys, rfl, s2, l2, z2⟩ := at_B o1 dw e2
    exact ⟨_, _, a, b, xs, ys, rfl, s1, s2, q _ _ Ω1 _ H1 (p1 z1 z2) k1 o1 (itz_ok e1 dv e2 dw)⟩) qx
/-! ### t[::-1] -/
def dRevT (de : DE) : DE := fun ρ Ω P PX => de ρ Ω (fun t Ω1 => ∃ ts, t = .tup ts ∧ P (.tup ts.reverse) Ω1) PX
theorem VDL.rv {dr : Option (Addr × Addr)} {F : Addr → Prop} {H : Hp} {xs : List V} {ts : List Tr} (d : VDL K dr F H xs ts) : VDL K dr F H xs.reverse ts.reverse := by
  have e := d.len
  refine VDL.of_all (by rw [List.length_reverse, List.length_reverse, e]) fun i x t h1 h2 => ?_
  have h3 := (List.getElem?_eq_some_iff.mp h1).1
  rw [List.length_reverse] at h3
  rw [List.getElem?_reverse h3] at h1
  rw [List.getElem?_reverse (by omega), ← e] at h2
  exact d.all _ x t h1 h2
theorem sim_revT {te : TE} {de : DE} (h : SimE K G E te de) : SimE K G E (tRevT K te) (dRevT de) := fun g σ H ρ Ω P PX Q hG R p q qx =>
  h g σ H ρ Ω _ PX _ hG R p (fun t Ω1 v H1 ⟨ts, e, p1⟩ k1 o1 d1 => by
    subst e
    obtain ⟨a, xs, rfl, s, dl, z⟩ := sqt d1
    exact ⟨a, xs, rfl, s, fun p n => new_tup o1 dl.rv (by rw [List.length_reverse]; exact z) p1 (q.at k1) n⟩) qx
/-! ### str(i) -/
def rStrI : List V → Hp → VK → Prop := fun xs H Q => ∃ i : Int, xs = [.int i] ∧ i.natAbs.log2 < 1920 ∧ Q (.str (toString i)) H
theorem call_strI {X : Cx} : CallR X (.type "str") rStrI := call_str_int
def dStrI : List Tr → Om → PT' → Prop := fun us Ω P => ∃ i : Int, us = [.int i] ∧ i.natAbs.log2 < 1920 ∧ P (.str (toString i)) Ω
theorem simc_strI : SimC K rStrI dStrI := fun g H Ω vs us P Q o d ⟨i, e, hz, p⟩ q => by
  subst e
  obtain ⟨v, _, rfl, dv, rfl⟩ := d
  exact ⟨i, by rw [show v = _ from dv], hz, q _ Ω _ H p .refl o rfl⟩
/-! ### isinstance(e, (C1, C2, ..)) in the suite that holds e -/
def rIsXT (K : PySem.W.Frag) (a D : Addr) (cls : Value) (d : Option Addr) : List V → Hp → VK → Prop := fun xs H Q => ∃ (dd tp : Addr) (cs : List V) (us : List Value) (b : Bool) (fs : List (Str × V)), cls = .ref D ∧ d = some dd ∧ xs = [.ref a, .ref tp] ∧ H tp = some (.tup cs) ∧ Paired ClsV cs us ∧ PySem.W.kitAny K (.ref D) us = some b ∧ H dd = some (.xd fs) ∧ Q (.bl b) H
theorem call_isXT {X : Cx} {p : Addr × Obj} {D : Addr} {cls : Value} {d : Option Addr} (hp : p ∈ X.pn) (C : ExcD X.K D) (hz : Zc cls d p.2) (hf : ∃ fs, p.2.data = .fields fs) : CallR X (.builtin "isinstance") (rIsXT X.K p.1 D cls d) := by
  rintro pins s σ H xs us Q I r ⟨dd, tp, cs, ws, b, fs, rfl, rfl, rfl, hT, k, e, hd, q⟩
  obtain ⟨u1, u2, rfl, r1, r2⟩ := vals2 r
  cases (show u1 = Value.ref p.1 from r1)
  cases (show u2 = Value.ref tp from r2)
  obtain ⟨hget, _⟩ := I.pin p (List.mem_append_left _ hp)
  have hx : ObjOk X.prog X.w H s.heap dd (.xd fs) := I.hok dd _ hd
  obtain ⟨mA, ⟨od, es, ep, ho, hr⟩, _⟩ := hx
  obtain ⟨vs, hv⟩ := hf
  have J : PySem.W.InstAt s.heap p.1 p.2 D (some od) := ⟨hget, hz.1, by unfold PySem.W.notCls; rw [hv] <;> rfl, by rw [hz.2]; exact ho⟩
  obtain ⟨_, its, rv, oo, h1, h2, n, h3⟩ := (show ObjOk X.prog X.w H s.heap tp (.tup cs) from I.hok tp _ hT)
  have e3 := ClsV.all k rv
  subst e3
  obtain ⟨oc, odd, dt, sl⟩ := oo
  simp only at h2 h3
  subst h2 h3
  exact PySem.W.kia_tup (PySem.W.kitx_exc C.hc C.hg C.hk C.hs C.ha C.hn C.ht C.hm) I.kIn J h1 e (fun z => nomatch z) fun tk => ⟨.bl b, H, I.tok tk, rfl, q⟩
/-- the classes of a tuple, one by one -/
def anyK (K : PySem.W.Frag) (t : Value) : List Tr → Bool → Prop
  | [], r => r = false
  | c :: cs, r => ∃ cv b, clsV c = some cv ∧ PySem.W.kitOne K t cv = some b ∧ if b = true then r = true else anyK K t cs r
def dIsXT (K : PySem.W.Frag) (a : Addr) (x : XV) : List Tr → Om → PT' → Prop := fun us Ω P => ∃ cs b, us = [.obj a, .tup cs] ∧ cs.all (fun c => (clsV c).isSome) = true ∧ anyK K (.ref (He.ga K x.cls)) cs b ∧ P (.bl b) Ω
theorem any_kit {K : PySem.W.Frag} {t : Value} {g : Gh} {Ω : Om} {H : Hp} : ∀ {cs : List Tr} {vs : List V} {b : Bool}, VDL K g.dr (NM g Ω) H vs cs → cs.all (fun c => (clsV c).isSome) = true → anyK K t cs b → ∃ us, Paired ClsV vs us ∧ PySem.W.kitAny K t us = some b
  | [], vs, b, d, _, h => by
    rw [show vs = [] from d, show b = false from h]
    exact ⟨[], .nil, kitAny_nil⟩
  | c :: cs, vs, b, d, ha, h => by
    obtain ⟨v, ws, rfl, d1, d2⟩ := d
    obtain ⟨cv, k, hc, hk, hr⟩ := h
    have ha' := Bool.and_eq_true_iff.mp (show ((clsV c).isSome && cs.all (fun c => (clsV c).isSome)) = true from ha)
    have hcv : ClsV v cv := by
      cases c with
      | ty n => cases hc; rw [show v = _ from d1]; exact .ty n
      | obj b => cases hc; rw [show v = _ from d1]; exact .own b
      | _ => cases hc
    cases k with
    | true =>
      rw [if_pos rfl] at hr
      subst hr
      have rest : ∀ {cs : List Tr} {ws : List V}, VDL K g.dr (NM g Ω) H ws cs → cs.all (fun c => (clsV c).isSome) = true → ∃ us, Paired ClsV ws us := by
        intro cs
        induction cs with
        | nil => intro ws d _; rw [show ws = [] from d]; exact ⟨[], .nil⟩
        | cons c cs ih =>
          intro ws d ha
          obtain ⟨v, ws, rfl, d1, d2⟩ := d
          have ha' := Bool.and_eq_true_iff.mp (show ((clsV c).isSome && cs.all (fun c => (clsV c).isSome)) = true from ha)
          obtain ⟨us, hu⟩ := ih d2 ha'.2
          obtain ⟨cv, hc⟩ := Option.isSome_iff_exists.mp ha'.1
          have hcv : ClsV v cv := by
            cases c with
            | ty n => cases hc; rw [show v = _ from d1]; exact .ty n
            | obj b => cases hc; rw [show v = _ from d1]; exact .own b
            | _ => cases hc
          exact ⟨cv :: us, .cons hcv hu⟩
      obtain ⟨us, hu⟩ := rest d2 ha'.2
      exact ⟨cv :: us, .cons hcv hu, kitAny_cons hk (fun z => nomatch z) fun _ => rfl⟩
    | false =>
      rw [if_neg Bool.false_ne_true] at hr
      obtain ⟨us, hu, hb⟩ := any_kit d2 ha'.2 hr
      exact ⟨cv :: us, .cons hcv hu, kitAny_cons hk (fun _ => hb) fun z => nomatch z⟩
theorem sim_isXT {a C : Addr} {cls : Value} {d : Option Addr} {x : XV} {te : TE} {ta : TA} {de : DE} {da : DA} (he : SimE K (GX G cls d x) E te de) (h : SimA K (GX G cls d x) E ta da) : SimE K (GX G cls d x) E (tCB (rIsXT K a C cls d) (tCons te (tCons (tTup ta) tNil))) (fun ρ Ω P PX => de ρ Ω (fun t Ω1 => da ρ Ω1 (fun cs Ω2 => cs.length ≤ 1000000 ∧ He.ga K x.cls = C ∧ dIsXT K a x [t, .tup cs] Ω2 P) PX) PX) := fun g σ H ρ Ω P PX Q hG R p q qx =>
  he g σ H ρ Ω _ PX _ hG R p (fun t Ω1 v H1 p1 k1 o1 d1 => h g σ H1 ρ Ω1 _ PX _ hG (R.keep k1 o1) p1 (fun cs Ω2 vs H2 ⟨hz, ec, cs', b, e, hall, hany, p2⟩ k2 o2 d2 => by
    cases e
    obtain ⟨r, er, _⟩ := hG
    obtain ⟨ecls, dd, fs, ed, nn, eh, en, dl⟩ := o2.ex (cls, d, x) (by rw [er]; exact List.mem_cons_self)
    obtain ⟨us, hu, hk⟩ := any_kit d2 hall hany
    refine ⟨by rw [d2.len]; exact size_ok hz, fun tp ntp => ?_⟩
    have k3 : Keep g H2 Ω2 (upd H2 tp (.tup vs)) Ω2 := .new ntp
    obtain rfl : v = .ref a := d1
    exact ⟨dd, tp, vs, us, b, fs, by rw [← ec]; exact ecls, ed, rfl, upd_same, hu, by rw [← ec]; exact hk, by rw [upd_ne (ne_of_none eh ntp)]; exact eh, q _ Ω2 _ _ p2 ((k1.trans k2).trans k3) (o2.new ntp) rfl⟩) (qx.at k1)) qx
/-! ### any comprehension -/
theorem lc_I {di : DI} {items : List Tr} {st : Om → Prop} {ρ : En} {Ω : Om} {dg : DG} {dt : DT} {del : DE} {vs : List Nat} {P : PT'} {PX : PXt} (hd : ∀ R : List Tr → (Om → Prop) → Om → Prop, (items.length ≤ 1000000 → R items st Ω) → di ρ Ω R PX) (hst : st Ω) (f : Tr → Tr) (b : Tr → Bool)
    (hf : ∀ x ∈ items, ∀ (Q : PT') (N : Om → Prop), (b x = true → Q (f x) Ω) → (b x = false → N Ω) → dg x (wipeT ρ vs) Ω (fun ρ2 Ω2 => dt ρ2 Ω2 (fun k Ω3 => if k = true then del ρ2 Ω3 Q nox else N Ω3) nox) nox) (h : items.length ≤ 1000000 → lstNew ((items.filter b).map f) Ω P) : dLc di dg dt del vs ρ Ω P PX :=
  hd _ fun hz => by
    refine ⟨hz, fun i acc Ω' => Ω' = Ω ∧ acc = ((items.take i).filter b).map f, ⟨rfl, rfl⟩, fun i acc Ω' e => e.1 ▸ hst, ?_, ?_⟩
    · rintro i x acc Ω' hx ⟨rfl, rfl⟩
      have e1 : items.take (i + 1) = items.take i ++ [x] := take_one hx
      refine hf x (List.mem_of_getElem? hx) (fun y Ω4 => Ω4 = Ω' ∧ ((items.take i).filter b).map f ++ [y] = ((items.take (i + 1)).filter b).map f) (fun Ω3 => Ω3 = Ω' ∧ ((items.take i).filter b).map f = ((items.take (i + 1)).filter b).map f) (fun hb => ⟨rfl, ?_⟩) (fun hb => ⟨rfl, ?_⟩)
      · rw [e1, List.filter_append, List.map_append, List.filter_cons, hb]; rfl
      · rw [e1, List.filter_append, List.map_append, List.filter_cons, hb]; exact (List.append_nil _).symm
    · rintro acc Ω' ⟨rfl, rfl⟩
      rw [List.take_length]
      exact h hz
theorem lc_M {di : DI} {items : List Tr} {st : Om → Prop} {ρ : En} {Ω : Om} {dg : DG} {del : DE} {vs : List Nat} {P : PT'} {PX : PXt} (hd : ∀ R : List Tr → (Om → Prop) → Om → Prop, (items.length ≤ 1000000 → R items st Ω) → di ρ Ω R PX) (hst : st Ω) (f : Tr → Tr)
    (hf : ∀ x ∈ items, ∀ (Q : PT') (N : Om → Prop), Q (f x) Ω → dg x (wipeT ρ vs) Ω (fun ρ2 Ω2 => dYes ρ2 Ω2 (fun k Ω3 => if k = true then del ρ2 Ω3 Q nox else N Ω3) nox) nox) (h : items.length ≤ 1000000 → lstNew (items.map f) Ω P) : dLc di dg dYes del vs ρ Ω P PX :=
  lc_I hd hst f (fun _ => true) (fun x hx Q N q _ => hf x hx Q N (q rfl)) (fun hz => by rw [List.filter_eq_self.mpr (fun _ _ => rfl)]; exact h hz)
/-- of whose items only a fact is known -/
theorem lc_A {di : DI} {items : List Tr} {st : Om → Prop} {ρ : En} {Ω : Om} {dg : DG} {dt : DT} {del : DE} {vs : List Nat} {P : PT'} {PX : PXt} (hd : ∀ R : List Tr → (Om → Prop) → Om → Prop, (items.length ≤ 1000000 → R items st Ω) → di ρ Ω R PX) (hst : st Ω) (A : Tr → Prop)
    (hf : ∀ x ∈ items, ∀ (Q : PT') (N : Om → Prop), (∀ y, A y → Q y Ω) → N Ω → dg x (wipeT ρ vs) Ω (fun ρ2 Ω2 => dt ρ2 Ω2 (fun k Ω3 => if k = true then del ρ2 Ω3 Q nox else N Ω3) nox) nox) (h : ∀ us : List Tr, (∀ y ∈ us, A y) → us.length ≤ items.length → items.length ≤ 1000000 → lstNew us Ω P) : dLc di dg dt del vs ρ Ω P PX :=
  hd _ fun hz => by
    refine ⟨hz, fun i acc Ω' => Ω' = Ω ∧ (∀ y ∈ acc, A y) ∧ acc.length ≤ i, ⟨rfl, fun _ h => (List.not_mem_nil h).elim, Nat.le_refl _⟩, fun i acc Ω' e => e.1 ▸ hst, ?_, ?_⟩
    · rintro i x acc Ω' hx ⟨rfl, ha, hl⟩
      refine hf x (List.mem_of_getElem? hx) (fun y Ω4 => Ω4 = Ω' ∧ (∀ z ∈ acc ++ [y], A z) ∧ (acc ++ [y]).length ≤ i + 1) (fun Ω3 => Ω3 = Ω' ∧ (∀ y ∈ acc, A y) ∧ acc.length ≤ i + 1) (fun y hy => ⟨rfl, fun z hz => ?_, ?_⟩) ⟨rfl, ha, Nat.le_succ_of_le hl⟩
      · rcases List.mem_append.mp hz with hz | hz
        · exact ha z hz
        · rw [List.mem_singleton.mp hz]; exact hy
      · rw [List.length_append]
        exact Nat.succ_le_succ hl
    · rintro acc Ω' ⟨rfl, ha, hl⟩
      exact h acc ha hl hz
/-- any loop -/
theorem for_I {di : DI} {items : List Tr} {st : Om → Prop} {dg : DG} {db : DS} {D : DN} {ρ : En} {Ω : Om} (hd : ∀ R : List Tr → (Om → Prop) → Om → Prop, (items.length ≤ 1000000 → R items st Ω) → di ρ Ω R (fun y Ω' => D.ex ρ y Ω')) (W : Nat → En → Om → Prop) (w0 : W 0 ρ Ω) (wst : ∀ i ρ' Ω', W i ρ' Ω' → st Ω')
    (step : items.length ≤ 1000000 → ∀ i x ρ' Ω', items[i]? = some x → W i ρ' Ω' → dg x ρ' Ω' (fun ρ2 Ω2 => db { D with nx := W (i + 1), ct := W (i + 1), bk := D.nx } ρ2 Ω2) nox) (fin : ∀ ρ' Ω', W items.length ρ' Ω' → D.nx ρ' Ω') : dFor di dg db D ρ Ω :=
  hd _ fun hz => ⟨W, w0, wst, step hz, fin⟩
/-! ### a cell becomes data ahead of a statement -/
def tMk (n : Nat) (t : TS) : TS := t
theorem ps_mk {X : Cx} {s : Stmt} {t : TS} {n : Nat} (h : PS X s t) : PS X s (tMk n t) := h
theorem sim_mk {n : Nat} {t : TS} {d : DS} (h : SimS K G E t d) : SimS K G E (tMk n t) (dThaw n d) := sim_thaw (ts := t) h
end
end LT

namespace LT
open PySem PySem.Spec PyProof.Rows L2 LL
/-! ### cells that are lent to a call as data -/
mutual
/-- the second is the first, its lists read where they are cells -/
inductive Drf (Ω : Om) : Tr → Tr → Prop
  | same (t : Tr) : Drf Ω t t
  | cell {a : Addr} {ts us : List Tr} : Ω a = some (.lst ts) → DrfL Ω ts us → Drf Ω (.obj a) (.lst us)
  | tup {ts us : List Tr} : DrfL Ω ts us → Drf Ω (.tup ts) (.tup us)
  | lst {ts us : List Tr} : DrfL Ω ts us → Drf Ω (.lst ts) (.lst us)
inductive DrfL (Ω : Om) : List Tr → List Tr → Prop
  | nil : DrfL Ω [] []
  | cons {t u : Tr} {ts us : List Tr} : Drf Ω t u → DrfL Ω ts us → DrfL Ω (t :: ts) (u :: us)
end
theorem DrfL.same {Ω : Om} : ∀ (ts : List Tr), DrfL Ω ts ts
  | [] => .nil
  | t :: ts => .cons (.same t) (DrfL.same ts)
theorem DrfL.len {Ω : Om} : ∀ {ts us : List Tr}, DrfL Ω ts us → ts.length = us.length
  | [], _, .nil => rfl
  | _ :: _, _, .cons _ h => by rw [List.length_cons, List.length_cons, h.len]
def noΩ : Om := fun _ => none
theorem NM.lent {g : Gh} {Ω : Om} {b : Addr} (h : NM g Ω b) : NM g noΩ b := ⟨rfl, h.2⟩
section
variable {K : PySem.W.Frag} {g : Gh} {H H' : Hp} {Ω Ω' : Om}
theorem OmOk.notdr (o : OmOk K g H Ω) {a : Addr} {c : Cell} (h : Ω a = some c) : ∀ d, g.dr ≠ some (d, a) := fun d e => by
  obtain ⟨_, _, _, _, _, _, _, _, h7, _⟩ := o.dr d a e
  rw [h7] at h; cases h
mutual
theorem VD.lent (o : OmOk K g H Ω) : ∀ {v : V} (t u : Tr), Drf Ω t u → VD K g.dr (NM g Ω) H v t → VD K g.dr (NM g noΩ) H v u
  | v, t, _, .same _, d => d.imp fun _ _ f e => ⟨f.lent, e⟩
  | v, _, _, .cell (a := a) (ts := ts) (us := us) h r, d => by
    obtain ⟨np, xs, e, dx, hz⟩ := o.ce a _ h
    exact ⟨a, xs, d, ⟨rfl, o.notdr h, np⟩, e, VDL.lent o ts us r dx, by rw [← r.len]; exact hz⟩
  | v, _, _, .tup (ts := ts) (us := us) r, d => by
    obtain ⟨a, xs, e, ha, dx, hz⟩ := d
    exact ⟨a, xs, e, ha.imp (fun z => ⟨z.1.lent, z.2⟩) id, VDL.lent o ts us r dx, by rw [← r.len]; exact hz⟩
  | v, _, _, .lst (ts := ts) (us := us) r, d => by
    obtain ⟨a, xs, e, ha, he, dx, hz⟩ := d
    exact ⟨a, xs, e, ha.lent, he, VDL.lent o ts us r dx, by rw [← r.len]; exact hz⟩
theorem VDL.lent (o : OmOk K g H Ω) : ∀ {v : List V} (t u : List Tr), DrfL Ω t u → VDL K g.dr (NM g Ω) H v t → VDL K g.dr (NM g noΩ) H v u
  | v, _, _, .nil, d => d
  | v, _, _, .cons (t := t) (u := u) (ts := ts) (us := us) h r, d => by
    obtain ⟨x, xs, e, d1, d2⟩ := d
    exact ⟨x, xs, e, VD.lent o t u h d1, VDL.lent o ts us r d2⟩
end
theorem OmOk.lent (o : OmOk K g H Ω) : OmOk K g H noΩ where
  dr := fun d s e => by
    obtain ⟨c, ns, h1, h2, h3, h4, h5, h6, h7, h8, p⟩ := o.dr d s e
    exact ⟨c, ns, h1, h2, h3, h4, h5, rfl, rfl, rfl, p⟩
  ce := fun a c e => by cases e
  ex := fun p hp => by
    obtain ⟨e, dd, fs, e1, n, e2, e3, e4⟩ := o.ex p hp
    exact ⟨e, dd, fs, e1, n.lent, e2, e3, e4.imp fun _ _ f e => ⟨f.lent, e⟩⟩
  pt := o.pt
/-- what was lent is as it was -/
theorem Keep.back (k : Keep g H noΩ H' Ω') : Keep g H Ω H' Ω := fun b o hb hd e => ⟨(k b o rfl hd e).1, hb⟩
theorem OmOk.back (o : OmOk K g H Ω) (o' : OmOk K g H' Ω') (k : Keep g H noΩ H' Ω') : OmOk K g H' Ω where
  dr := fun d s e => (o.dr d s e).imp (o'.dr d s e).drw.st (fun b u hb _ q => (k b u rfl (fun d' e' => by rw [e] at e'; cases e'; exact hb rfl) q).1) fun _ hb _ => hb
  ce := fun a c e => by
    obtain ⟨u, q⟩ := (o.ce a c e).2.tracked
    exact ⟨(o.ce a c e).1, (o.ce a c e).2.imp (by rw [q]; exact (k a u rfl (o.notdr e) q).1) fun b u f q => ⟨f, (k b u rfl f.2.1 q).1⟩⟩
  ex := fun p hp => (o.ex p hp).keep k.back
  pt := fun b hb => o'.pt b hb
/-- what is no cell's kind -/
def noCell : HO → Bool
  | .lst _ => false
  | .dK _ => false
  | .ins _ _ _ => false
  | _ => true
theorem NM.back (o : OmOk K g H Ω) (k : Keep g H noΩ H' Ω') {b : Addr} {u : HO} (f : NM g Ω' b) (e : H' b = some u) (n : noCell u = true) : NM g Ω b := by
  refine ⟨?_, f.2⟩
  cases h : Ω b with
  | none => rfl
  | some c =>
    have ce := (o.ce b c h).2
    have nd := o.notdr h
    exfalso
    cases c with
    | lst ts => obtain ⟨xs, q, _⟩ := ce; rw [(k b _ rfl nd q).1] at e; cases e; cases n
    | dic ks ts => obtain ⟨xs, q, _⟩ := ce; rw [(k b _ rfl nd q).1] at e; cases e; cases n
    | ins C dx ns ts => obtain ⟨xs, q, _⟩ := ce; rw [(k b _ rfl nd q).1] at e; cases e; cases n
mutual
/-- no list and no dict in it -/
def tupT : Tr → Bool
  | .lst _ => false
  | .dic _ _ => false
  | .tup ts => tupTL ts
  | _ => true
def tupTL : List Tr → Bool
  | [] => true
  | t :: ts => tupT t && tupTL ts
end
mutual
theorem VD.back (o : OmOk K g H Ω) (k : Keep g H noΩ H' Ω') : ∀ {v : V} (t : Tr), tupT t = true → VD K g.dr (NM g Ω') H' v t → VD K g.dr (NM g Ω) H' v t
  | _, .non, _, h => h
  | _, .bl _, _, h => h
  | _, .int _, _, h => h
  | _, .str _, _, h => h
  | _, .tup ts, n, h => by
    obtain ⟨a, xs, e, ha, dx, hz⟩ := h
    exact ⟨a, xs, e, ha.imp (fun z => ⟨NM.back o k z.1 z.2 rfl, z.2⟩) id, VDL.back o k ts n dx, hz⟩
  | _, .obj a, _, h => h
  | _, .drw, _, h => h
  | _, .ty n, _, h => h
theorem VDL.back (o : OmOk K g H Ω) (k : Keep g H noΩ H' Ω') : ∀ {v : List V} (t : List Tr), tupTL t = true → VDL K g.dr (NM g Ω') H' v t → VDL K g.dr (NM g Ω) H' v t
  | _, [], _, h => h
  | _, t :: ts, n, h => by
    obtain ⟨v, vs, e, d1, d2⟩ := h
    have n' := Bool.and_eq_true_iff.mp (show (tupT t && tupTL ts) = true from n)
    exact ⟨v, vs, e, VD.back o k t n'.1 d1, VDL.back o k ts n'.2 d2⟩
end
theorem XR.back (o : OmOk K g H Ω) (k : Keep g H noΩ H' Ω') {cls : Value} {d : Option Addr} {x : XV} (h : XR K g Ω' H' cls d x) (n : tupTL x.ts = true) : XR K g Ω H' cls d x := by
  obtain ⟨e, dd, fs, e1, nn, e2, e3, e4⟩ := h
  exact ⟨e, dd, fs, e1, NM.back o k nn e2 rfl, e2, e3, VDL.back o k _ n e4⟩
variable {G : List (Value × Option Addr × XV) → Prop} {E : EK}
/-- the mark of a call to which cells are lent -/
def tBor (t : TE) : TE := t
theorem pe_bor {X : Cx} {e : Expr} {t : TE} (h : PE X e t) : PE X e (tBor t) := h
def dBor (P : Pw) (n : Nat) (da : DA) : DE := fun ρ Ω Q PX => da ρ Ω (fun ts Ω1 => ∃ us, DrfL Ω1 ts us ∧ us.length = n ∧ P us noΩ (fun t _ => tupT t = true ∧ Q t Ω1) (fun x _ => tupTL x.ts = true ∧ PX x Ω1)) PX
def dBor0 (P : Pw) (n : Nat) (da : DA) : DE := fun ρ Ω Q PX => da ρ Ω (fun ts Ω1 => ∃ us, DrfL Ω1 ts us ∧ us.length = n ∧ P us noΩ (fun t _ => tupT t = true ∧ Q t Ω1) nox) PX
theorem After.lent {P : PT'} {Q : VK} (o : OmOk K g H Ω) (q : After K g H Ω P Q) : After K g H noΩ (fun t _ => tupT t = true ∧ P t Ω) Q := fun t Ω' v H' ⟨n, p⟩ k o' d => q t Ω v H' p k.back (o.back o' k) (VD.back o k t n d)
theorem AfterX.lent {P : PXt} {Q : XK} (o : OmOk K g H Ω) (q : AfterX K g H Ω P Q) : AfterX K g H noΩ (fun x _ => tupTL x.ts = true ∧ P x Ω) Q := fun x Ω' c d H' ⟨n, p⟩ k o' r => q x Ω c d H' p k.back (o.back o' k) (r.back o k n)
theorem sim_bor {P : Pw} {n : Nat} {E1 : XK} {ta : TA} {da : DA} (ha : SimA K G (fun _ => E1) ta da) : SimE K G (fun _ => E1) (tBor (tCall (spD K P n) [] E1 ta)) (dBor P n da) := fun g σ H ρ Ω Q PX QQ hG R h q qx =>
  ha g σ H ρ Ω _ PX _ hG R h (fun ts Ω1 vs H1 ⟨us, r, hl, p⟩ k1 o1 d1 => by rw [List.append_nil]; exact ⟨g, noΩ, us, _, _, hl, VDL.lent o1 ts us r d1, o1.lent, p, (q.at k1).lent o1, (qx.at k1).lent o1⟩) qx
theorem sim_bor0 {P : Pw} {n : Nat} {ta : TA} {da : DA} (ha : SimA K G E ta da) : SimE K G E (tBor (tCall (spD K P n) [] E0 ta)) (dBor0 P n da) := fun g σ H ρ Ω Q PX QQ hG R h q qx =>
  ha g σ H ρ Ω _ PX _ hG R h (fun ts Ω1 vs H1 ⟨us, r, hl, p⟩ k1 o1 d1 => by rw [List.append_nil]; exact ⟨g, noΩ, us, _, nox, hl, VDL.lent o1 ts us r d1, o1.lent, p, (q.at k1).lent o1, AfterX.nox⟩) qx
theorem sim_borS {P : Pw} {n : Nat} {ta : TA} {da : DA} (ha : SimA K G E ta da) : SimE K G E (tBor (tCallS (spD K P n) E ta)) (dBor P n da) := fun g σ H ρ Ω Q PX QQ hG R h q qx =>
  ha g σ H ρ Ω _ PX _ hG R h (fun ts Ω1 vs H1 ⟨us, r, hl, p⟩ k1 o1 d1 => ⟨g, noΩ, us, _, _, hl, VDL.lent o1 ts us r d1, o1.lent, p, (q.at k1).lent o1, (qx.at k1).lent o1⟩) qx
/-! ### a cell that is asked no more is dropped -/
def tFg (t : TS) : TS := t
theorem ps_fg {X : Cx} {s : Stmt} {t : TS} (h : PS X s t) : PS X s (tFg t) := h
def dForget (d : DS) : DS := fun D ρ Ω => d D ρ Ω ∨ ∃ a, d D ρ (cut Ω a)
theorem sim_fg {t : TS} {d : DS} (h : SimS K G E t d) : SimS K G E (tFg t) (dForget d) := fun g σ H ρ Ω D DD hG R p e => by
  rcases p with p | ⟨a, p⟩
  · exact h g σ H ρ Ω D DD hG R p e
  · exact h g σ H ρ (cut Ω a) D DD hG (R.keep .freeze R.om.freeze) p (e.at .freeze)
theorem fg_new {d : DS} {D : DN} {ρ : En} {Ω : Om} {a : Addr} {c : Cell} (ha : Ω a = none) (q : d D ρ Ω) : dForget d D ρ (put Ω a c) := .inr ⟨a, by rw [cut_put ha]; exact q⟩
end
end LT

namespace LT
open PySem PySem.Spec PyProof.Rows L2 L2H LL
/-! ### a def that is called within an except suite, on the exception that the suite holds -/
abbrev Pz := Addr → XV → Pw
/-- a: the exception; x: its value -/
def spZ (K : PySem.W.Frag) (P : Pz) (n : Nat) : Addr → Addr → Addr → Sp := fun a D dd vs H Q _ => ∃ (g : Gh) (Ω : Om) (ts : List Tr) (PQ : PT') (x : XV) (r : List (Value × Option Addr × XV)), g.ex = (.ref D, some dd, x) :: r ∧ ts.length = n ∧ VDL K g.dr (NM g Ω) H vs ts ∧ OmOk K g H Ω ∧ P a x ts Ω PQ nox ∧ After K g H Ω PQ Q
section
variable {K : PySem.W.Frag} {G : List (Value × Option Addr × XV) → Prop} {E : EK}
/-- the call's reading -/
def dCallZ (a : Addr) (x : XV) (P : Pz) (n : Nat) (da : DA) : DE := fun ρ Ω Q PX => da ρ Ω (fun ts Ω1 => ts.length = n ∧ P a x ts Ω1 Q nox) PX
theorem sim_callZ {a : Addr} {cls : Value} {d : Option Addr} {x : XV} {P : Pz} {n : Nat} {ta : TA} {da : DA} (ha : SimA K (GX G cls d x) E ta da) : SimE K (GX G cls d x) E (tCallZ cls d a (spZ K P n) ta) (dCallZ a x P n da) := fun g σ H ρ Ω Q PX QQ hG R h q qx =>
  ha g σ H ρ Ω _ PX _ hG R h (fun ts Ω1 vs H1 ⟨hl, p⟩ k1 o1 d1 => by
    obtain ⟨r, er, _⟩ := hG
    obtain ⟨ecls, dd, fs, ed, _⟩ := o1.ex (cls, d, x) (by rw [er]; exact List.mem_cons_self)
    exact ⟨_, dd, ecls, ed, g, Ω1, ts, Q, x, r, by rw [er, show cls = _ from ecls, show d = _ from ed], hl, d1, o1, p, q.at k1⟩) qx
theorem dokMkZ {X : Cx} {body : List Stmt} {E : XK} {cls : Value} {d : Option Addr} {Q : (XV → DS) → Prop} {t : TS} {ds : XV → DS} (term : PSs X body t) (sim : ∀ x, SimS K (GX (fun _ => True) cls d x) (fun _ => E) t (ds x)) (go : Q ds) : ∃ (t : TS) (ds : XV → DS), PSs X body t ∧ (∀ x, SimS K (GX (fun _ => True) cls d x) (fun _ => E) t (ds x)) ∧ Q ds := ⟨t, ds, term, sim, go⟩
theorem dokZ {P : Program} {w : World} {mg : Str → Option Value} {base : Heap} {xn qual : Str} {params : Arguments} {body : List Stmt} {sc : Scope} {f : Addr} {fd : FuncData} {N ps : List Str} {k : Nat} {C : Str} {Pd : Pz} (F : FunD K xn qual params body sc [] [] f fd) (S : FnScope N ps sc)
    (hC : ∀ a x ts Ω Q, Pd a x ts Ω Q nox → x.cls = C)
    (h : ∀ (cdv : Value) (A : Around) (outer : List Env) (s : Shared) (H : Hp) (E : XK) (p : Addr × Obj) (cls : Value) (d : Option Addr), Zc cls d p.2 → (∃ fs, p.2.data = .fields fs) → RoomH k (A.deeper (envOfC qual sc s.heap.objs.size f cdv)) → ∃ (t : TS) (ds : XV → DS), PSs (cxH CX0 P w K mg base N qual sc f cdv A outer s H E p) body t ∧ (∀ x, SimS K (GX (fun _ => True) cls d x) (fun _ => E) t (ds x)) ∧
      ∀ x ts Ω PQ, x.cls = C → ts.length = ps.length → Pd p.1 x ts Ω PQ nox → ds x { nx := fun _ Ω' => PQ .non Ω', rt := PQ, ex := fun _ _ _ => False } (ts.map some ++ List.replicate (N.length - ps.length) none) Ω) :
    FnZ P w K mg base (k + 1) f fd ps (spZ K Pd ps.length) := by
  refine okZ F S (fun a D dd vs H Q E ⟨g, Ω, ts, PQ, x, r, _, hl, d, _⟩ => by rw [d.len]; exact hl) (fun cdv A outer s H vs Q E p D dd hr hz hf hsp => ?_)
  obtain ⟨g, Ω, ts, PQ, x, r, er, hl, d, o, pp, q⟩ := hsp
  obtain ⟨t, ds, h1, h2, h3⟩ := h cdv A outer s H E p (.ref D) (some dd) hz hf hr
  refine ⟨t, h1, h2 x g _ H _ Ω _ _ ⟨r, er, trivial⟩ ⟨o, ?_, fun i u e => ?_⟩ (h3 x ts Ω PQ (hC _ _ _ _ _ pp) hl pp) ⟨fun ρ' Ω' σ' H' p k r => q _ Ω' _ H' p k r.om rfl, q, fun _ _ _ _ z => z.elim, fun _ _ _ _ z => z.elim, fun _ _ _ _ _ _ _ z => z.elim⟩⟩
  · show (vs.map some ++ List.replicate (N.length - vs.length) none).length = _
    rw [List.length_append, List.length_append, List.length_map, List.length_map, List.length_replicate, List.length_replicate, d.len, hl]
  · show ∃ v, (vs.map some ++ List.replicate (N.length - vs.length) none)[i]? = some (some v) ∧ _
    rw [List.getElem?_append] at e ⊢
    rw [List.length_map] at e ⊢
    rw [d.len]
    split at e
    · rename_i hlt
      rw [if_pos hlt]
      rw [List.getElem?_map] at e ⊢
      cases et : ts[i]? with
      | none => rw [et] at e; cases e
      | some t' =>
        rw [et] at e
        cases e
        obtain ⟨v, ev, dv⟩ := d.get' et
        exact ⟨v, by rw [ev]; rfl, dv⟩
    · have := List.mem_of_getElem? e
      rw [List.mem_replicate] at this
      exact absurd this.2 (by simp)
end
end LT

namespace LT
open PySem PySem.Spec PyProof.Rows L2 LL
section
variable {K : PySem.W.Frag} {G : List (Value × Option Addr × XV) → Prop} {E : EK}
/-! ### d[k] = v, d a dict's cell -/
def putL (ks : List Key) (ts : List Tr) (k : Key) (v : Tr) : List (Key × Tr) := putT (ks.zip ts) k v
def dDPut (dd dk dv : DE) : DS := fun D ρ Ω => dv ρ Ω (fun v Ω1 => dd ρ Ω1 (fun x Ω2 => dk ρ Ω2 (fun y Ω3 => ∃ a ks ts k, x = .obj a ∧ keyT y = some k ∧ Ω3 a = some (.dic ks ts) ∧ ts.length + 1 ≤ 1000000 ∧ D.nx ρ (put Ω3 a (.dic ((putL ks ts k v).map (·.1)) ((putL ks ts k v).map (·.2))))) (fun y Ω' => D.ex ρ y Ω')) (fun y Ω' => D.ex ρ y Ω')) (fun y Ω' => D.ex ρ y Ω')
theorem sim_dput {td tk tv : TE} {dd dk dv : DE} (hd : SimE K G E td dd) (hk : SimE K G E tk dk) (hv : SimE K G E tv dv) : SimS K G E (sDPut td tk tv) (dDPut dd dk dv) := fun g σ H ρ Ω D DD hG R h e => by
  refine hv g σ H ρ Ω _ _ _ hG R h (fun v Ω1 vv H1 h1 k1 o1 d1 => ?_) (e.exx R)
  have R1 := R.keep k1 o1
  refine hd g σ H1 ρ Ω1 _ _ _ hG R1 h1 (fun x Ω2 xv H2 h2 k2 o2 d2 => ?_) ((e.at k1).exx R1)
  have R2 := R1.keep k2 o2
  refine hk g σ H2 ρ Ω2 _ _ _ hG R2 h2 (fun y Ω3 yv H3 ⟨a, ks, ts, k, ex, ek, hc, hz, p⟩ k3 o3 d3 => ?_) ((e.at (k1.trans k2)).exx R2)
  subst ex
  obtain rfl : xv = .ref a := d2
  obtain rfl := vd_key d3 ek
  obtain ⟨xs, h4, h5, h6, h7⟩ := (o3.ce a _ hc).2
  have kk := (k1.trans k2).trans k3
  have hl5 := h5.len
  have hzl : (ks.zip xs).length = ts.length := by rw [List.length_zip]; omega
  refine ⟨a, _, rfl, DPut.k h4 (by rw [hzl]; exact size_lt h7), ?_⟩
  have kv : KVD K g.dr (NM g Ω3) H3 (ks.zip xs) (ks.zip ts) := by
    refine ⟨by rw [List.map_fst_zip (by omega), List.map_fst_zip (by omega)], ?_⟩
    rw [List.map_snd_zip (by omega), List.map_snd_zip (by omega)]
    exact h5
  have kv2 := KVD.put (k := k) (d1.keep (k2.trans k3)) kv
  have kw : Keep g H3 Ω3 (upd H3 a (.dK (putK (ks.zip xs) k vv))) (put Ω3 a (.dic ((putL ks ts k v).map (·.1)) ((putL ks ts k v).map (·.2)))) := .write hc
  have hlen : (putL ks ts k v).length ≤ ts.length + 1 := by
    have := putT_len (kvs := ks.zip ts) (k := k) (t := v)
    rw [List.length_zip] at this
    unfold putL
    omega
  have o4 : OmOk K g (upd H3 a (.dK (putK (ks.zip xs) k vv))) (put Ω3 a (.dic ((putL ks ts k v).map (·.1)) ((putL ks ts k v).map (·.2)))) := by
    refine o3.write hc ⟨(putK (ks.zip xs) k vv).map (·.2), ?_, kv2.2.keep kw, by simp, by rw [List.length_map]; omega⟩
    rw [upd_same]
    have e1 : (putL ks ts k v).map (·.1) = (putK (ks.zip xs) k vv).map (·.1) := kv2.1.symm
    rw [e1, LT.zip_fst_snd]
  exact e.nx ρ _ σ _ p (kk.trans kw) (R.keep (kk.trans kw) o4)
/-! ### sorted(set(t)) -/
def dSortS (da : DA) : DE := fun ρ Ω P PX => da ρ Ω (fun us Ω1 => ∃ (t : Tr) (ns ds : List Int), us = [t] ∧ asT t = some (ns.map Tr.int) ∧ ds.length ≤ 4000 ∧ (∀ k ∈ ns, k ∈ ds) ∧ ∀ ms : List Int, ms.Pairwise (· < ·) → (∀ k, k ∈ ms ↔ k ∈ ns) → ms.length ≤ 1000000 → lstNew (ms.map Tr.int) Ω1 P) PX
theorem sim_sortS {w : World} {ta : TA} {da : DA} (ha : SimA K G E ta da) : SimE K G E (tCB (rSortS w) (tCons (tCB (rSetT K w) ta) tNil)) (dSortS da) := fun g σ H ρ Ω P PX Q hG R h q qx =>
  ha g σ H ρ Ω _ PX _ hG R h (fun us Ω1 vs H1 ⟨t, ns, ds, e, ht, few, sub, p⟩ k1 o1 d1 => by
    subst e
    obtain ⟨v, _, rfl, dv, rfl⟩ := d1
    obtain ⟨a, xs, rfl, s, dl, hz⟩ := at_T dv ht
    rw [vdl_ints dl] at s
    refine ⟨a, ns, ds, rfl, s, by unfold scanBound; omega, sub, fun b c hb => ?_⟩
    refine ⟨b, _, c, rfl, upd_same, fun ms pa hs hm hp => ?_⟩
    have k2 : Keep g H1 Ω1 (upd H1 b (SetO w b (fun j => decide (j ∈ ns)) c)) Ω1 := .new hb
    have o2 := o1.new (o := SetO w b (fun j => decide (j ∈ ns)) c) hb
    have hm' : ∀ k, k ∈ ms ↔ k ∈ ns := fun k => by rw [hm k]; exact decide_eq_true_iff
    have len : ms.length ≤ 1000000 := by
      have := nodup_le (l := ms) (ds := ds) (hs.imp fun h => Int.ne_of_lt h) fun k hk => sub k ((hm' k).mp hk)
      omega
    exact new_lst o2 vdl_of_ints (by rw [List.length_map]; exact len) (p ms hs hm' len) (q.at (k1.trans k2)) hp) qx
/-! ### cells that are asked no more -/
def cuts (Ω : Om) : List Addr → Om
  | [] => Ω
  | a :: as => cut (cuts Ω as) a
theorem Keep.freezes {g : Gh} {H : Hp} {Ω : Om} : ∀ as : List Addr, Keep g H Ω H (cuts Ω as)
  | [] => .refl
  | a :: as => (Keep.freezes as).trans .freeze
theorem OmOk.freezes {g : Gh} {H : Hp} {Ω : Om} (o : OmOk K g H Ω) : ∀ as : List Addr, OmOk K g H (cuts Ω as)
  | [] => o
  | a :: as => (OmOk.freezes o as).freeze
/-- return: what is asked no more is dropped -/
def dRetF (de : DE) : DS := fun D ρ Ω => de ρ Ω (fun t Ω' => ∃ as, D.rt t (cuts Ω' as)) (fun x Ω' => D.ex ρ x Ω')
theorem sim_retF {te : TE} {de : DE} (h : SimE K G E te de) : SimS K G E (tRet te) (dRetF de) := fun g σ H ρ Ω D DD hG R p e => h g σ H ρ Ω _ _ _ hG R p (fun t Ω' v H' ⟨as, q⟩ k o d => e.rt t _ v H' q (k.trans (.freezes as)) (o.freezes as) (d.keep (.freezes as))) (e.exx R)
theorem retF_0 {t : Tr} {Ω : Om} {P : PT'} (q : P t Ω) : ∃ as, P t (cuts Ω as) := ⟨[], q⟩
theorem retF_1 {t : Tr} {Ω : Om} {P : PT'} {a : Addr} {c : Cell} (ha : Ω a = none) (q : P t Ω) : ∃ as, P t (cuts (put Ω a c) as) := ⟨[a], by show P t (cut (put Ω a c) a); rw [cut_put ha]; exact q⟩
theorem retF_2 {t : Tr} {Ω : Om} {P : PT'} {a b : Addr} {c d : Cell} (ha : Ω a = none) (hb : put Ω a c b = none) (q : P t Ω) : ∃ as, P t (cuts (put (put Ω a c) b d) as) := ⟨[a, b], by show P t (cut (cut (put (put Ω a c) b d) b) a); rw [cut_put hb, cut_put ha]; exact q⟩
/-- the same ahead of a statement -/
def tFgl (t : TS) : TS := t
theorem ps_fgl {X : Cx} {s : Stmt} {t : TS} (h : PS X s t) : PS X s (tFgl t) := h
def dForgets (d : DS) : DS := fun D ρ Ω => ∃ as, d D ρ (cuts Ω as)
theorem sim_fgl {t : TS} {d : DS} (h : SimS K G E t d) : SimS K G E (tFgl t) (dForgets d) := fun g σ H ρ Ω D DD hG R ⟨as, p⟩ e => h g σ H ρ (cuts Ω as) D DD hG (R.keep (.freezes as) (R.om.freezes as)) p (e.at (.freezes as))
/-- a dict's cell becomes data -/
theorem freezeD {g : Gh} {σ : L2.St} {H : Hp} {ρ : En} {Ω : Om} {i : Nat} {a : Addr} {ks : List Key} {ts : List Tr} (R : Rel K g σ H ρ Ω) (h1 : ρ[i]? = some (some (.obj a))) (h2 : Ω a = some (.dic ks ts)) : Rel K g σ H (ρ.set i (some (.dic ks ts))) (cut Ω a) := by
  have R1 := R.keep Keep.freeze (R.om.freeze (a := a))
  obtain ⟨v, ev, dv⟩ := R.env i _ h1
  obtain ⟨xs, h3, h4, h5⟩ := (R.om.ce a _ h2).2
  have hn : NM g (cut Ω a) a := ⟨cut_same, R.om.notdr h2, (R.om.ce a _ h2).1⟩
  have R2 := R1.set (v := v) (t := .dic ks ts) (i := i) ⟨a, xs, dv, hn, h3, h4.keep Keep.freeze, h5⟩
  have es : σ.set i (some v) = σ := by
    apply List.ext_getElem?
    intro j
    by_cases hj : i = j
    · subst hj
      rw [List.getElem?_set_self ((List.getElem?_eq_some_iff.mp ev).1), ev]
    · rw [List.getElem?_set_ne hj]
  rw [es] at R2
  exact R2
def dThawD (i : Nat) (d : DS) : DS := fun D ρ Ω => d D ρ Ω ∨ ∃ a ks ts, ρ[i]? = some (some (.obj a)) ∧ Ω a = some (.dic ks ts) ∧ d D (ρ.set i (some (.dic ks ts))) (cut Ω a)
theorem sim_thawD {i : Nat} {ts : TS} {ds : DS} (h : SimS K G E ts ds) : SimS K G E ts (dThawD i ds) := fun g σ H ρ Ω D DD hG R p e => by
  rcases p with p | ⟨a, ks, us, h1, h2, p⟩
  · exact h g σ H ρ Ω D DD hG R p e
  · exact h g σ H _ _ D DD hG (freezeD R h1 h2) p (e.at Keep.freeze)
def dRetTD (i : Nat) (de : DE) : DS := dThawD i (dRet de)
theorem sim_retThawD {i : Nat} {te : TE} {de : DE} (h : SimE K G E te de) : SimS K G E (tRet te) (dRetTD i de) := sim_thawD (sim_ret h)
theorem ret_newD {D : DN} {ρ : En} {Ω : Om} {i : Nat} {a : Addr} {ks : List Key} {ts : List Tr} (h1 : ρ[i]? = some (some (.obj a))) (ha : Ω a = none) (q : D.rt (.dic ks ts) Ω) : dRetTD i (dVar i) D ρ (put Ω a (.dic ks ts)) :=
  .inr ⟨a, ks, ts, h1, put_same, .dic ks ts, by rw [List.getElem?_set_self (List.getElem?_eq_some_iff.mp h1).1], by rw [cut_put ha]; exact q⟩
theorem asD_put {a : Addr} {ks : List Key} {ts : List Tr} {Ω : Om} : asD (.obj a) (put Ω a (.dic ks ts)) = some (ks, ts) := asD_obj put_same
/-- a dict without a key takes it at its end -/
theorem putT_new {kvs : List (Key × Tr)} {k : Key} {v : Tr} (h : k ∉ kvs.map (·.1)) : putT kvs k v = kvs ++ [(k, v)] := by
  unfold putT
  rw [if_neg]
  intro z
  obtain ⟨kv, hm, e⟩ := List.any_eq_true.mp z
  exact h (List.mem_map.mpr ⟨kv, hm, of_decide_eq_true e⟩)
theorem valT_at : ∀ {ks : List Key} {ts : List Tr} {i : Nat} {k : Key} {t : Tr}, ks.Nodup → ks[i]? = some k → ts[i]? = some t → valT ks ts k = some t
  | a :: ks, [], _, _, _, _, _, h2 => by cases h2
  | a :: ks, u :: ts, 0, k, t, _, h1, h2 => by
    cases h1
    cases h2
    rw [valT_cons, if_pos rfl]
  | a :: ks, u :: ts, i + 1, k, t, hn, h1, h2 => by
    obtain ⟨n1, n2⟩ := List.nodup_cons.mp hn
    have hk : k ∈ ks := List.mem_of_getElem? (i := i) h1
    rw [valT_cons, if_neg (fun e => n1 (by rw [e]; exact hk))]
    exact valT_at (i := i) n2 h1 h2
/-! ### t * n -/
def dRepW : Tr → Tr → Om → PT' → Prop := fun x y Ω P => ∃ ts k, x = .tup ts ∧ y = .int k ∧ ts ≠ [] ∧ 2 ≤ k ∧ ts.length * k.toNat ≤ 1000000 ∧ P (.tup (List.replicate k.toNat ts).flatten) Ω
theorem flat_len {α : Type} {ts : List α} : ∀ m : Nat, (List.replicate m ts).flatten.length = ts.length * m
  | 0 => by simp
  | m + 1 => by rw [List.replicate_succ, List.flatten_cons, List.length_append, flat_len m, Nat.mul_succ, Nat.add_comm]
theorem simr_repW : SimR K (rRepW K) dRepW := fun g H Ω x y tx ty P Q o d1 d2 ⟨ts, k, e, e2, ne, h1, hz, p⟩ q => by
  subst e e2
  obtain ⟨a, xs, rfl, s, dl, z⟩ := sqt d1
  have hl := dl.len
  refine ⟨a, k, xs, rfl, d2, s, fun e => ne (by rw [e] at hl; exact List.eq_nil_of_length_eq_zero hl.symm), h1, by rw [hl]; exact hz, fun l n => new_tup o (dl.rep _) (by rw [flat_len]; exact hz) p q n⟩
theorem flat_one {α : Type} {a : α} : ∀ m : Nat, (List.replicate m [a]).flatten = List.replicate m a
  | 0 => rfl
  | m + 1 => by rw [List.replicate_succ, List.replicate_succ, List.flatten_cons, flat_one m]; rfl
/-! ### list(range(i, j)) -/
def dLstRg (da db : DE) : DE := fun ρ Ω P PX => da ρ Ω (fun x Ω1 => db ρ Ω1 (fun y Ω2 => ∃ i j : Int, x = .int i ∧ y = .int j ∧ (0 ≤ i ∧ i ≤ 1000000 ∧ 0 ≤ j ∧ j ≤ 1000000) ∧ lstNew (rngT i (j - i).toNat) Ω2 P) PX) PX
theorem sim_listRg {ta tb : TE} {da db : DE} (ha : SimE K G E ta da) (hb : SimE K G E tb db) : SimE K G E (tLstRg (tRg2 ta tb)) (dLstRg da db) := fun g σ H ρ Ω P PX Q hG R h q qx =>
  ha g σ H ρ Ω _ PX _ hG R h (fun x Ω1 v H1 h1 k1 o1 d1 => hb g σ H1 ρ Ω1 _ PX _ hG (R.keep k1 o1) h1 (fun y Ω2 u H2 ⟨i, j, e1, e2, b, p⟩ k2 o2 d2 => by
    subst e1 e2
    refine ⟨i, j, d1, d2, RgOk.of_le b.1 (by omega) (by omega) b.2.2.1 |> fun r => ⟨r, fun q' hq => ?_⟩⟩
    have e1 : rgV i j = ((List.range (j - i).toNat).map fun (k : Nat) => i + (k : Int)).map V.int := by unfold rgV; rw [List.map_map]; rfl
    have e2 : rngT i (j - i).toNat = ((List.range (j - i).toNat).map fun (k : Nat) => i + (k : Int)).map Tr.int := by unfold rngT; rw [List.map_map]; rfl
    rw [e1]
    refine new_lst o2 vdl_of_ints ?_ (by rw [← e2]; exact p) (q.at (k1.trans k2)) hq
    rw [List.length_map, List.length_map, List.length_range]
    omega) (qx.at k1)) qx
/-! ### loops of which one fact stays -/
theorem for_R2W {dg : DG} {db : DS} {D : DN} {ρ : En} {Ω : Om} {da : DA} {R : Int → Int → Prop} {Ω1 : Om} (he : ∀ P : List Tr → Om → Prop, (∀ a n : Int, R a n → P [.int a, .int n] Ω1) → da ρ Ω P (fun y Ω' => D.ex ρ y Ω')) (hb : ∀ a n, R a n → -(2 ^ 62) ≤ a ∧ a < 2 ^ 62 ∧ -(2 ^ 62) ≤ n ∧ n < 2 ^ 62) (W : En → Om → Prop) (w0 : W ρ Ω1)
    (step : ∀ a n, R a n → ∀ (v : Int) ρ' Ω', a ≤ v → v < n → W ρ' Ω' → dg (.int v) ρ' Ω' (fun ρ2 Ω2 => db { D with nx := W, ct := W, bk := D.nx } ρ2 Ω2) nox) (fin : ∀ ρ' Ω', W ρ' Ω' → D.nx ρ' Ω') : dFor (diR2 da) dg db D ρ Ω :=
  he _ fun a n hn => ⟨a, n, rfl, hb a n hn, fun _ => W, w0, fun _ _ _ _ => trivial, fun i t ρ' Ω' e w => by
    have hi : i < (n - a).toNat := by have := (List.getElem?_eq_some_iff.mp e).1; rwa [rngT_len] at this
    rw [rngT_get hi] at e
    cases e
    exact step a n hn _ ρ' Ω' (by omega) (by omega) w, fun ρ' Ω' w => fin ρ' Ω' w⟩
theorem for_R1W {dg : DG} {db : DS} {D : DN} {ρ : En} {Ω : Om} {da : DA} {R : Int → Prop} {Ω1 : Om} (he : ∀ P : List Tr → Om → Prop, (∀ n : Int, R n → P [.int n] Ω1) → da ρ Ω P (fun y Ω' => D.ex ρ y Ω')) (hb : ∀ n, R n → -(2 ^ 62) ≤ n ∧ n < 2 ^ 62) (W : En → Om → Prop) (w0 : W ρ Ω1)
    (step : ∀ n, R n → ∀ (v : Int) ρ' Ω', 0 ≤ v → v < n → W ρ' Ω' → dg (.int v) ρ' Ω' (fun ρ2 Ω2 => db { D with nx := W, ct := W, bk := D.nx } ρ2 Ω2) nox) (fin : ∀ ρ' Ω', W ρ' Ω' → D.nx ρ' Ω') : dFor (diR1 da) dg db D ρ Ω :=
  he _ fun n hn => ⟨n, rfl, (hb n hn).1, (hb n hn).2, fun _ => W, w0, fun _ _ _ _ => trivial, fun i t ρ' Ω' e w => by
    have hi : i < n.toNat := by have := (List.getElem?_eq_some_iff.mp e).1; rwa [rngT_len] at this
    rw [rngT_get hi, Int.zero_add] at e
    cases e
    exact step n hn _ ρ' Ω' (by omega) (by omega) w, fun ρ' Ω' w => fin ρ' Ω' w⟩
end
end LT

namespace LT
open PySem PySem.Spec PyProof.Rows L2 LL
section
variable {K : PySem.W.Frag} {G : List (Value × Option Addr × XV) → Prop} {E : EK}
/-! ### sorted -/
def dSortI : List Tr → Om → PT' → Prop := fun us Ω P => ∃ (t : Tr) (ns : List Int), us = [t] ∧ asL t Ω = some (ns.map Tr.int) ∧ ∀ ms : List Int, ms.Perm ns → ms.Pairwise (· ≤ ·) → lstNew (ms.map Tr.int) Ω P
theorem simc_sortI : SimC K (rSortedI K) dSortI := fun g H Ω vs us P Q o d ⟨t, ns, e, h, p⟩ q => by
  subst e
  obtain ⟨v, _, rfl, d, rfl⟩ := d
  obtain ⟨a, xs, rfl, s, _, dl, z⟩ := at_L o d h
  rw [vdl_ints dl] at s
  rw [List.length_map] at z
  exact ⟨a, ns, rfl, s, fun ms p' hp hs n => new_lst o vdl_of_ints (by rw [List.length_map, hp.length_eq]; exact z) (p ms hp hs) q n⟩
def rowT (r : List Int) : Tr := .tup (r.map Tr.int)
theorem toPs_ints : ∀ {ns : List Int}, toPs (ns.map Tr.int) = ns.map PyData.int
  | [] => rfl
  | n :: ns => by show PyData.int n :: toPs (ns.map Tr.int) = _; rw [toPs_ints]; rfl
theorem plain_ints : ∀ {ns : List Int}, plainTs (ns.map Tr.int) = true
  | [] => rfl
  | n :: ns => by show (true && plainTs (ns.map Tr.int)) = true; rw [plain_ints]; rfl
theorem vdl_pairs {dr : Option (Addr × Addr)} {F : Addr → Prop} {H : Hp} : ∀ {bs : List (V × List Int)}, (∀ b ∈ bs, VD K dr F H b.1 (rowT b.2)) → VDL K dr F H (bs.map (·.1)) ((bs.map (·.2)).map rowT)
  | [], _ => rfl
  | b :: bs, h => .cons (h b List.mem_cons_self) (vdl_pairs fun c hc => h c (List.mem_cons_of_mem _ hc))
theorem vdl_zip {dr : Option (Addr × Addr)} {F : Addr → Prop} {H : Hp} : ∀ {xs : List V} {rs : List (List Int)}, VDL K dr F H xs (rs.map rowT) → ∀ b ∈ xs.zip rs, VD K dr F H b.1 (rowT b.2) ∧ b.2 ∈ rs
  | xs, [], _, b, hb => by rw [List.zip_nil_right] at hb; cases hb
  | xs, r :: rs, d, b, hb => by
    obtain ⟨v, vs, rfl, d1, d2⟩ := d
    rw [List.zip_cons_cons] at hb
    rcases List.mem_cons.mp hb with rfl | hb
    · exact ⟨d1, List.mem_cons_self⟩
    · obtain ⟨h1, h2⟩ := vdl_zip d2 b hb
      exact ⟨h1, List.mem_cons_of_mem _ h2⟩
def dSortR : List Tr → Om → PT' → Prop := fun us Ω P => ∃ (t : Tr) (rs : List (List Int)), us = [t] ∧ asL t Ω = some (rs.map rowT) ∧ (∀ r ∈ rs, r ≠ []) ∧ lstNew ((rs.mergeSort leR).map rowT) Ω P
theorem simc_sortR : SimC K (rSortedR K) dSortR := fun g H Ω vs us P Q o d ⟨t, rs, e, h, ne, p⟩ q => by
  subst e
  obtain ⟨v, _, rfl, d, rfl⟩ := d
  obtain ⟨a, xs, rfl, s, _, dl, z⟩ := at_L o d h
  have len := dl.len
  rw [List.length_map] at z len
  have e1 : (xs.zip rs).map (·.1) = xs := List.map_fst_zip (Nat.le_of_eq len)
  have e2 : (xs.zip rs).map (·.2) = rs := List.map_snd_zip (Nat.le_of_eq len.symm)
  have hz := vdl_zip dl
  have e3 : ((xs.zip rs).mergeSort fun a b => leR a.2 b.2).map (·.2) = rs.mergeSort leR := by
    have := List.map_mergeSort (r := fun (a b : V × List Int) => leR a.2 b.2) (s := leR) (f := fun b : V × List Int => b.2) (l := xs.zip rs) (fun _ _ _ _ => rfl)
    rw [this, e2]
  refine ⟨a, xs.zip rs, rfl, by rw [e1]; exact s, fun b hb => ⟨?_, ne _ (hz b hb).2⟩, fun l n => ?_⟩
  · have := dp_of (rowT b.2) (hz b hb).1 (by show plainTs (b.2.map Tr.int) = true; exact plain_ints)
    rw [show toP (rowT b.2) = .tuple (toPs (b.2.map Tr.int)) from rfl, toPs_ints] at this
    exact this
  · have dv : VDL K g.dr (NM g Ω) H (((xs.zip rs).mergeSort fun a b => leR a.2 b.2).map (·.1)) ((rs.mergeSort leR).map rowT) := by
      rw [← e3]
      exact vdl_pairs fun b hb => (hz b (List.mem_mergeSort.mp hb)).1
    exact new_lst o dv (by rw [List.length_map, List.length_mergeSort]; exact z) p q n
end
end LT

namespace LT
open PySem PySem.Spec PyProof.Rows L2 LL
section
variable {K : PySem.W.Frag} {G : List (Value × Option Addr × XV) → Prop} {E : EK}
/-! ### objects of the program's own classes -/
def fldT (ns : List Str) (ts : List Tr) (f : Str) : Option Tr := (ns.zip ts).lookup f
theorem fld_vd {dr : Option (Addr × Addr)} {F : Addr → Prop} {H : Hp} {f : Str} : ∀ {ns : List Str} {xs : List V} {ts : List Tr}, VDL K dr F H xs ts → ts.length = ns.length → (∀ {t : Tr}, fldT ns ts f = some t → ∃ v, (ns.zip xs).lookup f = some v ∧ VD K dr F H v t) ∧ (fldT ns ts f = none → (ns.zip xs).lookup f = none)
  | [], xs, ts, d, hl => ⟨fun e => (by cases e), fun _ => rfl⟩
  | n :: ns, xs, [], d, hl => by cases hl
  | n :: ns, xs, t :: ts, d, hl => by
    obtain ⟨v, vs, rfl, d1, d2⟩ := d
    obtain ⟨i1, i2⟩ := fld_vd (f := f) (ns := ns) d2 (by simpa using hl)
    have e1 : fldT (n :: ns) (t :: ts) f = match f == n with | true => some t | false => fldT ns ts f := rfl
    have e2 : ((n :: ns).zip (v :: vs)).lookup f = match f == n with | true => some v | false => (ns.zip vs).lookup f := rfl
    rw [e1, e2]
    cases f == n with
    | true => exact ⟨fun e => ⟨v, rfl, by cases e; exact d1⟩, fun e => (by cases e)⟩
    | false => exact ⟨i1, i2⟩
/-- what a cell is asked for -/
def insC (Ω : Om) : Tr → Option (Addr × Addr × List Str × List Tr)
  | .obj a => match Ω a with
    | some (.ins C dx ns ts) => some (C, dx, ns, ts)
    | _ => none
  | _ => none
def insF (C : Addr) (f : Str) (x : Tr) (Ω : Om) : Option Tr := match insC Ω x with
  | some (C', _, ns, ts) => if C' = C then fldT ns ts f else none
  | none => none
/-- the object's address, where its class is C and its own dict has no m -/
def insM (C : Addr) (m : Str) (x : Tr) (Ω : Om) : Option Addr := match insC Ω x, x with
  | some (C', _, ns, ts), .obj a => if C' = C ∧ fldT ns ts m = none then some a else none
  | _, _ => none
def insP (C : Addr) (x : Tr) (Ω : Om) : Option Addr := match insC Ω x, x with
  | some (C', _, _, _), .obj a => if C' = C then some a else none
  | _, _ => none
theorem insC_obj {Ω : Om} {a C dx : Addr} {ns : List Str} {ts : List Tr} (h : Ω a = some (.ins C dx ns ts)) : insC Ω (.obj a) = some (C, dx, ns, ts) := by simp only [insC, h]
theorem insC_eq {Ω : Om} {x : Tr} {r : Addr × Addr × List Str × List Tr} (h : insC Ω x = some r) : ∃ a, x = .obj a ∧ Ω a = some (.ins r.1 r.2.1 r.2.2.1 r.2.2.2) := by
  unfold insC at h
  split at h
  · split at h
    · cases h
      exact ⟨_, rfl, by assumption⟩
    · cases h
  · cases h
theorem insF_obj {Ω : Om} {a C dx : Addr} {ns : List Str} {ts : List Tr} {f : Str} (h : Ω a = some (.ins C dx ns ts)) : insF C f (.obj a) Ω = fldT ns ts f := by
  unfold insF
  rw [insC_obj h]
  exact if_pos rfl
theorem insM_obj {Ω : Om} {a C dx : Addr} {ns : List Str} {ts : List Tr} {m : Str} (h : Ω a = some (.ins C dx ns ts)) (hm : fldT ns ts m = none) : insM C m (.obj a) Ω = some a := by
  unfold insM
  rw [insC_obj h]
  exact if_pos ⟨rfl, hm⟩
theorem insP_obj {Ω : Om} {a C dx : Addr} {ns : List Str} {ts : List Tr} (h : Ω a = some (.ins C dx ns ts)) : insP C (.obj a) Ω = some a := by
  unfold insP
  rw [insC_obj h]
  exact if_pos rfl
theorem insF_eq {Ω : Om} {x : Tr} {C : Addr} {f : Str} {t : Tr} (h : insF C f x Ω = some t) : ∃ a dx ns ts, x = .obj a ∧ Ω a = some (.ins C dx ns ts) ∧ fldT ns ts f = some t := by
  unfold insF at h
  split at h
  · rename_i C' dx ns ts e
    obtain ⟨a, e1, e2⟩ := insC_eq e
    by_cases hc : C' = C
    · subst hc
      rw [if_pos rfl] at h
      exact ⟨a, dx, ns, ts, e1, e2, h⟩
    · rw [if_neg hc] at h; cases h
  · cases h
theorem insM_eq {Ω : Om} {x : Tr} {C : Addr} {m : Str} {a : Addr} (h : insM C m x Ω = some a) : ∃ dx ns ts, x = .obj a ∧ Ω a = some (.ins C dx ns ts) ∧ fldT ns ts m = none := by
  unfold insM at h
  split at h
  · rename_i C' dx ns ts b e
    obtain ⟨a', e1, e2⟩ := insC_eq e
    cases e1
    split at h
    · rename_i hc
      obtain ⟨rfl, hm⟩ := hc
      cases h
      exact ⟨dx, ns, ts, rfl, e2, hm⟩
    · cases h
  · cases h
theorem insP_eq {Ω : Om} {x : Tr} {C : Addr} {a : Addr} (h : insP C x Ω = some a) : ∃ dx ns ts, x = .obj a ∧ Ω a = some (.ins C dx ns ts) := by
  unfold insP at h
  split at h
  · rename_i C' dx ns ts b e
    obtain ⟨a', e1, e2⟩ := insC_eq e
    cases e1
    split at h
    · rename_i hc
      subst hc
      cases h
      exact ⟨dx, ns, ts, rfl, e2⟩
    · cases h
  · cases h
/-- reading a field -/
def dFld (C : Addr) (f : Str) (de : DE) : DE := fun ρ Ω P PX => de ρ Ω (fun x Ω1 => ∃ t, insF C f x Ω1 = some t ∧ P t Ω1) PX
theorem sim_fld {C : Addr} {f : Str} {te : TE} {de : DE} (hC : Cls K C) (hn : NoAttr K C f) (h : SimE K G E te de) : SimE K G E (tFld K te f) (dFld C f de) := fun g σ H ρ Ω P PX Q hG R p q qx =>
  h g σ H ρ Ω _ PX _ hG R p (fun x Ω1 v H1 ⟨t, hx, p1⟩ k1 o1 d1 => by
    obtain ⟨a, dx, ns, ts, ex, hc, hf⟩ := insF_eq hx
    subst ex
    obtain rfl : v = .ref a := d1
    obtain ⟨xs, h1, h2, h3⟩ := (o1.ce a _ hc).2
    obtain ⟨u, e, d2⟩ := (fld_vd h2 h3).1 hf
    exact ⟨a, C, dx, _, u, rfl, h1, hC, hn, e, q _ _ _ _ p1 k1 o1 d2⟩) qx
/-- o.f = v -/
def putFT {α : Type} (f : Str) (v : α) : List (Str × α) → List (Str × α)
  | [] => [(f, v)]
  | (g, u) :: r => if g = f then (f, v) :: r else (g, u) :: putFT f v r
theorem putF_eq {f : Str} {v : V} : ∀ {l : List (Str × V)}, putF f v l = putFT f v l
  | [] => rfl
  | (g, u) :: r => by
    unfold putF putFT
    rw [putF_eq]
    by_cases h : g = f
    · rw [if_pos h, if_pos h, h]
    · rw [if_neg h, if_neg h]
theorem putFT_vd {dr : Option (Addr × Addr)} {F : Addr → Prop} {H : Hp} {f : Str} {v : V} {t : Tr} (d : VD K dr F H v t) : ∀ {ns : List Str} {xs : List V} {ts : List Tr}, VDL K dr F H xs ts → ts.length = ns.length → ∃ ns' ts' xs', putFT f v (ns.zip xs) = ns'.zip xs' ∧ putFT f t (ns.zip ts) = ns'.zip ts' ∧ VDL K dr F H xs' ts' ∧ ts'.length = ns'.length ∧ ns' = (putFT f t (ns.zip ts)).map (·.1) ∧ ts' = (putFT f t (ns.zip ts)).map (·.2)
  | [], xs, [], e, _ => ⟨[f], [t], [v], rfl, rfl, ⟨v, [], rfl, d, rfl⟩, rfl, rfl, rfl⟩
  | [], xs, t :: ts, _, hl => by cases hl
  | n :: ns, xs, [], _, hl => by cases hl
  | n :: ns, xs, u :: ts, e, hl => by
    obtain ⟨w, vs, rfl, d1, d2⟩ := e
    have hl' : ts.length = ns.length := by simpa using hl
    have e1 : putFT f v ((n :: ns).zip (w :: vs)) = if n = f then (f, v) :: ns.zip vs else (n, w) :: putFT f v (ns.zip vs) := rfl
    have e2 : putFT f t ((n :: ns).zip (u :: ts)) = if n = f then (f, t) :: ns.zip ts else (n, u) :: putFT f t (ns.zip ts) := rfl
    rw [e1, e2]
    by_cases h : n = f
    · rw [if_pos h, if_pos h]
      refine ⟨f :: ns, t :: ts, v :: vs, rfl, rfl, ⟨v, vs, rfl, d, d2⟩, by simp [hl'], ?_, ?_⟩
      · rw [List.map_cons, List.map_fst_zip (by omega)]
      · rw [List.map_cons, List.map_snd_zip (by omega)]
    · rw [if_neg h, if_neg h]
      obtain ⟨ns', ts', xs', a1, a2, a3, a4, a5, a6⟩ := putFT_vd (f := f) d (ns := ns) d2 hl'
      refine ⟨n :: ns', u :: ts', w :: xs', by rw [a1]; rfl, by rw [a2]; rfl, ⟨w, xs', rfl, d1, a3⟩, by simp [a4], by rw [List.map_cons, ← a5], by rw [List.map_cons, ← a6]⟩
def dSetF (C : Addr) (f : Str) (dd dv : DE) : DS := fun D ρ Ω => dv ρ Ω (fun v Ω1 => dd ρ Ω1 (fun x Ω2 => ∃ a dx ns ts, x = .obj a ∧ insC Ω2 (.obj a) = some (C, dx, ns, ts) ∧ ts.length < 1000 ∧ D.nx ρ (put Ω2 a (.ins C dx ((putFT f v (ns.zip ts)).map (·.1)) ((putFT f v (ns.zip ts)).map (·.2))))) (fun y Ω' => D.ex ρ y Ω')) (fun y Ω' => D.ex ρ y Ω')
theorem sim_setF {C : Addr} {f : Str} {td tv : TE} {dd dv : DE} (hC : Cls K C) (hn : NoAttr K C f) (hd : SimE K G E td dd) (hv : SimE K G E tv dv) : SimS K G E (sFld K td tv f) (dSetF C f dd dv) := fun g σ H ρ Ω D DD hG R h e => by
  refine hv g σ H ρ Ω _ _ _ hG R h (fun v Ω1 vv H1 h1 k1 o1 d1 => ?_) (e.exx R)
  have R1 := R.keep k1 o1
  refine hd g σ H1 ρ Ω1 _ _ _ hG R1 h1 (fun x Ω2 xv H2 h2 k2 o2 d2 => ?_) ((e.at k1).exx R1)
  obtain ⟨a, dx, ns, ts, ex, hx, hz, p⟩ := h2
  obtain ⟨_, ea, hc⟩ := insC_eq hx
  cases ea
  simp only at hc
  subst ex
  obtain rfl : xv = .ref a := d2
  obtain ⟨xs, h3, h4, h5⟩ := (o2.ce a _ hc).2
  have kk := k1.trans k2
  obtain ⟨ns', ts', xs', a1, a2, a3, a4, a5, a6⟩ := putFT_vd (f := f) (d1.keep k2) (ns := ns) h4 h5
  have hlen := h4.len
  refine ⟨a, C, dx, _, rfl, h3, hC, hn, by rw [List.length_zip]; omega, ?_⟩
  rw [putF_eq, a1]
  rw [← a5, ← a6] at p
  have kw : Keep g H2 Ω2 (upd H2 a (.ins C dx (ns'.zip xs'))) (put Ω2 a (.ins C dx ns' ts')) := .write hc
  exact e.nx ρ _ σ _ p (kk.trans kw) (R.keep (kk.trans kw) (o2.write hc ⟨xs', upd_same, a3.keep kw, a4⟩))
/-- arguments that stand by default -/
def DfOk (K : PySem.W.Frag) (dvs : List V) (dts : List Tr) : Prop := ∀ (g : Gh) (Ω : Om) (H : Hp), VDL K g.dr (NM g Ω) H dvs dts
theorem DfOk.nil : DfOk K [] [] := fun _ _ _ => rfl
theorem vdl_app {dr : Option (Addr × Addr)} {F : Addr → Prop} {H : Hp} {ys : List V} {us : List Tr} (h2 : VDL K dr F H ys us) : ∀ {xs : List V} {ts : List Tr}, VDL K dr F H xs ts → VDL K dr F H (xs ++ ys) (ts ++ us)
  | xs, [], h => by
    have e : xs = [] := h
    subst e
    exact h2
  | xs, t :: ts, h => by
    obtain ⟨v, vs, rfl, d1, d2⟩ := h
    exact ⟨v, vs ++ ys, rfl, d1, vdl_app h2 d2⟩
/-- C(..) -/
def dMake (C : Addr) (P : Pw) (n : Nat) (dts : List Tr) (da : DA) : DE := fun ρ Ω Q PX => da ρ Ω (fun us Ω1 => us.length + dts.length + 1 = n ∧ ∀ a dx, Ω1 a = none → P (.obj a :: (us ++ dts)) (put Ω1 a (.ins C dx [] [])) (fun t Ω2 => t = .non ∧ Q (.obj a) Ω2) PX) PX
theorem sim_make {C : Addr} {P : Pw} {n : Nat} {dvs : List V} {dts : List Tr} {E1 : XK} {ta : TA} {da : DA} (hd : DfOk K dvs dts) (ha : SimA K G (fun _ => E1) ta da) : SimE K G (fun _ => E1) (tMake C (spD K P n) dvs E1 ta) (dMake C P n dts da) := fun g σ H ρ Ω Q PX QQ hG R h q qx =>
  ha g σ H ρ Ω _ PX _ hG R h (fun us Ω1 vs H1 ⟨hl, p⟩ k1 o1 d1 x dx nx ndx ne => by
    have npd : Keep g H1 Ω1 (upd H1 dx (.own x)) Ω1 := .new ndx
    have o2 := o1.new (o := .own x) ndx
    have nx2 : upd H1 dx (.own x) x = none := by rw [upd_ne (Ne.symm ne)]; exact nx
    have np : ¬ g.pr x := fun z => by obtain ⟨u, e⟩ := o1.pt x z; rw [nx] at e; cases e
    have kc : Keep g (upd H1 dx (.own x)) Ω1 (upd (upd H1 dx (.own x)) x (.ins C dx [])) (put Ω1 x (.ins C dx [] [])) := .cell nx2
    have o3 : OmOk K g (upd (upd H1 dx (.own x)) x (.ins C dx [])) (put Ω1 x (.ins C dx [] [])) := o2.cell nx2 np ⟨[], by rw [upd_same]; rfl, rfl, rfl⟩
    have kk := (k1.trans npd).trans kc
    have d3 := d1.keep (npd.trans kc)
    refine ⟨g, put Ω1 x (.ins C dx [] []), .obj x :: (us ++ dts), _, PX, by simp only [List.length_cons, List.length_append]; omega, ⟨.ref x, vs ++ dvs, rfl, rfl, vdl_app (hd g _ _) d3⟩, o3, p x dx (o1.fresh nx), fun t Ω2 v H2 ⟨e, pq⟩ k4 o4 d4 => ?_, qx.at kk⟩
    subst e
    exact ⟨d4, q _ _ _ _ pq (kk.trans k4) o4 rfl⟩) qx
theorem sim_make0 {C : Addr} {P : Pw} {n : Nat} {dvs : List V} {dts : List Tr} {ta : TA} {da : DA} (hd : DfOk K dvs dts) (ha : SimA K G E ta da) : SimE K G E (tMake C (spD K P n) dvs E0 ta) (fun ρ Ω Q PX => da ρ Ω (fun us Ω1 => us.length + dts.length + 1 = n ∧ ∀ a dx, Ω1 a = none → P (.obj a :: (us ++ dts)) (put Ω1 a (.ins C dx [] [])) (fun t Ω2 => t = .non ∧ Q (.obj a) Ω2) nox) PX) := fun g σ H ρ Ω Q PX QQ hG R h q qx =>
  ha g σ H ρ Ω _ PX _ hG R h (fun us Ω1 vs H1 ⟨hl, p⟩ k1 o1 d1 x dx nx ndx ne => by
    have npd : Keep g H1 Ω1 (upd H1 dx (.own x)) Ω1 := .new ndx
    have o2 := o1.new (o := .own x) ndx
    have nx2 : upd H1 dx (.own x) x = none := by rw [upd_ne (Ne.symm ne)]; exact nx
    have np : ¬ g.pr x := fun z => by obtain ⟨u, e⟩ := o1.pt x z; rw [nx] at e; cases e
    have kc : Keep g (upd H1 dx (.own x)) Ω1 (upd (upd H1 dx (.own x)) x (.ins C dx [])) (put Ω1 x (.ins C dx [] [])) := .cell nx2
    have o3 : OmOk K g (upd (upd H1 dx (.own x)) x (.ins C dx [])) (put Ω1 x (.ins C dx [] [])) := o2.cell nx2 np ⟨[], by rw [upd_same]; rfl, rfl, rfl⟩
    have kk := (k1.trans npd).trans kc
    have d3 := d1.keep (npd.trans kc)
    refine ⟨g, put Ω1 x (.ins C dx [] []), .obj x :: (us ++ dts), _, nox, by simp only [List.length_cons, List.length_append]; omega, ⟨.ref x, vs ++ dvs, rfl, rfl, vdl_app (hd g _ _) d3⟩, o3, p x dx (o1.fresh nx), fun t Ω2 v H2 ⟨e, pq⟩ k4 o4 d4 => ?_, AfterX.nox⟩
    subst e
    exact ⟨d4, q _ _ _ _ pq (kk.trans k4) o4 rfl⟩) qx
/-- o.m(..) -/
def dMeth (C : Addr) (m : Str) (P : Pw) (n : Nat) (dts : List Tr) (de : DE) (da : DA) : DE := fun ρ Ω Q PX => de ρ Ω (fun x Ω1 => ∃ a, insM C m x Ω1 = some a ∧ da ρ Ω1 (fun us Ω2 => us.length + dts.length + 1 = n ∧ P (.obj a :: (us ++ dts)) Ω2 Q PX) PX) PX
theorem sim_meth {C : Addr} {m : Str} {P : Pw} {n : Nat} {dvs : List V} {dts : List Tr} {E1 : XK} {te : TE} {de : DE} {ta : TA} {da : DA} (hd : DfOk K dvs dts) (he : SimE K G (fun _ => E1) te de) (ha : SimA K G (fun _ => E1) ta da) : SimE K G (fun _ => E1) (tMeth C m (spD K P n) dvs E1 te ta) (dMeth C m P n dts de da) := fun g σ H ρ Ω Q PX QQ hG R h q qx =>
  he g σ H ρ Ω _ PX _ hG R h (fun x Ω1 v H1 ⟨a, hx, p⟩ k1 o1 d1 => by
    obtain ⟨dx, ns, ts, ex, hc, hf⟩ := insM_eq hx
    subst ex
    obtain rfl : v = .ref a := d1
    obtain ⟨xs, h1, h2, h3⟩ := (o1.ce a _ hc).2
    refine ⟨a, dx, _, rfl, h1, (fld_vd h2 h3).2 hf, ?_⟩
    exact ha g σ H1 ρ Ω1 _ PX _ hG (R.keep k1 o1) p (fun us Ω2 vs H2 ⟨hl, p2⟩ k2 o2 d2 => ⟨g, Ω2, .obj a :: (us ++ dts), Q, PX, by simp only [List.length_cons, List.length_append]; omega, ⟨.ref a, vs ++ dvs, rfl, rfl, vdl_app (hd g _ _) d2⟩, o2, p2, q.at (k1.trans k2), qx.at (k1.trans k2)⟩) (qx.at k1)) qx
def dMeth0 (C : Addr) (m : Str) (P : Pw) (n : Nat) (dts : List Tr) (de : DE) (da : DA) : DE := fun ρ Ω Q PX => de ρ Ω (fun x Ω1 => ∃ a, insM C m x Ω1 = some a ∧ da ρ Ω1 (fun us Ω2 => us.length + dts.length + 1 = n ∧ P (.obj a :: (us ++ dts)) Ω2 Q nox) PX) PX
theorem sim_meth0 {C : Addr} {m : Str} {P : Pw} {n : Nat} {dvs : List V} {dts : List Tr} {te : TE} {de : DE} {ta : TA} {da : DA} (hd : DfOk K dvs dts) (he : SimE K G E te de) (ha : SimA K G E ta da) : SimE K G E (tMeth C m (spD K P n) dvs E0 te ta) (dMeth0 C m P n dts de da) := fun g σ H ρ Ω Q PX QQ hG R h q qx =>
  he g σ H ρ Ω _ PX _ hG R h (fun x Ω1 v H1 ⟨a, hx, p⟩ k1 o1 d1 => by
    obtain ⟨dx, ns, ts, ex, hc, hf⟩ := insM_eq hx
    subst ex
    obtain rfl : v = .ref a := d1
    obtain ⟨xs, h1, h2, h3⟩ := (o1.ce a _ hc).2
    refine ⟨a, dx, _, rfl, h1, (fld_vd h2 h3).2 hf, ?_⟩
    exact ha g σ H1 ρ Ω1 _ PX _ hG (R.keep k1 o1) p (fun us Ω2 vs H2 ⟨hl, p2⟩ k2 o2 d2 => ⟨g, Ω2, .obj a :: (us ++ dts), Q, nox, by simp only [List.length_cons, List.length_append]; omega, ⟨.ref a, vs ++ dvs, rfl, rfl, vdl_app (hd g _ _) d2⟩, o2, p2, q.at (k1.trans k2), AfterX.nox⟩) (qx.at k1)) qx
/-- a property -/
def dProp (C : Addr) (P : Pw) (de : DE) : DE := fun ρ Ω Q PX => de ρ Ω (fun x Ω1 => ∃ a, insP C x Ω1 = some a ∧ P [.obj a] Ω1 Q nox) PX
theorem sim_prop {C : Addr} {P : Pw} {te : TE} {de : DE} (he : SimE K G E te de) : SimE K G E (tProp C (spD K P 1) [] E0 te) (dProp C P de) := fun g σ H ρ Ω Q PX QQ hG R h q qx =>
  he g σ H ρ Ω _ PX _ hG R h (fun x Ω1 v H1 ⟨a, hx, p⟩ k1 o1 d1 => by
    obtain ⟨dx, ns, ts, ex, hc⟩ := insP_eq hx
    subst ex
    obtain rfl : v = .ref a := d1
    obtain ⟨xs, h1, h2, h3⟩ := (o1.ce a _ hc).2
    exact ⟨a, dx, _, rfl, h1, g, Ω1, [.obj a], Q, nox, rfl, ⟨.ref a, [], rfl, rfl, rfl⟩, o1, p, q.at k1, AfterX.nox⟩) qx
/-- l.pop() -/
def dPop (de : DE) : DE := fun ρ Ω P PX => de ρ Ω (fun x Ω1 => ∃ a us y, x = .obj a ∧ asL (.obj a) Ω1 = some us ∧ us.getLast? = some y ∧ P y (put Ω1 a (.lst us.dropLast))) PX
theorem asL_cell {a : Addr} {us : List Tr} {Ω : Om} (h : asL (.obj a) Ω = some us) : Ω a = some (.lst us) := by
  have h2 : cellL (Ω a) = some us := h
  cases e : Ω a with
  | none => rw [e] at h2; cases h2
  | some c =>
    rw [e] at h2
    cases c with
    | lst ts => cases h2; rfl
    | _ => cases h2
theorem VDL.dropLast {dr : Option (Addr × Addr)} {F : Addr → Prop} {H : Hp} : ∀ {xs : List V} {ts : List Tr}, VDL K dr F H xs ts → VDL K dr F H xs.dropLast ts.dropLast
  | xs, [], h => by rw [show xs = [] from h]; rfl
  | xs, [t], h => by
    obtain ⟨v, vs, rfl, _, e⟩ := h
    rw [show vs = [] from e]
    rfl
  | xs, t :: u :: ts, h => by
    obtain ⟨v, vs, rfl, d1, e⟩ := h
    obtain ⟨w, ws, rfl, d2, e2⟩ := e
    have := VDL.dropLast (xs := w :: ws) (ts := u :: ts) ⟨w, ws, rfl, d2, e2⟩
    rw [List.dropLast_cons₂, List.dropLast_cons₂]
    exact ⟨v, _, rfl, d1, this⟩
theorem sim_pop {te : TE} {de : DE} (he : SimE K G E te de) : SimE K G E (tBM0 K "list" rPop te) (dPop de) := fun g σ H ρ Ω P PX Q hG R p q qx =>
  he g σ H ρ Ω _ PX _ hG R p (fun x Ω1 v H1 ⟨a, us, y, ex, hu, hy, p1⟩ k1 o1 d1 => by
    subst ex
    obtain rfl : v = .ref a := d1
    have hc := asL_cell hu
    obtain ⟨_, xs, e3, s, _⟩ := at_L o1 (show VD K g.dr (NM g Ω1) H1 (.ref a) (.obj a) from rfl) hu
    cases e3
    obtain ⟨zs, h1, h2, h3⟩ := (o1.ce a _ hc).2
    have hlen := h2.len
    rw [List.getLast?_eq_getElem?] at hy
    obtain ⟨w, hw, dw⟩ := h2.get' hy
    have kw : Keep g H1 Ω1 (upd H1 a (.lst zs.dropLast)) (put Ω1 a (.lst us.dropLast)) := .write hc
    refine ⟨.inl ⟨rfl, xs, s⟩, a, zs, w, rfl, rfl, h1, by rw [hlen]; exact hw, q _ _ _ _ p1 (k1.trans kw) (o1.write hc ⟨_, upd_same, (h2.dropLast).keep kw, by rw [List.length_dropLast]; omega⟩) (dw.keep kw)⟩) qx
end
end LT

namespace LT
open PySem PySem.Spec PyProof.Rows L2 LL
section
variable {K : PySem.W.Frag} {g : Gh} {H H' : Hp} {Ω Ω' : Om} {a : Addr} {c : Cell} {u w : HO}
/-! ### a cell under a lock -/
theorem nm_lock {b : Addr} (h : Ω a = some c) (f : NM g Ω b) : NM (g.with a) (cut Ω a) b := ⟨by unfold cut; split; rfl; exact f.1, f.2.1, fun z => z.elim f.2.2 (fun e => by rw [e] at f; rw [f.1] at h; cases h)⟩
theorem up_lock (h : Ω a = some c) : ∀ b o', NM g Ω b → H b = some o' → NM (g.with a) (cut Ω a) b ∧ upd H a u b = some o' := fun b o' f r => ⟨nm_lock h f, by rw [upd_ne (fun z => by rw [z] at f; rw [f.1] at h; cases h)]; exact r⟩
theorem cut_none {b : Addr} (h : Ω b = none) : cut Ω a b = none := by unfold cut; split; rfl; exact h
theorem cell_imp {g2 : Gh} {H2 : Hp} {Ω2 : Om} {b : Addr} {c' : Cell} (hd : g2.dr = g.dr) (hb : H2 b = H b) (up : ∀ b o', NM g Ω b → H b = some o' → NM g2 Ω2 b ∧ H2 b = some o') (r : CellOk K g Ω H b c') : CellOk K g2 Ω2 H2 b c' := by
  cases c' with
  | lst ts => obtain ⟨xs, q, r, z⟩ := r; exact ⟨xs, by rw [hb]; exact q, by rw [hd]; exact r.imp up, z⟩
  | dic ks ts => obtain ⟨xs, q, r, z⟩ := r; exact ⟨xs, by rw [hb]; exact q, by rw [hd]; exact r.imp up, z⟩
  | ins C dx ns ts => obtain ⟨xs, q, r, z⟩ := r; exact ⟨xs, by rw [hb]; exact q, by rw [hd]; exact r.imp up, z⟩
theorem OmOk.lock (o : OmOk K g H Ω) (h : Ω a = some c) : OmOk K (g.with a) (upd H a u) (cut Ω a) where
  dr := fun d s e => by
    obtain ⟨c', ns, h1, h2, h3, h4, h5, h6, h7, h8, p1, p2, p3⟩ := o.dr d s e
    obtain ⟨i, v, kk, t, gg, h0, q4⟩ := h4
    have ne : ∀ {b}, Ω b = none → b ≠ a := fun hb z => by rw [z, h] at hb; cases hb
    exact ⟨c', ns, by rw [upd_ne (ne h6)]; exact h1, h2, by rw [upd_ne (ne h8)]; exact h3, ⟨i, v, kk, t, gg, h0, by rw [upd_ne (ne h7)]; exact q4⟩, h5, cut_none h6, cut_none h7, cut_none h8, fun z => z.elim p1 (ne h6), fun z => z.elim p2 (ne h7), fun z => z.elim p3 (ne h8)⟩
  ce := fun b c' e => by
    have hb : b ≠ a := fun z => by rw [z, cut_same] at e; cases e
    rw [cut_ne hb] at e
    exact ⟨fun z => z.elim (o.ce b c' e).1 hb, cell_imp (g := g) rfl (upd_ne hb) (up_lock h) (o.ce b c' e).2⟩
  ex := fun p hp => by
    obtain ⟨e, dd, fs, e1, nn, e2, e3, e4⟩ := o.ex p hp
    have up := up_lock (g := g) (H := H) (u := u) h
    exact ⟨e, dd, fs, e1, (up _ _ nn e2).1, (up _ _ nn e2).2, e3, e4.imp up⟩
  pt := fun b hb => by
    by_cases e : b = a
    · exact ⟨u, by rw [e, upd_same]⟩
    · obtain ⟨w, q⟩ := o.pt b (hb.resolve_right e)
      exact ⟨w, by rw [upd_ne e]; exact q⟩
theorem Rel.lock {σ : L2.St} {ρ : En} (R : Rel K g σ H ρ Ω) (h : Ω a = some c) : Rel K (g.with a) σ (upd H a u) ρ (cut Ω a) := ⟨R.om.lock h, R.len, fun i t e => by
  obtain ⟨v, h1, h2⟩ := R.env i t e
  exact ⟨v, h1, VD.imp (up_lock h) t h2⟩⟩
theorem keep_lock (h : Ω a = some c) (k : Keep g (upd H a w) (cut Ω a) H' Ω') (nd : ∀ d, g.dr ≠ some (d, a)) : Keep g H Ω (upd H' a u) (put Ω' a c) := fun b o hb hd e => by
  have ne : b ≠ a := fun z => by rw [z, h] at hb; cases hb
  obtain ⟨k1, k2⟩ := k b o (cut_none hb) hd (by rw [upd_ne ne]; exact e)
  exact ⟨by rw [upd_ne ne]; exact k1, by rw [put_ne ne]; exact k2⟩
theorem up_free : ∀ b o', NM (g.with a) Ω' b → H' b = some o' → NM g (put Ω' a c) b ∧ upd H' a u b = some o' := fun b o' f r => by
  have ne : b ≠ a := fun z => f.2.2 (.inr z)
  exact ⟨⟨by rw [put_ne ne]; exact f.1, f.less.2⟩, by rw [upd_ne ne]; exact r⟩
theorem OmOk.free (o : OmOk K (g.with a) H' Ω') (hp : ¬ g.pr a) (hc : CellOk K (g.with a) Ω' (upd H' a u) a c) : OmOk K g (upd H' a u) (put Ω' a c) := (o.prot (o := u)).toCell hp hc
theorem Rel.free {σ : L2.St} {ρ : En} (R : Rel K (g.with a) σ H' ρ Ω') (hp : ¬ g.pr a) (hc : CellOk K (g.with a) Ω' (upd H' a u) a c) : Rel K g σ (upd H' a u) ρ (put Ω' a c) := ⟨R.om.free hp hc, R.len, fun i t e => by
  obtain ⟨v, h1, h2⟩ := R.env i t e
  exact ⟨v, h1, VD.imp up_free t h2⟩⟩
end
section
variable {K : PySem.W.Frag} {G : List (Value × Option Addr × XV) → Prop} {E : EK}
/-! ### for k, v in d.items(): d, a local, is not changed in the loop -/
def itemsT (ks : List Key) (ts : List Tr) : List Tr := (ks.zip ts).map fun kv => .tup [kT kv.1, kv.2]
def dForI (i : Nat) (dg : DG) (db : DS) : DS := fun D ρ Ω => ∃ a ks ts, ρ[i]? = some (some (.obj a)) ∧ Ω a = some (.dic ks ts) ∧ ∃ W : Nat → En → Om → Prop, W 0 ρ (cut Ω a) ∧
  (∀ j t ρ' Ω', (itemsT ks ts)[j]? = some t → W j ρ' Ω' → dg t ρ' Ω' (fun ρ2 Ω2 => db { nx := W (j + 1), ct := W (j + 1), rt := fun _ _ => False } ρ2 Ω2) nox) ∧ ∀ ρ' Ω', W ks.length ρ' Ω' → D.nx ρ' (put Ω' a (.dic ks ts))
theorem sim_forI {i : Nat} {tg : TG} {tb : TS} {dg : DG} {db : DS} (hg : SimG K G E tg dg) (hb : SimS K G E tb db) : SimS K G E (tLock (tFor (iItems (tVar i)) tg tb)) (dForI i dg db) := fun g σ H ρ Ω D DD hG R ⟨a, ks, ts, hi, hc, W, w0, step, fin⟩ e => by
  obtain ⟨v, ev, dv⟩ := R.env i _ hi
  obtain rfl : v = .ref a := dv
  obtain ⟨pa, xs, h1, h2, h3, h4⟩ := R.om.ce a _ hc
  have nd := R.om.notdr hc
  have hlen := h2.len
  have hkl : (ks.zip xs).length = ks.length := by rw [List.length_zip]; omega
  refine ⟨a, .dK (ks.zip xs), h1, trivial, fun od => ?_⟩
  refine ⟨.ref a, ev, a, od, ks.zip xs, rfl, upd_same, ?_⟩
  have R1 : Rel K (g.with a) σ (upd H a (.frz od (.dK (ks.zip xs)))) ρ (cut Ω a) := R.lock hc
  have d1 : VDL K (g.with a).dr (NM (g.with a) (cut Ω a)) (upd H a (.frz od (.dK (ks.zip xs)))) xs ts := VDL.imp (up_lock hc) ts h2
  have still : ∀ {H' Ω'}, Keep (g.with a) (upd H a (.frz od (.dK (ks.zip xs)))) (cut Ω a) H' Ω' → H' a = some (.frz od (.dK (ks.zip xs))) := fun k => (k a _ cut_same nd upd_same).1
  have back : ∀ {H' Ω'}, Keep (g.with a) (upd H a (.frz od (.dK (ks.zip xs)))) (cut Ω a) H' Ω' → CellOk K (g.with a) Ω' (upd H' a (.dK (ks.zip xs))) a (.dic ks ts) := fun k => ⟨xs, upd_same, VDL.prot (g := g) (D := a) (VDL.keep (g := g.with a) d1 k), h3, h4⟩
  refine ⟨fun j m σ' H' => m + j = ks.length ∧ ∃ ρ' Ω', Keep (g.with a) (upd H a (.frz od (.dK (ks.zip xs)))) (cut Ω a) H' Ω' ∧ Rel K (g.with a) σ' H' ρ' Ω' ∧ W j ρ' Ω', ⟨ks.length, by omega, ρ, _, .refl, R1, w0⟩, ?_⟩
  rintro j m σ' H' ⟨hm, ρ', Ω', k2, R2, w⟩
  rcases Nat.lt_or_ge j ks.length with hlt | hge
  · refine .inr ⟨⟨still k2, by rw [hkl]; exact hlt⟩, fun σ2 H2 => m - 1 + (j + 1) = ks.length ∧ ∃ ρ2 Ω2, Keep (g.with a) (upd H a (.frz od (.dK (ks.zip xs)))) (cut Ω a) H2 Ω2 ∧ Rel K (g.with a) σ2 H2 ρ2 Ω2 ∧ W (j + 1) ρ2 Ω2, fun σ2 H2 z => ⟨m - 1, by omega, z⟩, ?_⟩
    rintro x _ ⟨T, k, u, hk, rfl, nT, rfl⟩
    rw [List.getElem?_zip_eq_some] at hk
    obtain ⟨hk1, hk2⟩ := hk
    obtain ⟨t, ht⟩ : ∃ t, ts[j]? = some t := ⟨_, List.getElem?_eq_getElem (by omega)⟩
    obtain ⟨u', hu', du⟩ := d1.get' ht
    obtain rfl : u' = u := by rw [hk2] at hu'; exact (Option.some.inj hu').symm
    have npT : ¬ (g.with a).pr T := fun z => by obtain ⟨o, q⟩ := R2.om.pt T z; rw [nT] at q; cases q
    have kn : Keep (g.with a) H' Ω' (upd H' T (.tup [kV k, u'])) Ω' := .new nT
    have o3 := R2.om.new (o := .tup [kV k, u']) nT
    have dk : VDL K (g.with a).dr (NM (g.with a) Ω') (upd H' T (.tup [kV k, u'])) ([k].map kV) ([k].map kT) := vdl_keys
    obtain ⟨vk, _, ek, dk1, _⟩ := dk
    have ek1 : vk = kV k := (List.cons.inj ek).1.symm
    rw [ek1] at dk1
    have dt : VD K (g.with a).dr (NM (g.with a) Ω') (upd H' T (.tup [kV k, u'])) (.ref T) (.tup [kT k, t]) := ⟨T, [kV k, u'], rfl, .inl ⟨NM.new R2.om nT npT, upd_same⟩, ⟨_, _, rfl, dk1, ⟨_, _, rfl, VD.keep (g := g.with a) (VD.keep (g := g.with a) du k2) kn, rfl⟩⟩, by simp⟩
    have hit : (itemsT ks ts)[j]? = some (.tup [kT k, t]) := by
      unfold itemsT
      rw [List.getElem?_map, (List.getElem?_zip_eq_some (z := (k, t))).mpr ⟨hk1, ht⟩]
      rfl
    refine hg (g.with a) σ' _ ρ' Ω' (.ref T) _ _ _ _ hG (R2.keep kn o3) dt (step j _ ρ' Ω' hit w) (fun ρ2 Ω2 σ2 H2 p k4 R4 => ?_) fun _ _ _ ⟨_, _, z, _⟩ => z.elim
    have k5 := (k2.trans kn).trans k4
    exact hb (g.with a) σ2 H2 ρ2 Ω2 _ _ hG R4 p ⟨fun ρ3 Ω3 σ3 H3 p3 k r => ⟨by omega, ρ3, Ω3, k5.trans k, r, p3⟩, fun _ _ _ _ z => z.elim, fun _ _ _ _ z => z.elim, fun ρ3 Ω3 σ3 H3 p3 k r => ⟨by omega, ρ3, Ω3, k5.trans k, r, p3⟩, fun _ _ _ _ _ _ _ z => z.elim⟩
  · have hj : j = ks.length := by omega
    refine .inl ⟨⟨still k2, by rw [hkl]; exact hge⟩, still k2, ?_⟩
    have hf := fin ρ' Ω' (hj ▸ w)
    exact e.nx ρ' _ σ' _ hf (keep_lock hc k2 nd) (R2.free pa (back k2))
/-- the truth of a list or a tuple -/
def dTru (de : DE) : DT := fun ρ Ω P PX => de ρ Ω (fun x Ω1 => ∃ us, asS x Ω1 = some us ∧ P (!us.isEmpty) Ω1) PX
def tTru (K : PySem.W.Frag) (ta : TE) : TT := fun σ H Q => ta σ H fun x H' => ∃ k, TruV K x H' k ∧ Q k H'
theorem pt_tru {X : Cx} {a : PySem.Expr} {ta : TE} (h : PE X a ta) (ht : ∀ (whole : PySem.Sem PySem.Value), PySem.isTrue a X.env whole = do
          let v ← whole
          PySem.standAt a.pos
          PySem.holding [v] (PySem.truthy v)) : PT X a (tTru X.K ta) := pt_truth h ht
theorem sim_tru {te : TE} {de : DE} (h : SimE K G E te de) : SimT K G E (tTru K te) (dTru de) := fun g σ H ρ Ω P PX Q hG R p q qx =>
  h g σ H ρ Ω _ PX _ hG R p (fun x Ω1 v H1 ⟨us, hu, p1⟩ k1 o1 d1 => by
    obtain ⟨a, xs, rfl, s, dl, z⟩ := at_S o1 d1 hu
    have e : us.isEmpty = xs.isEmpty := by
      have := dl.len
      cases us <;> cases xs <;> simp_all
    refine ⟨!us.isEmpty, ?_, q _ _ _ p1 k1 o1⟩
    rw [e]
    rcases s with s | s
    · exact .inl ⟨xs, s, rfl⟩
    · exact .inr (.inl ⟨xs, s, rfl⟩)) qx
end
end LT

namespace LT
open PySem PySem.Spec PyProof.Rows L2 L2H LL
/-! ### try .. except A as e: .. except B as f: .. -/
structure Hdl where
  c : Value
  i : Nat
  ts : Addr → Value → Option Addr → TS
def endsAt (D : Ends) (i : Nat) : Ends := { nx := fun y G => D.nx (y.set i none) G, rt := D.rt, bk := fun y G => D.bk (y.set i none) G, ct := fun y G => D.ct (y.set i none) G }
def wRow (K : PySem.W.Frag) (Wo : WX) (D : Ends) : List Hdl → WX
  | [] => Wo
  | h :: r => fun cls d y G => ∃ b, PySem.W.exmOne K cls h.c = some b ∧ (b = true → ∀ a, G a = none → h.ts a cls d (endsAt D h.i) (y.set h.i (some (.ref a))) G) ∧ (b = false → wRow K Wo D r cls d y G)
inductive RowOk (X : Cx) : List ExceptHandler → List Hdl → Prop
  | nil : RowOk X [] []
  | cons {x n : Str} {h : Hdl} {b0 : Stmt} {su : List Stmt} {p1 p2 : Pos} {ks : List ExceptHandler} {l : List Hdl} (hi : X.N[h.i]? = some n) (hk : X.env.kindOf n = some .local) (hc : Names X x h.c)
      (hu : ∀ (a : Addr) (oe : Obj) (cls : Value) (d : Option Addr) (pn : List (Addr × Obj)), Zc cls d oe → (∃ u, oe.data = .fields u) → PSs (X.suite a ((a, oe) :: pn)) (b0 :: su) (h.ts a cls d)) (r : RowOk X ks l) :
      RowOk X (.ExceptHandler (some (.Name x p1)) (some n) (b0 :: su) p2 :: ks) (h :: l)
theorem row_cons {X : Cx} {x n : Str} {c : Value} {i : Nat} {ts : Addr → Value → Option Addr → TS} {b0 : Stmt} {su : List Stmt} {p1 p2 : Pos} {ks : List ExceptHandler} {l : List Hdl} (hi : X.N[i]? = some n) (hk : X.env.kindOf n = some .local) (hc : Names X x c)
    (hu : ∀ (a : Addr) (oe : Obj) (cls : Value) (d : Option Addr) (pn : List (Addr × Obj)), Zc cls d oe → (∃ u, oe.data = .fields u) → PSs (X.suite a ((a, oe) :: pn)) (b0 :: su) (ts a cls d)) (r : RowOk X ks l) : RowOk X (.ExceptHandler (some (.Name x p1)) (some n) (b0 :: su) p2 :: ks) (⟨c, i, ts⟩ :: l) := .cons hi hk hc hu r
section
variable {X : Cx} {body : List Stmt} {k0 : ExceptHandler} {ks : List ExceptHandler} {row : List Hdl} {pos : Pos} {tb : WX → TS} {Wo : WX}
def tTryRow (K : PySem.W.Frag) (row : List Hdl) (tb : WX → TS) (Wo : WX) : TS := fun D y G => tb (wRow K Wo D row) D y G
theorem ps_tryRow (st : X.stack = X.env :: X.outer) (fr : X.env.frame = some X.env.locals) (nd : X.N.Nodup) (tk : Takes X Wo)
    (bd : ∀ (W : WX) (pn : List (Addr × Obj)) (xe : Value → Shared → Prop), Takes (X.tr pn xe) W → PassesOwn (model X.prog X.w) X.A X.env xe → PSs (X.tr pn xe) body (tb W))
    (cl : RowOk X (k0 :: ks) row) : PS X (.Try body (k0 :: ks) [] [] pos) (tTryRow X.K row tb Wo) := by
  refine ⟨fun pp s0 y G D inv hyp => ?_⟩
  have ok := inv.ok
  have frs' : X.A.frames = some (X.env :: X.outer) := ok.frames.trans (congrArg some st)
  refine wpAny_Try_except ?_
  let out : Value → Shared → Prop := fun e t1 => wpAny (model X.prog X.w) X.A (noteFrame e X.env) (fun _ t2 => wpAny (model X.prog X.w) X.A (setFlight e none) (fun _ t3 => wpAny (model X.prog X.w) X.A (handleBy e X.env (k0 :: ks)) (SP X pp D) X.xe t3) X.xe t2) X.xe t1
  have takes : Takes (X.tr (X.pn ++ pp) out) (wRow X.K Wo D row) := by
    rintro u s9 ⟨a, B, sI, p9, y9, G9, cls, d, rfl, J9, nb, up, sky, na, os, ag, ask⟩
    have J : Inv X pp y9 G9 sI := J9.ofTry ok
    rw [show (X.tr (X.pn ++ pp) out).stack = X.env :: X.outer from st] at sky
    show wpAny (model X.prog X.w) X.A (noteFrame (.ref a) X.env) _ _ s9
    refine Sky.land Zc.steady frs' fr sky fun h3 f3 u3 => ?_
    have J3 : Inv X pp y9 G9 { s9 with heap := h3 } := J.landed nb f3.1 (up.trans u3) os ag
    obtain ⟨o3, v3, e3, z3, d3⟩ := f3.there
    have off : a ∉ frs (X.env :: X.outer) := fun hm => by
      obtain ⟨_, o', e', no⟩ := f3.2.2.1.mem hm
      rw [e3] at e'; cases e'
      exact no _ d3
    have offL : a ≠ X.env.locals := fun z => off (List.mem_filterMap.mpr ⟨_, List.mem_cons_self, z ▸ fr⟩)
    have offF : a ∉ X.fs := fun hm => by
      obtain ⟨e, he, q⟩ := List.mem_filterMap.mp hm
      exact off (List.mem_filterMap.mpr ⟨e, List.mem_cons_of_mem _ he, q⟩)
    have S3 := J3.suite e3 d3 na offL offF
    suffices all : ∀ {ks' : List ExceptHandler} {l' : List Hdl}, RowOk X ks' l' → wRow X.K Wo D l' cls d y9 G9 → wpAny (model X.prog X.w) X.A (handleBy (.ref a) X.env ks') (SP X pp D) X.xe { s9 with heap := h3 } from all cl ask
    intro ks' l' hk
    induction hk with
    | nil =>
      intro w
      refine wpAny_handleBy_nil ?_
      obtain ⟨_, _, _, oe, us, T, oT, us', he, hz, hd, h1, _⟩ := id f3
      unfold PySem.passOn
      refine wpAny_bind (wpAny_field he hd h1 ?_)
      rw [if_neg (show ¬ ((Value.ref T == Value.none) = true) from fun z => by simp at z)]
      have last : wpAny (model X.prog X.w) X.A (setFlight (.ref a) X.env.frame) (fun _ t4 => wpAny (model X.prog X.w) X.A (throw (.ref a) : Sem Flow) (SP X pp D) X.xe t4) X.xe { s9 with heap := h3 } := by
        rw [fr]
        exact HandSPX.setFlight_upZ f3 fun h4 hh4 up4 => wpAny_throw (tk _ _ ⟨a, B, sI, pp, y9, G9, cls, d, rfl, J, nb, (up.trans u3).trans up4, .inr (.inr (by rw [st]; exact hh4)), na, os, ag, w⟩)
      first
        | exact wpAny_bind (wpAny_pure (wpAny_bind last))
        | exact wpAny_bind last
    | @cons x n h b0 su p1 p2 ks2 l2 hi hkd hc hu r ih =>
      rintro ⟨b, eb, yes, no⟩
      refine wpAny_handleBy_cons (codeAny_handlers_test ?_) (by intro q; cases q)
      have lk : PySem.W.Looks (model X.prog X.w) h3 (typeOf (.ref a)) cls := fun _ _ _ s k q => wpAny_typeOf_ref (k _ _ e3) (by rw [z3.1]; exact q)
      have lm := PySem.W.exm_one (M := model X.prog X.w) (J3.kIn) lk eb
      have test : ∀ {Q E : Value → Shared → Prop}, Q h.c { s9 with heap := h3 } → wpAny (model X.prog X.w) (X.A.mark (some (.ref a))) (eval (.Name x p1) X.env) Q E { s9 with heap := h3 } := fun {Q E} q => by
        obtain ⟨g1, g2, hm | ⟨hm, hv, nn⟩⟩ := hc
        · exact ld_glob (X := X.suite a ((a, o3) :: (X.pn ++ pp))) S3 g1 hm q g2
        · exact ld_blt (X := X.suite a ((a, o3) :: (X.pn ++ pp))) S3 g1 hm hv q nn g2
      refine test (lm.here ?_)
      cases b with
      | false =>
        show wpAny _ X.A (handleBy (.ref a) X.env ks2) _ _ _
        exact ih (no rfl)
      | true =>
        refine codeAny_handlers_suite_as ?_
        refine HandSPX.lands_againZ f3 fun h4 f4 up4 => ?_
        have J4 : Inv X pp y9 G9 { s9 with heap := h4 } := J.landed nb f4.1 ((up.trans u3).trans up4) os ag
        obtain ⟨o4, v4, e4, z4, d4⟩ := f4.there
        have S4 := J4.suite e4 d4 na offL offF
        refine store_ok (X := X.suite a ((a, o4) :: (X.pn ++ pp))) (v := .ref a) S4 nd hi (.inl hkd) rfl (fun s5 S5 => ?_) (.inr hkd)
        refine wpAny_mono ((hu a o4 cls d (X.pn ++ pp) z4 ⟨_, d4⟩).run [] s5 _ G9 _ S5 (yes rfl a na)) (fun f s6 res => ?_) (fun _ _ z => z.elim)
        have gone : ∀ {y6 : L2.St} {G6 : Hp} {Q : Shared → Prop}, Inv (X.suite a ((a, o4) :: (X.pn ++ pp))) [] y6 G6 s6 → (∀ s7, Inv X pp (y6.set h.i none) G6 s7 → Q s7) → wpAny (model X.prog X.w) X.A (do bindName X.env n .none; unbindBehindTheSuite X.env n p2) (fun _ s7 => Q s7) X.xe s6 :=
          fun S6 hq => gone_ok (S6.unsuite ok) nd hi hkd hq
        match f, res with
        | .next, ⟨_, _, S6, q6⟩ => exact gone S6 fun s7 J7 => ⟨_, _, J7, q6⟩
        | .brk, ⟨_, _, S6, q6⟩ => exact gone S6 fun s7 J7 => ⟨_, _, J7, q6⟩
        | .cont, ⟨_, _, S6, q6⟩ => exact gone S6 fun s7 J7 => ⟨_, _, J7, q6⟩
        | .ret u, ⟨_, _, _, S6, r6, q6⟩ => exact gone S6 fun s7 J7 => ⟨_, _, _, J7, r6, q6⟩
  refine wpAny_mono ((bd (wRow X.K Wo D row) (X.pn ++ pp) out takes PassesOwn.looking).run [] s0 y G D (inv.toTry _) hyp) (fun f s1 res => ?_) (fun _ _ he => he)
  match f, res with
  | .next, ⟨y', G', J', q⟩ => exact wpAny_execs_nil ⟨y', G', J'.ofTry ok, q⟩
  | .brk, ⟨y', G', J', q⟩ => exact ⟨y', G', J'.ofTry ok, q⟩
  | .cont, ⟨y', G', J', q⟩ => exact ⟨y', G', J'.ofTry ok, q⟩
  | .ret u, ⟨v, y', G', J', r, q⟩ => exact ⟨v, y', G', J'.ofTry ok, r, q⟩
end
section
variable {K : PySem.W.Frag} {G : List (Value × Option Addr × XV) → Prop} {E : EK}
/-! the clauses' readings -/
structure HdT where
  c : Value
  i : Nat
  ds : Addr → XV → DS
def endsT (DD : DN) (i : Nat) : DN := { nx := fun ρ2 Ω2 => DD.nx (ρ2.set i none) Ω2, rt := DD.rt, bk := fun ρ2 Ω2 => DD.bk (ρ2.set i none) Ω2, ct := fun ρ2 Ω2 => DD.ct (ρ2.set i none) Ω2, ex := fun _ _ _ => False }
def exRow (K : PySem.W.Frag) (N : En → XV → Om → Prop) (DD : DN) : List HdT → En → XV → Om → Prop
  | [] => N
  | h :: r => fun ρ x Ω => ∃ b, PySem.W.exmOne K (.ref (He.ga K x.cls)) h.c = some b ∧ (b = true → ∀ a, h.ds a x (endsT DD h.i) (ρ.set h.i (some (.obj a))) Ω) ∧ (b = false → exRow K N DD r ρ x Ω)
inductive SimRow (K : PySem.W.Frag) (G : List (Value × Option Addr × XV) → Prop) : List Hdl → List HdT → Prop
  | nil : SimRow K G [] []
  | cons {c : Value} {i : Nat} {ts : Addr → Value → Option Addr → TS} {ds : Addr → XV → DS} {l : List Hdl} {l' : List HdT} (h : ∀ a cls d x, SimS K (GX G cls d x) (fun _ _ _ _ => False) (ts a cls d) (ds a x)) (r : SimRow K G l l') : SimRow K G (⟨c, i, ts⟩ :: l) (⟨c, i, ds⟩ :: l')
def dTryR (K : PySem.W.Frag) (l : List HdT) (db : DS) : DS := fun DD ρ Ω => db { DD with ex := exRow K (fun ρ' x Ω' => DD.ex ρ' x Ω') DD l } ρ Ω
def dTryR0 (K : PySem.W.Frag) (l : List HdT) (db : DS) : DS := fun DD ρ Ω => db { DD with ex := exRow K (fun _ _ _ => False) DD l } ρ Ω
theorem row_sim {Wo : WX} {D : Ends} {DD : DN} {N : En → XV → Om → Prop} {g : Gh} {H : Hp} {Ω : Om} (hG : G g.ex) (e : EndsR K E g H Ω D DD) (out : ∀ x ρ' Ω' σ' cls d H', N ρ' x Ω' → Keep g H Ω H' Ω' → Rel K g σ' H' ρ' Ω' → XR K g Ω' H' cls d x → Wo cls d σ' H') :
    ∀ {l : List Hdl} {l' : List HdT}, SimRow K G l l' → ∀ x ρ' Ω' σ' cls d H', exRow K N DD l' ρ' x Ω' → Keep g H Ω H' Ω' → Rel K g σ' H' ρ' Ω' → XR K g Ω' H' cls d x → wRow K Wo D l cls d σ' H' := by
  intro l l' r
  induction r with
  | nil => exact fun x ρ' Ω' σ' cls d H' p k R' xr => out x ρ' Ω' σ' cls d H' p k R' xr
  | @cons c i ts ds l l' hs r ih =>
    rintro x ρ' Ω' σ' cls d H' ⟨b, eb, h1, h2⟩ k R' xr
    have ec : cls = .ref (He.ga K x.cls) := xr.1
    refine ⟨b, by rw [ec]; exact eb, fun hb' a na => ?_, fun hb' => ih x ρ' Ω' σ' cls d H' (h2 hb') k R' xr⟩
    exact hs a cls d x (g.and (cls, d, x)) _ H' _ Ω' _ _ ⟨g.ex, rfl, hG⟩ ((R'.set (v := .ref a) (t := .obj a) rfl).and xr) (h1 hb' a) ⟨fun ρ2 Ω2 σ2 H2 p2 k2 r2 => e.nx _ Ω2 _ H2 p2 (k.trans k2) r2.drop.none, fun t Ω2 v H2 p2 k2 o2 d2 => e.rt t Ω2 v H2 p2 (k.trans k2) o2.drop d2, fun ρ2 Ω2 σ2 H2 p2 k2 r2 => e.bk _ Ω2 _ H2 p2 (k.trans k2) r2.drop.none, fun ρ2 Ω2 σ2 H2 p2 k2 r2 => e.ct _ Ω2 _ H2 p2 (k.trans k2) r2.drop.none, fun _ _ _ _ _ _ _ z => z.elim⟩
theorem sim_tryR {l : List Hdl} {l' : List HdT} {tb : WX → TS} {Wo : WX} {db : DS} (hE : ∀ σ cls d H, E σ cls d H = Wo cls d σ H) (hb : ∀ W : WX, SimS K G (WE W) (tb W) db) (hs : SimRow K G l l') : SimS K G E (tTryRow K l tb Wo) (dTryR K l' db) := fun g σ H ρ Ω D DD hG R p e =>
  hb _ g σ H ρ Ω D _ hG R p ⟨e.nx, e.rt, e.bk, e.ct, fun x ρ' Ω' σ' cls d H' q k R' xr => row_sim hG e (fun x ρ' Ω' σ' cls d H' q k R' xr => by rw [← hE]; exact e.ex x ρ' Ω' σ' cls d H' q k R' xr) hs x ρ' Ω' σ' cls d H' q k R' xr⟩
theorem sim_tryR0 {l : List Hdl} {l' : List HdT} {tb : WX → TS} {db : DS} (hb : ∀ W : WX, SimS K G (WE W) (tb W) db) (hs : SimRow K G l l') : SimS K G E (tTryRow K l tb (fun _ _ _ _ => False)) (dTryR0 K l' db) := fun g σ H ρ Ω D DD hG R p e =>
  hb _ g σ H ρ Ω D _ hG R p ⟨e.nx, e.rt, e.bk, e.ct, fun x ρ' Ω' σ' cls d H' q k R' xr => row_sim hG e (fun _ _ _ _ _ _ _ z => z.elim) hs x ρ' Ω' σ' cls d H' q k R' xr⟩
/-! ### o.m(..) within a try -/
def tMthS (C : Addr) (m : Str) (sp : Sp) (dvs : List V) (E : EK) (ta : TE) (t : TA) : TE := fun σ H Q => ta σ H fun x H1 => ∃ a dx fs, x = .ref a ∧ H1 a = some (.ins C dx fs) ∧ fs.lookup m = none ∧ t σ H1 fun vs H2 => sp (x :: (vs ++ dvs)) H2 Q (E σ)
section
variable {X : Cx} {CX : CXT} {k : Nat} {f C : Addr} {fd : FuncData} {ps : List Str} {sp : Sp} {m : Str} {dvs : List V} {ds : List Value} {q1 q2 : Pos} {e o : Expr} {es : List Expr} {ta : TE} {t : TA} {pl : Sem Bool}
theorem pe_mthS (he : PE X o ta) (c : Cls X.K C) (hm : Meth X.K C m f) (F : FnOk X.prog X.w X.K X.mg X.base CX k f fd ps sp) (room : Room k X.A) (bi : Binds X.K fd ps ds) (dd : Vals dvs ds) (px : ∀ σ, PassesAt CX X σ (E σ)) (args : PA X (e :: es) t)
    (s1 : starEach (e :: es) X.env = (false, eval e X.env) :: starEach es X.env := by rfl) (s2 : (backTo q2 (starEach es X.env)).any (·.1) = false := by rfl)
    (ev : eval (.Call (.Attribute o m q1) (e :: es) [] q2) X.env = (do let ov ← eval o X.env; standAt q1.atName; let (f, first) ← holding [ov] (getMethod ov m pl); callWith q2 f first (backTo q2 (starEach (e :: es) X.env)) (backToKw q2 (keywordEach [] X.env))) := by rfl) :
    PE X (.Call (.Attribute o m q1) (e :: es) [] q2) (tMthS C m sp dvs E ta t) := ⟨fun pp st y G W inv hyp => by
  refine PySem.W.methodCall_KW (pl := pl) (thn (he.run pp st y G _ inv hyp) fun u st1 ⟨x, G1, inv1, rx, a, dx, fs, ex, ea, look, ask⟩ => ?_) ev
  subst ex
  obtain rfl : u = Value.ref a := rx
  refine getmeth_ok inv1 ea c hm look ?_
  refine PySem.W.callWith_K (first := [.ref a]) (h₀ := X.base) inv.ok.mod.kin hm.kp (thn (args.run q2 pp st1 y G1 _ inv1 ask) fun us st2 ⟨vs, G2, inv2, rel, ask2⟩ => ⟨inv2.kIn, ?_⟩) s1 s2
  exact run_fnSD (us := .ref a :: us) (vs := .ref a :: vs) F room bi dd (px y) inv2 (.cons rfl rel) ask2⟩
theorem pe_mthS0 (he : PE X o ta) (c : Cls X.K C) (hm : Meth X.K C m f) (F : FnOk X.prog X.w X.K X.mg X.base CX k f fd ps sp) (room : Room k X.A) (bi : Binds X.K fd ps ds) (dd : Vals dvs ds) (px : ∀ σ, PassesAt CX X σ (E σ))
    (ev : eval (.Call (.Attribute o m q1) [] [] q2) X.env = (do let ov ← eval o X.env; standAt q1.atName; let (f, first) ← holding [ov] (getMethod ov m pl); callWith q2 f first (backTo q2 (starEach [] X.env)) (backToKw q2 (keywordEach [] X.env))) := by rfl) :
    PE X (.Call (.Attribute o m q1) [] [] q2) (tMthS C m sp dvs E ta tNil) := ⟨fun pp st y G W inv hyp => by
  refine PySem.W.methodCall_KW (pl := pl) (thn (he.run pp st y G _ inv hyp) fun u st1 ⟨x, G1, inv1, rx, a, dx, fs, ex, ea, look, ask⟩ => ?_) ev
  subst ex
  obtain rfl : u = Value.ref a := rx
  refine getmeth_ok inv1 ea c hm look ?_
  exact PySem.W.callWith_K0 (first := [.ref a]) inv1.kIn hm.kp (run_fnSD (us := [.ref a]) (vs := [.ref a]) F room bi dd (px y) inv1 (.cons rfl .nil) ask)⟩
end
theorem sim_mthS {C : Addr} {m : Str} {P : Pw} {n : Nat} {dvs : List V} {dts : List Tr} {te : TE} {de : DE} {ta : TA} {da : DA} (hd : DfOk K dvs dts) (he : SimE K G E te de) (ha : SimA K G E ta da) : SimE K G E (tMthS C m (spD K P n) dvs E te ta) (dMeth C m P n dts de da) := fun g σ H ρ Ω Q PX QQ hG R h q qx =>
  he g σ H ρ Ω _ PX _ hG R h (fun x Ω1 v H1 ⟨a, hx, p⟩ k1 o1 d1 => by
    obtain ⟨dx, ns, ts, ex, hc, hf⟩ := insM_eq hx
    subst ex
    obtain rfl : v = .ref a := d1
    obtain ⟨xs, h1, h2, h3⟩ := (o1.ce a _ hc).2
    refine ⟨a, dx, _, rfl, h1, (fld_vd h2 h3).2 hf, ?_⟩
    exact ha g σ H1 ρ Ω1 _ PX _ hG (R.keep k1 o1) p (fun us Ω2 vs H2 ⟨hl, p2⟩ k2 o2 d2 => ⟨g, Ω2, .obj a :: (us ++ dts), Q, PX, by simp only [List.length_cons, List.length_append]; omega, ⟨.ref a, vs ++ dvs, rfl, rfl, vdl_app (hd g _ _) d2⟩, o2, p2, q.at (k1.trans k2), qx.at (k1.trans k2)⟩) (qx.at k1)) qx
/-! ### C(.., k = v) -/
def dMakeK (C : Addr) (P : Pw) (n m k : Nat) (gT : List Tr → List Tr → List Tr) (da dk : DA) : DE := fun ρ Ω Q PX => da ρ Ω (fun us Ω1 => dk ρ Ω1 (fun zs Ω2 => us.length = n ∧ zs.length = m ∧ ∀ a dx, Ω2 a = none → (gT (.obj a :: us) zs).length = k ∧ P (gT (.obj a :: us) zs) (put Ω2 a (.ins C dx [] [])) (fun t Ω3 => t = .non ∧ Q (.obj a) Ω3) nox) PX) PX
theorem sim_makeK {C : Addr} {P : Pw} {n m k : Nat} {gV : List V → List V → List V} {gT : List Tr → List Tr → List Tr} {ta tk : TA} {da dk : DA} (hg : ∀ (dr : Option (Addr × Addr)) (F : Addr → Prop) (H : Hp) (vs zs : List V) (ts us : List Tr), VDL K dr F H vs ts → VDL K dr F H zs us → VDL K dr F H (gV vs zs) (gT ts us)) (ha : SimA K G E ta da) (hk : SimA K G E tk dk) : SimE K G E (tMakeK C n m (spD K P k) gV E0 ta tk) (dMakeK C P n m k gT da dk) := fun g σ H ρ Ω Q PX QQ hG R h q qx =>
  ha g σ H ρ Ω _ PX _ hG R h (fun us Ω0 vs H0 p0 k0 o0 d0 => hk g σ H0 ρ Ω0 _ PX _ hG (R.keep k0 o0) p0 (fun zs Ω1 ws H1 ⟨hl, hm, p⟩ k1' o1 d1 => by
    refine ⟨by rw [d0.len]; exact hl, by rw [d1.len]; exact hm, fun x dx nx ndx ne => ?_⟩
    have k1 := k0.trans k1'
    have npd : Keep g H1 Ω1 (upd H1 dx (.own x)) Ω1 := .new ndx
    have o2 := o1.new (o := .own x) ndx
    have nx2 : upd H1 dx (.own x) x = none := by rw [upd_ne (Ne.symm ne)]; exact nx
    have np : ¬ g.pr x := fun z => by obtain ⟨u, e⟩ := o1.pt x z; rw [nx] at e; cases e
    have kc : Keep g (upd H1 dx (.own x)) Ω1 (upd (upd H1 dx (.own x)) x (.ins C dx [])) (put Ω1 x (.ins C dx [] [])) := .cell nx2
    have o3 : OmOk K g (upd (upd H1 dx (.own x)) x (.ins C dx [])) (put Ω1 x (.ins C dx [] [])) := o2.cell nx2 np ⟨[], by rw [upd_same]; rfl, rfl, rfl⟩
    have kk := (k1.trans npd).trans kc
    obtain ⟨hl2, p2⟩ := p x dx (o1.fresh nx)
    refine ⟨g, put Ω1 x (.ins C dx [] []), gT (.obj x :: us) zs, _, nox, hl2, hg _ _ _ _ _ _ _ ⟨.ref x, vs, rfl, rfl, ((d0.keep k1').keep npd).keep kc⟩ ((d1.keep npd).keep kc), o3, p2, fun t Ω2 v H2 ⟨e, pq⟩ k4 o4 d4 => ?_, AfterX.nox⟩
    subst e
    exact ⟨d4, q _ _ _ _ pq (kk.trans k4) o4 rfl⟩) (qx.at k0)) qx
/-! ### a, b, .. = a list -/
theorem pg_lstK {X : Cx} {K : PySem.W.Frag} {pos : Pos} {es : List Expr} {k : Nat} {t : TGs} {n : Nat} (hK : X.K = K) (hc : X.calm = true) (h : PGs X es t) (h1 : (assignEach es X.env).length = n := by rfl) (h2 : List.findIdx? (fun x => x.1) (assignEach es X.env) = none := by rfl) : PG X (.Tuple es k pos) (gLst K n t) := hK ▸ pg_lst hc h h1 h2
def dLstG (n : Nat) (d : DGs) : DG := fun t ρ Ω P _ => ∃ ts, asL t Ω = some ts ∧ ts.length = n ∧ d ts ρ Ω P nox
theorem sim_gLst {n : Nat} {t : TGs} {d : DGs} (h : SimGs K G t d) : SimG K G E (gLst K n t) (dLstG n d) := fun g σ H ρ Ω v t' P PX Q hG R dd ⟨ts, e1, hl, p⟩ q _ => by
  obtain ⟨a, xs, rfl, hs, _, dl, hz⟩ := at_L R.om dd e1
  exact ⟨a, xs, rfl, hs, by rw [dl.len]; exact hl, h g σ H ρ Ω xs ts P Q hG R dl p q⟩
end
end LT

namespace LT
open PySem PySem.Spec PyProof.Rows L2 L2H LL
/-! ### a def that is called within an except suite on its exception, and calls others there -/
structure FnY (P : Program) (w : World) (K : PySem.W.Frag) (mg : Str → Option Value) (base : Heap) (k : Nat) (f : Addr) (fd : FuncData) (ps : List Str) (sp : Addr → Addr → Addr → Sp) : Prop where
  len : ∀ a D dd vs H Q E, sp a D dd vs H Q E → vs.length = ps.length
  run : ∀ (A : Around) (outer : List Env) (s : Shared) (H : Hp) (args : Args) (us : List Value) (vs : List V) (Q : VK) (E : XK) (p : Addr × Obj) (D dd : Addr),
    RoomH k A → Hot1 A p → Zc (.ref D) (some dd) p.2 → (∃ fs, p.2.data = .fields fs) → PinOk outer H s p → Env0 P w K mg base A outer s H → BindsTo s fd args (ps.zip us) → Vals vs us → sp p.1 D dd vs H Q E →
    codeAny (model P w) A (.call (.ref f) args) (CR CX0 outer P w H s Q E) s
section
variable {P : Program} {w : World} {K : PySem.W.Frag} {mg : Str → Option Value} {base : Heap} {k : Nat} {f : Addr} {fd : FuncData} {N ps : List Str} {sp : Addr → Addr → Addr → Sp} {x qual : Str} {pa : Arguments} {bd : List Stmt} {sc : Scope} {kws : List (Str × V)}
theorem okY (F : FunD K x qual pa bd sc [] kws f fd) (S : FnScope N ps sc) (len : ∀ a D dd vs H Q E, sp a D dd vs H Q E → vs.length = ps.length)
    (hb : ∀ (cdv : Value) (A : Around) (outer : List Env) (s : Shared) (H : Hp) (vs : List V) (Q : VK) (E : XK) (p : Addr × Obj) (D dd : Addr), Hot1 A p → RoomH k (A.deeper (envOfC qual sc s.heap.objs.size f cdv)) →
      Zc (.ref D) (some dd) p.2 → (∃ fs, p.2.data = .fields fs) → sp p.1 D dd vs H Q E →
      ∃ t, PSs (cxH CX0 P w K mg base N qual sc f cdv A outer s H E p) bd t ∧ t { nx := fun _ H' => Q .non H', rt := Q } (L2.start N vs) H) : FnY P w K mg base (k + 1) f fd ps sp := by
  obtain ⟨oc, od, dV, kV, doc, pm, an, cdv, ct, osl, rfl, lk, hcd, _, _⟩ := F.ex
  constructor
  · exact len
  · intro A outer s H args us vs Q E p D dd hr hot hz hf hpin e0 hbi r hsp
    have KX : K.In s.heap := e0.mod.kin.keeps (fun b o e => (e0.bs b o e).1)
    have lim : s.heap.NoLimit := e0.mod.nolimit.keeps (fun b o e => (e0.bs b o e).1)
    have hl : vs.length = ps.length := len _ _ _ _ _ _ _ hsp
    refine codeAny_call_function hr.depth (KX _ _ lk) rfl S.co S.gen rfl (PySem.W.codeRec_of KX hcd) (hbi _ _ _ _ (wpAny_newFunctionEnv_cells S.kind ?_ ?_))
    · rintro ⟨n, v⟩ hy
      cases S.par n (List.of_mem_zip hy).1 with
      | inl q => exact Or.inl q
      | inr q => exact Or.inr ⟨q, PySem.W.cellsFrom_some _ _ _ (Or.inl q)⟩
    · rintro env he s1 xx
      subst he
      obtain ⟨t, ht, hq⟩ := hb cdv A outer s H vs Q E p D dd hot (hr.deeper _) hz hf hsp
      have I := inv_startH (CX := CX0) (E := E) S hpin e0 hl r xx
      refine ⟨lim.keeps xx.toInCall.keep, codeAny_func (wpAny_mono (ht.run [] s1 _ H _ I hq) ?_ (fun e s' hs => hs))⟩
      intro fl s' hs
      cases fl with
      | ret u =>
        obtain ⟨v, σ', H', J, rv, q⟩ := hs
        exact ⟨v, H', J.os, J.bare, J.base, J.hok, rv, q⟩
      | next =>
        obtain ⟨σ', H', J, q⟩ := hs
        exact ⟨.non, H', J.os, J.bare, J.base, J.hok, rfl, q⟩
      | brk =>
        obtain ⟨_, _, _, q⟩ := hs
        exact q.elim
      | cont =>
        obtain ⟨_, _, _, q⟩ := hs
        exact q.elim
end
theorem pe_callY {X : Cx} {k : Nat} {f a : Addr} {fd : FuncData} {ps : List Str} {sp : Addr → Addr → Addr → Sp} {x : Str} {q pos : Pos} {e : Expr} {es : List Expr} {t : TA} {oe : Obj} {cls : Value} {d : Option Addr} {pn : List (Addr × Obj)}
    (F : FnY X.prog X.w X.K X.mg X.base k f fd ps sp) (hr : Room k X.A) (hz : L2N.Zn cls d oe) (hf : ∃ fs, oe.data = .fields fs) (hg : Gl X x) (hm : X.mg x = some (.ref f)) (hk : PySem.W.keepIn X.K (.ref f) = true) (hb : Binds X.K fd ps [])
    (ha : PA (X.suite a ((a, oe) :: pn)) (e :: es) t) (hdb : (x == ("__debug__" : Str)) = false := by decide) (he : starEach (e :: es) X.env = (false, eval e X.env) :: starEach es X.env := by rfl) (hpl : (backTo pos (starEach es X.env)).any (·.1) = false := by rfl) :
    PE (X.suite a ((a, oe) :: pn)) (.Call (.Name x q) (e :: es) [] pos) (tCallZ cls d a sp t) := by
  refine ⟨fun pins s σ H Q I h => ?_⟩
  refine wpAny_Call_Name_kw (ld_glob (X := X.suite a ((a, oe) :: pn)) I hg hm ?_ hdb)
  refine PySem.W.callWith_K (h₀ := X.base) I.ok.mod.kin hk (thn (ha.run pos pins s σ H _ I h) ?_) he hpl
  rintro us s1 ⟨vs, H1, I1, r, D, dd, e1, e2, q1⟩
  subst e1 e2
  refine ⟨I1.kIn, ?_⟩
  have hl : us.length = ps.length := r.length.symm.trans (F.len _ _ _ _ _ _ _ q1)
  have b := hb s1 us I1.kIn (by rw [List.append_nil]; exact hl)
  rw [List.append_nil] at b
  obtain ⟨g1, g2, g3, g4, g5⟩ := I1.pin (a, oe) (List.mem_append.mpr (.inl List.mem_cons_self))
  have hpin : PinOk X.stack H1 s1 (a, oe) := ⟨g1, g2, fun hm => (List.mem_cons.mp (I1.stkSub a hm)).elim g3 g4, g5⟩
  obtain ⟨fs, efs⟩ := hf
  have hot : Hot1 (X.A.mark (some (.ref a))) (a, oe) := ⟨rfl, fs, efs, hz.2.2 fs efs⟩
  refine wpAny_call (codeAny_mono (F.run (X.A.mark (some (.ref a))) X.stack s1 H1 ⟨us, []⟩ us vs Q E0 (a, oe) D dd ⟨hr.dp, hr.un⟩ hot hz.zc ⟨fs, efs⟩ hpin I1.env0 b r q1) ?_)
  intro r2 s2 hq
  cases r2 with
  | error e3 => exact hq.elim
  | ok fl =>
    cases fl with
    | ret u => exact I1.after hq
    | next => exact hq.elim
    | brk => exact hq.elim
    | cont => exact hq.elim
theorem dokY {P : Program} {w : World} {mg : Str → Option Value} {base : Heap} {K : PySem.W.Frag} {xn qual : Str} {params : Arguments} {body : List Stmt} {sc : Scope} {f : Addr} {fd : FuncData} {N ps : List Str} {k : Nat} {C : Str} {Pd : Pz} (F : FunD K xn qual params body sc [] [] f fd) (S : FnScope N ps sc)
    (hC : ∀ a x ts Ω Q, Pd a x ts Ω Q nox → x.cls = C)
    (h : ∀ (cdv : Value) (A : Around) (outer : List Env) (s : Shared) (H : Hp) (E : XK) (p : Addr × Obj) (cls : Value) (d : Option Addr), Hot1 A p → Zc cls d p.2 → (∃ fs, p.2.data = .fields fs) → RoomH k (A.deeper (envOfC qual sc s.heap.objs.size f cdv)) → ∃ (t : TS) (ds : XV → DS), PSs (cxH CX0 P w K mg base N qual sc f cdv A outer s H E p) body t ∧ (∀ x, SimS K (GX (fun _ => True) cls d x) (fun _ => E) t (ds x)) ∧
      ∀ x ts Ω PQ, x.cls = C → ts.length = ps.length → Pd p.1 x ts Ω PQ nox → ds x { nx := fun _ Ω' => PQ .non Ω', rt := PQ, ex := fun _ _ _ => False } (ts.map some ++ List.replicate (N.length - ps.length) none) Ω) :
    FnY P w K mg base (k + 1) f fd ps (spZ K Pd ps.length) := by
  refine okY F S (fun a D dd vs H Q E ⟨g, Ω, ts, PQ, x, r, _, hl, d, _⟩ => by rw [d.len]; exact hl) (fun cdv A outer s H vs Q E p D dd hot hr hz hf hsp => ?_)
  obtain ⟨g, Ω, ts, PQ, x, r, er, hl, d, o, pp, q⟩ := hsp
  obtain ⟨t, ds, h1, h2, h3⟩ := h cdv A outer s H E p (.ref D) (some dd) hot hz hf hr
  refine ⟨t, h1, h2 x g _ H _ Ω _ _ ⟨r, er, trivial⟩ ⟨o, ?_, fun i u e => ?_⟩ (h3 x ts Ω PQ (hC _ _ _ _ _ pp) hl pp) ⟨fun ρ' Ω' σ' H' p k r => q _ Ω' _ H' p k r.om rfl, q, fun _ _ _ _ z => z.elim, fun _ _ _ _ z => z.elim, fun _ _ _ _ _ _ _ z => z.elim⟩⟩
  · show (vs.map some ++ List.replicate (N.length - vs.length) none).length = _
    rw [List.length_append, List.length_append, List.length_map, List.length_map, List.length_replicate, List.length_replicate, d.len, hl]
  · show ∃ v, (vs.map some ++ List.replicate (N.length - vs.length) none)[i]? = some (some v) ∧ _
    rw [List.getElem?_append] at e ⊢
    rw [List.length_map] at e ⊢
    rw [d.len]
    split at e
    · rename_i hlt
      rw [if_pos hlt]
      rw [List.getElem?_map] at e ⊢
      cases et : ts[i]? with
      | none => rw [et] at e; cases e
      | some t' =>
        rw [et] at e
        cases e
        obtain ⟨v, ev, dv⟩ := d.get' et
        exact ⟨v, by rw [ev]; rfl, dv⟩
    · have := List.mem_of_getElem? e
      rw [List.mem_replicate] at this
      exact absurd this.2 (by simp)
theorem FnY.union {P : Program} {w : World} {K : PySem.W.Frag} {mg : Str → Option Value} {base : Heap} {k : Nat} {f : Addr} {fd : FuncData} {ps : List Str} {P1 P2 : Pz} {n : Nat} (F1 : FnY P w K mg base k f fd ps (spZ K P1 n)) (F2 : FnY P w K mg base k f fd ps (spZ K P2 n)) : FnY P w K mg base k f fd ps (spZ K (fun a x ts Ω PQ X => P1 a x ts Ω PQ X ∨ P2 a x ts Ω PQ X) n) := by
  have cut : ∀ {a D dd vs H Q E}, spZ K (fun a x ts Ω PQ X => P1 a x ts Ω PQ X ∨ P2 a x ts Ω PQ X) n a D dd vs H Q E → spZ K P1 n a D dd vs H Q E ∨ spZ K P2 n a D dd vs H Q E := by
    rintro a D dd vs H Q E ⟨g, Ω, ts, PQ, x, r, h1, h2, h3, h4, h5, h6⟩
    exact h5.imp (fun h => ⟨g, Ω, ts, PQ, x, r, h1, h2, h3, h4, h, h6⟩) fun h => ⟨g, Ω, ts, PQ, x, r, h1, h2, h3, h4, h, h6⟩
  exact ⟨fun a D dd vs H Q E h => (cut h).elim (F1.len a D dd vs H Q E) (F2.len a D dd vs H Q E), fun A outer s H args us vs Q E p D dd hr hot hz hf hp e0 hb r h => (cut h).elim (F1.run A outer s H args us vs Q E p D dd hr hot hz hf hp e0 hb r) (F2.run A outer s H args us vs Q E p D dd hr hot hz hf hp e0 hb r)⟩
theorem cxKH {CX : CXT} {P : Program} {w : World} {K : PySem.W.Frag} {mg : Str → Option Value} {base : Heap} {N : List Str} {qual : Str} {scope : Scope} {f : Addr} {cd : Value} {A : Around} {outer : List Env} {s : Shared} {H : Hp} {E : XK} {p : Addr × Obj} : (cxH CX P w K mg base N qual scope f cd A outer s H E p).K = K := rfl
/-! ### a list of bools: count, index -/
theorem df_0N {K : PySem.W.Frag} : DfOk K [V.int 0, V.non] [.int 0, .non] := fun _ _ _ => ⟨_, _, rfl, rfl, _, _, rfl, rfl, rfl⟩
theorem vdl_N {K : PySem.W.Frag} {dr : Option (Addr × Addr)} {F : Addr → Prop} {H : Hp} : VDL K dr F H [V.non] [.non] := ⟨_, _, rfl, rfl, rfl⟩
def rCntB (K : PySem.W.Frag) : V → List V → Hp → VK → Prop := fun x xs H Q => ∃ (p : Addr) (bs : List Bool), x = .ref p ∧ xs = [.bl true] ∧ SqL K H p (bs.map V.bl) ∧ Q (.int (bs.count true : Nat)) H
theorem cnt_bools : ∀ {bs : List Bool} {us : List Value}, Vals (bs.map V.bl) us → us.countP (eqU (.bl true)) = bs.count true
  | [], us, h => by
    cases h
    rfl
  | b :: bs, us, h => by
    cases h with
    | cons r t =>
      rw [List.countP_cons, cnt_bools t, eqU_of r rfl, List.count_cons]
      congr 1
theorem mt_cntB {X : Cx} : MtR X "list.count" (rCntB X.K) := by
  intro pins s σ H x xs v us Q I rx rxs h
  obtain ⟨p, bs, rfl, rfl, hs, q⟩ := h
  cases rx
  cases rxs with
  | cons ry rt =>
    rename_i uy ut
    cases rt
    obtain ⟨its, rv, ⟨⟨cls, dd, data, sl⟩, n, ho, hc, hdn, hd⟩, hlen⟩ := I.list hs
    simp only at hc hd
    subst hc hd
    have fl : (bs.map V.bl).all flatV = true := by
      rw [List.all_map]
      exact List.all_eq_true.mpr fun _ _ => rfl
    refine call_meets PySem.F.slot_list_count ⟨_, ho, rfl⟩ PySem.F.entry_list_count (PySem.F.args_list_count_2 _ _)
      (SeqAt.list_countAt p its.toArray n dd sl uy (eqU (.bl true))) ⟨ho, fun u' hu' => mem_eqAt ry rfl rv fl u' (by simpa using hu'), ?_⟩
    have ec : its.toArray.toList.countP (eqU (.bl true)) = bs.count true := cnt_bools rv
    refine ⟨.int (bs.count true : Nat), H, I.tok _, ⟨s.toks, ?_⟩, q⟩
    show Value.int ((its.toArray.toList.countP (eqU (.bl true)) : Nat) : Int) s.toks = Value.int ((bs.count true : Nat) : Int) s.toks
    rw [ec]
section
variable {K : PySem.W.Frag} {G : List (Value × Option Addr × XV) → Prop} {E : EK}
def dCntB (de : DE) (da : DA) : DE := fun ρ Ω P PX => de ρ Ω (fun x Ω1 => (asL x Ω1).isSome = true ∧ da ρ Ω1 (fun ts Ω2 => ∃ bs : List Bool, asL x Ω2 = some (bs.map Tr.bl) ∧ ts = [.bl true] ∧ P (.int (bs.count true : Nat)) Ω2) PX) PX
theorem sim_cntB {te : TE} {ta : TA} {de : DE} {da : DA} (he : SimE K G E te de) (ha : SimA K G E ta da) : SimE K G E (tBM K "list" (rCntB K) te ta) (dCntB de da) := fun g σ H ρ Ω P PX Q hG R p q qx =>
  he g σ H ρ Ω _ PX _ hG R p (fun x Ω1 v H1 ⟨hs, p1⟩ k1 o1 d1 => by
    obtain ⟨us, e1⟩ := Option.isSome_iff_exists.mp hs
    obtain ⟨a, xs, e2, s, _⟩ := at_L o1 d1 e1
    refine ⟨by rw [e2]; exact .inl ⟨rfl, xs, s⟩, ha g σ H1 ρ Ω1 _ PX _ hG (R.keep k1 o1) p1 (fun ts Ω2 vs H2 ⟨bs, h1, ey, p2⟩ k2 o2 d2 => ?_) (qx.at k1)⟩
    subst ey
    obtain ⟨w, _, rfl, dw, rfl⟩ := d2
    obtain rfl : w = .bl true := dw
    obtain ⟨b, ys, e3, s3, _, l2, z2⟩ := at_L o2 (d1.keep k2) h1
    rw [vdl_bools l2] at s3
    exact ⟨b, bs, e3, rfl, s3, q _ _ _ _ p2 (k1.trans k2) o2 rfl⟩) qx
def dIdxB (de : DE) (da : DA) : DE := fun ρ Ω P PX => de ρ Ω (fun x Ω1 => (asL x Ω1).isSome = true ∧ da ρ Ω1 (fun ts Ω2 => ∃ (bs : List Bool) (j : Nat), asL x Ω2 = some (bs.map Tr.bl) ∧ ts = [.bl true] ∧ bs[j]? = some true ∧ (∀ m, m < j → bs[m]? = some false) ∧ P (.int j) Ω2) PX) PX
theorem sim_idxB {te : TE} {ta : TA} {de : DE} {da : DA} (he : SimE K G E te de) (ha : SimA K G E ta da) : SimE K G E (tBM K "list" (rIndex K) te ta) (dIdxB de da) := fun g σ H ρ Ω P PX Q hG R p q qx =>
  he g σ H ρ Ω _ PX _ hG R p (fun x Ω1 v H1 ⟨hs, p1⟩ k1 o1 d1 => by
    obtain ⟨us, e1⟩ := Option.isSome_iff_exists.mp hs
    obtain ⟨a, xs, e2, s, _⟩ := at_L o1 d1 e1
    refine ⟨by rw [e2]; exact .inl ⟨rfl, xs, s⟩, ha g σ H1 ρ Ω1 _ PX _ hG (R.keep k1 o1) p1 (fun ts Ω2 vs H2 ⟨bs, j, h1, ey, hj, hm, p2⟩ k2 o2 d2 => ?_) (qx.at k1)⟩
    subst ey
    obtain ⟨w, _, rfl, dw, rfl⟩ := d2
    obtain rfl : w = .bl true := dw
    obtain ⟨b, ys, e3, s3, _, l2, z2⟩ := at_L o2 (d1.keep k2) h1
    rw [vdl_bools l2] at s3
    have fl : (bs.map V.bl).all flatV = true := by
      rw [List.all_map]
      exact List.all_eq_true.mpr fun _ _ => rfl
    refine ⟨b, bs.map V.bl, .bl true, j, .bl true, e3, rfl, s3, rfl, fl, by rw [List.getElem?_map, hj]; rfl, rfl, fun m z' hmj hz => ?_, q _ _ _ _ p2 (k1.trans k2) o2 rfl⟩
    rw [List.getElem?_map, hm m hmj] at hz
    cases hz
    rfl) qx
end
end LT

/-! a range with a step -/
namespace LT
open PySem PySem.Spec PyProof.Rows L2 LL
variable {K : PySem.W.Frag} {G : List (Value × Option Addr × XV) → Prop} {E : EK}
def rngC (lo c : Int) (n : Nat) : List Tr := (List.range n).map fun (i : Nat) => Tr.int (lo + i * c)
theorem rngC_len {lo c : Int} {n : Nat} : (rngC lo c n).length = n := by unfold rngC; rw [List.length_map, List.length_range]
theorem rngC_get {lo c : Int} {n i : Nat} (h : i < n) : (rngC lo c n)[i]? = some (.int (lo + i * c)) := by
  unfold rngC
  rw [List.getElem?_map, List.getElem?_range h]
  rfl
theorem itc_ok {g : Gh} {H1 : Hp} {Ω1 : Om} {lo c : Int} {n : Nat} : ItOk K g (Itc lo c n) (rngC lo c n) H1 Ω1 (fun _ => True) := fun g' _ i H' Ω' k o' _ => by
  rw [rngC_len]
  refine ⟨fun e => (show n ≤ i by omega), fun hi => ⟨hi, ?_⟩⟩
  rintro x H'' ⟨rfl, rfl⟩
  exact ⟨.refl, o', _, rngC_get hi, rfl⟩
def diR3 (da : DA) : DI := fun ρ Ω P PX => da ρ Ω (fun ts Ω1 => ∃ (i j c : Int) (n : Nat), ts = [.int i, .int j, .int c] ∧ RgC i j c n ∧ P (rngC i c n) (fun _ => True) Ω1) PX
theorem sim_iR3 {ta : TA} {da : DA} (h : SimA K G E ta da) : SimI K G E (iRng3 ta) (diR3 da) := fun g σ H ρ Ω P PX R hG r p q qx =>
  h g σ H ρ Ω _ PX _ hG r p (fun ts Ω1 vs H1 ⟨i, j, c, n, e, b1, p1⟩ k1 o1 d1 => by
    subst e
    obtain ⟨v, _, rfl, d, u, _, rfl, d2, t, _, rfl, d3, rfl⟩ := d1
    exact ⟨i, j, c, n, by rw [show v = _ from d, show u = _ from d2, show t = _ from d3], b1, q _ _ Ω1 _ H1 p1 k1 o1 itc_ok⟩) qx
theorem rg_pos {i j c : Int} (hc : 1 ≤ c ∧ c ≤ 1000000) (hi : 0 ≤ i ∧ i ≤ 1000000) (hj : 0 ≤ j ∧ j ≤ 1000000) : ∃ n : Nat, RgC i j c n ∧ ∀ k : Nat, k < n → i + k * c < j := by
  have e : Builtin.Range.rangeSize i j c = if i < j then (j - i - 1) / c + 1 else 0 := by
    unfold Builtin.Range.rangeSize
    rw [if_pos (by omega)]
  have z0 : i < j → 0 ≤ (j - i - 1) / c := fun h => Int.ediv_nonneg (by omega) (by omega)
  have z1 : i < j → (j - i - 1) / c ≤ 1000000 := fun h => Int.le_trans (Int.ediv_le_self _ (by omega)) (by omega)
  have z2 : i < j → (j - i - 1) / c * c ≤ j - i - 1 := fun h => Int.ediv_mul_le _ (by omega)
  refine ⟨(Builtin.Range.rangeSize i j c).toNat, ⟨by omega, by omega, ?_, ?_⟩, fun k hk => ?_⟩
  · unfold Builtin.Range.small
    rw [e]
    simp only [Builtin.Range.rangeFitsLong, Bool.and_eq_true, Bool.or_eq_true, decide_eq_true_eq, beq_iff_eq]
    have : c > 0 := by omega
    simp only [this, if_true]
    by_cases h : i < j
    · rw [if_pos h]
      have a0 := z0 h
      have a1 := z1 h
      generalize (j - i - 1) / c = z at a0 a1 ⊢
      refine ⟨⟨⟨⟨⟨by omega, by omega⟩, by omega, by omega⟩, by omega, by omega⟩, by omega, by omega⟩, .inr ?_⟩
      rw [decide_eq_true (by omega), decide_eq_true (by omega)]
      rfl
    · rw [if_neg h]
      refine ⟨⟨⟨⟨⟨by omega, by omega⟩, by omega, by omega⟩, by omega, by omega⟩, by omega, by omega⟩, .inr ?_⟩
      rw [decide_eq_true (by omega), decide_eq_true (by omega)]
      rfl
  · rw [e]
    split
    · rename_i h
      have := z0 h
      omega
    · rfl
  · rw [e] at hk
    split at hk
    · rename_i h
      have a2 := z2 h
      have hk2 : (k : Int) ≤ (j - i - 1) / c := by omega
      have := Int.mul_le_mul_of_nonneg_right hk2 (show 0 ≤ c by omega)
      omega
    · simp at hk
theorem for_R3W {dg : DG} {db : DS} {D : DN} {ρ : En} {Ω : Om} {da : DA} {i j : Int} {R : Int → Prop} {Ω1 : Om} (he : ∀ P : List Tr → Om → Prop, (∀ c : Int, R c → P [.int i, .int j, .int c] Ω1) → da ρ Ω P (fun y Ω' => D.ex ρ y Ω')) (hc : ∀ c, R c → 1 ≤ c ∧ c ≤ 1000000) (hi : 0 ≤ i ∧ i ≤ 1000000) (hj : 0 ≤ j ∧ j ≤ 1000000) (W : En → Om → Prop) (w0 : W ρ Ω1)
    (step : ∀ (v : Int) ρ' Ω', i ≤ v → v < j → W ρ' Ω' → dg (.int v) ρ' Ω' (fun ρ2 Ω2 => db { D with nx := W, ct := W, bk := D.nx } ρ2 Ω2) nox) (fin : ∀ ρ' Ω', W ρ' Ω' → D.nx ρ' Ω') : dFor (diR3 da) dg db D ρ Ω :=
  he _ fun c hR => by
    obtain ⟨n, hn, hk⟩ := rg_pos (hc c hR) hi hj
    refine ⟨i, j, c, n, rfl, hn, fun _ => W, w0, fun _ _ _ _ => trivial, fun k t ρ' Ω' e w => ?_, fun ρ' Ω' w => fin ρ' Ω' w⟩
    have hkn : k < n := by have := (List.getElem?_eq_some_iff.mp e).1; rwa [rngC_len] at this
    rw [rngC_get hkn] at e
    cases e
    exact step _ ρ' Ω' (by have := Int.mul_nonneg (show 0 ≤ (k : Int) by omega) (show 0 ≤ c by have := hc c hR; omega); omega) (hk k hkn) w
end LT

/-! isinstance of an own class -/
namespace LT
open PySem PySem.Spec PyProof.Rows L2 LL
variable {K : PySem.W.Frag} {G : List (Value × Option Addr × XV) → Prop} {E : EK}
def rIsiO (K : PySem.W.Frag) : List V → Hp → VK → Prop := rIsi K
def dIsiO (K : PySem.W.Frag) : List Tr → Om → PT' → Prop := fun us Ω P => ∃ x C, us = [x, .obj C] ∧ OwnC K C ∧ Cls K C ∧ (((insP C x Ω).isSome = true ∧ P (.bl true) Ω) ∨ ((kindT x).isSome = true ∧ P (.bl false) Ω))
theorem simc_isiO : SimC K (rIsiO K) (dIsiO K) := fun g H Ω vs us P Q o d ⟨x, C, e, oc, cl, p⟩ q => by
  subst e
  obtain ⟨v, _, rfl, d1, u, _, rfl, d2, rfl⟩ := d
  obtain rfl : u = .ref C := d2
  rcases p with ⟨hi, p⟩ | ⟨hk, p⟩
  · obtain ⟨a, ea⟩ := Option.isSome_iff_exists.mp hi
    obtain ⟨dx, ns, ts, rfl, hc⟩ := insP_eq ea
    obtain rfl : v = .ref a := d1
    obtain ⟨xs, h1, h2, h3⟩ := (o.ce a _ hc).2
    exact ⟨.ref a, .ref C, .ref C, .ref C, true, rfl, .own C, .base (.ins h1 cl oc.ha oc.hn oc.htk oc.hm), oc.me, q _ Ω _ H p .refl o rfl⟩
  · obtain ⟨k, ek⟩ := Option.isSome_iff_exists.mp hk
    exact ⟨v, .ref C, _, .ref C, false, rfl, .own C, tyx_of d1 ek, oc.no k (kind_mem ek), q _ Ω _ H p .refl o rfl⟩
section
theorem dokD {P : Program} {w : World} {mg : Str → Option Value} {base : Heap} {x qual : Str} {params : Arguments} {body : List Stmt} {sc : Scope} {dvs : List V} {kws : List (Str × V)} {f : Addr} {fd : FuncData} {CX : CXT} {N ps : List Str} {k : Nat} {Pd : Pw} (F : FunD K x qual params body sc dvs kws f fd) (S : FnScope N ps sc)
    (h : ∀ (cdv : Value) (A : Around) (outer : List Env) (s : Shared) (H : Hp) (E : XK), Room k (A.deeper (envOfC qual sc s.heap.objs.size f cdv)) → ∃ t ds, PSs (cxOf CX P w K mg base N qual sc f cdv A outer s H E) body t ∧ SimS K (fun _ => True) (fun _ => E) t ds ∧
      ∀ ts Ω PQ PX, ts.length = ps.length → Pd ts Ω PQ PX → ds { nx := fun _ Ω' => PQ .non Ω', rt := PQ, ex := fun _ => PX } (ts.map some ++ List.replicate (N.length - ps.length) none) Ω) :
    FnOk P w K mg base CX (k + 1) f fd ps (spD K Pd ps.length) := by
  refine F.ok S (fun vs H Q E ⟨g, Ω, ts, PQ, PX, hl, d, _⟩ => by rw [d.len]; exact hl) (fun cdv A outer s H vs Q E hr hsp => ?_)
  obtain ⟨g, Ω, ts, PQ, PX, hl, d, o, p, q, qx⟩ := hsp
  obtain ⟨t, ds, h1, h2, h3⟩ := h cdv A outer s H E hr
  refine ⟨t, h1, h2 g _ H _ Ω _ _ trivial ⟨o, ?_, fun i u e => ?_⟩ (h3 ts Ω PQ PX hl p) ⟨fun ρ' Ω' σ' H' p k r => q _ Ω' _ H' p k r.om rfl, q, fun _ _ _ _ z => z.elim, fun _ _ _ _ z => z.elim, fun x ρ' Ω' σ' c dd H' p k r z => qx x Ω' c dd H' p k r.om z⟩⟩
  · show (vs.map some ++ List.replicate (N.length - vs.length) none).length = _
    rw [List.length_append, List.length_append, List.length_map, List.length_map, List.length_replicate, List.length_replicate, d.len, hl]
  · show ∃ v, (vs.map some ++ List.replicate (N.length - vs.length) none)[i]? = some (some v) ∧ _
    rw [List.getElem?_append] at e ⊢
    rw [List.length_map] at e ⊢
    rw [d.len]
    split at e
    · rename_i hlt
      rw [if_pos hlt]
      rw [List.getElem?_map] at e ⊢
      cases et : ts[i]? with
      | none => rw [et] at e; cases e
      | some t' =>
        rw [et] at e
        cases e
        obtain ⟨v, ev, dv⟩ := d.get' et
        exact ⟨v, by rw [ev]; rfl, dv⟩
    · have := List.mem_of_getElem? e
      rw [List.mem_replicate] at this
      exact absurd this.2 (by simp)
end
end LT
namespace LT
open PySem PySem.Spec PyProof.Rows L2 LL
theorem pe_fldK {X : Cx} {K : PySem.W.Frag} {e : PySem.Expr} {f : Str} {ta : TE} {pos : Pos} (hK : X.K = K) (he : PE X e ta) (hb : attributeBase e f X.env (eval e X.env) = eval e X.env) : PE X (.Attribute e f pos) (tFld K ta f) := hK ▸ pe_fld he hb
end LT

namespace LT
open PySem PySem.Spec PyProof.Rows L2 L2H LL
section
variable {K : PySem.W.Frag} {G : List (Value × Option Addr × XV) → Prop} {E : EK}
theorem sim_makeKE {E1 : XK} {C : Addr} {P : Pw} {n m k : Nat} {gV : List V → List V → List V} {gT : List Tr → List Tr → List Tr} {ta tk : TA} {da dk : DA} (hg : ∀ (dr : Option (Addr × Addr)) (F : Addr → Prop) (H : Hp) (vs zs : List V) (ts us : List Tr), VDL K dr F H vs ts → VDL K dr F H zs us → VDL K dr F H (gV vs zs) (gT ts us)) (ha : SimA K G (fun _ => E1) ta da) (hk : SimA K G (fun _ => E1) tk dk) : SimE K G (fun _ => E1) (tMakeK C n m (spD K P k) gV E1 ta tk) (dMakeK C P n m k gT da dk) := fun g σ H ρ Ω Q PX QQ hG R h q qx =>
  ha g σ H ρ Ω _ PX _ hG R h (fun us Ω0 vs H0 p0 k0 o0 d0 => hk g σ H0 ρ Ω0 _ PX _ hG (R.keep k0 o0) p0 (fun zs Ω1 ws H1 ⟨hl, hm, p⟩ k1' o1 d1 => by
    refine ⟨by rw [d0.len]; exact hl, by rw [d1.len]; exact hm, fun x dx nx ndx ne => ?_⟩
    have k1 := k0.trans k1'
    have npd : Keep g H1 Ω1 (upd H1 dx (.own x)) Ω1 := .new ndx
    have o2 := o1.new (o := .own x) ndx
    have nx2 : upd H1 dx (.own x) x = none := by rw [upd_ne (Ne.symm ne)]; exact nx
    have np : ¬ g.pr x := fun z => by obtain ⟨u, e⟩ := o1.pt x z; rw [nx] at e; cases e
    have kc : Keep g (upd H1 dx (.own x)) Ω1 (upd (upd H1 dx (.own x)) x (.ins C dx [])) (put Ω1 x (.ins C dx [] [])) := .cell nx2
    have o3 : OmOk K g (upd (upd H1 dx (.own x)) x (.ins C dx [])) (put Ω1 x (.ins C dx [] [])) := o2.cell nx2 np ⟨[], by rw [upd_same]; rfl, rfl, rfl⟩
    have kk := (k1.trans npd).trans kc
    obtain ⟨hl2, p2⟩ := p x dx (o1.fresh nx)
    refine ⟨g, put Ω1 x (.ins C dx [] []), gT (.obj x :: us) zs, _, nox, hl2, hg _ _ _ _ _ _ _ ⟨.ref x, vs, rfl, rfl, ((d0.keep k1').keep npd).keep kc⟩ ((d1.keep npd).keep kc), o3, p2, fun t Ω2 v H2 ⟨e, pq⟩ k4 o4 d4 => ?_, AfterX.nox⟩
    subst e
    exact ⟨d4, q _ _ _ _ pq (kk.trans k4) o4 rfl⟩) (qx.at k0)) qx
end
end LT

/-! a tuple repeated, not at all too -/
namespace LT
open PySem PySem.Spec PyProof PyProof.Rows L2 LL
theorem tuple_mul0 (l : Addr) (items : Array Value) (n : Nat) (dd : Option Addr) (sl : Array (Option Value)) (x : Int) (u : Tok) (c0 : (decide (x < -(2 ^ 63)) || decide (x ≥ 2 ^ 63)) = false) (c1 : (items.isEmpty || x == 1) = false) (c2 : (decide (x ≤ 0) || items.isEmpty) = true) :
    Meets (Builtin.«tuple.__mul__» ⟨[.ref l, .int x u], []⟩) (fun _ R s => s.heap.get? l = some { cls := .type "tuple", dict := dd, data := .seq items n, slots := sl } ∧
      R (.ok (.ret (Value.ref s.heap.objs.size))) { s with heap := s.heap.push { cls := Value.type "tuple", data := Data.seq #[] }, toks := s.toks }) :=
  .of_wp fun prog w A R s h => by
    obtain ⟨hp, g, d, tk, os⟩ := s
    obtain ⟨hl, h⟩ := h
    have f1 := AutoSeq1.idx_int
    wp_walk using wpAny_loadPart' hl
    repeat (first
      | (refine wpAny_ite_false (decide_eq_false (by rw [c0]; exact Bool.false_ne_true)) ?_; wp_walk using wpAny_loadPart' hl)
      | (refine wpAny_ite_false (decide_eq_false (by rw [c1]; exact Bool.false_ne_true)) ?_; wp_walk using wpAny_loadPart' hl)
      | (refine wpAny_ite_true (decide_eq_true c2) ?_; wp_walk using wpAny_loadPart' hl))
    exact ⟨_, rfl, h⟩
def rRepZ (K : PySem.W.Frag) : R2 := fun x y H Q => rRepW K x y H Q ∨ ∃ l xs, x = .ref l ∧ y = .int 0 ∧ SqT K H l xs ∧ xs ≠ [] ∧ ∀ p, H p = none → Q (.ref p) (upd H p (.tup []))
section
variable {X : Cx}
theorem op_repZ : OpR X (binaryOp .Mult) (rRepZ X.K) := by
  rintro pins s σ H x y v u Q I rx ry (h | ⟨l, xs, rfl, rfl, hT, ne, q⟩)
  · exact op_repW pins s σ H x y v u Q I rx ry h
  cases rx ; obtain ⟨t, rfl⟩ := ry
  obtain ⟨its, r, ⟨⟨cls, dd, data, sl⟩, ho, hc, n, hd⟩, hs⟩ := I.tuple hT
  simp only at hc hd ; subst hc hd
  have len : its.length = xs.length := r.length.symm
  have pos : 0 < xs.length := List.length_pos_iff.mpr ne
  have e0 : its.toArray.isEmpty = false := by cases its with | nil => rw [← len] at pos ; exact absurd pos (Nat.lt_irrefl 0) | cons a b => rfl
  have made := tuple_mul0 l its.toArray n dd sl 0 t (by decide) (by rw [e0]; rfl) (by rw [e0]; rfl)
  refine wpAny_binaryOp_repeat_ref (T := "tuple") (U := "int") (by decide) ⟨_, ho, rfl⟩ (fun s' => typeIs_int s' 0 t) noFill_tuple_mul F.fills_int_mul F.slot_int_rmul repeat_tuple F.slot_int_index.lookup (call_meets F.slot_int_rmul (typeIs_int s 0 t) F.entry_int_rmul (F.args_int_rmul_2 _ _) (int_rmul_tuple 0 t l its.toArray n dd sl) ⟨ho, rfl, ⟨_, ho, rfl⟩, call_meets F.slot_tuple_mul ⟨_, ho, rfl⟩ F.entry_tuple_mul (F.args_tuple_mul_2 _ _) made ⟨ho, ?_⟩⟩)
  exact ⟨.ref s.heap.objs.size, _, I.laid (t' := s.toks) (o := .tup []) (fun b ob z => Heap.get?_push_of_some _ z) (Nat.le_refl _) ⟨Nat.zero_le _, [], .nil, IsTup.new _ _⟩, rfl, q _ (I.hok.fresh (Nat.le_refl _))⟩
end
section
variable {K : PySem.W.Frag}
def dRepZ : Tr → Tr → Om → PT' → Prop := fun x y Ω P => ∃ ts k, x = .tup ts ∧ y = .int k ∧ ts ≠ [] ∧ (2 ≤ k ∨ k = 0) ∧ ts.length * k.toNat ≤ 1000000 ∧ P (.tup (List.replicate k.toNat ts).flatten) Ω
theorem simr_repZ : SimR K (rRepZ K) dRepZ := fun g H Ω x y tx ty P Q o d1 d2 ⟨ts, k, e, e2, ne, h1, hz, p⟩ q => by
  subst e e2
  obtain ⟨a, xs, rfl, s, dl, z⟩ := sqt d1
  have hl := dl.len
  rcases h1 with h1 | rfl
  · exact .inl ⟨a, k, xs, rfl, d2, s, fun e => ne (by rw [e] at hl; exact List.eq_nil_of_length_eq_zero hl.symm), h1, by rw [hl]; exact hz, fun l n => new_tup o (dl.rep _) (by rw [flat_len]; exact hz) p q n⟩
  · exact .inr ⟨a, xs, rfl, d2, s, fun e => ne (by rw [e] at hl; exact List.eq_nil_of_length_eq_zero hl.symm), fun l n => new_tup (ts := []) (vs := []) o rfl (Nat.zero_le _) p q n⟩
end
end LT

/-! x is not True, x is not False -/
namespace LT
open PySem PySem.Spec PyProof PyProof.Rows L2 LL
def rNotBx : R2 := fun x y H Q => ∃ b : Bool, y = .bl b ∧ okIs x = true ∧ Q (.bl (!decide (x = .bl b))) H
theorem op_notB {X : Cx} : OpR X (compareOp .IsNot) rNotBx := by
  rintro pins s σ H x y v u Q I rx ry ⟨b, rfl, hx, q⟩
  obtain rfl : u = Value.bool b := ry
  by_cases e : x = .bl b
  · subst e
    obtain rfl : v = Value.bool b := rx
    exact wpAny_isNot_plain rfl ⟨.bl false, H, I, by rw [show (Value.bool b == Value.bool b) = true from beq_self_eq_true _]; rfl, by simpa using q⟩
  · have q := q
    cases x with
    | non =>
      obtain rfl : v = Value.none := rx
      exact wpAny_isNot_other rfl (by intro z; cases z) ⟨.bl true, H, I, rfl, by simpa [e] using q⟩
    | bl a =>
      obtain rfl : v = Value.bool a := rx
      exact wpAny_isNot_other rfl (fun z => e (congrArg V.bl (Value.bool.inj z))) ⟨.bl true, H, I, rfl, by simpa [e] using q⟩
    | int i =>
      obtain ⟨t, rfl⟩ := rx
      exact wpAny_isNot_other rfl (by intro z; cases z) ⟨.bl true, H, I, rfl, by simpa [e] using q⟩
    | str i =>
      obtain ⟨t, rfl⟩ := rx
      exact wpAny_isNot_other rfl (by intro z; cases z) ⟨.bl true, H, I, rfl, by simpa [e] using q⟩
    | ref a =>
      obtain rfl : v = Value.ref a := rx
      exact wpAny_isNot_other rfl (by intro z; cases z) ⟨.bl true, H, I, rfl, by simpa [e] using q⟩
    | _ => cases hx
def dNotB : Tr → Tr → Om → PT' → Prop := fun x y Ω P => ∃ b : Bool, y = .bl b ∧ (kindT x).isSome = true ∧ P (.bl (!isBT b x)) Ω
section
variable {K : PySem.W.Frag}
theorem simr_notB : SimR K rNotBx dNotB := fun g H Ω x y tx ty P Q o d1 d2 ⟨b, e, hk, p⟩ q => by
  subst e
  have fin : okIs x = true → decide (x = .bl b) = isBT b tx → rNotBx x y H Q := fun h1 h2 => ⟨b, d2, h1, by rw [h2]; exact q _ Ω _ H p .refl o rfl⟩
  cases tx with
  | non => rw [show x = _ from d1] at fin ⊢; exact fin rfl rfl
  | bl c => rw [show x = _ from d1] at fin ⊢; exact fin rfl (by simp [isBT])
  | int c => rw [show x = _ from d1] at fin ⊢; exact fin rfl rfl
  | str c => rw [show x = _ from d1] at fin ⊢; exact fin rfl rfl
  | lst ts => obtain ⟨a, xs, rfl, _⟩ := d1; exact fin rfl rfl
  | tup ts => obtain ⟨a, xs, rfl, _⟩ := d1; exact fin rfl rfl
  | dic ks ts => obtain ⟨a, xs, rfl, _⟩ := d1; exact fin rfl rfl
  | _ => cases hk
end
end LT

/-! the signs of an own class: in, +, -, & by its own methods -/
namespace LT
open PySem PySem.Spec PyProof PyProof.Rows L2 LL
section
variable {X : Cx} {CX : CXT} {k : Nat} {f C : Addr} {fd : FuncData} {ps : List Str} {sp : Sp} {E : XK}
/-- the callee runs, one level in -/
theorem run_fn1 {A1 : Around} {pins : List (Addr × Obj)} {σ : L2.St} {H : Hp} {s : Shared} {Q : VK} {us : List Value} {vs : List V} (sb : Sub X k A1) (F : FnOk X.prog X.w X.K X.mg X.base CX k f fd ps sp) (hb : Binds X.K fd ps []) (hx : Passes CX X E)
    (I : Inv X pins σ H s) (r : Vals vs us) (h : sp vs H Q E) : wpAny (model X.prog X.w) A1 (call (.ref f) us) (EP X pins σ Q) X.xe s := by
  have e0 : Env0 X.prog X.w X.K X.mg X.base A1 X.stack s H := by
    have e := I.env0
    exact ⟨by rw [sb.fr]; exact e.frames, e.mod, e.bs, e.bsz, e.funs, e.frf, e.hok, e.bare⟩
  have hl : us.length = ps.length := by rw [← r.length]; exact F.len _ _ _ _ h
  refine wpAny_call (codeAny_mono (F.run A1 X.stack s H ⟨us, []⟩ us vs Q E sb.room e0 (by
    have := hb s us I.kIn (by simpa using hl)
    simpa using this) r h) fun r s' hq => ?_)
  cases r with
  | error e => exact hx pins σ H s e s' I hq
  | ok fl =>
    cases fl with
    | ret u => exact I.after hq
    | next => exact False.elim hq
    | brk => exact False.elim hq
    | cont => exact False.elim hq
/-- x in o, o of an own class with __contains__ that tells a bool -/
def rOwnIn (neg : Bool) (C : Addr) (sp : Sp) (E : XK) : R2 := fun x y H Q => ∃ a dx fs, y = .ref a ∧ H a = some (.ins C dx fs) ∧ sp [.ref a, x] H (fun v H' => ∃ b, v = .bl b ∧ Q (.bl (if neg then !b else b)) H') E
theorem op_ownIn (hm : Meth X.K C "__contains__" f) (F : FnOk X.prog X.w X.K X.mg X.base CX k f fd ps sp) (hr : Room k X.A) (hb : Binds X.K fd ps []) (hx : Passes CX X E) : OpR X (compareOp .In) (rOwnIn false C sp E) := by
  rintro pins s σ H x y v u Q I rx ry ⟨a, dx, fs, rfl, ha, h⟩
  obtain rfl : u = Value.ref a := ry
  obtain ⟨mA, J, _⟩ := ins_get I.hok ha
  obtain ⟨od, J, _⟩ := J.look
  obtain ⟨m, hF⟩ := I.fr
  refine PySem.W.in_K hF I.ok.mod.kin J hm.at_ hm.fn (wpAny_mono (run_fn (us := [.ref a, v]) (vs := [.ref a, x]) F hr hb .nil hx I (.cons rfl (.cons rx .nil)) h) (fun r s' hq => ?_) fun _ _ z => z)
  obtain ⟨z, H', I', rz, b, rfl, q⟩ := hq
  obtain rfl : r = Value.bool b := rz
  exact wpAny_truthy_bool ⟨.bl b, H', I', rfl, q⟩
theorem op_ownNotIn (hm : Meth X.K C "__contains__" f) (F : FnOk X.prog X.w X.K X.mg X.base CX k f fd ps sp) (hr : Room k X.A) (hb : Binds X.K fd ps []) (hx : Passes CX X E) : OpR X (compareOp .NotIn) (rOwnIn true C sp E) := by
  rintro pins s σ H x y v u Q I rx ry ⟨a, dx, fs, rfl, ha, h⟩
  obtain rfl : u = Value.ref a := ry
  obtain ⟨mA, J, _⟩ := ins_get I.hok ha
  obtain ⟨od, J, _⟩ := J.look
  obtain ⟨m, hF⟩ := I.fr
  refine PySem.W.notIn_K hF I.ok.mod.kin J hm.at_ hm.fn (wpAny_mono (run_fn (us := [.ref a, v]) (vs := [.ref a, x]) F hr hb .nil hx I (.cons rfl (.cons rx .nil)) h) (fun r s' hq => ?_) fun _ _ z => z)
  obtain ⟨z, H', I', rz, b, rfl, q⟩ := hq
  obtain rfl : r = Value.bool b := rz
  exact wpAny_truthy_bool ⟨.bl (!b), H', I', rfl, q⟩
/-- o + p, o - p, o & p of one own class, by its own method; the answer is never NotImplemented -/
def notNI : V → Bool
  | .ref _ => true
  | .int _ => true
  | .bl _ => true
  | .str _ => true
  | .non => true
  | _ => false
def rOwnBin (C : Addr) (sp : Sp) (E : XK) : R2 := fun x y H Q => ∃ a b dx dy fs gs, x = .ref a ∧ y = .ref b ∧ H a = some (.ins C dx fs) ∧ H b = some (.ins C dy gs) ∧ sp [.ref a, .ref b] H (fun v H' => notNI v = true ∧ Q v H') E
theorem op_ownBin {op : Operator} {nm : Str} (hd : PySem.dunder op.info.2 = nm) (hc : PySem.W.selfFirst X.K C = true) (hm : Meth X.K C nm f) (F : FnOk X.prog X.w X.K X.mg X.base CX k f fd ps sp) (hr : Room k X.A) (hb : Binds X.K fd ps []) (hx : Passes CX X E) : OpR X (binaryOp op) (rOwnBin C sp E) := by
  subst hd
  rintro pins s σ H x y v u Q I rx ry ⟨a, b, dx, dy, fs, gs, rfl, rfl, ha, hb2, h⟩
  obtain rfl : v = Value.ref a := rx
  obtain rfl : u = Value.ref b := ry
  obtain ⟨mA, J, _⟩ := ins_get I.hok ha
  obtain ⟨od, J, _⟩ := J.look
  obtain ⟨mB, JB, _⟩ := ins_get I.hok hb2
  obtain ⟨oy, JB, _⟩ := JB.look
  obtain ⟨m, hF⟩ := I.fr
  refine PySem.W.binop_K hF I.ok.mod.kin J JB.type hc hm.at_ hm.fn (wpAny_mono (run_fn (us := [.ref a, .ref b]) (vs := [.ref a, .ref b]) F hr hb .nil hx I (.cons rfl (.cons rfl .nil)) h) (fun r s' hq => ?_) fun _ _ z => z)
  obtain ⟨z, H', I', rz, nz, q⟩ := hq
  have fin : EP X pins σ Q r s' := ⟨z, H', I', rz, q⟩
  cases z <;> first | cases nz | skip
  all_goals first
    | (obtain rfl : r = Value.none := rz; exact fin)
    | (obtain ⟨t, rfl⟩ := rz; exact fin)
    | (cases rz; exact fin)
end
section
variable {prog : Program} {w : World} {A : Around} {E : Value → Shared → Prop} {K : PySem.W.Frag} {h₀ : Heap} {L : Addr} {m : Str → Option Value} {s : Shared} {x C f : Addr} {ox : Obj} {od : Option Obj}
theorem kbo_call {Q : Value → Shared → Prop} (FR : PyProof.Rows.Fr h₀ L s.heap m) (X₀ : K.In h₀) (I : PySem.W.InstAt s.heap x ox C od) (hs : PySem.W.findIn K (.ref C) "__bool__" = some (some (.ref f))) (hf : PySem.W.isFn K (.ref f) = true)
    (h : wpAny (model prog w) A.in1.in1 (call (.ref f) [.ref x]) (PySem.W.BoolBack fun b => Q (.bool b)) E s) : wpAny (model prog w) A (call (.type "bool") [.ref x]) Q E s := by
  refine callType_codes (T := "bool") (Bi := Builtin.«object.__init__») (Q₁ := fun r s₁ => ∃ b, r = .bool b ∧ Q r s₁) PySem.F.called_bool (PySem.F.typeCall_bool_1 _) PySem.F.entry_object_init ?_ ?_
  · refine codeAny_of_tree ?_
    show wpAny _ A.in1.in1 (do checkBuiltinCall "bool.__new__" ⟨[.type "bool", .ref x], []⟩; again (.builtin "bool.__new__" ⟨[.type "bool", .ref x], []⟩)) _ _ s
    refine wpAny_bind (wpAny_of_eq (PySem.F.newCall_bool_1 _) (wpAny_pure ⟨plainId_quiet (by decide +kernel) _, codeAny_builtin PySem.F.entry_bool_new ?_⟩))
    rw [Around.under_plainId (by decide +kernel) _]
    unfold Builtin.«bool.__new__»
    have f1 := PySem.F.conv_sub_bool
    have fin : ∀ b s₁, Q (.bool b) s₁ → wpAny (model prog w) A.in1.in1 (ret (.bool b)) (fun fin s' => match fin with
      | Fin.done f => wants (fun r s₁ => ∃ b, r = Value.bool b ∧ Q r s₁) E (Except.ok f) s'
      | Fin.again c' => c'.quiet = true ∧ codeAny (model prog w) A.in1 c' (wants (fun r s₁ => ∃ b, r = Value.bool b ∧ Q r s₁) E) s')
      (fun e s' => wants (fun r s₁ => ∃ b, r = Value.bool b ∧ Q r s₁) E (Except.error e) s') s₁ := fun b s₁ hq => wpAny_pure ⟨b, rfl, hq⟩
    have tr : wpAny (model prog w) A.in1.in1 (truthy (.ref x)) (fun b s' => Q (.bool b) s') E s := PySem.W.truthy_K FR X₀ I hs hf h
    dsimp only
    refine wpAny_bind (wpAny_of_eq (a := true) rfl ?_)
    rw [if_neg (by decide)]
    refine wpAny_bind (wpAny_of_eq f1 ?_)
    rw [if_neg (by decide)]
    refine wpAny_bind (wpAny_of_eq (a := [.ref x]) rfl ?_)
    exact wpAny_bind (wpAny_mono tr (fun b s' hq => fin b s' hq) fun _ _ z => z)
  · rintro obj s₁ ⟨b, rfl, hq⟩
    exact ⟨PySem.typeIs_bool s₁ b, PySem.F.args_object_init_2 _ _, object_init_meets PySem.F.called_bool.init.lookup PySem.F.called_bool.made (by decide) prog w A.in1 _ s₁ ⟨PySem.typeIs_bool s₁ b, rfl, hq⟩⟩
end
section
variable {X : Cx} {CX : CXT} {k : Nat} {f C : Addr} {fd : FuncData} {ps : List Str} {sp : Sp} {E : XK}
/-- bool(o), o of an own class with __bool__ -/
def rOwnBool (C : Addr) (sp : Sp) (E : XK) : List V → Hp → VK → Prop := fun xs H Q => ∃ a dx fs, xs = [.ref a] ∧ H a = some (.ins C dx fs) ∧ sp [.ref a] H (fun v H' => ∃ b, v = .bl b ∧ Q (.bl b) H') E
theorem call_ownBool (hm : Meth X.K C "__bool__" f) (F : FnOk X.prog X.w X.K X.mg X.base CX k f fd ps sp) (hr : Room (k + 2) X.A) (hb : Binds X.K fd ps []) (hx : Passes CX X E) : CallR X (.type "bool") (rOwnBool C sp E) := by
  intro pins s σ H xs us Q I r ⟨a, dx, fs, e, ha, h⟩
  subst e
  obtain rfl := Vals.ref1 r
  obtain ⟨mA, J, _⟩ := ins_get I.hok ha
  obtain ⟨od, J, _⟩ := J.look
  obtain ⟨m, hF⟩ := I.fr
  refine kbo_call hF I.ok.mod.kin J hm.at_ hm.fn (wpAny_mono (run_fn1 (us := [.ref a]) (vs := [.ref a]) (Sub.in1 (Sub.in1 ⟨hr, rfl⟩)) F hb hx I (.cons rfl .nil) h) (fun r s' hq => ?_) fun _ _ z => z)
  obtain ⟨z, H', I', rz, b, rfl, q⟩ := hq
  obtain rfl : r = Value.bool b := rz
  exact ⟨.bl b, H', I', rfl, q⟩
end
/-! ### over trees -/
def dOwnIn (neg : Bool) (C : Addr) (P : Pw) : Tr → Tr → Om → PT' → Prop := fun x y Ω Q => ∃ a dx ns ts, y = .obj a ∧ Ω a = some (.ins C dx ns ts) ∧ P [.obj a, x] Ω (fun t Ω' => ∃ b, t = .bl b ∧ Q (.bl (if neg then !b else b)) Ω') nox
def dOwnBin (C : Addr) (P : Pw) : Tr → Tr → Om → PT' → Prop := fun x y Ω Q => ∃ a b dx dy ns ms ts us, x = .obj a ∧ y = .obj b ∧ Ω a = some (.ins C dx ns ts) ∧ Ω b = some (.ins C dy ms us) ∧ P [.obj a, .obj b] Ω (fun t Ω' => (∃ c, t = .obj c) ∧ Q t Ω') nox
section
variable {K : PySem.W.Frag}
theorem simr_ownIn {neg : Bool} {C : Addr} {P : Pw} : SimR K (rOwnIn neg C (spD K P 2) E0) (dOwnIn neg C P) := fun g H Ω x y tx ty Q QQ o d1 d2 ⟨a, dx, ns, ts, e, hc, p⟩ q => by
  subst e
  obtain rfl : y = .ref a := d2
  obtain ⟨xs, h1, h2, h3⟩ := (o.ce a _ hc).2
  refine ⟨a, dx, _, rfl, h1, g, Ω, [.obj a, tx], _, nox, rfl, ⟨.ref a, [x], rfl, rfl, ⟨x, [], rfl, d1, rfl⟩⟩, o, p, ?_, AfterX.nox⟩
  intro t Ω' v H' hp k1 o1 dv
  obtain ⟨b, rfl, hq⟩ := hp
  obtain rfl : v = .bl b := dv
  exact ⟨b, rfl, q _ Ω' _ H' hq k1 o1 rfl⟩
theorem simr_ownBin {C : Addr} {P : Pw} : SimR K (rOwnBin C (spD K P 2) E0) (dOwnBin C P) := fun g H Ω x y tx ty Q QQ o d1 d2 ⟨a, b, dx, dy, ns, ms, ts, us, e1, e2, hc, hd, p⟩ q => by
  subst e1 e2
  obtain rfl : x = .ref a := d1
  obtain rfl : y = .ref b := d2
  obtain ⟨xs, h1, h2, h3⟩ := (o.ce a _ hc).2
  obtain ⟨ys, k1, k2, k3⟩ := (o.ce b _ hd).2
  refine ⟨a, b, dx, dy, _, _, rfl, rfl, h1, k1, g, Ω, [.obj a, .obj b], _, nox, rfl, ⟨.ref a, [.ref b], rfl, rfl, ⟨.ref b, [], rfl, rfl, rfl⟩⟩, o, p, ?_, AfterX.nox⟩
  intro t Ω' v H' hp j1 o1 dv
  obtain ⟨⟨c, rfl⟩, hq⟩ := hp
  obtain rfl : v = .ref c := dv
  exact ⟨rfl, q _ Ω' _ H' hq j1 o1 rfl⟩
def dOwnBool (C : Addr) (P : Pw) : List Tr → Om → PT' → Prop := fun us Ω Q => ∃ a dx ns ts, us = [.obj a] ∧ Ω a = some (.ins C dx ns ts) ∧ P [.obj a] Ω (fun t Ω' => ∃ b, t = .bl b ∧ Q (.bl b) Ω') nox
theorem simc_ownBool {C : Addr} {P : Pw} : SimC K (rOwnBool C (spD K P 1) E0) (dOwnBool C P) := fun g H Ω vs us Q QQ o d1 ⟨a, dx, ns, ts, e, hc, p⟩ q => by
  subst e
  obtain ⟨v, vs', rfl, hv, hn⟩ := d1
  obtain rfl : v = .ref a := hv
  obtain rfl : vs' = [] := hn
  obtain ⟨xs, h1, h2, h3⟩ := (o.ce a _ hc).2
  refine ⟨a, dx, _, rfl, h1, g, Ω, [.obj a], _, nox, rfl, ⟨.ref a, [], rfl, rfl, rfl⟩, o, p, ?_, AfterX.nox⟩
  intro t Ω' v H' hp k1 o1 dv
  obtain ⟨b, rfl, hq⟩ := hp
  obtain rfl : v = .bl b := dv
  exact ⟨b, rfl, q _ Ω' _ H' hq k1 o1 rfl⟩
end
end LT

/-! for x in o, o of an own class whose __iter__ tells iter(a tuple) -/
namespace LT
open PySem PySem.Spec PyProof PyProof.Rows L2 LL
/-- a def whose contract knows how large the heap is at its call -/
structure FnN (P : Program) (w : World) (K : PySem.W.Frag) (mg : Str → Option Value) (base : Heap) (CX : CXT) (k : Nat) (f : Addr) (fd : FuncData) (ps : List Str) (sp : Nat → Sp) : Prop where
  len : ∀ n vs H Q E, sp n vs H Q E → vs.length = ps.length
  run : ∀ (A : Around) (outer : List Env) (s : Shared) (H : Hp) (args : Args) (us : List Value) (vs : List V) (Q : VK) (E : XK), Room k A → Env0 P w K mg base A outer s H → BindsTo s fd args (ps.zip us) → Vals vs us → sp s.heap.objs.size vs H Q E →
    codeAny (model P w) A (.call (.ref f) args) (CR CX outer P w H s Q E) s
theorem fn_ofN {CX : CXT} {P : Program} {w : World} {K : PySem.W.Frag} {mg : Str → Option Value} {base : Heap} {k : Nat} {f : Addr} {name qual : Str} {params : Arguments} {body : List Stmt} {scope : Scope} {dV kV doc pm cdv ct oc : Value} {an od : Option Addr}
    {osl : Array (Option Value)} {N ps : List Str} {sp : Nat → Sp} (lk : K.lookup f = some ⟨oc, od, .func (PySem.W.fnOf name qual params body scope dV kV doc pm an cdv ct), osl⟩) (hcd : PySem.W.codeIn K cdv qual = true) (S : FnScope N ps scope)
    (len : ∀ n vs H Q E, sp n vs H Q E → vs.length = ps.length)
    (hbody : ∀ (A : Around) (outer : List Env) (s : Shared) (H : Hp) (vs : List V) (Q : VK) (E : XK), Room k (A.deeper (envOfC qual scope s.heap.objs.size f cdv)) → sp s.heap.objs.size vs H Q E →
      ∃ t, PSs (cxOf CX P w K mg base N qual scope f cdv A outer s H E) body t ∧ t { nx := fun _ H' => Q .non H', rt := Q } (L2.start N vs) H) :
    FnN P w K mg base CX (k + 1) f (PySem.W.fnOf name qual params body scope dV kV doc pm an cdv ct) ps sp := by
  refine ⟨len, fun A outer s H args us vs Q E hr e0 hb r hsp => ?_⟩
  have hl := len _ _ _ _ _ hsp
  have KX : K.In s.heap := e0.mod.kin.keeps fun b o e => (e0.bs b o e).1
  have lim : s.heap.NoLimit := e0.mod.nolimit.keeps fun b o e => (e0.bs b o e).1
  have hkind : ∀ y ∈ ps.zip us, scope.names.lookup y.1 = some .local ∨ (scope.names.lookup y.1 = some .cell ∧ ((cellsFrom (s.heap.objs.size + 1) scope.names []).lookup y.1).isSome = true) := fun ⟨n, v⟩ hy => by
    rcases S.par n (List.of_mem_zip hy).1 with q | q
    · exact .inl q
    · exact .inr ⟨q, PySem.W.cellsFrom_some _ _ _ (.inl q)⟩
  refine codeAny_call_function hr.depth (KX _ _ lk) rfl S.co S.gen rfl (PySem.W.codeRec_of KX hcd) (hb _ _ _ _ ?_)
  refine wpAny_newFunctionEnv_cells S.kind hkind fun env he s1 x => ?_
  subst he
  refine ⟨lim.keeps x.toInCall.keep, codeAny_func ?_⟩
  obtain ⟨t, ht, hq⟩ := hbody A outer s H vs Q E (hr.deeper _) hsp
  have I : Inv (cxOf CX P w K mg base N qual scope f cdv A outer s H E) [] (L2.start N vs) H s1 := inv_start S hr.hd e0 hl r x
  refine wpAny_mono (ht.run [] s1 (L2.start N vs) H _ I hq) (fun fl s' hs => ?_) fun e s' hs => hs
  have fin : ∀ {σ' : L2.St} {H' : Hp} {v : V} {u : Value}, Inv (cxOf CX P w K mg base N qual scope f cdv A outer s H E) [] σ' H' s' → RelV v u → Q v H' → CE outer P w H s Q u s' :=
    fun {σ' H' v u} J rv q => ⟨v, H', J.os, J.bare, J.base, J.hok, rv, q⟩
  cases fl with
  | ret u =>
    obtain ⟨v, σ', H', J, rv, q⟩ := hs
    exact fin J rv q
  | next =>
    obtain ⟨σ', H', J, q⟩ := hs
    exact fin (v := V.non) (u := Value.none) J rfl q
  | brk =>
    obtain ⟨_, _, _, q⟩ := hs
    exact False.elim q
  | cont =>
    obtain ⟨_, _, _, q⟩ := hs
    exact False.elim q
theorem okN {CX : CXT} {P : Program} {w : World} {K : PySem.W.Frag} {mg : Str → Option Value} {base : Heap} {x qual : Str} {params : Arguments} {body : List Stmt} {scope : Scope} {dvs : List V} {kws : List (Str × V)} {f : Addr} {fd : FuncData} {N ps : List Str} {k : Nat} {sp : Nat → Sp} (F : FunD K x qual params body scope dvs kws f fd) (S : FnScope N ps scope) (len : ∀ n vs H Q E, sp n vs H Q E → vs.length = ps.length)
    (hbody : ∀ (cdv : Value) (A : Around) (outer : List Env) (s : Shared) (H : Hp) (vs : List V) (Q : VK) (E : XK), Room k (A.deeper (envOfC qual scope s.heap.objs.size f cdv)) → sp s.heap.objs.size vs H Q E →
      ∃ t, PSs (cxOf CX P w K mg base N qual scope f cdv A outer s H E) body t ∧ t { nx := fun _ H' => Q .non H', rt := Q } (L2.start N vs) H) : FnN P w K mg base CX (k + 1) f fd ps sp := by
  obtain ⟨oc, od, dV, kV, doc, pm, an, cdv, ct, osl, rfl, lk, hcd, _, _⟩ := F.ex
  exact fn_ofN lk hcd S len fun A outer s H vs Q E hr hsp => hbody cdv A outer s H vs Q E hr hsp
/-! ### a tuple's iterator -/
def itT (l : Addr) : Obj := { cls := .type "tuple_iterator", data := .fields #[.ref l, .int 0 0] }
def ItT (l it : Addr) : HO := .ext fun h => h.get? it = some (itT l)
theorem itT_ok {P : Program} {w : World} {H : Hp} {h : Heap} {l it : Addr} (e : h.get? it = some (itT l)) : ObjOk P w H h it (ItT l it) := ⟨e, ⟨_, e⟩, fun h1 h2 q k => k _ q⟩
def rIterT (K : PySem.W.Frag) (n : Nat) : List V → Hp → VK → Prop := fun xs H Q => ∃ (l : Addr) (zs : List V), xs = [.ref l] ∧ SqT K H l zs ∧ ∀ it, H it = Option.none → n ≤ it → Q (.ref it) (upd H it (ItT l it))
section
variable {X : Cx}
theorem call_iter_tup {prog : Program} {w : World} {A : Around} {E : Value → Shared → Prop} {s : Shared} {l : Addr} {items : Array Value} {Q : Value → Shared → Prop} (hl : s.heap.IsTuple l items) (h : Q (.ref s.heap.objs.size) { s with heap := s.heap.push (itT l) }) : wpAny (model prog w) A (call (.builtin "iter") [.ref l]) Q E s := by
  refine Calls.call_function_entry (by decide +kernel) (by decide +kernel) PySem.W.kdk_entry_iter (PySem.W.kdk_args_iter _) ?_
  unfold Builtin.«iter»
  refine wpAny_bind (m := someArgs "iter" 1 2 _) (wpAny_of_eq (a := [Value.ref l]) (by first | rfl | kernel_rfl!) ?_)
  show wpAny _ _ (pyIter (.ref l) >>= _) _ _ _
  refine wpAny_bind (wpAny_pyIter_tuple hl ?_)
  exact wpAny_pure ⟨_, rfl, h⟩
theorem call_iterT : CallR X (.builtin "iter") (rIterT X.K X.s_0.heap.objs.size) := by
  intro pins s σ H xs us Q I r h
  obtain ⟨l, zs, rfl, hq, q⟩ := h
  obtain rfl := Vals.ref1 r
  obtain ⟨its, rv, p, hz⟩ := I.tuple hq
  refine call_iter_tup (show s.heap.IsTuple l its.toArray from p) ?_
  exact ⟨.ref s.heap.objs.size, _, I.laid (t' := s.toks) (fun b u e => Heap.get?_push_of_some _ e) (Nat.le_refl _) (itT_ok (Heap.get?_push_size _ rfl)), rfl, q _ (I.hok.fresh (Nat.le_refl _)) I.sz⟩
end
/-- what such an __iter__ promises: C the class, x the field that holds the tuple -/
def spItN (K : PySem.W.Frag) (C : Addr) (x : Str) : Nat → Sp := fun n vs H Q _ => ∃ a dx fs l zs, vs = [.ref a] ∧ H a = some (.ins C dx fs) ∧ fs.lookup x = some (.ref l) ∧ SqT K H l zs ∧ ∀ it, H it = Option.none → n ≤ it → Q (.ref it) (upd H it (ItT l it))
/-- the loop over o: the tuple's items -/
def iOwn (K : PySem.W.Frag) (C : Addr) (x : Str) (te : TE) : TI := fun σ H R => te σ H fun v H1 => ∃ a dx fs l zs, v = .ref a ∧ H1 a = some (.ins C dx fs) ∧ fs.lookup x = some (.ref l) ∧ SqT K H1 l zs ∧ R (Itt K l) H1
section
variable {X : Cx} {CX : CXT} {k : Nat} {f C : Addr} {fd : FuncData} {ps : List Str} {x : Str} {tg e : Expr} {te : TE}
theorem pi_own (hm : Meth X.K C "__iter__" f) (F : FnN X.prog X.w X.K X.mg X.base CX k f fd ps (spItN X.K C x)) (hr : Room k X.A) (hb : Binds X.K fd ps []) (hx : Passes CX X E0) (he : PE X e te) : PI X tg e (iOwn X.K C x te) := by
  refine ⟨fun pins s σ H R I h => ?_⟩
  refine thn (he.run pins s σ H _ I h) fun v s1 ⟨y, H1, I1, r1, a, dx, fs, l, zs, ey, ha, hf, hz, q⟩ => ?_
  subst ey
  obtain rfl : v = Value.ref a := r1
  obtain ⟨mA, J, _⟩ := ins_get I1.hok ha
  obtain ⟨od, J, _⟩ := J.look
  obtain ⟨m, hF⟩ := I1.fr
  refine PySem.W.owit_iter hF I1.ok.mod.kin J hm.at_ hm.fn ?_
  have e0 := I1.env0
  have hsp : spItN X.K C x s1.heap.objs.size [.ref a] H1 (fun v H' => ∃ it, v = .ref it ∧ H1 it = Option.none ∧ s1.heap.objs.size ≤ it ∧ H' = upd H1 it (ItT l it)) E0 := ⟨a, dx, fs, l, zs, rfl, ha, hf, hz, fun it h1 h2 => ⟨it, rfl, h1, h2, rfl⟩⟩
  have hl := F.len _ _ _ _ _ hsp
  have r2 : Vals [V.ref a] [Value.ref a] := .cons rfl .nil
  refine wpAny_call (codeAny_mono (F.run X.A X.stack s1 H1 ⟨[.ref a], []⟩ [.ref a] [.ref a] _ E0 hr e0 (by
    have := hb s1 [.ref a] I1.kIn (by simpa using hl)
    simpa using this) r2 hsp) fun r s' hq => ?_)
  cases r with
  | error er => exact hx pins σ H1 s1 er s' I1 hq
  | ok fl =>
    cases fl with
    | ret u =>
      obtain ⟨z, H2, I2, rz, it, rfl, hn, hge, rfl⟩ := I1.after hq
      obtain rfl : u = Value.ref it := rz
      have hit : upd H1 it (ItT l it) it = some (ItT l it) := by unfold upd; rw [if_pos rfl]
      have eo : s'.heap.get? it = some (itT l) := (I2.hok it _ hit).1
      have hit' := hit
      unfold ItT at hit'
      have back : ItX.dropH (upd H1 it (ItT l it)) it = H1 := ItX.dropH_upd hn
      have st : s'.heap.IsTupleIter it l 0 := ⟨_, eo, rfl, rfl⟩
      have I3 := ItX.inv_drop I2 hit'
      have fp := ItX.inv_fp I2 hit (Nat.le_trans I1.sz hge)
      rw [back] at I3 fp
      unfold PySem.W.OwitIt
      refine wpAny_specialOf (name := Str.ofString "__next__") st.typeIs PySem.F.slot_tuple_iterator_next.lookup ?_
      refine ⟨it, [it], _, _, H1, rfl, I3, turn_tuple l it, st, fun b hb => ?_, q⟩
      have e : b = it := by simpa using hb
      rw [e]
      exact fp
    | next => exact False.elim hq
    | brk => exact False.elim hq
    | cont => exact False.elim hq
end
end LT

/-! list(o), o of an own class whose __iter__ tells iter(a tuple) -/
namespace LT
open PySem PySem.Spec PyProof PyProof.Rows L2 LL
section
variable {X : Cx} {pins : List (Addr × Obj)} {σ : L2.St} {H0 : Hp} {l it q : Addr} {zs : List V}
theorem tup_loop {A1 : Around} {Rs : Result → Shared → Prop} (hh : A1.in1.handled = none) (hfp : ∀ acc, FpOk X pins (upd H0 q (.lst acc)) it) (hz : ∀ acc, SqT X.K (upd H0 q (.lst acc)) l zs) (hlen : zs.length ≤ sizeLine)
    (hdone : ∀ s, Inv X pins σ (upd H0 q (.lst zs)) s → Rs (.ok (.ret .none)) s) :
    ∀ (m i : Nat) (s : Shared), m = zs.length - i → i ≤ zs.length → Inv X pins σ (upd H0 q (.lst (zs.take i))) s → s.heap.IsTupleIter it l i → codeAny (model X.prog X.w) A1 (.builtin "list.extend.loop" ⟨[.ref q, .ref it, .none], []⟩) Rs s := by
  intro m
  induction m with
  | zero =>
    intro i s hm hi I st
    obtain rfl : i = zs.length := by omega
    rw [List.take_length] at I
    obtain ⟨its, rv, p, hzz⟩ := I.tuple (hz _)
    have hl := rv.length
    refine codeAny_builtin PySem.F.entry_extend_loop ?_
    rw [Around.under_plainId PySem.F.plain_extend_loop _]
    show wpAny _ A1.in1 (pyNext (.ref it) >>= _) _ _ s
    refine wpAny_bind (wpAny_pyNext_tuple_end hh st (show s.heap.IsTuple l its.toArray from p) (by rw [List.getElem?_toArray]; exact List.getElem?_eq_none (by omega)) fun h' he => ?_)
    exact wpAny_pure (hdone _ (I.turnedL (t' := s.toks) (ch := [it]) (fun b o hb e => he b o (fun z => hb (by simp [z])) e) fun b hb => by
      have e : b = it := by simpa using hb
      rw [e]
      exact hfp _))
  | succ m ih =>
    intro i s hm hi I st
    have hlt : i < zs.length := by omega
    obtain ⟨its, rv, p, hzz⟩ := I.tuple (hz _)
    have hl := rv.length
    obtain ⟨w', hw, rw'⟩ := rv.get (List.getElem?_eq_getElem hlt)
    refine codeAny_builtin PySem.F.entry_extend_loop ?_
    rw [Around.under_plainId PySem.F.plain_extend_loop _]
    show wpAny _ A1.in1 (pyNext (.ref it) >>= _) _ _ s
    refine wpAny_bind (wpAny_pyNext_tuple_item st (show s.heap.IsTuple l its.toArray from p) (by rw [List.getElem?_toArray]; exact hw) fun h' hit sb => ?_)
    have I1 : Inv X pins σ (upd H0 q (.lst (zs.take i))) { s with heap := h' } := I.turnedL (t' := s.toks) (ch := [it]) (fun b o hb e => (sb.2 b (fun z => hb (by simp [z]))).trans e) fun b hb => by
      have e : b = it := by simpa using hb
      rw [e]
      exact hfp _
    have hq : upd H0 q (.lst (zs.take i)) q = some (.lst (zs.take i)) := upd_same
    have nq : it ≠ q := fun z => by
      have := (hfp (zs.take i)).1
      rw [z, upd_same] at this
      cases this
    show wpAny _ A1.in1 (updateSeq q (·.push w') >>= _) _ _ _
    obtain ⟨z, its2, k2, r2, hl2, e2⟩ := I1.lstM hq
    have hl3 : its2.length = i := by rw [← hl2, List.length_take]; omega
    refine wpAny_bind (wpAny_updateSeq e2 rfl (wpAny_pure ⟨plainId_quiet PySem.F.plain_extend_loop _, ?_⟩) (by rw [List.size_toArray]; omega) (by show (its2.toArray.push w').size ≤ sizeLine + 1; rw [Array.size_push, List.size_toArray]; omega))
    have I2 := I1.lset (f := (·.push w')) (its' := its2 ++ [w']) (ys := zs.take i ++ [zs[i]]) (t' := s.toks) hq e2 (by simp) (r2.append (.cons rw' .nil)) (by rw [List.length_append, List.length_singleton, List.length_take]; omega)
    rw [upd_upd, ← List.take_succ_eq_append_getElem hlt] at I2
    exact ih (i + 1) _ (by omega) hlt I2 (hit.at fun o e => (Heap.get?_update_other _ _ (Ne.symm nq)).trans e)
end
theorem sqT_upd {K : PySem.W.Frag} {H : Hp} {a q : Addr} {zs : List V} {u : HO} (h : SqT K H a zs) (hq : H q = Option.none) : SqT K (upd H q u) a zs := by
  rcases h with h | h
  · by_cases e : a = q
    · subst e
      unfold Rd at h
      rw [hq] at h
      simp at h
    · have e2 : upd H q u a = H a := upd_ne e
      unfold SqT Rd at *
      rw [e2]
      exact .inl h
  · exact .inr h
theorem ownHint {M : Model} {A : Around} {E : Value → Shared → Prop} {Q : Bool → Shared → Prop} {K : PySem.W.Frag} {s : Shared} {a C : Addr} {ox : Obj} {od : Option Obj} (n1 : NoAttr K C "__len__") (n2 : NoAttr K C "__length_hint__") (hK : K.In s.heap) (J : PySem.W.InstAt s.heap a ox C od) (h : Q true s) :
    wpAny M A (Builtin.List.listLengthHint (.ref a)) Q E s := by
  unfold Builtin.List.listLengthHint
  refine wpAny_bind (wpAny_bind (J.type.here ((PySem.W.looks_findIn hK n1).here ?_)))
  refine PySem.W.KFB.if_not rfl ?_
  refine PySem.W.KFB.if_not rfl ?_
  refine wpAny_bind (wpAny_bind (J.type.here ((PySem.W.looks_findIn hK n2).here ?_)))
  exact wpAny_pure h
def rOwnList (K : PySem.W.Frag) (C : Addr) (x : Str) : List V → Hp → VK → Prop := fun xs H Q => ∃ a dx fs l zs, xs = [.ref a] ∧ H a = some (.ins C dx fs) ∧ fs.lookup x = some (.ref l) ∧ SqT K H l zs ∧ ∀ q, H q = Option.none → Q (.ref q) (upd H q (.lst zs))
section
variable {X : Cx} {CX : CXT} {k : Nat} {f C : Addr} {fd : FuncData} {ps : List Str} {x : Str}
theorem own_ext {pins : List (Addr × Obj)} {σ : L2.St} {H : Hp} {s2 : Shared} {a qa dx l : Addr} {fs : List (Str × V)} {zs : List V} {Q : VK} (hm : Meth X.K C "__iter__" f) (n1 : NoAttr X.K C "__len__") (n2 : NoAttr X.K C "__length_hint__") (F : FnN X.prog X.w X.K X.mg X.base CX k f fd ps (spItN X.K C x)) (sb : Sub X k X.A.in1.in1) (hb : Binds X.K fd ps []) (hx : Passes CX X E0) (hc : X.calm = true)
    (I2 : Inv X pins σ (upd H qa (.lst [])) s2) (fr : H qa = Option.none) (na : a ≠ qa) (ha2 : upd H qa (.lst []) a = some (.ins C dx fs)) (hf : fs.lookup x = some (.ref l)) (hz : SqT X.K H l zs) (q : ∀ q, H q = Option.none → Q (.ref q) (upd H q (.lst zs))) :
    wpAny (model X.prog X.w) X.A.in1.in1 (Builtin.List.listExtendWith (.ref qa) (.ref a) .none)
      (fun fin s' => match fin with | .done f => (wants (fun r s₂ => r = .none ∧ EP X pins σ Q (.ref qa) s₂) X.xe) (.ok f) s' | .again c' => c'.quiet = true ∧ codeAny (model X.prog X.w) X.A.in1 c' (wants (fun r s₂ => r = .none ∧ EP X pins σ Q (.ref qa) s₂) X.xe) s') (fun e s' => (wants (fun r s₂ => r = .none ∧ EP X pins σ Q (.ref qa) s₂) X.xe) (.error e) s') s2 := by
  have hzq : ∀ acc, SqT X.K (upd H qa (.lst acc)) l zs := fun acc => sqT_upd hz fr
  obtain ⟨its0, rv0, p0, hz0⟩ := I2.tuple (hzq [])
  have hlen : zs.length ≤ sizeLine := by have := rv0.length; omega
  have hne : qa ≠ a := Ne.symm na
  obtain ⟨mA, J, _⟩ := ins_get I2.hok ha2
  obtain ⟨od, J, _⟩ := J.look
  obtain ⟨m0, hF⟩ := I2.fr
  unfold Builtin.List.listExtendWith
  refine wpAny_bind (J.type.here ?_)
  have h1 : Builtin.List.listSameRef (.ref qa) (.ref a) = false := by simp [Builtin.List.listSameRef, hne]
  have h2 : (Value.ref C == Value.type "list") = false := rfl
  have h3 : (Value.ref C == Value.type "tuple") = false := rfl
  simp only [h1, h2, h3, Bool.or_false, Bool.false_eq_true, if_false]
  refine wpAny_bind (PySem.W.owit_iter hF I2.ok.mod.kin J hm.at_ hm.fn ?_)
  have e0 : Env0 X.prog X.w X.K X.mg X.base X.A.in1.in1 X.stack s2 (upd H qa (.lst [])) := by
    have e := I2.env0
    exact ⟨by rw [sb.fr]; exact e.frames, e.mod, e.bs, e.bsz, e.funs, e.frf, e.hok, e.bare⟩
  have hsp : spItN X.K C x s2.heap.objs.size [.ref a] (upd H qa (.lst [])) (fun v H' => ∃ it, v = .ref it ∧ upd H qa (.lst []) it = Option.none ∧ s2.heap.objs.size ≤ it ∧ H' = upd (upd H qa (.lst [])) it (ItT l it)) E0 := ⟨a, dx, fs, l, zs, rfl, ha2, hf, hzq _, fun it g1 g2 => ⟨it, rfl, g1, g2, rfl⟩⟩
  have hl := F.len _ _ _ _ _ hsp
  have r2 : Vals [V.ref a] [Value.ref a] := .cons rfl .nil
  refine wpAny_call (codeAny_mono (F.run X.A.in1.in1 X.stack _ (upd H qa (.lst [])) ⟨[.ref a], []⟩ [.ref a] [.ref a] _ E0 sb.room e0 (by
    have := hb _ [.ref a] I2.kIn (by simpa using hl)
    simpa using this) r2 hsp) fun r s' hq => ?_)
  cases r with
  | error er => exact hx pins σ _ _ er s' I2 hq
  | ok fl =>
    cases fl with
    | next => exact False.elim hq
    | brk => exact False.elim hq
    | cont => exact False.elim hq
    | ret u =>
      obtain ⟨z, H2, I3, rz, it, rfl, hn, hge, rfl⟩ := I2.after hq
      obtain rfl : u = Value.ref it := rz
      have hit : upd (upd H qa (.lst [])) it (ItT l it) it = some (ItT l it) := upd_same
      have eo : s'.heap.get? it = some (itT l) := (I3.hok it _ hit).1
      have hit' := hit
      unfold ItT at hit'
      have back : ItX.dropH (upd (upd H qa (.lst [])) it (ItT l it)) it = upd H qa (.lst []) := ItX.dropH_upd hn
      have st : s'.heap.IsTupleIter it l 0 := ⟨_, eo, rfl, rfl⟩
      have I4 := ItX.inv_drop I3 hit'
      have fp := ItX.inv_fp I3 hit (Nat.le_trans I2.sz hge)
      rw [back] at I4 fp
      unfold PySem.W.OwitIt
      refine wpAny_specialOf (name := Str.ofString "__next__") st.typeIs PySem.F.slot_tuple_iterator_next.lookup ?_
      obtain ⟨mA', J', _⟩ := ins_get I4.hok ha2
      obtain ⟨od', J', _⟩ := J'.look
      refine wpAny_bind (wpAny_holding (ownHint n1 n2 I4.kIn J' ?_))
      have nit : it ≠ qa := fun e => by rw [e, upd_same] at hn; cases hn
      have hfp : ∀ acc, FpOk X pins (upd H qa (.lst acc)) it := fun acc => ⟨by rw [upd_ne nit]; rw [upd_ne nit] at hn; exact hn, fp.2⟩
      have go : ∀ s3, Inv X pins σ (upd H qa (.lst [])) s3 → s3.heap.IsTupleIter it l 0 → codeAny (model X.prog X.w) X.A.in1 (.builtin "list.extend.loop" ⟨[.ref qa, .ref it, .none], []⟩) (wants (fun r s₂ => r = .none ∧ EP X pins σ Q (.ref qa) s₂) X.xe) s3 := fun s3 I5 st3 =>
        tup_loop (A1 := X.A.in1) (show X.A.in1.in1.handled = Option.none from I5.ok.hd hc) hfp hzq hlen (fun s4 I6 => ⟨rfl, .ref qa, _, I6, rfl, q _ fr⟩) _ 0 s3 rfl (Nat.zero_le _) I5 st3
      obtain ⟨z, its, k5, r3, hl3, e3⟩ := I4.lstM upd_same
      cases r3
      refine wpAny_ite_split (fun _ => ?_) (fun _ => wpAny_pure ⟨plainId_quiet PySem.F.plain_extend_loop _, go _ I4 st⟩)
      refine wpAny_bind (wpAny_rule ?_)
      refine wpAny_bind ?_
      show wpAny _ _ (updateSeq qa (·.push .none) >>= fun _ => updateSeq qa (·.pop)) _ _ _
      refine wpAny_bind (wpAny_updateSeq e3 rfl ?_)
      have I5 := I4.lset (f := (·.push Value.none)) (its' := [Value.none]) (ys := [.non]) (t' := s'.toks) upd_same e3 (by simp) (.cons rfl .nil) (by rw [List.length_singleton, sizeLine_eq]; decide)
      obtain ⟨z4, its4, k4, r4, hl4, e4⟩ := I5.lstM upd_same
      obtain ⟨u4, rfl, ru4⟩ := r4.one
      refine wpAny_updateSeq e4 rfl ?_ (by show 1 ≤ sizeLine; rw [sizeLine_eq]; decide) (by show 0 ≤ sizeLine + 1; exact Nat.zero_le _)
      have I6 := I5.lset (f := (·.pop)) (its := [u4]) (its' := []) (ys := []) (t' := s'.toks) upd_same e4 (by rfl) .nil (Nat.zero_le _)
      rw [upd_upd, upd_upd] at I6
      refine wpAny_pure ⟨plainId_quiet PySem.F.plain_extend_loop _, go _ I6 (st.at fun o e => ?_)⟩
      exact (Heap.get?_update_other _ _ (Ne.symm nit)).trans ((Heap.get?_update_other _ _ (Ne.symm nit)).trans e)
theorem call_ownList (hm : Meth X.K C "__iter__" f) (n1 : NoAttr X.K C "__len__") (n2 : NoAttr X.K C "__length_hint__") (F : FnN X.prog X.w X.K X.mg X.base CX k f fd ps (spItN X.K C x)) (hr : Room (k + 2) X.A) (hb : Binds X.K fd ps []) (hx : Passes CX X E0) (hc : X.calm = true) : CallR X (.type "list") (rOwnList X.K C x) := by
  intro pins s σ H xs us Q I rv h
  obtain ⟨a, dx, fs, l, zs, rfl, ha, hf, hz, q⟩ := h
  obtain rfl := Vals.ref1 rv
  have sb : Sub X k X.A.in1.in1 := (Sub.in1 (Sub.in1 (⟨hr, rfl⟩ : Sub X (k + 2) X.A)))
  refine callType_codes (Q₁ := fun obj s₁ => obj = .ref s.heap.objs.size ∧ s₁ = { s with heap := s.heap.push { cls := .type "list", data := .seq #[] } }) PySem.F.called_list (PySem.F.typeCall_list_1 _) PySem.F.entry_list_init
    (code_list_new _ ⟨rfl, rfl⟩) fun obj s₁ h₁ => ?_
  obtain ⟨rfl, rfl⟩ := h₁
  have hS : (s.heap.push { cls := .type "list", data := .seq #[] }).get? s.heap.objs.size = some { cls := .type "list", data := .seq #[] } := Heap.get?_push_size _ rfl
  refine ⟨⟨_, hS, rfl⟩, PySem.F.args_list_init_2 _ _, ?_⟩
  have fr : H s.heap.objs.size = none := I.hok.fresh (Nat.le_refl _)
  have I1 : Inv X pins σ (upd H s.heap.objs.size (.lst [])) { s with heap := s.heap.push { cls := .type "list", data := .seq #[] } } := I.lnew (its := []) (t' := s.toks) .nil (Nat.zero_le _)
  show wpAny _ _ (do let old ← Builtin.List.listItems (.ref s.heap.objs.size); Builtin.List.listUpdate (.ref s.heap.objs.size) (fun _ => #[]); letGo old.toList.reverse; Builtin.List.listExtendWith (.ref s.heap.objs.size) (.ref a) .none) _ _ _
  refine wpAny_bind ?_
  unfold Builtin.List.listItems
  refine wpAny_bind (wpAny_seqItems hS rfl (wpAny_pure ?_))
  show wpAny _ _ (updateSeq s.heap.objs.size (fun _ => #[]) >>= fun _ => letGo (#[] : Array Value).toList.reverse >>= fun _ => Builtin.List.listExtendWith (.ref s.heap.objs.size) (.ref a) .none) _ _ _
  refine wpAny_bind (wpAny_updateSeq hS rfl ?_)
  have I2 := I1.lset (f := fun _ => #[]) (its := []) (its' := []) (ys := []) (t' := s.toks) upd_same hS rfl .nil (Nat.zero_le _)
  rw [upd_upd] at I2
  refine wpAny_bind (wpAny_letGo ?_)
  have na : a ≠ s.heap.objs.size := ne_of_none ha fr
  have ha2 : upd H s.heap.objs.size (.lst []) a = some (.ins C dx fs) := by rw [upd_ne na]; exact ha
  exact own_ext hm n1 n2 F sb hb hx hc I2 fr na ha2 hf hz q
end
end LT

/-! over trees: for x in o, list(o), o of an own class whose __iter__ tells iter(a tuple) -/
namespace LT
open PySem PySem.Spec PyProof PyProof.Rows L2 LL
section
variable {K : PySem.W.Frag} {G : List (Value × Option Addr × XV) → Prop} {E : EK}
def ownT (C : Addr) (x : Str) (t : Tr) (Ω : Om) (us : List Tr) : Prop := ∃ a dx ns ts, t = .obj a ∧ Ω a = some (.ins C dx ns ts) ∧ fldT ns ts x = some (.tup us)
theorem own_at {g : Gh} {H : Hp} {Ω : Om} {C : Addr} {x : Str} {v : V} {t : Tr} {us : List Tr} (o : OmOk K g H Ω) (d : VD K g.dr (NM g Ω) H v t) (h : ownT C x t Ω us) : ∃ a dx fs l xs, v = .ref a ∧ H a = some (.ins C dx fs) ∧ fs.lookup x = some (.ref l) ∧ SqT K H l xs ∧ VDL K g.dr (NM g Ω) H xs us ∧ us.length ≤ 1000000 ∧ VD K g.dr (NM g Ω) H (.ref l) (.tup us) := by
  obtain ⟨a, dx, ns, ts, e, hc, hf⟩ := h
  subst e
  obtain rfl : v = .ref a := d
  obtain ⟨xs, h1, h2, h3⟩ := (o.ce a _ hc).2
  obtain ⟨v, e1, d1⟩ := (fld_vd h2 h3).1 hf
  obtain ⟨l, ys, rfl, s, dl, z⟩ := at_T (ts := us) d1 rfl
  exact ⟨a, dx, _, l, ys, rfl, h1, e1, s, dl, z, d1⟩
def diOwn (C : Addr) (x : Str) (de : DE) : DI := fun ρ Ω P PX => de ρ Ω (fun t Ω1 => ∃ us, ownT C x t Ω1 us ∧ (us.length ≤ 1000000 → P us (stay (.tup us) us) Ω1)) PX
theorem sim_iOwn {C : Addr} {x : Str} {te : TE} {de : DE} (h : SimE K G E te de) : SimI K G E (iOwn K C x te) (diOwn C x de) := fun g σ H ρ Ω P PX R hG r p q qx =>
  h g σ H ρ Ω _ PX _ hG r p (fun t Ω1 v H1 ⟨us, e, p1⟩ k1 o1 d1 => by
    obtain ⟨a, dx, fs, l, xs, rfl, h1, h2, s, dl, z, dt⟩ := own_at o1 d1 e
    exact ⟨a, dx, fs, l, xs, rfl, h1, h2, s, q us _ Ω1 _ H1 (p1 z) k1 o1 (itt_ok (t := .tup us) rfl dt)⟩) qx
def dOwnList (C : Addr) (x : Str) : List Tr → Om → PT' → Prop := fun vs Ω P => ∃ t us, vs = [t] ∧ ownT C x t Ω us ∧ (us.length ≤ 1000000 → lstNew us Ω P)
theorem simc_ownList {C : Addr} {x : Str} : SimC K (rOwnList K C x) (dOwnList C x) := fun g H Ω vs us P Q o d ⟨t, ts, e, h, p⟩ q => by
  subst e
  obtain ⟨v, _, rfl, d, rfl⟩ := d
  obtain ⟨a, dx, fs, l, xs, rfl, h1, h2, s, dl, z, dt⟩ := own_at o d h
  exact ⟨a, dx, fs, l, xs, rfl, h1, h2, s, fun b n => new_lst o dl z (p z) q n⟩
end
end LT

/-! bool(a tuple) -/
namespace LT
open PySem PySem.Spec PyProof PyProof.Rows L2 LL
theorem kbo_of {prog : Program} {w : World} {A : Around} {E : Value → Shared → Prop} {s : Shared} {v : Value} {Q : Value → Shared → Prop} (tr : wpAny (model prog w) A.in1.in1 (truthy v) (fun b s' => Q (.bool b) s') E s) : wpAny (model prog w) A (call (.type "bool") [v]) Q E s := by
  refine callType_codes (T := "bool") (Bi := Builtin.«object.__init__») (Q₁ := fun r s₁ => ∃ b, r = .bool b ∧ Q r s₁) PySem.F.called_bool (PySem.F.typeCall_bool_1 _) PySem.F.entry_object_init ?_ ?_
  · refine codeAny_of_tree ?_
    show wpAny _ A.in1.in1 (do checkBuiltinCall "bool.__new__" ⟨[.type "bool", v], []⟩; again (.builtin "bool.__new__" ⟨[.type "bool", v], []⟩)) _ _ s
    refine wpAny_bind (wpAny_of_eq (PySem.F.newCall_bool_1 _) (wpAny_pure ⟨plainId_quiet (by decide +kernel) _, codeAny_builtin PySem.F.entry_bool_new ?_⟩))
    rw [Around.under_plainId (by decide +kernel) _]
    unfold Builtin.«bool.__new__»
    have f1 := PySem.F.conv_sub_bool
    have fin : ∀ b s₁, Q (.bool b) s₁ → wpAny (model prog w) A.in1.in1 (ret (.bool b)) (fun fin s' => match fin with
      | Fin.done f => wants (fun r s₁ => ∃ b, r = Value.bool b ∧ Q r s₁) E (Except.ok f) s'
      | Fin.again c' => c'.quiet = true ∧ codeAny (model prog w) A.in1 c' (wants (fun r s₁ => ∃ b, r = Value.bool b ∧ Q r s₁) E) s')
      (fun e s' => wants (fun r s₁ => ∃ b, r = Value.bool b ∧ Q r s₁) E (Except.error e) s') s₁ := fun b s₁ hq => wpAny_pure ⟨b, rfl, hq⟩
    dsimp only
    refine wpAny_bind (wpAny_of_eq (a := true) rfl ?_)
    rw [if_neg (by decide)]
    refine wpAny_bind (wpAny_of_eq f1 ?_)
    rw [if_neg (by decide)]
    refine wpAny_bind (wpAny_of_eq (a := [v]) rfl ?_)
    exact wpAny_bind (wpAny_mono tr (fun b s' hq => fin b s' hq) fun _ _ z => z)
  · rintro obj s₁ ⟨b, rfl, hq⟩
    exact ⟨PySem.typeIs_bool s₁ b, PySem.F.args_object_init_2 _ _, object_init_meets PySem.F.called_bool.init.lookup PySem.F.called_bool.made (by decide) prog w A.in1 _ s₁ ⟨PySem.typeIs_bool s₁ b, rfl, hq⟩⟩
def rBoolT (K : PySem.W.Frag) : List V → Hp → VK → Prop := fun xs H Q => ∃ a zs, xs = [.ref a] ∧ SqT K H a zs ∧ Q (.bl (!zs.isEmpty)) H
section
variable {X : Cx}
theorem call_boolT : CallR X (.type "bool") (rBoolT X.K) := by
  intro pins s σ H xs us Q I r ⟨a, zs, e, hq, q⟩
  subst e
  obtain rfl := Vals.ref1 r
  obtain ⟨its, rv, p, hz⟩ := I.tuple hq
  have hlen := rv.length
  have h63 := line63
  refine kbo_of (truthy_tuple p (by simp only [List.size_toArray]; omega) ?_)
  exact ⟨.bl (!zs.isEmpty), H, I.tok _, by rw [isEmpty_of rv]; rfl, q⟩
end
def dBoolT : List Tr → Om → PT' → Prop := fun vs Ω P => ∃ us, vs = [.tup us] ∧ P (.bl (!us.isEmpty)) Ω
section
variable {K : PySem.W.Frag}
theorem simc_boolT : SimC K (rBoolT K) dBoolT := fun g H Ω vs us P Q o d ⟨ts, e, p⟩ q => by
  subst e
  obtain ⟨v, _, rfl, d, rfl⟩ := d
  obtain ⟨l, xs, rfl, s, dl, z⟩ := at_T (ts := ts) d rfl
  have hl := dl.len
  have e2 : (!xs.isEmpty) = !ts.isEmpty := by
    cases xs <;> cases ts <;> simp_all
  exact ⟨l, xs, rfl, s, by rw [e2]; exact q _ Ω _ H p .refl o rfl⟩
end
end LT

/-! sorted of a tuple of rows of ints -/
namespace LT
section
open PySem PySem.Calls PyProof.Rows PySem.W
variable {prog : Program} {w : World} {A : Around} {E : Value → Shared → Prop} {s : Shared}
theorem collect_tup {l : Addr} {vs : List Value} {Q : List Value → Shared → Prop} (hl : IsTup s.heap l vs.toArray)
    (h : Q vs { s with heap := (s.heap.push (seqObj "list" #[] 0)).update s.heap.objs.size (Obj.mapSeq (· ++ vs.toArray)) }) (hsz : vs.length ≤ sizeLine) :
    wpAny (model prog w) A (collect (.ref l)) Q E s := by
  obtain ⟨o, ho, hc, n, hd⟩ := id hl
  unfold collect
  refine wpAny_bind (wpAny_runValue (codeAny_builtin entry_proto_collect' ?_))
  show wpAny _ _ (do again (.builtin "list.__iadd__" ⟨[← newList [], .ref l], []⟩)) _ _ s
  refine wpAny_bind (wpAny_newList (wpAny_pure ⟨Code.quiet_builtin _ (by decide +kernel), codeAny_builtin entry_list_iadd' ?_⟩))
  show wpAny _ _ (Builtin.List.listExtendWith (.ref s.heap.objs.size) (.ref l) (.ref s.heap.objs.size)) _ _ { s with heap := s.heap.push (seqObj "list" #[] 0) }
  unfold Builtin.List.listExtendWith
  have ho' : (s.heap.push (seqObj "list" #[] 0)).get? l = some o := Heap.get?_push_of_some _ ho
  refine wpAny_bind (wpAny_typeOf (T := "tuple") ⟨o, ho', hc⟩ ?_)
  have ht : (Value.type "tuple" == Value.type "tuple") = true := by rfl
  rw [if_pos (by rw [ht]; simp)]
  refine wpAny_bind (listItems_at ho' hd ?_)
  refine wpAny_bind (listItems_at (xs := #[]) (n := 0) (Heap.get?_push_size _ rfl) rfl ?_)
  rw [if_neg (by simp)]
  refine wpAny_bind (listUpdate_at (xs := #[]) (n := 0) (Heap.get?_push_size _ rfl) rfl ?_ (Nat.zero_le _) (by show (#[] ++ vs.toArray).size ≤ sizeLine + 1; simp only [Array.size_append, List.size_toArray, List.length_nil]; omega))
  refine wpAny_pure ?_
  show wpAny (model prog w) A (do
      let o ← load s.heap.objs.size
      match o.data with
      | .seq xs _ => pure xs.toList
      | _ => unsupported "internal:collect") Q E { s with heap := (s.heap.push (seqObj "list" #[] 0)).update s.heap.objs.size (Obj.mapSeq (· ++ vs.toArray)) }
  refine wpAny_bind (wpAny_load (get?_update_seq (Heap.get?_push_size _ rfl) _) ?_)
  show wpAny _ _ (pure ((#[] : Array Value) ++ vs.toArray).toList) Q E _
  rw [show ((#[] : Array Value) ++ vs.toArray).toList = vs by simp]
  exact wpAny_pure h
theorem sorted_of_sortT {l : Addr} {vs : List Value} {kw : List (Str × Value)} {Q : Value → Shared → Prop} (hl : IsTup s.heap l vs.toArray) (hL : vs.length ≤ sizeLine) (ha1 : argsOk "sorted" ⟨[.ref l], kw⟩) (ha2 : ∀ x, argsOk "list.sort" ⟨[.ref x], kw⟩)
    (body : ∀ E' : Value → Shared → Prop, wpAny (model prog w) A.in1.in1 (Builtin.«list.sort» ⟨[.ref (s.heap.objs.size + 1)], kw⟩) (fun f s' => f = .done (.ret .none) ∧ Q (.ref (s.heap.objs.size + 1)) s') E' { s with heap := copyHeap s.heap vs }) :
    wpAny (model prog w) A (call (.builtin "sorted") [.ref l] kw) Q E s := by
  refine call_function_entry_kw kind_sorted plain_sorted entry_sorted ha1 ?_
  unfold Builtin.«sorted»
  refine wpAny_bind (m := checkCount "sorted" 1 1 _) (wpAny_pure ?_)
  refine wpAny_bind (collect_tup hl ?_ hL)
  refine wpAny_bind (wpAny_newList ?_ hL)
  have hsz : ((s.heap.push (seqObj "list" #[] 0)).update s.heap.objs.size (Obj.mapSeq (· ++ vs.toArray))).objs.size = s.heap.objs.size + 1 := by
    rw [Heap.size_update, size_push']
  show wpAny _ _ _ _ _ { s with heap := copyHeap s.heap vs }
  rw [hsz]
  refine wpAny_bind (wpAny_holding (wpAny_call_entry_kw slot_list_sort ⟨_, copyHeap_at s.heap vs, rfl⟩ entry_list_sort ?body (ha2 _)))
  case body =>
    show wpAny (model prog w) A.in1.in1 (Builtin.«list.sort» ⟨[.ref (s.heap.objs.size + 1)], kw⟩) _ _ _
    refine wpAny_mono (body _) (fun f s' hf => ?_) fun _ _ e => e
    obtain ⟨rfl, hq⟩ := hf
    exact ⟨_, rfl, wpAny_pure ⟨_, rfl, hq⟩⟩
theorem sorted_dataT {β : Type} {vs : List Value} {bs : List β} {enc : β → PyData} {R : Value → β → Prop} {l : Addr} {Q : Value → Shared → Prop} (hl : IsTup s.heap l vs.toArray) (e : EachIs R vs bs) (er : EachIs (fun v b => ∃ as, Reads s.heap v (enc b) as) vs bs) (hal : AllAlike (bs.map enc)) (hk : Sortable (bs.map enc)) (hL : bs.length ≤ sizeLine)
    (hu : ∀ b, b ∈ bs → A.units + 2 + (enc b).depth < cLine) (h : ∀ out, out.length = bs.length → EachIs R out (bs.mergeSort (dataLe false enc)) → Q (.ref (s.heap.objs.size + 1)) { s with heap := sortedAll s.heap vs (List.toArray out) }) :
    wpAny (model prog w) A (call (.builtin "sorted") [.ref l]) Q E s := by
  have er' : EachIs (fun v b => ∃ as, Reads (sortingHeap (copyHeap s.heap vs) (s.heap.objs.size + 1) vs) v (enc b) as) vs bs := er.mono fun _ _ ⟨as, r⟩ => ⟨as, PyProof.Rows.Reads.keeps (fun _ _ => sorting_copy_old) r⟩
  have hLv : vs.length ≤ sizeLine := by rw [e.length]; exact hL
  exact sorted_of_sortT hl hLv (args_sorted1 _) (fun _ => args_list_sort _) fun _ => list_sort_vals (s := { s with heap := copyHeap s.heap vs }) (copyHeap_at s.heap vs)
    (SortsAt.data (s := { s with heap := sortingHeap (copyHeap s.heap vs) (s.heap.objs.size + 1) vs }) (each_map (R := fun v d => ∃ as, Reads (sortingHeap (copyHeap s.heap vs) (s.heap.objs.size + 1) vs) v d as) enc er') hal hk (bound_map hu)) hLv
    ⟨rfl, h _ (by rw [sortVals_length false rfl]; exact e.length) (sortVals_data false e er' hal)⟩
end
open PySem PySem.Spec PyProof.Rows L2 PySem.W LL
def rSortedT (K : PySem.W.Frag) : List V → Hp → VK → Prop := fun vs H Q => ∃ (a : Addr) (bs : List (V × List Int)), vs = [V.ref a] ∧ SqT K H a (bs.map (·.1)) ∧ (∀ b ∈ bs, Dp K H b.1 (encR b) ∧ b.2 ≠ []) ∧ ∀ p, H p = none → Q (.ref p) (upd H p (.lst ((bs.mergeSort fun a b => leR a.2 b.2).map (·.1))))
theorem cr_sortedT {X : Cx} (hu : X.A.units + 64 < cLine) : CallR X (.builtin "sorted") (rSortedT X.K) := by
  rintro pins s σ H vs us Q I r ⟨a, bs, rfl, hs, hb, q⟩
  obtain ⟨its, rv, p, hz⟩ := I.tuple hs
  rw [Vals.ref1 r]
  have len : bs.length ≤ sizeLine := by rw [List.length_map] at hz; exact hz
  refine sorted_dataT (bs := bs) (enc := encR) (R := fun v (b : V × List Int) => RelV b.1 v) (vs := its) p (vals_each rv) (each_reads I (fun b h => (hb b h).1) rv) (AllAlike.of fun b b' => alike_ints b.2 b'.2) (.inl fun d hd => ?_) len (fun b h => ?_) fun out ho he => ?_
  · obtain ⟨b, h, rfl⟩ := List.mem_map.mp hd
    obtain ⟨x, xs, e⟩ := List.exists_cons_of_ne_nil (hb b h).2
    exact ⟨.int x, xs.map .int, by unfold encR ; rw [e] ; rfl⟩
  · have d0 := depth_ints b.2
    have : (encR b).depth ≤ 1 := by unfold encR ; simp [PyData.depth, d0]
    show X.A.units + 2 + (encR b).depth < cLine
    omega
  · rw [dataLe_tup] at he
    obtain ⟨ep, he'⟩ := PyProof.Rows.sortedAll_at s.heap its out.toArray
    have hlen : ((bs.mergeSort fun a b => leR a.2 b.2).map (·.1)).length ≤ sizeLine := by rw [List.length_map, List.length_mergeSort] ; exact len
    exact ⟨.ref _, upd H (s.heap.objs.size + 1) (.lst ((bs.mergeSort fun a b => leR a.2 b.2).map (·.1))), I.laid (t' := s.toks) (fun _ _ => PyProof.Rows.sortedAll_old) (Nat.le_succ _) ⟨hlen, out, ep, each_vals he, he'⟩, rfl, q _ (I.hok.fresh (Nat.le_succ _))⟩
open LT
def rSortedX (K : PySem.W.Frag) : List V → Hp → VK → Prop := fun vs H Q => rSortedR K vs H Q ∨ rSortedT K vs H Q
theorem cr_sortedX {X : Cx} (hu : X.A.units + 64 < cLine) : CallR X (.builtin "sorted") (rSortedX X.K) := by
  rintro pins s σ H vs us Q I r (h | h)
  · exact cr_sortedR hu pins s σ H vs us Q I r h
  · exact cr_sortedT hu pins s σ H vs us Q I r h
def dSortX : List Tr → Om → PT' → Prop := fun us Ω P => ∃ (t : Tr) (rs : List (List Int)), us = [t] ∧ asS t Ω = some (rs.map rowT) ∧ (∀ r ∈ rs, r ≠ []) ∧ lstNew ((rs.mergeSort leR).map rowT) Ω P
section
variable {K : PySem.W.Frag}
theorem simc_sortX : SimC K (rSortedX K) dSortX := fun g H Ω vs us P Q o d ⟨t, rs, e, h, ne, p⟩ q => by
  subst e
  have lstc : asL t Ω = some (rs.map rowT) → rSortedX K vs H Q := fun h' => .inl (simc_sortR g H Ω vs [t] P Q o d ⟨t, rs, rfl, h', ne, p⟩ q)
  cases t with
  | lst us => exact lstc h
  | obj a => exact lstc h
  | tup us =>
    refine .inr ?_
    obtain ⟨v, _, rfl, d, rfl⟩ := d
    obtain ⟨a, xs, rfl, s, dl, z⟩ := at_T (ts := rs.map rowT) d h
    have len := dl.len
    rw [List.length_map] at z len
    have e1 : (xs.zip rs).map (·.1) = xs := List.map_fst_zip (Nat.le_of_eq len)
    have e2 : (xs.zip rs).map (·.2) = rs := List.map_snd_zip (Nat.le_of_eq len.symm)
    have hz := vdl_zip dl
    have e3 : ((xs.zip rs).mergeSort fun a b => leR a.2 b.2).map (·.2) = rs.mergeSort leR := by
      have := List.map_mergeSort (r := fun (a b : V × List Int) => leR a.2 b.2) (s := leR) (f := fun b : V × List Int => b.2) (l := xs.zip rs) (fun _ _ _ _ => rfl)
      rw [this, e2]
    refine ⟨a, xs.zip rs, rfl, by rw [e1]; exact s, fun b hb => ⟨?_, ne _ (hz b hb).2⟩, fun l n => ?_⟩
    · have := dp_of (rowT b.2) (hz b hb).1 (by show plainTs (b.2.map Tr.int) = true; exact plain_ints)
      rw [show toP (rowT b.2) = .tuple (toPs (b.2.map Tr.int)) from rfl, toPs_ints] at this
      exact this
    · have dv : VDL K g.dr (NM g Ω) H (((xs.zip rs).mergeSort fun a b => leR a.2 b.2).map (·.1)) ((rs.mergeSort leR).map rowT) := by
        rw [← e3]
        exact vdl_pairs fun b hb => (hz b (List.mem_mergeSort.mp hb)).1
      exact new_lst o dv (by rw [List.length_map, List.length_mergeSort]; exact z) p q n
  | _ => cases h
end
end LT

/-! texts joined; a list reversed; isinstance of what may be a cell; C(..) within a try; a default that is an empty tuple -/
namespace LT
open PySem PySem.Spec PyProof PyProof.Rows L2 LL
/-! ### sep.join(rows of texts) -/
def rJoin (K : PySem.W.Frag) : V → List V → Hp → VK → Prop := fun x xs H Q => ∃ a p, ∃ ys : List Str, x = .str a ∧ xs = [.ref p] ∧ (SqL K H p (ys.map V.str) ∨ SqT K H p (ys.map V.str)) ∧ (ys.map (·.length)).sum + ys.length * a.length ≤ 16777216 ∧ Q (.str (Txt.join a ys)) H
theorem pe_joinT {X : Cx} {K : PySem.W.Frag} {o e : PySem.Expr} {to te : TE} {apos pos : Pos} (hK : X.K = K) (ho : PE X o to) (he : PE X e te) (hs : starEach [e] X.env = [(false, eval e X.env)] := by rfl) (hbase : attributeBase o "join" X.env (eval o X.env) = eval o X.env := by rfl) (hline : (apos.endLine == pos.line) = true := by rfl) :
    PE X (.Call (.Attribute o "join" apos) [e] [] pos) (tM1 (rJoin K) to te) := by
  subst hK
  exact pe_join ho he hs hbase hline
section
variable {K : PySem.W.Frag} {G : List (Value × Option Addr × XV) → Prop} {E : EK}
theorem vdl_strs {dr : Option (Addr × Addr)} {F : Addr → Prop} {H : Hp} : ∀ {ns : List Str} {xs : List V}, VDL K dr F H xs (ns.map Tr.str) → xs = ns.map V.str
  | [], xs, h => h
  | n :: ns, xs, h => by
    obtain ⟨v, vs, rfl, h1, h2⟩ := h
    rw [vdl_strs h2, show v = V.str n from h1]
    rfl
def dJoin (dd de : DE) : DE := fun ρ Ω P PX => dd ρ Ω (fun x Ω1 => ∃ a, x = .str a ∧ de ρ Ω1 (fun y Ω2 => ∃ ys : List Str, asS y Ω2 = some (ys.map Tr.str) ∧ (ys.map (·.length)).sum + ys.length * a.length ≤ 16777216 ∧ P (.str (Txt.join a ys)) Ω2) PX) PX
theorem sim_join {to te : TE} {dd de : DE} (ho : SimE K G E to dd) (he : SimE K G E te de) : SimE K G E (tM1 (rJoin K) to te) (dJoin dd de) := fun g σ H ρ Ω P PX Q hG R p q qx =>
  ho g σ H ρ Ω _ PX _ hG R p (fun x Ω1 v H1 ⟨a, e, p1⟩ k1 o1 d1 => by
    subst e
    obtain rfl : v = .str a := d1
    refine ⟨⟨a, rfl⟩, he g σ H1 ρ Ω1 _ PX _ hG (R.keep k1 o1) p1 (fun y Ω2 u H2 ⟨ys, ey, hz, p2⟩ k2 o2 d2 => ?_) (qx.at k1)⟩
    obtain ⟨b, xs, rfl, s, dl, z⟩ := at_S o2 d2 ey
    obtain rfl := vdl_strs dl
    exact ⟨a, b, ys, rfl, rfl, s, hz, q _ Ω2 _ H2 p2 (k1.trans k2) o2 rfl⟩) qx
/-! ### xs[::-1], a list -/
def dRevL (de : DE) : DE := fun ρ Ω P PX => de ρ Ω (fun t Ω1 => ∃ ts, asL t Ω1 = some ts ∧ (ts.length ≤ 1000000 → lstNew ts.reverse Ω1 P)) PX
theorem pe_revLK {X : Cx} {K : PySem.W.Frag} {e : PySem.Expr} {te : TE} {k : Nat} {p1 p2 p3 pos : Pos} (hK : X.K = K) (he : PE X e te) : PE X (.Subscript e (.Slice none none (some (.UnaryOp .USub (.Constant (.int 1) k p1) p2)) p3) pos) (tRevL K te) := hK ▸ pe_revL he
theorem sim_revL {te : TE} {de : DE} (h : SimE K G E te de) : SimE K G E (tRevL K te) (dRevL de) := fun g σ H ρ Ω P PX Q hG R p q qx =>
  h g σ H ρ Ω _ PX _ hG R p (fun t Ω1 v H1 ⟨ts, e, p1⟩ k1 o1 d1 => by
    obtain ⟨a, xs, rfl, s, _, dl, z⟩ := at_L o1 d1 e
    exact ⟨a, xs, rfl, s, fun l n => new_lst o1 dl.rv (by rw [List.length_reverse]; exact z) (p1 z) (q.at k1) n⟩) qx
/-! ### isinstance(x, (list, tuple)) of data, of a cell, of an own object -/
def dIsiA (K : PySem.W.Frag) : List Tr → Om → PT' → Prop := fun us Ω P => dIsiT us Ω P ∨
  (∃ x C ns, us = [x, .tup (ns.map Tr.ty)] ∧ ns ≠ [] ∧ OwnC K C ∧ Cls K C ∧ (insP C x Ω).isSome = true ∧ (∀ n ∈ ns, PySem.W.kitOne K (.ref C) (.type n) = some false) ∧ P (.bl false) Ω) ∨
  (∃ a ts ns, us = [.obj a, .tup (ns.map Tr.ty)] ∧ ns ≠ [] ∧ Ω a = some (.lst ts) ∧ (∀ n ∈ ns, n ∈ tyNames) ∧ P (.bl (ns.any fun n => isK "list" n)) Ω)
theorem kit_none {t : Value} : ∀ {ns : List String}, (∀ n ∈ ns, PySem.W.kitOne K t (.type n) = some false) → PySem.W.kitAny K t (ns.map Value.type) = some false
  | [], _ => rfl
  | n :: ns, h => by
    refine kitAny_cons (h n List.mem_cons_self) (fun _ => ?_) fun hb => by cases hb
    exact kit_none fun m hm => h m (List.mem_cons_of_mem _ hm)
theorem simc_isiA : SimC K (rIsiT K) (dIsiA K) := fun g H Ω vs us P Q o d p q => by
  rcases p with p | ⟨x, C, ns, e, hne, oc, cl, hi, hk, p⟩ | ⟨b, ts, ns, e, hne, hc, hn, p⟩
  · exact simc_isiT g H Ω vs us P Q o d p q
  · subst e
    obtain ⟨v, _, rfl, d1, u, _, rfl, d2, rfl⟩ := d
    obtain ⟨a, ea⟩ := Option.isSome_iff_exists.mp hi
    obtain ⟨dx, ns', ts', rfl, hc⟩ := insP_eq ea
    obtain rfl : v = .ref a := d1
    obtain ⟨ys, h1, h2, h3⟩ := (o.ce a _ hc).2
    obtain ⟨tp, xs, rfl, h, dl, _⟩ := d2
    rcases h with ⟨_, h⟩ | h
    · exact ⟨.ref a, tp, xs, .ref C, ns.map Value.type, false, rfl, h, clsv_all dl, .base (.ins h1 cl oc.ha oc.hn oc.htk oc.hm), kit_none hk, q _ Ω _ H p .refl o rfl⟩
    · exfalso
      cases ns with
      | nil => exact hne rfl
      | cons n ns =>
        obtain ⟨w, ws, rfl, h1, _⟩ := dl
        have h2 := h.2
        rw [show w = V.ty n from h1] at h2
        cases (show false = true from h2)
  · subst e
    obtain ⟨v, _, rfl, d1, u, _, rfl, d2, rfl⟩ := d
    obtain rfl : v = .ref b := d1
    obtain ⟨ys, h1, h2, h3⟩ := (o.ce b _ hc).2
    obtain ⟨tp, xs, rfl, h, dl, _⟩ := d2
    rcases h with ⟨_, h⟩ | h
    · exact ⟨.ref b, tp, xs, .type "list", ns.map Value.type, _, rfl, h, clsv_all dl, .base (.lst h1), kit_all (x := .lst []) rfl hn, q _ Ω _ H p .refl o rfl⟩
    · exfalso
      cases ns with
      | nil => exact hne rfl
      | cons n ns =>
        obtain ⟨w, ws, rfl, h1, _⟩ := dl
        have h2 := h.2
        rw [show w = _ from h1] at h2
        cases h2
end
/-! ### C(..) within a try -/
def tMakeS (C : Addr) (sp : Sp) (dvs : List V) (E : EK) (t : TA) : TE := fun σ H Q => t σ H fun vs H1 => ∀ x dx, H1 x = none → H1 dx = none → dx ≠ x →
  sp (.ref x :: (vs ++ dvs)) (upd (upd H1 dx (.own x)) x (.ins C dx [])) (fun v H2 => v = .non ∧ Q (.ref x) H2) (E σ)
section
variable {X : Cx} {CX : CXT} {k : Nat} {f C : Addr} {fd : FuncData} {ps : List Str} {sp : Sp} {E : EK} {x : Str} {dvs : List V} {ds : List Value} {p pos : Pos} {e : PySem.Expr} {es : List PySem.Expr} {t : TA}
theorem run_makeS {pins : List (Addr × Obj)} {σ : L2.St} {H : Hp} {s : Shared} {Q : VK} {us : List Value} {vs : List V} (M : Mk X.K C f) (F : FnOk X.prog X.w X.K X.mg X.base CX k f fd ps sp) (hr : Room (k + 1) X.A) (hb : Binds X.K fd ps ds) (hd : Vals dvs ds)
    (hx : PassesAt CX X σ (E σ)) (I : Inv X pins σ H s) (r : Vals vs us)
    (h : ∀ x dx, H x = none → H dx = none → dx ≠ x → sp (.ref x :: (vs ++ dvs)) (upd (upd H dx (.own x)) x (.ins C dx [])) (fun v H2 => v = .non ∧ Q (.ref x) H2) (E σ)) :
    wpAny (model X.prog X.w) X.A (call (.ref C) us) (EP X pins σ Q) X.xe s := by
  have hq := h (s.heap.objs.size + 1) s.heap.objs.size (I.hok.fresh (Nat.le_succ _)) (I.hok.fresh (Nat.le_refl _)) (Nat.ne_of_lt (Nat.lt_succ_self _))
  have I2 := Inv.made (C := C) I
  have r2 : Vals (V.ref (s.heap.objs.size + 1) :: (vs ++ dvs)) (Value.ref (s.heap.objs.size + 1) :: (us ++ ds)) := .cons rfl (r.append hd)
  have hl : (Value.ref (s.heap.objs.size + 1) :: us ++ ds).length = ps.length := by
    have e := r2.length
    rw [F.len _ _ _ _ hq] at e
    exact e.symm
  refine wpAny_call (make_map (f := f) I.kIn M.makes M.init (beq_iff_eq.mp M.fn) (codeAny_mono (F.run _ X.stack _ _ ⟨Value.ref (s.heap.objs.size + 1) :: us, []⟩ (Value.ref (s.heap.objs.size + 1) :: (us ++ ds)) _ _ (E σ) (hr.make C us [])
    (I2.env0.make C us []) (hb _ (Value.ref (s.heap.objs.size + 1) :: us) I2.kIn hl) r2 hq) fun r s' hq' => ?_))
  cases r with
  | error e => exact hx pins _ _ e s' I2 hq'
  | ok fl =>
    cases fl with
    | ret u =>
      obtain ⟨v, H', I3, rv, ev, q3⟩ := I2.after hq'
      subst ev
      exact ⟨rv, ⟨V.ref (s.heap.objs.size + 1), H', I3, rfl, q3⟩⟩
    | next => exact False.elim hq'
    | brk => exact False.elim hq'
    | cont => exact False.elim hq'
theorem pe_makeS (M : Mk X.K C f) (F : FnOk X.prog X.w X.K X.mg X.base CX k f fd ps sp) (hr : Room (k + 1) X.A) (hg : Gl X x) (hm : X.mg x = some (.ref C)) (hb : Binds X.K fd ps ds) (hd : Vals dvs ds) (hx : ∀ σ, PassesAt CX X σ (E σ))
    (ha : PA X (e :: es) t) (hdb : (x == ("__debug__" : Str)) = false := by decide) (he : starEach (e :: es) X.env = (false, eval e X.env) :: starEach es X.env := by rfl) (hpl : (backTo pos (starEach es X.env)).any (·.1) = false := by rfl) :
    PE X (.Call (.Name x p) (e :: es) [] pos) (tMakeS C sp dvs E t) := by
  refine ⟨fun pins s σ H Q I h => ?_⟩
  refine wpAny_Call_Name_kw (ld_glob I hg hm ?_ hdb)
  refine PySem.W.callWith_K (h₀ := X.base) I.ok.mod.kin M.kp (thn (ha.run pos pins s σ H _ I h) fun us s1 ⟨vs, H1, I1, r, q⟩ => ⟨I1.kIn, ?_⟩) he hpl
  exact run_makeS M F hr hb hd (hx σ) I1 r q
end
section
variable {K : PySem.W.Frag} {G : List (Value × Option Addr × XV) → Prop} {E : EK}
theorem sim_makeS {C : Addr} {P : Pw} {n : Nat} {dvs : List V} {dts : List Tr} {ta : TA} {da : DA} (hd : DfOk K dvs dts) (ha : SimA K G E ta da) : SimE K G E (tMakeS C (spD K P n) dvs E ta) (dMake C P n dts da) := fun g σ H ρ Ω Q PX QQ hG R h q qx =>
  ha g σ H ρ Ω _ PX _ hG R h (fun us Ω1 vs H1 ⟨hl, p⟩ k1 o1 d1 x dx nx ndx ne => by
    have npd : Keep g H1 Ω1 (upd H1 dx (.own x)) Ω1 := .new ndx
    have o2 := o1.new (o := .own x) ndx
    have nx2 : upd H1 dx (.own x) x = none := by rw [upd_ne (Ne.symm ne)]; exact nx
    have np : ¬ g.pr x := fun z => by obtain ⟨u, e⟩ := o1.pt x z; rw [nx] at e; cases e
    have kc : Keep g (upd H1 dx (.own x)) Ω1 (upd (upd H1 dx (.own x)) x (.ins C dx [])) (put Ω1 x (.ins C dx [] [])) := .cell nx2
    have o3 : OmOk K g (upd (upd H1 dx (.own x)) x (.ins C dx [])) (put Ω1 x (.ins C dx [] [])) := o2.cell nx2 np ⟨[], by rw [upd_same]; rfl, rfl, rfl⟩
    have kk := (k1.trans npd).trans kc
    have d3 := d1.keep (npd.trans kc)
    refine ⟨g, put Ω1 x (.ins C dx [] []), .obj x :: (us ++ dts), _, PX, by simp only [List.length_cons, List.length_append]; omega, ⟨.ref x, vs ++ dvs, rfl, rfl, vdl_app (hd g _ _) d3⟩, o3, p x dx (o1.fresh nx), fun t Ω2 v H2 ⟨e, pq⟩ k4 o4 d4 => ?_, qx.at kk⟩
    subst e
    exact ⟨d4, q _ _ _ _ pq (kk.trans k4) o4 rfl⟩) qx
/-! ### a default that is an empty tuple -/
theorem df_tup0 {a : Addr} (h : ∀ H, SqT K H a []) : DfOk K [V.ref a] [.tup []] := fun g Ω H => ⟨.ref a, [], rfl, ⟨a, [], rfl, .inr ⟨h, rfl⟩, rfl, Nat.zero_le _⟩, rfl⟩
/-- a comprehension without a condition, of whose items a fact is known -/
theorem lc_B {di : DI} {items : List Tr} {st : Om → Prop} {ρ : En} {Ω : Om} {dg : DG} {del : DE} {vs : List Nat} {P : PT'} {PX : PXt} (hd : ∀ R : List Tr → (Om → Prop) → Om → Prop, (items.length ≤ 1000000 → R items st Ω) → di ρ Ω R PX) (hst : st Ω) (A : Tr → Prop)
    (hf : ∀ x ∈ items, ∀ (Q : PT') (N : Om → Prop), (∀ y, A y → Q y Ω) → dg x (wipeT ρ vs) Ω (fun ρ2 Ω2 => dYes ρ2 Ω2 (fun k Ω3 => if k = true then del ρ2 Ω3 Q nox else N Ω3) nox) nox) (h : ∀ us : List Tr, (∀ y ∈ us, A y) → us.length = items.length → items.length ≤ 1000000 → lstNew us Ω P) : dLc di dg dYes del vs ρ Ω P PX :=
  hd _ fun hz => by
    refine ⟨hz, fun i acc Ω' => Ω' = Ω ∧ (∀ y ∈ acc, A y) ∧ acc.length = i, ⟨rfl, fun _ h => (List.not_mem_nil h).elim, rfl⟩, fun i acc Ω' e => e.1 ▸ hst, ?_, ?_⟩
    · rintro i x acc Ω' hx ⟨rfl, ha, hl⟩
      refine hf x (List.mem_of_getElem? hx) (fun y Ω4 => Ω4 = Ω' ∧ (∀ z ∈ acc ++ [y], A z) ∧ (acc ++ [y]).length = i + 1) (fun Ω3 => Ω3 = Ω' ∧ (∀ y ∈ acc, A y) ∧ acc.length = i + 1) (fun y hy => ⟨rfl, fun z hz => ?_, ?_⟩)
      · rcases List.mem_append.mp hz with hz | hz
        · exact ha z hz
        · rw [List.mem_singleton.mp hz]; exact hy
      · rw [List.length_append, hl]
        rfl
    · rintro acc Ω' ⟨rfl, ha, hl⟩
      exact h acc ha hl hz
end
end LT

/-! == and != by an own __eq__ -/
namespace LT
open PySem PySem.Spec PyProof PyProof.Rows L2 LL
section
variable {prog : Program} {w : World} {A : Around} {E : Value → Shared → Prop} {s : Shared} {K : PySem.W.Frag} {x C L f : Addr} {h₀ : Heap} {m : Str → Option Value} {ox : Obj} {od : Option Obj} {b tb : Value}
open PySem.W
theorem check_ne {M : Model} {Q : Unit → Shared → Prop} (X : K.In s.heap) (I : InstAt s.heap x ox C od) (hm : mroIn K C (.type "object") = some true) (h : Q () s) : wpAny M A (checkBuiltinCall "object.__ne__" ⟨[.ref x, b], []⟩) Q E s := by
  obtain ⟨hh, g, dr, t, os⟩ := s
  have L0 := I.type (M := M)
  have L1 := looks_mroIn (M := M) X hm
  simp only [checkBuiltinCall, F.cmpKind_ne, F.cmpSplit_ne]
  refine wpAny_bind ?_
  unfold isInstance
  repeat lk
  exact h
theorem ne_bind (self : Value) : bindSpecial (.builtin "object.__ne__") self = pure (.builtin "object.__ne__", [self]) := F.slot_object_ne.bind self
theorem ne_special {M : Model} {args : List Value} {Q : Option Value → Shared → Prop} (X : K.In s.heap) (I : InstAt s.heap x ox C od) (hs : findIn K (.ref C) "__ne__" = some (some (.builtin "object.__ne__")))
    (h : wpAny M A (call (.builtin "object.__ne__") (.ref x :: args)) (fun v => Q (some v)) E s) : wpAny M A (callSpecialIfBound? (.ref x) "__ne__" args) Q E s := by
  simp only [callSpecialIfBound?, bindSpecialIfBound?]
  refine wpAny_holding (wpAny_bind (wpAny_bind (wpAny_bind (I.type.here ((looks_findIn X hs).here ?_)))))
  simp only [ne_bind]
  refine wpAny_bind (wpAny_askSetting (wpAny_ite ?_))
  have fin : wpAny M A (call (.builtin "object.__ne__") ([.ref x] ++ args) >>= fun v => pure (some v)) Q E s := wpAny_bind (wpAny_mono h (fun v s' h' => wpAny_pure h') fun _ _ h' => h')
  split
  · exact wpAny_bind (wpAny_pure (wpAny_pure (by exact fin)))
  · exact wpAny_tryCatch (wpAny_bind (wpAny_pure (wpAny_pure (by exact fin))))
theorem ne_body {Q : Fin → Shared → Prop} (hu : A.units < cLine) (X : K.In s.heap) (I : InstAt s.heap x ox C od) (hs : findIn K (.ref C) "__eq__" = some (some (.ref f))) (hf : isFn K (.ref f) = true)
    (h : wpAny (model prog w) A (call (.ref f) [.ref x, b]) (fun v s' => ∃ r, v = .bool r ∧ Q (.done (.ret (.bool (!r)))) s') E s) : wpAny (model prog w) A (Builtin.«object.__ne__» ⟨[.ref x, b], []⟩) Q E s := by
  unfold Builtin.«object.__ne__»
  repeat (first
    | with_reducible refine wpAny_cRoomFor hu ?_
    | (refine wpAny_bind (m := callSpecialIfBound? (.ref x) (Str.ofString "__eq__") [b])
        (ifBound_K X I hs hf (wpAny_mono h (fun r s' hr => by
          obtain ⟨b, rfl, hq⟩ := hr
          repeat (first | exact hq | exact wpAny_pure hq | exact wpAny_truthy_bool hq | (refine wpAny_bind (m := truthy (.bool _)) (wpAny_truthy_bool ?_)) | wp_step)) fun _ _ e => e)))
    | wp_step)
theorem ne_K {Q : Value → Shared → Prop} (hu : A.units + 1 < cLine) (F : Fr h₀ L s.heap m) (X₀ : K.In h₀) (I : InstAt s.heap x ox C od) (hb : Looks (model prog w) s.heap (typeOf b) tb) (hn : notFirst K C tb = true)
    (hne : findIn K (.ref C) "__ne__" = some (some (.builtin "object.__ne__"))) (hs : findIn K (.ref C) "__eq__" = some (some (.ref f))) (hf : isFn K (.ref f) = true) (hm : mroIn K C (.type "object") = some true)
    (h : wpAny (model prog w) A.in1 (call (.ref f) [.ref x, b]) (fun v s' => ∃ r, v = .bool r ∧ Q (.bool (!r)) s') E s) : wpAny (model prog w) A (richCompare .NotEq (.ref x) b) Q E s := by
  have X := X₀.keeps F.keep
  have one : wpAny (model prog w) A (tryCompare (.ref x) "__ne__" b) (fun r s' => ∃ v, r = some v ∧ Q v s') E s := by
    unfold tryCompare
    refine wpAny_bind (ne_special X I hne (wpAny_call (codeAny_call_builtin PySem.F.slot_object_ne.plain PySem.F.cmpEntry_ne (check_ne X I hm (ne_body (A := A.in1) (by exact hu) X I hs hf (wpAny_mono h (fun v s' hv => ?_) fun _ _ e => e))))))
    obtain ⟨r, rfl, hq⟩ := hv
    first | exact ⟨r, rfl, wpAny_pure ⟨_, rfl, hq⟩⟩ | exact ⟨r, rfl, wpAny_pure (wpAny_pure ⟨_, rfl, hq⟩)⟩ | exact ⟨r, rfl, ⟨_, rfl, hq⟩⟩
  unfold richCompare
  simp only [oneThing_ref]
  refine wpAny_holding (wpAny_bind (wpAny_cRoomFor (Nat.lt_of_succ_lt hu) ?_))
  rw [cmpInfo_NotEq]
  dsimp only
  refine wpAny_bind (I.type.here (wpAny_bind (hb.here ?_)))
  split
  · rename_i q
    have e : subIn K tb (.ref C) = some false := by
      rcases Bool.or_eq_true_iff.mp hn with e | e
      · rw [beq_iff_eq.mp e] at q; simp at q
      · exact beq_iff_eq.mp e
    refine wpAny_bind ((looks_subIn X e).here ?_)
    simp only [Bool.false_eq_true, if_false]
    refine wpAny_bind (wpAny_mono one (fun r s' z => ?_) fun _ _ e => e)
    obtain ⟨v, rfl, hq⟩ := z
    exact wpAny_pure hq
  · refine wpAny_bind (wpAny_pure ?_)
    simp only [Bool.false_eq_true, if_false]
    refine wpAny_bind (wpAny_mono one (fun r s' z => ?_) fun _ _ e => e)
    obtain ⟨v, rfl, hq⟩ := z
    exact wpAny_pure hq
end
section
variable {X : Cx} {CX : CXT} {k : Nat} {f C : Addr} {fd : FuncData} {ps : List Str} {sp : Sp} {E : XK}
/-- o == y, o != y, o of an own class with an own __eq__ that tells a bool; y of a known kind -/
def rOwnEq (neg : Bool) (K : PySem.W.Frag) (C : Addr) (sp : Sp) (E : XK) : R2 := fun x y H Q => ∃ a dx fs tb, x = .ref a ∧ H a = some (.ins C dx fs) ∧ TyX K H y tb ∧ PySem.W.notFirst K C tb = true ∧ sp [.ref a, y] H (fun v H' => ∃ b, v = .bl b ∧ Q (.bl (if neg then !b else b)) H') E
theorem op_ownEq (hm : Meth X.K C "__eq__" f) (F : FnOk X.prog X.w X.K X.mg X.base CX k f fd ps sp) (hr : Room (k + 1) X.A) (hb : Binds X.K fd ps []) (hx : Passes CX X E) : OpR X (compareOp .Eq) (rOwnEq false X.K C sp E) := by
  rintro pins s σ H x y v u Q I rx ry ⟨a, dx, fs, tb, rfl, ha, ty, hn, h⟩
  obtain rfl : v = Value.ref a := rx
  obtain ⟨mA, J, _⟩ := ins_get I.hok ha
  obtain ⟨od, J, _⟩ := J.look
  obtain ⟨m, hF⟩ := I.fr
  obtain ⟨P, Z, p, _⟩ := kit_of I ry ty
  refine PySem.W.cmp_K (op := .Eq) (by have := hr.units; omega) hF I.ok.mod.kin J (Z.ty _ _ I.kIn p) hn hm.at_ hm.fn (wpAny_mono (run_fn (us := [.ref a, u]) (vs := [.ref a, y]) F (hr.mono (by omega)) hb .nil hx I (.cons rfl (.cons ry .nil)) h) (fun r s' hq => ?_) fun _ _ z => z)
  obtain ⟨z, H', I', rz, b, rfl, q⟩ := hq
  obtain rfl : r = Value.bool b := rz
  exact ⟨.bl b, H', I', rfl, q⟩
theorem op_ownNe (hne : PySem.W.findIn X.K (.ref C) "__ne__" = some (some (.builtin "object.__ne__"))) (hmr : PySem.W.mroIn X.K C (.type "object") = some true) (hm : Meth X.K C "__eq__" f) (F : FnOk X.prog X.w X.K X.mg X.base CX k f fd ps sp) (hr : Room (k + 1) X.A) (hb : Binds X.K fd ps []) (hx : Passes CX X E) : OpR X (compareOp .NotEq) (rOwnEq true X.K C sp E) := by
  rintro pins s σ H x y v u Q I rx ry ⟨a, dx, fs, tb, rfl, ha, ty, hn, h⟩
  obtain rfl : v = Value.ref a := rx
  obtain ⟨mA, J, _⟩ := ins_get I.hok ha
  obtain ⟨od, J, _⟩ := J.look
  obtain ⟨m, hF⟩ := I.fr
  obtain ⟨P, Z, p, _⟩ := kit_of I ry ty
  refine ne_K (by have := hr.units; omega) hF I.ok.mod.kin J (Z.ty _ _ I.kIn p) hn hne hm.at_ hm.fn hmr (wpAny_mono (run_fn1 (us := [.ref a, u]) (vs := [.ref a, y]) (Sub.in1 ⟨hr, rfl⟩) F hb hx I (.cons rfl (.cons ry .nil)) h) (fun r s' hq => ?_) fun _ _ z => z)
  obtain ⟨z, H', I', rz, b, rfl, q⟩ := hq
  obtain rfl : r = Value.bool b := rz
  exact ⟨b, rfl, .bl (!b), H', I', rfl, q⟩
end
/-! ### over trees -/
section
variable {K : PySem.W.Frag}
/-- what may stand on the other side -/
def sideT (K : PySem.W.Frag) (C : Addr) (y : Tr) (Ω : Om) : Prop := (insP C y Ω).isSome = true ∨ (kindT y).isSome = true
def dOwnEq (neg : Bool) (K : PySem.W.Frag) (C : Addr) (P : Pw) : Tr → Tr → Om → PT' → Prop := fun x y Ω Q => ∃ a dx ns ts, x = .obj a ∧ Ω a = some (.ins C dx ns ts) ∧ OwnC K C ∧ Cls K C ∧ sideT K C y Ω ∧ P [.obj a, y] Ω (fun t Ω' => ∃ b, t = .bl b ∧ Q (.bl (if neg then !b else b)) Ω') nox
theorem not_first {C : Addr} {n : String} (h : PySem.W.kitOne K (.type n) (.ref C) = some false) : PySem.W.notFirst K C (.type n) = true := by
  unfold PySem.W.kitOne at h
  rw [if_neg (by simp)] at h
  unfold PySem.W.kitCls at h
  simp only at h
  split at h
  · unfold PySem.W.notFirst
    rw [h]
    simp
  · cases h
theorem simr_ownEq {neg : Bool} {C : Addr} {P : Pw} : SimR K (rOwnEq neg K C (spD K P 2) E0) (dOwnEq neg K C P) := fun g H Ω x y tx ty Q QQ o d1 d2 ⟨a, dx, ns, ts, e, hc, oc, cl, hs, p⟩ q => by
  subst e
  obtain rfl : x = .ref a := d1
  obtain ⟨xs, h1, h2, h3⟩ := (o.ce a _ hc).2
  have hside : ∃ tb, TyX K H y tb ∧ PySem.W.notFirst K C tb = true := by
    rcases hs with hs | hs
    · obtain ⟨b, eb⟩ := Option.isSome_iff_exists.mp hs
      obtain ⟨dy, ms, us, rfl, hd⟩ := insP_eq eb
      obtain rfl : y = .ref b := d2
      obtain ⟨ys, k1, k2, k3⟩ := (o.ce b _ hd).2
      exact ⟨.ref C, .base (.ins k1 cl oc.ha oc.hn oc.htk oc.hm), by unfold PySem.W.notFirst; simp⟩
    · obtain ⟨k, ek⟩ := Option.isSome_iff_exists.mp hs
      exact ⟨.type k, tyx_of d2 ek, not_first (oc.no k (kind_mem ek))⟩
  obtain ⟨tb, ty, hn⟩ := hside
  refine ⟨a, dx, _, tb, rfl, h1, ty, hn, g, Ω, [.obj a, _], _, nox, rfl, ⟨.ref a, [y], rfl, rfl, ⟨y, [], rfl, d2, rfl⟩⟩, o, p, ?_, AfterX.nox⟩
  intro t Ω' v H' hp k1 o1 dv
  obtain ⟨b, rfl, hq⟩ := hp
  obtain rfl : v = .bl b := dv
  exact ⟨b, rfl, q _ Ω' _ H' hq k1 o1 rfl⟩
end
/-! ### isinstance(x, int) of data, of an own object -/
section
variable {K : PySem.W.Frag}
def dIsiW (K : PySem.W.Frag) : List Tr → Om → PT' → Prop := fun us Ω P => dIsi us Ω P ∨ ∃ x C n, us = [x, .ty n] ∧ OwnC K C ∧ Cls K C ∧ (insP C x Ω).isSome = true ∧ PySem.W.kitOne K (.ref C) (.type n) = some false ∧ P (.bl false) Ω
theorem simc_isiW : SimC K (rIsi K) (dIsiW K) := fun g H Ω vs us P Q o d p q => by
  rcases p with p | ⟨x, C, n, e, oc, cl, hi, hk, p⟩
  · exact simc_isi g H Ω vs us P Q o d p q
  · subst e
    obtain ⟨v, _, rfl, d1, u, _, rfl, d2, rfl⟩ := d
    obtain rfl : u = .ty n := d2
    obtain ⟨a, ea⟩ := Option.isSome_iff_exists.mp hi
    obtain ⟨dx, ns, ts, rfl, hc⟩ := insP_eq ea
    obtain rfl : v = .ref a := d1
    obtain ⟨xs, h1, h2, h3⟩ := (o.ce a _ hc).2
    exact ⟨.ref a, .ty n, .ref C, .type n, false, rfl, .ty n, .base (.ins h1 cl oc.ha oc.hn oc.htk oc.hm), hk, q _ Ω _ H p .refl o rfl⟩
end
/-! ### l[a::k], l a list -/
def stepX {α : Type} (xs : List α) (lo : Option Int) (k : Int) : List α := (sliceRange (sliceBounds lo none (some k) xs.length).1 (sliceBounds lo none (some k) xs.length).2.1 (sliceBounds lo none (some k) xs.length).2.2).filterMap (xs[·]?)
theorem vals_pick {xs : List V} {us : List Value} (r : Vals xs us) : ∀ ix : List Nat, Vals (ix.filterMap (xs[·]?)) (ix.filterMap (us[·]?))
  | [] => .nil
  | i :: ix => by
    have ih := vals_pick r ix
    cases e : xs[i]? with
    | none =>
      rw [List.filterMap_cons_none e, List.filterMap_cons_none (r.none_of e)]
      exact ih
    | some x =>
      obtain ⟨u, eu, ru⟩ := r.get e
      rw [List.filterMap_cons_some e, List.filterMap_cons_some eu]
      exact .cons ru ih
theorem vdl_pick {K : PySem.W.Frag} {dr : Option (Addr × Addr)} {F : Addr → Prop} {H : Hp} {xs : List V} {ts : List Tr} (d : VDL K dr F H xs ts) : ∀ ix : List Nat, VDL K dr F H (ix.filterMap (xs[·]?)) (ix.filterMap (ts[·]?))
  | [] => rfl
  | i :: ix => by
    have ih := vdl_pick d ix
    cases e : ts[i]? with
    | none =>
      have e' : xs[i]? = none := by
        rw [List.getElem?_eq_none_iff] at e ⊢
        rw [d.len]; exact e
      rw [List.filterMap_cons_none e, List.filterMap_cons_none e']
      exact ih
    | some x =>
      obtain ⟨u, eu, ru⟩ := d.get' e
      rw [List.filterMap_cons_some e, List.filterMap_cons_some eu]
      exact ⟨_, _, rfl, ru, ih⟩
theorem step_len {α : Type} {xs : List α} {lo : Option Int} {k : Int} (hk : 0 < k) : (stepX xs lo k).length ≤ xs.length := by
  unfold stepX
  refine Nat.le_trans (List.length_filterMap_le _ _) (sliceRange_length_le _ _ _ _ (fun _ => ?_) fun z => ?_)
  · unfold sliceBounds
    simp only [Option.getD_some, gt_iff_lt, hk, if_true]
    cases lo with
    | none => simp
    | some i => simp only; omega
  · exfalso
    exact z (by unfold sliceBounds; simpa using hk)
def tStep (K : PySem.W.Frag) (te : TE) (lo : Option Int) (k : Int) : TE := fun σ H Q => te σ H fun x H1 => ∃ a xs, x = .ref a ∧ SqL K H1 a xs ∧ ∀ p, H1 p = none → Q (.ref p) (upd H1 p (.lst (stepX xs lo k)))
theorem pe_step {X : Cx} {K : PySem.W.Frag} {e : PySem.Expr} {te : TE} {lo : Option Int} {el : Option PySem.Expr} {tl : TO} {k : Int} {j : Nat} {p1 p3 pos : Pos} (hK : X.K = K) (hk : 0 < k) (he : PE X e te) (hl : PO X el tl) (hlo : ∀ σ H (Q : Option Int → Hp → Prop), Q lo H → tl σ H Q) : PE X (.Subscript e (.Slice el none (some (.Constant (.int k) j p1)) p3) pos) (tStep K te lo k) := by
  subst hK
  refine ⟨fun pins s σ H Q I h => Subscript_ (thn (he.run pins s σ H _ I h) fun v s1 ⟨x, H1, I1, r1, a, xs, ex, hx, q⟩ => ?_)⟩
  subst ex
  cases r1
  have hst : PO X (some (.Constant (.int k) j p1)) (tPart (tC (.int k))) := po_some pe_int
  refine wpAny_Slice (thn (hl.run pins s1 σ H1 (fun o G => o = lo ∧ G = H1) I1 (hlo _ _ _ ⟨rfl, rfl⟩)) fun v1 s2 ⟨l, H2, I2, q1, el, e2⟩ => ?_)
  subst el e2
  refine thn (po_none.run pins s2 σ H2 (fun o G => o = none ∧ G = H2) I2 ⟨rfl, rfl⟩) fun v2 s3 ⟨u, H3, I3, q2, eu, e3⟩ => ?_
  subst eu e3
  refine thn (hst.run pins s3 σ H3 (fun o G => o = some k ∧ G = H3) I3 ⟨k, rfl, rfl, rfl⟩) fun v3 s4 ⟨o, H4, I4, q3, eo, e4⟩ => ?_
  subst eo e4
  have J : Inv X pins σ H4 { s4 with heap := s4.heap.push { cls := .type "slice", data := .fields #[v1, v2, v3] } } := I4.kept (t' := s4.toks) fun b ob z => Heap.get?_push_of_some _ z
  obtain ⟨its, r, ht, hz⟩ := J.list hx
  have hlen := r.length
  show wpAny (model X.prog X.w) X.A (subscriptTail e (.Slice _ none (some (.Constant (.int k) j p1)) p3) (.ref a) (.ref s4.heap.objs.size)) (EP X pins σ Q) X.xe { s4 with heap := s4.heap.push { cls := .type "slice", data := .fields #[v1, v2, v3] } }
  refine tail_any (ops := [.ref a, .ref s4.heap.objs.size]) ht.isList.typeIs (PySem.slot_list_getitem.lookup) ?_ (by with_unfolding_all rfl)
  refine wpAny_getItem_list_slice ht.isList (Heap.IsSliceOf.new _ v1 v2 v3) q1 q2 q3 (fun z => by cases z; omega) ?_ (by rw [List.size_toArray]; omega)
  have e5 : slicePick its.toArray l none (some k) = (stepX its l k).toArray := by
    unfold slicePick stepX
    rw [List.size_toArray]
    congr 1
    congr 1
    funext i
    simp
  rw [e5]
  have e6 : Vals (stepX xs l k) (stepX its l k) := by
    unfold stepX
    rw [hlen]
    exact vals_pick r _
  refine ⟨.ref _, _, J.laid (t' := s4.toks) (o := .lst (stepX xs l k)) (fun b ob z => Heap.get?_push_of_some _ z) (Nat.le_refl _) ?_, rfl, q _ (J.hok.fresh (Nat.le_refl _))⟩
  exact ⟨by have := step_len (xs := xs) (lo := l) hk; omega, _, 0, e6, Heap.get?_push_size _ rfl⟩
section
variable {K : PySem.W.Frag} {G : List (Value × Option Addr × XV) → Prop} {E : EK}
def dStep (lo : Option Int) (k : Int) (de : DE) : DE := fun ρ Ω P PX => de ρ Ω (fun t Ω1 => ∃ ts, asL t Ω1 = some ts ∧ 0 < k ∧ (ts.length ≤ 1000000 → lstNew (stepX ts lo k) Ω1 P)) PX
theorem sim_step {te : TE} {de : DE} {lo : Option Int} {k : Int} (h : SimE K G E te de) : SimE K G E (tStep K te lo k) (dStep lo k de) := fun g σ H ρ Ω P PX Q hG R p q qx =>
  h g σ H ρ Ω _ PX _ hG R p (fun t Ω1 v H1 ⟨ts, e, hk, p1⟩ k1 o1 d1 => by
    obtain ⟨a, xs, rfl, s, _, dl, z⟩ := at_L o1 d1 e
    have hl := dl.len
    have d2 : VDL K g.dr (NM g Ω1) H1 (stepX xs lo k) (stepX ts lo k) := by
      unfold stepX
      rw [hl]
      exact vdl_pick dl _
    exact ⟨a, xs, rfl, s, fun l n => new_lst o1 d2 (by have := step_len (xs := ts) (lo := lo) hk; omega) (p1 z) (q.at k1) n⟩) qx
end
theorem fm_some {α β : Type} {f : α → Option β} {g : α → β} : ∀ {l : List α}, (∀ i ∈ l, f i = some (g i)) → l.filterMap f = l.map g
  | [], _ => rfl
  | a :: l, h => by
    rw [List.filterMap_cons_some (h a List.mem_cons_self), List.map_cons, fm_some fun i hi => h i (List.mem_cons_of_mem _ hi)]
/-- every second item -/
theorem step_even {α : Type} {m : Nat} {f : Nat → α} : stepX ((List.range (2 * m)).map f) none 2 = (List.range m).map fun i => f (2 * i) := by
  unfold stepX sliceBounds sliceRange
  simp only [List.length_map, List.length_range, Option.getD_some]
  have e : (((2 * m : Nat) : Int) - 0 + 2 - 1) / 2 = m := by omega
  by_cases hm : m = 0
  · subst hm; simp
  · simp only [gt_iff_lt, show (0 : Int) < 2 by decide, if_true]
    rw [if_pos (by omega), e, Int.toNat_natCast, List.filterMap_map]
    refine fm_some fun i hi => ?_
    have hi' := List.mem_range.mp hi
    simp only [Function.comp]
    rw [show ((0 : Int) + 2 * (i : Int)).toNat = 2 * i by omega, List.getElem?_map, List.getElem?_range (by omega)]
    rfl
theorem step_odd {α : Type} {m : Nat} {f : Nat → α} : stepX ((List.range (2 * m)).map f) (some 1) 2 = (List.range m).map fun i => f (2 * i + 1) := by
  unfold stepX sliceBounds sliceRange
  simp only [List.length_map, List.length_range, Option.getD_some]
  by_cases hm : m = 0
  · subst hm; simp
  · have e0 : max (0 : Int) (min (if (1 : Int) < 0 then 1 + ((2 * m : Nat) : Int) else 1) ((2 * m : Nat) : Int)) = 1 := by
      rw [if_neg (by decide)]
      omega
    have e : (((2 * m : Nat) : Int) - 1 + 2 - 1) / 2 = m := by omega
    simp only [gt_iff_lt, show (0 : Int) < 2 by decide, if_true, e0]
    rw [if_pos (by omega), e, Int.toNat_natCast, List.filterMap_map]
    refine fm_some fun i hi => ?_
    have hi' := List.mem_range.mp hi
    simp only [Function.comp]
    rw [show ((1 : Int) + 2 * (i : Int)).toNat = 2 * i + 1 by omega, List.getElem?_map, List.getElem?_range (by omega)]
    rfl
end LT

/-! min of a list of pairs; methods with keywords within a try -/
namespace LT
open PySem PySem.Spec PyProof PyProof.Rows L2 LL
/-! ### min(a list of pairs of ints) -/
abbrev Pr2 := Int × Int
def encP (r : Pr2) : PyData := .tuple [.int r.1, .int r.2]
def ltP (a b : Pr2) : Prop := a.1 < b.1 ∨ (a.1 = b.1 ∧ a.2 < b.2)
instance (a b : Pr2) : Decidable (ltP a b) := by unfold ltP; infer_instance
def minP (a : Pr2) (l : List Pr2) : Pr2 := l.foldl (fun x y => if ltP y x then y else x) a
theorem minD_P : ∀ (l : List Pr2) (a : Pr2), PySem.W.minD (encP a) (l.map encP) = encP (minP a l)
  | [], a => rfl
  | b :: l, a => by
    have ih := fun c => minD_P l c
    unfold PySem.W.minD minP at ih ⊢
    rw [List.map_cons, List.foldl_cons, List.foldl_cons]
    have e : (if PySem.W.dataLt (encP b) (encP a) = true then encP b else encP a) = encP (if ltP b a then b else a) := by
      unfold encP
      rw [PySem.W.dataLt_ii]
      by_cases h : ltP b a
      · rw [if_pos h]
        unfold ltP at h
        rw [if_pos (decide_eq_true h)]
      · rw [if_neg h]
        unfold ltP at h
        rw [if_neg (by rw [decide_eq_true_eq]; exact h)]
    rw [e]
    exact ih _
theorem minP_le : ∀ (l : List Pr2) (a : Pr2), ¬ ltP a (minP a l) ∧ ∀ y ∈ l, ¬ ltP y (minP a l)
  | [], a => ⟨by unfold minP ltP; simp, fun y h => (List.not_mem_nil h).elim⟩
  | b :: l, a => by
    obtain ⟨h1, h2⟩ := minP_le l (if ltP b a then b else a)
    have e : minP a (b :: l) = minP (if ltP b a then b else a) l := rfl
    rw [e]
    refine ⟨?_, fun y hy => ?_⟩
    · by_cases c : ltP b a
      · rw [if_pos c] at h1 ⊢
        unfold ltP at *
        omega
      · rw [if_neg c] at h1 ⊢
        exact h1
    · rcases List.mem_cons.mp hy with rfl | hy
      · by_cases c : ltP y a
        · rw [if_pos c] at h1 ⊢
          exact h1
        · rw [if_neg c] at h1 ⊢
          unfold ltP at *
          omega
      · exact h2 y hy
def rMinR (K : PySem.W.Frag) : List V → Hp → VK → Prop := fun vs H Q => ∃ (a : Addr) (bs : List (V × Pr2)), vs = [V.ref a] ∧ SqL K H a (bs.map (·.1)) ∧ (∀ b ∈ bs, Dp K H b.1 (encP b.2)) ∧ bs ≠ [] ∧ ∀ b ∈ bs, (∀ c ∈ bs, ¬ ltP c.2 b.2) → Q b.1 H
theorem reads_all {X : Cx} {pins : List (Addr × Obj)} {σ : L2.St} {H : Hp} {s : Shared} (I : Inv X pins σ H s) : ∀ {bs : List (V × Pr2)} {us : List Value}, (∀ b ∈ bs, Dp X.K H b.1 (encP b.2)) → Vals (bs.map (·.1)) us → ∃ as, ReadsAll s.heap us (bs.map fun b => encP b.2) as
  | [], us, _, h => by cases h; exact ⟨_, .nil⟩
  | b :: bs, us, d, h => by
    cases h with
    | cons r rr =>
      obtain ⟨as1, r1⟩ := Dp.reads I _ _ _ (d b List.mem_cons_self) r
      obtain ⟨as2, r2⟩ := reads_all I (fun c hc => d c (List.mem_cons_of_mem _ hc)) rr
      exact ⟨_, .cons r1 r2⟩
theorem cr_minR {X : Cx} (hc : X.calm = true) (hu : X.A.units + 64 < cLine) : CallR X (.builtin "min") (rMinR X.K) := by
  intro pins s σ H vs us Q I r h
  obtain ⟨a, bs, rfl, hs, hb, hne, q⟩ := h
  obtain ⟨its, rv, hl, _⟩ := I.list hs
  rw [Vals.ref1 r]
  obtain ⟨as, ra⟩ := reads_all I hb rv
  obtain ⟨b0, bs', rfl⟩ := List.exists_cons_of_ne_nil hne
  have hdep : PyData.depthAll ((b0 :: bs').map fun b => encP b.2) ≤ 1 := by
    generalize (b0 :: bs') = l
    induction l with
    | nil => simp [PyData.depthAll]
    | cons c l ih =>
      simp only [List.map_cons, PyData.depthAll, encP, PyData.depth] at ih ⊢
      omega
  refine PySem.W.min_list_data (vs := its.toArray) (x := encP b0.2) (xs := bs'.map fun b => encP b.2) (as := as) (I.ok.hd hc) hl.isList (show ReadsAll s.heap its.toArray.toList (encP b0.2 :: bs'.map fun b => encP b.2) as from by rw [List.toList_toArray]; exact ra) ⟨fun x hx y hy => ?_, fun x hx => ?_⟩ ?_ fun i v h' tk bs2 hv hr hk => ?_
  · obtain ⟨c, _, rfl⟩ := List.mem_map.mp (show x ∈ (b0 :: bs').map fun b => encP b.2 from hx)
    obtain ⟨d, _, rfl⟩ := List.mem_map.mp (show y ∈ (b0 :: bs').map fun b => encP b.2 from hy)
    simp [encP, PySem.W.alike, PySem.W.alikeAll]
  · obtain ⟨c, _, rfl⟩ := List.mem_map.mp (show x ∈ (b0 :: bs').map fun b => encP b.2 from hx)
    intro z
    cases z
  · have e : PyData.depthAll (encP b0.2 :: bs'.map fun b => encP b.2) ≤ 1 := hdep
    omega
  · rw [List.getElem?_toArray] at hv
    have hil := (List.getElem?_eq_some_iff.mp hv).1
    have hlen := rv.length
    rw [List.length_map] at hlen
    obtain ⟨b, hbi⟩ : ∃ b, (b0 :: bs')[i]? = some b := ⟨_, List.getElem?_eq_getElem (by omega)⟩
    have hbm := List.mem_of_getElem? hbi
    obtain ⟨u, hu1, ru⟩ := rv.get (i := i) (x := b.1) (by rw [List.getElem?_map, hbi]; rfl)
    rw [hv] at hu1
    cases hu1
    obtain ⟨as1, r1⟩ := Dp.reads I _ _ _ (hb b hbm) ru
    have r1' : Reads h' v (encP b.2) as1 := Reads.keeps hk r1
    have e := (Reads.unique r1' _ _ hr).1
    have e2 : (bs'.map fun b => encP b.2) = (bs'.map (·.2)).map encP := by rw [List.map_map]; rfl
    rw [e2, minD_P] at e
    have e3 : b.2 = minP b0.2 (bs'.map (·.2)) := by
      have : encP b.2 = encP (minP b0.2 (bs'.map (·.2))) := e
      unfold encP at this
      simp only [PyData.tuple.injEq, List.cons.injEq, PyData.int.injEq, and_true] at this
      exact Prod.ext this.1 this.2
    obtain ⟨m1, m2⟩ := minP_le (bs'.map (·.2)) b0.2
    refine ⟨b.1, H, I.kept (t' := tk) hk, ru, q b hbm fun c hcm => ?_⟩
    rw [e3]
    rcases List.mem_cons.mp hcm with rfl | hcm
    · exact m1
    · exact m2 _ (List.mem_map.mpr ⟨c, hcm, rfl⟩)
section
variable {K : PySem.W.Frag} {G : List (Value × Option Addr × XV) → Prop} {E : EK}
def prT (r : Pr2) : Tr := .tup [.int r.1, .int r.2]
def dMinR : List Tr → Om → PT' → Prop := fun us Ω P => ∃ (t : Tr) (rs : List Pr2), us = [t] ∧ asL t Ω = some (rs.map prT) ∧ rs ≠ [] ∧ ∀ r ∈ rs, (∀ s ∈ rs, ¬ ltP s r) → P (prT r) Ω
theorem vdl_zipP {dr : Option (Addr × Addr)} {F : Addr → Prop} {H : Hp} : ∀ {xs : List V} {rs : List Pr2}, VDL K dr F H xs (rs.map prT) → ∀ b ∈ xs.zip rs, VD K dr F H b.1 (prT b.2) ∧ b.2 ∈ rs
  | xs, [], _, b, hb => by rw [List.zip_nil_right] at hb; cases hb
  | xs, r :: rs, d, b, hb => by
    obtain ⟨v, vs, rfl, d1, d2⟩ := d
    rw [List.zip_cons_cons] at hb
    rcases List.mem_cons.mp hb with rfl | hb
    · exact ⟨d1, List.mem_cons_self⟩
    · obtain ⟨h1, h2⟩ := vdl_zipP d2 b hb
      exact ⟨h1, List.mem_cons_of_mem _ h2⟩
theorem simc_minR : SimC K (rMinR K) dMinR := fun g H Ω vs us P Q o d ⟨t, rs, e, h, hne, p⟩ q => by
  subst e
  obtain ⟨v, _, rfl, d, rfl⟩ := d
  obtain ⟨a, xs, rfl, s, _, dl, z⟩ := at_L o d h
  have len := dl.len
  rw [List.length_map] at len
  have e1 : (xs.zip rs).map (·.1) = xs := List.map_fst_zip (Nat.le_of_eq len)
  have e2 : (xs.zip rs).map (·.2) = rs := List.map_snd_zip (Nat.le_of_eq len.symm)
  have hz := vdl_zipP dl
  refine ⟨a, xs.zip rs, rfl, by rw [e1]; exact s, fun b hb => ?_, fun z => hne (by rw [← e2, z]; rfl), fun b hb hmin => ?_⟩
  · have := dp_of (prT b.2) (hz b hb).1 rfl
    exact this
  · refine q _ Ω _ H (p b.2 (hz b hb).2 fun c hc => ?_) .refl o (hz b hb).1
    rw [← e2] at hc
    obtain ⟨b', hb', rfl⟩ := List.mem_map.mp hc
    exact hmin b' hb'
end
theorem df_i1 {K : PySem.W.Frag} : DfOk K [V.int 1] [.int 1] := fun _ _ _ => ⟨_, _, rfl, rfl, rfl⟩
/-! ### o.m(.., k = v) within a try -/
def tMthKS (C : Addr) (m : Str) (n mk : Nat) (sp : Sp) (gV : List V → List V → List V) (E : EK) (ta : TE) (t tk : TA) : TE := fun σ H Q => ta σ H fun x H1 => ∃ a dx fs, x = .ref a ∧ H1 a = some (.ins C dx fs) ∧ fs.lookup m = none ∧ t σ H1 fun vs H2 => tk σ H2 fun zs H3 => vs.length = n ∧ zs.length = mk ∧ sp (gV (x :: vs) zs) H3 Q (E σ)
section
variable {X : Cx} {CX : CXT} {k n : Nat} {f C : Addr} {fd : FuncData} {ps ks : List Str} {sp : Sp} {m : Str} {q1 q2 : Pos} {e o : PySem.Expr} {es : List PySem.Expr} {kws : List PySem.Keyword} {ta : TE} {t tk : TA} {pl : Sem Bool} {E : EK} {g : List Value → List Value → List Value} {gV : List V → List V → List V}
theorem pe_mthKS (he : PE X o ta) (c : Cls X.K C) (hm : Meth X.K C m f) (F : FnOk X.prog X.w X.K X.mg X.base CX k f fd ps sp) (room : Room k X.A) (hb : KBn X.K fd ps (n + 1) ks g gV) (px : ∀ σ, PassesAt CX X σ (E σ)) (args : PA X (e :: es) t) (hkw : PK X kws tk)
    (hall : (backToKw q2 (keywordEach kws X.env)).all (·.1.isSome) = true := by rfl) (hks : (backToKw q2 (keywordEach kws X.env)).filterMap (·.1) = ks := by rfl)
    (s1 : starEach (e :: es) X.env = (false, eval e X.env) :: starEach es X.env := by rfl) (hpl : ((backTo q2 (starEach (e :: es) X.env)).any (·.1) || (backToKw q2 (keywordEach kws X.env)).any (·.1.isNone)) = false := by rfl)
    (ev : eval (.Call (.Attribute o m q1) (e :: es) kws q2) X.env = (do let ov ← eval o X.env; standAt q1.atName; let (f, first) ← holding [ov] (getMethod ov m pl); callWith q2 f first (backTo q2 (starEach (e :: es) X.env)) (backToKw q2 (keywordEach kws X.env))) := by rfl) :
    PE X (.Call (.Attribute o m q1) (e :: es) kws q2) (tMthKS C m n ks.length sp gV E ta t tk) := ⟨fun pp st y G W inv hyp => by
  refine PySem.W.methodCall_KW (pl := pl) (thn (he.run pp st y G _ inv hyp) fun u st1 ⟨x, G1, inv1, rx, a, dx, fs, ex, ea, look, ask⟩ => ?_) ev
  subst ex
  obtain rfl : u = Value.ref a := rx
  refine getmeth_ok inv1 ea c hm look ?_
  refine PySem.W.callWith_KW (first := [.ref a]) (h₀ := X.base) inv.ok.mod.kin hm.kp hall (thn (args.run q2 pp st1 y G1 _ inv1 ask) fun us st2 ⟨vs, G2, inv2, rel, ask2⟩ => ?_) hpl s1
  refine thn (hkw.run q2 pp st2 y G2 _ inv2 ask2) fun ws st3 ⟨zs, G3, inv3, rz, l1, l2, ask3⟩ => ⟨inv3.kIn, ?_⟩
  rw [hks]
  have r1 : Vals (.ref a :: vs) (.ref a :: us) := .cons rfl rel
  have r2 := hb.rel r1 rz
  have n1 : (Value.ref a :: us).length = n + 1 := by rw [List.length_cons, ← rel.length, l1]
  refine wpAny_call (codeAny_mono (F.run X.A X.stack st3 G3 ⟨.ref a :: us, ks.zip ws⟩ (g (.ref a :: us) ws) (gV (.ref a :: vs) zs) W (E y) room inv3.env0 (hb.to st3 (.ref a :: us) ws inv3.kIn n1 (rz.length.symm.trans l2)) r2 ask3) fun r s' hq => ?_)
  cases r with
  | error e => exact px y pp _ _ e s' inv3 hq
  | ok fl =>
    cases fl with
    | ret u => exact inv3.after hq
    | next => exact False.elim hq
    | brk => exact False.elim hq
    | cont => exact False.elim hq⟩
end
section
variable {K : PySem.W.Frag} {G : List (Value × Option Addr × XV) → Prop} {E : EK}
def dMthKS (C : Addr) (m : Str) (P : Pw) (n mk k : Nat) (gT : List Tr → List Tr → List Tr) (de : DE) (da dk : DA) : DE := fun ρ Ω Q PX => de ρ Ω (fun x Ω1 => ∃ a, insM C m x Ω1 = some a ∧ da ρ Ω1 (fun us Ω2 => dk ρ Ω2 (fun zs Ω3 => us.length = n ∧ zs.length = mk ∧ (gT (.obj a :: us) zs).length = k ∧ P (gT (.obj a :: us) zs) Ω3 Q PX) PX) PX) PX
theorem sim_mthKS {C : Addr} {m : Str} {P : Pw} {n mk k : Nat} {gV : List V → List V → List V} {gT : List Tr → List Tr → List Tr} {te : TE} {de : DE} {ta tk : TA} {da dk : DA} (hg : ∀ (dr : Option (Addr × Addr)) (F : Addr → Prop) (H : Hp) (vs zs : List V) (ts us : List Tr), VDL K dr F H vs ts → VDL K dr F H zs us → VDL K dr F H (gV vs zs) (gT ts us)) (he : SimE K G E te de) (ha : SimA K G E ta da) (hk : SimA K G E tk dk) : SimE K G E (tMthKS C m n mk (spD K P k) gV E te ta tk) (dMthKS C m P n mk k gT de da dk) := fun g σ H ρ Ω Q PX QQ hG R h q qx =>
  he g σ H ρ Ω _ PX _ hG R h (fun x Ω1 v H1 ⟨a, hx, p⟩ k1 o1 d1 => by
    obtain ⟨dx, ns, ts, ex, hc, hf⟩ := insM_eq hx
    subst ex
    obtain rfl : v = .ref a := d1
    obtain ⟨xs, h1, h2, h3⟩ := (o1.ce a _ hc).2
    refine ⟨a, dx, _, rfl, h1, (fld_vd h2 h3).2 hf, ?_⟩
    exact ha g σ H1 ρ Ω1 _ PX _ hG (R.keep k1 o1) p (fun us Ω2 vs H2 p2 k2 o2 d2 => hk g σ H2 ρ Ω2 _ PX _ hG (R.keep (k1.trans k2) o2) p2 (fun zs Ω3 ws H3 ⟨hl, hm, hn, p3⟩ k3 o3 d3 =>
      ⟨by rw [d2.len]; exact hl, by rw [d3.len]; exact hm, g, Ω3, gT (.obj a :: us) zs, Q, PX, hn, hg _ _ _ _ _ _ _ ⟨.ref a, vs, rfl, rfl, d2.keep k3⟩ d3, o3, p3, q.at ((k1.trans k2).trans k3), qx.at ((k1.trans k2).trans k3)⟩) (qx.at (k1.trans k2))) (qx.at k1)) qx
end
/-! ### range with a wide step -/
def RgW (i j c : Int) (n : Nat) : Prop := c ≠ 0 ∧ c.natAbs.log2 < 9000 ∧ Builtin.Range.small i j c = true ∧ Builtin.Range.rangeSize i j c = n
def iRng3W (ta : TA) : TI := fun σ H R => ta σ H fun vs H1 => ∃ (i j c : Int) (n : Nat), vs = [.int i, .int j, .int c] ∧ RgW i j c n ∧ R (Itc i c n) H1
section
variable {X : Cx} {tg : PySem.Expr}
theorem pi_range3W {a b c : PySem.Expr} {ta : TA} {p pos : Pos} (hg : Gl X "range") (hm : X.mg "range" = none) (ha : PA X [a, b, c] ta)
    (hs : starEach [a, b, c] X.env = (false, eval a X.env) :: starEach [b, c] X.env := by rfl) (hpl : (backTo pos (starEach [b, c] X.env)).any (·.1) = false := by rfl) :
    PI X tg (.Call (.Name "range" p) [a, b, c] [] pos) (iRng3W ta) := by
  refine ⟨fun pins s σ H R I h => ?_⟩
  refine Call_ (ld_blt I hg hm boot_range (PyProof.Rows.callWith_type1 (thn (ha.run pos pins s σ H _ I h) fun us s1 ⟨vs, H1, I1, r1, q1⟩ => ?_) hs hpl))
  obtain ⟨i, j, k, n, e, ⟨c0, c1, c2, c3⟩, q⟩ := q1
  subst e
  cases r1 with
  | cons r rr =>
    cases rr with
    | cons r' rr =>
      cases rr with
      | cons r'' rr =>
        cases rr
        obtain ⟨t, rfl⟩ := r
        obtain ⟨t', rfl⟩ := r'
        obtain ⟨t'', rfl⟩ := r''
        refine call_range_3 c0 ?_ (.inl (PyProof.noPylong_of_log2 c1))
        refine wpAny_pyIter_range (IsRange.new ..) c2 ?_
        have I2 : Inv X pins σ H1 { s1 with heap := s1.heap.push { cls := .type "range", data := .fields #[.int i t, .int j t', .int k t''] } } := I1.kept (t' := s1.toks) fun b o e => Heap.get?_push_of_some _ e
        refine pi_one (tk := s1.toks) I2 _ (turn_rangeC _ i k n) ?_ q
        have e1 : i + ((0 : Nat) : Int) * k = i := by simp
        have e2 : (n : Int) - ((0 : Nat) : Int) = Builtin.Range.rangeSize i j k := by rw [c3]; simp
        show IsRangeIter _ _ (i + ((0 : Nat) : Int) * k) ((n : Int) - ((0 : Nat) : Int)) k
        rw [e1, e2]
        exact Heap.get?_push_size _ rfl
end
section
variable {K : PySem.W.Frag} {G : List (Value × Option Addr × XV) → Prop} {E : EK}
def diR3W (da : DA) : DI := fun ρ Ω P PX => da ρ Ω (fun ts Ω1 => ∃ (i j c : Int) (n : Nat), ts = [.int i, .int j, .int c] ∧ RgW i j c n ∧ P (rngC i c n) (fun _ => True) Ω1) PX
theorem sim_iR3W {ta : TA} {da : DA} (h : SimA K G E ta da) : SimI K G E (iRng3W ta) (diR3W da) := fun g σ H ρ Ω P PX R hG r p q qx =>
  h g σ H ρ Ω _ PX _ hG r p (fun ts Ω1 vs H1 ⟨i, j, c, n, e, b1, p1⟩ k1 o1 d1 => by
    subst e
    obtain ⟨v, _, rfl, d, u, _, rfl, d2, t, _, rfl, d3, rfl⟩ := d1
    exact ⟨i, j, c, n, by rw [show v = _ from d, show u = _ from d2, show t = _ from d3], b1, q _ _ Ω1 _ H1 p1 k1 o1 itc_ok⟩) qx
end
theorem rgW_pos {i j c : Int} (hc : 1 ≤ c ∧ c ≤ 1073741824) (hi : 0 ≤ i ∧ i ≤ 1000000) (hj : 0 ≤ j ∧ j ≤ 1000000) : ∃ n : Nat, RgW i j c n ∧ ∀ k : Nat, k < n ↔ i + k * c < j := by
  have e : Builtin.Range.rangeSize i j c = if i < j then (j - i - 1) / c + 1 else 0 := by
    unfold Builtin.Range.rangeSize
    rw [if_pos (by omega)]
  have z0 : i < j → 0 ≤ (j - i - 1) / c := fun h => Int.ediv_nonneg (by omega) (by omega)
  have z1 : i < j → (j - i - 1) / c ≤ 1000000 := fun h => Int.le_trans (Int.ediv_le_self _ (by omega)) (by omega)
  have hl : c.natAbs.log2 < 9000 := by
    have h1 : c.natAbs < 2 ^ 31 := Nat.lt_of_le_of_lt (show c.natAbs ≤ 1073741824 by omega) (by decide)
    have := PySem.Flt.log2_lt_of (by decide) h1
    omega
  refine ⟨(Builtin.Range.rangeSize i j c).toNat, ⟨by omega, hl, ?_, ?_⟩, fun k => ?_⟩
  · unfold Builtin.Range.small
    rw [e]
    simp only [Builtin.Range.rangeFitsLong, Bool.and_eq_true, Bool.or_eq_true, decide_eq_true_eq, beq_iff_eq]
    have : c > 0 := by omega
    simp only [this, if_true]
    by_cases h : i < j
    · rw [if_pos h]
      have a0 := z0 h
      have a1 := z1 h
      generalize (j - i - 1) / c = z at a0 a1 ⊢
      refine ⟨⟨⟨⟨⟨by omega, by omega⟩, by omega, by omega⟩, by omega, by omega⟩, by omega, by omega⟩, .inr ?_⟩
      rw [decide_eq_true (by omega), decide_eq_true (by omega)]
      rfl
    · rw [if_neg h]
      refine ⟨⟨⟨⟨⟨by omega, by omega⟩, by omega, by omega⟩, by omega, by omega⟩, by omega, by omega⟩, .inr ?_⟩
      rw [decide_eq_true (by omega), decide_eq_true (by omega)]
      rfl
  · rw [e]
    split
    · rename_i h
      have := z0 h
      omega
    · rfl
  · rw [e]
    have hk0 : 0 ≤ (k : Int) * c := Int.mul_nonneg (by omega) (by omega)
    split
    · rename_i h
      have a0 := z0 h
      have h3 : (k : Int) ≤ (j - i - 1) / c ↔ (k : Int) * c ≤ j - i - 1 := Int.le_ediv_iff_mul_le (by omega)
      constructor
      · intro hk
        have := h3.mp (by omega)
        omega
      · intro hk
        have := h3.mpr (by omega)
        omega
    · simp
      omega
end LT

namespace K05
open PySem PySem.Spec PyProof.Rows L2 LL LT
local macro_rules | `(tactic| fail "f") => `(tactic| with_reducible first | exact sim_var | exact sim_int | exact sim_str | exact sim_nil | apply sim_cons | apply sim_op | exact simr_IxA | apply sim_test | apply sim_seq | apply sim_ifS | apply sim_ret | apply sim_asg | apply sim_tup | exact sim_gName | exact sim_next | exact simr_Eq | apply simr_I0 | apply sim_call0 | apply sim_call | apply sim_not | apply sim_and | apply sim_or | exact sim_non | exact sim_bl)
local macro_rules | `(tactic| fail "s") => `(tactic| first | (with_reducible first | exact sim_var | exact sim_int | exact sim_bl | exact sim_str | exact sim_non | exact sim_ty | exact sim_ref | exact sim_nil | apply sim_cons | apply sim_op | apply simr_I0 | apply simr_I | exact simr_Eq | exact simr_Ne | exact simr_IxA | exact simr_addG | exact simr_isN | exact simr_notN | exact simr_isB | exact simr_in | exact simr_IxL | exact simr_IxT | exact simr_IxS | exact simr_EqD | exact simr_NeD | exact simr_rep | exact simr_repW | apply sim_un | apply sim_test | apply sim_tB | apply sim_and | apply sim_or | apply sim_not | apply sim_andV | apply sim_orV | apply sim_notV | apply sim_if | apply sim_chain | apply sim_tup | apply sim_lst | apply sim_bor0 | apply sim_bor | apply sim_borS | apply sim_call0 | apply sim_call | apply sim_callS | apply sim_callZ | apply sim_isXT | apply sim_isX | apply sim_xf | apply sim_sortS | apply sim_listRg | apply sim_CB | exact simc_len | exact simc_int | exact simc_isi | exact simc_mx | exact simc_mn | exact simc_sum | exact simc_maxL | exact simc_minL | exact simc_minS | exact simc_all | exact simc_any | exact simc_list | exact simc_tuple | exact simc_isiT | exact simc_strI | exact simc_sortI | exact simc_sortR | apply sim_sl | exact simsl_G | exact simsl_L | exact sim_oNone | apply sim_oSome | apply sim_append | exact sim_newD | apply sim_disp1 | apply sim_dget2 | apply sim_dget1 | apply sim_dget | apply sim_din | apply sim_dnotin | apply sim_lc | apply sim_dc | exact sim_yes | apply sim_iL | apply sim_iT | apply sim_iS | apply sim_iR1 | apply sim_iR2 | apply sim_iE | apply sim_iZ | apply sim_revT | exact gin_name (by decide) | apply gin_tup | exact gin_nil | apply gin_cons | exact mono_name | exact mono_nil | apply mono_cons | apply mono_tup | exact sim_next | apply sim_mk | apply sim_fgl | apply sim_fg | apply sim_seq | apply sim_ret | exact sim_retN | apply sim_drop | exact sim_break | exact sim_cont | apply sim_ifS | apply sim_asg | exact sim_gName | apply sim_gTup | exact sim_gNil | apply sim_gCons | apply sim_gSub | apply sim_for | apply sim_while | apply sim_dput | apply sim_raise | apply sim_tryT0 | apply sim_tryT) | exact fun _ _ => rfl | exact fun _ => rfl | exact fun _ _ _ _ => rfl | intro W | intro a cls d x)
local macro_rules | `(tactic| fail "l") => `(tactic| (simp only [List.length_append,List.length_take,List.length_drop,List.length_map,List.length_cons,List.length_nil,List.length_set,List.length_replicate,List.length_range]; omega))
local macro_rules | `(tactic| fail "r") => `(tactic| first | fail "d" | with_reducible refine fun (_ : _ ≤ 1000000) => ?_ | with_reducible refine Or.inl (fun (_ : _ ≤ 1000000) => ?_) | with_reducible refine lst_in ?_ | with_reducible refine dic_in ?_ | with_reducible refine tk_call (by first | decide | exact tk_big (by omega) (by omega)) fun v h0 h1 => ?_ | with_reducible refine bt_call (by first | decide | exact tk_big (by omega) (by omega)) fun v h0 h1 => ?_ | with_reducible refine ct_call (by first | decide | exact ⟨by omega, by omega, by omega⟩) fun v h0 h1 => ?_ | with_reducible refine LL.itei (fun h => ?_) fun h => ?_ | with_reducible refine pickP (by omega) (by simp only [List.length_cons, List.length_nil]; omega) ?_ | with_reducible refine List.forall_mem_cons.mpr (And.intro ?_ ?_) | with_reducible exact LT.nil_all | with_reducible refine And.intro (by first | (unfold CPow; decide) | omega | rfl) ?_ | with_reducible refine am_call rfl (List.cons_ne_nil _ _) ?_ | refine And.intro (show CMul _ _ from .inl ⟨by omega, by omega⟩) ?_)
local macro_rules | `(tactic| fail "d") => `(tactic| simp only [and_true,dIsiO,diR3,dCntB,dIdxB,dLstG,dTryR0,dTryR,exRow,endsT,dMakeK,dTru,dPop,dFld,dSetF,dMeth,dMeth0,dProp,dMake,dSortI,dSortR,dLstRg,dRepW,dRetF,dForgets,asD_put,dSortS,dDPut,dCallZ,dBor,dBor0,diZ,dRevT,dStrI,dIsXT,dTry0,dTry,dXf,dIsX,dNewD,dDisp1,Prod.mk.injEq,wipeT,Int.toNat_natCast,asL_put,put_same,put_put,Cell.lst.injEq,atI_0,atI_1,atI_2,atI_3,atI_4,atI_5,atI_6,atI_7,atI_8,atI_9,Tr.ty.injEq,tyN_int,tyN_bool,tyN_str,tyN_list,tyN_tuple,tyN_dict,dVar,dC,dName,dOp,dI,dI0,dUn,dU,dEq,dNe,dTest,dAnd,dOr,dNot,dAndV,dOrV,dNotV,dIf,dChain,dNil,dCons,dTup,dLst,dCall,dCall0,dCB,dNext,dSeq,dRet,dRetN,dDrop,dBreak,dCont,dIfS,dgNil,dgCons,dTupG,dAsg,diL,diT,diS,diR1,diR2,diE,dYes,dIx,dLen,dInt,dMx,dSum,dAll,dIsi,dIsiT,doNone,doSome,dSl,dApp,dSub,dSet,dEqD,dGet,dGet1,dGet2,LT.dIn,dIsN,dIsB,dIn',dList,dTuple,dRaise,dMaxL,dMinL,dMinS,dRep,asL_lst,asS_lst,asS_tup,asT_tup,flatV',Tr.int.injEq,Tr.bl.injEq,Tr.str.injEq,Tr.lst.injEq,Tr.tup.injEq,Tr.obj.injEq,Option.isSome_some,List.map_cons,List.map_nil,List.length_cons,List.length_nil,List.replicate_succ,List.replicate_zero,List.cons_append,List.nil_append,List.append_nil,List.getElem?_cons_zero,List.getElem?_cons_succ,List.set_cons_zero,List.set_cons_succ,Nat.add_sub_cancel,Nat.reduceAdd,Nat.reduceSub,Option.some.injEq,List.cons.injEq,and_true,true_and,and_false,false_and,exists_eq_left,exists_eq_left',exists_and_left,exists_and_right,exists_eq,exists_eq',LL.if_dec,reduceCtorEq,exists_false,exists_const,or_false,false_or,if_true,if_false,and_assoc,Int.reduceEq,Int.reduceNe,Int.reduceNeg,Int.reduceLT,Int.reduceLE,Int.reduceMul,Int.reduceAdd,Int.reduceSub,Int.reducePow,Int.reduceToNat,Nat.reducePow,Nat.reduceLT,Nat.reduceLeDiff,true_or,or_true,Bool.not_true,Bool.not_false,Bool.false_eq_true,Bool.or_false,Bool.or_true,Bool.true_or,Bool.false_or,decide_true,decide_false,not_true_eq_false,not_false_eq_true,LL.scal_int,LL.scal_bl,LL.scal_str,V.int.injEq,V.bl.injEq,V.str.injEq,Nat.zero_le,forall_const,true_implies,kindT_non,isNonT_non,flatT_non,flatK_non,isBT_non_true,isBT_non_false,toV_non,ofV_non,keyT_non,isT_non_int,isT_non_bool,isT_non_str,isT_non_list,isT_non_tuple,isT_non_dict,kindT_bl,isNonT_bl,flatT_bl,flatK_bl,toV_bl,ofV_bl,keyT_bl,isT_bl_int,isT_bl_bool,isT_bl_str,isT_bl_list,isT_bl_tuple,isT_bl_dict,kindT_int,isNonT_int,flatT_int,flatK_int,isBT_int_true,isBT_int_false,toV_int,ofV_int,keyT_int,isT_int_int,isT_int_bool,isT_int_str,isT_int_list,isT_int_tuple,isT_int_dict,kindT_str,isNonT_str,flatT_str,flatK_str,isBT_str_true,isBT_str_false,toV_str,ofV_str,keyT_str,isT_str_int,isT_str_bool,isT_str_str,isT_str_list,isT_str_tuple,isT_str_dict,kindT_lst,isNonT_lst,flatT_lst,flatK_lst,isBT_lst_true,isBT_lst_false,lenT_lst,keyT_lst,isT_lst_int,isT_lst_bool,isT_lst_str,isT_lst_list,isT_lst_tuple,isT_lst_dict,kindT_tup,isNonT_tup,flatT_tup,flatK_tup,isBT_tup_true,isBT_tup_false,lenT_tup,keyT_tup,isT_tup_int,isT_tup_bool,isT_tup_str,isT_tup_list,isT_tup_tuple,isT_tup_dict,kindT_dic,isNonT_dic,flatT_dic,flatK_dic,isBT_dic_true,isBT_dic_false,lenT_dic,keyT_dic,isT_dic_int,isT_dic_bool,isT_dic_str,isT_dic_list,isT_dic_tuple,isT_dic_dict,kindT_obj,isNonT_obj,flatT_obj,flatK_obj,isBT_obj_true,isBT_obj_false,keyT_obj,kindT_drw,isNonT_drw,flatT_drw,flatK_drw,isBT_drw_true,isBT_drw_false,keyT_drw,kindT_ty,isNonT_ty,flatT_ty,flatK_ty,isBT_ty_true,isBT_ty_false,toV_ty,ofV_ty,keyT_ty,asD_dic,isBT_bl,dAddG_int,dAddG_str,dAddG_tup,dAddG_lst_lst,dAddG_lst_obj,dAddG_obj_lst,dAddG_obj_obj,dSlG_tup,dSlG_str,dSlG_lst,dSlG_obj])
local macro_rules | `(tactic| simp! only [$xs,*]) => `(tactic| try simp only [$xs,*,dIsiO,diR3,dCntB,dIdxB,dLstG,dTryR0,dTryR,exRow,endsT,dMakeK,dTru,dPop,dFld,dSetF,dMeth,dMeth0,dProp,dMake,dSortI,dSortR,dLstRg,dRepW,dRetF,dForgets,asD_put,dSortS,dDPut,dCallZ,dBor,dBor0,diZ,dRevT,dStrI,dIsXT,dTry0,dTry,dXf,dIsX,dNewD,dDisp1,Prod.mk.injEq,wipeT,Int.toNat_natCast,asL_put,put_same,put_put,Cell.lst.injEq,atI_0,atI_1,atI_2,atI_3,atI_4,atI_5,atI_6,atI_7,atI_8,atI_9,Tr.ty.injEq,tyN_int,tyN_bool,tyN_str,tyN_list,tyN_tuple,tyN_dict,dVar,dC,dName,dOp,dI,dI0,dUn,dU,dEq,dNe,dTest,dAnd,dOr,dNot,dAndV,dOrV,dNotV,dIf,dChain,dNil,dCons,dTup,dLst,dCall,dCall0,dCB,dNext,dSeq,dRet,dRetN,dDrop,dBreak,dCont,dIfS,dgNil,dgCons,dTupG,dAsg,diL,diT,diS,diR1,diR2,diE,dYes,dIx,dLen,dInt,dMx,dSum,dAll,dIsi,dIsiT,doNone,doSome,dSl,dApp,dSub,dSet,dEqD,dGet,dGet1,dGet2,LT.dIn,dIsN,dIsB,dIn',dList,dTuple,dRaise,dMaxL,dMinL,dMinS,dRep,asL_lst,asS_lst,asS_tup,asT_tup,flatV',Tr.int.injEq,Tr.bl.injEq,Tr.str.injEq,Tr.lst.injEq,Tr.tup.injEq,Tr.obj.injEq,Option.isSome_some,List.map_cons,List.map_nil,List.length_cons,List.length_nil,List.replicate_succ,List.replicate_zero,List.cons_append,List.nil_append,List.append_nil,List.getElem?_cons_zero,List.getElem?_cons_succ,List.set_cons_zero,List.set_cons_succ,Nat.add_sub_cancel,Nat.reduceAdd,Nat.reduceSub,Option.some.injEq,List.cons.injEq,and_true,true_and,and_false,false_and,exists_eq_left,exists_eq_left',exists_and_left,exists_and_right,exists_eq,exists_eq',LL.if_dec,reduceCtorEq,exists_false,exists_const,or_false,false_or,if_true,if_false,and_assoc,Int.reduceEq,Int.reduceNe,Int.reduceNeg,Int.reduceLT,Int.reduceLE,Int.reduceMul,Int.reduceAdd,Int.reduceSub,Int.reducePow,Int.reduceToNat,Nat.reducePow,Nat.reduceLT,Nat.reduceLeDiff,true_or,or_true,Bool.not_true,Bool.not_false,Bool.false_eq_true,Bool.or_false,Bool.or_true,Bool.true_or,Bool.false_or,decide_true,decide_false,not_true_eq_false,not_false_eq_true,LL.scal_int,LL.scal_bl,LL.scal_str,V.int.injEq,V.bl.injEq,V.str.injEq,Nat.zero_le,forall_const,true_implies,kindT_non,isNonT_non,flatT_non,flatK_non,isBT_non_true,isBT_non_false,toV_non,ofV_non,keyT_non,isT_non_int,isT_non_bool,isT_non_str,isT_non_list,isT_non_tuple,isT_non_dict,kindT_bl,isNonT_bl,flatT_bl,flatK_bl,toV_bl,ofV_bl,keyT_bl,isT_bl_int,isT_bl_bool,isT_bl_str,isT_bl_list,isT_bl_tuple,isT_bl_dict,kindT_int,isNonT_int,flatT_int,flatK_int,isBT_int_true,isBT_int_false,toV_int,ofV_int,keyT_int,isT_int_int,isT_int_bool,isT_int_str,isT_int_list,isT_int_tuple,isT_int_dict,kindT_str,isNonT_str,flatT_str,flatK_str,isBT_str_true,isBT_str_false,toV_str,ofV_str,keyT_str,isT_str_int,isT_str_bool,isT_str_str,isT_str_list,isT_str_tuple,isT_str_dict,kindT_lst,isNonT_lst,flatT_lst,flatK_lst,isBT_lst_true,isBT_lst_false,lenT_lst,keyT_lst,isT_lst_int,isT_lst_bool,isT_lst_str,isT_lst_list,isT_lst_tuple,isT_lst_dict,kindT_tup,isNonT_tup,flatT_tup,flatK_tup,isBT_tup_true,isBT_tup_false,lenT_tup,keyT_tup,isT_tup_int,isT_tup_bool,isT_tup_str,isT_tup_list,isT_tup_tuple,isT_tup_dict,kindT_dic,isNonT_dic,flatT_dic,flatK_dic,isBT_dic_true,isBT_dic_false,lenT_dic,keyT_dic,isT_dic_int,isT_dic_bool,isT_dic_str,isT_dic_list,isT_dic_tuple,isT_dic_dict,kindT_obj,isNonT_obj,flatT_obj,flatK_obj,isBT_obj_true,isBT_obj_false,keyT_obj,kindT_drw,isNonT_drw,flatT_drw,flatK_drw,isBT_drw_true,isBT_drw_false,keyT_drw,kindT_ty,isNonT_ty,flatT_ty,flatK_ty,isBT_ty_true,isBT_ty_false,toV_ty,ofV_ty,keyT_ty,asD_dic,isBT_bl,dAddG_int,dAddG_str,dAddG_tup,dAddG_lst_lst,dAddG_lst_obj,dAddG_obj_lst,dAddG_obj_obj,dSlG_tup,dSlG_str,dSlG_lst,dSlG_obj])
variable {P : Program} {w : World} {K : PySem.W.Frag} {mg : Str → Option Value} {base : Heap}

/-- 0 < many: a number of 0 .. many - 1 -/
noncomputable def sp_law_mixed : Sp := fun vs H Q _ => ∃ a b m : Int, vs = [.int a, .int b, .int m] ∧ 0 < m ∧ ∀ v : Int, 0 ≤ v → v < m → Q (.int v) H
noncomputable def sp_law_next_cell : Sp := fun vs H Q _ => ∃ d s, vs = [.ref d] ∧ Drw d s H ∧ ∀ H', Aft d s H H' → Q .non H'
noncomputable def sp_law_take : Sp := fun vs H Q _ => ∃ d s m, vs = [.ref d, .int m] ∧ Drw d s H ∧ m.natAbs < 2 ^ 4000 ∧ ∀ v H', Aft d s H H' → 0 ≤ v → (v < m ∨ v = 0) → Q (.int v) H'
theorem use_take {d s : Addr} {m : Int} {H : Hp} {Q : VK} {E : XK} (D : Drw d s H) (hm : m.natAbs < 2 ^ 4000) (q : ∀ v H', Aft d s H H' → Drw d s H' → 0 ≤ v → (v < m ∨ v = 0) → Q (.int v) H') : sp_law_take [.ref d, .int m] H Q E :=
  ⟨d, s, m, rfl, D, hm, fun v H' a => q v H' a a.dr⟩

theorem ok_law_mixed (T : Tx K mg) : FnOk P w K mg base CX0 1 (He.ga K "_law_mixed") T.fd_law_mixed P_law_mixed sp_law_mixed := by
  refine T.F_law_mixed.ok sc_law_mixed (fun vs H Q E h => ?_) (fun cdv A outer s H vs Q E hr h => ⟨_, PSs.nox (pss_cons (ps_set (i := 3) sc_law_mixed.nd rfl (Or.inl rfl) (pe_int)) (pss_cons (ps_for PassesOwn.never rfl (pi_range1 rfl T.z_range (pa_cons (pe_int) pa_nil)) (pg_name (i := 4) sc_law_mixed.nd rfl (Or.inl rfl)) (pss_cons (ps_set (i := 5) sc_law_mixed.nd rfl (Or.inl rfl) (pe_op op_mod (pe_callTy LL.call_intI (by rfl) T.z_int (by decide +kernel) (pa_cons (pe_op op_mul (pe_op op_add (pe_op op_add (pv 0) (pe_int)) (pe_op op_mul (pe_op op_add (pe_op op_mul (pe_int) (pv 1)) (pv 4)) (pe_int))) (pe_int)) pa_nil)) (pe_int))) (pss_cons (ps_set (i := 6) sc_law_mixed.nd rfl (Or.inl rfl) (pe_op op_mod (pe_callTy LL.call_intI (by rfl) T.z_int (by decide +kernel) (pa_cons (pe_op op_add (pe_op op_add (pe_op op_mul (pv 5) (pv 5)) (pe_op op_mul (pe_op op_fdiv (pv 5) (pe_int)) (pe_int))) (pv 1)) pa_nil)) (pe_int))) (pss_one (ps_set (i := 3) sc_law_mixed.nd rfl (Or.inl rfl) (pe_op op_add (pe_op op_mul (pv 3) (pe_int)) (pe_op op_fdiv (pv 6) (pe_int)))))))) (pss_one (ps_ret (pe_op op_mod (pe_callTy LL.call_intI (by rfl) T.z_int (by decide +kernel) (pa_cons (pv 3) pa_nil)) (pv 2)))))), ?_⟩)
  · obtain ⟨_, _, _, rfl, _⟩ := h
    rfl
  · obtain ⟨a, b, m, rfl, hm, q⟩ := h
    simp only [tSeq, tAsg, tRet, tRetN, tDrop, tNext, tVar, tC, gName, tOp, tUn, rI, rI0, rU, tIfS, tTest, tB, tIf, tAnd, tOr, tNot, tAndV, tOrV, tNotV, tCall, tCons, tNil, tCB, tLst, tTup, tChain, CMul, CDiv, CPow, rEq, rNe, gSub, L2.start, LL.cxK0, LL.cxK1, List.map_cons, List.map_nil, List.length_cons, List.length_nil, List.replicate_succ, List.replicate_zero, List.cons_append, List.nil_append, List.append_nil, List.getElem?_cons_zero, List.getElem?_cons_succ, List.set_cons_zero, List.set_cons_succ, Nat.add_sub_cancel, Nat.reduceAdd, Nat.reduceSub, Option.some.injEq, V.int.injEq, V.bl.injEq, V.ref.injEq, V.str.injEq, List.cons.injEq, and_true, true_and, and_false, false_and, exists_eq_left, exists_eq_left', exists_and_left, exists_and_right, exists_eq, exists_eq', LL.if_dec, reduceCtorEq, exists_false, exists_const, or_false, false_or, if_true, if_false, LL.rInt1, LL.rMx, LL.rMn, and_assoc, Int.reduceNeg, Int.reduceLT, Int.reduceLE, Int.reduceMul, Int.reduceAdd, Int.reduceSub, Int.reducePow, Int.reduceToNat, Nat.reducePow, Nat.reduceLT, true_or, or_true, Bool.not_true, Bool.not_false, Bool.false_eq_true, Bool.or_false, Bool.or_true, Bool.true_or, Bool.false_or, decide_true, decide_false, not_true_eq_false, not_false_eq_true, LL.scal_int, LL.scal_bl, LL.scal_str, LL.isInt, LL.isBl, LL.isStr, LL.isLst, LL.isTup, LL.isDic, N_law_mixed]
    refine use_forR (j := 2) (fun Q q => q) (by decide) (by decide) (fun i σ' H' => H' = H ∧ ∃ (v : Int) (x1 x2 x3 : Option V), σ' = [some (.int a), some (.int b), some (.int m), some (.int v), x1, x2, x3]) ⟨rfl, _, _, _, _, rfl⟩ ?_ ?_
    · rintro i σ' H' hi ⟨rfl, v, x1, x2, x3, rfl⟩
      simp only [tSeq, tAsg, tRet, tRetN, tDrop, tNext, tVar, tC, gName, tOp, tUn, rI, rI0, rU, tIfS, tTest, tB, tIf, tAnd, tOr, tNot, tAndV, tOrV, tNotV, tCall, tCons, tNil, tCB, tLst, tTup, tChain, CMul, CDiv, CPow, rEq, rNe, gSub, L2.start, LL.cxK0, LL.cxK1, List.map_cons, List.map_nil, List.length_cons, List.length_nil, List.replicate_succ, List.replicate_zero, List.cons_append, List.nil_append, List.append_nil, List.getElem?_cons_zero, List.getElem?_cons_succ, List.set_cons_zero, List.set_cons_succ, Nat.add_sub_cancel, Nat.reduceAdd, Nat.reduceSub, Option.some.injEq, V.int.injEq, V.bl.injEq, V.ref.injEq, V.str.injEq, List.cons.injEq, and_true, true_and, and_false, false_and, exists_eq_left, exists_eq_left', exists_and_left, exists_and_right, exists_eq, exists_eq', LL.if_dec, reduceCtorEq, exists_false, exists_const, or_false, false_or, if_true, if_false, LL.rInt1, LL.rMx, LL.rMn, and_assoc, Int.reduceNeg, Int.reduceLT, Int.reduceLE, Int.reduceMul, Int.reduceAdd, Int.reduceSub, Int.reducePow, Int.reduceToNat, Nat.reducePow, Nat.reduceLT, true_or, or_true, Bool.not_true, Bool.not_false, Bool.false_eq_true, Bool.or_false, Bool.or_true, Bool.true_or, Bool.false_or, decide_true, decide_false, not_true_eq_false, not_false_eq_true, LL.scal_int, LL.scal_bl, LL.scal_str, LL.isInt, LL.isBl, LL.isStr, LL.isLst, LL.isTup, LL.isDic]
      have h1 := Int.emod_nonneg ((a + 7 + (2 * b + (0 + (i : Int))) * 1000003) * 48271) (show (2147483647 : Int) ≠ 0 by decide)
      have h2 := Int.emod_lt_of_pos ((a + 7 + (2 * b + (0 + (i : Int))) * 1000003) * 48271) (show (0 : Int) < 2147483647 by decide)
      exact Or.inl ⟨by omega, by omega⟩
    · rintro σ' H' ⟨rfl, v, x1, x2, x3, rfl⟩
      simp only [tSeq, tAsg, tRet, tRetN, tDrop, tNext, tVar, tC, gName, tOp, tUn, rI, rI0, rU, tIfS, tTest, tB, tIf, tAnd, tOr, tNot, tAndV, tOrV, tNotV, tCall, tCons, tNil, tCB, tLst, tTup, tChain, CMul, CDiv, CPow, rEq, rNe, gSub, L2.start, LL.cxK0, LL.cxK1, List.map_cons, List.map_nil, List.length_cons, List.length_nil, List.replicate_succ, List.replicate_zero, List.cons_append, List.nil_append, List.append_nil, List.getElem?_cons_zero, List.getElem?_cons_succ, List.set_cons_zero, List.set_cons_succ, Nat.add_sub_cancel, Nat.reduceAdd, Nat.reduceSub, Option.some.injEq, V.int.injEq, V.bl.injEq, V.ref.injEq, V.str.injEq, List.cons.injEq, and_true, true_and, and_false, false_and, exists_eq_left, exists_eq_left', exists_and_left, exists_and_right, exists_eq, exists_eq', LL.if_dec, reduceCtorEq, exists_false, exists_const, or_false, false_or, if_true, if_false, LL.rInt1, LL.rMx, LL.rMn, and_assoc, Int.reduceNeg, Int.reduceLT, Int.reduceLE, Int.reduceMul, Int.reduceAdd, Int.reduceSub, Int.reducePow, Int.reduceToNat, Nat.reducePow, Nat.reduceLT, true_or, or_true, Bool.not_true, Bool.not_false, Bool.false_eq_true, Bool.or_false, Bool.or_true, Bool.true_or, Bool.false_or, decide_true, decide_false, not_true_eq_false, not_false_eq_true, LL.scal_int, LL.scal_bl, LL.scal_str, LL.isInt, LL.isBl, LL.isStr, LL.isLst, LL.isTup, LL.isDic]
      exact ⟨hm, q _ (Int.emod_nonneg _ (by omega)) (Int.emod_lt_of_pos _ hm)⟩
theorem ok_law_next_cell (T : Tx K mg) : FnOk P w K mg base CX0 1 (He.ga K "_law_next_cell") T.fd_law_next_cell P_law_next_cell sp_law_next_cell := by
  refine T.F_law_next_cell.ok sc_law_next_cell (fun vs H Q E h => ?_) (fun cdv A outer s H vs Q E hr h => ⟨_, PSs.nox (pss_cons (ps_set (i := 1) sc_law_next_cell.nd rfl (Or.inl rfl) (pe_ix (show IxR _ (rIxL K) from ix_list) (pv 0) (pe_int) (fun _ _ => rfl))) (pss_cons (ps_set (i := 2) sc_law_next_cell.nd rfl (Or.inl rfl) (pe_ix (show IxR _ (rIxL K) from ix_list) (pv 0) (pe_int) (fun _ _ => rfl))) (pss_one (ps_if (pt_cmpR op_lt (pe_ix (show IxR _ (rIxL K) from ix_list) (pv 2) (pe_int) (fun _ _ => rfl)) (pe_callB LL.call_lenL (by rfl) T.z_len (by decide +kernel) (pa_cons (pv 1) pa_nil)) (nomark _)) (pss_cons (ps_set (i := 3) sc_law_next_cell.nd rfl (Or.inl rfl) (pe_callTy LL.call_intI (by rfl) T.z_int (by decide +kernel) (pa_cons (pe_ix (show IxR _ (rIxL K) from ix_list) (pv 1) (pe_ix (show IxR _ (rIxL K) from ix_list) (pv 2) (pe_int) (fun _ _ => rfl)) (fun _ _ => rfl)) pa_nil))) (pss_cons (ps_asg (pe_op op_add (pe_ix (show IxR _ (rIxL K) from ix_list) (pv 2) (pe_int) (fun _ _ => rfl)) (pe_int)) (pg_sub (pv 2) (pe_int) set_list)) (pss_cons (ps_asg (pe_op op_mod (pe_callTy LL.call_intI (by rfl) T.z_int (by decide +kernel) (pa_cons (pe_op op_add (pe_op op_add (pe_op op_mul (pe_ix (show IxR _ (rIxL K) from ix_list) (pv 2) (pe_int) (fun _ _ => rfl)) (pe_int)) (pe_op op_mod (pv 3) (pe_int))) (pe_int)) pa_nil)) (pe_int)) (pg_sub (pv 2) (pe_int) set_list)) (pss_one (ps_if (pt_cmpR op_ge (pv 3) (pe_op op_pow (pe_int) (pe_int)) (nomark _)) (pss_one (ps_asg (pv 3) (pg_sub (pv 2) (pe_int) set_list))) (pss_one (ps_asg (pe_int) (pg_sub (pv 2) (pe_int) set_list)))))))) pss_nil)))), ?_⟩)
  · obtain ⟨_, _, rfl, _⟩ := h
    rfl
  · obtain ⟨d, s, rfl, D, q⟩ := h
    obtain ⟨⟨c, hd, hcs, ns, hc⟩, ⟨i, v, k, t, gg, hi, hs⟩, hds⟩ := _root_.id D
    simp only [tSeq, tAsg, tRet, tRetN, tDrop, tNext, tVar, tC, gName, tOp, tUn, rI, rI0, rU, tIfS, tTest, tB, tIf, tAnd, tOr, tNot, tAndV, tOrV, tNotV, tCall, tCons, tNil, tCB, tLst, tTup, tChain, CMul, CDiv, CPow, rEq, rNe, gSub, L2.start, LL.cxK0, LL.cxK1, List.map_cons, List.map_nil, List.length_cons, List.length_nil, List.replicate_succ, List.replicate_zero, List.cons_append, List.nil_append, List.append_nil, List.getElem?_cons_zero, List.getElem?_cons_succ, List.set_cons_zero, List.set_cons_succ, Nat.add_sub_cancel, Nat.reduceAdd, Nat.reduceSub, Option.some.injEq, V.int.injEq, V.bl.injEq, V.ref.injEq, V.str.injEq, List.cons.injEq, and_true, true_and, and_false, false_and, exists_eq_left, exists_eq_left', exists_and_left, exists_and_right, exists_eq, exists_eq', LL.if_dec, reduceCtorEq, exists_false, exists_const, or_false, false_or, if_true, if_false, LL.rInt1, LL.rMx, LL.rMn, and_assoc, Int.reduceNeg, Int.reduceLT, Int.reduceLE, Int.reduceMul, Int.reduceAdd, Int.reduceSub, Int.reducePow, Int.reduceToNat, Nat.reducePow, Nat.reduceLT, true_or, or_true, Bool.not_true, Bool.not_false, Bool.false_eq_true, Bool.or_false, Bool.or_true, Bool.true_or, Bool.false_or, decide_true, decide_false, not_true_eq_false, not_false_eq_true, LL.scal_int, LL.scal_bl, LL.scal_str, LL.isInt, LL.isBl, LL.isStr, LL.isLst, LL.isTup, LL.isDic, N_law_next_cell]
    refine use_ixL hd rfl (use_ixL hd rfl (use_ixL hs rfl ?_))
    refine use_lenL hc ?_
    simp only [tSeq, tAsg, tRet, tRetN, tDrop, tNext, tVar, tC, gName, tOp, tUn, rI, rI0, rU, tIfS, tTest, tB, tIf, tAnd, tOr, tNot, tAndV, tOrV, tNotV, tCall, tCons, tNil, tCB, tLst, tTup, tChain, CMul, CDiv, CPow, rEq, rNe, gSub, L2.start, LL.cxK0, LL.cxK1, List.map_cons, List.map_nil, List.length_cons, List.length_nil, List.replicate_succ, List.replicate_zero, List.cons_append, List.nil_append, List.append_nil, List.getElem?_cons_zero, List.getElem?_cons_succ, List.set_cons_zero, List.set_cons_succ, Nat.add_sub_cancel, Nat.reduceAdd, Nat.reduceSub, Option.some.injEq, V.int.injEq, V.bl.injEq, V.ref.injEq, V.str.injEq, List.cons.injEq, and_true, true_and, and_false, false_and, exists_eq_left, exists_eq_left', exists_and_left, exists_and_right, exists_eq, exists_eq', LL.if_dec, reduceCtorEq, exists_false, exists_const, or_false, false_or, if_true, if_false, LL.rInt1, LL.rMx, LL.rMn, and_assoc, Int.reduceNeg, Int.reduceLT, Int.reduceLE, Int.reduceMul, Int.reduceAdd, Int.reduceSub, Int.reducePow, Int.reduceToNat, Nat.reducePow, Nat.reduceLT, true_or, or_true, Bool.not_true, Bool.not_false, Bool.false_eq_true, Bool.or_false, Bool.or_true, Bool.true_or, Bool.false_or, decide_true, decide_false, not_true_eq_false, not_false_eq_true, LL.scal_int, LL.scal_bl, LL.scal_str, LL.isInt, LL.isBl, LL.isStr, LL.isLst, LL.isTup, LL.isDic]
    split
    · rename_i hlt
      obtain ⟨n, hn⟩ := atI_int hi (by simpa using hlt)
      refine use_ixL hs rfl (use_ixL hc hn ?_)
      simp only [tSeq, tAsg, tRet, tRetN, tDrop, tNext, tVar, tC, gName, tOp, tUn, rI, rI0, rU, tIfS, tTest, tB, tIf, tAnd, tOr, tNot, tAndV, tOrV, tNotV, tCall, tCons, tNil, tCB, tLst, tTup, tChain, CMul, CDiv, CPow, rEq, rNe, gSub, L2.start, LL.cxK0, LL.cxK1, List.map_cons, List.map_nil, List.length_cons, List.length_nil, List.replicate_succ, List.replicate_zero, List.cons_append, List.nil_append, List.append_nil, List.getElem?_cons_zero, List.getElem?_cons_succ, List.set_cons_zero, List.set_cons_succ, Nat.add_sub_cancel, Nat.reduceAdd, Nat.reduceSub, Option.some.injEq, V.int.injEq, V.bl.injEq, V.ref.injEq, V.str.injEq, List.cons.injEq, and_true, true_and, and_false, false_and, exists_eq_left, exists_eq_left', exists_and_left, exists_and_right, exists_eq, exists_eq', LL.if_dec, reduceCtorEq, exists_false, exists_const, or_false, false_or, if_true, if_false, LL.rInt1, LL.rMx, LL.rMn, and_assoc, Int.reduceNeg, Int.reduceLT, Int.reduceLE, Int.reduceMul, Int.reduceAdd, Int.reduceSub, Int.reducePow, Int.reduceToNat, Nat.reducePow, Nat.reduceLT, true_or, or_true, Bool.not_true, Bool.not_false, Bool.false_eq_true, Bool.or_false, Bool.or_true, Bool.true_or, Bool.false_or, decide_true, decide_false, not_true_eq_false, not_false_eq_true, LL.scal_int, LL.scal_bl, LL.scal_str, LL.isInt, LL.isBl, LL.isStr, LL.isLst, LL.isTup, LL.isDic]
      refine use_ixL hs rfl ?_
      simp only [tSeq, tAsg, tRet, tRetN, tDrop, tNext, tVar, tC, gName, tOp, tUn, rI, rI0, rU, tIfS, tTest, tB, tIf, tAnd, tOr, tNot, tAndV, tOrV, tNotV, tCall, tCons, tNil, tCB, tLst, tTup, tChain, CMul, CDiv, CPow, rEq, rNe, gSub, L2.start, LL.cxK0, LL.cxK1, List.map_cons, List.map_nil, List.length_cons, List.length_nil, List.replicate_succ, List.replicate_zero, List.cons_append, List.nil_append, List.append_nil, List.getElem?_cons_zero, List.getElem?_cons_succ, List.set_cons_zero, List.set_cons_succ, Nat.add_sub_cancel, Nat.reduceAdd, Nat.reduceSub, Option.some.injEq, V.int.injEq, V.bl.injEq, V.ref.injEq, V.str.injEq, List.cons.injEq, and_true, true_and, and_false, false_and, exists_eq_left, exists_eq_left', exists_and_left, exists_and_right, exists_eq, exists_eq', LL.if_dec, reduceCtorEq, exists_false, exists_const, or_false, false_or, if_true, if_false, LL.rInt1, LL.rMx, LL.rMn, and_assoc, Int.reduceNeg, Int.reduceLT, Int.reduceLE, Int.reduceMul, Int.reduceAdd, Int.reduceSub, Int.reducePow, Int.reduceToNat, Nat.reducePow, Nat.reduceLT, true_or, or_true, Bool.not_true, Bool.not_false, Bool.false_eq_true, Bool.or_false, Bool.or_true, Bool.true_or, Bool.false_or, decide_true, decide_false, not_true_eq_false, not_false_eq_true, LL.scal_int, LL.scal_bl, LL.scal_str, LL.isInt, LL.isBl, LL.isStr, LL.isLst, LL.isTup, LL.isDic]
      refine use_setL hs rfl ?_
      refine use_ixL upd_same rfl ?_
      simp only [tSeq, tAsg, tRet, tRetN, tDrop, tNext, tVar, tC, gName, tOp, tUn, rI, rI0, rU, tIfS, tTest, tB, tIf, tAnd, tOr, tNot, tAndV, tOrV, tNotV, tCall, tCons, tNil, tCB, tLst, tTup, tChain, CMul, CDiv, CPow, rEq, rNe, gSub, L2.start, LL.cxK0, LL.cxK1, List.map_cons, List.map_nil, List.length_cons, List.length_nil, List.replicate_succ, List.replicate_zero, List.cons_append, List.nil_append, List.append_nil, List.getElem?_cons_zero, List.getElem?_cons_succ, List.set_cons_zero, List.set_cons_succ, Nat.add_sub_cancel, Nat.reduceAdd, Nat.reduceSub, Option.some.injEq, V.int.injEq, V.bl.injEq, V.ref.injEq, V.str.injEq, List.cons.injEq, and_true, true_and, and_false, false_and, exists_eq_left, exists_eq_left', exists_and_left, exists_and_right, exists_eq, exists_eq', LL.if_dec, reduceCtorEq, exists_false, exists_const, or_false, false_or, if_true, if_false, LL.rInt1, LL.rMx, LL.rMn, and_assoc, Int.reduceNeg, Int.reduceLT, Int.reduceLE, Int.reduceMul, Int.reduceAdd, Int.reduceSub, Int.reducePow, Int.reduceToNat, Nat.reducePow, Nat.reduceLT, true_or, or_true, Bool.not_true, Bool.not_false, Bool.false_eq_true, Bool.or_false, Bool.or_true, Bool.true_or, Bool.false_or, decide_true, decide_false, not_true_eq_false, not_false_eq_true, LL.scal_int, LL.scal_bl, LL.scal_str, LL.isInt, LL.isBl, LL.isStr, LL.isLst, LL.isTup, LL.isDic]
      refine use_setL upd_same rfl ?_
      rw [upd_upd]
      refine ⟨by decide, ?_⟩
      split
      · exact use_setL upd_same rfl (by rw [upd_upd]; exact q _ (Aft.st D (by omega)))
      · exact use_setL upd_same rfl (by rw [upd_upd]; exact q _ (Aft.st D (by omega)))
    · exact q _ (Aft.refl D)
theorem ok_law_take (T : Tx K mg) : FnOk P w K mg base CX0 2 (He.ga K "_law_take") T.fd_law_take P_law_take sp_law_take := by
  refine T.F_law_take.ok sc_law_take (fun vs H Q E h => ?_) (fun cdv A outer s H vs Q E hr h => ⟨_, PSs.nox (pss_cons (ps_if (pt_cmpR op_lt (pv 1) (pe_int) (nomark _)) (pss_one (ps_ret (pe_int))) pss_nil) (pss_cons (ps_set (i := 2) sc_law_take.nd rfl (Or.inl rfl) (pe_ix (show IxR _ (rIxL K) from ix_list) (pv 0) (pe_int) (fun _ _ => rfl))) (pss_cons (ps_asg (pe_op op_add (pe_ix (show IxR _ (rIxL K) from ix_list) (pv 2) (pe_int) (fun _ _ => rfl)) (pe_int)) (pg_sub (pv 2) (pe_int) set_list)) (pss_cons (ps_if (PW.pt (pw_and (pt_cmpR op_lt (pe_ix (show IxR _ (rIxL K) from ix_list) (pv 2) (pe_int) (fun _ _ => rfl)) (pe_int) (nomark _)) (pw_and1 (pt_cmpR op_lt (pe_ix (show IxR _ (rIxL K) from ix_list) (pv 2) (pe_int) (fun _ _ => rfl)) (pe_int) (nomark _))))) (pss_one (ps_expr (pe_call (ok_law_next_cell T) hr rfl T.g_law_next_cell T.F_law_next_cell.kp (b_law_next_cell T) .nil pass0 (pa_cons (pv 0) pa_nil)))) pss_nil) (pss_cons (ps_if (pt_cmpR op_gt (pe_ix (show IxR _ (rIxL K) from ix_list) (pv 2) (pe_int) (fun _ _ => rfl)) (pe_int) (nomark _)) (pss_cons (ps_set (i := 3) sc_law_take.nd rfl (Or.inl rfl) (pe_op op_mod (pe_callTy LL.call_intI (by rfl) T.z_int (by decide +kernel) (pa_cons (pe_ix (show IxR _ (rIxL K) from ix_list) (pv 2) (pe_int) (fun _ _ => rfl)) pa_nil)) (pv 1))) (pss_cons (ps_asg (pe_op op_fdivW (pe_ix (show IxR _ (rIxL K) from ix_list) (pv 2) (pe_int) (fun _ _ => rfl)) (pv 1)) (pg_sub (pv 2) (pe_int) set_list)) (pss_one (ps_ret (pv 3))))) pss_nil) (pss_cons (ps_if (pt_cmpR op_gt (pe_ix (show IxR _ (rIxL K) from ix_list) (pv 2) (pe_int) (fun _ _ => rfl)) (pe_int) (nomark _)) (pss_one (ps_asg (pe_op op_sub (pe_ix (show IxR _ (rIxL K) from ix_list) (pv 2) (pe_int) (fun _ _ => rfl)) (pe_int)) (pg_sub (pv 2) (pe_int) set_list))) pss_nil) (pss_one (ps_ret (pe_call (ok_law_mixed T) hr rfl T.g_law_mixed T.F_law_mixed.kp (b_law_mixed T) .nil pass0 (pa_cons (pe_ix (show IxR _ (rIxL K) from ix_list) (pv 2) (pe_int) (fun _ _ => rfl)) (pa_cons (pe_ix (show IxR _ (rIxL K) from ix_list) (pv 2) (pe_int) (fun _ _ => rfl)) (pa_cons (pv 1) pa_nil)))))))))))), ?_⟩)
  · obtain ⟨_, _, _, rfl, _⟩ := h
    rfl
  · obtain ⟨d, s, m, rfl, D, hmb, q⟩ := h
    obtain ⟨⟨c, hd, hcs, ns, hc⟩, ⟨i, v, k, t, gg, hi, hs⟩, hds⟩ := _root_.id D
    simp only [tSeq, tAsg, tRet, tRetN, tDrop, tNext, tVar, tC, gName, tOp, tUn, rI, rI0, rU, tIfS, tTest, tB, tIf, tAnd, tOr, tNot, tAndV, tOrV, tNotV, tCall, tCons, tNil, tCB, tLst, tTup, tChain, CMul, CDiv, CPow, rEq, rNe, gSub, L2.start, LL.cxK0, LL.cxK1, List.map_cons, List.map_nil, List.length_cons, List.length_nil, List.replicate_succ, List.replicate_zero, List.cons_append, List.nil_append, List.append_nil, List.getElem?_cons_zero, List.getElem?_cons_succ, List.set_cons_zero, List.set_cons_succ, Nat.add_sub_cancel, Nat.reduceAdd, Nat.reduceSub, Option.some.injEq, V.int.injEq, V.bl.injEq, V.ref.injEq, V.str.injEq, List.cons.injEq, and_true, true_and, and_false, false_and, exists_eq_left, exists_eq_left', exists_and_left, exists_and_right, exists_eq, exists_eq', LL.if_dec, reduceCtorEq, exists_false, exists_const, or_false, false_or, if_true, if_false, LL.rInt1, LL.rMx, LL.rMn, and_assoc, Int.reduceNeg, Int.reduceLT, Int.reduceLE, Int.reduceMul, Int.reduceAdd, Int.reduceSub, Int.reducePow, Int.reduceToNat, Nat.reducePow, Nat.reduceLT, true_or, or_true, Bool.not_true, Bool.not_false, Bool.false_eq_true, Bool.or_false, Bool.or_true, Bool.true_or, Bool.false_or, decide_true, decide_false, not_true_eq_false, not_false_eq_true, LL.scal_int, LL.scal_bl, LL.scal_str, LL.isInt, LL.isBl, LL.isStr, LL.isLst, LL.isTup, LL.isDic, N_law_take]
    split
    · exact q _ _ (Aft.refl D) (by decide) (.inr rfl)
    · rename_i hm
      have hm0 : 0 < m := by omega
      refine use_ixL hd rfl (use_ixL hs rfl ?_)
      simp only [tSeq, tAsg, tRet, tRetN, tDrop, tNext, tVar, tC, gName, tOp, tUn, rI, rI0, rU, tIfS, tTest, tB, tIf, tAnd, tOr, tNot, tAndV, tOrV, tNotV, tCall, tCons, tNil, tCB, tLst, tTup, tChain, CMul, CDiv, CPow, rEq, rNe, gSub, L2.start, LL.cxK0, LL.cxK1, List.map_cons, List.map_nil, List.length_cons, List.length_nil, List.replicate_succ, List.replicate_zero, List.cons_append, List.nil_append, List.append_nil, List.getElem?_cons_zero, List.getElem?_cons_succ, List.set_cons_zero, List.set_cons_succ, Nat.add_sub_cancel, Nat.reduceAdd, Nat.reduceSub, Option.some.injEq, V.int.injEq, V.bl.injEq, V.ref.injEq, V.str.injEq, List.cons.injEq, and_true, true_and, and_false, false_and, exists_eq_left, exists_eq_left', exists_and_left, exists_and_right, exists_eq, exists_eq', LL.if_dec, reduceCtorEq, exists_false, exists_const, or_false, false_or, if_true, if_false, LL.rInt1, LL.rMx, LL.rMn, and_assoc, Int.reduceNeg, Int.reduceLT, Int.reduceLE, Int.reduceMul, Int.reduceAdd, Int.reduceSub, Int.reducePow, Int.reduceToNat, Nat.reducePow, Nat.reduceLT, true_or, or_true, Bool.not_true, Bool.not_false, Bool.false_eq_true, Bool.or_false, Bool.or_true, Bool.true_or, Bool.false_or, decide_true, decide_false, not_true_eq_false, not_false_eq_true, LL.scal_int, LL.scal_bl, LL.scal_str, LL.isInt, LL.isBl, LL.isStr, LL.isLst, LL.isTup, LL.isDic]
      refine use_setL hs rfl (use_ixL upd_same rfl ?_)
      simp only [tSeq, tAsg, tRet, tRetN, tDrop, tNext, tVar, tC, gName, tOp, tUn, rI, rI0, rU, tIfS, tTest, tB, tIf, tAnd, tOr, tNot, tAndV, tOrV, tNotV, tCall, tCons, tNil, tCB, tLst, tTup, tChain, CMul, CDiv, CPow, rEq, rNe, gSub, L2.start, LL.cxK0, LL.cxK1, List.map_cons, List.map_nil, List.length_cons, List.length_nil, List.replicate_succ, List.replicate_zero, List.cons_append, List.nil_append, List.append_nil, List.getElem?_cons_zero, List.getElem?_cons_succ, List.set_cons_zero, List.set_cons_succ, Nat.add_sub_cancel, Nat.reduceAdd, Nat.reduceSub, Option.some.injEq, V.int.injEq, V.bl.injEq, V.ref.injEq, V.str.injEq, List.cons.injEq, and_true, true_and, and_false, false_and, exists_eq_left, exists_eq_left', exists_and_left, exists_and_right, exists_eq, exists_eq', LL.if_dec, reduceCtorEq, exists_false, exists_const, or_false, false_or, if_true, if_false, LL.rInt1, LL.rMx, LL.rMn, and_assoc, Int.reduceNeg, Int.reduceLT, Int.reduceLE, Int.reduceMul, Int.reduceAdd, Int.reduceSub, Int.reducePow, Int.reduceToNat, Nat.reducePow, Nat.reduceLT, true_or, or_true, Bool.not_true, Bool.not_false, Bool.false_eq_true, Bool.or_false, Bool.or_true, Bool.true_or, Bool.false_or, decide_true, decide_false, not_true_eq_false, not_false_eq_true, LL.scal_int, LL.scal_bl, LL.scal_str, LL.isInt, LL.isBl, LL.isStr, LL.isLst, LL.isTup, LL.isDic]
      have a1 : Aft d s H (upd H s (.lst [.int i, .int v, .int k, .int (t + 1), .int gg])) := Aft.st D hi
      show (if v < 2 then rIxL K (V.ref s) (V.int 2) (upd H s (.lst [.int i, .int v, .int k, .int (t + 1), .int gg])) _ else rIxL K (V.ref s) (V.int 1) (upd H s (.lst [.int i, .int v, .int k, .int (t + 1), .int gg])) _)
      generalize upd H s (.lst [.int i, .int v, .int k, .int (t + 1), .int gg]) = H1 at a1 ⊢
      clear hs
      have tail : ∀ H1, Aft d s H H1 → rIxL K (V.ref s) (V.int 1) H1 (fun x H1 => ∃ i, x = V.int i ∧ if 1 < i then rIxL K (V.ref s) (V.int 1) H1 (fun x H1 => ∃ i, x = V.int i ∧ 0 < m ∧ rIxL K (V.ref s) (V.int 1) H1 (fun x H1 => ∃ i_1, x = V.int i_1 ∧ CDivW i_1 m ∧ rSetL (V.ref s) (V.int 1) (V.int (i_1 / m)) H1 fun H3 => Q (V.int (i % m)) H3))
          else rIxL K (V.ref s) (V.int 2) H1 (fun x H1 => ∃ i, x = V.int i ∧ if 0 < i then rIxL K (V.ref s) (V.int 2) H1 (fun x H1 => ∃ i, x = V.int i ∧ rSetL (V.ref s) (V.int 2) (V.int (i - 1)) H1 fun H3 => rIxL K (V.ref s) (V.int 4) H3 fun x H1 => rIxL K (V.ref s) (V.int 3) H1 fun x_1 H1 => sp_law_mixed [x, x_1, V.int m] H1 Q E0)
            else rIxL K (V.ref s) (V.int 4) H1 fun x H1 => rIxL K (V.ref s) (V.int 3) H1 fun x_1 H1 => sp_law_mixed [x, x_1, V.int m] H1 Q E0)) := by
        intro H2 a2
        obtain ⟨⟨c2, hd2, hcs2, ns2, hc2⟩, ⟨i2, v2, k2, t2, gg2, hi2, hs2⟩, _⟩ := _root_.id a2.dr
        refine use_ixL hs2 rfl ⟨_, rfl, ?_⟩
        split
        · refine use_ixL hs2 rfl ⟨_, rfl, hm0, use_ixL hs2 rfl ⟨_, rfl, wide_div hm0 hmb (by decide) (by decide), ?_⟩⟩
          exact use_setL hs2 rfl (q _ _ (a2.st2 hi2) (Int.emod_nonneg _ (by omega)) (.inl (Int.emod_lt_of_pos _ hm0)))
        · refine use_ixL hs2 rfl ⟨_, rfl, ?_⟩
          split
          · refine use_ixL hs2 rfl ⟨_, rfl, use_setL hs2 rfl (use_ixL upd_same rfl (use_ixL upd_same rfl ?_))⟩
            exact ⟨_, _, _, rfl, hm0, fun v h0 h1 => q _ _ (a2.st2 hi2) h0 (.inl h1)⟩
          · refine use_ixL hs2 rfl (use_ixL hs2 rfl ?_)
            exact ⟨_, _, _, rfl, hm0, fun v h0 h1 => q _ _ a2 h0 (.inl h1)⟩
      split
      · obtain ⟨_, ⟨i3, v3, k3, t3, gg3, hi3, hs3⟩, _⟩ := _root_.id a1.dr
        refine use_ixL hs3 rfl ⟨_, rfl, ?_⟩
        split
        · exact ⟨d, s, rfl, a1.dr, fun H' a2 => tail _ (a1.trans a2)⟩
        · exact tail _ a1
      · exact tail _ a1
noncomputable def sp_law_draws (K : PySem.W.Frag) : Sp := fun vs H Q _ => ∃ (a : Addr) (ns : List Int), vs = [.ref a] ∧ SqL K H a (ns.map V.int) ∧ ns.length ≤ 100000 ∧ ∀ d s H', Same H H' → Drw d s H' → H d = none → H s = none → Q (.ref d) H'

theorem ok_law_draws (T : Tx K mg) : FnOk P w K mg base CX0 1 (He.ga K "_law_draws") T.fd_law_draws P_law_draws (sp_law_draws K) := by
  refine T.F_law_draws.ok sc_law_draws (fun vs H Q E h => ?_) (fun cdv A outer s H vs Q E hr h => ⟨_, PSs.nox (pss_one (ps_ret (pe_lst (pa_cons (pe_lc (own := [("_law_cell", 1)]) (by rfl) sc_law_draws.nd (pi_list (pv 0)) (blkOk_by (N := N_law_draws) (sc := defScope s_law_draws) (by decide +kernel)) (fun _ _ _ _ _ => (pg_name (i := 1) sc_law_draws.nd rfl (Or.inl rfl))) (fun _ _ _ _ _ => pts_nil) (fun _ _ _ _ _ => (pe_callTy LL.call_intI (by rfl) T.z_int (by decide +kernel) (pa_cons (pv 1) pa_nil)))) (pa_cons (pe_lst (pa_cons (pe_int) (pa_cons (pe_int) (pa_cons (pe_int) (pa_cons (pe_int) (pa_cons (pe_int) pa_nil)))))) pa_nil))))), ?_⟩)
  · obtain ⟨_, _, rfl, _⟩ := h
    rfl
  · obtain ⟨a, ns, rfl, hs, hn, q⟩ := h
    simp only [tSeq, tAsg, tRet, tRetN, tDrop, tNext, tVar, tC, gName, tOp, tUn, rI, rI0, rU, tIfS, tTest, tB, tIf, tAnd, tOr, tNot, tAndV, tOrV, tNotV, tCall, tCons, tNil, tCB, tLst, tTup, tChain, CMul, CDiv, CPow, rEq, rNe, gSub, L2.start, LL.cxK0, LL.cxK1, List.map_cons, List.map_nil, List.length_cons, List.length_nil, List.replicate_succ, List.replicate_zero, List.cons_append, List.nil_append, List.append_nil, List.getElem?_cons_zero, List.getElem?_cons_succ, List.set_cons_zero, List.set_cons_succ, Nat.add_sub_cancel, Nat.reduceAdd, Nat.reduceSub, Option.some.injEq, V.int.injEq, V.bl.injEq, V.ref.injEq, V.str.injEq, List.cons.injEq, and_true, true_and, and_false, false_and, exists_eq_left, exists_eq_left', exists_and_left, exists_and_right, exists_eq, exists_eq', LL.if_dec, reduceCtorEq, exists_false, exists_const, or_false, false_or, if_true, if_false, LL.rInt1, LL.rMx, LL.rMn, and_assoc, Int.reduceNeg, Int.reduceLT, Int.reduceLE, Int.reduceMul, Int.reduceAdd, Int.reduceSub, Int.reducePow, Int.reduceToNat, Nat.reducePow, Nat.reduceLT, true_or, or_true, Bool.not_true, Bool.not_false, Bool.false_eq_true, Bool.or_false, Bool.or_true, Bool.true_or, Bool.false_or, decide_true, decide_false, not_true_eq_false, not_false_eq_true, LL.scal_int, LL.scal_bl, LL.scal_str, LL.isInt, LL.isBl, LL.isStr, LL.isLst, LL.isTup, LL.isDic, N_law_draws]
    refine ⟨_, rfl, a, rfl, ⟨_, hs⟩, fun D hD => ?_⟩
    refine lc_list (K := K) (a := a) (xs := ns.map V.int) (fun i H' => Same H H' ∧ H' D = some (.lst ((ns.take i).map V.int))) ⟨Same.new (Same.refl _) hD, upd_same⟩ (fun i H' _ ⟨s1, _⟩ => s1.seq hs) ?_ ?_
    · rintro i x H' hi ⟨s1, eD⟩
      rw [List.getElem?_map] at hi
      obtain ⟨n, hn2, rfl⟩ := Option.map_eq_some_iff.mp hi
      simp only [tSeq, tAsg, tRet, tRetN, tDrop, tNext, tVar, tC, gName, tOp, tUn, rI, rI0, rU, tIfS, tTest, tB, tIf, tAnd, tOr, tNot, tAndV, tOrV, tNotV, tCall, tCons, tNil, tCB, tLst, tTup, tChain, CMul, CDiv, CPow, rEq, rNe, gSub, L2.start, LL.cxK0, LL.cxK1, List.map_cons, List.map_nil, List.length_cons, List.length_nil, List.replicate_succ, List.replicate_zero, List.cons_append, List.nil_append, List.append_nil, List.getElem?_cons_zero, List.getElem?_cons_succ, List.set_cons_zero, List.set_cons_succ, Nat.add_sub_cancel, Nat.reduceAdd, Nat.reduceSub, Option.some.injEq, V.int.injEq, V.bl.injEq, V.ref.injEq, V.str.injEq, List.cons.injEq, and_true, true_and, and_false, false_and, exists_eq_left, exists_eq_left', exists_and_left, exists_and_right, exists_eq, exists_eq', LL.if_dec, reduceCtorEq, exists_false, exists_const, or_false, false_or, if_true, if_false, LL.rInt1, LL.rMx, LL.rMn, and_assoc, Int.reduceNeg, Int.reduceLT, Int.reduceLE, Int.reduceMul, Int.reduceAdd, Int.reduceSub, Int.reducePow, Int.reduceToNat, Nat.reducePow, Nat.reduceLT, true_or, or_true, Bool.not_true, Bool.not_false, Bool.false_eq_true, Bool.or_false, Bool.or_true, Bool.true_or, Bool.false_or, decide_true, decide_false, not_true_eq_false, not_false_eq_true, LL.scal_int, LL.scal_bl, LL.scal_str, LL.isInt, LL.isBl, LL.isStr, LL.isLst, LL.isTup, LL.isDic, tYes, wipe, List.foldl_cons, List.foldl_nil]
      refine ⟨_, eD, small_sz (by rw [List.length_map, List.length_take]; omega), Same.own s1 hD, ?_⟩
      rw [upd_same, take_one hn2, List.map_append]
      rfl
    · rintro H' ⟨s1, eD⟩
      rw [List.length_map, List.take_length] at eD
      refine ⟨by decide, ?_⟩
      have nD : ∀ b, H' b = none → b ≠ D := fun b nb z => by rw [z, eD] at nb; cases nb
      intro p2 np2
      generalize hq : upd H' p2 _ = H2
      have sH2 : Same H' H2 := hq ▸ Same.new (Same.refl _) np2
      have ep2 := hq ▸ (upd_same (H := H') (a := p2))
      clear hq
      replace eD := sH2 _ _ eD
      refine ⟨by decide, ?_⟩
      intro p3 np3
      generalize hq : upd H2 p3 _ = H3
      have sH3 : Same H2 H3 := hq ▸ Same.new (Same.refl _) np3
      have ep3 := hq ▸ (upd_same (H := H2) (a := p3))
      clear hq
      replace eD := sH3 _ _ eD
      replace ep2 := sH3 _ _ ep2
      refine q p3 p2 H3 ((s1.trans sH2).trans sH3) ⟨⟨D, ep3, (nD _ np2).symm, ns, eD⟩, ⟨0, 0, 0, 0, 11, by decide, ep2⟩, fun z => by rw [z] at np3; rw [z] at ep3; rw [ep3] at ep2; cases ep2⟩ ((s1.trans sH2).free np3) (s1.free np2)
noncomputable def wp_take : Pw := fun ts Ω PQ _ => ∃ m : Int, ts = [.drw, .int m] ∧ m.natAbs < 2 ^ 4000 ∧ ∀ v : Int, 0 ≤ v → (v < m ∨ v = 0) → PQ (.int v) Ω
theorem okt_law_take (T : Tx K mg) : FnOk P w K mg base CX0 2 (He.ga K "_law_take") T.fd_law_take P_law_take (spD K wp_take 2) := (ok_law_take T).imp fun vs H Q E h => by
  obtain ⟨g, Ω, ts, PQ, PX, hl, d, o, ⟨m, rfl, hm, q⟩, aq, _⟩ := h
  obtain ⟨v, _, rfl, ⟨d0, s, eg, rfl⟩, u, _, rfl, rfl, rfl⟩ := d
  refine ⟨d0, s, m, rfl, (o.dr d0 s eg).drw, hm, fun v H' a h0 h1 => ?_⟩
  obtain ⟨k, o'⟩ := of_aft o eg a
  exact aq _ Ω _ H' (q v h0 h1) k o' rfl
theorem big_of {n : Int} (h0 : -1000000000000 ≤ n) (h : n ≤ 1000000000000) : n.natAbs < 2 ^ 4000 := Nat.lt_of_le_of_lt (show n.natAbs ≤ 1000000000000 by omega) (by decide +kernel)
noncomputable def wp_between : Pw := fun ts Ω PQ _ => ∃ lo hi : Int, ts = [.drw, .int lo, .int hi] ∧ (hi - lo + 1).natAbs < 2 ^ 4000 ∧ ∀ v : Int, lo ≤ v → (v ≤ hi ∨ v = lo) → PQ (.int v) Ω
noncomputable def wp_count : Pw := fun ts Ω PQ _ => ∃ lo hi : Int, ts = [.drw, .int lo, .int hi] ∧ 0 ≤ lo ∧ lo ≤ hi ∧ hi ≤ 100000000000 ∧ ∀ v : Int, 0 ≤ v → v ≤ hi → PQ (.int v) Ω
theorem lenT_of {t : Tr} {Ω : Om} {us : List Tr} (h : asS t Ω = some us) : ∃ n, lenT t Ω = some n ∧ n = us.length := by
  cases t with
  | lst ts => cases h; exact ⟨_, rfl, rfl⟩
  | tup ts => cases h; exact ⟨_, rfl, rfl⟩
  | obj a =>
    have h' : cellL (Ω a) = some us := h
    exact ⟨_, by show (match cellL (Ω a) with | some ts => some ts.length | none => _) = _; rw [h'], rfl⟩
  | _ => cases h
noncomputable def wp_among : Pw := fun ts Ω PQ _ => ∃ r us, ts = [.drw, r] ∧ asS r Ω = some us ∧ us ≠ [] ∧ ∀ x ∈ us, PQ x Ω
theorem tk_call {m : Int} {Ω : Om} {P : PT'} {X : PXt} (h : m.natAbs < 2 ^ 4000) (k : ∀ v : Int, 0 ≤ v → (v < m ∨ v = 0) → P (.int v) Ω) : wp_take [.drw, .int m] Ω P X := ⟨m, rfl, h, k⟩
theorem tk_big {m : Int} (h0 : -1000000000000 ≤ m) (h : m ≤ 1000000000000) : m.natAbs < 2 ^ 4000 := big_of h0 h
theorem bt_call {lo hi : Int} {Ω : Om} {P : PT'} {X : PXt} (h : (hi - lo + 1).natAbs < 2 ^ 4000) (k : ∀ v : Int, lo ≤ v → (v ≤ hi ∨ v = lo) → P (.int v) Ω) : wp_between [.drw, .int lo, .int hi] Ω P X := ⟨lo, hi, rfl, h, k⟩
theorem ct_call {lo hi : Int} {Ω : Om} {P : PT'} {X : PXt} (h : 0 ≤ lo ∧ lo ≤ hi ∧ hi ≤ 100000000000) (k : ∀ v : Int, 0 ≤ v → v ≤ hi → P (.int v) Ω) : wp_count [.drw, .int lo, .int hi] Ω P X := ⟨lo, hi, rfl, h.1, h.2.1, h.2.2, k⟩
theorem am_call {r : Tr} {us : List Tr} {Ω : Om} {P : PT'} {X : PXt} (h : asS r Ω = some us) (h1 : us ≠ []) (k : ∀ x ∈ us, P x Ω) : wp_among [.drw, r] Ω P X := ⟨r, us, rfl, h, h1, k⟩
theorem lst_in {ts : List Tr} {Ω : Om} {P : PT'} (h : P (.lst ts) Ω) : lstNew ts Ω P := .inl h
theorem dic_in {us : List (Key × Tr)} {Ω : Om} {P : PT'} (h : P (dicOf us) Ω) : dicNew us Ω P := .inl h
theorem pick_at {α : Type} {us : List α} {v : Int} (h0 : 0 ≤ v) (h1 : v < us.length) : ∃ x ∈ us, L2.atI us v = some x := by
  obtain ⟨j, rfl⟩ := Int.eq_ofNat_of_zero_le h0
  have hj : j < us.length := by omega
  exact ⟨us[j], List.getElem_mem hj, atI_nat (List.getElem?_eq_getElem hj)⟩
theorem ok_law_between (T : Tx K mg) : FnOk P w K mg base CX0 3 (He.ga K "_law_between") T.fd_law_between P_law_between (spD K wp_between 3) := by
  refine dok T.F_law_between sc_law_between fun cdv A outer s H E hr => ?_
  refine' dokMk (PSs.nox (pss_cons (ps_if (pt_cmpR op_le (pv 2) (pv 1) (nomark _)) (pss_one (ps_ret (pv 1))) pss_nil) (pss_cons (ps_set (i := 3) sc_law_between.nd rfl (Or.inl rfl) (pe_call (okt_law_take T) hr rfl T.g_law_take T.F_law_take.kp (b_law_take T) .nil pass0 (pa_cons (pv 0) (pa_cons (pe_int) pa_nil)))) (pss_cons (ps_if (pt_cmpR op_eq (pv 3) (pe_int) (nomark _)) (pss_one (ps_ret (pv 1))) pss_nil) (pss_cons (ps_if (pt_cmpR op_eq (pv 3) (pe_int) (nomark _)) (pss_one (ps_ret (pv 2))) pss_nil) (pss_one (ps_ret (pe_op (show OpR _ _ (LT.rAddG K) from LT.op_addG) (pv 1) (pe_call (okt_law_take T) hr rfl T.g_law_take T.F_law_take.kp (b_law_take T) .nil pass0 (pa_cons (pv 0) (pa_cons (pe_op (show OpR _ _ (LT.rAddG K) from LT.op_addG) (pe_op op_sub (pv 2) (pv 1)) (pe_int)) pa_nil))))))))))) ?sim ?go
  case sim =>
    try simp only [LL.cxK0, LL.cxK1, List.map_cons, List.map_nil]
    repeat' (first | fail "f" | with_reducible exact simc_isiO | with_reducible apply sim_iR3 | with_reducible apply sim_gLst | with_reducible apply sim_tryR0 | with_reducible apply sim_tryR | with_reducible apply SimRow.cons | with_reducible exact SimRow.nil | with_reducible apply sim_mthS (dts := []) .nil | with_reducible apply sim_makeK (gT := fun ts us => ts ++ us) (fun _ _ _ _ _ _ _ h1 h2 => vdl_app h2 h1) | with_reducible apply sim_makeK (gT := fun ts us => ts ++ us ++ [.non]) (fun _ _ _ _ _ _ _ h1 h2 => vdl_app vdl_N (vdl_app h2 h1)) | with_reducible apply sim_make0 (dts := [.int 0, .non]) df_0N | with_reducible apply sim_fld T.c_Places T.n_Places__spans | with_reducible apply sim_setF T.c_Places T.n_Places__spans | with_reducible apply sim_forI | with_reducible apply sim_pop | with_reducible apply sim_tru | with_reducible apply sim_prop | with_reducible apply sim_make (dts := []) .nil | with_reducible apply sim_make0 (dts := []) .nil | with_reducible apply sim_meth0 (dts := []) .nil | with_reducible apply sim_meth (dts := []) .nil | fail "s")
  case go =>
    intro ts Ω PQ PX hl h
    obtain ⟨lo, hi, rfl, hm, q⟩ := h
    simp! only [N_law_between]
    refine itei (fun h => q _ (by omega) (.inr rfl)) fun h => ?_
    refine ⟨6, rfl, by decide, fun v h0 h1 => ?_⟩
    simp! only [and_true]
    refine itei (fun h => q _ (by omega) (.inr rfl)) fun h => itei (fun h => q _ (by omega) (.inl (by omega))) fun h => ?_
    exact ⟨_, rfl, hm, fun v h0 h1 => q _ (by omega) (by omega)⟩
theorem ok_law_count (T : Tx K mg) : FnOk P w K mg base CX0 4 (He.ga K "_law_count") T.fd_law_count P_law_count (spD K wp_count 3) := by
  refine dok T.F_law_count sc_law_count fun cdv A outer s H E hr => ?_
  refine' dokMk (PSs.nox (pss_cons (ps_if (pt_cmpR op_eq (pe_call (okt_law_take T) (hr.mono (by decide)) rfl T.g_law_take T.F_law_take.kp (b_law_take T) .nil pass0 (pa_cons (pv 0) (pa_cons (pe_int) pa_nil))) (pe_int) (nomark _)) (pss_one (ps_ret (pe_call (ok_law_between T) hr rfl T.g_law_between T.F_law_between.kp (b_law_between T) .nil pass0 (pa_cons (pv 0) (pa_cons (pv 1) (pa_cons (pv 2) pa_nil)))))) pss_nil) (pss_one (ps_ret (pe_call (ok_law_between T) hr rfl T.g_law_between T.F_law_between.kp (b_law_between T) .nil pass0 (pa_cons (pv 0) (pa_cons (pe_int) (pa_cons (pv 1) pa_nil)))))))) ?sim ?go
  case sim =>
    try simp only [LL.cxK0, LL.cxK1, List.map_cons, List.map_nil]
    repeat' (first | fail "f" | with_reducible exact simc_isiO | with_reducible apply sim_iR3 | with_reducible apply sim_gLst | with_reducible apply sim_tryR0 | with_reducible apply sim_tryR | with_reducible apply SimRow.cons | with_reducible exact SimRow.nil | with_reducible apply sim_mthS (dts := []) .nil | with_reducible apply sim_makeK (gT := fun ts us => ts ++ us) (fun _ _ _ _ _ _ _ h1 h2 => vdl_app h2 h1) | with_reducible apply sim_makeK (gT := fun ts us => ts ++ us ++ [.non]) (fun _ _ _ _ _ _ _ h1 h2 => vdl_app vdl_N (vdl_app h2 h1)) | with_reducible apply sim_make0 (dts := [.int 0, .non]) df_0N | with_reducible apply sim_fld T.c_Places T.n_Places__spans | with_reducible apply sim_setF T.c_Places T.n_Places__spans | with_reducible apply sim_forI | with_reducible apply sim_pop | with_reducible apply sim_tru | with_reducible apply sim_prop | with_reducible apply sim_make (dts := []) .nil | with_reducible apply sim_make0 (dts := []) .nil | with_reducible apply sim_meth0 (dts := []) .nil | with_reducible apply sim_meth (dts := []) .nil | fail "s")
  case go =>
    intro ts Ω PQ PX hl h
    obtain ⟨lo, hi, rfl, h0, h1, h2, q⟩ := h
    simp! only [N_law_count]
    refine ⟨8, rfl, by decide, fun v h3 h4 => ?_⟩
    simp! only [and_true]
    refine itei (fun h => ⟨_, _, rfl, big_of (by omega) (by omega), fun v h5 h6 => q v (by omega) (by omega)⟩) fun h => ⟨_, _, rfl, big_of (by omega) (by omega), fun v h5 h6 => q v (by omega) (by omega)⟩
theorem ok_law_among (T : Tx K mg) : FnOk P w K mg base CX0 3 (He.ga K "_law_among") T.fd_law_among P_law_among (spD K wp_among 2) := by
  refine dok T.F_law_among sc_law_among fun cdv A outer s H E hr => ?_
  refine' dokMk (PSs.nox (pss_one (ps_ret (pe_ix (show IxR _ (LL.rIxA K) from LL.ix_A) (pv 1) (pe_call (okt_law_take T) hr rfl T.g_law_take T.F_law_take.kp (b_law_take T) .nil pass0 (pa_cons (pv 0) (pa_cons (pe_callB (show CallR _ _ (LT.rLenS K) from LT.call_lenS) (by rfl) T.z_len (by decide +kernel) (pa_cons (pv 1) pa_nil)) pa_nil))) (fun _ _ => rfl))))) ?sim ?go
  case sim =>
    try simp only [LL.cxK0, LL.cxK1, List.map_cons, List.map_nil]
    repeat' (first | fail "f" | with_reducible exact simc_isiO | with_reducible apply sim_iR3 | with_reducible apply sim_gLst | with_reducible apply sim_tryR0 | with_reducible apply sim_tryR | with_reducible apply SimRow.cons | with_reducible exact SimRow.nil | with_reducible apply sim_mthS (dts := []) .nil | with_reducible apply sim_makeK (gT := fun ts us => ts ++ us) (fun _ _ _ _ _ _ _ h1 h2 => vdl_app h2 h1) | with_reducible apply sim_makeK (gT := fun ts us => ts ++ us ++ [.non]) (fun _ _ _ _ _ _ _ h1 h2 => vdl_app vdl_N (vdl_app h2 h1)) | with_reducible apply sim_make0 (dts := [.int 0, .non]) df_0N | with_reducible apply sim_fld T.c_Places T.n_Places__spans | with_reducible apply sim_setF T.c_Places T.n_Places__spans | with_reducible apply sim_forI | with_reducible apply sim_pop | with_reducible apply sim_tru | with_reducible apply sim_prop | with_reducible apply sim_make (dts := []) .nil | with_reducible apply sim_make0 (dts := []) .nil | with_reducible apply sim_meth0 (dts := []) .nil | with_reducible apply sim_meth (dts := []) .nil | fail "s")
  case go =>
    intro ts Ω PQ PX hl h
    obtain ⟨r, us, rfl, hr, hne, q⟩ := h
    have hl' : ∃ n, lenT r Ω = some n ∧ n = us.length := lenT_of hr
    obtain ⟨n, en, rfl⟩ := hl'
    simp! only [N_law_among]
    refine ⟨_, en, fun hz => ⟨_, rfl, Nat.lt_of_le_of_lt (show (us.length : Int).natAbs ≤ 1000000 by omega) (by decide +kernel), fun v h0 h1 => ?_⟩⟩
    have h2 : v < us.length := by
      rcases h1 with h1 | h1
      · exact h1
      · have := List.length_pos_iff.mpr hne
        omega
    obtain ⟨x, hx, e⟩ := pick_at h0 h2
    exact ⟨us, hr, v, rfl, x, e, q x hx⟩
end K05

namespace K05
open PySem PySem.Spec PyProof.Rows L2 LL LT
set_option autoImplicit false
local macro_rules | `(tactic| fail "f") => `(tactic| with_reducible first | exact sim_var | exact sim_int | exact sim_str | exact sim_nil | apply sim_cons | apply sim_op | exact simr_IxA | apply sim_test | apply sim_seq | apply sim_ifS | apply sim_ret | apply sim_asg | apply sim_tup | exact sim_gName | exact sim_next | exact simr_Eq | apply simr_I0 | apply sim_call0 | apply sim_call | apply sim_not | apply sim_and | apply sim_or | exact sim_non | exact sim_bl)
local macro_rules | `(tactic| fail "s") => `(tactic| first | (with_reducible first | exact sim_var | exact sim_int | exact sim_bl | exact sim_str | exact sim_non | exact sim_ty | exact sim_ref | exact sim_nil | apply sim_cons | apply sim_op | apply simr_I0 | apply simr_I | exact simr_Eq | exact simr_Ne | exact simr_IxA | exact simr_addG | exact simr_isN | exact simr_notN | exact simr_isB | exact simr_in | exact simr_IxL | exact simr_IxT | exact simr_IxS | exact simr_EqD | exact simr_NeD | exact simr_rep | exact simr_repW | apply sim_un | apply sim_test | apply sim_tB | apply sim_and | apply sim_or | apply sim_not | apply sim_andV | apply sim_orV | apply sim_notV | apply sim_if | apply sim_chain | apply sim_tup | apply sim_lst | apply sim_bor0 | apply sim_bor | apply sim_borS | apply sim_call0 | apply sim_call | apply sim_callS | apply sim_callZ | apply sim_isXT | apply sim_isX | apply sim_xf | apply sim_sortS | apply sim_listRg | apply sim_CB | exact simc_len | exact simc_int | exact simc_isi | exact simc_mx | exact simc_mn | exact simc_sum | exact simc_maxL | exact simc_minL | exact simc_minS | exact simc_all | exact simc_any | exact simc_list | exact simc_tuple | exact simc_isiT | exact simc_strI | exact simc_sortI | exact simc_sortR | apply sim_sl | exact simsl_G | exact simsl_L | exact sim_oNone | apply sim_oSome | apply sim_append | exact sim_newD | apply sim_disp1 | apply sim_dget2 | apply sim_dget1 | apply sim_dget | apply sim_din | apply sim_dnotin | apply sim_lc | apply sim_dc | exact sim_yes | apply sim_iL | apply sim_iT | apply sim_iS | apply sim_iR1 | apply sim_iR2 | apply sim_iE | apply sim_iZ | apply sim_revT | exact gin_name (by decide) | apply gin_tup | exact gin_nil | apply gin_cons | exact mono_name | exact mono_nil | apply mono_cons | apply mono_tup | exact sim_next | apply sim_mk | apply sim_fgl | apply sim_fg | apply sim_seq | apply sim_ret | exact sim_retN | apply sim_drop | exact sim_break | exact sim_cont | apply sim_ifS | apply sim_asg | exact sim_gName | apply sim_gTup | exact sim_gNil | apply sim_gCons | apply sim_gSub | apply sim_for | apply sim_while | apply sim_dput | apply sim_raise | apply sim_tryT0 | apply sim_tryT) | exact fun _ _ => rfl | exact fun _ => rfl | exact fun _ _ _ _ => rfl | intro W | intro a cls d x)
local macro_rules | `(tactic| fail "l") => `(tactic| (simp only [List.length_append,List.length_take,List.length_drop,List.length_map,List.length_cons,List.length_nil,List.length_set,List.length_replicate,List.length_range]; omega))
local macro_rules | `(tactic| fail "r") => `(tactic| first | fail "d" | with_reducible refine fun (_ : _ ≤ 1000000) => ?_ | with_reducible refine Or.inl (fun (_ : _ ≤ 1000000) => ?_) | with_reducible refine lst_in ?_ | with_reducible refine dic_in ?_ | with_reducible refine tk_call (by first | decide | exact tk_big (by omega) (by omega)) fun v h0 h1 => ?_ | with_reducible refine bt_call (by first | decide | exact tk_big (by omega) (by omega)) fun v h0 h1 => ?_ | with_reducible refine ct_call (by first | decide | exact ⟨by omega, by omega, by omega⟩) fun v h0 h1 => ?_ | with_reducible refine LL.itei (fun h => ?_) fun h => ?_ | with_reducible refine pickP (by omega) (by simp only [List.length_cons, List.length_nil]; omega) ?_ | with_reducible refine List.forall_mem_cons.mpr (And.intro ?_ ?_) | with_reducible exact LT.nil_all | with_reducible refine And.intro (by first | (unfold CPow; decide) | omega | rfl) ?_ | with_reducible refine am_call rfl (List.cons_ne_nil _ _) ?_ | refine And.intro (show CMul _ _ from .inl ⟨by omega, by omega⟩) ?_)
local macro_rules | `(tactic| fail "d") => `(tactic| simp only [and_true,dIsiO,diR3,dCntB,dIdxB,dLstG,dTryR0,dTryR,exRow,endsT,dMakeK,dTru,dPop,dFld,dSetF,dMeth,dMeth0,dProp,dMake,dSortI,dSortR,dLstRg,dRepW,dRetF,dForgets,asD_put,dSortS,dDPut,dCallZ,dBor,dBor0,diZ,dRevT,dStrI,dIsXT,dTry0,dTry,dXf,dIsX,dNewD,dDisp1,Prod.mk.injEq,wipeT,Int.toNat_natCast,asL_put,put_same,put_put,Cell.lst.injEq,atI_0,atI_1,atI_2,atI_3,atI_4,atI_5,atI_6,atI_7,atI_8,atI_9,Tr.ty.injEq,tyN_int,tyN_bool,tyN_str,tyN_list,tyN_tuple,tyN_dict,dVar,dC,dName,dOp,dI,dI0,dUn,dU,dEq,dNe,dTest,dAnd,dOr,dNot,dAndV,dOrV,dNotV,dIf,dChain,dNil,dCons,dTup,dLst,dCall,dCall0,dCB,dNext,dSeq,dRet,dRetN,dDrop,dBreak,dCont,dIfS,dgNil,dgCons,dTupG,dAsg,diL,diT,diS,diR1,diR2,diE,dYes,dIx,dLen,dInt,dMx,dSum,dAll,dIsi,dIsiT,doNone,doSome,dSl,dApp,dSub,dSet,dEqD,dGet,dGet1,dGet2,LT.dIn,dIsN,dIsB,dIn',dList,dTuple,dRaise,dMaxL,dMinL,dMinS,dRep,asL_lst,asS_lst,asS_tup,asT_tup,flatV',Tr.int.injEq,Tr.bl.injEq,Tr.str.injEq,Tr.lst.injEq,Tr.tup.injEq,Tr.obj.injEq,Option.isSome_some,List.map_cons,List.map_nil,List.length_cons,List.length_nil,List.replicate_succ,List.replicate_zero,List.cons_append,List.nil_append,List.append_nil,List.getElem?_cons_zero,List.getElem?_cons_succ,List.set_cons_zero,List.set_cons_succ,Nat.add_sub_cancel,Nat.reduceAdd,Nat.reduceSub,Option.some.injEq,List.cons.injEq,and_true,true_and,and_false,false_and,exists_eq_left,exists_eq_left',exists_and_left,exists_and_right,exists_eq,exists_eq',LL.if_dec,reduceCtorEq,exists_false,exists_const,or_false,false_or,if_true,if_false,and_assoc,Int.reduceEq,Int.reduceNe,Int.reduceNeg,Int.reduceLT,Int.reduceLE,Int.reduceMul,Int.reduceAdd,Int.reduceSub,Int.reducePow,Int.reduceToNat,Nat.reducePow,Nat.reduceLT,Nat.reduceLeDiff,true_or,or_true,Bool.not_true,Bool.not_false,Bool.false_eq_true,Bool.or_false,Bool.or_true,Bool.true_or,Bool.false_or,decide_true,decide_false,not_true_eq_false,not_false_eq_true,LL.scal_int,LL.scal_bl,LL.scal_str,V.int.injEq,V.bl.injEq,V.str.injEq,Nat.zero_le,forall_const,true_implies,kindT_non,isNonT_non,flatT_non,flatK_non,isBT_non_true,isBT_non_false,toV_non,ofV_non,keyT_non,isT_non_int,isT_non_bool,isT_non_str,isT_non_list,isT_non_tuple,isT_non_dict,kindT_bl,isNonT_bl,flatT_bl,flatK_bl,toV_bl,ofV_bl,keyT_bl,isT_bl_int,isT_bl_bool,isT_bl_str,isT_bl_list,isT_bl_tuple,isT_bl_dict,kindT_int,isNonT_int,flatT_int,flatK_int,isBT_int_true,isBT_int_false,toV_int,ofV_int,keyT_int,isT_int_int,isT_int_bool,isT_int_str,isT_int_list,isT_int_tuple,isT_int_dict,kindT_str,isNonT_str,flatT_str,flatK_str,isBT_str_true,isBT_str_false,toV_str,ofV_str,keyT_str,isT_str_int,isT_str_bool,isT_str_str,isT_str_list,isT_str_tuple,isT_str_dict,kindT_lst,isNonT_lst,flatT_lst,flatK_lst,isBT_lst_true,isBT_lst_false,lenT_lst,keyT_lst,isT_lst_int,isT_lst_bool,isT_lst_str,isT_lst_list,isT_lst_tuple,isT_lst_dict,kindT_tup,isNonT_tup,flatT_tup,flatK_tup,isBT_tup_true,isBT_tup_false,lenT_tup,keyT_tup,isT_tup_int,isT_tup_bool,isT_tup_str,isT_tup_list,isT_tup_tuple,isT_tup_dict,kindT_dic,isNonT_dic,flatT_dic,flatK_dic,isBT_dic_true,isBT_dic_false,lenT_dic,keyT_dic,isT_dic_int,isT_dic_bool,isT_dic_str,isT_dic_list,isT_dic_tuple,isT_dic_dict,kindT_obj,isNonT_obj,flatT_obj,flatK_obj,isBT_obj_true,isBT_obj_false,keyT_obj,kindT_drw,isNonT_drw,flatT_drw,flatK_drw,isBT_drw_true,isBT_drw_false,keyT_drw,kindT_ty,isNonT_ty,flatT_ty,flatK_ty,isBT_ty_true,isBT_ty_false,toV_ty,ofV_ty,keyT_ty,asD_dic,isBT_bl,dAddG_int,dAddG_str,dAddG_tup,dAddG_lst_lst,dAddG_lst_obj,dAddG_obj_lst,dAddG_obj_obj,dSlG_tup,dSlG_str,dSlG_lst,dSlG_obj])
local macro_rules | `(tactic| simp! only [$xs,*]) => `(tactic| try simp only [$xs,*,dIsiO,diR3,dCntB,dIdxB,dLstG,dTryR0,dTryR,exRow,endsT,dMakeK,dTru,dPop,dFld,dSetF,dMeth,dMeth0,dProp,dMake,dSortI,dSortR,dLstRg,dRepW,dRetF,dForgets,asD_put,dSortS,dDPut,dCallZ,dBor,dBor0,diZ,dRevT,dStrI,dIsXT,dTry0,dTry,dXf,dIsX,dNewD,dDisp1,Prod.mk.injEq,wipeT,Int.toNat_natCast,asL_put,put_same,put_put,Cell.lst.injEq,atI_0,atI_1,atI_2,atI_3,atI_4,atI_5,atI_6,atI_7,atI_8,atI_9,Tr.ty.injEq,tyN_int,tyN_bool,tyN_str,tyN_list,tyN_tuple,tyN_dict,dVar,dC,dName,dOp,dI,dI0,dUn,dU,dEq,dNe,dTest,dAnd,dOr,dNot,dAndV,dOrV,dNotV,dIf,dChain,dNil,dCons,dTup,dLst,dCall,dCall0,dCB,dNext,dSeq,dRet,dRetN,dDrop,dBreak,dCont,dIfS,dgNil,dgCons,dTupG,dAsg,diL,diT,diS,diR1,diR2,diE,dYes,dIx,dLen,dInt,dMx,dSum,dAll,dIsi,dIsiT,doNone,doSome,dSl,dApp,dSub,dSet,dEqD,dGet,dGet1,dGet2,LT.dIn,dIsN,dIsB,dIn',dList,dTuple,dRaise,dMaxL,dMinL,dMinS,dRep,asL_lst,asS_lst,asS_tup,asT_tup,flatV',Tr.int.injEq,Tr.bl.injEq,Tr.str.injEq,Tr.lst.injEq,Tr.tup.injEq,Tr.obj.injEq,Option.isSome_some,List.map_cons,List.map_nil,List.length_cons,List.length_nil,List.replicate_succ,List.replicate_zero,List.cons_append,List.nil_append,List.append_nil,List.getElem?_cons_zero,List.getElem?_cons_succ,List.set_cons_zero,List.set_cons_succ,Nat.add_sub_cancel,Nat.reduceAdd,Nat.reduceSub,Option.some.injEq,List.cons.injEq,and_true,true_and,and_false,false_and,exists_eq_left,exists_eq_left',exists_and_left,exists_and_right,exists_eq,exists_eq',LL.if_dec,reduceCtorEq,exists_false,exists_const,or_false,false_or,if_true,if_false,and_assoc,Int.reduceEq,Int.reduceNe,Int.reduceNeg,Int.reduceLT,Int.reduceLE,Int.reduceMul,Int.reduceAdd,Int.reduceSub,Int.reducePow,Int.reduceToNat,Nat.reducePow,Nat.reduceLT,Nat.reduceLeDiff,true_or,or_true,Bool.not_true,Bool.not_false,Bool.false_eq_true,Bool.or_false,Bool.or_true,Bool.true_or,Bool.false_or,decide_true,decide_false,not_true_eq_false,not_false_eq_true,LL.scal_int,LL.scal_bl,LL.scal_str,V.int.injEq,V.bl.injEq,V.str.injEq,Nat.zero_le,forall_const,true_implies,kindT_non,isNonT_non,flatT_non,flatK_non,isBT_non_true,isBT_non_false,toV_non,ofV_non,keyT_non,isT_non_int,isT_non_bool,isT_non_str,isT_non_list,isT_non_tuple,isT_non_dict,kindT_bl,isNonT_bl,flatT_bl,flatK_bl,toV_bl,ofV_bl,keyT_bl,isT_bl_int,isT_bl_bool,isT_bl_str,isT_bl_list,isT_bl_tuple,isT_bl_dict,kindT_int,isNonT_int,flatT_int,flatK_int,isBT_int_true,isBT_int_false,toV_int,ofV_int,keyT_int,isT_int_int,isT_int_bool,isT_int_str,isT_int_list,isT_int_tuple,isT_int_dict,kindT_str,isNonT_str,flatT_str,flatK_str,isBT_str_true,isBT_str_false,toV_str,ofV_str,keyT_str,isT_str_int,isT_str_bool,isT_str_str,isT_str_list,isT_str_tuple,isT_str_dict,kindT_lst,isNonT_lst,flatT_lst,flatK_lst,isBT_lst_true,isBT_lst_false,lenT_lst,keyT_lst,isT_lst_int,isT_lst_bool,isT_lst_str,isT_lst_list,isT_lst_tuple,isT_lst_dict,kindT_tup,isNonT_tup,flatT_tup,flatK_tup,isBT_tup_true,isBT_tup_false,lenT_tup,keyT_tup,isT_tup_int,isT_tup_bool,isT_tup_str,isT_tup_list,isT_tup_tuple,isT_tup_dict,kindT_dic,isNonT_dic,flatT_dic,flatK_dic,isBT_dic_true,isBT_dic_false,lenT_dic,keyT_dic,isT_dic_int,isT_dic_bool,isT_dic_str,isT_dic_list,isT_dic_tuple,isT_dic_dict,kindT_obj,isNonT_obj,flatT_obj,flatK_obj,isBT_obj_true,isBT_obj_false,keyT_obj,kindT_drw,isNonT_drw,flatT_drw,flatK_drw,isBT_drw_true,isBT_drw_false,keyT_drw,kindT_ty,isNonT_ty,flatT_ty,flatK_ty,isBT_ty_true,isBT_ty_false,toV_ty,ofV_ty,keyT_ty,asD_dic,isBT_bl,dAddG_int,dAddG_str,dAddG_tup,dAddG_lst_lst,dAddG_lst_obj,dAddG_obj_lst,dAddG_obj_obj,dSlG_tup,dSlG_str,dSlG_lst,dSlG_obj])
section
open PySem PySem.Spec PyProof.Rows L2 LL LT
variable {P : Program} {w : World} {K : PySem.W.Frag} {mg : Str → Option Value} {base : Heap}

noncomputable def wp_align : Pw := fun ts Ω PQ _ => ∃ m : Int, ts = [.drw, .int m] ∧ 0 ≤ m ∧ m ≤ 40 ∧ ∀ k : Nat, (k : Int) ≤ m → PQ (.int (2 ^ k)) Ω
noncomputable def wp_number : Pw := fun ts Ω PQ _ => ∃ lo hi : Int, ts = [.drw, .int lo, .int hi] ∧ lo ≤ hi ∧ -100000000000 ≤ lo ∧ hi ≤ 100000000000 ∧ ∀ v : Int, lo ≤ v → v ≤ hi → PQ (.int v) Ω
theorem al_call {m : Int} {Ω : Om} {P : PT'} {X : PXt} (h : 0 ≤ m ∧ m ≤ 40) (k : ∀ k : Nat, (k : Int) ≤ m → P (.int (2 ^ k)) Ω) : wp_align [.drw, .int m] Ω P X := ⟨m, rfl, h.1, h.2, k⟩
theorem nu_call {lo hi : Int} {Ω : Om} {P : PT'} {X : PXt} (h : lo ≤ hi ∧ -100000000000 ≤ lo ∧ hi ≤ 100000000000) (k : ∀ v : Int, lo ≤ v → v ≤ hi → P (.int v) Ω) : wp_number [.drw, .int lo, .int hi] Ω P X := ⟨lo, hi, rfl, h.1, h.2.1, h.2.2, k⟩
theorem ok_law_alignment (T : Tx K mg) : FnOk P w K mg base CX0 4 (He.ga K "_law_alignment") T.fd_law_alignment P_law_alignment (spD K wp_align 2) := by
  refine dok T.F_law_alignment sc_law_alignment fun cdv A outer s H E hr => ?_
  refine' dokMk (PSs.nox (pss_cons (ps_set (i := 2) sc_law_alignment.nd rfl (Or.inl rfl) (pe_int)) (pss_cons (ps_for PassesOwn.never rfl (pi_range1 rfl T.z_range (pa_cons (pe_call (ok_law_between T) hr rfl T.g_law_between T.F_law_between.kp (b_law_between T) .nil pass0 (pa_cons (pv 0) (pa_cons (pe_int) (pa_cons (pv 1) pa_nil)))) pa_nil)) (pg_name (i := 3) sc_law_alignment.nd rfl (Or.inl rfl)) (pss_one (ps_set (i := 2) sc_law_alignment.nd rfl (Or.inl rfl) (pe_op op_mul (pv 2) (pe_int))))) (pss_one (ps_ret (pv 2)))))) ?sim ?go
  case sim =>
    try simp only [LL.cxK0, LL.cxK1, List.map_cons, List.map_nil]
    repeat' (first | fail "f" | with_reducible exact simc_isiO | with_reducible apply sim_iR3 | with_reducible apply sim_gLst | with_reducible apply sim_tryR0 | with_reducible apply sim_tryR | with_reducible apply SimRow.cons | with_reducible exact SimRow.nil | with_reducible apply sim_mthS (dts := []) .nil | with_reducible apply sim_makeK (gT := fun ts us => ts ++ us) (fun _ _ _ _ _ _ _ h1 h2 => vdl_app h2 h1) | with_reducible apply sim_makeK (gT := fun ts us => ts ++ us ++ [.non]) (fun _ _ _ _ _ _ _ h1 h2 => vdl_app vdl_N (vdl_app h2 h1)) | with_reducible apply sim_make0 (dts := [.int 0, .non]) df_0N | with_reducible apply sim_fld T.c_Places T.n_Places__spans | with_reducible apply sim_setF T.c_Places T.n_Places__spans | with_reducible apply sim_forI | with_reducible apply sim_pop | with_reducible apply sim_tru | with_reducible apply sim_prop | with_reducible apply sim_make (dts := []) .nil | with_reducible apply sim_make0 (dts := []) .nil | with_reducible apply sim_meth0 (dts := []) .nil | with_reducible apply sim_meth (dts := []) .nil | fail "s")
  case go =>
    intro ts Ω PQ PX hl h
    obtain ⟨m, rfl, h0, h1, q⟩ := h
    simp! only [N_law_alignment]
    refine for_R1X (R := fun n => 0 ≤ n ∧ n ≤ m) (Ω1 := Ω) (fun P p => ?_) (fun n hn => by omega) (fun n i ρ' Ω' => Ω' = Ω ∧ ∃ x, ρ' = [some .drw, some (.int m), some (.int (2 ^ i)), x]) (fun n hn => ⟨rfl, _, rfl⟩) ?_ ?_
    · simp! only [and_true]
      exact bt_call (tk_big (by omega) (by omega)) fun v a b => p v ⟨a, by omega⟩
    · rintro n hn i ρ' Ω' hi ⟨rfl, x, rfl⟩
      simp! only [and_true]
      have b1 : (2 : Int) ^ i ≤ 2 ^ 40 := by have h := Nat.pow_le_pow_right (show 0 < 2 by decide) (show i ≤ 40 by omega); exact_mod_cast h
      have b0 : (0 : Int) < 2 ^ i := Int.pow_pos (by decide)
      refine ⟨.inl ⟨by omega, by omega⟩, by rw [Int.pow_succ]⟩
    · rintro n hn ρ' Ω' ⟨rfl, x, rfl⟩
      simp! only [and_true]
      exact q _ (by omega)
theorem ok_law_number (T : Tx K mg) : FnOk P w K mg base CX0 5 (He.ga K "_law_number") T.fd_law_number P_law_number (spD K wp_number 3) := by
  refine dok T.F_law_number sc_law_number fun cdv A outer s H E hr => ?_
  refine' dokMk (PSs.nox (pss_cons (ps_if (pt_cmpR op_lt (pe_op op_sub (pv 2) (pv 1)) (pe_int) (nomark _)) (pss_one (ps_ret (pe_call (ok_law_between T) (hr.mono (by decide)) rfl T.g_law_between T.F_law_between.kp (b_law_between T) .nil pass0 (pa_cons (pv 0) (pa_cons (pv 1) (pa_cons (pv 2) pa_nil)))))) pss_nil) (pss_cons (ps_set (i := 3) sc_law_number.nd rfl (Or.inl rfl) (pe_call (okt_law_take T) (hr.mono (by decide)) rfl T.g_law_take T.F_law_take.kp (b_law_take T) .nil pass0 (pa_cons (pv 0) (pa_cons (pe_int) pa_nil)))) (pss_cons (ps_if (pt_cmpR op_lt (pv 3) (pe_int) (nomark _)) (pss_one (ps_ret (pe_ix (show IxR _ (LL.rIxA K) from LL.ix_A) (pe_lst (pa_cons (pv 1) (pa_cons (pv 2) (pa_cons (pe_op (show OpR _ _ (LT.rAddG K) from LT.op_addG) (pv 1) (pe_int)) (pa_cons (pe_op op_sub (pv 2) (pe_int)) pa_nil))))) (pv 3) (fun _ _ => rfl)))) pss_nil) (pss_cons (ps_if (pt_cmpR op_lt (pv 3) (pe_int) (nomark _)) (pss_one (ps_ret (pe_op (show OpR _ _ (LT.rAddG K) from LT.op_addG) (pv 1) (pe_call (okt_law_take T) (hr.mono (by decide)) rfl T.g_law_take T.F_law_take.kp (b_law_take T) .nil pass0 (pa_cons (pv 0) (pa_cons (pe_op (show OpR _ _ (LT.rAddG K) from LT.op_addG) (pe_callB (LL.call_mn rfl) (by rfl) T.z_min (by decide +kernel) (pa_cons (pe_op op_sub (pv 2) (pv 1)) (pa_cons (pe_int) pa_nil))) (pe_int)) pa_nil)))))) pss_nil) (pss_cons (ps_if (pt_cmpR op_eq (pv 3) (pe_int) (nomark _)) (pss_one (ps_ret (pe_callB (LL.call_mx rfl) (by rfl) T.z_max (by decide +kernel) (pa_cons (pv 1) (pa_cons (pe_callB (LL.call_mn rfl) (by rfl) T.z_min (by decide +kernel) (pa_cons (pv 2) (pa_cons (pe_op op_sub (pe_op (show OpR _ _ (LT.rAddG K) from LT.op_addG) (pe_call (ok_law_alignment T) hr rfl T.g_law_alignment T.F_law_alignment.kp (b_law_alignment T) .nil pass0 (pa_cons (pv 0) (pa_cons (pe_int) pa_nil))) (pe_call (okt_law_take T) (hr.mono (by decide)) rfl T.g_law_take T.F_law_take.kp (b_law_take T) .nil pass0 (pa_cons (pv 0) (pa_cons (pe_int) pa_nil)))) (pe_int)) pa_nil))) pa_nil))))) pss_nil) (pss_one (ps_ret (pe_op (show OpR _ _ (LT.rAddG K) from LT.op_addG) (pv 1) (pe_call (okt_law_take T) (hr.mono (by decide)) rfl T.g_law_take T.F_law_take.kp (b_law_take T) .nil pass0 (pa_cons (pv 0) (pa_cons (pe_op (show OpR _ _ (LT.rAddG K) from LT.op_addG) (pe_op op_sub (pv 2) (pv 1)) (pe_int)) pa_nil)))))))))))) ?sim ?go
  case sim =>
    try simp only [LL.cxK0, LL.cxK1, List.map_cons, List.map_nil]
    repeat' (first | fail "f" | with_reducible exact simc_isiO | with_reducible apply sim_iR3 | with_reducible apply sim_gLst | with_reducible apply sim_tryR0 | with_reducible apply sim_tryR | with_reducible apply SimRow.cons | with_reducible exact SimRow.nil | with_reducible apply sim_mthS (dts := []) .nil | with_reducible apply sim_makeK (gT := fun ts us => ts ++ us) (fun _ _ _ _ _ _ _ h1 h2 => vdl_app h2 h1) | with_reducible apply sim_makeK (gT := fun ts us => ts ++ us ++ [.non]) (fun _ _ _ _ _ _ _ h1 h2 => vdl_app vdl_N (vdl_app h2 h1)) | with_reducible apply sim_make0 (dts := [.int 0, .non]) df_0N | with_reducible apply sim_fld T.c_Places T.n_Places__spans | with_reducible apply sim_setF T.c_Places T.n_Places__spans | with_reducible apply sim_forI | with_reducible apply sim_pop | with_reducible apply sim_tru | with_reducible apply sim_prop | with_reducible apply sim_make (dts := []) .nil | with_reducible apply sim_make0 (dts := []) .nil | with_reducible apply sim_meth0 (dts := []) .nil | with_reducible apply sim_meth (dts := []) .nil | fail "s")
  case go =>
    intro ts Ω PQ PX hl h
    obtain ⟨lo, hi, rfl, h0, h1, h2, q⟩ := h
    simp! only [N_law_number]
    repeat' (first | fail "r" | with_reducible refine al_call ⟨by decide, by decide⟩ fun k hk => ?_ | exact q _ (by omega) (by omega))
end
section
open PySem PySem.Spec PyProof.Rows L2 LL LT
variable {P : Program} {w : World} {K : PySem.W.Frag} {mg : Str → Option Value} {base : Heap}

theorem ok_BadValue (T : Tx K mg) : FnOk P w K mg base CX0 1 (iBV K) T.fd_BadValue P_BadValue (sp_Exc K "BadValue" ["parameter"]) := by
  refine T.F_BadValue.ok sc_BadValue (fun vs H Q E h => ?_) (fun cdv A outer s H vs Q E hr h => ⟨_, PSs.nox (pss_cons (ps_ost (pv 0) (pv 1)) (pss_one (ps_ost (pv 0) (pe_tup (pa_cons pe_str (pa_cons (pe_tup (pa_cons (pv 1) pa_nil)) pa_nil)))))), ?_⟩)
  · obtain ⟨_, us, rfl, hl, _⟩ := h
    match us, hl with
    | [_], _ => rfl
  · obtain ⟨a, us, rfl, hl, ha, q⟩ := h
    obtain ⟨n, rfl⟩ : ∃ n, us = [n] := match us, hl with
      | [n], _ => ⟨n, rfl⟩
    simp only [tSeq, tAsg, tRet, tRetN, tDrop, tNext, tVar, tC, gName, tOp, tUn, rI, rI0, rU, tIfS, tTest, tB, tIf, tAnd, tOr, tNot, tAndV, tOrV, tNotV, tCall, tCons, tNil, tCB, tLst, tTup, tChain, CMul, CDiv, CPow, rEq, rNe, gSub, L2.start, LL.cxK0, LL.cxK1, List.map_cons, List.map_nil, List.length_cons, List.length_nil, List.replicate_succ, List.replicate_zero, List.cons_append, List.nil_append, List.append_nil, List.getElem?_cons_zero, List.getElem?_cons_succ, List.set_cons_zero, List.set_cons_succ, Nat.add_sub_cancel, Nat.reduceAdd, Nat.reduceSub, Option.some.injEq, V.int.injEq, V.bl.injEq, V.ref.injEq, V.str.injEq, List.cons.injEq, and_true, true_and, and_false, false_and, exists_eq_left, exists_eq_left', exists_and_left, exists_and_right, exists_eq, exists_eq', LL.if_dec, reduceCtorEq, exists_false, exists_const, or_false, false_or, if_true, if_false, LL.rInt1, LL.rMx, LL.rMn, and_assoc, Int.reduceNeg, Int.reduceLT, Int.reduceLE, Int.reduceMul, Int.reduceAdd, Int.reduceSub, Int.reducePow, Int.reduceToNat, Nat.reducePow, Nat.reduceLT, true_or, or_true, Bool.not_true, Bool.not_false, Bool.false_eq_true, Bool.or_false, Bool.or_true, Bool.true_or, Bool.false_or, decide_true, decide_false, not_true_eq_false, not_false_eq_true, LL.scal_int, LL.scal_bl, LL.scal_str, LL.isInt, LL.isBl, LL.isStr, LL.isLst, LL.isTup, LL.isDic, P_BadValue, tOst]
    refine ⟨_, T.x_BadValue, T.n_BadValue_parameter, .inl ⟨ha, fun dx hdx hne => ?_⟩⟩
    have e1 : upd (upd H dx (exd dx [("parameter", n)])) a (exo a (aBV K) (some dx)) a = some (exo a (aBV K) (some dx)) := upd_same
    have e2 : upd (upd H dx (exd dx [("parameter", n)])) a (exo a (aBV K) (some dx)) dx = some (exd dx [("parameter", n)]) := by rw [upd_ne hne, upd_same]
    have e3 : ∀ b o, b ≠ a → H b = some o → upd (upd H dx (exd dx [("parameter", n)])) a (exo a (aBV K) (some dx)) b = some o := fun b o hb e => by rw [upd_ne hb, upd_ne (ne_of_none e hdx)]; exact e
    have e4 : ∀ b, upd (upd H dx (exd dx [("parameter", n)])) a (exo a (aBV K) (some dx)) b = none → H b = none := fun b hb => by
      by_cases c : b = a
      · rw [c, upd_same] at hb; cases hb
      · rw [upd_ne c] at hb
        by_cases c2 : b = dx
        · rw [c2]; exact hdx
        · rw [upd_ne c2] at hb; exact hb
    generalize upd (upd H dx (exd dx [("parameter", n)])) a (exo a (aBV K) (some dx)) = H1 at e1 e2 e3 e4 ⊢
    refine ⟨by decide, ?_⟩
    intro p1 np1
    generalize hq : upd H1 p1 _ = H2
    have sH2 : Same H1 H2 := hq ▸ Same.new (Same.refl _) np1
    have ep1 := hq ▸ (upd_same (H := H1) (a := p1))
    clear hq
    replace e1 := sH2 _ _ e1
    replace e2 := sH2 _ _ e2
    refine ⟨by decide, ?_⟩
    intro p2 np2
    generalize hq : upd H2 p2 _ = H3
    have sH3 : Same H2 H3 := hq ▸ Same.new (Same.refl _) np2
    have ep2 := hq ▸ (upd_same (H := H2) (a := p2))
    clear hq
    replace e1 := sH3 _ _ e1
    replace e2 := sH3 _ _ e2
    replace ep1 := sH3 _ _ ep1
    refine ⟨_, T.x_BadValue, T.n_BadValue_told, .inr ⟨dx, e1, _, e2, by simp, ?_⟩⟩
    have f1 := e4 _ np1
    have f2 := e4 _ (sH2.free np2)
    have x1 : p1 ≠ dx := fun z => by rw [z, e2] at ep1; exact (show ¬ exd dx [("parameter", n)] = .tup [n] from exd_tup) (Option.some.inj ep1)
    have x2 : p2 ≠ dx := fun z => by rw [z, e2] at ep2; exact (show ¬ exd dx [("parameter", n)] = .tup [.str "BadValue", .ref p1] from exd_tup) (Option.some.inj ep2)
    refine q dx p1 p2 _ hdx hne (by rw [upd_ne hne.symm]; exact e1) upd_same (by rw [upd_ne x1]; exact ep1) (by rw [upd_ne x2]; exact ep2) f1 f2 (fun b o hb e => ?_)
    rw [upd_ne (ne_of_none e hdx)]
    exact sH3 _ _ (sH2 _ _ (e3 _ _ hb e))

noncomputable def InR (lo hi : Int) : Tr → Prop
  | .int i => lo ≤ i ∧ i ≤ hi
  | _ => False
instance (lo hi : Int) (t : Tr) : Decidable (InR lo hi t) := by
  cases t <;> unfold InR <;> infer_instance
/-- data of a kind that isinstance knows -/
noncomputable def isInt : Tr → Bool
  | .int _ => true
  | _ => false
noncomputable def wp_isint : Pw := fun ts Ω PQ _ => ∃ t, ts = [t] ∧ (kindT t).isSome = true ∧ PQ (.bl (isInt t)) Ω
noncomputable def badX (n : Tr) : XV := excT "BadValue" ["parameter"] [n]
noncomputable def wp_need_whole : Pw := fun ts Ω PQ PX => ∃ t lo hi n, ts = [t, .int lo, .int hi, n] ∧ (kindT t).isSome = true ∧ (InR lo hi t → PQ .non Ω) ∧ (¬ InR lo hi t → PX (badX n) Ω)
noncomputable def wp_need : Pw := fun ts Ω PQ PX => ∃ b n, ts = [.bl b, n] ∧ (b = true → PQ .non Ω) ∧ (b = false → PX (badX n) Ω)
theorem ok_is_whole (T : Tx K mg) : FnOk P w K mg base CX0 1 (He.ga K "is_whole") T.fd_is_whole P_is_whole (spD K wp_isint 1) := by
  refine dok T.F_is_whole sc_is_whole fun cdv A outer s H E hr => ?_
  refine' dokMk (PSs.nox (pss_one (ps_ret ((pe_and (pe_callB (show CallR _ _ (rIsi K) from call_isi) (by rfl) T.z_isinstance (by decide +kernel) (pa_cons (pv 0) (pa_cons (pe_bltn (v := .ty "int") (u := .type "int") (by rfl) T.z_int (by decide +kernel) rfl) pa_nil))) (pe_one (pe_not (pe_callB (show CallR _ _ (rIsi K) from call_isi) (by rfl) T.z_isinstance (by decide +kernel) (pa_cons (pv 0) (pa_cons (pe_bltn (v := .ty "bool") (u := .type "bool") (by rfl) T.z_bool (by decide +kernel) rfl) pa_nil)))))))))) ?sim ?go
  case sim =>
    try simp only [LL.cxK0, LL.cxK1, List.map_cons, List.map_nil]
    repeat' (first | fail "f" | with_reducible exact simc_isiO | with_reducible apply sim_iR3 | with_reducible apply sim_gLst | with_reducible apply sim_tryR0 | with_reducible apply sim_tryR | with_reducible apply SimRow.cons | with_reducible exact SimRow.nil | with_reducible apply sim_mthS (dts := []) .nil | with_reducible apply sim_makeK (gT := fun ts us => ts ++ us) (fun _ _ _ _ _ _ _ h1 h2 => vdl_app h2 h1) | with_reducible apply sim_makeK (gT := fun ts us => ts ++ us ++ [.non]) (fun _ _ _ _ _ _ _ h1 h2 => vdl_app vdl_N (vdl_app h2 h1)) | with_reducible apply sim_make0 (dts := [.int 0, .non]) df_0N | with_reducible apply sim_fld T.c_Places T.n_Places__spans | with_reducible apply sim_setF T.c_Places T.n_Places__spans | with_reducible apply sim_forI | with_reducible apply sim_pop | with_reducible apply sim_tru | with_reducible apply sim_prop | with_reducible apply sim_make (dts := []) .nil | with_reducible apply sim_make0 (dts := []) .nil | with_reducible apply sim_meth0 (dts := []) .nil | with_reducible apply sim_meth (dts := []) .nil | fail "s")
  case go =>
    intro ts Ω PQ PX hl h
    obtain ⟨t, rfl, hk, q⟩ := h
    simp! only [N_is_whole]
    cases t <;> first | (cases hk; done) | (simp! only [and_true]; exact q)
theorem ok_need_whole (T : Tx K mg) : FnOk P w K mg base (L2.CX P w) 3 (He.ga K "need_whole") T.fd_need_whole P_need_whole (spD K wp_need_whole 4) := by
  refine dok T.F_need_whole sc_need_whole fun cdv A outer s H E hr => ?_
  refine' dokMk ((pss_one (ps_if (PW.pt (pw_or (pt_not (pt_val (pe_call (ok_is_whole T) (hr.mono (by decide)) rfl T.g_is_whole T.F_is_whole.kp (b_is_whole T) .nil pass0 (pa_cons (pv 0) pa_nil)))) (pw_or1 (pt_not (pt_chain op_le op_le (pv 1) (pv 0) (pv 2)))))) (pss_one (ps_raise rfl (takes_of rfl rfl rfl rfl) (pmk_oex T.x_BadValue T.i_BadValue T.t_BadValue (ok_BadValue T) hr (b_BadValue T) .nil pass0 rfl T.g_BadValue (pa_cons (pv 3) pa_nil)))) pss_nil))) ?sim ?go
  case sim =>
    try simp only [LL.cxK0, LL.cxK1, List.map_cons, List.map_nil]
    repeat' (first | fail "f" | with_reducible exact simc_isiO | with_reducible apply sim_iR3 | with_reducible apply sim_gLst | with_reducible apply sim_tryR0 | with_reducible apply sim_tryR | with_reducible apply SimRow.cons | with_reducible exact SimRow.nil | with_reducible apply sim_mthS (dts := []) .nil | with_reducible apply sim_makeK (gT := fun ts us => ts ++ us) (fun _ _ _ _ _ _ _ h1 h2 => vdl_app h2 h1) | with_reducible apply sim_makeK (gT := fun ts us => ts ++ us ++ [.non]) (fun _ _ _ _ _ _ _ h1 h2 => vdl_app vdl_N (vdl_app h2 h1)) | with_reducible apply sim_make0 (dts := [.int 0, .non]) df_0N | with_reducible apply sim_fld T.c_Places T.n_Places__spans | with_reducible apply sim_setF T.c_Places T.n_Places__spans | with_reducible apply sim_forI | with_reducible apply sim_pop | with_reducible apply sim_tru | with_reducible apply sim_prop | with_reducible apply sim_make (dts := []) .nil | with_reducible apply sim_make0 (dts := []) .nil | with_reducible apply sim_meth0 (dts := []) .nil | with_reducible apply sim_meth (dts := []) .nil | fail "s")
  case go =>
    intro ts Ω PQ PX hl h
    obtain ⟨t, lo, hi, n, rfl, hk, q1, q2⟩ := h
    simp! only [N_need_whole]
    refine ⟨t, rfl, hk, ?_⟩
    cases t with
    | int i =>
      simp! only [isInt]
      refine itei (fun h => ?_) fun h => q2 fun z => h z.1
      by_cases h2 : i ≤ hi
      · rw [if_neg (by simp [h2])]
        exact q1 ⟨h, h2⟩
      · rw [if_pos (by simp [h2])]
        exact q2 fun z => h2 z.2
    | _ =>
      simp! only [isInt]
      exact q2 (fun z => z)
mutual
/-- data, dicts too -/
noncomputable def dataT : Tr → Bool
  | .obj _ => false
  | .drw => false
  | .ty _ => false
  | .lst ts => dataTs ts
  | .tup ts => dataTs ts
  | .dic ks ts => decide ks.Nodup && (decide (ts.length = ks.length) && dataTs ts)
  | _ => true
noncomputable def dataTs : List Tr → Bool
  | [] => true
  | t :: ts => dataT t && dataTs ts
end
theorem data_kind {t : Tr} (h : dataT t = true) : (kindT t).isSome = true := by
  cases t <;> first | rfl | cases (show false = true from h)
theorem dataTs_mem : ∀ {ts : List Tr} {t : Tr}, dataTs ts = true → t ∈ ts → dataT t = true
  | u :: us, t, h, m => by
    have h' := Bool.and_eq_true_iff.mp (show (dataT u && dataTs us) = true from h)
    rcases List.mem_cons.mp m with rfl | m
    · exact h'.1
    · exact dataTs_mem h'.2 m
theorem dataTs_of : ∀ {ts : List Tr}, (∀ t ∈ ts, dataT t = true) → dataTs ts = true
  | [], _ => rfl
  | t :: ts, h => by
    show (dataT t && dataTs ts) = true
    rw [h t List.mem_cons_self, dataTs_of fun u hu => h u (List.mem_cons_of_mem _ hu)]
    rfl
theorem data_dic {ks : List Key} {ts : List Tr} (h : dataT (.dic ks ts) = true) : ks.Nodup ∧ ts.length = ks.length ∧ dataTs ts = true := by
  have h1 := Bool.and_eq_true_iff.mp (show (decide ks.Nodup && (decide (ts.length = ks.length) && dataTs ts)) = true from h)
  have h2 := Bool.and_eq_true_iff.mp h1.2
  exact ⟨of_decide_eq_true h1.1, of_decide_eq_true h2.1, h2.2⟩
theorem data_app {as bs : List Tr} (h1 : dataTs as = true) (h2 : dataTs bs = true) : dataTs (as ++ bs) = true := dataTs_of fun t ht => (List.mem_append.mp ht).elim (dataTs_mem h1) (dataTs_mem h2)
theorem data_one {x : Tr} (h1 : dataT x = true) : dataTs [x] = true := dataTs_of fun t ht => by
  rw [List.mem_singleton.mp ht]
  exact h1
theorem data_cons {x : Tr} {ts : List Tr} (h1 : dataT x = true) (h2 : dataTs ts = true) : dataTs (x :: ts) = true := by show (dataT x && dataTs ts) = true; rw [h1, h2]; rfl
theorem data_ints {ns : List Int} : dataTs (ns.map Tr.int) = true := dataTs_of fun t ht => by
  obtain ⟨n, _, rfl⟩ := List.mem_map.mp ht
  rfl
theorem data_sub {ts us : List Tr} (h : dataTs ts = true) (s : ∀ t ∈ us, t ∈ ts) : dataTs us = true := dataTs_of fun t ht => dataTs_mem h (s t ht)
noncomputable def isFlagT : Tr → Bool
  | .bl _ => true
  | _ => false
noncomputable def isRowT : Tr → Bool
  | .lst _ => true
  | .tup _ => true
  | _ => false
noncomputable def wp_flag (f : Tr → Bool) : Pw := fun ts Ω PQ _ => ∃ t, ts = [t] ∧ dataT t = true ∧ PQ (.bl (f t)) Ω
theorem len_S {t : Tr} {Ω : Om} {us : List Tr} (h : asS t Ω = some us) : lenT t Ω = some us.length := by
  obtain ⟨n, e, rfl⟩ := lenT_of h
  exact e
theorem asS_of_asL {t : Tr} {Ω : Om} {us : List Tr} (h : asL t Ω = some us) : asS t Ω = some us := by
  cases t <;> first | exact h | cases h
theorem ok_need (T : Tx K mg) : FnOk P w K mg base (L2.CX P w) 3 (He.ga K "need") T.fd_need P_need (spD K wp_need 2) := by
  refine dok T.F_need sc_need fun cdv A outer s H E hr => ?_
  refine' dokMk ((pss_one (ps_if (pt_not (pt_val (pv 0))) (pss_one (ps_raise rfl (takes_of rfl rfl rfl rfl) (pmk_oex T.x_BadValue T.i_BadValue T.t_BadValue (ok_BadValue T) hr (b_BadValue T) .nil pass0 rfl T.g_BadValue (pa_cons (pv 1) pa_nil)))) pss_nil))) ?sim ?go
  case sim =>
    try simp only [LL.cxK0, LL.cxK1, List.map_cons, List.map_nil]
    repeat' (first | fail "f" | with_reducible exact simc_isiO | with_reducible apply sim_iR3 | with_reducible apply sim_gLst | with_reducible apply sim_tryR0 | with_reducible apply sim_tryR | with_reducible apply SimRow.cons | with_reducible exact SimRow.nil | with_reducible apply sim_mthS (dts := []) .nil | with_reducible apply sim_makeK (gT := fun ts us => ts ++ us) (fun _ _ _ _ _ _ _ h1 h2 => vdl_app h2 h1) | with_reducible apply sim_makeK (gT := fun ts us => ts ++ us ++ [.non]) (fun _ _ _ _ _ _ _ h1 h2 => vdl_app vdl_N (vdl_app h2 h1)) | with_reducible apply sim_make0 (dts := [.int 0, .non]) df_0N | with_reducible apply sim_fld T.c_Places T.n_Places__spans | with_reducible apply sim_setF T.c_Places T.n_Places__spans | with_reducible apply sim_forI | with_reducible apply sim_pop | with_reducible apply sim_tru | with_reducible apply sim_prop | with_reducible apply sim_make (dts := []) .nil | with_reducible apply sim_make0 (dts := []) .nil | with_reducible apply sim_meth0 (dts := []) .nil | with_reducible apply sim_meth (dts := []) .nil | fail "s")
  case go =>
    intro ts Ω PQ PX hl h
    obtain ⟨b, n, rfl, q1, q2⟩ := h
    simp! only [N_need]
    cases b with
    | true => exact q1 rfl
    | false => exact q2 rfl
end
section
open PySem PySem.Spec PyProof.Rows L2 LL LT
variable {P : Program} {w : World} {K : PySem.W.Frag} {mg : Str → Option Value} {base : Heap}

/-! ### pure: spans, runs -/
noncomputable abbrev Spn := Int × Int
noncomputable def spT (r : Spn) : Tr := .tup [.int r.1, .int r.2]
noncomputable def CovS (rs : List Spn) (x : Int) : Prop := ∃ r ∈ rs, r.1 ≤ x ∧ x < r.1 + r.2
structure NormS (rs : List Spn) : Prop where
  p : ∀ r ∈ rs, 1 ≤ r.2
  s : rs.Pairwise fun r s => r.1 + r.2 < s.1
theorem NormS.nil : NormS [] := ⟨fun _ h => (List.not_mem_nil h).elim, List.Pairwise.nil⟩
theorem cov_app {a b : List Spn} {x : Int} : CovS (a ++ b) x ↔ CovS a x ∨ CovS b x := by
  unfold CovS
  constructor
  · rintro ⟨r, h, k⟩
    rcases List.mem_append.mp h with h | h
    · exact .inl ⟨r, h, k⟩
    · exact .inr ⟨r, h, k⟩
  · rintro (⟨r, h, k⟩ | ⟨r, h, k⟩)
    · exact ⟨r, List.mem_append_left _ h, k⟩
    · exact ⟨r, List.mem_append_right _ h, k⟩
theorem cov_one {r : Spn} {x : Int} : CovS [r] x ↔ r.1 ≤ x ∧ x < r.1 + r.2 := by
  unfold CovS
  constructor
  · rintro ⟨s, h, k⟩
    rw [List.mem_singleton.mp h] at k
    exact k
  · exact fun k => ⟨r, List.mem_singleton_self _, k⟩
theorem cov_nil {x : Int} : ¬ CovS [] x := fun ⟨_, h, _⟩ => List.not_mem_nil h
theorem cov_cons {r : Spn} {rs : List Spn} {x : Int} : CovS (r :: rs) x ↔ (r.1 ≤ x ∧ x < r.1 + r.2) ∨ CovS rs x := by
  rw [show r :: rs = [r] ++ rs from rfl, cov_app, cov_one]
theorem norm_cons {r : Spn} {rs : List Spn} (h : NormS (r :: rs)) : 1 ≤ r.2 ∧ (∀ s ∈ rs, r.1 + r.2 < s.1) ∧ NormS rs := by
  have s := List.pairwise_cons.mp h.s
  exact ⟨h.p r List.mem_cons_self, s.1, fun t ht => h.p t (List.mem_cons_of_mem _ ht), s.2⟩
theorem norm_uniq : ∀ {a b : List Spn}, NormS a → NormS b → (∀ x, CovS a x ↔ CovS b x) → a = b
  | [], [], _, _, _ => rfl
  | [], s :: bs, _, hb, h => by
    have := norm_cons hb
    exact (cov_nil ((h s.1).mpr (cov_cons.mpr (.inl ⟨Int.le_refl _, by omega⟩)))).elim
  | r :: as, [], ha, _, h => by
    have := norm_cons ha
    exact (cov_nil ((h r.1).mp (cov_cons.mpr (.inl ⟨Int.le_refl _, by omega⟩)))).elim
  | r :: as, s :: bs, ha, hb, h => by
    obtain ⟨r0, r1, r2⟩ := norm_cons ha
    obtain ⟨s0, s1, s2⟩ := norm_cons hb
    have lo : ∀ {r : Spn} {rs : List Spn}, 1 ≤ r.2 → (∀ s ∈ rs, r.1 + r.2 < s.1) → ∀ x, CovS (r :: rs) x → r.1 ≤ x ∧ (x < r.1 + r.2 ∨ (r.1 + r.2 < x ∧ CovS rs x)) := fun {r rs} h0 h1 x hx => by
      rcases cov_cons.mp hx with k | k
      · exact ⟨k.1, .inl k.2⟩
      · obtain ⟨t, ht, k1, k2⟩ := k
        have := h1 t ht
        exact ⟨by omega, .inr ⟨by omega, t, ht, k1, k2⟩⟩
    have c1 := lo s0 s1 r.1 ((h r.1).mp (cov_cons.mpr (.inl ⟨Int.le_refl _, by omega⟩)))
    have c2 := lo r0 r1 s.1 ((h s.1).mpr (cov_cons.mpr (.inl ⟨Int.le_refl _, by omega⟩)))
    have e1 : r.1 = s.1 := by omega
    have e2 : r.2 = s.2 := by
      rcases Int.lt_trichotomy r.2 s.2 with z | z | z
      · have c3 := lo r0 r1 (r.1 + r.2) ((h _).mpr (cov_cons.mpr (.inl ⟨by omega, by omega⟩)))
        omega
      · exact z
      · have c3 := lo s0 s1 (s.1 + s.2) ((h _).mp (cov_cons.mpr (.inl ⟨by omega, by omega⟩)))
        omega
    have e : r = s := Prod.ext e1 e2
    subst e
    have := norm_uniq r2 s2 fun x => by
      constructor
      · intro hx
        obtain ⟨t, ht, k1, k2⟩ := hx
        have := r1 t ht
        rcases (lo s0 s1 x ((h x).mp (cov_cons.mpr (.inr ⟨t, ht, k1, k2⟩)))).2 with z | z
        · omega
        · exact z.2
      · intro hx
        obtain ⟨t, ht, k1, k2⟩ := hx
        have := s1 t ht
        rcases (lo r0 r1 x ((h x).mpr (cov_cons.mpr (.inr ⟨t, ht, k1, k2⟩)))).2 with z | z
        · omega
        · exact z.2
    rw [this]
theorem norm_snoc {o : List Spn} {l : Spn} : NormS (o ++ [l]) ↔ NormS o ∧ 1 ≤ l.2 ∧ ∀ r ∈ o, r.1 + r.2 < l.1 := by
  constructor
  · intro h
    have s := List.pairwise_append.mp h.s
    exact ⟨⟨fun r hr => h.p r (List.mem_append_left _ hr), s.1⟩, h.p l (by simp), fun r hr => s.2.2 r hr l (List.mem_singleton_self _)⟩
  · rintro ⟨h, h1, h2⟩
    refine ⟨fun r hr => ?_, List.pairwise_append.mpr ⟨h.s, List.pairwise_singleton _ _, fun r hr t ht => ?_⟩⟩
    · rcases List.mem_append.mp hr with hr | hr
      · exact h.p r hr
      · rw [List.mem_singleton.mp hr]; exact h1
    · rw [List.mem_singleton.mp ht]; exact h2 r hr
/-- what merged has done after some of the rows, all of which begin before m -/
structure MrgS (ms rs : List Spn) (m : Int) : Prop where
  n : NormS ms
  c : ∀ x, CovS ms x ↔ CovS rs x
  l : ∀ r ∈ ms, r.1 ≤ m
theorem MrgS.nil {m : Int} : MrgS [] [] m := ⟨.nil, fun _ => .rfl, fun _ h => (List.not_mem_nil h).elim⟩
theorem MrgS.first {s : Spn} {m : Int} (hs : 1 ≤ s.2) (h : s.1 ≤ m) : MrgS [s] [s] m := ⟨(norm_snoc (o := [])).mpr ⟨.nil, hs, fun _ h => (List.not_mem_nil h).elim⟩, fun _ => .rfl, fun r hr => by rw [List.mem_singleton.mp hr]; exact h⟩
theorem MrgS.new {o rs : List Spn} {l s : Spn} {m : Int} (M : MrgS (o ++ [l]) rs m) (hm : m ≤ s.1) (hs : 1 ≤ s.2) (h : l.1 + l.2 < s.1) : MrgS ((o ++ [l]) ++ [s]) (rs ++ [s]) s.1 := by
  obtain ⟨n1, n2, n3⟩ := norm_snoc.mp M.n
  refine ⟨norm_snoc.mpr ⟨M.n, hs, fun r hr => ?_⟩, fun x => by rw [cov_app (a := o ++ [l]), cov_app (a := rs), M.c], fun r hr => ?_⟩
  · rcases List.mem_append.mp hr with hr | hr
    · have := n3 r hr
      omega
    · rw [List.mem_singleton.mp hr]; exact h
  · rcases List.mem_append.mp hr with hr | hr
    · have := M.l r hr
      omega
    · rw [List.mem_singleton.mp hr]; exact Int.le_refl _
theorem MrgS.join {o rs : List Spn} {l s : Spn} {m : Int} (M : MrgS (o ++ [l]) rs m) (hm : m ≤ s.1) (hs : 1 ≤ s.2) (h : s.1 ≤ l.1 + l.2) : MrgS (o ++ [(l.1, max l.2 (s.1 + s.2 - l.1))]) (rs ++ [s]) s.1 := by
  obtain ⟨n1, n2, n3⟩ := norm_snoc.mp M.n
  have hl := M.l l (by simp)
  refine ⟨norm_snoc.mpr ⟨n1, ?_, n3⟩, fun x => ?_, fun r hr => ?_⟩
  · show 1 ≤ max l.2 (s.1 + s.2 - l.1)
    omega
  · rw [cov_app, cov_app, ← M.c, cov_app, cov_one, cov_one, cov_one]
    show _ ∨ (l.1 ≤ x ∧ x < l.1 + max l.2 (s.1 + s.2 - l.1)) ↔ _
    constructor
    · rintro (h | ⟨h1, h2⟩)
      · exact .inl (.inl h)
      · by_cases k : x < l.1 + l.2
        · exact .inl (.inr ⟨h1, k⟩)
        · exact .inr ⟨by omega, by omega⟩
    · rintro ((h | ⟨h1, h2⟩) | ⟨h1, h2⟩)
      · exact .inl h
      · exact .inr ⟨h1, by omega⟩
      · exact .inr ⟨by omega, by omega⟩
  · rcases List.mem_append.mp hr with hr | hr
    · have := M.l r (List.mem_append_left _ hr)
      omega
    · rw [List.mem_singleton.mp hr]
      show l.1 ≤ s.1
      omega
theorem MrgS.first' {s : Spn} {m : Int} {rs : List Spn} (M : MrgS [] rs m) (hs : 1 ≤ s.2) : MrgS [s] (rs ++ [s]) s.1 := by
  refine ⟨(norm_snoc (o := [])).mpr ⟨.nil, hs, fun _ h => (List.not_mem_nil h).elim⟩, fun x => ?_, fun r hr => by rw [List.mem_singleton.mp hr]; exact Int.le_refl _⟩
  rw [cov_app]
  constructor
  · exact .inr
  · rintro (h | h)
    · exact (cov_nil ((M.c x).mpr h)).elim
    · exact h
theorem MrgS.grow {ms rs : List Spn} {m m' : Int} (M : MrgS ms rs m) (h : m ≤ m') : MrgS ms rs m' := ⟨M.n, M.c, fun r hr => Int.le_trans (M.l r hr) h⟩
/-- rows as the library's sort sees them -/
noncomputable def ilR (r : Spn) : List Int := [r.1, r.2]
theorem spT_row {rs : List Spn} : rs.map spT = (rs.map ilR).map rowT := by rw [List.map_map]; rfl
noncomputable def le2 (a b : Spn) : Bool := LL.leR (ilR a) (ilR b)
theorem le2_iff {a b : Spn} : le2 a b = true ↔ a.1 < b.1 ∨ (a.1 = b.1 ∧ a.2 ≤ b.2) := by
  unfold le2 LL.leR ilR
  rw [decide_eq_true_eq, List.cons_le_cons_iff, List.cons_le_cons_iff]
  simp only [List.le_refl, and_true]
  omega
theorem sort_spT {rs : List Spn} : (((rs.map ilR).mergeSort LL.leR).map rowT) = (rs.mergeSort le2).map spT := by
  rw [spT_row, List.map_mergeSort (r := le2) (s := LL.leR) (f := ilR) (fun _ _ _ _ => rfl)]
theorem sort_pair {rs : List Spn} : (rs.mergeSort le2).Pairwise fun a b => a.1 ≤ b.1 := by
  refine List.Pairwise.imp (fun {a b} h => ?_) (List.pairwise_mergeSort (le := le2) (fun a b c h1 h2 => ?_) (fun a b => ?_) rs)
  · have := le2_iff.mp h
    omega
  · have h1 := le2_iff.mp h1
    have h2 := le2_iff.mp h2
    exact le2_iff.mpr (by omega)
  · rw [Bool.or_eq_true, le2_iff, le2_iff]
    omega
theorem sort_mem {rs : List Spn} {r : Spn} : r ∈ rs.mergeSort le2 ↔ r ∈ rs := List.mem_mergeSort
theorem cov_sort {rs : List Spn} {x : Int} : CovS (rs.mergeSort le2) x ↔ CovS rs x := by
  unfold CovS
  simp only [sort_mem]
noncomputable def GoodS (rs : List Spn) : Prop := ∀ r ∈ rs, 0 ≤ r.1 ∧ 1 ≤ r.2 ∧ r.1 + r.2 ≤ 1000000000
theorem pair_le {ps : List Spn} (h : ps.Pairwise fun a b => a.1 ≤ b.1) {i : Nat} {s : Spn} (hs : ps[i]? = some s) : ∀ r ∈ ps.take i, r.1 ≤ s.1 := fun r hr => by
  have hi := (List.getElem?_eq_some_iff.mp hs).1
  have e : ps = ps.take i ++ s :: ps.drop (i + 1) := by
    conv => lhs; rw [← List.take_append_drop i ps, List.drop_eq_getElem_cons hi, (List.getElem?_eq_some_iff.mp hs).2]
  rw [e] at h
  exact (List.pairwise_append.mp h).2.2 r hr s List.mem_cons_self
/-- the least bound of what was walked -/
noncomputable def lastM : List Spn → Int
  | [] => 0
  | r :: rs => max r.1 (lastM rs)
end
section
open PySem PySem.Spec PyProof.Rows L2 LL LT
variable {P : Program} {w : World} {K : PySem.W.Frag} {mg : Str → Option Value} {base : Heap}

/-! ### merged -/
noncomputable def wp_merged : Pw := fun ts Ω PQ _ => ∃ (t : Tr) (rs : List Spn), ts = [t] ∧ asS t Ω = some (rs.map spT) ∧ GoodS rs ∧ rs.length ≤ 100000 ∧ ∀ ms, NormS ms → (∀ x, CovS ms x ↔ CovS rs x) → ms.length ≤ rs.length → PQ (.lst (ms.map spT)) Ω
theorem asS_frame {t : Tr} {Ω : Om} {a : Addr} {c : Cell} {us : List Tr} (h : asS t Ω = some us) (ha : Ω a = none) : asS t (put Ω a c) = some us := by
  cases t with
  | obj b =>
    have h' : cellL (Ω b) = some us := h
    have hb : b ≠ a := fun z => by
      rw [z, ha] at h'
      cases h'
    show cellL (put Ω a c b) = some us
    rw [put_ne hb]
    exact h'
  | _ => exact h
structure MrgI (ms rs : List Spn) (i : Nat) : Prop where
  ex : ∃ m, MrgS ms (rs.take i) m ∧ ∀ s, rs[i]? = some s → m ≤ s.1
  l : ms.length ≤ i
theorem ok_merged (T : Tx K mg) : FnOk P w K mg base CX0 1 (He.ga K "merged") T.fd_merged P_merged (spD K wp_merged 1) := by
  refine dok T.F_merged sc_merged fun cdv A outer s H E hr => ?_
  refine' dokMk (PSs.nox (pss_cons (ps_set (i := 1) sc_merged.nd rfl (Or.inl rfl) (pe_lst pa_nil)) (pss_cons (ps_for PassesOwn.never rfl (LT.pi_seqK (K := K) rfl (pe_callB (show CallR _ _ (LT.rSortedX K) from LT.cr_sortedX hr.units) (by rfl) T.z_sorted (by decide +kernel) (pa_cons (pv 0) pa_nil))) (LT.pg_tupK (K := K) (n := 2) rfl rfl (pgs_cons (pg_name (i := 2) sc_merged.nd rfl (Or.inl rfl)) (pgs_cons (pg_name (i := 3) sc_merged.nd rfl (Or.inl rfl)) pgs_nil))) (pss_one (ps_if (PW.pt (pw_and (LT.pt_tru (pv 1) (by intro _; rfl)) (pw_and1 (pt_cmpR op_le (pv 2) (pe_op (show OpR _ _ (LT.rAddG K) from LT.op_addG) (pe_ix (show IxR _ (LL.rIxA K) from LL.ix_A) (pe_ix (show IxR _ (LL.rIxA K) from LL.ix_A) (pv 1) (pe_un un_neg (pe_int)) (fun _ _ => rfl)) (pe_int) (fun _ _ => rfl)) (pe_ix (show IxR _ (LL.rIxA K) from LL.ix_A) (pe_ix (show IxR _ (LL.rIxA K) from LL.ix_A) (pv 1) (pe_un un_neg (pe_int)) (fun _ _ => rfl)) (pe_int) (fun _ _ => rfl))) (nomark _))))) (pss_cons (ps_asg (pe_ix (show IxR _ (LL.rIxA K) from LL.ix_A) (pv 1) (pe_un un_neg (pe_int)) (fun _ _ => rfl)) (LT.pg_tupK (K := K) (n := 2) rfl rfl (pgs_cons (pg_name (i := 4) sc_merged.nd rfl (Or.inl rfl)) (pgs_cons (pg_name (i := 5) sc_merged.nd rfl (Or.inl rfl)) pgs_nil)))) (pss_one (ps_asg (pe_tup (pa_cons (pv 4) (pa_cons (pe_callB (LL.call_mx rfl) (by rfl) T.z_max (by decide +kernel) (pa_cons (pv 5) (pa_cons (pe_op op_sub (pe_op (show OpR _ _ (LT.rAddG K) from LT.op_addG) (pv 2) (pv 3)) (pv 4)) pa_nil))) pa_nil))) (pg_sub (pv 1) (pe_un un_neg (pe_int)) set_list)))) (pss_one (ps_expr (pe_bm PySem.F.plainAttrs_list PySem.F.slot_list_append PySem.F.type_list_append mt_append (pv 1) (pa_cons (pe_tup (pa_cons (pv 2) (pa_cons (pv 3) pa_nil))) pa_nil))))))) (pss_one (ps_ret (pv 1)))))) ?sim ?go
  case sim =>
    try simp only [LL.cxK0, LL.cxK1, List.map_cons, List.map_nil]
    repeat' (first | with_reducible apply sim_retThaw (i := 1) | fail "f" | with_reducible exact simc_sortX | with_reducible exact simc_isiO | with_reducible apply sim_iR3 | with_reducible apply sim_gLst | with_reducible apply sim_tryR0 | with_reducible apply sim_tryR | with_reducible apply SimRow.cons | with_reducible exact SimRow.nil | with_reducible apply sim_mthS (dts := []) .nil | with_reducible apply sim_makeK (gT := fun ts us => ts ++ us) (fun _ _ _ _ _ _ _ h1 h2 => vdl_app h2 h1) | with_reducible apply sim_makeK (gT := fun ts us => ts ++ us ++ [.non]) (fun _ _ _ _ _ _ _ h1 h2 => vdl_app vdl_N (vdl_app h2 h1)) | with_reducible apply sim_make0 (dts := [.int 0, .non]) df_0N | with_reducible apply sim_fld T.c_Places T.n_Places__spans | with_reducible apply sim_setF T.c_Places T.n_Places__spans | with_reducible apply sim_forI | with_reducible apply sim_pop | with_reducible apply sim_tru | with_reducible apply sim_prop | with_reducible apply sim_make (dts := []) .nil | with_reducible apply sim_make0 (dts := []) .nil | with_reducible apply sim_meth0 (dts := []) .nil | with_reducible apply sim_meth (dts := []) .nil | with_reducible apply sim_retThaw (i := 1) | fail "s")
  case go =>
    intro ts Ω PQ PX hl h
    obtain ⟨t, rs, rfl, ht, hg, hn, q⟩ := h
    simp! only [N_merged]
    refine .inr fun c hc => ?_
    have sp := sort_pair (rs := rs)
    have sl : (rs.mergeSort le2).length = rs.length := List.length_mergeSort rs
    have sg : ∀ r ∈ rs.mergeSort le2, 1 ≤ r.2 := fun r hr => (hg r (sort_mem.mp hr)).2.1
    refine for_Se (t := .lst ((rs.mergeSort le2).map spT)) (ts := (rs.mergeSort le2).map spT) (Ω1 := put Ω c (.lst [])) (fun P p => ?_) rfl (fun i ρ' Ω' => ∃ ms, MrgI ms (rs.mergeSort le2) i ∧ Ω' = put Ω c (.lst (ms.map spT)) ∧ ∃ x2 x3 x4 x5, ρ' = [some t, some (.obj c), x2, x3, x4, x5]) ⟨[], ⟨⟨0, .nil, fun s hs => (hg s (sort_mem.mp (List.mem_of_getElem? hs))).1⟩, Nat.le_refl _⟩, rfl, _, _, _, _, rfl⟩ (fun _ _ _ w => trivial) ?_ ?_
    · simp! only [dSortX]
      refine ⟨rs.map ilR, ?_, ?_, .inl ?_⟩
      · rw [asS_frame ht hc, spT_row]
      · intro r hr
        obtain ⟨s, _, rfl⟩ := List.mem_map.mp hr
        exact List.cons_ne_nil _ _
      · rw [sort_spT]
        exact p
    · rintro hz i x ρ' Ω' hx ⟨ms, M, rfl, x2, x3, x4, x5, rfl⟩
      rw [List.getElem?_map] at hx
      obtain ⟨s, hs, rfl⟩ := Option.map_eq_some_iff.mp hx
      have e0 : asT (spT s) = some [.int s.1, .int s.2] := rfl
      rcases List.eq_nil_or_concat ms with rfl | ⟨o, l, rfl⟩
      · have e4 : asS (.obj c) (put Ω c (.lst [])) = some [] := asS_obj put_same
        simp! only [spT, e4]
        obtain ⟨m, Mg, hm⟩ := M.ex
        have Mn := Mg.first' (sg s (List.mem_of_getElem? hs))
        rw [← take_one hs] at Mn
        exact ⟨[s], ⟨⟨_, Mn, fun s' hs' => pair_le sp hs' s (by rw [take_one hs]; simp)⟩, by simp⟩, rfl⟩
      · rw [List.concat_eq_append] at M ⊢
        have e1 : L2.atI ((o ++ [l]).map spT) (-1) = some (.tup [.int l.1, .int l.2]) := atI_last (n := o.length) (by rw [List.getElem?_map]; simp; rfl) (by simp)
        have e2 : ixN ((o ++ [l]).map spT).length (-1) = some o.length := by
          rw [List.length_map, List.length_append]
          unfold ixN
          rw [if_neg (by omega), if_pos (by simp only [List.length_cons, List.length_nil]; omega)]
          congr 1
          simp only [List.length_cons, List.length_nil]
          omega
        have e3 : asS (.tup [.int l.1, .int l.2]) (put Ω c (.lst ((o ++ [l]).map spT))) = some [.int l.1, .int l.2] := rfl
        have e4 : asS (.obj c) (put Ω c (.lst ((o ++ [l]).map spT))) = some ((o ++ [l]).map spT) := asS_obj put_same
        obtain ⟨m, Mg, hm⟩ := M.ex
        have hl := M.l
        have hi := (List.getElem?_eq_some_iff.mp hs).1
        have nx : ∀ s', (rs.mergeSort le2)[i + 1]? = some s' → s.1 ≤ s'.1 := fun s' hs' => pair_le sp hs' s (by rw [take_one hs]; simp)
        simp! only [spT, e1, e2, e3, e4]
        rw [if_pos (by simp)]
        refine itei (fun h => ?_) fun h => ⟨by rw [List.length_map]; omega, ?_⟩
        · have Mn := Mg.join (hm s hs) (sg s (List.mem_of_getElem? hs)) h
          rw [← take_one hs] at Mn
          refine ⟨_, ⟨⟨_, Mn, nx⟩, ?_⟩, ?_⟩
          · rw [List.length_append] at hl ⊢
            simp only [List.length_cons, List.length_nil] at hl ⊢
            omega
          · rw [show (o ++ [l]).map spT = o.map spT ++ [spT l] from List.map_append, List.set_append_right _ _ (by rw [List.length_map]; exact Nat.le_refl _), List.length_map, Nat.sub_self]
            rw [List.map_append]
            rfl
        · have Mn := Mg.new (hm s hs) (sg s (List.mem_of_getElem? hs)) (by omega)
          rw [← take_one hs] at Mn
          exact ⟨_, ⟨⟨_, Mn, nx⟩, by rw [List.length_append]; simp only [List.length_cons, List.length_nil]; omega⟩, by rw [List.map_append (l₁ := o ++ [l])]; rfl⟩
    · rintro ρ' Ω' ⟨ms, M, rfl, x2, x3, x4, x5, rfl⟩
      refine ret_new rfl hc ?_
      obtain ⟨m, Mg, hm⟩ := M.ex
      have hl := M.l
      rw [List.length_map, sl] at hl
      rw [List.length_map, List.take_length] at Mg
      exact q ms Mg.n (fun x => (Mg.c x).trans cov_sort) hl
/-! ### spans, Places -/
noncomputable abbrev cP (K : PySem.W.Frag) : Addr := He.ga K "Places"
noncomputable def spanB : Tr → Bool
  | .tup [.int a, .int b] => decide (0 ≤ a) && (decide (1 ≤ b) && decide (a + b ≤ 1000000000))
  | _ => false
theorem span_good {r : Spn} (h : 0 ≤ r.1 ∧ 1 ≤ r.2 ∧ r.1 + r.2 ≤ 1000000000) : spanB (spT r) = true := by
  show (decide (0 ≤ r.1) && (decide (1 ≤ r.2) && decide (r.1 + r.2 ≤ 1000000000))) = true
  rw [decide_eq_true h.1, decide_eq_true h.2.1, decide_eq_true h.2.2]
  rfl
theorem span_false {t : Tr} (h : ∀ a b, t ≠ .tup [.int a, .int b]) : spanB t = false := by
  unfold spanB
  split
  · exact absurd rfl (h _ _)
  · rfl
theorem ok_is_span (T : Tx K mg) : FnOk P w K mg base CX0 2 (He.ga K "is_span") T.fd_is_span P_is_span (spD K (wp_flag spanB) 1) := by
  refine dok T.F_is_span sc_is_span fun cdv A outer s H E hr => ?_
  refine' dokMk (PSs.nox (pss_cons (ps_if (PW.pt (pw_or (pt_not (pt_val (pe_callB (show CallR _ _ (rIsi K) from call_isi) (by rfl) T.z_isinstance (by decide +kernel) (pa_cons (pv 0) (pa_cons (pe_bltn (v := .ty "tuple") (u := .type "tuple") (by rfl) T.z_tuple (by decide +kernel) rfl) pa_nil))))) (pw_or1 (pt_cmpR op_ne (pe_callB (show CallR _ _ (LT.rLenS K) from LT.call_lenS) (by rfl) T.z_len (by decide +kernel) (pa_cons (pv 0) pa_nil)) (pe_int) (nomark _))))) (pss_one (ps_ret (pe_bl))) pss_nil) (pss_cons (ps_asg (pv 0) (LT.pg_tupK (K := K) (n := 2) rfl rfl (pgs_cons (pg_name (i := 1) sc_is_span.nd rfl (Or.inl rfl)) (pgs_cons (pg_name (i := 2) sc_is_span.nd rfl (Or.inl rfl)) pgs_nil)))) (pss_cons (ps_if (PW.pt (pw_or (pt_not (pt_val (pe_call (ok_is_whole T) hr rfl T.g_is_whole T.F_is_whole.kp (b_is_whole T) .nil pass0 (pa_cons (pv 1) pa_nil)))) (pw_or1 (pt_not (pt_val (pe_call (ok_is_whole T) hr rfl T.g_is_whole T.F_is_whole.kp (b_is_whole T) .nil pass0 (pa_cons (pv 2) pa_nil))))))) (pss_one (ps_ret (pe_bl))) pss_nil) (pss_one (ps_ret ((pe_and (pe_cmpR op_ge (pv 1) (pe_int) (nomark _)) (pe_and (pe_cmpR op_ge (pv 2) (pe_int) (nomark _)) (pe_one (pe_cmpR op_le (pe_op (show OpR _ _ (LT.rAddG K) from LT.op_addG) (pv 1) (pv 2)) (pe_glob (v := .int 1000000000) rfl T.c_MOST_PLACE.choose_spec ⟨_, rfl⟩) (nomark _)))))))))))) ?sim ?go
  case sim =>
    try simp only [LL.cxK0, LL.cxK1, List.map_cons, List.map_nil]
    repeat' (first | fail "f" | with_reducible exact simc_isiO | with_reducible apply sim_iR3 | with_reducible apply sim_gLst | with_reducible apply sim_tryR0 | with_reducible apply sim_tryR | with_reducible apply SimRow.cons | with_reducible exact SimRow.nil | with_reducible apply sim_mthS (dts := []) .nil | with_reducible apply sim_makeK (gT := fun ts us => ts ++ us) (fun _ _ _ _ _ _ _ h1 h2 => vdl_app h2 h1) | with_reducible apply sim_makeK (gT := fun ts us => ts ++ us ++ [.non]) (fun _ _ _ _ _ _ _ h1 h2 => vdl_app vdl_N (vdl_app h2 h1)) | with_reducible apply sim_make0 (dts := [.int 0, .non]) df_0N | with_reducible apply sim_fld T.c_Places T.n_Places__spans | with_reducible apply sim_setF T.c_Places T.n_Places__spans | with_reducible apply sim_forI | with_reducible apply sim_pop | with_reducible apply sim_tru | with_reducible apply sim_prop | with_reducible apply sim_make (dts := []) .nil | with_reducible apply sim_make0 (dts := []) .nil | with_reducible apply sim_meth0 (dts := []) .nil | with_reducible apply sim_meth (dts := []) .nil | fail "s")
  case go =>
    intro ts Ω PQ PX hl h
    obtain ⟨t, rfl, hk, q⟩ := h
    simp! only [N_is_span]
    cases t with
    | tup us =>
      simp! only [and_true]
      refine fun hz => itei (fun h2 => ?_) fun h2 => ?_
      · rw [span_false] at q
        · exact q
        · intro a b e
          cases e
          simp at h2
      · obtain ⟨x, y, rfl⟩ : ∃ x y, us = [x, y] := by
          match us, h2 with
          | [], h2 => exact (h2 (by simp)).elim
          | [x], h2 => exact (h2 (by simp)).elim
          | [x, y], _ => exact ⟨x, y, rfl⟩
          | x :: y :: z :: r, h2 => exact (h2 (by simp; omega)).elim
        have dx : dataT x = true := dataTs_mem (show dataTs [x, y] = true from hk) (by simp)
        have dy : dataT y = true := dataTs_mem (show dataTs [x, y] = true from hk) (by simp)
        simp! only [and_true]
        refine ⟨x, rfl, data_kind dx, ?_⟩
        cases x with
        | int i =>
          simp! only [isInt]
          refine ⟨y, rfl, data_kind dy, ?_⟩
          cases y with
          | int j =>
            simp! only [isInt]
            unfold spanB at q
            by_cases h1 : 0 ≤ i
            · by_cases h2 : 1 ≤ j
              · rw [if_pos h1, if_pos h2]
                simpa [h1, h2] using q
              · rw [if_pos h1, if_neg h2]
                simpa [h1, h2] using q
            · rw [if_neg h1]
              simpa [h1] using q
          | _ => first | (cases (show false = true from dy); done) | (simp! only [isInt]; exact q)
        | _ => first | (cases (show false = true from dx); done) | (simp! only [isInt]; exact q)
    | _ => first | (cases (show false = true from hk); done) | (simp! only [and_true]; exact q)
/-- what Places may be asked with: data, a list that is being made, a set of places -/
noncomputable def RowK (K : PySem.W.Frag) (t : Tr) (Ω : Om) : Prop := dataT t = true ∨ (∃ a us, t = .obj a ∧ Ω a = some (.lst us) ∧ dataTs us = true) ∨ ∃ a, insP (cP K) t Ω = some a
noncomputable def wp_isrow (K : PySem.W.Frag) : Pw := fun ts Ω PQ _ => ∃ t, ts = [t] ∧ RowK K t Ω ∧ PQ (.bl (asS t Ω).isSome) Ω
noncomputable def goodO (t : Tr) (Ω : Om) : Bool := match asS t Ω with
  | some us => decide (us.length ≤ 20000) && us.all spanB
  | none => false
theorem row_data {K : PySem.W.Frag} {t : Tr} {Ω : Om} {us : List Tr} (h : RowK K t Ω) (hs : asS t Ω = some us) : dataTs us = true := by
  rcases h with h | ⟨a, vs, rfl, hc, h⟩ | ⟨a, h⟩
  · cases t with
    | lst vs => cases hs; exact h
    | tup vs => cases hs; exact h
    | obj a => cases (show false = true from h)
    | _ => cases hs
  · rw [asS_obj hc] at hs
    cases hs
    exact h
  · obtain ⟨dx, ns, ts, rfl, hc⟩ := insP_eq h
    have e : asS (.obj a) Ω = cellL (Ω a) := rfl
    rw [e, hc] at hs
    cases hs
theorem ok_is_row (T : Tx K mg) : FnOk P w K mg base CX0 1 (He.ga K "is_row") T.fd_is_row P_is_row (spD K (wp_isrow K) 1) := by
  refine dok T.F_is_row sc_is_row fun cdv A outer s H E hr => ?_
  refine' dokMk (PSs.nox (pss_one (ps_ret (pe_callB (show CallR _ _ (rIsiT K) from call_isiT) (by rfl) T.z_isinstance (by decide +kernel) (pa_cons (pv 0) (pa_cons (pe_tup (pa_cons (pe_bltn (v := .ty "list") (u := .type "list") (by rfl) T.z_list (by decide +kernel) rfl) (pa_cons (pe_bltn (v := .ty "tuple") (u := .type "tuple") (by rfl) T.z_tuple (by decide +kernel) rfl) pa_nil))) pa_nil)))))) ?sim ?go
  case sim =>
    try simp only [LL.cxK0, LL.cxK1, List.map_cons, List.map_nil]
    repeat' (first | fail "f" | with_reducible exact simc_isiA | with_reducible exact simc_isiO | with_reducible apply sim_iR3 | with_reducible apply sim_gLst | with_reducible apply sim_tryR0 | with_reducible apply sim_tryR | with_reducible apply SimRow.cons | with_reducible exact SimRow.nil | with_reducible apply sim_mthS (dts := []) .nil | with_reducible apply sim_makeK (gT := fun ts us => ts ++ us) (fun _ _ _ _ _ _ _ h1 h2 => vdl_app h2 h1) | with_reducible apply sim_makeK (gT := fun ts us => ts ++ us ++ [.non]) (fun _ _ _ _ _ _ _ h1 h2 => vdl_app vdl_N (vdl_app h2 h1)) | with_reducible apply sim_make0 (dts := [.int 0, .non]) df_0N | with_reducible apply sim_fld T.c_Places T.n_Places__spans | with_reducible apply sim_setF T.c_Places T.n_Places__spans | with_reducible apply sim_forI | with_reducible apply sim_pop | with_reducible apply sim_tru | with_reducible apply sim_prop | with_reducible apply sim_make (dts := []) .nil | with_reducible apply sim_make0 (dts := []) .nil | with_reducible apply sim_meth0 (dts := []) .nil | with_reducible apply sim_meth (dts := []) .nil | fail "s")
  case go =>
    intro ts Ω PQ PX hl h
    obtain ⟨t, rfl, hk, q⟩ := h
    simp! only [N_is_row]
    rcases hk with hk | ⟨a, us, rfl, hc, hd⟩ | ⟨a, ha⟩
    · refine .inl ⟨t, ["list", "tuple"], rfl, by simp, data_kind hk, by decide, ?_⟩
      cases t <;> first | (cases (show false = true from hk); done) | exact q
    · refine .inr (.inr ⟨a, us, ["list", "tuple"], rfl, by simp, hc, by decide, ?_⟩)
      rw [asS_obj hc] at q
      exact q
    · refine .inr (.inl ⟨t, cP K, ["list", "tuple"], rfl, by simp, T.w_Places, T.c_Places, by rw [ha]; rfl, fun n hn => ?_, ?_⟩)
      · rcases List.mem_cons.mp hn with rfl | hn
        · exact T.kk_Places_list
        · rw [List.mem_singleton.mp hn]
          exact T.kk_Places_tuple
      · obtain ⟨dx, ns, ts, rfl, hc⟩ := insP_eq ha
        have e : asS (.obj a) Ω = cellL (Ω a) := rfl
        rw [e, hc] at q
        exact q
noncomputable def wa_pinit (K : PySem.W.Frag) : Pw := fun ts Ω PQ PX => ∃ (a dx : Addr) (t : Tr), ts = [.obj a, t] ∧ Ω a = some (.ins (cP K) dx [] []) ∧ RowK K t Ω ∧ (goodO t Ω = false → PX (badX (.str "spans")) Ω) ∧ ∀ rs, asS t Ω = some (rs.map spT) → GoodS rs → rs.length ≤ 20000 → ∀ ms, NormS ms → (∀ x, CovS ms x ↔ CovS rs x) → ms.length ≤ rs.length → PQ .non (put Ω a (.ins (cP K) dx ["_spans"] [.tup (ms.map spT)]))
noncomputable def wa_spans (K : PySem.W.Frag) : Pw := fun ts Ω PQ _ => ∃ (a dx : Addr) (ms : List Spn), ts = [.obj a] ∧ Ω a = some (.ins (cP K) dx ["_spans"] [.tup (ms.map spT)]) ∧ lstNew (ms.map spT) Ω PQ
theorem span_inv {t : Tr} (h : spanB t = true) : ∃ r : Spn, t = spT r ∧ 0 ≤ r.1 ∧ 1 ≤ r.2 ∧ r.1 + r.2 ≤ 1000000000 := by
  by_cases hx : ∃ a b, t = .tup [.int a, .int b]
  · obtain ⟨a, b, rfl⟩ := hx
    unfold spanB at h
    simp only [Bool.and_eq_true, decide_eq_true_eq] at h
    exact ⟨(a, b), rfl, h⟩
  · rw [span_false (fun a b e => hx ⟨a, b, e⟩)] at h
    cases h
theorem spans_inv : ∀ {us : List Tr}, us.all spanB = true → ∃ rs : List Spn, us = rs.map spT ∧ GoodS rs
  | [], _ => ⟨[], rfl, fun r h => (List.not_mem_nil h).elim⟩
  | u :: us, h => by
    rw [List.all_cons, Bool.and_eq_true] at h
    obtain ⟨r, rfl, h1⟩ := span_inv h.1
    obtain ⟨rs, rfl, h2⟩ := spans_inv h.2
    exact ⟨r :: rs, rfl, fun s hs => (List.mem_cons.mp hs).elim (fun e => e ▸ h1) (h2 s)⟩
theorem spans_good {rs : List Spn} (h : GoodS rs) : (rs.map spT).all spanB = true := by
  rw [List.all_eq_true]
  intro t ht
  obtain ⟨r, hr, rfl⟩ := List.mem_map.mp ht
  have := h r hr
  unfold spT spanB
  simp only [Bool.and_eq_true, decide_eq_true_eq]
  omega
theorem spans_data {rs : List Spn} : dataTs (rs.map spT) = true := dataTs_of fun t ht => by
  obtain ⟨r, _, rfl⟩ := List.mem_map.mp ht
  rfl
theorem ok_Places_init (T : Tx K mg) : FnOk P w K mg base (L2.CX P w) 4 (He.ma K (He.ga K "Places") "__init__") T.fd_Places_init P_Places_init (spD K (wa_pinit K) 2) := by
  refine dokD T.F_Places_init sc_Places_init fun cdv A outer s H E hr => ?_
  refine' dokMk ((pss_cons (ps_expr (pe_call (ok_need T) hr rfl T.g_need T.F_need.kp (b_need T) .nil (passR (takes_of rfl rfl rfl rfl) (fun _ _ _ _ h => h)) (pa_cons ((pe_and (pe_call (ok_is_row T) (hr.mono (by decide)) rfl T.g_is_row T.F_is_row.kp (b_is_row T) .nil pass0 (pa_cons (pv 1) pa_nil)) (pe_one (pe_cmpR op_le (pe_callB (show CallR _ _ (LT.rLenS K) from LT.call_lenS) (by rfl) T.z_len (by decide +kernel) (pa_cons (pv 1) pa_nil)) (pe_glob (v := .int 20000) rfl T.c_MOST_SPANS.choose_spec ⟨_, rfl⟩) (nomark _))))) (pa_cons (pe_str) pa_nil)))) (pss_cons (ps_for (passes_of rfl) rfl (LT.pi_seqK (K := K) rfl (pv 1)) (pg_name (i := 2) sc_Places_init.nd rfl (Or.inl rfl)) (pss_one (ps_expr (pe_call (ok_need T) hr rfl T.g_need T.F_need.kp (b_need T) .nil (passR (takes_of rfl rfl rfl rfl) (fun _ _ _ _ h => h)) (pa_cons (pe_call (ok_is_span T) (hr.mono (by decide)) rfl T.g_is_span T.F_is_span.kp (b_is_span T) .nil pass0 (pa_cons (pv 2) pa_nil)) (pa_cons (pe_str) pa_nil)))))) (pss_one (ps_fld (pv 0) (pe_callTy (show CallR _ _ (LT.rTuple K) from LT.call_tuple) (by rfl) T.z_tuple (by decide +kernel) (pa_cons (pe_call (ok_merged T) (hr.mono (by decide)) rfl T.g_merged T.F_merged.kp (b_merged T) .nil pass0 (pa_cons (pv 1) pa_nil)) pa_nil)) rfl))))) ?sim ?go
  case sim =>
    try simp only [LL.cxK0, LL.cxK1, List.map_cons, List.map_nil]
    repeat' (first | fail "f" | with_reducible exact simc_isiO | with_reducible apply sim_iR3 | with_reducible apply sim_gLst | with_reducible apply sim_tryR0 | with_reducible apply sim_tryR | with_reducible apply SimRow.cons | with_reducible exact SimRow.nil | with_reducible apply sim_mthS (dts := []) .nil | with_reducible apply sim_makeK (gT := fun ts us => ts ++ us) (fun _ _ _ _ _ _ _ h1 h2 => vdl_app h2 h1) | with_reducible apply sim_makeK (gT := fun ts us => ts ++ us ++ [.non]) (fun _ _ _ _ _ _ _ h1 h2 => vdl_app vdl_N (vdl_app h2 h1)) | with_reducible apply sim_make0 (dts := [.int 0, .non]) df_0N | with_reducible apply sim_fld T.c_Places T.n_Places__spans | with_reducible apply sim_setF T.c_Places T.n_Places__spans | with_reducible apply sim_forI | with_reducible apply sim_pop | with_reducible apply sim_tru | with_reducible apply sim_prop | with_reducible apply sim_make (dts := []) .nil | with_reducible apply sim_make0 (dts := []) .nil | with_reducible apply sim_meth0 (dts := []) .nil | with_reducible apply sim_meth (dts := []) .nil | fail "s")
  case go =>
    intro ts Ω PQ PX hl h
    obtain ⟨a, dx, t, rfl, ha, hk, q1, q⟩ := h
    simp! only [N_Places_init]
    refine ⟨_, rfl, hk, ?_⟩
    cases hs : asS t Ω with
    | some us =>
      have hl : lenT t Ω = some us.length := len_S hs
      have hg : goodO t Ω = (decide (us.length ≤ 20000) && us.all spanB) := by unfold goodO; rw [hs]
      have hdu := row_data hk hs
      refine ⟨true, rfl, ?_⟩
      rw [if_pos rfl]
      refine ⟨_, hl, fun hz => ⟨_, _, rfl, fun hn => ?_, fun hn => q1 ?_⟩⟩
      · have hn' : us.length ≤ 20000 := by have := of_decide_eq_true hn; omega
        refine for_Se (t := t) (ts := us) (Ω1 := Ω) (fun P p => ⟨_, rfl, p⟩) hs (fun i ρ' Ω' => Ω' = Ω ∧ (∀ u ∈ us.take i, spanB u = true) ∧ ∃ x, ρ' = [some (.obj a), some t, x]) ⟨rfl, fun u hu => (List.not_mem_nil hu).elim, _, rfl⟩ (fun _ _ _ w => w.1 ▸ stay_of hs) ?_ ?_
        · rintro hz i x ρ' Ω' hx ⟨rfl, hall, y, rfl⟩
          simp! only [and_true]
          refine ⟨_, rfl, dataTs_mem hdu (List.mem_of_getElem? hx), _, _, rfl, fun hb => ?_, fun hb => q1 ?_⟩
          · refine ⟨rfl, fun u hu => ?_⟩
            rw [take_one hx] at hu
            rcases List.mem_append.mp hu with hu | hu
            · exact hall u hu
            · rw [List.mem_singleton.mp hu]
              exact hb
          · rw [hg]
            have : us.all spanB = false := by
              cases e : us.all spanB with
              | false => rfl
              | true => rw [List.all_eq_true.mp e x (List.mem_of_getElem? hx)] at hb; cases hb
            rw [this, Bool.and_false]
        · rintro ρ' Ω' ⟨rfl, hall, y, rfl⟩
          rw [List.take_length] at hall
          obtain ⟨rs, rfl, hgood⟩ := spans_inv (List.all_eq_true.mpr hall)
          rw [List.length_map] at hn'
          simp! only [and_true]
          exact ⟨t, rs, rfl, hs, hgood, by omega, fun ms n c l => ⟨_, rfl, fun _ => ⟨dx, [], [], insC_obj ha, by decide, q rs hs hgood hn' ms n c l⟩⟩⟩
      · rw [hg, show decide (us.length ≤ 20000) = false from decide_eq_false (by have := of_decide_eq_false hn; omega)]
        rfl
    | none =>
      have hg : goodO t Ω = false := by unfold goodO; rw [hs]
      refine ⟨false, rfl, ?_⟩
      rw [if_neg Bool.false_ne_true]
      exact ⟨false, _, rfl, nofun, fun _ => q1 hg⟩
theorem ok_Places_spans (T : Tx K mg) : FnOk P w K mg base CX0 1 (gAd K "Places" "spans") T.fd_Places_spans P_Places_spans (spD K (wa_spans K) 1) := by
  refine dok T.F_Places_spans sc_Places_spans fun cdv A outer s H E hr => ?_
  refine' dokMk (PSs.nox (pss_one (ps_ret (pe_callTy (show CallR _ _ (LT.rList K) from LT.call_list rfl) (by rfl) T.z_list (by decide +kernel) (pa_cons (pe_fld (pv 0) rfl) pa_nil))))) ?sim ?go
  case sim =>
    try simp only [LL.cxK0, LL.cxK1, List.map_cons, List.map_nil]
    repeat' (first | fail "f" | with_reducible exact simc_isiO | with_reducible apply sim_iR3 | with_reducible apply sim_gLst | with_reducible apply sim_tryR0 | with_reducible apply sim_tryR | with_reducible apply SimRow.cons | with_reducible exact SimRow.nil | with_reducible apply sim_mthS (dts := []) .nil | with_reducible apply sim_makeK (gT := fun ts us => ts ++ us) (fun _ _ _ _ _ _ _ h1 h2 => vdl_app h2 h1) | with_reducible apply sim_makeK (gT := fun ts us => ts ++ us ++ [.non]) (fun _ _ _ _ _ _ _ h1 h2 => vdl_app vdl_N (vdl_app h2 h1)) | with_reducible apply sim_make0 (dts := [.int 0, .non]) df_0N | with_reducible apply sim_fld T.c_Places T.n_Places__spans | with_reducible apply sim_setF T.c_Places T.n_Places__spans | with_reducible apply sim_forI | with_reducible apply sim_pop | with_reducible apply sim_tru | with_reducible apply sim_prop | with_reducible apply sim_make (dts := []) .nil | with_reducible apply sim_make0 (dts := []) .nil | with_reducible apply sim_meth0 (dts := []) .nil | with_reducible apply sim_meth (dts := []) .nil | fail "s")
  case go =>
    intro ts Ω PQ PX hl h
    obtain ⟨a, dx, ms, rfl, ha, q⟩ := h
    have e : insF (cP K) "_spans" (.obj a) Ω = some (.tup (ms.map spT)) := (insF_obj ha).trans rfl
    simp! only [N_Places_spans, e]
    exact .inl fun _ => q
noncomputable def sizT : Tr → Tr
  | .tup [_, y] => y
  | t => t
noncomputable def wa_bool (K : PySem.W.Frag) : Pw := fun ts Ω PQ _ => ∃ (a dx : Addr) (ms : List Spn), ts = [.obj a] ∧ Ω a = some (.ins (cP K) dx ["_spans"] [.tup (ms.map spT)]) ∧ PQ (.bl (decide (ms ≠ []))) Ω
noncomputable def wa_total (K : PySem.W.Frag) : Pw := fun ts Ω PQ _ => ∃ (a dx : Addr) (ms : List Spn), ts = [.obj a] ∧ Ω a = some (.ins (cP K) dx ["_spans"] [.tup (ms.map spT)]) ∧ PQ (.int (ms.map (·.2)).sum) Ω
/-! ### the span at or before a place -/
noncomputable def StS (ms : List Spn) : Prop := ∀ (i j : Nat) (r r' : Spn), i ≤ j → ms[i]? = some r → ms[j]? = some r' → r.1 ≤ r'.1
/-- k spans begin at x or before it -/
noncomputable def UpS (ms : List Spn) (x : Int) (k : Nat) : Prop := k ≤ ms.length ∧ (∀ (i : Nat) (r : Spn), i < k → ms[i]? = some r → r.1 ≤ x) ∧ ∀ (i : Nat) (r : Spn), k ≤ i → ms[i]? = some r → x < r.1
noncomputable def wp_upto : Pw := fun ts Ω PQ _ => ∃ (ms : List Spn) (x : Int), ts = [.tup (ms.map spT), .int x] ∧ StS ms ∧ ms.length ≤ 1000000 ∧ ∀ k : Nat, UpS ms x k → PQ (.int ((k : Int) - 1)) Ω
theorem ok_index_upto (T : Tx K mg) : FnOk P w K mg base CX0 1 (He.ga K "index_upto") T.fd_index_upto P_index_upto (spD K wp_upto 2) := by
  refine dok T.F_index_upto sc_index_upto fun cdv A outer s H E hr => ?_
  refine' dokMk (PSs.nox (pss_cons (ps_set (i := 2) sc_index_upto.nd rfl (Or.inl rfl) (pe_int)) (pss_cons (ps_set (i := 3) sc_index_upto.nd rfl (Or.inl rfl) (pe_callB (show CallR _ _ (LT.rLenS K) from LT.call_lenS) (by rfl) T.z_len (by decide +kernel) (pa_cons (pv 0) pa_nil))) (pss_cons (ps_while PassesOwn.never (pt_cmpR op_lt (pv 2) (pv 3) (nomark _)) (pss_cons (ps_set (i := 4) sc_index_upto.nd rfl (Or.inl rfl) (pe_op op_fdiv (pe_op (show OpR _ _ (LT.rAddG K) from LT.op_addG) (pv 2) (pv 3)) (pe_int))) (pss_one (ps_if (pt_cmpR op_le (pe_ix (show IxR _ (LL.rIxA K) from LL.ix_A) (pe_ix (show IxR _ (LL.rIxA K) from LL.ix_A) (pv 0) (pv 4) (fun _ _ => rfl)) (pe_int) (fun _ _ => rfl)) (pv 1) (nomark _)) (pss_one (ps_set (i := 2) sc_index_upto.nd rfl (Or.inl rfl) (pe_op (show OpR _ _ (LT.rAddG K) from LT.op_addG) (pv 4) (pe_int)))) (pss_one (ps_set (i := 3) sc_index_upto.nd rfl (Or.inl rfl) (pv 4))))))) (pss_one (ps_ret (pe_op op_sub (pv 2) (pe_int)))))))) ?sim ?go
  case sim =>
    try simp only [LL.cxK0, LL.cxK1, List.map_cons, List.map_nil]
    repeat' (first | fail "f" | with_reducible exact simc_isiO | with_reducible apply sim_iR3 | with_reducible apply sim_gLst | with_reducible apply sim_tryR0 | with_reducible apply sim_tryR | with_reducible apply SimRow.cons | with_reducible exact SimRow.nil | with_reducible apply sim_mthS (dts := []) .nil | with_reducible apply sim_makeK (gT := fun ts us => ts ++ us) (fun _ _ _ _ _ _ _ h1 h2 => vdl_app h2 h1) | with_reducible apply sim_makeK (gT := fun ts us => ts ++ us ++ [.non]) (fun _ _ _ _ _ _ _ h1 h2 => vdl_app vdl_N (vdl_app h2 h1)) | with_reducible apply sim_make0 (dts := [.int 0, .non]) df_0N | with_reducible apply sim_fld T.c_Places T.n_Places__spans | with_reducible apply sim_setF T.c_Places T.n_Places__spans | with_reducible apply sim_forI | with_reducible apply sim_pop | with_reducible apply sim_tru | with_reducible apply sim_prop | with_reducible apply sim_make (dts := []) .nil | with_reducible apply sim_make0 (dts := []) .nil | with_reducible apply sim_meth0 (dts := []) .nil | with_reducible apply sim_meth (dts := []) .nil | fail "s")
  case go =>
    intro ts Ω PQ PX hl h
    obtain ⟨ms, x, rfl, hs, hn, q⟩ := h
    simp! only [N_index_upto]
    refine fun _ => ⟨fun m ρ' Ω' => Ω' = Ω ∧ ∃ (lo hi : Nat) (x4 : Option Tr), m = hi - lo ∧ lo ≤ hi ∧ hi ≤ ms.length ∧ (∀ (i : Nat) (r : Spn), i < lo → ms[i]? = some r → r.1 ≤ x) ∧ (∀ (i : Nat) (r : Spn), hi ≤ i → ms[i]? = some r → x < r.1) ∧ ρ' = [some (.tup (ms.map spT)), some (.int x), some (.int lo), some (.int hi), x4], ⟨_, rfl, 0, ms.length, none, rfl, Nat.zero_le _, Nat.le_refl _, fun i r h => by omega, fun i r h e => ?_, by rw [List.length_map]; rfl⟩, ?_⟩
    · have := (List.getElem?_eq_some_iff.mp e).1
      omega
    · rintro m ρ' Ω' ⟨rfl, lo, hi, x4, rfl, h1, h2, h3, h4, rfl⟩
      simp! only [and_true]
      refine itei (fun hlt => ?_) fun hlt => q lo ⟨by omega, h3, fun i r hi' e => h4 i r (by omega) e⟩
      obtain ⟨mid, hmid⟩ : ∃ mid : Nat, ((lo : Int) + hi) / 2 = mid := ⟨(lo + hi) / 2, by omega⟩
      have hm1 : lo ≤ mid ∧ mid < hi := by omega
      obtain ⟨r, hr⟩ : ∃ r, ms[mid]? = some r := ⟨_, List.getElem?_eq_getElem (by omega)⟩
      rw [hmid]
      refine ⟨by unfold CDiv; omega, spT r, atI_nat (by rw [List.getElem?_map, hr]; rfl), _, rfl, _, rfl, _, rfl, itei (fun hle => ⟨_, ?_, mid + 1, hi, rfl, by omega, h2, fun i r' hi' e => ?_, h4, by omega, rfl⟩) fun hle => ⟨_, ?_, lo, mid, rfl, by omega, by omega, h3, fun i r' hi' e => ?_, rfl, rfl⟩⟩
      · omega
      · have := hs i mid r' r (by omega) e hr
        omega
      · omega
      · have := hs mid i r r' hi' hr e
        omega
/-- what may be asked for: data, a set of places -/
noncomputable def DatK (K : PySem.W.Frag) (t : Tr) (Ω : Om) : Prop := dataT t = true ∨ ∃ b, insP (cP K) t Ω = some b
noncomputable def wp_wholeK (K : PySem.W.Frag) : Pw := fun ts Ω PQ _ => ∃ t, ts = [t] ∧ DatK K t Ω ∧ PQ (.bl (isInt t)) Ω
noncomputable def wa_has (K : PySem.W.Frag) : Pw := fun ts Ω PQ _ => ∃ (a dx : Addr) (ms : List Spn) (t : Tr), ts = [.obj a, t] ∧ Ω a = some (.ins (cP K) dx ["_spans"] [.tup (ms.map spT)]) ∧ NormS ms ∧ ms.length ≤ 1000000 ∧ dataT t = true ∧ ((∀ i, t ≠ .int i) → PQ (.bl false) Ω) ∧ ∀ x b, t = .int x → (b = true ↔ CovS ms x) → PQ (.bl b) Ω
theorem norm_at {ms : List Spn} (h : NormS ms) {i j : Nat} {r r' : Spn} (hij : i < j) (e : ms[i]? = some r) (e' : ms[j]? = some r') : r.1 + r.2 < r'.1 := by
  obtain ⟨h1, rfl⟩ := List.getElem?_eq_some_iff.mp e
  obtain ⟨h2, rfl⟩ := List.getElem?_eq_some_iff.mp e'
  exact List.pairwise_iff_getElem.mp h.s i j h1 h2 hij
theorem norm_st {ms : List Spn} (h : NormS ms) : StS ms := fun i j r r' hij e e' => by
  by_cases he : i = j
  · subst he
    rw [e] at e'
    rw [Option.some.inj e']
    exact Int.le_refl _
  · have h1 := norm_at h (show i < j by omega) e e'
    have h2 := h.p r (List.mem_of_getElem? e)
    omega
end
section
open PySem PySem.Spec PyProof.Rows L2 LL LT
variable {P : Program} {w : World} {K : PySem.W.Frag} {mg : Str → Option Value} {base : Heap}

/-! ### powers of two, aligned places -/
noncomputable def powB : Tr → Bool
  | .int i => isP i
  | _ => false
noncomputable def alB (most : Int) : Tr → Bool
  | .int i => isP i && decide (i ≤ most)
  | _ => false
noncomputable def wp_nalign : Pw := fun ts Ω PQ PX => ∃ (t : Tr) (most : Int) (n : Tr), ts = [t, .int most, n] ∧ dataT t = true ∧ (alB most t = true → PQ .non Ω) ∧ (alB most t = false → PX (badX n) Ω)
noncomputable def wp_endof : Pw := fun ts Ω PQ _ => ∃ r : Spn, ts = [spT r] ∧ (0 ≤ r.1 ∧ 1 ≤ r.2 ∧ r.1 + r.2 ≤ 1000000000) ∧ PQ (.int (r.1 + r.2)) Ω
/-- the least multiple of a that is n or above -/
noncomputable def upI (n a : Int) : Int := n + -n % a
noncomputable def wp_alup : Pw := fun ts Ω PQ _ => ∃ n a : Int, ts = [.int n, .int a] ∧ (0 ≤ n ∧ n ≤ 1000000000) ∧ isP a = true ∧ a ≤ 1073741824 ∧ PQ (.int (upI n a)) Ω
/-- the lowest aligned start in a run -/
noncomputable def startI (r : Spn) (n a : Int) : Option Int := if r.1 + r.2 < upI r.1 a + n then none else some (upI r.1 a)
noncomputable def optT : Option Int → Tr
  | none => .non
  | some i => .int i
noncomputable def wp_startin : Pw := fun ts Ω PQ _ => ∃ (r : Spn) (n a : Int), ts = [spT r, .int n, .int a] ∧ (0 ≤ r.1 ∧ 1 ≤ r.2 ∧ r.1 + r.2 ≤ 1000000000) ∧ isP a = true ∧ a ≤ 1073741824 ∧ PQ (optT (startI r n a)) Ω
theorem optT_n : optT none = .non := rfl
theorem optT_s (i : Int) : optT (some i) = .int i := rfl
theorem powB_i (i : Int) : powB (.int i) = isP i := rfl
theorem alB_i (m i : Int) : alB m (.int i) = (isP i && decide (i ≤ m)) := rfl
theorem isP_pos {i : Int} (h : isP i = true) : 1 ≤ i := by
  unfold isP at h
  rw [Bool.and_eq_true] at h
  exact of_decide_eq_true h.1
theorem ok_is_power (T : Tx K mg) : FnOk P w K mg base CX0 2 (He.ga K "is_power") T.fd_is_power P_is_power (spD K (wp_flag powB) 1) := by
  refine dok T.F_is_power sc_is_power fun cdv A outer s H E hr => ?_
  refine' dokMk (PSs.nox (pss_one (ps_ret ((pe_and (pe_call (ok_is_whole T) hr rfl T.g_is_whole T.F_is_whole.kp (b_is_whole T) .nil pass0 (pa_cons (pv 0) pa_nil)) (pe_and (pe_cmpR op_ge (pv 0) (pe_int) (nomark _)) (pe_one (pe_cmpR op_eq (pe_op op_and (pv 0) (pe_op op_sub (pv 0) (pe_int))) (pe_int) (nomark _))))))))) ?sim ?go
  case sim =>
    try simp only [LL.cxK0, LL.cxK1, List.map_cons, List.map_nil]
    repeat' (first | fail "f" | with_reducible exact simc_isiO | with_reducible apply sim_iR3 | with_reducible apply sim_gLst | with_reducible apply sim_tryR0 | with_reducible apply sim_tryR | with_reducible apply SimRow.cons | with_reducible exact SimRow.nil | with_reducible apply sim_mthS (dts := []) .nil | with_reducible apply sim_makeK (gT := fun ts us => ts ++ us) (fun _ _ _ _ _ _ _ h1 h2 => vdl_app h2 h1) | with_reducible apply sim_makeK (gT := fun ts us => ts ++ us ++ [.non]) (fun _ _ _ _ _ _ _ h1 h2 => vdl_app vdl_N (vdl_app h2 h1)) | with_reducible apply sim_make0 (dts := [.int 0, .non]) df_0N | with_reducible apply sim_fld T.c_Places T.n_Places__spans | with_reducible apply sim_setF T.c_Places T.n_Places__spans | with_reducible apply sim_forI | with_reducible apply sim_pop | with_reducible apply sim_tru | with_reducible apply sim_prop | with_reducible apply sim_make (dts := []) .nil | with_reducible apply sim_make0 (dts := []) .nil | with_reducible apply sim_meth0 (dts := []) .nil | with_reducible apply sim_meth (dts := []) .nil | fail "s")
  case go =>
    intro ts Ω PQ PX hl h
    obtain ⟨t, rfl, hk, q⟩ := h
    simp! only [N_is_power]
    refine ⟨t, rfl, data_kind hk, ?_⟩
    cases t with
    | int i =>
      simp! only [isInt]
      rw [powB_i] at q
      unfold isP at q
      refine itei (fun h1 => ?_) fun h1 => ?_
      · rw [decide_eq_true h1, Bool.true_and] at q
        exact q
      · rw [decide_eq_false h1, Bool.false_and] at q
        exact q
    | _ =>
      simp! only [isInt]
      exact q
theorem ok_need_align (T : Tx K mg) : FnOk P w K mg base (L2.CX P w) 4 (He.ga K "need_align") T.fd_need_align P_need_align (spD K wp_nalign 3) := by
  refine dok T.F_need_align sc_need_align fun cdv A outer s H E hr => ?_
  refine' dokMk ((pss_one (ps_expr (pe_call (ok_need T) hr rfl T.g_need T.F_need.kp (b_need T) .nil (passR (takes_of rfl rfl rfl rfl) (fun _ _ _ _ h => h)) (pa_cons ((pe_and (pe_call (ok_is_power T) (hr.mono (by decide)) rfl T.g_is_power T.F_is_power.kp (b_is_power T) .nil pass0 (pa_cons (pv 0) pa_nil)) (pe_one (pe_cmpR op_le (pv 0) (pv 1) (nomark _))))) (pa_cons (pv 2) pa_nil)))))) ?sim ?go
  case sim =>
    try simp only [LL.cxK0, LL.cxK1, List.map_cons, List.map_nil]
    repeat' (first | fail "f" | with_reducible exact simc_isiO | with_reducible apply sim_iR3 | with_reducible apply sim_gLst | with_reducible apply sim_tryR0 | with_reducible apply sim_tryR | with_reducible apply SimRow.cons | with_reducible exact SimRow.nil | with_reducible apply sim_mthS (dts := []) .nil | with_reducible apply sim_makeK (gT := fun ts us => ts ++ us) (fun _ _ _ _ _ _ _ h1 h2 => vdl_app h2 h1) | with_reducible apply sim_makeK (gT := fun ts us => ts ++ us ++ [.non]) (fun _ _ _ _ _ _ _ h1 h2 => vdl_app vdl_N (vdl_app h2 h1)) | with_reducible apply sim_make0 (dts := [.int 0, .non]) df_0N | with_reducible apply sim_fld T.c_Places T.n_Places__spans | with_reducible apply sim_setF T.c_Places T.n_Places__spans | with_reducible apply sim_forI | with_reducible apply sim_pop | with_reducible apply sim_tru | with_reducible apply sim_prop | with_reducible apply sim_make (dts := []) .nil | with_reducible apply sim_make0 (dts := []) .nil | with_reducible apply sim_meth0 (dts := []) .nil | with_reducible apply sim_meth (dts := []) .nil | fail "s")
  case go =>
    intro ts Ω PQ PX hl h
    obtain ⟨t, most, n, rfl, hk, q1, q2⟩ := h
    simp! only [N_need_align]
    refine ⟨t, rfl, hk, ?_⟩
    cases t with
    | int i =>
      rw [alB_i] at q1 q2
      simp! only [and_true]
      refine itei (fun h => ?_) fun h => ?_
      · rw [powB_i] at h
        rw [h, Bool.true_and] at q1 q2
        exact ⟨_, n, rfl, q1, q2⟩
      · rw [powB_i, Bool.not_eq_true] at h
        rw [h, Bool.false_and] at q1 q2
        exact ⟨_, n, rfl, q1, q2⟩
    | _ =>
      simp! only [and_true]
      exact ⟨_, n, rfl, q1, q2⟩
theorem ok_end_of (T : Tx K mg) : FnOk P w K mg base (L2.CX P w) 4 (He.ga K "end_of") T.fd_end_of P_end_of (spD K wp_endof 1) := by
  refine dok T.F_end_of sc_end_of fun cdv A outer s H E hr => ?_
  refine' dokMk ((pss_cons (ps_expr (pe_call (ok_need T) hr rfl T.g_need T.F_need.kp (b_need T) .nil (passR (takes_of rfl rfl rfl rfl) (fun _ _ _ _ h => h)) (pa_cons (pe_call (ok_is_span T) (hr.mono (by decide)) rfl T.g_is_span T.F_is_span.kp (b_is_span T) .nil pass0 (pa_cons (pv 0) pa_nil)) (pa_cons (pe_str) pa_nil)))) (pss_one (ps_ret (pe_op (show OpR _ _ (LT.rAddG K) from LT.op_addG) (pe_ix (show IxR _ (LL.rIxA K) from LL.ix_A) (pv 0) (pe_int) (fun _ _ => rfl)) (pe_ix (show IxR _ (LL.rIxA K) from LL.ix_A) (pv 0) (pe_int) (fun _ _ => rfl))))))) ?sim ?go
  case sim =>
    try simp only [LL.cxK0, LL.cxK1, List.map_cons, List.map_nil]
    repeat' (first | fail "f" | with_reducible exact simc_isiO | with_reducible apply sim_iR3 | with_reducible apply sim_gLst | with_reducible apply sim_tryR0 | with_reducible apply sim_tryR | with_reducible apply SimRow.cons | with_reducible exact SimRow.nil | with_reducible apply sim_mthS (dts := []) .nil | with_reducible apply sim_makeK (gT := fun ts us => ts ++ us) (fun _ _ _ _ _ _ _ h1 h2 => vdl_app h2 h1) | with_reducible apply sim_makeK (gT := fun ts us => ts ++ us ++ [.non]) (fun _ _ _ _ _ _ _ h1 h2 => vdl_app vdl_N (vdl_app h2 h1)) | with_reducible apply sim_make0 (dts := [.int 0, .non]) df_0N | with_reducible apply sim_fld T.c_Places T.n_Places__spans | with_reducible apply sim_setF T.c_Places T.n_Places__spans | with_reducible apply sim_forI | with_reducible apply sim_pop | with_reducible apply sim_tru | with_reducible apply sim_prop | with_reducible apply sim_make (dts := []) .nil | with_reducible apply sim_make0 (dts := []) .nil | with_reducible apply sim_meth0 (dts := []) .nil | with_reducible apply sim_meth (dts := []) .nil | fail "s")
  case go =>
    intro ts Ω PQ PX hl h
    obtain ⟨r, rfl, hr, q⟩ := h
    simp! only [N_end_of]
    refine ⟨spT r, rfl, rfl, ?_⟩
    rw [span_good hr]
    refine ⟨true, _, rfl, fun _ => ?_, fun z => by cases z⟩
    simp! only [spT]
    exact q
theorem ok_align_up (T : Tx K mg) : FnOk P w K mg base (L2.CX P w) 5 (He.ga K "align_up") T.fd_align_up P_align_up (spD K wp_alup 2) := by
  refine dok T.F_align_up sc_align_up fun cdv A outer s H E hr => ?_
  refine' dokMk ((pss_cons (ps_expr (pe_call (ok_need_whole T) (hr.mono (by decide)) rfl T.g_need_whole T.F_need_whole.kp (b_need_whole T) .nil (passR (takes_of rfl rfl rfl rfl) (fun _ _ _ _ h => h)) (pa_cons (pv 0) (pa_cons (pe_int) (pa_cons (pe_glob (v := .int 1000000000) rfl T.c_MOST_PLACE.choose_spec ⟨_, rfl⟩) (pa_cons (pe_str) pa_nil)))))) (pss_cons (ps_expr (pe_call (ok_need_align T) hr rfl T.g_need_align T.F_need_align.kp (b_need_align T) .nil (passR (takes_of rfl rfl rfl rfl) (fun _ _ _ _ h => h)) (pa_cons (pv 1) (pa_cons (pe_glob (v := .int 1073741824) rfl T.c_MOST_ALIGN.choose_spec ⟨_, rfl⟩) (pa_cons (pe_str) pa_nil))))) (pss_one (ps_ret (pe_op (show OpR _ _ (LT.rAddG K) from LT.op_addG) (pv 0) (pe_op op_mod (pe_un un_neg (pv 0)) (pv 1)))))))) ?sim ?go
  case sim =>
    try simp only [LL.cxK0, LL.cxK1, List.map_cons, List.map_nil]
    repeat' (first | fail "f" | with_reducible exact simc_isiO | with_reducible apply sim_iR3 | with_reducible apply sim_gLst | with_reducible apply sim_tryR0 | with_reducible apply sim_tryR | with_reducible apply SimRow.cons | with_reducible exact SimRow.nil | with_reducible apply sim_mthS (dts := []) .nil | with_reducible apply sim_makeK (gT := fun ts us => ts ++ us) (fun _ _ _ _ _ _ _ h1 h2 => vdl_app h2 h1) | with_reducible apply sim_makeK (gT := fun ts us => ts ++ us ++ [.non]) (fun _ _ _ _ _ _ _ h1 h2 => vdl_app vdl_N (vdl_app h2 h1)) | with_reducible apply sim_make0 (dts := [.int 0, .non]) df_0N | with_reducible apply sim_fld T.c_Places T.n_Places__spans | with_reducible apply sim_setF T.c_Places T.n_Places__spans | with_reducible apply sim_forI | with_reducible apply sim_pop | with_reducible apply sim_tru | with_reducible apply sim_prop | with_reducible apply sim_make (dts := []) .nil | with_reducible apply sim_make0 (dts := []) .nil | with_reducible apply sim_meth0 (dts := []) .nil | with_reducible apply sim_meth (dts := []) .nil | fail "s")
  case go =>
    intro ts Ω PQ PX hl h
    obtain ⟨n, a, rfl, hn, ha, ham, q⟩ := h
    simp! only [N_align_up]
    refine ⟨.int n, 0, 1000000000, _, rfl, rfl, fun _ => ?_, fun z => (z hn).elim⟩
    refine ⟨.int a, 1073741824, _, rfl, rfl, fun _ => ?_, fun z => ?_⟩
    · have := isP_pos ha
      simp! only [and_true]
      exact ⟨by omega, q⟩
    · rw [alB_i, ha, decide_eq_true ham] at z
      cases z
theorem ok_start_in (T : Tx K mg) : FnOk P w K mg base (L2.CX P w) 6 (He.ga K "start_in") T.fd_start_in P_start_in (spD K wp_startin 3) := by
  refine dok T.F_start_in sc_start_in fun cdv A outer s H E hr => ?_
  refine' dokMk ((pss_cons (ps_set (i := 3) sc_start_in.nd rfl (Or.inl rfl) (pe_call (ok_align_up T) hr rfl T.g_align_up T.F_align_up.kp (b_align_up T) .nil (passR (takes_of rfl rfl rfl rfl) (fun _ _ _ _ h => h)) (pa_cons (pe_ix (show IxR _ (LL.rIxA K) from LL.ix_A) (pv 0) (pe_int) (fun _ _ => rfl)) (pa_cons (pv 2) pa_nil)))) (pss_cons (ps_if (pt_cmpR op_gt (pe_op (show OpR _ _ (LT.rAddG K) from LT.op_addG) (pv 3) (pv 1)) (pe_call (ok_end_of T) (hr.mono (by decide)) rfl T.g_end_of T.F_end_of.kp (b_end_of T) .nil (passR (takes_of rfl rfl rfl rfl) (fun _ _ _ _ h => h)) (pa_cons (pv 0) pa_nil)) (nomark _)) (pss_one (ps_ret (pe_non))) pss_nil) (pss_one (ps_ret (pv 3)))))) ?sim ?go
  case sim =>
    try simp only [LL.cxK0, LL.cxK1, List.map_cons, List.map_nil]
    repeat' (first | fail "f" | with_reducible exact simc_isiO | with_reducible apply sim_iR3 | with_reducible apply sim_gLst | with_reducible apply sim_tryR0 | with_reducible apply sim_tryR | with_reducible apply SimRow.cons | with_reducible exact SimRow.nil | with_reducible apply sim_mthS (dts := []) .nil | with_reducible apply sim_makeK (gT := fun ts us => ts ++ us) (fun _ _ _ _ _ _ _ h1 h2 => vdl_app h2 h1) | with_reducible apply sim_makeK (gT := fun ts us => ts ++ us ++ [.non]) (fun _ _ _ _ _ _ _ h1 h2 => vdl_app vdl_N (vdl_app h2 h1)) | with_reducible apply sim_make0 (dts := [.int 0, .non]) df_0N | with_reducible apply sim_fld T.c_Places T.n_Places__spans | with_reducible apply sim_setF T.c_Places T.n_Places__spans | with_reducible apply sim_forI | with_reducible apply sim_pop | with_reducible apply sim_tru | with_reducible apply sim_prop | with_reducible apply sim_make (dts := []) .nil | with_reducible apply sim_make0 (dts := []) .nil | with_reducible apply sim_meth0 (dts := []) .nil | with_reducible apply sim_meth (dts := []) .nil | fail "s")
  case go =>
    intro ts Ω PQ PX hl h
    obtain ⟨r, n, a, rfl, hr, ha, ham, q⟩ := h
    simp! only [N_start_in, spT]
    refine ⟨r.1, a, rfl, ⟨hr.1, by omega⟩, ha, ham, ?_⟩
    refine ⟨r, rfl, hr, ?_⟩
    unfold startI at q
    simp! only [and_true]
    refine itei (fun h => ?_) fun h => ?_
    · rw [if_pos (by omega)] at q
      exact q
    · rw [if_neg (by omega)] at q
      exact q
end
section
open PySem PySem.Spec PyProof.Rows L2 LL LT
variable {P : Program} {w : World} {K : PySem.W.Frag} {mg : Str → Option Value} {base : Heap}

/-! ### covers, first_start, best_start -/
noncomputable def wa_covers (K : PySem.W.Frag) : Pw := fun ts Ω PQ PX => ∃ (a dx : Addr) (ms : List Spn) (t : Tr), ts = [.obj a, t] ∧ Ω a = some (.ins (cP K) dx ["_spans"] [.tup (ms.map spT)]) ∧ NormS ms ∧ GoodS ms ∧ ms.length ≤ 1000000 ∧ dataT t = true ∧ (spanB t = false → PX (badX (.str "span")) Ω) ∧ ∀ (r : Spn) (b : Bool), t = spT r → spanB t = true → (b = true ↔ ∃ m ∈ ms, m.1 ≤ r.1 ∧ r.1 + r.2 ≤ m.1 + m.2) → PQ (.bl b) Ω
noncomputable def firstI (n a : Int) : List Spn → Option Int
  | [] => none
  | r :: rs => match startI r n a with
    | some s => some s
    | none => firstI n a rs
noncomputable def bestStep (n a : Int) (w : Option Int × Int) (r : Spn) : Option Int × Int := match startI r n a with
  | some s => if r.2 < w.2 then (some s, r.2) else w
  | none => w
noncomputable def bestI (n a : Int) (ms : List Spn) : Option Int := (ms.foldl (bestStep n a) (none, 1000000001)).1
noncomputable def wa_start (K : PySem.W.Frag) (f : Int → Int → List Spn → Option Int) : Pw := fun ts Ω PQ PX => ∃ (a dx : Addr) (ms : List Spn) (t u : Tr), ts = [.obj a, t, u] ∧ Ω a = some (.ins (cP K) dx ["_spans"] [.tup (ms.map spT)]) ∧ GoodS ms ∧ dataT t = true ∧ dataT u = true ∧
  (¬ InR 1 1000000000 t → PX (badX (.str "size")) Ω) ∧ (InR 1 1000000000 t → alB 1073741824 u = false → PX (badX (.str "align")) Ω) ∧ ∀ n al : Int, t = .int n → u = .int al → 1 ≤ n → n ≤ 1000000000 → isP al = true → al ≤ 1073741824 → PQ (optT (f n al ms)) Ω
theorem firstI_take {n a : Int} : ∀ (ms : List Spn) (i : Nat), firstI n a (ms.take i) = none → firstI n a ms = firstI n a (ms.drop i)
  | [], i, _ => by simp [firstI]
  | m :: ms, 0, _ => rfl
  | m :: ms, i + 1, h => by
    rw [List.take_succ_cons] at h
    rw [List.drop_succ_cons]
    unfold firstI at h
    rw [show firstI n a (m :: ms) = match startI m n a with | some s => some s | none => firstI n a ms from rfl]
    cases e : startI m n a with
    | some s => rw [e] at h; cases h
    | none =>
      rw [e] at h
      exact firstI_take ms i h
theorem firstI_app {n a : Int} : ∀ (ms rs : List Spn), firstI n a ms = none → firstI n a (ms ++ rs) = firstI n a rs
  | [], rs, _ => rfl
  | m :: ms, rs, h => by
    rw [List.cons_append]
    rw [show firstI n a (m :: (ms ++ rs)) = match startI m n a with | some s => some s | none => firstI n a (ms ++ rs) from rfl]
    rw [show firstI n a (m :: ms) = match startI m n a with | some s => some s | none => firstI n a ms from rfl] at h
    cases e : startI m n a with
    | some s => rw [e] at h; cases h
    | none =>
      rw [e] at h
      exact firstI_app ms rs h
theorem firstI_one {n a : Int} (m : Spn) : firstI n a [m] = startI m n a := by
  unfold firstI
  cases startI m n a <;> rfl
theorem inR_of {lo hi : Int} {t : Tr} (h : InR lo hi t) : ∃ i, t = .int i ∧ lo ≤ i ∧ i ≤ hi := by
  cases t with
  | int i => exact ⟨i, rfl, h⟩
  | _ => exact h.elim
theorem alB_of {m : Int} {t : Tr} (h : alB m t = true) : ∃ i, t = .int i ∧ isP i = true ∧ i ≤ m := by
  cases t with
  | int i =>
    rw [alB_i, Bool.and_eq_true] at h
    exact ⟨i, rfl, h.1, of_decide_eq_true h.2⟩
  | _ => cases h
theorem ok_Places_covers (T : Tx K mg) : FnOk P w K mg base (L2.CX P w) 5 (He.ma K (He.ga K "Places") "covers") T.fd_Places_covers P_Places_covers (spD K (wa_covers K) 2) := by
  refine dok T.F_Places_covers sc_Places_covers fun cdv A outer s H E hr => ?_
  refine' dokMk ((pss_cons (ps_expr (pe_call (ok_need T) (hr.mono (by decide)) rfl T.g_need T.F_need.kp (b_need T) .nil (passR (takes_of rfl rfl rfl rfl) (fun _ _ _ _ h => h)) (pa_cons (pe_call (ok_is_span T) (hr.mono (by decide)) rfl T.g_is_span T.F_is_span.kp (b_is_span T) .nil pass0 (pa_cons (pv 1) pa_nil)) (pa_cons (pe_str) pa_nil)))) (pss_cons (ps_set (i := 2) sc_Places_covers.nd rfl (Or.inl rfl) (pe_call (ok_index_upto T) (hr.mono (by decide)) rfl T.g_index_upto T.F_index_upto.kp (b_index_upto T) .nil pass0 (pa_cons (pe_fld (pv 0) rfl) (pa_cons (pe_ix (show IxR _ (LL.rIxA K) from LL.ix_A) (pv 1) (pe_int) (fun _ _ => rfl)) pa_nil)))) (pss_one (ps_ret ((pe_and (pe_cmpR op_ge (pv 2) (pe_int) (nomark _)) (pe_one (pe_cmpR op_le (pe_call (ok_end_of T) hr rfl T.g_end_of T.F_end_of.kp (b_end_of T) .nil (passR (takes_of rfl rfl rfl rfl) (fun _ _ _ _ h => h)) (pa_cons (pv 1) pa_nil)) (pe_call (ok_end_of T) hr rfl T.g_end_of T.F_end_of.kp (b_end_of T) .nil (passR (takes_of rfl rfl rfl rfl) (fun _ _ _ _ h => h)) (pa_cons (pe_ix (show IxR _ (LL.rIxA K) from LL.ix_A) (pe_fld (pv 0) rfl) (pv 2) (fun _ _ => rfl)) pa_nil)) (nomark _)))))))))) ?sim ?go
  case sim =>
    try simp only [LL.cxK0, LL.cxK1, List.map_cons, List.map_nil]
    repeat' (first | fail "f" | with_reducible exact simc_isiO | with_reducible apply sim_iR3 | with_reducible apply sim_gLst | with_reducible apply sim_tryR0 | with_reducible apply sim_tryR | with_reducible apply SimRow.cons | with_reducible exact SimRow.nil | with_reducible apply sim_mthS (dts := []) .nil | with_reducible apply sim_makeK (gT := fun ts us => ts ++ us) (fun _ _ _ _ _ _ _ h1 h2 => vdl_app h2 h1) | with_reducible apply sim_makeK (gT := fun ts us => ts ++ us ++ [.non]) (fun _ _ _ _ _ _ _ h1 h2 => vdl_app vdl_N (vdl_app h2 h1)) | with_reducible apply sim_make0 (dts := [.int 0, .non]) df_0N | with_reducible apply sim_fld T.c_Places T.n_Places__spans | with_reducible apply sim_setF T.c_Places T.n_Places__spans | with_reducible apply sim_forI | with_reducible apply sim_pop | with_reducible apply sim_tru | with_reducible apply sim_prop | with_reducible apply sim_make (dts := []) .nil | with_reducible apply sim_make0 (dts := []) .nil | with_reducible apply sim_meth0 (dts := []) .nil | with_reducible apply sim_meth (dts := []) .nil | fail "s")
  case go =>
    intro ts Ω PQ PX hl h
    obtain ⟨a, dx, ms, t, rfl, ha, hn, hg, hz, hd, q1, q2⟩ := h
    have e : insF (cP K) "_spans" (.obj a) Ω = some (.tup (ms.map spT)) := (insF_obj ha).trans rfl
    simp! only [N_Places_covers, e]
    refine ⟨t, rfl, hd, ?_⟩
    cases hs : spanB t with
    | false => exact ⟨_, _, rfl, ⟨fun z => by simp at z, fun _ => q1 hs⟩⟩
    | true =>
      refine ⟨_, _, rfl, ⟨fun _ => ?_, fun z => by simp at z⟩⟩
      obtain ⟨r, rfl, hr⟩ := span_inv hs
      simp! only [e, spT]
      refine ⟨ms, r.1, rfl, norm_st hn, hz, fun k hk => ?_⟩
      obtain ⟨k0, k1, k2⟩ := hk
      refine ⟨_, rfl, itei (fun hge => ?_) fun hlt => ?_⟩
      · obtain ⟨j, rfl⟩ : ∃ j, k = j + 1 := ⟨k - 1, by omega⟩
        rw [show ((j + 1 : Nat) : Int) - 1 = j by omega]
        obtain ⟨m, hm⟩ : ∃ m, ms[j]? = some m := ⟨_, List.getElem?_eq_getElem (by omega)⟩
        have hmm := List.mem_of_getElem? hm
        refine ⟨r, rfl, hr, _, e, ms.map spT, rfl, _, rfl, spT m, atI_nat (by rw [List.getElem?_map, hm]; rfl), m, rfl, hg m hmm, _, rfl, _, rfl, q2 r _ rfl hs ?_⟩
        rw [decide_eq_true_eq]
        constructor
        · exact fun c => ⟨m, hmm, k1 j m (by omega) hm, c⟩
        · rintro ⟨m', hm', c1, c2⟩
          obtain ⟨i, hi⟩ := List.mem_iff_getElem?.mp hm'
          have hij : i < j + 1 := by
            rcases Nat.lt_or_ge i (j + 1) with h | h
            · exact h
            · have := k2 i m' h hi
              omega
          by_cases he : i = j
          · subst he
            rw [hi] at hm
            rw [← Option.some.inj hm]
            exact c2
          · have h1 := norm_at hn (show i < j by omega) hi hm
            have h2 := k1 j m (by omega) hm
            omega
      · refine q2 r false rfl hs ⟨nofun, ?_⟩
        rintro ⟨m, hm, c1, c2⟩
        obtain ⟨i, hi⟩ := List.mem_iff_getElem?.mp hm
        have := k2 i m (by omega) hi
        omega
theorem ok_Places_first_start (T : Tx K mg) : FnOk P w K mg base (L2.CX P w) 7 (He.ma K (He.ga K "Places") "first_start") T.fd_Places_first_start P_Places_first_start (spD K (wa_start K firstI) 3) := by
  refine dok T.F_Places_first_start sc_Places_first_start fun cdv A outer s H E hr => ?_
  refine' dokMk ((pss_cons (ps_expr (pe_call (ok_need_whole T) (hr.mono (by decide)) rfl T.g_need_whole T.F_need_whole.kp (b_need_whole T) .nil (passR (takes_of rfl rfl rfl rfl) (fun _ _ _ _ h => h)) (pa_cons (pv 1) (pa_cons (pe_int) (pa_cons (pe_glob (v := .int 1000000000) rfl T.c_MOST_PLACE.choose_spec ⟨_, rfl⟩) (pa_cons (pe_str) pa_nil)))))) (pss_cons (ps_expr (pe_call (ok_need_align T) (hr.mono (by decide)) rfl T.g_need_align T.F_need_align.kp (b_need_align T) .nil (passR (takes_of rfl rfl rfl rfl) (fun _ _ _ _ h => h)) (pa_cons (pv 2) (pa_cons (pe_glob (v := .int 1073741824) rfl T.c_MOST_ALIGN.choose_spec ⟨_, rfl⟩) (pa_cons (pe_str) pa_nil))))) (pss_cons (ps_for (passes_of rfl) rfl (LT.pi_seqK (K := K) rfl (pe_fld (pv 0) rfl)) (pg_name (i := 3) sc_Places_first_start.nd rfl (Or.inl rfl)) (pss_cons (ps_set (i := 4) sc_Places_first_start.nd rfl (Or.inl rfl) (pe_call (ok_start_in T) hr rfl T.g_start_in T.F_start_in.kp (b_start_in T) .nil (passR (takes_of rfl rfl rfl rfl) (fun _ _ _ _ h => h)) (pa_cons (pv 3) (pa_cons (pv 1) (pa_cons (pv 2) pa_nil))))) (pss_one (ps_if (pt_cmpR op_notN1 (pv 4) (pe_non) (nomark _)) (pss_one (ps_ret (pv 4))) pss_nil)))) (pss_one (ps_ret (pe_non))))))) ?sim ?go
  case sim =>
    try simp only [LL.cxK0, LL.cxK1, List.map_cons, List.map_nil]
    repeat' (first | fail "f" | with_reducible exact simc_isiO | with_reducible apply sim_iR3 | with_reducible apply sim_gLst | with_reducible apply sim_tryR0 | with_reducible apply sim_tryR | with_reducible apply SimRow.cons | with_reducible exact SimRow.nil | with_reducible apply sim_mthS (dts := []) .nil | with_reducible apply sim_makeK (gT := fun ts us => ts ++ us) (fun _ _ _ _ _ _ _ h1 h2 => vdl_app h2 h1) | with_reducible apply sim_makeK (gT := fun ts us => ts ++ us ++ [.non]) (fun _ _ _ _ _ _ _ h1 h2 => vdl_app vdl_N (vdl_app h2 h1)) | with_reducible apply sim_make0 (dts := [.int 0, .non]) df_0N | with_reducible apply sim_fld T.c_Places T.n_Places__spans | with_reducible apply sim_setF T.c_Places T.n_Places__spans | with_reducible apply sim_forI | with_reducible apply sim_pop | with_reducible apply sim_tru | with_reducible apply sim_prop | with_reducible apply sim_make (dts := []) .nil | with_reducible apply sim_make0 (dts := []) .nil | with_reducible apply sim_meth0 (dts := []) .nil | with_reducible apply sim_meth (dts := []) .nil | fail "s")
  case go =>
    intro ts Ω PQ PX hl h
    obtain ⟨a, dx, ms, t, u, rfl, ha, hg, hd, hu, q1, q2, q⟩ := h
    have e : insF (cP K) "_spans" (.obj a) Ω = some (.tup (ms.map spT)) := (insF_obj ha).trans rfl
    simp! only [N_Places_first_start, e]
    refine ⟨t, 1, 1000000000, _, rfl, data_kind hd, fun h1 => ?_, q1⟩
    refine ⟨u, 1073741824, _, rfl, hu, fun h2 => ?_, q2 h1⟩
    obtain ⟨n, rfl, n1, n2⟩ := inR_of h1
    obtain ⟨al, rfl, a1, a2⟩ := alB_of h2
    have q' := q n al rfl rfl n1 n2 a1 a2
    refine for_Se (t := .tup (ms.map spT)) (ts := ms.map spT) (Ω1 := Ω) (fun P p => ?_) rfl (fun i ρ' Ω' => Ω' = Ω ∧ firstI n al (ms.take i) = none ∧ ∃ x3 x4, ρ' = [some (.obj a), some (.int n), some (.int al), x3, x4]) ⟨rfl, rfl, _, _, rfl⟩ (fun _ _ _ w => trivial) ?_ ?_
    · simp! only [and_true]
      exact ⟨_, e, p⟩
    · rintro hz i y ρ' Ω' hx ⟨rfl, hall, x3, x4, rfl⟩
      rw [List.getElem?_map] at hx
      obtain ⟨r, hr, rfl⟩ := Option.map_eq_some_iff.mp hx
      have nx : firstI n al (ms.take (i + 1)) = startI r n al := by rw [take_one hr, firstI_app _ _ hall, firstI_one]
      have all2 := firstI_take ms i hall
      rw [List.drop_eq_getElem_cons (List.getElem?_eq_some_iff.mp hr).1, (List.getElem?_eq_some_iff.mp hr).2] at all2
      simp! only [and_true]
      refine ⟨r, n, al, rfl, hg r (List.mem_of_getElem? hr), a1, a2, ?_⟩
      cases es : startI r n al with
      | none =>
        simp! only [optT_n]
        exact nx.trans es
      | some s =>
        have fin : firstI n al ms = some s := by
          rw [all2]
          unfold firstI
          rw [es]
        rw [fin] at q'
        simp! only [optT_s]
        exact q'
    · rintro ρ' Ω' ⟨rfl, hall, x3, x4, rfl⟩
      rw [List.length_map, List.take_length] at hall
      rw [hall] at q'
      simp! only [and_true]
      exact q'
theorem ok_Places_best_start (T : Tx K mg) : FnOk P w K mg base (L2.CX P w) 7 (He.ma K (He.ga K "Places") "best_start") T.fd_Places_best_start P_Places_best_start (spD K (wa_start K bestI) 3) := by
  refine dok T.F_Places_best_start sc_Places_best_start fun cdv A outer s H E hr => ?_
  refine' dokMk ((pss_cons (ps_expr (pe_call (ok_need_whole T) (hr.mono (by decide)) rfl T.g_need_whole T.F_need_whole.kp (b_need_whole T) .nil (passR (takes_of rfl rfl rfl rfl) (fun _ _ _ _ h => h)) (pa_cons (pv 1) (pa_cons (pe_int) (pa_cons (pe_glob (v := .int 1000000000) rfl T.c_MOST_PLACE.choose_spec ⟨_, rfl⟩) (pa_cons (pe_str) pa_nil)))))) (pss_cons (ps_expr (pe_call (ok_need_align T) (hr.mono (by decide)) rfl T.g_need_align T.F_need_align.kp (b_need_align T) .nil (passR (takes_of rfl rfl rfl rfl) (fun _ _ _ _ h => h)) (pa_cons (pv 2) (pa_cons (pe_glob (v := .int 1073741824) rfl T.c_MOST_ALIGN.choose_spec ⟨_, rfl⟩) (pa_cons (pe_str) pa_nil))))) (pss_cons (ps_set (i := 3) sc_Places_best_start.nd rfl (Or.inl rfl) (pe_non)) (pss_cons (ps_set (i := 4) sc_Places_best_start.nd rfl (Or.inl rfl) (pe_op (show OpR _ _ (LT.rAddG K) from LT.op_addG) (pe_glob (v := .int 1000000000) rfl T.c_MOST_PLACE.choose_spec ⟨_, rfl⟩) (pe_int))) (pss_cons (ps_for (passes_of rfl) rfl (LT.pi_seqK (K := K) rfl (pe_fld (pv 0) rfl)) (pg_name (i := 5) sc_Places_best_start.nd rfl (Or.inl rfl)) (pss_cons (ps_set (i := 6) sc_Places_best_start.nd rfl (Or.inl rfl) (pe_call (ok_start_in T) hr rfl T.g_start_in T.F_start_in.kp (b_start_in T) .nil (passR (takes_of rfl rfl rfl rfl) (fun _ _ _ _ h => h)) (pa_cons (pv 5) (pa_cons (pv 1) (pa_cons (pv 2) pa_nil))))) (pss_one (ps_if (PW.pt (pw_and (pt_cmpR op_notN1 (pv 6) (pe_non) (nomark _)) (pw_and1 (pt_cmpR op_lt (pe_ix (show IxR _ (LL.rIxA K) from LL.ix_A) (pv 5) (pe_int) (fun _ _ => rfl)) (pv 4) (nomark _))))) (pss_cons (ps_set (i := 3) sc_Places_best_start.nd rfl (Or.inl rfl) (pv 6)) (pss_one (ps_set (i := 4) sc_Places_best_start.nd rfl (Or.inl rfl) (pe_ix (show IxR _ (LL.rIxA K) from LL.ix_A) (pv 5) (pe_int) (fun _ _ => rfl))))) pss_nil)))) (pss_one (ps_ret (pv 3))))))))) ?sim ?go
  case sim =>
    try simp only [LL.cxK0, LL.cxK1, List.map_cons, List.map_nil]
    repeat' (first | fail "f" | with_reducible exact simc_isiO | with_reducible apply sim_iR3 | with_reducible apply sim_gLst | with_reducible apply sim_tryR0 | with_reducible apply sim_tryR | with_reducible apply SimRow.cons | with_reducible exact SimRow.nil | with_reducible apply sim_mthS (dts := []) .nil | with_reducible apply sim_makeK (gT := fun ts us => ts ++ us) (fun _ _ _ _ _ _ _ h1 h2 => vdl_app h2 h1) | with_reducible apply sim_makeK (gT := fun ts us => ts ++ us ++ [.non]) (fun _ _ _ _ _ _ _ h1 h2 => vdl_app vdl_N (vdl_app h2 h1)) | with_reducible apply sim_make0 (dts := [.int 0, .non]) df_0N | with_reducible apply sim_fld T.c_Places T.n_Places__spans | with_reducible apply sim_setF T.c_Places T.n_Places__spans | with_reducible apply sim_forI | with_reducible apply sim_pop | with_reducible apply sim_tru | with_reducible apply sim_prop | with_reducible apply sim_make (dts := []) .nil | with_reducible apply sim_make0 (dts := []) .nil | with_reducible apply sim_meth0 (dts := []) .nil | with_reducible apply sim_meth (dts := []) .nil | fail "s")
  case go =>
    intro ts Ω PQ PX hl h
    obtain ⟨a, dx, ms, t, u, rfl, ha, hg, hd, hu, q1, q2, q⟩ := h
    have e : insF (cP K) "_spans" (.obj a) Ω = some (.tup (ms.map spT)) := (insF_obj ha).trans rfl
    simp! only [N_Places_best_start, e]
    refine ⟨t, 1, 1000000000, _, rfl, data_kind hd, fun h1 => ?_, q1⟩
    refine ⟨u, 1073741824, _, rfl, hu, fun h2 => ?_, q2 h1⟩
    obtain ⟨n, rfl, n1, n2⟩ := inR_of h1
    obtain ⟨al, rfl, a1, a2⟩ := alB_of h2
    have q' := q n al rfl rfl n1 n2 a1 a2
    refine for_Se (t := .tup (ms.map spT)) (ts := ms.map spT) (Ω1 := Ω) (fun P p => ?_) rfl (fun i ρ' Ω' => Ω' = Ω ∧ ∃ (wv : Option Int × Int) (x5 x6 : Option Tr), wv = (ms.take i).foldl (bestStep n al) (none, 1000000001) ∧ ρ' = [some (.obj a), some (.int n), some (.int al), some (optT wv.1), some (.int wv.2), x5, x6]) ⟨rfl, _, _, _, rfl, rfl⟩ (fun _ _ _ w => trivial) ?_ ?_
    · simp! only [and_true]
      exact ⟨_, e, p⟩
    · rintro hz i y ρ' Ω' hx ⟨rfl, wv, x5, x6, hw, rfl⟩
      rw [List.getElem?_map] at hx
      obtain ⟨r, hr, rfl⟩ := Option.map_eq_some_iff.mp hx
      have nx : (ms.take (i + 1)).foldl (bestStep n al) (none, 1000000001) = bestStep n al wv r := by rw [take_one hr, List.foldl_append, ← hw]; rfl
      simp! only [and_true]
      refine ⟨r, n, al, rfl, hg r (List.mem_of_getElem? hr), a1, a2, ?_⟩
      have st : bestStep n al wv r = match startI r n al with | some s => if r.2 < wv.2 then (some s, r.2) else wv | none => wv := rfl
      rw [st] at nx
      cases es : startI r n al with
      | none =>
        rw [es] at nx
        simp! only [optT_n]
        exact by rw [nx]; exact ⟨rfl, rfl⟩
      | some s =>
        rw [es] at nx
        simp! only [optT_s, spT]
        refine itei (fun h => ?_) fun h => ?_
        · rw [show (match some s with | some s => if r.2 < wv.2 then (some s, r.2) else wv | none => wv) = (some s, r.2) from if_pos h] at nx
          exact by rw [nx]; exact ⟨rfl, rfl⟩
        · rw [show (match some s with | some s => if r.2 < wv.2 then (some s, r.2) else wv | none => wv) = wv from if_neg h] at nx
          exact by rw [nx]; exact ⟨rfl, rfl⟩
    · rintro ρ' Ω' ⟨rfl, wv, x5, x6, hw, rfl⟩
      rw [List.length_map, List.take_length] at hw
      unfold bestI at q'
      rw [← hw] at q'
      simp! only [and_true]
      exact q'
end
section
open PySem PySem.Spec PyProof.Rows L2 LL LT
variable {P : Program} {w : World} {K : PySem.W.Frag} {mg : Str → Option Value} {base : Heap}

/-! ### the law's own: a place within spans -/
noncomputable def wp_held : Pw := fun ts Ω PQ _ => ∃ (x : Int) (rs : List Spn), ts = [.int x, .lst (rs.map spT)] ∧ rs.length ≤ 1000000 ∧ ∀ b, (b = true ↔ CovS rs x) → PQ (.bl b) Ω
theorem ok_law_held (T : Tx K mg) : FnOk P w K mg base CX0 1 (He.ga K "_law_held") T.fd_law_held P_law_held (spD K wp_held 2) := by
  refine dok T.F_law_held sc_law_held fun cdv A outer s H E hr => ?_
  refine' dokMk (PSs.nox (pss_cons (ps_for PassesOwn.never rfl (LT.pi_seqK (K := K) rfl (pv 1)) (LT.pg_tupK (K := K) (n := 2) rfl rfl (pgs_cons (pg_name (i := 2) sc_law_held.nd rfl (Or.inl rfl)) (pgs_cons (pg_name (i := 3) sc_law_held.nd rfl (Or.inl rfl)) pgs_nil))) (pss_one (ps_if (pt_chain op_le op_lt (pv 2) (pv 0) (pe_op (show OpR _ _ (LT.rAddG K) from LT.op_addG) (pv 2) (pv 3))) (pss_one (ps_ret (pe_bl))) pss_nil))) (pss_one (ps_ret (pe_bl))))) ?sim ?go
  case sim =>
    try simp only [LL.cxK0, LL.cxK1, List.map_cons, List.map_nil]
    repeat' (first | fail "f" | with_reducible exact simc_isiO | with_reducible apply sim_iR3 | with_reducible apply sim_gLst | with_reducible apply sim_tryR0 | with_reducible apply sim_tryR | with_reducible apply SimRow.cons | with_reducible exact SimRow.nil | with_reducible apply sim_mthS (dts := []) .nil | with_reducible apply sim_makeK (gT := fun ts us => ts ++ us) (fun _ _ _ _ _ _ _ h1 h2 => vdl_app h2 h1) | with_reducible apply sim_makeK (gT := fun ts us => ts ++ us ++ [.non]) (fun _ _ _ _ _ _ _ h1 h2 => vdl_app vdl_N (vdl_app h2 h1)) | with_reducible apply sim_make0 (dts := [.int 0, .non]) df_0N | with_reducible apply sim_fld T.c_Places T.n_Places__spans | with_reducible apply sim_setF T.c_Places T.n_Places__spans | with_reducible apply sim_forI | with_reducible apply sim_pop | with_reducible apply sim_tru | with_reducible apply sim_prop | with_reducible apply sim_make (dts := []) .nil | with_reducible apply sim_make0 (dts := []) .nil | with_reducible apply sim_meth0 (dts := []) .nil | with_reducible apply sim_meth (dts := []) .nil | fail "s")
  case go =>
    intro ts Ω PQ PX hl h
    obtain ⟨x, rs, rfl, hn, q⟩ := h
    simp! only [N_law_held]
    refine for_Se (t := .lst (rs.map spT)) (ts := rs.map spT) (Ω1 := Ω) (fun P p => ?_) rfl (fun i ρ' Ω' => Ω' = Ω ∧ (∀ r ∈ rs.take i, ¬ (r.1 ≤ x ∧ x < r.1 + r.2)) ∧ ∃ x2 x3, ρ' = [some (.int x), some (.lst (rs.map spT)), x2, x3]) ⟨rfl, fun r hr => (List.not_mem_nil hr).elim, _, _, rfl⟩ (fun _ _ _ w => trivial) ?_ ?_
    · simp! only [and_true]
      exact p
    · rintro hz i y ρ' Ω' hx ⟨rfl, hall, x2, x3, rfl⟩
      rw [List.getElem?_map] at hx
      obtain ⟨r, hr, rfl⟩ := Option.map_eq_some_iff.mp hx
      have nxt : ¬ (r.1 ≤ x ∧ x < r.1 + r.2) → ∀ s ∈ rs.take (i + 1), ¬ (s.1 ≤ x ∧ x < s.1 + s.2) := fun hno s hs => by
        rw [take_one hr] at hs
        rcases List.mem_append.mp hs with hs | hs
        · exact hall s hs
        · rw [List.mem_singleton.mp hs]
          exact hno
      simp! only [spT]
      exact itei (fun h1 => itei (fun h2 => q true ⟨fun _ => ⟨r, List.mem_of_getElem? hr, h1, h2⟩, fun _ => rfl⟩) fun h2 => nxt fun z => h2 z.2) fun h1 => nxt fun z => h1 z.1
    · rintro ρ' Ω' ⟨rfl, hall, x2, x3, rfl⟩
      simp! only [and_true]
      refine q false ⟨nofun, ?_⟩
      rintro ⟨r, hr, c⟩
      rw [List.length_map, List.take_length] at hall
      exact (hall r hr c).elim
/-! ### the cuts of spans -/
noncomputable def CutI (c : Int) (rs : List Spn) : Prop := ∃ r ∈ rs, c = r.1 ∨ c = r.1 + r.2
noncomputable def wp_cuts : Pw := fun ts Ω PQ _ => ∃ (rs : List Spn), ts = [.lst (rs.map spT)] ∧ rs.length ≤ 100000 ∧ ∀ cs : List Int, cs.Pairwise (· < ·) → (∀ c, c ∈ cs ↔ CutI c rs) → cs.length ≤ 2 * rs.length → PQ (.lst (cs.map Tr.int)) Ω
noncomputable def addK (cs : List Int) (k : Int) : List Int := if k ∈ cs then cs else cs ++ [k]
noncomputable def dcK (cs : List Int) : Cell := .dic (cs.map Sum.inl) (cs.map fun _ => Tr.bl true)
theorem putT_K {k : Int} : ∀ {cs : List Int}, putT (cs.map fun c => ((Sum.inl c : Key), Tr.bl true)) (.inl k) (.bl true) = (addK cs k).map fun c => ((Sum.inl c : Key), Tr.bl true)
  | [] => rfl
  | c :: cs => by
    have ih := putT_K (k := k) (cs := cs)
    unfold addK at ih ⊢
    rw [List.map_cons]
    unfold putT
    by_cases e : c = k
    · subst e
      simp
    · have e2 : k ≠ c := fun z => e z.symm
      by_cases h : k ∈ cs
      · rw [if_pos h] at ih
        simp [e, e2, h, ih]
      · rw [if_neg h] at ih
        simp [e, e2, h, ih]
theorem putL_K {cs : List Int} {k : Int} : putL (cs.map Sum.inl) (cs.map fun _ => Tr.bl true) (.inl k) (.bl true) = (addK cs k).map fun c => ((Sum.inl c : Key), Tr.bl true) := by
  have e : (cs.map (Sum.inl : Int → Key)).zip (cs.map fun _ => Tr.bl true) = cs.map fun c => ((Sum.inl c : Key), Tr.bl true) := by
    induction cs with
    | nil => rfl
    | cons c cs ih => simp only [List.map_cons, List.zip_cons_cons, ih]
  unfold putL
  rw [e, putT_K]
theorem addK_mem {cs : List Int} {k c : Int} : c ∈ addK cs k ↔ c ∈ cs ∨ c = k := by
  unfold addK
  split
  · rename_i h
    exact ⟨.inl, fun z => z.elim id fun e => e ▸ h⟩
  · rw [List.mem_append, List.mem_singleton]
theorem addK_nodup {cs : List Int} {k : Int} (h : cs.Nodup) : (addK cs k).Nodup := by
  unfold addK
  split
  · exact h
  · rename_i hk
    rw [List.nodup_append]
    exact ⟨h, by simp, fun a ha b hb => by rw [List.mem_singleton.mp hb]; exact fun z => hk (z ▸ ha)⟩
theorem addK_len {cs : List Int} {k : Int} : (addK cs k).length ≤ cs.length + 1 := by
  unfold addK
  split
  · omega
  · rw [List.length_append, List.length_singleton]; exact Nat.le_refl _
theorem cell_K {cs : List Int} {k : Int} : (Cell.dic ((putL (cs.map Sum.inl) (cs.map fun _ => Tr.bl true) (.inl k) (.bl true)).map (·.1)) ((putL (cs.map Sum.inl) (cs.map fun _ => Tr.bl true) (.inl k) (.bl true)).map (·.2))) = dcK (addK cs k) := by
  rw [putL_K, List.map_map, List.map_map]
  rfl
theorem ok_law_cuts_of (T : Tx K mg) : FnOk P w K mg base CX0 1 (He.ga K "_law_cuts_of") T.fd_law_cuts_of P_law_cuts_of (spD K wp_cuts 1) := by
  refine dok T.F_law_cuts_of sc_law_cuts_of fun cdv A outer s H E hr => ?_
  refine' dokMk (PSs.nox (pss_cons (ps_set (i := 1) sc_law_cuts_of.nd rfl (Or.inl rfl) (pe_dnewK)) (pss_cons (ps_for PassesOwn.never rfl (LT.pi_seqK (K := K) rfl (pv 0)) (LT.pg_tupK (K := K) (n := 2) rfl rfl (pgs_cons (pg_name (i := 2) sc_law_cuts_of.nd rfl (Or.inl rfl)) (pgs_cons (pg_name (i := 3) sc_law_cuts_of.nd rfl (Or.inl rfl)) pgs_nil))) (pss_cons (ps_dput (hu_of hr) (pv 1) (pv 2) (pe_bl) rfl) (pss_one (ps_dput (hu_of hr) (pv 1) (pe_op (show OpR _ _ (LT.rAddG K) from LT.op_addG) (pv 2) (pv 3)) (pe_bl) rfl)))) (pss_one (ps_ret (pe_callB (show CallR _ _ (rSortedI K) from cr_sortedI) (by rfl) T.z_sorted (by decide +kernel) (pa_cons (pe_callTy (show CallR _ _ (LT.rList K) from LT.call_list rfl) (by rfl) T.z_list (by decide +kernel) (pa_cons (pv 1) pa_nil)) pa_nil))))))) ?sim ?go
  case sim =>
    try simp only [LL.cxK0, LL.cxK1, List.map_cons, List.map_nil]
    repeat' (first | with_reducible apply sim_retF | fail "f" | with_reducible exact simc_isiO | with_reducible apply sim_iR3 | with_reducible apply sim_gLst | with_reducible apply sim_tryR0 | with_reducible apply sim_tryR | with_reducible apply SimRow.cons | with_reducible exact SimRow.nil | with_reducible apply sim_mthS (dts := []) .nil | with_reducible apply sim_makeK (gT := fun ts us => ts ++ us) (fun _ _ _ _ _ _ _ h1 h2 => vdl_app h2 h1) | with_reducible apply sim_makeK (gT := fun ts us => ts ++ us ++ [.non]) (fun _ _ _ _ _ _ _ h1 h2 => vdl_app vdl_N (vdl_app h2 h1)) | with_reducible apply sim_make0 (dts := [.int 0, .non]) df_0N | with_reducible apply sim_fld T.c_Places T.n_Places__spans | with_reducible apply sim_setF T.c_Places T.n_Places__spans | with_reducible apply sim_forI | with_reducible apply sim_pop | with_reducible apply sim_tru | with_reducible apply sim_prop | with_reducible apply sim_make (dts := []) .nil | with_reducible apply sim_make0 (dts := []) .nil | with_reducible apply sim_meth0 (dts := []) .nil | with_reducible apply sim_meth (dts := []) .nil | fail "s")
  case go =>
    intro ts Ω PQ PX hl h
    obtain ⟨rs, rfl, hn, q⟩ := h
    simp! only [N_law_cuts_of]
    refine .inr fun c hc => ?_
    refine for_Se (t := .lst (rs.map spT)) (ts := rs.map spT) (Ω1 := put Ω c (dcK [])) (fun P p => ?_) rfl (fun i ρ' Ω' => ∃ cs : List Int, Ω' = put Ω c (dcK cs) ∧ cs.Nodup ∧ cs.length ≤ 2 * i ∧ (∀ k, k ∈ cs ↔ CutI k (rs.take i)) ∧ ∃ x2 x3, ρ' = [some (.lst (rs.map spT)), some (.obj c), x2, x3]) ⟨[], rfl, List.nodup_nil, Nat.zero_le _, fun k => ⟨fun h => (List.not_mem_nil h).elim, fun ⟨r, hr, _⟩ => (List.not_mem_nil hr).elim⟩, _, _, rfl⟩ (fun _ _ _ w => trivial) ?_ ?_
    · simp! only [and_true]
      exact p
    · rintro hz i y ρ' Ω' hx ⟨cs, rfl, nd, hl, hm, x2, x3, rfl⟩
      rw [List.getElem?_map] at hx
      obtain ⟨r, hr, rfl⟩ := Option.map_eq_some_iff.mp hx
      have l1 := addK_len (cs := cs) (k := r.1)
      have l2 := addK_len (cs := addK cs r.1) (k := r.1 + r.2)
      have hi := (List.getElem?_eq_some_iff.mp hr).1
      simp! only [spT]
      refine ⟨_, _, rfl, by rw [List.length_map]; omega, _, _, cell_K, by rw [List.length_map]; omega, addK (addK cs r.1) (r.1 + r.2), by rw [cell_K], addK_nodup (addK_nodup nd), by omega, fun k => ?_⟩
      rw [addK_mem, addK_mem, hm, take_one hr]
      constructor
      · rintro ((⟨s, hs, e⟩ | rfl) | rfl)
        · exact ⟨s, List.mem_append_left _ hs, e⟩
        · exact ⟨r, List.mem_append_right _ (List.mem_singleton_self _), .inl rfl⟩
        · exact ⟨r, List.mem_append_right _ (List.mem_singleton_self _), .inr rfl⟩
      · rintro ⟨s, hs, e⟩
        rcases List.mem_append.mp hs with hs | hs
        · exact .inl (.inl ⟨s, hs, e⟩)
        · rw [List.mem_singleton.mp hs] at e
          rcases e with e | e
          · exact .inl (.inr e)
          · exact .inr e
    · rintro ρ' Ω' ⟨cs, rfl, nd, hl, hm, x2, x3, rfl⟩
      have eD : asD (.obj c) (put Ω c (dcK cs)) = some (cs.map Sum.inl, cs.map fun _ => Tr.bl true) := asD_obj put_same
      have ek : List.map kT (cs.map (Sum.inl : Int → Key)) = cs.map Tr.int := by rw [List.map_map]; rfl
      rw [List.length_map] at hl hm
      rw [List.take_length] at hm
      simp! only [and_true]
      refine .inr ⟨_, ⟨_, eD⟩, fun _ => ?_⟩
      rw [ek]
      refine lst_in ⟨cs, rfl, fun ms pm so => lst_in ?_⟩
      have nd2 : ms.Nodup := pm.nodup_iff.mpr nd
      have st : ms.Pairwise (· < ·) := (List.Pairwise.and so nd2).imp fun {a b} h => by
        have h1 : a ≤ b := h.1
        have h2 : a ≠ b := h.2
        omega
      exact retF_1 hc (q ms st (fun k => pm.mem_iff.trans (hm k)) (by rw [pm.length_eq]; omega))
/-! ### spans glued -/
noncomputable def gluS (ms : List Spn) (lo hi : Int) : List Spn := match ms.getLast? with
  | some l => if l.1 + l.2 = lo then ms.dropLast ++ [(l.1, hi - l.1)] else ms ++ [(lo, hi - lo)]
  | none => [(lo, hi - lo)]
noncomputable def wp_glued : Pw := fun ts Ω PQ _ => ∃ (c : Addr) (ms : List Spn) (lo hi : Int), ts = [.obj c, .int lo, .int hi] ∧ Ω c = some (.lst (ms.map spT)) ∧ ms.length ≤ 900000 ∧ PQ .non (put Ω c (.lst ((gluS ms lo hi).map spT)))
theorem ok_law_glued (T : Tx K mg) : FnOk P w K mg base CX0 1 (He.ga K "_law_glued") T.fd_law_glued P_law_glued (spD K wp_glued 3) := by
  refine dok T.F_law_glued sc_law_glued fun cdv A outer s H E hr => ?_
  refine' dokMk (PSs.nox (pss_one (ps_if (PW.pt (pw_and (pt_cmpR op_gt (pe_callB (show CallR _ _ (LT.rLenS K) from LT.call_lenS) (by rfl) T.z_len (by decide +kernel) (pa_cons (pv 0) pa_nil)) (pe_int) (nomark _)) (pw_and1 (pt_cmpR op_eq (pe_op (show OpR _ _ (LT.rAddG K) from LT.op_addG) (pe_ix (show IxR _ (LL.rIxA K) from LL.ix_A) (pe_ix (show IxR _ (LL.rIxA K) from LL.ix_A) (pv 0) (pe_un un_neg (pe_int)) (fun _ _ => rfl)) (pe_int) (fun _ _ => rfl)) (pe_ix (show IxR _ (LL.rIxA K) from LL.ix_A) (pe_ix (show IxR _ (LL.rIxA K) from LL.ix_A) (pv 0) (pe_un un_neg (pe_int)) (fun _ _ => rfl)) (pe_int) (fun _ _ => rfl))) (pv 1) (nomark _))))) (pss_one (ps_asg (pe_tup (pa_cons (pe_ix (show IxR _ (LL.rIxA K) from LL.ix_A) (pe_ix (show IxR _ (LL.rIxA K) from LL.ix_A) (pv 0) (pe_un un_neg (pe_int)) (fun _ _ => rfl)) (pe_int) (fun _ _ => rfl)) (pa_cons (pe_op op_sub (pv 2) (pe_ix (show IxR _ (LL.rIxA K) from LL.ix_A) (pe_ix (show IxR _ (LL.rIxA K) from LL.ix_A) (pv 0) (pe_un un_neg (pe_int)) (fun _ _ => rfl)) (pe_int) (fun _ _ => rfl))) pa_nil))) (pg_sub (pv 0) (pe_un un_neg (pe_int)) set_list))) (pss_one (ps_expr (pe_bm PySem.F.plainAttrs_list PySem.F.slot_list_append PySem.F.type_list_append mt_append (pv 0) (pa_cons (pe_tup (pa_cons (pv 1) (pa_cons (pe_op op_sub (pv 2) (pv 1)) pa_nil))) pa_nil))))))) ?sim ?go
  case sim =>
    try simp only [LL.cxK0, LL.cxK1, List.map_cons, List.map_nil]
    repeat' (first | fail "f" | with_reducible exact simc_isiO | with_reducible apply sim_iR3 | with_reducible apply sim_gLst | with_reducible apply sim_tryR0 | with_reducible apply sim_tryR | with_reducible apply SimRow.cons | with_reducible exact SimRow.nil | with_reducible apply sim_mthS (dts := []) .nil | with_reducible apply sim_makeK (gT := fun ts us => ts ++ us) (fun _ _ _ _ _ _ _ h1 h2 => vdl_app h2 h1) | with_reducible apply sim_makeK (gT := fun ts us => ts ++ us ++ [.non]) (fun _ _ _ _ _ _ _ h1 h2 => vdl_app vdl_N (vdl_app h2 h1)) | with_reducible apply sim_make0 (dts := [.int 0, .non]) df_0N | with_reducible apply sim_fld T.c_Places T.n_Places__spans | with_reducible apply sim_setF T.c_Places T.n_Places__spans | with_reducible apply sim_forI | with_reducible apply sim_pop | with_reducible apply sim_tru | with_reducible apply sim_prop | with_reducible apply sim_make (dts := []) .nil | with_reducible apply sim_make0 (dts := []) .nil | with_reducible apply sim_meth0 (dts := []) .nil | with_reducible apply sim_meth (dts := []) .nil | fail "s")
  case go =>
    intro ts Ω PQ PX hl h
    obtain ⟨c, ms, lo, hi, rfl, hc, hn, q⟩ := h
    have e4 : asS (.obj c) Ω = some (ms.map spT) := asS_obj hc
    have e5 : lenT (.obj c) Ω = some ms.length := by rw [lenT_obj hc, List.length_map]
    rcases List.eq_nil_or_concat ms with rfl | ⟨o, l, rfl⟩
    · have e4' : asS (.obj c) Ω = some [] := asS_obj hc
      have e5' : lenT (.obj c) Ω = some 0 := lenT_obj hc
      simp! only [N_law_glued, e4', e5']
      have fin : (asL (.obj c) Ω).isSome = true ∧ ∃ x, Ω c = some (.lst x) ∧ x.length ≤ 999999 ∧ PQ .non (put Ω c (.lst (x ++ [.tup [.int lo, .int (hi - lo)]]))) := ⟨by rw [asL_obj hc]; rfl, _, hc, Nat.zero_le _, q⟩
      first
        | exact fin
        | exact fun _ => fin
        | (intro _; rw [if_neg (by decide)]; exact fin)
    · rw [List.concat_eq_append] at *
      have e1 : L2.atI ((o ++ [l]).map spT) (-1) = some (.tup [.int l.1, .int l.2]) := atI_last (n := o.length) (by rw [List.getElem?_map]; simp; rfl) (by simp)
      have e2 : ixN ((o ++ [l]).map spT).length (-1) = some o.length := by
        rw [List.length_map, List.length_append]
        unfold ixN
        rw [if_neg (by omega), if_pos (by simp only [List.length_cons, List.length_nil]; omega)]
        congr 1
        simp only [List.length_cons, List.length_nil]
        omega
      have e3 : asS (.tup [.int l.1, .int l.2]) Ω = some [.int l.1, .int l.2] := rfl
      have gl : gluS (o ++ [l]) lo hi = if l.1 + l.2 = lo then o ++ [(l.1, hi - l.1)] else (o ++ [l]) ++ [(lo, hi - lo)] := by
        unfold gluS
        rw [List.getLast?_concat]
        simp only [List.dropLast_concat]
      rw [gl] at q
      simp! only [N_law_glued, e1, e2, e3, e4, e5]
      intro _
      rw [if_pos (by rw [List.length_append]; simp only [List.length_cons, List.length_nil]; omega)]
      refine itei (fun h => ⟨_, hc, o.length, e2, ?_⟩) fun h => ⟨by rw [asL_obj hc]; rfl, _, hc, by rw [List.length_map]; omega, ?_⟩
      · rw [if_pos h] at q
        rw [show (o ++ [l]).map spT = o.map spT ++ [spT l] from List.map_append, List.set_append_right _ _ (by rw [List.length_map]; exact Nat.le_refl _), List.length_map, Nat.sub_self]
        rw [List.map_append] at q
        exact q
      · rw [if_neg h, List.map_append (l₁ := o ++ [l])] at q
        exact q
/-! ### the normal form of spans -/
/-- after the first i of the cuts cs -/
structure NrmI (rs : List Spn) (cs : List Int) (ms : List Spn) (i : Nat) : Prop where
  n : NormS ms
  c : ∀ x, CovS ms x ↔ CovS rs x ∧ ∃ k, cs[i]? = some k ∧ x < k
  e : ∀ k, cs[i]? = some k → ∀ r ∈ ms, r.1 + r.2 ≤ k
  l : ms.length ≤ i
theorem cut_seg {rs : List Spn} {cs : List Int} {i : Nat} {a b x : Int} (st : cs.Pairwise (· < ·)) (hm : ∀ c, c ∈ cs ↔ CutI c rs) (ha : cs[i]? = some a) (hb : cs[i + 1]? = some b) (h1 : a ≤ x) (h2 : x < b) : CovS rs x ↔ CovS rs a := by
  obtain ⟨i1, rfl⟩ := List.getElem?_eq_some_iff.mp ha
  obtain ⟨i2, rfl⟩ := List.getElem?_eq_some_iff.mp hb
  have up : ∀ c, c ∈ cs → c < cs[i + 1] → c ≤ cs[i] := fun c hc hlt => by
    obtain ⟨j, hj, rfl⟩ := List.getElem_of_mem hc
    have hji : j < i + 1 := by
      rcases Nat.lt_trichotomy j (i + 1) with h | h | h
      · exact h
      · subst h; omega
      · have := List.pairwise_iff_getElem.mp st (i + 1) j i2 hj h
        omega
    by_cases e : j = i
    · subst e; exact Int.le_refl _
    · have := List.pairwise_iff_getElem.mp st j i hj i1 (by omega)
      omega
  have dn : ∀ c, c ∈ cs → cs[i] < c → cs[i + 1] ≤ c := fun c hc hlt => by
    rcases Int.lt_or_le c (cs[i + 1]) with h | h
    · have := up c hc h
      omega
    · exact h
  constructor
  · rintro ⟨r, hr, c1, c2⟩
    have := up r.1 ((hm _).mpr ⟨r, hr, .inl rfl⟩) (by omega)
    exact ⟨r, hr, this, by omega⟩
  · rintro ⟨r, hr, c1, c2⟩
    have := dn (r.1 + r.2) ((hm _).mpr ⟨r, hr, .inr rfl⟩) c2
    exact ⟨r, hr, by omega, by omega⟩
theorem NrmI.skip {rs : List Spn} {cs : List Int} {ms : List Spn} {i : Nat} {a b : Int} (N : NrmI rs cs ms i) (st : cs.Pairwise (· < ·)) (hm : ∀ c, c ∈ cs ↔ CutI c rs) (ha : cs[i]? = some a) (hb : cs[i + 1]? = some b) (ab : a < b) (h : ¬ CovS rs a) : NrmI rs cs ms (i + 1) := by
  refine ⟨N.n, fun x => ?_, fun k hk r hr => ?_, by have := N.l; omega⟩
  · rw [N.c]
    constructor
    · rintro ⟨h1, k, hk, h2⟩
      rw [ha] at hk
      cases hk
      exact ⟨h1, b, hb, by omega⟩
    · rintro ⟨h1, k, hk, h2⟩
      rw [hb] at hk
      cases hk
      refine ⟨h1, a, ha, ?_⟩
      rcases Int.lt_or_le x a with z | z
      · exact z
      · exact (h ((cut_seg st hm ha hb z h2).mp h1)).elim
  · rw [hb] at hk
    cases hk
    have := N.e a ha r hr
    omega
theorem NrmI.add {rs : List Spn} {cs : List Int} {ms : List Spn} {i : Nat} {a b : Int} (N : NrmI rs cs ms i) (st : cs.Pairwise (· < ·)) (hm : ∀ c, c ∈ cs ↔ CutI c rs) (ha : cs[i]? = some a) (hb : cs[i + 1]? = some b) (ab : a < b) (h : CovS rs a) : NrmI rs cs (gluS ms a b) (i + 1) := by
  have cov : ∀ x, (CovS ms x ∨ (a ≤ x ∧ x < b)) ↔ CovS rs x ∧ ∃ k, cs[i + 1]? = some k ∧ x < k := fun x => by
    rw [N.c]
    constructor
    · rintro (⟨h1, k, hk, h2⟩ | ⟨h1, h2⟩)
      · rw [ha] at hk
        cases hk
        exact ⟨h1, b, hb, by omega⟩
      · exact ⟨(cut_seg st hm ha hb h1 h2).mpr h, b, hb, h2⟩
    · rintro ⟨h1, k, hk, h2⟩
      rw [hb] at hk
      cases hk
      rcases Int.lt_or_le x a with z | z
      · exact .inl ⟨h1, a, ha, z⟩
      · exact .inr ⟨z, h2⟩
  have hl := N.l
  have he := N.e a ha
  have nn := N.n
  rcases List.eq_nil_or_concat ms with rfl | ⟨o, l, rfl⟩
  · refine ⟨norm_snoc (o := []) |>.mpr ⟨.nil, by show 1 ≤ b - a; omega, fun r hr => (List.not_mem_nil hr).elim⟩, fun x => ?_, fun k hk r hr => ?_, by show 1 ≤ i + 1; omega⟩
    · rw [← cov x]
      show CovS [(a, b - a)] x ↔ _
      rw [cov_one]
      exact ⟨fun z => .inr ⟨z.1, by have := z.2; simp only at this; omega⟩, fun z => z.elim (fun y => (cov_nil y).elim) fun y => ⟨y.1, by simp only; omega⟩⟩
    · rw [hb] at hk
      cases hk
      rw [List.mem_singleton.mp hr]
      show a + (b - a) ≤ b
      omega
  · rw [List.concat_eq_append] at *
    have gl : gluS (o ++ [l]) a b = if l.1 + l.2 = a then o ++ [(l.1, b - l.1)] else (o ++ [l]) ++ [(a, b - a)] := by
      unfold gluS
      rw [List.getLast?_concat]
      simp only [List.dropLast_concat]
    obtain ⟨n1, n2, n3⟩ := norm_snoc.mp nn
    have hll := he l (by simp)
    rw [gl]
    by_cases e : l.1 + l.2 = a
    · rw [if_pos e]
      refine ⟨norm_snoc.mpr ⟨n1, by show 1 ≤ b - l.1; omega, n3⟩, fun x => ?_, fun k hk r hr => ?_, by rw [List.length_append, List.length_singleton] at hl ⊢; omega⟩
      · rw [← cov x, cov_app, cov_app, cov_one, cov_one]
        simp only
        constructor
        · rintro (z | z)
          · exact .inl (.inl z)
          · rcases Int.lt_or_le x a with y | y
            · exact .inl (.inr ⟨z.1, by omega⟩)
            · exact .inr ⟨y, by omega⟩
        · rintro ((z | z) | z)
          · exact .inl z
          · exact .inr ⟨z.1, by omega⟩
          · exact .inr ⟨by omega, by omega⟩
      · rw [hb] at hk
        cases hk
        rcases List.mem_append.mp hr with hr | hr
        · have := he r (List.mem_append_left _ hr)
          omega
        · rw [List.mem_singleton.mp hr]
          show l.1 + (b - l.1) ≤ b
          omega
    · rw [if_neg e]
      refine ⟨norm_snoc.mpr ⟨nn, by show 1 ≤ b - a; omega, fun r hr => ?_⟩, fun x => ?_, fun k hk r hr => ?_, by rw [List.length_append (as := o ++ [l]), List.length_singleton]; omega⟩
      · show r.1 + r.2 < a
        rcases List.mem_append.mp hr with hr | hr
        · have := n3 r hr
          omega
        · rw [List.mem_singleton.mp hr]
          omega
      · rw [← cov x, cov_app, cov_one]
        simp only
        exact ⟨fun z => z.elim .inl fun y => .inr ⟨y.1, by omega⟩, fun z => z.elim .inl fun y => .inr ⟨y.1, by omega⟩⟩
      · rw [hb] at hk
        cases hk
        rcases List.mem_append.mp hr with hr | hr
        · have := he r hr
          omega
        · rw [List.mem_singleton.mp hr]
          show a + (b - a) ≤ b
          omega
theorem cut_le {rs : List Spn} {cs : List Int} {i j : Nat} {a b : Int} (st : cs.Pairwise (· < ·)) (hij : i ≤ j) (ha : cs[i]? = some a) (hb : cs[j]? = some b) : a ≤ b := by
  obtain ⟨i1, rfl⟩ := List.getElem?_eq_some_iff.mp ha
  obtain ⟨i2, rfl⟩ := List.getElem?_eq_some_iff.mp hb
  by_cases e : i = j
  · subst e; exact Int.le_refl _
  · have := List.pairwise_iff_getElem.mp st i j i1 i2 (by omega)
    omega
theorem NrmI.start {rs : List Spn} {cs : List Int} (st : cs.Pairwise (· < ·)) (hm : ∀ c, c ∈ cs ↔ CutI c rs) : NrmI rs cs [] 0 := by
  refine ⟨.nil, fun x => ⟨fun h => (cov_nil h).elim, ?_⟩, fun k hk r hr => (List.not_mem_nil hr).elim, Nat.le_refl _⟩
  rintro ⟨⟨r, hr, c1, c2⟩, k, hk, h⟩
  obtain ⟨j, hj⟩ := List.mem_iff_getElem?.mp ((hm r.1).mpr ⟨r, hr, .inl rfl⟩)
  have := cut_le (rs := rs) st (Nat.zero_le j) hk hj
  omega
theorem NrmI.stop {rs : List Spn} {cs : List Int} {ms : List Spn} (st : cs.Pairwise (· < ·)) (hm : ∀ c, c ∈ cs ↔ CutI c rs) (N : NrmI rs cs ms (cs.length - 1)) (x : Int) : CovS ms x ↔ CovS rs x := by
  rw [N.c]
  refine ⟨fun h => h.1, fun h => ⟨h, ?_⟩⟩
  obtain ⟨r, hr, c1, c2⟩ := h
  obtain ⟨j, hj⟩ := List.mem_iff_getElem?.mp ((hm (r.1 + r.2)).mpr ⟨r, hr, .inr rfl⟩)
  have hjl := (List.getElem?_eq_some_iff.mp hj).1
  have hk : cs[cs.length - 1]? = some cs[cs.length - 1] := List.getElem?_eq_getElem (by omega)
  have := cut_le (rs := rs) st (show j ≤ cs.length - 1 by omega) hj hk
  exact ⟨_, hk, by omega⟩
noncomputable def wp_normal : Pw := fun ts Ω PQ _ => ∃ (rs : List Spn), ts = [.lst (rs.map spT)] ∧ rs.length ≤ 100000 ∧ ∀ ms, NormS ms → (∀ x, CovS ms x ↔ CovS rs x) → ms.length ≤ 2 * rs.length → PQ (.lst (ms.map spT)) Ω
theorem ok_law_normal_of (T : Tx K mg) : FnOk P w K mg base CX0 2 (He.ga K "_law_normal_of") T.fd_law_normal_of P_law_normal_of (spD K wp_normal 1) := by
  refine dok T.F_law_normal_of sc_law_normal_of fun cdv A outer s H E hr => ?_
  refine' dokMk (PSs.nox (pss_cons (ps_set (i := 1) sc_law_normal_of.nd rfl (Or.inl rfl) (pe_call (ok_law_cuts_of T) hr rfl T.g_law_cuts_of T.F_law_cuts_of.kp (b_law_cuts_of T) .nil pass0 (pa_cons (pv 0) pa_nil))) (pss_cons (ps_set (i := 2) sc_law_normal_of.nd rfl (Or.inl rfl) (pe_lst pa_nil)) (pss_cons (ps_for PassesOwn.never rfl (pi_range1 rfl T.z_range (pa_cons (pe_op op_sub (pe_callB (show CallR _ _ (LT.rLenS K) from LT.call_lenS) (by rfl) T.z_len (by decide +kernel) (pa_cons (pv 1) pa_nil)) (pe_int)) pa_nil)) (pg_name (i := 3) sc_law_normal_of.nd rfl (Or.inl rfl)) (pss_one (ps_if (pt_val (pe_call (ok_law_held T) hr rfl T.g_law_held T.F_law_held.kp (b_law_held T) .nil pass0 (pa_cons (pe_ix (show IxR _ (LL.rIxA K) from LL.ix_A) (pv 1) (pv 3) (fun _ _ => rfl)) (pa_cons (pv 0) pa_nil)))) (pss_one (ps_expr (pe_call (ok_law_glued T) hr rfl T.g_law_glued T.F_law_glued.kp (b_law_glued T) .nil pass0 (pa_cons (pv 2) (pa_cons (pe_ix (show IxR _ (LL.rIxA K) from LL.ix_A) (pv 1) (pv 3) (fun _ _ => rfl)) (pa_cons (pe_ix (show IxR _ (LL.rIxA K) from LL.ix_A) (pv 1) (pe_op (show OpR _ _ (LT.rAddG K) from LT.op_addG) (pv 3) (pe_int)) (fun _ _ => rfl)) pa_nil)))))) pss_nil))) (pss_one (ps_ret (pv 2))))))) ?sim ?go
  case sim =>
    try simp only [LL.cxK0, LL.cxK1, List.map_cons, List.map_nil]
    repeat' (first | with_reducible apply sim_retThaw (i := 2) | fail "f" | with_reducible exact simc_isiO | with_reducible apply sim_iR3 | with_reducible apply sim_gLst | with_reducible apply sim_tryR0 | with_reducible apply sim_tryR | with_reducible apply SimRow.cons | with_reducible exact SimRow.nil | with_reducible apply sim_mthS (dts := []) .nil | with_reducible apply sim_makeK (gT := fun ts us => ts ++ us) (fun _ _ _ _ _ _ _ h1 h2 => vdl_app h2 h1) | with_reducible apply sim_makeK (gT := fun ts us => ts ++ us ++ [.non]) (fun _ _ _ _ _ _ _ h1 h2 => vdl_app vdl_N (vdl_app h2 h1)) | with_reducible apply sim_make0 (dts := [.int 0, .non]) df_0N | with_reducible apply sim_fld T.c_Places T.n_Places__spans | with_reducible apply sim_setF T.c_Places T.n_Places__spans | with_reducible apply sim_forI | with_reducible apply sim_pop | with_reducible apply sim_tru | with_reducible apply sim_prop | with_reducible apply sim_make (dts := []) .nil | with_reducible apply sim_make0 (dts := []) .nil | with_reducible apply sim_meth0 (dts := []) .nil | with_reducible apply sim_meth (dts := []) .nil | with_reducible apply sim_retThaw (i := 2) | fail "s")
  case go =>
    intro ts Ω PQ PX hl h
    obtain ⟨rs, rfl, hn, q⟩ := h
    simp! only [N_law_normal_of]
    refine ⟨rs, rfl, hn, fun cs st hm hl => ?_⟩
    simp! only [and_true]
    refine .inr fun c hc => ?_
    refine for_R1 (n := (cs.length : Int) - 1) (Ω1 := put Ω c (.lst [])) (fun P p => ?_) (by omega) (fun i ρ' Ω' => ∃ ms, NrmI rs cs ms i ∧ Ω' = put Ω c (.lst (ms.map spT)) ∧ ∃ x3, ρ' = [some (.lst (rs.map spT)), some (.lst (cs.map Tr.int)), some (.obj c), x3]) ⟨[], .start st hm, rfl, _, rfl⟩ ?_ ?_
    · simp! only [and_true]
      rw [List.length_map]
      exact fun _ => p
    · rintro i ρ' Ω' hi ⟨ms, N, rfl, x3, rfl⟩
      have h1 : i < cs.length := by omega
      have h2 : i + 1 < cs.length := by omega
      have ha : cs[i]? = some cs[i] := List.getElem?_eq_getElem h1
      have hb : cs[i + 1]? = some cs[i + 1] := List.getElem?_eq_getElem h2
      have ab : cs[i] < cs[i + 1] := List.pairwise_iff_getElem.mp st i (i + 1) h1 h2 (by omega)
      have e1 := atI_nat (show (cs.map Tr.int)[i]? = some (.int cs[i]) by rw [List.getElem?_map, ha]; rfl)
      have e2 : L2.atI (cs.map Tr.int) ((i : Int) + 1) = some (.int cs[i + 1]) := atI_nat (j := i + 1) (show (cs.map Tr.int)[i + 1]? = some (.int cs[i + 1]) by rw [List.getElem?_map, hb]; rfl)
      have hl2 := N.l
      simp! only [e1, e2]
      exact ⟨cs[i], rs, rfl, by omega, fun b hcv => ⟨b, rfl, itei (fun h => ⟨c, ms, _, _, rfl, put_same, by omega, gluS ms cs[i] cs[i + 1], N.add st hm ha hb ab (hcv.mp h), put_put⟩) fun h => ⟨ms, N.skip st hm ha hb ab (fun z => h (hcv.mpr z)), rfl⟩⟩⟩
    · rintro ρ' Ω' ⟨ms, N, rfl, x3, rfl⟩
      have hl2 := N.l
      refine ret_new rfl hc ?_
      rw [show (((cs.length : Int) - 1).toNat) = cs.length - 1 by omega] at N hl2
      exact q ms N.n (fun x => N.stop st hm x) (by omega)
end
section
open PySem PySem.Spec PyProof.Rows L2 LL LT
variable {P : Program} {w : World} {K : PySem.W.Frag} {mg : Str → Option Value} {base : Heap}

mutual
noncomputable def depTr2 : Tr → Nat
  | .lst ts => depTrs2 ts + 1
  | .tup ts => depTrs2 ts + 1
  | .dic _ ts => depTrs2 ts + 1
  | _ => 0
noncomputable def depTrs2 : List Tr → Nat
  | [] => 0
  | t :: ts => max (depTr2 t) (depTrs2 ts)
end
theorem depTrs2_mem : ∀ {ts : List Tr} {t : Tr}, t ∈ ts → depTr2 t ≤ depTrs2 ts
  | u :: us, t, h => by
    rcases List.mem_cons.mp h with rfl | h
    · exact Nat.le_max_left _ _
    · exact Nat.le_trans (depTrs2_mem h) (Nat.le_max_right _ _)
theorem depTrs2_of {n : Nat} : ∀ {ts : List Tr}, (∀ t ∈ ts, depTr2 t ≤ n) → depTrs2 ts ≤ n
  | [], _ => Nat.zero_le _
  | t :: ts, h => Nat.max_le.mpr ⟨h t List.mem_cons_self, depTrs2_of fun u hu => h u (List.mem_cons_of_mem _ hu)⟩
/-- _law_same of equal data -/
noncomputable def wp_same (n : Nat) : Pw := fun ts Ω PQ _ => ∃ t, ts = [t, t] ∧ dataT t = true ∧ depTr2 t < n ∧ PQ (.bl true) Ω
theorem sm_call {t : Tr} {n : Nat} {Ω : Om} {Q : PT'} {X : PXt} (h1 : dataT t = true) (h2 : depTr2 t < n) (q : Q (.bl true) Ω) : wp_same n [t, t] Ω Q X := ⟨t, rfl, h1, h2, q⟩
theorem fun_false {P : Program} {w : World} {K : PySem.W.Frag} {mg : Str → Option Value} {base : Heap} {CX : CXT} {k : Nat} {f : Addr} {fd : FuncData} {ps : List Str} {Pd : Pw} {n : Nat} (h : ∀ ts Ω Q X, ¬ Pd ts Ω Q X) (hn : n = ps.length) : FnOk P w K mg base CX k f fd ps (spD K Pd n) :=
  ⟨fun vs H Q E ⟨g, Ω, ts, PQ, PX, hl, d, _⟩ => by rw [d.len, hl, hn], fun A outer s H args us vs Q E hr he hb hv ⟨g, Ω, ts, PQ, PX, hl, d, o, p, _⟩ => absurd p (h _ _ _ _)⟩
theorem ok_law_same (T : Tx K mg) : ∀ n : Nat, FnOk P w K mg base CX0 (n + 1) (He.ga K "_law_same") T.fd_law_same P_law_same (spD K (wp_same n) 2) := by
  intro n
  induction n with
  | zero => exact fun_false (fun ts Ω Q X ⟨_, _, _, h, _⟩ => absurd h (Nat.not_lt_zero _)) rfl
  | succ n ih =>
    refine dok T.F_law_same sc_law_same fun cdv A outer s H E hr => ?_
    refine' dokMk (PSs.nox (pss_cons (ps_if (PW.pt (pw_or (pt_cmpR op_isN1 (pv 0) (pe_non) (nomark _)) (pw_or1 (pt_cmpR op_isN1 (pv 1) (pe_non) (nomark _))))) (pss_one (ps_ret ((pe_and (pe_cmpR op_isN1 (pv 0) (pe_non) (nomark _)) (pe_one (pe_cmpR op_isN1 (pv 1) (pe_non) (nomark _))))))) pss_nil) (pss_cons (ps_if (PW.pt (pw_or (pt_val (pe_callB (show CallR _ _ (rIsi K) from call_isi) (by rfl) T.z_isinstance (by decide +kernel) (pa_cons (pv 0) (pa_cons (pe_bltn (v := .ty "bool") (u := .type "bool") (by rfl) T.z_bool (by decide +kernel) rfl) pa_nil)))) (pw_or1 (pt_val (pe_callB (show CallR _ _ (rIsi K) from call_isi) (by rfl) T.z_isinstance (by decide +kernel) (pa_cons (pv 1) (pa_cons (pe_bltn (v := .ty "bool") (u := .type "bool") (by rfl) T.z_bool (by decide +kernel) rfl) pa_nil))))))) (pss_one (ps_ret ((pe_and (pe_callB (show CallR _ _ (rIsi K) from call_isi) (by rfl) T.z_isinstance (by decide +kernel) (pa_cons (pv 0) (pa_cons (pe_bltn (v := .ty "bool") (u := .type "bool") (by rfl) T.z_bool (by decide +kernel) rfl) pa_nil))) (pe_and (pe_callB (show CallR _ _ (rIsi K) from call_isi) (by rfl) T.z_isinstance (by decide +kernel) (pa_cons (pv 1) (pa_cons (pe_bltn (v := .ty "bool") (u := .type "bool") (by rfl) T.z_bool (by decide +kernel) rfl) pa_nil))) (pe_one (pe_cmpR op_eq (pv 0) (pv 1) (nomark _)))))))) pss_nil) (pss_cons (ps_if (pt_val (pe_callB (show CallR _ _ (rIsi K) from call_isi) (by rfl) T.z_isinstance (by decide +kernel) (pa_cons (pv 1) (pa_cons (pe_bltn (v := .ty "int") (u := .type "int") (by rfl) T.z_int (by decide +kernel) rfl) pa_nil)))) (pss_one (ps_ret ((pe_and (pe_callB (show CallR _ _ (rIsi K) from call_isi) (by rfl) T.z_isinstance (by decide +kernel) (pa_cons (pv 0) (pa_cons (pe_bltn (v := .ty "int") (u := .type "int") (by rfl) T.z_int (by decide +kernel) rfl) pa_nil))) (pe_one (pe_cmpR op_eq (pv 0) (pv 1) (nomark _))))))) pss_nil) (pss_cons (ps_if (pt_val (pe_callB (show CallR _ _ (rIsi K) from call_isi) (by rfl) T.z_isinstance (by decide +kernel) (pa_cons (pv 1) (pa_cons (pe_bltn (v := .ty "str") (u := .type "str") (by rfl) T.z_str (by decide +kernel) rfl) pa_nil)))) (pss_one (ps_ret ((pe_and (pe_callB (show CallR _ _ (rIsi K) from call_isi) (by rfl) T.z_isinstance (by decide +kernel) (pa_cons (pv 0) (pa_cons (pe_bltn (v := .ty "str") (u := .type "str") (by rfl) T.z_str (by decide +kernel) rfl) pa_nil))) (pe_one (pe_cmpR op_eq (pv 0) (pv 1) (nomark _))))))) pss_nil) (pss_cons (ps_if (pt_val (pe_callB (show CallR _ _ (rIsi K) from call_isi) (by rfl) T.z_isinstance (by decide +kernel) (pa_cons (pv 1) (pa_cons (pe_bltn (v := .ty "dict") (u := .type "dict") (by rfl) T.z_dict (by decide +kernel) rfl) pa_nil)))) (pss_cons (ps_if (PW.pt (pw_or (pt_not (pt_val (pe_callB (show CallR _ _ (rIsi K) from call_isi) (by rfl) T.z_isinstance (by decide +kernel) (pa_cons (pv 0) (pa_cons (pe_bltn (v := .ty "dict") (u := .type "dict") (by rfl) T.z_dict (by decide +kernel) rfl) pa_nil))))) (pw_or1 (pt_cmpR op_ne (pe_callB (show CallR _ _ (LT.rLenS K) from LT.call_lenS) (by rfl) T.z_len (by decide +kernel) (pa_cons (pv 0) pa_nil)) (pe_callB (show CallR _ _ (LT.rLenS K) from LT.call_lenS) (by rfl) T.z_len (by decide +kernel) (pa_cons (pv 1) pa_nil)) (nomark _))))) (pss_one (ps_ret (pe_bl))) pss_nil) (pss_cons (ps_for PassesOwn.never rfl (LT.pi_seqK (K := K) rfl (pe_callTy (show CallR _ _ (LT.rList K) from LT.call_list rfl) (by rfl) T.z_list (by decide +kernel) (pa_cons (pv 1) pa_nil))) (pg_name (i := 3) sc_law_same.nd rfl (Or.inl rfl)) (pss_one (ps_if (PW.pt (pw_or (pt_cmp (pc_dnotin (hu_of hr) (pv 3) (pv 0))) (pw_or1 (pt_not (pt_val (pe_call ih hr rfl T.g_law_same T.F_law_same.kp (b_law_same T) .nil pass0 (pa_cons (pe_dget (hu_of hr) (pv 0) (pv 3) (fun _ _ => rfl)) (pa_cons (pe_dget (hu_of hr) (pv 1) (pv 3) (fun _ _ => rfl)) pa_nil)))))))) (pss_one (ps_ret (pe_bl))) pss_nil))) (pss_one (ps_ret (pe_bl))))) pss_nil) (pss_cons (ps_if (pt_cmpR op_ne (pe_callB (show CallR _ _ (rIsi K) from call_isi) (by rfl) T.z_isinstance (by decide +kernel) (pa_cons (pv 1) (pa_cons (pe_bltn (v := .ty "list") (u := .type "list") (by rfl) T.z_list (by decide +kernel) rfl) pa_nil))) (pe_callB (show CallR _ _ (rIsi K) from call_isi) (by rfl) T.z_isinstance (by decide +kernel) (pa_cons (pv 0) (pa_cons (pe_bltn (v := .ty "list") (u := .type "list") (by rfl) T.z_list (by decide +kernel) rfl) pa_nil))) (nomark _)) (pss_one (ps_ret (pe_bl))) pss_nil) (pss_cons (ps_if (pt_cmpR op_ne (pe_callB (show CallR _ _ (rIsi K) from call_isi) (by rfl) T.z_isinstance (by decide +kernel) (pa_cons (pv 1) (pa_cons (pe_bltn (v := .ty "tuple") (u := .type "tuple") (by rfl) T.z_tuple (by decide +kernel) rfl) pa_nil))) (pe_callB (show CallR _ _ (rIsi K) from call_isi) (by rfl) T.z_isinstance (by decide +kernel) (pa_cons (pv 0) (pa_cons (pe_bltn (v := .ty "tuple") (u := .type "tuple") (by rfl) T.z_tuple (by decide +kernel) rfl) pa_nil))) (nomark _)) (pss_one (ps_ret (pe_bl))) pss_nil) (pss_cons (ps_if (PW.pt (pw_or (PW.pt (pw_and (pt_not (pt_val (pe_callB (show CallR _ _ (rIsi K) from call_isi) (by rfl) T.z_isinstance (by decide +kernel) (pa_cons (pv 1) (pa_cons (pe_bltn (v := .ty "list") (u := .type "list") (by rfl) T.z_list (by decide +kernel) rfl) pa_nil))))) (pw_and1 (pt_not (pt_val (pe_callB (show CallR _ _ (rIsi K) from call_isi) (by rfl) T.z_isinstance (by decide +kernel) (pa_cons (pv 1) (pa_cons (pe_bltn (v := .ty "tuple") (u := .type "tuple") (by rfl) T.z_tuple (by decide +kernel) rfl) pa_nil)))))))) (pw_or1 (pt_cmpR op_ne (pe_callB (show CallR _ _ (LT.rLenS K) from LT.call_lenS) (by rfl) T.z_len (by decide +kernel) (pa_cons (pv 0) pa_nil)) (pe_callB (show CallR _ _ (LT.rLenS K) from LT.call_lenS) (by rfl) T.z_len (by decide +kernel) (pa_cons (pv 1) pa_nil)) (nomark _))))) (pss_one (ps_ret (pe_bl))) pss_nil) (pss_cons (ps_for PassesOwn.never rfl (pi_range1 rfl T.z_range (pa_cons (pe_callB (show CallR _ _ (LT.rLenS K) from LT.call_lenS) (by rfl) T.z_len (by decide +kernel) (pa_cons (pv 1) pa_nil)) pa_nil)) (pg_name (i := 2) sc_law_same.nd rfl (Or.inl rfl)) (pss_one (ps_if (pt_not (pt_val (pe_call ih hr rfl T.g_law_same T.F_law_same.kp (b_law_same T) .nil pass0 (pa_cons (pe_ix (show IxR _ (LL.rIxA K) from LL.ix_A) (pv 0) (pv 2) (fun _ _ => rfl)) (pa_cons (pe_ix (show IxR _ (LL.rIxA K) from LL.ix_A) (pv 1) (pv 2) (fun _ _ => rfl)) pa_nil))))) (pss_one (ps_ret (pe_bl))) pss_nil))) (pss_one (ps_ret (pe_bl))))))))))))) ?sim ?go
    case sim =>
      try simp only [LL.cxK0, LL.cxK1, List.map_cons, List.map_nil]
      repeat' (first | fail "f" | fail "s")
    case go =>
      intro ts Ω PQ PX hl h
      obtain ⟨t, rfl, hd, hdep, q⟩ := h
      cases t with
      | lst bs =>
          simp! only [N_law_same]
          intro hz hz'
          refine for_R1 (n := (bs.length : Nat)) (Ω1 := Ω) (fun P p => ?_) (by omega) (fun i ρ' Ω' => Ω' = Ω ∧ ∃ x y, ρ' = [some (.lst bs), some (.lst bs), x, y]) ⟨rfl, _, _, rfl⟩ ?_ ?_
          · simp! only [and_true]
            exact fun _ => p
          · rintro i ρ' Ω' hi ⟨rfl, x, y, rfl⟩
            obtain ⟨u, hu⟩ : ∃ u, bs[i]? = some u := ⟨_, List.getElem?_eq_getElem (show i < bs.length by omega)⟩
            have e1 := atI_nat hu
            simp! only [e1]
            have h1 := depTrs2_mem (List.mem_of_getElem? hu)
            have h2 : depTrs2 bs + 1 < n + 1 := hdep
            refine ⟨u, rfl, dataTs_mem hd (List.mem_of_getElem? hu), by omega, ?_⟩
            simp! only [and_true]
          · rintro ρ' Ω' ⟨rfl, x, y, rfl⟩
            simp! only [and_true]
            exact q
      | tup bs =>
          simp! only [N_law_same]
          intro hz hz'
          refine for_R1 (n := (bs.length : Nat)) (Ω1 := Ω) (fun P p => ?_) (by omega) (fun i ρ' Ω' => Ω' = Ω ∧ ∃ x y, ρ' = [some (.tup bs), some (.tup bs), x, y]) ⟨rfl, _, _, rfl⟩ ?_ ?_
          · simp! only [and_true]
            exact fun _ => p
          · rintro i ρ' Ω' hi ⟨rfl, x, y, rfl⟩
            obtain ⟨u, hu⟩ : ∃ u, bs[i]? = some u := ⟨_, List.getElem?_eq_getElem (show i < bs.length by omega)⟩
            have e1 := atI_nat hu
            simp! only [e1]
            have h1 := depTrs2_mem (List.mem_of_getElem? hu)
            have h2 : depTrs2 bs + 1 < n + 1 := hdep
            refine ⟨u, rfl, dataTs_mem hd (List.mem_of_getElem? hu), by omega, ?_⟩
            simp! only [and_true]
          · rintro ρ' Ω' ⟨rfl, x, y, rfl⟩
            simp! only [and_true]
            exact q
      | dic ks us =>
          obtain ⟨nd, hkl, hdd⟩ := data_dic hd
          simp! only [N_law_same]
          intro hz hz'
          refine for_Se (t := .lst (ks.map kT)) (ts := ks.map kT) (Ω1 := Ω) (fun P p => ?_) rfl (fun i ρ' Ω' => Ω' = Ω ∧ ∃ x y, ρ' = [some (.dic ks us), some (.dic ks us), x, y]) ⟨rfl, _, _, rfl⟩ (fun _ _ _ w => trivial) ?_ ?_
          · simp! only [and_true]
            exact .inr fun _ => .inl p
          · rintro hz2 i x ρ' Ω' hx ⟨rfl, x1, y1, rfl⟩
            rw [List.getElem?_map] at hx
            obtain ⟨k, hk, rfl⟩ := Option.map_eq_some_iff.mp hx
            have hi := (List.getElem?_eq_some_iff.mp hk).1
            obtain ⟨u, hu⟩ : ∃ u, us[i]? = some u := ⟨_, List.getElem?_eq_getElem (by omega)⟩
            have ev := valT_at nd hk hu
            have ek : keyT (kT k) = some k := by cases k <;> rfl
            simp! only [ev, ek]
            have h1 := depTrs2_mem (List.mem_of_getElem? hu)
            have h2 : depTrs2 us + 1 < n + 1 := hdep
            refine ⟨u, rfl, dataTs_mem hdd (List.mem_of_getElem? hu), by omega, ?_⟩
            simp! only [and_true]
          · rintro ρ' Ω' ⟨rfl, x, y, rfl⟩
            simp! only [and_true]
            exact q
      | _ => first | (cases (show false = true from hd); done) | (simp! only [N_law_same]; exact q)
end
section
open PySem PySem.Spec PyProof.Rows L2 LL LT
variable {P : Program} {w : World} {K : PySem.W.Frag} {mg : Str → Option Value} {base : Heap}

noncomputable def kindsT : Tr := .lst [.bl true, .bl true, .bl true, .bl false, .bl false, .bl false, .bl false, .bl false, .bl false, .bl false]
noncomputable def wp_kinds : Pz := fun a x ts Ω PQ _ => x.cls = "BadValue" ∧ ts = [.obj a] ∧ PQ kindsT Ω
theorem ok_law_kinds (T : Tx K mg) : FnZ P w K mg base 1 (He.ga K "_law_kinds") T.fd_law_kinds P_law_kinds (spZ K wp_kinds 1) := by
  refine dokZ T.F_law_kinds sc_law_kinds (fun a x ts Ω Q hh => hh.1) fun cdv A outer s H E p cls d hz hf hr => ?_
  refine' dokMkZ (PSs.nox (pss_one (ps_ret (pe_lst (pa_cons (pe_callB (show CallR _ _ (LL.rIsXC K p.1 (He.ga K "BadValue") cls d) from LL.call_isXC (p := p) List.mem_cons_self T.d_BadValue hz hf) (by rfl) T.z_isinstance (by decide +kernel) (pa_cons (pv 0) (pa_cons (pe_glob (v := .ref (He.ga K "StoreError")) (u := .ref (He.ga K "StoreError")) rfl T.g_StoreError rfl) pa_nil))) (pa_cons (pe_callB (show CallR _ _ (LL.rIsXC K p.1 (He.ga K "BadValue") cls d) from LL.call_isXC (p := p) List.mem_cons_self T.d_BadValue hz hf) (by rfl) T.z_isinstance (by decide +kernel) (pa_cons (pv 0) (pa_cons (pe_bltn (v := .ty "ValueError") (u := .type "ValueError") (by rfl) T.z_ValueError (by decide +kernel) rfl) pa_nil))) (pa_cons (pe_callB (show CallR _ _ (LL.rIsXC K p.1 (He.ga K "BadValue") cls d) from LL.call_isXC (p := p) List.mem_cons_self T.d_BadValue hz hf) (by rfl) T.z_isinstance (by decide +kernel) (pa_cons (pv 0) (pa_cons (pe_glob (v := .ref (He.ga K "BadValue")) (u := .ref (He.ga K "BadValue")) rfl T.g_BadValue rfl) pa_nil))) (pa_cons (pe_callB (show CallR _ _ (LL.rIsXC K p.1 (He.ga K "BadValue") cls d) from LL.call_isXC (p := p) List.mem_cons_self T.d_BadValue hz hf) (by rfl) T.z_isinstance (by decide +kernel) (pa_cons (pv 0) (pa_cons (pe_glob (v := .ref (He.ga K "Broken")) (u := .ref (He.ga K "Broken")) rfl T.g_Broken rfl) pa_nil))) (pa_cons (pe_callB (show CallR _ _ (LL.rIsXC K p.1 (He.ga K "BadValue") cls d) from LL.call_isXC (p := p) List.mem_cons_self T.d_BadValue hz hf) (by rfl) T.z_isinstance (by decide +kernel) (pa_cons (pv 0) (pa_cons (pe_glob (v := .ref (He.ga K "Unknown")) (u := .ref (He.ga K "Unknown")) rfl T.g_Unknown rfl) pa_nil))) (pa_cons (pe_callB (show CallR _ _ (LL.rIsXC K p.1 (He.ga K "BadValue") cls d) from LL.call_isXC (p := p) List.mem_cons_self T.d_BadValue hz hf) (by rfl) T.z_isinstance (by decide +kernel) (pa_cons (pv 0) (pa_cons (pe_glob (v := .ref (He.ga K "NotHeld")) (u := .ref (He.ga K "NotHeld")) rfl T.g_NotHeld rfl) pa_nil))) (pa_cons (pe_callB (show CallR _ _ (LL.rIsXC K p.1 (He.ga K "BadValue") cls d) from LL.call_isXC (p := p) List.mem_cons_self T.d_BadValue hz hf) (by rfl) T.z_isinstance (by decide +kernel) (pa_cons (pv 0) (pa_cons (pe_glob (v := .ref (He.ga K "Fault")) (u := .ref (He.ga K "Fault")) rfl T.g_Fault rfl) pa_nil))) (pa_cons (pe_callB (show CallR _ _ (LL.rIsXC K p.1 (He.ga K "BadValue") cls d) from LL.call_isXC (p := p) List.mem_cons_self T.d_BadValue hz hf) (by rfl) T.z_isinstance (by decide +kernel) (pa_cons (pv 0) (pa_cons (pe_glob (v := .ref (He.ga K "NoRoom")) (u := .ref (He.ga K "NoRoom")) rfl T.g_NoRoom rfl) pa_nil))) (pa_cons (pe_callB (show CallR _ _ (LL.rIsXC K p.1 (He.ga K "BadValue") cls d) from LL.call_isXC (p := p) List.mem_cons_self T.d_BadValue hz hf) (by rfl) T.z_isinstance (by decide +kernel) (pa_cons (pv 0) (pa_cons (pe_glob (v := .ref (He.ga K "Cut")) (u := .ref (He.ga K "Cut")) rfl T.g_Cut rfl) pa_nil))) (pa_cons (pe_callB (show CallR _ _ (LL.rIsXC K p.1 (He.ga K "BadValue") cls d) from LL.call_isXC (p := p) List.mem_cons_self T.d_BadValue hz hf) (by rfl) T.z_isinstance (by decide +kernel) (pa_cons (pv 0) (pa_cons (pe_glob (v := .ref (He.ga K "BadLine")) (u := .ref (He.ga K "BadLine")) rfl T.g_BadLine rfl) pa_nil))) pa_nil)))))))))))))) ?sim ?go
  case sim =>
    intro x
    try simp only [LL.cxK0, LL.cxK1, List.map_cons, List.map_nil]
    repeat' (first | fail "f" | fail "s")
  case go =>
    intro x ts Ω PQ hx hl h
    obtain ⟨_, rfl, q⟩ := h
    simp! only [N_law_kinds]
    rw [hx]
    exact ⟨rfl, _, rfl, _, T.k_StoreError, rfl, _, rfl, _, T.k_ValueError, rfl, _, rfl, _, T.k_BadValue, rfl, _, rfl, _, T.k_Broken, rfl, _, rfl, _, T.k_Unknown, rfl, _, rfl, _, T.k_NotHeld, rfl, _, rfl, _, T.k_Fault, rfl, _, rfl, _, T.k_NoRoom, rfl, _, rfl, _, T.k_Cut, rfl, _, rfl, _, T.k_BadLine, .inl q⟩
end
section
open PySem PySem.Spec PyProof.Rows L2 LL LT
variable {P : Program} {w : World} {K : PySem.W.Frag} {mg : Str → Option Value} {base : Heap}

noncomputable def isBV2 : Tr → Tr
  | .str s => .bl (decide (s = "BadValue"))
  | _ => .non
noncomputable def refLT (f : Tr) : Tr := .lst [.str "refused", .tup [.str "BadValue", f], f, kindsT]
noncomputable def wp_refL : Pw := fun ts Ω PQ _ => ∃ f, ts = [.str "BadValue", f] ∧ PQ (refLT f) Ω
theorem ok_law_refused (T : Tx K mg) : FnOk P w K mg base CX0 1 (He.ga K "_law_refused") T.fd_law_refused P_law_refused (spD K wp_refL 2) := by
  refine dok T.F_law_refused sc_law_refused fun cdv A outer s H E hr => ?_
  refine' dokMk (PSs.nox (pss_cons (ps_set (i := 2) sc_law_refused.nd rfl (Or.inl rfl) (pe_lst (pa_cons (pe_str) (pa_cons (pe_str) (pa_cons (pe_str) (pa_cons (pe_str) (pa_cons (pe_str) (pa_cons (pe_str) (pa_cons (pe_str) (pa_cons (pe_str) pa_nil)))))))))) (pss_one (ps_ret (pe_lst (pa_cons (pe_str) (pa_cons (pe_tup (pa_cons (pv 0) (pa_cons (pv 1) pa_nil))) (pa_cons (pv 1) (pa_cons (pe_op (show OpR _ _ (LT.rAddG K) from LT.op_addG) (pe_lst (pa_cons (pe_bl) (pa_cons (pe_bl) pa_nil))) (pe_lc (own := [("_law_one", 3)]) (by rfl) sc_law_refused.nd (LT.pi_seqK (K := K) rfl (pv 2)) (blkOk_by (N := N_law_refused) (sc := defScope s_law_refused) (by decide +kernel)) (fun _ _ _ _ _ => (pg_name (i := 3) sc_law_refused.nd rfl (Or.inl rfl))) (fun _ _ _ _ _ => pts_nil) (fun _ _ _ _ _ => (pe_cmpR op_eq (pv 3) (pv 0) (nomark _))))) pa_nil))))))))) ?sim ?go
  case sim =>
    try simp only [LL.cxK0, LL.cxK1, List.map_cons, List.map_nil]
    repeat' (first | fail "f" | with_reducible exact simc_isiO | with_reducible apply sim_iR3 | with_reducible apply sim_gLst | with_reducible apply sim_tryR0 | with_reducible apply sim_tryR | with_reducible apply SimRow.cons | with_reducible exact SimRow.nil | with_reducible apply sim_mthS (dts := []) .nil | with_reducible apply sim_makeK (gT := fun ts us => ts ++ us) (fun _ _ _ _ _ _ _ h1 h2 => vdl_app h2 h1) | with_reducible apply sim_makeK (gT := fun ts us => ts ++ us ++ [.non]) (fun _ _ _ _ _ _ _ h1 h2 => vdl_app vdl_N (vdl_app h2 h1)) | with_reducible apply sim_make0 (dts := [.int 0, .non]) df_0N | with_reducible apply sim_fld T.c_Places T.n_Places__spans | with_reducible apply sim_setF T.c_Places T.n_Places__spans | with_reducible apply sim_forI | with_reducible apply sim_pop | with_reducible apply sim_tru | with_reducible apply sim_prop | with_reducible apply sim_make (dts := []) .nil | with_reducible apply sim_make0 (dts := []) .nil | with_reducible apply sim_meth0 (dts := []) .nil | with_reducible apply sim_meth (dts := []) .nil | fail "s")
  case go =>
    intro ts Ω PQ PX hl h
    obtain ⟨f, rfl, q⟩ := h
    simp! only [N_law_refused]
    refine .inl ?_
    simp! only [and_true]
    refine .inl ?_
    refine map_S (fun P p => ⟨_, rfl, p⟩) rfl isBV2 mono_dName (fun x hx Q q => ?_) (.inl ?_)
    · simp only [List.mem_cons, List.not_mem_nil, or_false] at hx
      rcases hx with rfl | rfl | rfl | rfl | rfl | rfl | rfl | rfl <;> (unfold isBV2 at q; simp! only [and_true]; exact q)
    · simp! only [and_true]
      exact .inl (.inl q)
end
section
open PySem PySem.Spec PyProof.Rows L2 LL LT
variable {P : Program} {w : World} {K : PySem.W.Frag} {mg : Str → Option Value} {base : Heap}

noncomputable def wp_copy (n : Nat) : Pw := fun ts Ω PQ _ => ∃ t, ts = [t] ∧ dataT t = true ∧ depTr2 t < n ∧ PQ t Ω
theorem putL_take {ks : List Key} {us : List Tr} {i : Nat} {k : Key} {u : Tr} (nd : ks.Nodup) (hl : us.length = ks.length) (hk : ks[i]? = some k) (hu : us[i]? = some u) : (putL (ks.take i) (us.take i) k u).map (·.1) = ks.take (i + 1) ∧ (putL (ks.take i) (us.take i) k u).map (·.2) = us.take (i + 1) := by
  have hi := (List.getElem?_eq_some_iff.mp hk).1
  have e1 : ((ks.take i).zip (us.take i)).map (·.1) = ks.take i := List.map_fst_zip (by rw [List.length_take, List.length_take]; omega)
  have e2 : ((ks.take i).zip (us.take i)).map (·.2) = us.take i := List.map_snd_zip (by rw [List.length_take, List.length_take]; omega)
  have hn : k ∉ ((ks.take i).zip (us.take i)).map (·.1) := by
    rw [e1]
    intro hm
    have hd : ks = ks.take i ++ k :: ks.drop (i + 1) := by
      conv => lhs; rw [← List.take_append_drop i ks, List.drop_eq_getElem_cons hi, (List.getElem?_eq_some_iff.mp hk).2]
    rw [hd] at nd
    exact (List.nodup_append.mp nd).2.2 k hm k List.mem_cons_self rfl
  unfold putL
  rw [putT_new hn, List.map_append, List.map_append, e1, e2, take_one hk, take_one hu]
  exact ⟨rfl, rfl⟩
theorem ok_law_copy (T : Tx K mg) : ∀ n : Nat, FnOk P w K mg base CX0 (n + 1) (He.ga K "_law_copy") T.fd_law_copy P_law_copy (spD K (wp_copy n) 1) := by
  intro n
  induction n with
  | zero => exact fun_false (fun ts Ω Q X ⟨_, _, _, h, _⟩ => absurd h (Nat.not_lt_zero _)) rfl
  | succ n ih =>
    refine dok T.F_law_copy sc_law_copy fun cdv A outer s H E hr => ?_
    refine' dokMk (PSs.nox (pss_cons (ps_if (pt_val (pe_callB (show CallR _ _ (rIsi K) from call_isi) (by rfl) T.z_isinstance (by decide +kernel) (pa_cons (pv 0) (pa_cons (pe_bltn (v := .ty "list") (u := .type "list") (by rfl) T.z_list (by decide +kernel) rfl) pa_nil)))) (pss_one (ps_ret (pe_lc (own := [("_law_one", 3)]) (by rfl) sc_law_copy.nd (LT.pi_seqK (K := K) rfl (pv 0)) (blkOk_by (N := N_law_copy) (sc := defScope s_law_copy) (by decide +kernel)) (fun _ _ _ _ _ => (pg_name (i := 3) sc_law_copy.nd rfl (Or.inl rfl))) (fun _ _ _ _ _ => pts_nil) (fun _ _ _ _ _ => (pe_call ih hr rfl T.g_law_copy T.F_law_copy.kp (b_law_copy T) .nil pass0 (pa_cons (pv 3) pa_nil)))))) pss_nil) (pss_cons (ps_if (pt_val (pe_callB (show CallR _ _ (rIsi K) from call_isi) (by rfl) T.z_isinstance (by decide +kernel) (pa_cons (pv 0) (pa_cons (pe_bltn (v := .ty "tuple") (u := .type "tuple") (by rfl) T.z_tuple (by decide +kernel) rfl) pa_nil)))) (pss_one (ps_ret (pe_callTy (show CallR _ _ (LT.rTuple K) from LT.call_tuple) (by rfl) T.z_tuple (by decide +kernel) (pa_cons (pe_lc (own := [("_law_one", 3)]) (by rfl) sc_law_copy.nd (LT.pi_seqK (K := K) rfl (pv 0)) (blkOk_by (N := N_law_copy) (sc := defScope s_law_copy) (by decide +kernel)) (fun _ _ _ _ _ => (pg_name (i := 3) sc_law_copy.nd rfl (Or.inl rfl))) (fun _ _ _ _ _ => pts_nil) (fun _ _ _ _ _ => (pe_call ih hr rfl T.g_law_copy T.F_law_copy.kp (b_law_copy T) .nil pass0 (pa_cons (pv 3) pa_nil)))) pa_nil)))) pss_nil) (pss_cons (ps_if (pt_val (pe_callB (show CallR _ _ (rIsi K) from call_isi) (by rfl) T.z_isinstance (by decide +kernel) (pa_cons (pv 0) (pa_cons (pe_bltn (v := .ty "dict") (u := .type "dict") (by rfl) T.z_dict (by decide +kernel) rfl) pa_nil)))) (pss_cons (ps_set (i := 1) sc_law_copy.nd rfl (Or.inl rfl) (pe_dnewK)) (pss_cons (ps_for PassesOwn.never rfl (LT.pi_seqK (K := K) rfl (pe_callTy (show CallR _ _ (LT.rList K) from LT.call_list rfl) (by rfl) T.z_list (by decide +kernel) (pa_cons (pv 0) pa_nil))) (pg_name (i := 2) sc_law_copy.nd rfl (Or.inl rfl)) (pss_one (ps_dput (hu_of hr) (pv 1) (pv 2) (pe_call ih hr rfl T.g_law_copy T.F_law_copy.kp (b_law_copy T) .nil pass0 (pa_cons (pe_dget (hu_of hr) (pv 0) (pv 2) (fun _ _ => rfl)) pa_nil)) rfl))) (pss_one (ps_ret (pv 1))))) pss_nil) (pss_one (ps_ret (pv 0))))))) ?sim ?go
    case sim =>
      try simp only [LL.cxK0, LL.cxK1, List.map_cons, List.map_nil]
      repeat' (first | with_reducible apply sim_retThawD (i := 1) | fail "f" | fail "s")
    case go =>
      intro ts Ω PQ PX hl h
      obtain ⟨t, rfl, hd, hdep, q⟩ := h
      cases t with
      | lst us =>
        simp! only [N_law_copy]
        refine .inl ?_
        simp! only [and_true]
        refine map_S (t := .lst us) (ts := us) (fun P p => ⟨_, rfl, p⟩) rfl id mono_dName (fun x hx Q q => ?_) (.inl ?_)
        · have h1 := depTrs2_mem hx
          have h2 : depTrs2 us + 1 < n + 1 := hdep
          simp! only [and_true]
          exact ⟨x, rfl, dataTs_mem hd hx, by omega, q⟩
        · rw [List.map_id]
          exact q
      | tup us =>
        simp! only [N_law_copy]
        refine .inl ?_
        simp! only [and_true]
        refine map_S (t := .tup us) (ts := us) (fun P p => ⟨_, rfl, p⟩) rfl id mono_dName (fun x hx Q q => ?_) (.inl ?_)
        · have h1 := depTrs2_mem hx
          have h2 : depTrs2 us + 1 < n + 1 := hdep
          simp! only [and_true]
          exact ⟨x, rfl, dataTs_mem hd hx, by omega, q⟩
        · rw [List.map_id]
          simp! only [and_true]
          exact fun _ => q
      | dic ks us =>
        obtain ⟨nd, hkl, hdd⟩ := data_dic hd
        simp! only [N_law_copy]
        refine .inr fun c hc => ?_
        refine for_Se (t := .lst (ks.map kT)) (ts := ks.map kT) (Ω1 := put Ω c (.dic [] [])) (fun P p => ?_) rfl (fun i ρ' Ω' => Ω' = put Ω c (.dic (ks.take i) (us.take i)) ∧ ∃ x y, ρ' = [some (.dic ks us), some (.obj c), x, y]) ⟨rfl, _, _, rfl⟩ (fun _ _ _ w => trivial) ?_ ?_
        · simp! only [and_true]
          exact .inr fun _ => .inl p
        · rintro hz2 i x ρ' Ω' hx ⟨rfl, x1, y1, rfl⟩
          rw [List.getElem?_map] at hx
          obtain ⟨k, hk, rfl⟩ := Option.map_eq_some_iff.mp hx
          have hi := (List.getElem?_eq_some_iff.mp hk).1
          obtain ⟨u, hu⟩ : ∃ u, us[i]? = some u := ⟨_, List.getElem?_eq_getElem (by omega)⟩
          have ev := valT_at nd hk hu
          have ek : keyT (kT k) = some k := by cases k <;> rfl
          simp! only [ev, ek]
          have h1 := depTrs2_mem (List.mem_of_getElem? hu)
          have h2 : depTrs2 us + 1 < n + 1 := hdep
          refine ⟨u, rfl, dataTs_mem hdd (List.mem_of_getElem? hu), by omega, ?_⟩
          simp! only [and_true]
          have hp := putL_take nd hkl hk hu
          rw [List.length_map] at hz2
          exact ⟨_, _, rfl, by rw [List.length_take]; omega, by rw [hp.1, hp.2]⟩
        · rintro ρ' Ω' ⟨rfl, x, y, rfl⟩
          rw [List.length_map, List.take_length, List.take_of_length_le (by omega)]
          exact ret_newD rfl hc q
      | _ => first | (cases (show false = true from hd); done) | (simp! only [N_law_copy]; refine .inl ?_; simp! only [and_true]; exact q)
end
section
open PySem PySem.Spec PyProof.Rows L2 LL LT
variable {P : Program} {w : World} {K : PySem.W.Frag} {mg : Str → Option Value} {base : Heap}

noncomputable def wp_long : Pw := fun ts Ω PQ _ => ts = [] ∧ ∀ L : Int, 10 ^ 39 ≤ L → PQ (.int L) Ω
noncomputable def wp_notint : Pw := fun ts Ω PQ _ => ts = [.drw] ∧ ∀ t, dataT t = true → isInt t = false → PQ t Ω
noncomputable def wp_notwithin : Pw := fun ts Ω PQ _ => ∃ lo hi : Int, ts = [.drw, .int lo, .int hi] ∧ -(10 ^ 12) ≤ lo ∧ hi ≤ 10 ^ 12 ∧ ∀ t, dataT t = true → ¬ InR lo hi t → PQ t Ω
theorem inR_int {lo hi : Int} {t : Tr} (h : isInt t = false) : ¬ InR lo hi t := by
  cases t <;> first | exact fun z => z | cases h
noncomputable def intsT : List Tr → Bool
  | [] => true
  | t :: ts => isInt t && intsT ts
noncomputable def isIntsT (listed : Bool) (many : Int) (t : Tr) : Bool := match t, listed with
  | .lst ts, true => (decide (many < 0) || decide ((ts.length : Int) = many)) && intsT ts
  | .tup ts, false => (decide (many < 0) || decide ((ts.length : Int) = many)) && intsT ts
  | _, _ => false
noncomputable def wp_isints : Pw := fun ts Ω PQ _ => ∃ t b m, ts = [t, .bl b, .int m] ∧ dataT t = true ∧ PQ (.bl (isIntsT b m t)) Ω
theorem intsT_drop {ts : List Tr} {i : Nat} {x : Tr} (h : ts[i]? = some x) : intsT (ts.drop i) = (isInt x && intsT (ts.drop (i + 1))) := by
  rw [List.drop_eq_getElem_cons (List.getElem?_eq_some_iff.mp h).1, (List.getElem?_eq_some_iff.mp h).2]
  rfl
noncomputable def wp_bent : Pw := fun ts Ω PQ _ => ∃ g b gs bs, ts = [.drw, g, b] ∧ asS g Ω = some gs ∧ asS b Ω = some bs ∧ gs.length = bs.length ∧ 0 < gs.length ∧ ∀ (at_ : Nat) (row : List Tr), row.length = gs.length → at_ < gs.length → (∀ j, j < at_ → row[j]? = gs[j]?) → row[at_]? = bs[at_]? → (∀ j, at_ < j → row[j]? = gs[j]? ∨ row[j]? = bs[j]?) → PQ (.tup [.int at_, .lst row]) Ω
theorem long_call {Ω : Om} {P : PT'} {X : PXt} (k : ∀ L : Int, 10 ^ 39 ≤ L → P (.int L) Ω) : wp_long [] Ω P X := ⟨rfl, k⟩
theorem ni_call {Ω : Om} {P : PT'} {X : PXt} (k : ∀ t, dataT t = true → isInt t = false → P t Ω) : wp_notint [.drw] Ω P X := ⟨rfl, k⟩
theorem nw_call {lo hi : Int} {Ω : Om} {P : PT'} {X : PXt} (h : -(10 ^ 12) ≤ lo ∧ hi ≤ 10 ^ 12) (k : ∀ t, dataT t = true → ¬ InR lo hi t → P t Ω) : wp_notwithin [.drw, .int lo, .int hi] Ω P X := ⟨lo, hi, rfl, h.1, h.2, k⟩
theorem pow_step {v : Int} {i : Nat} (h : v.natAbs < 2 ^ (200 + 300 * i)) : (v * 10000000000000000000000000000000000000000000000000000000000000000).natAbs < 2 ^ (200 + 300 * (i + 1)) := by
  rw [Int.natAbs_mul, show 200 + 300 * (i + 1) = (200 + 300 * i) + 300 by omega, Nat.pow_add]
  exact Nat.mul_lt_mul'' h (by decide)
theorem not_in {lo hi x : Int} (h : x < lo ∨ hi < x) : ¬ InR lo hi (.int x) := fun z => by
  have h1 : lo ≤ x := z.1
  have h2 : x ≤ hi := z.2
  omega
theorem ok_law_long (T : Tx K mg) : FnOk P w K mg base CX0 1 (He.ga K "_law_long") T.fd_law_long P_law_long (spD K wp_long 0) := by
  refine dok T.F_law_long sc_law_long fun cdv A outer s H E hr => ?_
  refine' dokMk (PSs.nox (pss_cons (ps_set (i := 0) sc_law_long.nd rfl (Or.inl rfl) (pe_op op_pow (pe_int) (pe_int))) (pss_cons (ps_for PassesOwn.never rfl (pi_range1 rfl T.z_range (pa_cons (pe_int) pa_nil)) (pg_name (i := 1) sc_law_long.nd rfl (Or.inl rfl)) (pss_one (ps_set (i := 0) sc_law_long.nd rfl (Or.inl rfl) (pe_op op_mulW (pv 0) (pe_op op_pow (pe_int) (pe_int)))))) (pss_one (ps_ret (pv 0)))))) ?sim ?go
  case sim =>
    try simp only [LL.cxK0, LL.cxK1, List.map_cons, List.map_nil]
    repeat' (first | fail "f" | with_reducible exact simc_isiO | with_reducible apply sim_iR3 | with_reducible apply sim_gLst | with_reducible apply sim_tryR0 | with_reducible apply sim_tryR | with_reducible apply SimRow.cons | with_reducible exact SimRow.nil | with_reducible apply sim_mthS (dts := []) .nil | with_reducible apply sim_makeK (gT := fun ts us => ts ++ us) (fun _ _ _ _ _ _ _ h1 h2 => vdl_app h2 h1) | with_reducible apply sim_makeK (gT := fun ts us => ts ++ us ++ [.non]) (fun _ _ _ _ _ _ _ h1 h2 => vdl_app vdl_N (vdl_app h2 h1)) | with_reducible apply sim_make0 (dts := [.int 0, .non]) df_0N | with_reducible apply sim_fld T.c_Places T.n_Places__spans | with_reducible apply sim_setF T.c_Places T.n_Places__spans | with_reducible apply sim_forI | with_reducible apply sim_pop | with_reducible apply sim_tru | with_reducible apply sim_prop | with_reducible apply sim_make (dts := []) .nil | with_reducible apply sim_make0 (dts := []) .nil | with_reducible apply sim_meth0 (dts := []) .nil | with_reducible apply sim_meth (dts := []) .nil | fail "s")
  case go =>
    intro ts Ω PQ PX hl h
    obtain ⟨rfl, q⟩ := h
    simp! only [N_law_long]
    refine ⟨by unfold CPow; decide, for_R1 (n := 15) (Ω1 := Ω) (fun P p => ?_) (by omega) (fun i ρ' Ω' => Ω' = Ω ∧ ∃ (x : Option Tr) (v : Int), ρ' = [some (.int v), x] ∧ 10 ^ 39 ≤ v ∧ v.natAbs < 2 ^ (200 + 300 * i)) ⟨rfl, _, _, rfl, by decide, by decide⟩ ?_ ?_⟩
    · simp! only [and_true]
      exact p
    · rintro i ρ' Ω' hi ⟨rfl, x, v, rfl, h1, h2⟩
      simp! only [and_true]
      have h3 : 200 + 300 * i ≤ 5000 := by omega
      have h4 := pow_step h2
      refine ⟨by unfold CPow; decide, LT.wide_mul' (Nat.lt_of_lt_of_le h2 (Nat.pow_le_pow_right (by decide) h3)), by omega, h4⟩
    · rintro ρ' Ω' ⟨rfl, x, v, rfl, h1, h2⟩
      simp! only [and_true]
      exact q v h1
end
section
open PySem PySem.Spec PyProof.Rows L2 LL LT
variable {P : Program} {w : World} {K : PySem.W.Frag} {mg : Str → Option Value} {base : Heap}

noncomputable def wp_lspan : Pw := fun ts Ω PQ _ => ∃ m : Int, ts = [.drw, .int m] ∧ 1 ≤ m ∧ m ≤ 1000000000 ∧ ∀ r : Spn, 0 ≤ r.1 → 1 ≤ r.2 → r.1 + r.2 ≤ m → PQ (spT r) Ω
theorem sp_call {m : Int} {Ω : Om} {P : PT'} {X : PXt} (h : 1 ≤ m ∧ m ≤ 1000000000) (k : ∀ r : Spn, 0 ≤ r.1 → 1 ≤ r.2 → r.1 + r.2 ≤ m → P (spT r) Ω) : wp_lspan [.drw, .int m] Ω P X := ⟨m, rfl, h.1, h.2, k⟩
noncomputable def MostS (m : Int) (rs : List Spn) : Prop := ∀ r ∈ rs, 0 ≤ r.1 ∧ 1 ≤ r.2 ∧ r.1 + r.2 ≤ m
noncomputable def wp_lspans : Pw := fun ts Ω PQ _ => ∃ (n m : Int), ts = [.drw, .int n, .int m] ∧ 0 ≤ n ∧ n ≤ 1000 ∧ 1 ≤ m ∧ m ≤ 1000000000 ∧ ∀ rs : List Spn, MostS m rs → (rs.length : Int) = n → PQ (.lst (rs.map spT)) Ω
theorem ok_law_span (T : Tx K mg) : FnOk P w K mg base CX0 6 (He.ga K "_law_span") T.fd_law_span P_law_span (spD K wp_lspan 2) := by
  refine dok T.F_law_span sc_law_span fun cdv A outer s H E hr => ?_
  refine' dokMk (PSs.nox (pss_cons (ps_set (i := 2) sc_law_span.nd rfl (Or.inl rfl) (pe_call (ok_law_between T) (hr.mono (by decide)) rfl T.g_law_between T.F_law_between.kp (b_law_between T) .nil pass0 (pa_cons (pv 0) (pa_cons (pe_int) (pa_cons (pe_callB (LL.call_mn rfl) (by rfl) T.z_min (by decide +kernel) (pa_cons (pv 1) (pa_cons (pe_int) pa_nil))) pa_nil))))) (pss_cons (ps_if (pt_cmpR op_eq (pe_call (okt_law_take T) (hr.mono (by decide)) rfl T.g_law_take T.F_law_take.kp (b_law_take T) .nil pass0 (pa_cons (pv 0) (pa_cons (pe_int) pa_nil))) (pe_int) (nomark _)) (pss_one (ps_set (i := 2) sc_law_span.nd rfl (Or.inl rfl) (pe_call (ok_law_number T) hr rfl T.g_law_number T.F_law_number.kp (b_law_number T) .nil pass0 (pa_cons (pv 0) (pa_cons (pe_int) (pa_cons (pv 1) pa_nil)))))) pss_nil) (pss_one (ps_ret (pe_tup (pa_cons (pe_call (ok_law_number T) hr rfl T.g_law_number T.F_law_number.kp (b_law_number T) .nil pass0 (pa_cons (pv 0) (pa_cons (pe_int) (pa_cons (pe_op op_sub (pv 1) (pv 2)) pa_nil)))) (pa_cons (pv 2) pa_nil)))))))) ?sim ?go
  case sim =>
    try simp only [LL.cxK0, LL.cxK1, List.map_cons, List.map_nil]
    repeat' (first | fail "f" | with_reducible exact simc_isiO | with_reducible apply sim_iR3 | with_reducible apply sim_gLst | with_reducible apply sim_tryR0 | with_reducible apply sim_tryR | with_reducible apply SimRow.cons | with_reducible exact SimRow.nil | with_reducible apply sim_mthS (dts := []) .nil | with_reducible apply sim_makeK (gT := fun ts us => ts ++ us) (fun _ _ _ _ _ _ _ h1 h2 => vdl_app h2 h1) | with_reducible apply sim_makeK (gT := fun ts us => ts ++ us ++ [.non]) (fun _ _ _ _ _ _ _ h1 h2 => vdl_app vdl_N (vdl_app h2 h1)) | with_reducible apply sim_make0 (dts := [.int 0, .non]) df_0N | with_reducible apply sim_fld T.c_Places T.n_Places__spans | with_reducible apply sim_setF T.c_Places T.n_Places__spans | with_reducible apply sim_forI | with_reducible apply sim_pop | with_reducible apply sim_tru | with_reducible apply sim_prop | with_reducible apply sim_make (dts := []) .nil | with_reducible apply sim_make0 (dts := []) .nil | with_reducible apply sim_meth0 (dts := []) .nil | with_reducible apply sim_meth (dts := []) .nil | fail "s")
  case go =>
    intro ts Ω PQ PX hl h
    obtain ⟨m, rfl, m0, m1, q⟩ := h
    simp! only [N_law_span]
    refine bt_call (tk_big (by omega) (by omega)) fun v v0 v1 => ?_
    have v2 : v ≤ m := by omega
    simp! only [and_true]
    refine tk_call (by decide) fun k _ _ => ⟨rfl, rfl, itei (fun _ => nu_call ⟨m0, by omega, by omega⟩ fun z z0 z1 => ⟨z, rfl, ?_⟩) fun _ => ?_⟩
    · exact nu_call ⟨by omega, by omega, by omega⟩ fun y y0 y1 => q (y, z) y0 z0 (by show y + z ≤ m; omega)
    · exact nu_call ⟨by omega, by omega, by omega⟩ fun y y0 y1 => q (y, v) y0 v0 (by show y + v ≤ m; omega)
theorem ok_law_spans (T : Tx K mg) : FnOk P w K mg base CX0 7 (He.ga K "_law_spans") T.fd_law_spans P_law_spans (spD K wp_lspans 3) := by
  refine dok T.F_law_spans sc_law_spans fun cdv A outer s H E hr => ?_
  refine' dokMk (PSs.nox (pss_cons (ps_set (i := 3) sc_law_spans.nd rfl (Or.inl rfl) (pe_lst pa_nil)) (pss_cons (ps_for PassesOwn.never rfl (pi_range1 rfl T.z_range (pa_cons (pv 1) pa_nil)) (pg_name (i := 4) sc_law_spans.nd rfl (Or.inl rfl)) (pss_cons (ps_set (i := 5) sc_law_spans.nd rfl (Or.inl rfl) (pe_call (okt_law_take T) (hr.mono (by decide)) rfl T.g_law_take T.F_law_take.kp (b_law_take T) .nil pass0 (pa_cons (pv 0) (pa_cons (pe_int) pa_nil)))) (pss_cons (ps_set (i := 6) sc_law_spans.nd rfl (Or.inl rfl) (pe_call (ok_law_span T) hr rfl T.g_law_span T.F_law_span.kp (b_law_span T) .nil pass0 (pa_cons (pv 0) (pa_cons (pv 2) pa_nil)))) (pss_cons (ps_if (PW.pt (pw_and (pt_cmpR op_gt (pv 4) (pe_int) (nomark _)) (pw_and1 (pt_cmpR op_lt (pv 5) (pe_int) (nomark _))))) (pss_cons (ps_set (i := 6) sc_law_spans.nd rfl (Or.inl rfl) (pe_call (ok_law_among T) (hr.mono (by decide)) rfl T.g_law_among T.F_law_among.kp (b_law_among T) .nil pass0 (pa_cons (pv 0) (pa_cons (pv 3) pa_nil)))) (pss_cons (ps_set (i := 7) sc_law_spans.nd rfl (Or.inl rfl) (pe_op (show OpR _ _ (LT.rAddG K) from LT.op_addG) (pe_ix (show IxR _ (LL.rIxA K) from LL.ix_A) (pv 6) (pe_int) (fun _ _ => rfl)) (pe_ix (show IxR _ (LL.rIxA K) from LL.ix_A) (pv 6) (pe_int) (fun _ _ => rfl)))) (pss_cons (ps_if (PW.pt (pw_and (pt_cmpR op_eq (pv 5) (pe_int) (nomark _)) (pw_and1 (pt_cmpR op_lt (pv 7) (pv 2) (nomark _))))) (pss_one (ps_set (i := 6) sc_law_spans.nd rfl (Or.inl rfl) (pe_tup (pa_cons (pv 7) (pa_cons (pe_call (ok_law_between T) (hr.mono (by decide)) rfl T.g_law_between T.F_law_between.kp (b_law_between T) .nil pass0 (pa_cons (pv 0) (pa_cons (pe_int) (pa_cons (pe_callB (LL.call_mn rfl) (by rfl) T.z_min (by decide +kernel) (pa_cons (pe_int) (pa_cons (pe_op op_sub (pv 2) (pv 7)) pa_nil))) pa_nil)))) pa_nil))))) pss_nil) (pss_one (ps_if (pt_cmpR op_eq (pv 5) (pe_int) (nomark _)) (pss_cons (ps_set (i := 8) sc_law_spans.nd rfl (Or.inl rfl) (pe_call (ok_law_between T) (hr.mono (by decide)) rfl T.g_law_between T.F_law_between.kp (b_law_between T) .nil pass0 (pa_cons (pv 0) (pa_cons (pe_int) (pa_cons (pe_op op_sub (pe_ix (show IxR _ (LL.rIxA K) from LL.ix_A) (pv 6) (pe_int) (fun _ _ => rfl)) (pe_int)) pa_nil))))) (pss_one (ps_set (i := 6) sc_law_spans.nd rfl (Or.inl rfl) (pe_tup (pa_cons (pe_op (show OpR _ _ (LT.rAddG K) from LT.op_addG) (pe_ix (show IxR _ (LL.rIxA K) from LL.ix_A) (pv 6) (pe_int) (fun _ _ => rfl)) (pv 8)) (pa_cons (pe_call (ok_law_between T) (hr.mono (by decide)) rfl T.g_law_between T.F_law_between.kp (b_law_between T) .nil pass0 (pa_cons (pv 0) (pa_cons (pe_int) (pa_cons (pe_op op_sub (pe_ix (show IxR _ (LL.rIxA K) from LL.ix_A) (pv 6) (pe_int) (fun _ _ => rfl)) (pv 8)) pa_nil)))) pa_nil)))))) pss_nil))))) pss_nil) (pss_one (ps_expr (pe_bm PySem.F.plainAttrs_list PySem.F.slot_list_append PySem.F.type_list_append mt_append (pv 3) (pa_cons (pv 6) pa_nil)))))))) (pss_one (ps_ret (pv 3)))))) ?sim ?go
  case sim =>
    try simp only [LL.cxK0, LL.cxK1, List.map_cons, List.map_nil]
    repeat' (first | with_reducible apply sim_retThaw (i := 3) | fail "f" | with_reducible exact simc_isiO | with_reducible apply sim_iR3 | with_reducible apply sim_gLst | with_reducible apply sim_tryR0 | with_reducible apply sim_tryR | with_reducible apply SimRow.cons | with_reducible exact SimRow.nil | with_reducible apply sim_mthS (dts := []) .nil | with_reducible apply sim_makeK (gT := fun ts us => ts ++ us) (fun _ _ _ _ _ _ _ h1 h2 => vdl_app h2 h1) | with_reducible apply sim_makeK (gT := fun ts us => ts ++ us ++ [.non]) (fun _ _ _ _ _ _ _ h1 h2 => vdl_app vdl_N (vdl_app h2 h1)) | with_reducible apply sim_make0 (dts := [.int 0, .non]) df_0N | with_reducible apply sim_fld T.c_Places T.n_Places__spans | with_reducible apply sim_setF T.c_Places T.n_Places__spans | with_reducible apply sim_forI | with_reducible apply sim_pop | with_reducible apply sim_tru | with_reducible apply sim_prop | with_reducible apply sim_make (dts := []) .nil | with_reducible apply sim_make0 (dts := []) .nil | with_reducible apply sim_meth0 (dts := []) .nil | with_reducible apply sim_meth (dts := []) .nil | with_reducible apply sim_retThaw (i := 3) | fail "s")
  case go =>
    intro ts Ω PQ PX hl h
    obtain ⟨n, m, rfl, n0, n1, m0, m1, q⟩ := h
    simp! only [N_law_spans]
    refine .inr fun c hc => ?_
    refine for_R1 (n := n) (Ω1 := put Ω c (.lst [])) (fun P p => ?_) (by omega) (fun i ρ' Ω' => ∃ rs : List Spn, Ω' = put Ω c (.lst (rs.map spT)) ∧ MostS m rs ∧ rs.length = i ∧ ∃ x4 x5 x6 x7 x8, ρ' = [some .drw, some (.int n), some (.int m), some (.obj c), x4, x5, x6, x7, x8]) ⟨[], rfl, fun r hr => (List.not_mem_nil hr).elim, rfl, _, _, _, _, _, rfl⟩ ?_ ?_
    · simp! only [and_true]
      exact p
    · rintro i ρ' Ω' hi ⟨rs, rfl, hm, hl, x4, x5, x6, x7, x8, rfl⟩
      have fin : ∀ r : Spn, 0 ≤ r.1 → 1 ≤ r.2 → r.1 + r.2 ≤ m → (asL (.obj c) (put Ω c (.lst (rs.map spT)))).isSome = true ∧ ∃ x, put Ω c (.lst (rs.map spT)) c = some (.lst x) ∧ x.length ≤ 999999 ∧ ∃ rs', put (put Ω c (.lst (rs.map spT))) c (.lst (x ++ [.tup [.int r.1, .int r.2]])) = put Ω c (.lst (rs'.map spT)) ∧ MostS m rs' ∧ rs'.length = i + 1 := fun r r0 r1 r2 => by
        refine ⟨by rw [asL_put]; rfl, _, put_same, by rw [List.length_map]; omega, rs ++ [r], by rw [put_put, List.map_append]; rfl, fun s hs => ?_, by rw [List.length_append, hl]; rfl⟩
        rcases List.mem_append.mp hs with hs | hs
        · exact hm s hs
        · rw [List.mem_singleton.mp hs]
          exact ⟨r0, r1, r2⟩
      simp! only [and_true]
      refine tk_call (by decide) fun k k0 k1 => sp_call ⟨m0, m1⟩ fun r r0 r1 r2 => ?_
      have fr := fin r r0 r1 r2
      simp! only [spT]
      simp only [put_same, asL_put, Option.isSome_some, Option.some.injEq, Cell.lst.injEq, true_and, exists_eq_left', put_put] at fin fr ⊢
      refine itei (fun hi0 => itei (fun hk => am_call (us := rs.map spT) (asS_obj put_same) (fun z => ?_) fun x hx => ?_) fun hk => fr) fun hi0 => fr
      · have e : rs = [] := List.map_eq_nil_iff.mp z
        have : i = 0 := by rw [← hl, e]; rfl
        omega
      · obtain ⟨s, hs, rfl⟩ := List.mem_map.mp hx
        have hs' := hm s hs
        simp! only [spT]
        by_cases e1 : k = 1
        · subst e1
          rw [if_pos rfl]
          refine itei (fun hlt => bt_call (tk_big (by omega) (by omega)) fun v v0 v1 => ?_) fun hge => ?_
          · simp! only [and_true]
            try simp only [put_same, asL_put, Option.isSome_some, Option.some.injEq, Cell.lst.injEq, true_and, exists_eq_left', put_put]
            exact fin (s.1 + s.2, v) (by show 0 ≤ s.1 + s.2; omega) v0 (by show s.1 + s.2 + v ≤ m; omega)
          · simp! only [and_true]
            exact fin s hs'.1 hs'.2.1 hs'.2.2
        · rw [if_neg e1]
          refine itei (fun e2 => bt_call (tk_big (by omega) (by omega)) fun v v0 v1 => ?_) fun _ => fin s hs'.1 hs'.2.1 hs'.2.2
          simp! only [and_true]
          refine bt_call (tk_big (by omega) (by omega)) fun u u0 u1 => ?_
          try simp only [put_same, asL_put, Option.isSome_some, Option.some.injEq, Cell.lst.injEq, true_and, exists_eq_left', put_put]
          exact fin (s.1 + v, u) (by show 0 ≤ s.1 + v; omega) u0 (by show s.1 + v + u ≤ m; omega)
    · rintro ρ' Ω' ⟨rs, rfl, hm, hl, x4, x5, x6, x7, x8, rfl⟩
      exact ret_new rfl hc (q rs hm (by omega))
end
section
open PySem PySem.Spec PyProof.Rows L2 LL LT
variable {P : Program} {w : World} {K : PySem.W.Frag} {mg : Str → Option Value} {base : Heap}

/-! ### all starts -/
theorem up_le {n a v : Int} (h : 1 ≤ a) (hv : n ≤ v) (hd : a ∣ v) : upI n a ≤ v := by
  obtain ⟨k, rfl⟩ := hd
  unfold upI
  have h1 := Int.emod_add_mul_ediv (-n) a
  have h3 := Int.emod_lt_of_pos (-n) (show 0 < a by omega)
  have e : n + -n % a = a * (-(-n / a)) := by rw [Int.mul_neg]; omega
  rw [e]
  by_cases hk : -(-n / a) ≤ k
  · exact Int.mul_le_mul_of_nonneg_left hk (by omega)
  · have := Int.mul_le_mul_of_nonneg_left (show k + 1 ≤ -(-n / a) by omega) (show 0 ≤ a by omega)
    rw [Int.mul_add, Int.mul_one] at this
    omega
theorem up_ge {n a : Int} (h : 1 ≤ a) : n ≤ upI n a := by
  unfold upI
  have := Int.emod_nonneg (-n) (show a ≠ 0 by omega)
  omega
theorem up_dvd {n a : Int} : a ∣ upI n a := by
  unfold upI
  have h1 := Int.emod_add_mul_ediv (-n) a
  refine ⟨-(-n / a), ?_⟩
  rw [Int.mul_neg]
  omega
theorem start_some {r : Spn} {n a s : Int} (h : startI r n a = some s) : s = upI r.1 a ∧ upI r.1 a + n ≤ r.1 + r.2 := by
  unfold startI at h
  split at h
  · cases h
  · cases h
    exact ⟨rfl, by omega⟩
theorem start_of {r : Spn} {n a : Int} (h : upI r.1 a + n ≤ r.1 + r.2) : startI r n a = some (upI r.1 a) := by
  unfold startI
  rw [if_neg (by omega)]
theorem run_of {ms : List Spn} (hn : NormS ms) {v n : Int} (h1 : 1 ≤ n) (h : ∀ p, v ≤ p → p < v + n → CovS ms p) : ∃ r ∈ ms, r.1 ≤ v ∧ v + n ≤ r.1 + r.2 := by
  obtain ⟨r, hr, c1, c2⟩ := h v (by omega) (by omega)
  refine ⟨r, hr, c1, ?_⟩
  by_cases hle : v + n ≤ r.1 + r.2
  · exact hle
  · exfalso
    obtain ⟨q, hq, d1, d2⟩ := h (r.1 + r.2) (by omega) (by omega)
    obtain ⟨i, hi⟩ := List.mem_iff_getElem?.mp hr
    obtain ⟨j, hj⟩ := List.mem_iff_getElem?.mp hq
    rcases Nat.lt_trichotomy i j with h | h | h
    · have := norm_at hn h hi hj
      omega
    · subst h
      rw [hi] at hj
      cases hj
      omega
    · have := norm_at hn h hj hi
      have := (hn.p r hr)
      omega
theorem run_one {ms : List Spn} (hn : NormS ms) {r q : Spn} (hr : r ∈ ms) (hq : q ∈ ms) {v : Int} (h1 : r.1 ≤ v ∧ v < r.1 + r.2) (h2 : q.1 ≤ v ∧ v < q.1 + q.2) : r = q := by
  obtain ⟨i, hi⟩ := List.mem_iff_getElem?.mp hr
  obtain ⟨j, hj⟩ := List.mem_iff_getElem?.mp hq
  rcases Nat.lt_trichotomy i j with h | h | h
  · have := norm_at hn h hi hj
    omega
  · subst h
    rw [hi] at hj
    exact Option.some.inj hj
  · have := norm_at hn h hj hi
    omega
/-- L: all aligned starts -/
noncomputable def AllS (ms : List Spn) (n a : Int) (L : List Int) : Prop := ∀ v, v ∈ L ↔ a ∣ v ∧ ∃ r ∈ ms, r.1 ≤ v ∧ v + n ≤ r.1 + r.2
theorem all_start {ms : List Spn} {n a : Int} {L : List Int} (A : AllS ms n a L) (ha : 1 ≤ a) {r : Spn} (hr : r ∈ ms) {s : Int} (h : startI r n a = some s) : s ∈ L := by
  obtain ⟨rfl, h2⟩ := start_some h
  exact (A _).mpr ⟨up_dvd, r, hr, up_ge ha, h2⟩
theorem all_run {ms : List Spn} {n a : Int} {L : List Int} (A : AllS ms n a L) (ha : 1 ≤ a) {v : Int} (hv : v ∈ L) : ∃ r ∈ ms, r.1 ≤ v ∧ v + n ≤ r.1 + r.2 ∧ startI r n a = some (upI r.1 a) ∧ upI r.1 a ≤ v := by
  obtain ⟨hd, r, hr, h1, h2⟩ := (A v).mp hv
  have h3 := up_le ha h1 hd
  exact ⟨r, hr, h1, h2, start_of (by omega), h3⟩
theorem first_none {n a : Int} : ∀ ms : List Spn, (∀ r ∈ ms, startI r n a = none) → firstI n a ms = none
  | [], _ => rfl
  | m :: ms, h => by
    rw [show firstI n a (m :: ms) = match startI m n a with | some s => some s | none => firstI n a ms from rfl, h m List.mem_cons_self]
    exact first_none ms fun r hr => h r (List.mem_cons_of_mem _ hr)
theorem best_none {n a : Int} : ∀ (ms : List Spn) (w : Option Int × Int), (∀ r ∈ ms, startI r n a = none) → ms.foldl (bestStep n a) w = w
  | [], _, _ => rfl
  | m :: ms, w, h => by
    rw [List.foldl_cons]
    have e : bestStep n a w m = w := by
      unfold bestStep
      rw [h m List.mem_cons_self]
    rw [e]
    exact best_none ms w fun r hr => h r (List.mem_cons_of_mem _ hr)
theorem norm_tail {m : Spn} {ms : List Spn} (n : NormS (m :: ms)) : NormS ms := ⟨fun r hr => n.p r (List.mem_cons_of_mem _ hr), (List.pairwise_cons.mp n.s).2⟩
theorem first_min {n a m : Int} (hn1 : 1 ≤ n) (ha : 1 ≤ a) : ∀ ms : List Spn, NormS ms → (∀ r ∈ ms, ∀ s, startI r n a = some s → m ≤ s) → (∃ r ∈ ms, startI r n a = some m) → firstI n a ms = some m
  | [], _, _, ⟨r, hr, _⟩ => (List.not_mem_nil hr).elim
  | h :: ms, hn, h1, ⟨r, hr, hs⟩ => by
    rw [show firstI n a (h :: ms) = match startI h n a with | some s => some s | none => firstI n a ms from rfl]
    rcases List.mem_cons.mp hr with rfl | hr
    · rw [hs]
    · cases e : startI h n a with
      | none => exact first_min hn1 ha ms (norm_tail hn) (fun r hr => h1 r (List.mem_cons_of_mem _ hr)) ⟨r, hr, hs⟩
      | some s =>
        have h2 := h1 h List.mem_cons_self s e
        obtain ⟨rfl, e1⟩ := start_some e
        obtain ⟨rfl, e2⟩ := start_some hs
        obtain ⟨j, hj⟩ := List.mem_iff_getElem?.mp hr
        have := norm_at hn (i := 0) (j := j + 1) (by omega) rfl (by rw [List.getElem?_cons_succ]; exact hj)
        have := up_ge (n := r.1) ha
        omega
theorem best_keep {n a v l : Int} : ∀ ms : List Spn, (∀ r ∈ ms, ∀ s, startI r n a = some s → l ≤ r.2) → (ms.foldl (bestStep n a) (some v, l)).1 = some v
  | [], _ => rfl
  | m :: ms, h => by
    rw [List.foldl_cons]
    have e : bestStep n a (some v, l) m = (some v, l) := by
      unfold bestStep
      cases e : startI m n a with
      | none => rfl
      | some s =>
        have := h m List.mem_cons_self s e
        show (if m.2 < l then (some s, m.2) else (some v, l)) = _
        rw [if_neg (by omega)]
    rw [e]
    exact best_keep ms fun r hr => h r (List.mem_cons_of_mem _ hr)
theorem best_min {n a v : Int} (hn1 : 1 ≤ n) (ha : 1 ≤ a) {r : Spn} (hs : startI r n a = some v) : ∀ (ms : List Spn) (o : Option Int) (l : Int), NormS ms → r.2 < l → r ∈ ms → (∀ q ∈ ms, ∀ s, startI q n a = some s → r.2 < q.2 ∨ (r.2 = q.2 ∧ v ≤ s)) → (ms.foldl (bestStep n a) (o, l)).1 = some v
  | [], _, _, _, _, hr, _ => (List.not_mem_nil hr).elim
  | h :: ms, o, l, hn, hl, hr, h1 => by
    rw [List.foldl_cons]
    have rest := fun q (hq : q ∈ ms) => h1 q (List.mem_cons_of_mem _ hq)
    rcases List.mem_cons.mp hr with rfl | hr
    · have e : bestStep n a (o, l) r = (some v, r.2) := by
        unfold bestStep
        rw [hs]
        show (if r.2 < l then (some v, r.2) else (o, l)) = _
        rw [if_pos hl]
      rw [e]
      exact best_keep ms fun q hq s e => by
        have := rest q hq s e
        omega
    · cases e : startI h n a with
      | none =>
        have e2 : bestStep n a (o, l) h = (o, l) := by
          unfold bestStep
          rw [e]
        rw [e2]
        exact best_min hn1 ha hs ms o l (norm_tail hn) hl hr rest
      | some s =>
        have h2 := h1 h List.mem_cons_self s e
        have e2 : bestStep n a (o, l) h = if h.2 < l then (some s, h.2) else (o, l) := by
          unfold bestStep
          rw [e]
        have h3 : r.2 < h.2 := by
          rcases h2 with h2 | ⟨_, h2⟩
          · exact h2
          · exfalso
            obtain ⟨rfl, e1⟩ := start_some e
            obtain ⟨rfl, e3⟩ := start_some hs
            obtain ⟨j, hj⟩ := List.mem_iff_getElem?.mp hr
            have := norm_at hn (i := 0) (j := j + 1) (by omega) rfl (by rw [List.getElem?_cons_succ]; exact hj)
            have := up_ge (n := r.1) ha
            omega
        rw [e2]
        by_cases hc : h.2 < l
        · rw [if_pos hc]
          exact best_min hn1 ha hs ms _ _ (norm_tail hn) h3 hr rest
        · rw [if_neg hc]
          exact best_min hn1 ha hs ms _ _ (norm_tail hn) hl hr rest
theorem walk_none {ms : List Spn} {n a : Int} {L : List Int} (A : AllS ms n a L) (ha : 1 ≤ a) (h : L = []) (b : Bool) : (if b then bestI n a ms else firstI n a ms) = none := by
  have hno : ∀ r ∈ ms, startI r n a = none := fun r hr => by
    cases e : startI r n a with
    | none => rfl
    | some s =>
      have := all_start A ha hr e
      rw [h] at this
      cases this
  cases b with
  | true =>
    show bestI n a ms = none
    unfold bestI
    rw [best_none ms _ hno]
  | false => exact first_none ms hno
theorem walk_first {ms : List Spn} {n a m : Int} {L : List Int} (hn : NormS ms) (A : AllS ms n a L) (hn1 : 1 ≤ n) (ha : 1 ≤ a) (hm : m ∈ L) (h : ∀ y ∈ L, m ≤ y) : firstI n a ms = some m := by
  refine first_min hn1 ha ms hn (fun r hr s e => h s (all_start A ha hr e)) ?_
  obtain ⟨r, hr, h1, h2, h3, h4⟩ := all_run A ha hm
  have := h _ (all_start A ha hr h3)
  rw [show upI r.1 a = m by omega] at h3
  exact ⟨r, hr, h3⟩
theorem walk_best {ms : List Spn} {n a : Int} {L : List Int} {R : List Pr2} {q : Pr2} (hn : NormS ms) (hg : GoodS ms) (A : AllS ms n a L) (hn1 : 1 ≤ n) (ha : 1 ≤ a) (hR : ∀ q : Pr2, q ∈ R ↔ ∃ r ∈ ms, q.1 = r.2 ∧ q.2 ∈ L ∧ r.1 ≤ q.2 ∧ q.2 < r.1 + r.2) (hq : q ∈ R) (h : ∀ s ∈ R, ¬ LT.ltP s q) : bestI n a ms = some q.2 := by
  obtain ⟨r, hr, e1, e2, e3, e4⟩ := (hR q).mp hq
  obtain ⟨r', hr', h1, h2, h3, h4⟩ := all_run A ha e2
  obtain rfl := run_one hn hr hr' ⟨e3, e4⟩ ⟨h1, by omega⟩
  have mem : ∀ p ∈ ms, ∀ s, startI p n a = some s → (p.2, s) ∈ R := fun p hp s e => (hR _).mpr ⟨p, hp, rfl, all_start A ha hp e, by
    obtain ⟨rfl, e5⟩ := start_some e
    have := up_ge (n := p.1) ha
    exact ⟨this, by show upI p.1 a < _; omega⟩⟩
  have h5 := h _ (mem r hr _ h3)
  unfold LT.ltP at h5
  simp only at h5
  have e5 : upI r.1 a = q.2 := by omega
  rw [e5] at h3
  have hgr := hg r hr
  refine best_min hn1 ha h3 ms none 1000000001 hn (by omega) hr fun p hp s e => ?_
  have h6 := h _ (mem p hp s e)
  unfold LT.ltP at h6
  simp only at h6
  omega
end
section
open PySem PySem.Spec PyProof.Rows L2 LL LT
variable {P : Program} {w : World} {K : PySem.W.Frag} {mg : Str → Option Value} {base : Heap}

/-! ### the due starts -/
theorem up_eq {n a : Int} (h : 1 ≤ a) : (n + a - 1) / a * a = upI n a := by
  unfold upI
  have h1 := Int.emod_add_mul_ediv (-n) a
  have h2 := Int.emod_nonneg (-n) (show a ≠ 0 by omega)
  have h3 := Int.emod_lt_of_pos (-n) (show 0 < a by omega)
  have e : n + a - 1 = (a - 1 - (-n) % a) + a * (-((-n) / a)) := by
    rw [Int.mul_neg]
    omega
  rw [e, Int.add_mul_ediv_left _ _ (show a ≠ 0 by omega), Int.ediv_eq_zero_of_lt (by omega) (by omega), Int.zero_add, Int.neg_mul, Int.mul_comm]
  omega
noncomputable def wp_lup : Pw := fun ts Ω PQ _ => ∃ n a : Int, ts = [.int n, .int a] ∧ 0 ≤ n ∧ n ≤ 1000000000 ∧ 1 ≤ a ∧ a ≤ 1073741824 ∧ PQ (.int (upI n a)) Ω
noncomputable def wp_sdue : Pw := fun ts Ω PQ _ => ∃ (ms : List Spn) (n a : Int) (b : Bool), ts = [.lst (ms.map spT), .int n, .int a, .bl b] ∧ GoodS ms ∧ 1 ≤ n ∧ isP a = true ∧ a ≤ 1073741824 ∧ PQ (optT (if b then bestI n a ms else firstI n a ms)) Ω
noncomputable def wp_inside : Pw := fun ts Ω PQ _ => ∃ (c : Addr) (cs : List Int) (s n : Int), ts = [.obj c, .int s, .int n] ∧ Ω c = some (dcK cs) ∧ 0 ≤ s ∧ s ≤ 1000000 ∧ 0 ≤ n ∧ n ≤ 1000 ∧ ∀ b : Bool, (b = true ↔ ∀ p, s ≤ p → p < s + n → p ∈ cs) → PQ (.bl b) Ω
noncomputable def sdStep (b : Bool) (n a : Int) (w : Option Int × Int) (r : Spn) : Option Int × Int := match startI r n a with
  | some s => if w.1 = none ∨ (b = true ∧ r.2 < w.2) then (some s, r.2) else w
  | none => w
theorem valT_K {k : Int} : ∀ cs : List Int, (valT (cs.map Sum.inl) (cs.map fun _ => Tr.bl true) (Sum.inl k)).isSome = decide (k ∈ cs)
  | [] => rfl
  | c :: cs => by
    rw [List.map_cons, List.map_cons, valT_cons]
    by_cases e : c = k
    · subst e
      simp
    · rw [if_neg (fun z => e (Sum.inl.inj z)), valT_K cs]
      have e2 : k ≠ c := fun z => e z.symm
      simp [e2]
theorem sd_first {n a : Int} : ∀ (ms : List Spn) (w : Option Int × Int), (ms.foldl (sdStep false n a) w).1 = match w.1 with | some s => some s | none => firstI n a ms
  | [], (some s, l) => rfl
  | [], (none, l) => rfl
  | m :: ms, w => by
    rw [List.foldl_cons, sd_first ms]
    obtain ⟨o, l⟩ := w
    unfold sdStep
    cases o with
    | some s => cases startI m n a <;> simp
    | none =>
      rw [show firstI n a (m :: ms) = match startI m n a with | some s => some s | none => firstI n a ms from rfl]
      cases startI m n a <;> simp
theorem sd_best {n a : Int} : ∀ (ms : List Spn) (w w' : Option Int × Int), (∀ r ∈ ms, r.2 ≤ 1000000000) → w.1 = w'.1 → (w.1 ≠ none → w.2 = w'.2) → (w.1 = none → w'.2 = 1000000001) → (ms.foldl (sdStep true n a) w).1 = (ms.foldl (bestStep n a) w').1
  | [], w, w', _, h1, _, _ => h1
  | m :: ms, (o, l), (o', l'), hg, h1, h2, h3 => by
    obtain rfl : o = o' := h1
    rw [List.foldl_cons, List.foldl_cons]
    have hm := hg m List.mem_cons_self
    refine sd_best ms _ _ (fun r hr => hg r (List.mem_cons_of_mem _ hr)) ?_ ?_ ?_
    all_goals
      unfold sdStep bestStep
      cases e : startI m n a with
      | none => first | exact rfl | exact h2 | exact h3
      | some s =>
        cases o with
        | none =>
          have := h3 rfl
          simp only at this
          subst this
          simp [show m.2 < 1000000001 by omega]
        | some s' =>
          have := h2 (by simp)
          simp only at this
          subst this
          by_cases hlt : m.2 < l <;> simp [hlt]
theorem sd_due {n a : Int} {ms : List Spn} (hg : GoodS ms) (b : Bool) : (ms.foldl (sdStep b n a) (none, 0)).1 = if b then bestI n a ms else firstI n a ms := by
  cases b with
  | false => rw [sd_first]; rfl
  | true => exact sd_best ms _ _ (fun r hr => by have := hg r hr; omega) rfl (fun z => (z rfl).elim) (fun _ => rfl)
theorem ok_law_up (T : Tx K mg) : FnOk P w K mg base CX0 1 (He.ga K "_law_up") T.fd_law_up P_law_up (spD K wp_lup 2) := by
  refine dok T.F_law_up sc_law_up fun cdv A outer s H E hr => ?_
  refine' dokMk (PSs.nox (pss_one (ps_ret (pe_op op_mul (pe_op op_fdivW (pe_op op_sub (pe_op (show OpR _ _ (LT.rAddG K) from LT.op_addG) (pv 0) (pv 1)) (pe_int)) (pv 1)) (pv 1))))) ?sim ?go
  case sim =>
    try simp only [LL.cxK0, LL.cxK1, List.map_cons, List.map_nil]
    repeat' (first | fail "f" | with_reducible exact simc_isiO | with_reducible apply sim_iR3 | with_reducible apply sim_gLst | with_reducible apply sim_tryR0 | with_reducible apply sim_tryR | with_reducible apply SimRow.cons | with_reducible exact SimRow.nil | with_reducible apply sim_mthS (dts := []) .nil | with_reducible apply sim_makeK (gT := fun ts us => ts ++ us) (fun _ _ _ _ _ _ _ h1 h2 => vdl_app h2 h1) | with_reducible apply sim_makeK (gT := fun ts us => ts ++ us ++ [.non]) (fun _ _ _ _ _ _ _ h1 h2 => vdl_app vdl_N (vdl_app h2 h1)) | with_reducible apply sim_make0 (dts := [.int 0, .non]) df_0N | with_reducible apply sim_fld T.c_Places T.n_Places__spans | with_reducible apply sim_setF T.c_Places T.n_Places__spans | with_reducible apply sim_forI | with_reducible apply sim_pop | with_reducible apply sim_tru | with_reducible apply sim_prop | with_reducible apply sim_make (dts := []) .nil | with_reducible apply sim_make0 (dts := []) .nil | with_reducible apply sim_meth0 (dts := []) .nil | with_reducible apply sim_meth (dts := []) .nil | fail "s")
  case go =>
    intro ts Ω PQ PX hl h
    obtain ⟨n, a, rfl, n0, n1, a0, a1, q⟩ := h
    simp! only [N_law_up]
    have e := up_eq (n := n) a0
    rw [e]
    have hl : a.natAbs.log2 < 9000 := by
      have h1 : a.natAbs < 2 ^ 31 := Nat.lt_of_le_of_lt (show a.natAbs ≤ 1073741824 by omega) (by decide)
      have := PySem.Flt.log2_lt_of (by decide) h1
      omega
    refine ⟨⟨by omega, hl⟩, ?_, q⟩
    unfold CMul
    omega
theorem ok_law_start_due (T : Tx K mg) : FnOk P w K mg base CX0 2 (He.ga K "_law_start_due") T.fd_law_start_due P_law_start_due (spD K wp_sdue 4) := by
  refine dok T.F_law_start_due sc_law_start_due fun cdv A outer s H E hr => ?_
  refine' dokMk (PSs.nox (pss_cons (ps_set (i := 4) sc_law_start_due.nd rfl (Or.inl rfl) (pe_non)) (pss_cons (ps_set (i := 5) sc_law_start_due.nd rfl (Or.inl rfl) (pe_int)) (pss_cons (ps_for PassesOwn.never rfl (LT.pi_seqK (K := K) rfl (pv 0)) (LT.pg_tupK (K := K) (n := 2) rfl rfl (pgs_cons (pg_name (i := 6) sc_law_start_due.nd rfl (Or.inl rfl)) (pgs_cons (pg_name (i := 7) sc_law_start_due.nd rfl (Or.inl rfl)) pgs_nil))) (pss_cons (ps_set (i := 8) sc_law_start_due.nd rfl (Or.inl rfl) (pe_call (ok_law_up T) hr rfl T.g_law_up T.F_law_up.kp (b_law_up T) .nil pass0 (pa_cons (pv 6) (pa_cons (pv 2) pa_nil)))) (pss_one (ps_if (PW.pt (pw_and (pt_cmpR op_le (pe_op (show OpR _ _ (LT.rAddG K) from LT.op_addG) (pv 8) (pv 1)) (pe_op (show OpR _ _ (LT.rAddG K) from LT.op_addG) (pv 6) (pv 7)) (nomark _)) (pw_and1 (PW.pt (pw_or (pt_cmpR op_isN1 (pv 4) (pe_non) (nomark _)) (pw_or1 (PW.pt (pw_and (pt_val (pv 3)) (pw_and1 (pt_cmpR op_lt (pv 7) (pv 5) (nomark _))))))))))) (pss_cons (ps_set (i := 4) sc_law_start_due.nd rfl (Or.inl rfl) (pv 8)) (pss_one (ps_set (i := 5) sc_law_start_due.nd rfl (Or.inl rfl) (pv 7)))) pss_nil)))) (pss_one (ps_ret (pv 4))))))) ?sim ?go
  case sim =>
    try simp only [LL.cxK0, LL.cxK1, List.map_cons, List.map_nil]
    repeat' (first | fail "f" | with_reducible exact simc_isiO | with_reducible apply sim_iR3 | with_reducible apply sim_gLst | with_reducible apply sim_tryR0 | with_reducible apply sim_tryR | with_reducible apply SimRow.cons | with_reducible exact SimRow.nil | with_reducible apply sim_mthS (dts := []) .nil | with_reducible apply sim_makeK (gT := fun ts us => ts ++ us) (fun _ _ _ _ _ _ _ h1 h2 => vdl_app h2 h1) | with_reducible apply sim_makeK (gT := fun ts us => ts ++ us ++ [.non]) (fun _ _ _ _ _ _ _ h1 h2 => vdl_app vdl_N (vdl_app h2 h1)) | with_reducible apply sim_make0 (dts := [.int 0, .non]) df_0N | with_reducible apply sim_fld T.c_Places T.n_Places__spans | with_reducible apply sim_setF T.c_Places T.n_Places__spans | with_reducible apply sim_forI | with_reducible apply sim_pop | with_reducible apply sim_tru | with_reducible apply sim_prop | with_reducible apply sim_make (dts := []) .nil | with_reducible apply sim_make0 (dts := []) .nil | with_reducible apply sim_meth0 (dts := []) .nil | with_reducible apply sim_meth (dts := []) .nil | fail "s")
  case go =>
    intro ts Ω PQ PX hl h
    obtain ⟨ms, n, a, b, rfl, hg, n0, ha, ha2, q⟩ := h
    simp! only [N_law_start_due]
    have ha1 := isP_pos ha
    refine for_Se (t := .lst (ms.map spT)) (ts := ms.map spT) (Ω1 := Ω) (fun P p => ?_) rfl (fun i ρ' Ω' => Ω' = Ω ∧ ∃ (wv : Option Int × Int) (x6 x7 x8 : Option Tr), wv = (ms.take i).foldl (sdStep b n a) (none, 0) ∧ ρ' = [some (.lst (ms.map spT)), some (.int n), some (.int a), some (.bl b), some (optT wv.1), some (.int wv.2), x6, x7, x8]) ⟨rfl, _, _, _, _, rfl, rfl⟩ (fun _ _ _ w => trivial) ?_ ?_
    · simp! only [and_true]
      exact p
    · rintro hz i y ρ' Ω' hx ⟨rfl, wv, x6, x7, x8, hw, rfl⟩
      rw [List.getElem?_map] at hx
      obtain ⟨r, hr, rfl⟩ := Option.map_eq_some_iff.mp hx
      have hgr := hg r (List.mem_of_getElem? hr)
      have nx : (ms.take (i + 1)).foldl (sdStep b n a) (none, 0) = sdStep b n a wv r := by rw [take_one hr, List.foldl_append, ← hw]; rfl
      obtain ⟨o, l⟩ := wv
      have st : sdStep b n a (o, l) r = match startI r n a with | some s => if o = none ∨ (b = true ∧ r.2 < l) then (some s, r.2) else (o, l) | none => (o, l) := rfl
      unfold startI at st
      simp! only [spT]
      refine ⟨r.1, a, rfl, hgr.1, by omega, ha1, ha2, ?_⟩
      simp! only [and_true]
      have e0 : isNonT (optT o) = decide (o = none) := by cases o <;> rfl
      rw [nx, e0]
      refine itei (fun h => ?_) fun h => ?_
      · rw [if_neg (show ¬ r.1 + r.2 < upI r.1 a + n by omega)] at st
        have st2 : sdStep b n a (o, l) r = if o = none ∨ (b = true ∧ r.2 < l) then (some (upI r.1 a), r.2) else (o, l) := st
        by_cases ho : o = none
        · rw [if_pos (decide_eq_true ho), st2, if_pos (.inl ho)]
          exact ⟨rfl, rfl⟩
        · rw [if_neg (by simp [ho])]
          cases b with
          | true =>
            rw [if_pos rfl]
            refine itei (fun h2 => ?_) fun h2 => ?_
            · rw [st2, if_pos (.inr ⟨rfl, h2⟩)]
              exact ⟨rfl, rfl⟩
            · rw [st2, if_neg (by simp [ho, h2])]
              exact ⟨rfl, rfl⟩
          | false =>
            rw [if_neg (by decide), st2, if_neg (by simp [ho])]
            exact ⟨rfl, rfl⟩
      · rw [if_pos (show r.1 + r.2 < upI r.1 a + n by omega)] at st
        have st2 : sdStep b n a (o, l) r = (o, l) := st
        rw [st2]
        exact ⟨rfl, rfl⟩
    · rintro ρ' Ω' ⟨rfl, wv, x6, x7, x8, hw, rfl⟩
      rw [List.length_map, List.take_length] at hw
      rw [← sd_due hg b, ← hw] at q
      simp! only [and_true]
      exact q
theorem ok_law_all_inside (T : Tx K mg) : FnOk P w K mg base CX0 1 (He.ga K "_law_all_inside") T.fd_law_all_inside P_law_all_inside (spD K wp_inside 3) := by
  refine dok T.F_law_all_inside sc_law_all_inside fun cdv A outer s H E hr => ?_
  refine' dokMk (PSs.nox (pss_cons (ps_for PassesOwn.never rfl (pi_range2 rfl T.z_range (pa_cons (pv 1) (pa_cons (pe_op (show OpR _ _ (LT.rAddG K) from LT.op_addG) (pv 1) (pv 2)) pa_nil))) (pg_name (i := 3) sc_law_all_inside.nd rfl (Or.inl rfl)) (pss_one (ps_if (pt_cmp (pc_dnotin (hu_of hr) (pv 3) (pv 0))) (pss_one (ps_ret (pe_bl))) pss_nil))) (pss_one (ps_ret (pe_bl))))) ?sim ?go
  case sim =>
    try simp only [LL.cxK0, LL.cxK1, List.map_cons, List.map_nil]
    repeat' (first | fail "f" | with_reducible exact simc_isiO | with_reducible apply sim_iR3 | with_reducible apply sim_gLst | with_reducible apply sim_tryR0 | with_reducible apply sim_tryR | with_reducible apply SimRow.cons | with_reducible exact SimRow.nil | with_reducible apply sim_mthS (dts := []) .nil | with_reducible apply sim_makeK (gT := fun ts us => ts ++ us) (fun _ _ _ _ _ _ _ h1 h2 => vdl_app h2 h1) | with_reducible apply sim_makeK (gT := fun ts us => ts ++ us ++ [.non]) (fun _ _ _ _ _ _ _ h1 h2 => vdl_app vdl_N (vdl_app h2 h1)) | with_reducible apply sim_make0 (dts := [.int 0, .non]) df_0N | with_reducible apply sim_fld T.c_Places T.n_Places__spans | with_reducible apply sim_setF T.c_Places T.n_Places__spans | with_reducible apply sim_forI | with_reducible apply sim_pop | with_reducible apply sim_tru | with_reducible apply sim_prop | with_reducible apply sim_make (dts := []) .nil | with_reducible apply sim_make0 (dts := []) .nil | with_reducible apply sim_meth0 (dts := []) .nil | with_reducible apply sim_meth (dts := []) .nil | fail "s")
  case go =>
    intro ts Ω PQ PX hl h
    obtain ⟨c, cs, s, n, rfl, hc, s0, s1, hn0, hn, q⟩ := h
    simp! only [N_law_all_inside]
    have eD : asD (.obj c) Ω = some (cs.map Sum.inl, cs.map fun _ => Tr.bl true) := asD_obj hc
    refine for_R2 (a := s) (b := s + n) (Ω1 := Ω) (fun P p => ?_) (by omega) (fun i ρ' Ω' => Ω' = Ω ∧ (∀ p, s ≤ p → p < s + i → p ∈ cs) ∧ ∃ x3, ρ' = [some (.obj c), some (.int s), some (.int n), x3]) ⟨rfl, fun p h1 h2 => by omega, _, rfl⟩ ?_ ?_
    · simp! only [and_true]
      exact p
    · rintro i ρ' Ω' hi ⟨rfl, hall, x3, rfl⟩
      simp! only [eD]
      rw [valT_K]
      by_cases hm : s + (i : Int) ∈ cs
      · rw [if_neg (by simp [hm])]
        intro p h1 h2
        by_cases e : p = s + i
        · exact e ▸ hm
        · exact hall p h1 (by omega)
      · rw [if_pos (by simp [hm])]
        exact q false ⟨nofun, fun h => (hm (h _ (by omega) (by omega))).elim⟩
    · rintro ρ' Ω' ⟨rfl, hall, x3, rfl⟩
      simp! only [and_true]
      exact q true ⟨fun _ p h1 h2 => hall p h1 (by omega), fun _ => rfl⟩
end
section
open PySem PySem.Spec PyProof.Rows L2 LL LT
variable {P : Program} {w : World} {K : PySem.W.Frag} {mg : Str → Option Value} {base : Heap}

/-! ### walked, due -/
noncomputable def DueA (rs ms : List Spn) (n a : Int) : Prop := GoodS rs ∧ rs.length ≤ 1000 ∧ NormS ms ∧ ms.length ≤ 2000 ∧ (∀ x, CovS ms x ↔ CovS rs x) ∧ 1 ≤ n ∧ n ≤ 1000000000 ∧ isP a = true ∧ a ≤ 1073741824
noncomputable def wp_walked : Pw := fun ts Ω PQ _ => ∃ (rs ms : List Spn) (n a : Int) (b : Bool), ts = [.lst (rs.map spT), .int n, .int a, .bl b] ∧ DueA rs ms n a ∧ (∀ r ∈ rs, r.1 + r.2 ≤ 60) ∧ PQ (optT (if b then bestI n a ms else firstI n a ms)) Ω
noncomputable def wp_ddue : Pw := fun ts Ω PQ _ => ∃ (rs ms : List Spn) (n a : Int) (b : Bool), ts = [.lst (rs.map spT), .int n, .int a, .bl b] ∧ DueA rs ms n a ∧ PQ (optT (if b then bestI n a ms else firstI n a ms)) Ω
theorem goodN {rs : List Spn} (n : NormS rs) (h : ∀ x, CovS rs x → 0 ≤ x ∧ x < 1000000000) : GoodS rs := fun r hr => by
  have h1 := n.p r hr
  have h2 := h r.1 ⟨r, hr, Int.le_refl _, by omega⟩
  have h3 := h (r.1 + r.2 - 1) ⟨r, hr, by omega, by omega⟩
  omega
theorem covN {rs : List Spn} (g : GoodS rs) {x : Int} (h : CovS rs x) : 0 ≤ x ∧ x < 1000000000 := by
  obtain ⟨r, hr, h1, h2⟩ := h
  have := g r hr
  omega
/-- the places from v on, n of them, are all in cs -/
noncomputable def insB (cs : List Int) (n : Int) (x : Tr) : Bool := @decide (∃ v : Int, x = .int v ∧ ∀ p, v ≤ p → p < v + n → p ∈ cs) (Classical.propDecidable _)
theorem insB_iff {cs : List Int} {n v : Int} : insB cs n (.int v) = true ↔ ∀ p, v ≤ p → p < v + n → p ∈ cs := by
  unfold insB
  refine (@decide_eq_true_iff _ (Classical.propDecidable _)).trans ?_
  constructor
  · rintro ⟨u, e, h⟩
    cases e
    exact h
  · exact fun h => ⟨v, rfl, h⟩
noncomputable def stL (cs : List Int) (n a : Int) (k : Nat) : List Int := ((List.range k).map fun (i : Nat) => (0 : Int) + i * a).filter fun v => insB cs n (.int v)
theorem stL_eq {cs : List Int} {n a : Int} {k : Nat} : (rngC 0 a k).filter (insB cs n) = (stL cs n a k).map Tr.int := by
  have e : rngC 0 a k = ((List.range k).map fun (i : Nat) => (0 : Int) + i * a).map Tr.int := by
    unfold rngC
    rw [List.map_map]
    rfl
  rw [e, List.filter_map]
  rfl
theorem stL_all {cs : List Int} {ms : List Spn} {n a : Int} {k : Nat} (hm : ∀ p, p ∈ cs ↔ CovS ms p) (hn : NormS ms) (h60 : ∀ p, CovS ms p → 0 ≤ p ∧ p < 60) (hn1 : 1 ≤ n) (ha : 1 ≤ a) (hk : ∀ i : Nat, i < k ↔ (0 : Int) + i * a < 60) : AllS ms n a (stL cs (min n 61) a k) := fun v => by
  unfold stL
  rw [List.mem_filter, insB_iff]
  constructor
  · rintro ⟨h1, h2⟩
    obtain ⟨i, hi, e⟩ := List.mem_map.mp h1
    obtain ⟨r, hr, c1, c2⟩ := run_of hn (v := v) (n := min n 61) (by omega) fun p p1 p2 => (hm p).mp (h2 p p1 p2)
    have c3 := h60 v ⟨r, hr, c1, by omega⟩
    have c4 := h60 (v + min n 61 - 1) ⟨r, hr, by omega, by omega⟩
    refine ⟨⟨(i : Int), ?_⟩, r, hr, c1, by omega⟩
    rw [Int.mul_comm]
    omega
  · rintro ⟨⟨i, e⟩, r, hr, c1, c2⟩
    have c3 := h60 v ⟨r, hr, c1, by omega⟩
    have c4 := h60 (v + n - 1) ⟨r, hr, by omega, by omega⟩
    have i0 : 0 ≤ i := by
      by_cases h : 0 ≤ i
      · exact h
      · exfalso
        have := Int.mul_le_mul_of_nonneg_left (show i ≤ -1 by omega) (show 0 ≤ a by omega)
        omega
    refine ⟨List.mem_map.mpr ⟨i.toNat, ?_, ?_⟩, fun p p1 p2 => (hm p).mpr ⟨r, hr, by omega, by omega⟩⟩
    · rw [List.mem_range, hk, Int.toNat_of_nonneg i0, Int.mul_comm]
      omega
    · rw [Int.toNat_of_nonneg i0, Int.mul_comm]
      omega
theorem ok_law_walked (T : Tx K mg) : FnOk P w K mg base CX0 3 (He.ga K "_law_walked") T.fd_law_walked P_law_walked (spD K wp_walked 4) := by
  refine dok T.F_law_walked sc_law_walked fun cdv A outer s H E hr => ?_
  refine' dokMk (PSs.nox (pss_cons (ps_set (i := 4) sc_law_walked.nd rfl (Or.inr rfl) (pe_dnewK)) (pss_cons (ps_for PassesOwn.never rfl (LT.pi_seqK (K := K) rfl (pv 0)) (pg_name (i := 5) sc_law_walked.nd rfl (Or.inr rfl)) (pss_one (ps_for PassesOwn.never rfl (pi_range2 rfl T.z_range (pa_cons (pe_ix (show IxR _ (LL.rIxA K) from LL.ix_A) (pv 5) (pe_int) (fun _ _ => rfl)) (pa_cons (pe_op (show OpR _ _ (LT.rAddG K) from LT.op_addG) (pe_ix (show IxR _ (LL.rIxA K) from LL.ix_A) (pv 5) (pe_int) (fun _ _ => rfl)) (pe_ix (show IxR _ (LL.rIxA K) from LL.ix_A) (pv 5) (pe_int) (fun _ _ => rfl))) pa_nil))) (pg_name (i := 8) sc_law_walked.nd rfl (Or.inl rfl)) (pss_one (ps_dput (hu_of hr) (pv 4) (pv 8) (pe_bl) rfl))))) (pss_cons (ps_setLc (i := 6) (own := [("_law_one", 9)]) rfl sc_law_walked.nd rfl rfl (sw_true rfl rfl rfl (by decide +kernel)) (LT.pi_range3W rfl T.z_range (pa_cons (pe_int) (pa_cons (pe_int) (pa_cons (pv 2) pa_nil)))) (blkOk_by (N := N_law_walked) (sc := defScope s_law_walked) (by decide +kernel)) (fun _ _ _ _ _ => (pg_name (i := 9) sc_law_walked.nd rfl (Or.inl rfl))) (fun _ _ _ _ _ => pts_one (pt_val (pe_call (ok_law_all_inside T) (hr.mono (by decide)) rfl T.g_law_all_inside T.F_law_all_inside.kp (b_law_all_inside T) .nil pass0 (pa_cons (pv 4) (pa_cons (pv 9) (pa_cons (pe_callB (LL.call_mn rfl) (by rfl) T.z_min (by decide +kernel) (pa_cons (pv 1) (pa_cons (pe_int) pa_nil))) pa_nil)))))) (fun _ _ _ _ _ => (pv 9))) (pss_cons (ps_if (pt_cmpR op_eq (pe_callB (show CallR _ _ (LT.rLenS K) from LT.call_lenS) (by rfl) T.z_len (by decide +kernel) (pa_cons (pv 6) pa_nil)) (pe_int) (nomark _)) (pss_one (ps_ret (pe_non))) pss_nil) (pss_cons (ps_if (pt_not (pt_val (pv 3))) (pss_one (ps_ret (pe_callB (show CallR _ _ (LT.rMinS K) from LT.cr_minS rfl) (by rfl) T.z_min (by decide +kernel) (pa_cons (pv 6) pa_nil)))) pss_nil) (pss_cons (ps_set (i := 7) sc_law_walked.nd rfl (Or.inl rfl) (pe_lst pa_nil)) (pss_cons (ps_for PassesOwn.never rfl (LT.pi_seqK (K := K) rfl (pe_call (ok_law_normal_of T) hr rfl T.g_law_normal_of T.F_law_normal_of.kp (b_law_normal_of T) .nil pass0 (pa_cons (pv 0) pa_nil))) (pg_name (i := 5) sc_law_walked.nd rfl (Or.inr rfl)) (pss_one (ps_set (i := 7) sc_law_walked.nd rfl (Or.inl rfl) (pe_op (show OpR _ _ (LT.rAddG K) from LT.op_addG) (pv 7) (pe_lc (own := [("_law_one", 9)]) (by rfl) sc_law_walked.nd (LT.pi_seqK (K := K) rfl (pv 6)) (blkOk_by (N := N_law_walked) (sc := defScope s_law_walked) (by decide +kernel)) (fun _ _ _ _ _ => (pg_name (i := 9) sc_law_walked.nd rfl (Or.inl rfl))) (fun _ _ _ _ _ => pts_one (pt_chain op_le op_lt (pe_ix (show IxR _ (LL.rIxA K) from LL.ix_A) (pv 5) (pe_int) (fun _ _ => rfl)) (pv 9) (pe_op (show OpR _ _ (LT.rAddG K) from LT.op_addG) (pe_ix (show IxR _ (LL.rIxA K) from LL.ix_A) (pv 5) (pe_int) (fun _ _ => rfl)) (pe_ix (show IxR _ (LL.rIxA K) from LL.ix_A) (pv 5) (pe_int) (fun _ _ => rfl))))) (fun _ _ _ _ _ => (pe_tup (pa_cons (pe_ix (show IxR _ (LL.rIxA K) from LL.ix_A) (pv 5) (pe_int) (fun _ _ => rfl)) (pa_cons (pv 9) pa_nil))))))))) (pss_one (ps_ret (pe_ix (show IxR _ (LL.rIxA K) from LL.ix_A) (pe_callB (show CallR _ _ (LT.rMinR K) from LT.cr_minR rfl hr.units) (by rfl) T.z_min (by decide +kernel) (pa_cons (pv 7) pa_nil)) (pe_int) (fun _ _ => rfl)))))))))))) ?sim ?go
  case sim =>
    try simp only [LL.cxK0, LL.cxK1, List.map_cons, List.map_nil]
    repeat' (first | with_reducible apply sim_retF | fail "f" | with_reducible exact simc_minR | with_reducible apply LT.sim_iR3W | with_reducible exact simc_isiO | with_reducible apply sim_iR3 | with_reducible apply sim_gLst | with_reducible apply sim_tryR0 | with_reducible apply sim_tryR | with_reducible apply SimRow.cons | with_reducible exact SimRow.nil | with_reducible apply sim_mthS (dts := []) .nil | with_reducible apply sim_makeK (gT := fun ts us => ts ++ us) (fun _ _ _ _ _ _ _ h1 h2 => vdl_app h2 h1) | with_reducible apply sim_makeK (gT := fun ts us => ts ++ us ++ [.non]) (fun _ _ _ _ _ _ _ h1 h2 => vdl_app vdl_N (vdl_app h2 h1)) | with_reducible apply sim_make0 (dts := [.int 0, .non]) df_0N | with_reducible apply sim_fld T.c_Places T.n_Places__spans | with_reducible apply sim_setF T.c_Places T.n_Places__spans | with_reducible apply sim_forI | with_reducible apply sim_pop | with_reducible apply sim_tru | with_reducible apply sim_prop | with_reducible apply sim_make (dts := []) .nil | with_reducible apply sim_make0 (dts := []) .nil | with_reducible apply sim_meth0 (dts := []) .nil | with_reducible apply sim_meth (dts := []) .nil | fail "s")
  case go =>
    intro ts Ω PQ PX hl h
    obtain ⟨rs, ms, n, a, b, rfl, ⟨hg, hl, hn, hml, hc, n1, n2, hp, ha2⟩, h60, q⟩ := h
    have ha := isP_pos hp
    simp! only [N_law_walked]
    refine .inr fun c nc => ?_
    refine for_Se (t := .lst (rs.map spT)) (ts := rs.map spT) (Ω1 := put Ω c (dcK [])) (fun P p => ?_) rfl (fun i ρ' Ω' => ∃ cs : List Int, Ω' = put Ω c (dcK cs) ∧ cs.length ≤ 60 * i ∧ (∀ k, k ∈ cs ↔ CovS (rs.take i) k) ∧ ∃ x5 x8, ρ' = [some (.lst (rs.map spT)), some (.int n), some (.int a), some (.bl b), some (.obj c), x5, none, none, x8, none]) ⟨[], rfl, Nat.zero_le _, fun k => ⟨fun h => (List.not_mem_nil h).elim, fun h => (cov_nil h).elim⟩, _, _, rfl⟩ (fun _ _ _ w => trivial) ?_ ?_
    · simp! only [and_true]
      exact p
    · rintro hz i y ρ' Ω' hx ⟨cs, rfl, hcl, hm, x5, x8, rfl⟩
      rw [List.getElem?_map] at hx
      obtain ⟨r, hr, rfl⟩ := Option.map_eq_some_iff.mp hx
      have hi := (List.getElem?_eq_some_iff.mp hr).1
      have hgr := hg r (List.mem_of_getElem? hr)
      have h6 := h60 r (List.mem_of_getElem? hr)
      refine for_R2 (a := r.1) (b := r.1 + r.2) (Ω1 := put Ω c (dcK cs)) (fun P p => ?_) (by omega) (fun j ρ' Ω' => ∃ cs : List Int, Ω' = put Ω c (dcK cs) ∧ cs.length ≤ 60 * i + j ∧ (∀ k, k ∈ cs ↔ CovS (rs.take i) k ∨ (r.1 ≤ k ∧ k < r.1 + j)) ∧ ∃ x8, ρ' = [some (.lst (rs.map spT)), some (.int n), some (.int a), some (.bl b), some (.obj c), some (spT r), none, none, x8, none]) ⟨cs, rfl, hcl, fun k => by rw [hm]; exact ⟨.inl, fun z => z.elim id fun z => by omega⟩, _, rfl⟩ ?_ ?_
      · simp! only [spT]
        exact p
      · rintro j ρ' Ω' hj ⟨cs, rfl, hcl, hm, x8, rfl⟩
        have l1 := addK_len (cs := cs) (k := r.1 + j)
        simp! only [and_true]
        refine ⟨_, _, rfl, by rw [List.length_map]; omega, addK cs (r.1 + j), by rw [cell_K], by omega, fun k => ?_⟩
        rw [addK_mem, hm]
        constructor
        · rintro ((h | h) | h)
          · exact .inl h
          · exact .inr ⟨h.1, by omega⟩
          · exact .inr ⟨by omega, by omega⟩
        · rintro (h | h)
          · exact .inl (.inl h)
          · by_cases e : k = r.1 + j
            · exact .inr e
            · exact .inl (.inr ⟨h.1, by omega⟩)
      · rintro ρ' Ω' ⟨cs, rfl, hcl, hm, x8, rfl⟩
        simp! only [and_true]
        refine ⟨cs, rfl, by omega, fun k => ?_⟩
        have e : r.1 + ((r.1 + r.2 - r.1).toNat : Int) = r.1 + r.2 := by omega
        rw [hm, take_one hr, cov_app, cov_one, e]
    · rintro ρ' Ω' ⟨cs, rfl, hcl, hm, x5, x8, rfl⟩
      rw [List.length_map] at hcl hm
      rw [List.take_length] at hm
      obtain ⟨k, hk1, hk2⟩ := rgW_pos (i := 0) (j := 60) (c := a) ⟨ha, ha2⟩ (by omega) (by omega)
      have AL : AllS ms n a (stL cs (min n 61) a k) := stL_all (fun p => (hm p).trans (hc p).symm) hn (fun p h => by
        obtain ⟨r, hr, c1, c2⟩ := (hc p).mp h
        have := hg r hr
        have := h60 r hr
        omega) n1 ha hk2
      have eK : (rngC 0 a k).length = k := rngC_len
      have hk60 : k ≤ 60 := by
        by_cases h : k ≤ 60
        · exact h
        · have := (hk2 60).mp (by omega)
          omega
      simp! only [and_true]
      refine lc_I (items := rngC 0 a k) (st := fun _ => True) (fun R w => ?_) trivial id (insB cs (min n 61)) (fun x hx Q N q1 q2 => ?_) fun hz => ?_
      · simp! only [diR3W]
        exact ⟨k, hk1, w (by rw [eK]; omega)⟩
      · obtain ⟨i, hi⟩ := List.mem_iff_getElem?.mp hx
        have hik : i < k := by have := (List.getElem?_eq_some_iff.mp hi).1; omega
        rw [rngC_get hik] at hi
        cases hi
        have hv := (hk2 i).mp hik
        have hv0 : 0 ≤ (i : Int) * a := Int.mul_nonneg (by omega) (by omega)
        simp! only [wipeT]
        refine ⟨c, cs, _, _, rfl, put_same, by omega, by omega, by omega, by omega, fun b' hb => ⟨b', rfl, ?_⟩⟩
        have e : insB cs (min n 61) (.int (0 + (i : Int) * a)) = b' := by
          rw [Bool.eq_iff_iff, insB_iff, hb]
        rw [e] at q1 q2
        cases b' with
        | true => exact q1 rfl
        | false => exact q2 rfl
      · have hL : (stL cs (min n 61) a k).length ≤ 60 := by
          unfold stL
          refine Nat.le_trans (List.length_filter_le _ _) ?_
          rw [List.length_map, List.length_range]
          exact hk60
        rw [List.map_id, stL_eq]
        generalize stL cs (min n 61) a k = L at AL hL
        refine lst_in ?_
        simp! only [and_true]
        intro _
        refine itei (fun h => ?_) fun h => itei (fun h2 => ?_) fun h2 => ?_
        · rw [walk_none AL ha (by
            rw [List.length_map] at h
            exact List.length_eq_zero_iff.mp (by omega)) b] at q
          exact retF_1 nc q
        · cases b with
          | true => cases h2
          | false =>
            refine ⟨L, rfl, by rw [List.length_map] at h; omega, fun m hmL hmin => ?_⟩
            have e : firstI n a ms = some m := walk_first hn AL n1 ha hmL hmin
            rw [if_neg (by decide), e] at q
            exact retF_1 nc q
        · cases b with
          | false => exact (h2 rfl).elim
          | true =>
            rw [if_pos rfl] at q
            refine lst_in ?_
            refine for_Se (t := .lst (ms.map spT)) (ts := ms.map spT) (Ω1 := put Ω c (dcK cs)) (fun P p => ?_) rfl (fun i ρ' Ω' => Ω' = put Ω c (dcK cs) ∧ ∃ (R : List Pr2) (x5 x8 x9 : Option Tr), (∀ q : Pr2, q ∈ R ↔ ∃ r ∈ ms.take i, q.1 = r.2 ∧ q.2 ∈ L ∧ r.1 ≤ q.2 ∧ q.2 < r.1 + r.2) ∧ R.length ≤ 60 * i ∧ ρ' = [some (.lst (rs.map spT)), some (.int n), some (.int a), some (.bl true), some (.obj c), x5, some (.lst (L.map Tr.int)), some (.lst (R.map prT)), x8, x9]) ⟨rfl, [], _, _, _, fun q => ⟨fun h => (List.not_mem_nil h).elim, fun ⟨r, hr, _⟩ => (List.not_mem_nil hr).elim⟩, Nat.zero_le _, rfl⟩ (fun _ _ _ w => trivial) ?_ ?_
            · simp! only [and_true]
              exact ⟨rs, rfl, by omega, fun ms' n' c' _ => by rw [norm_uniq n' hn (fun x => (c' x).trans (hc x).symm)]; exact p⟩
            · rintro hz i y ρ' Ω' hx ⟨rfl, R, x5, x8, x9, hR, hRl, rfl⟩
              rw [List.getElem?_map] at hx
              obtain ⟨r, hr, rfl⟩ := Option.map_eq_some_iff.mp hx
              simp! only [spT]
              refine lc_I (items := L.map Tr.int) (st := stay (.lst (L.map Tr.int)) (L.map Tr.int)) (fun R w => ?_) trivial (fun x => .tup [.int r.2, x]) (fun x => match x with | .int v => decide (r.1 ≤ v ∧ v < r.1 + r.2) | _ => false) (fun x hx Q N q1 q2 => ?_) fun hz => ?_
              · simp! only [and_true]
                exact w
              · obtain ⟨v, hv, rfl⟩ := List.mem_map.mp hx
                simp! only [wipeT]
                have q1' : r.1 ≤ v → v < r.1 + r.2 → Q (.tup [.int r.2, .int v]) (put Ω c (dcK cs)) := fun h1 h2 => q1 (decide_eq_true ⟨h1, h2⟩)
                have q2' : ¬ (r.1 ≤ v ∧ v < r.1 + r.2) → N (put Ω c (dcK cs)) := fun h => q2 (decide_eq_false h)
                exact itei (fun h1 => itei (fun h2 => q1' h1 h2) fun h2 => q2' fun z => h2 z.2) fun h1 => q2' fun z => h1 z.1
              · have e : List.map (fun x => Tr.tup [Tr.int r.2, x]) (List.filter (fun x => match x with | .int v => decide (r.1 ≤ v ∧ v < r.1 + r.2) | _ => false) (L.map Tr.int)) = ((L.filter fun v => decide (r.1 ≤ v ∧ v < r.1 + r.2)).map fun v => (r.2, v)).map prT := by
                  rw [List.filter_map, List.map_map, List.map_map]
                  rfl
                have hi := (List.getElem?_eq_some_iff.mp hr).1
                have hfl : (L.filter fun v => decide (r.1 ≤ v ∧ v < r.1 + r.2)).length ≤ 60 := Nat.le_trans (List.length_filter_le _ _) hL
                rw [e]
                refine lst_in ?_
                simp! only [and_true]
                refine ⟨by simp only [List.length_map]; omega, lst_in ⟨rfl, R ++ (L.filter fun v => decide (r.1 ≤ v ∧ v < r.1 + r.2)).map fun v => (r.2, v), fun q => ?_, by rw [List.length_append, List.length_map]; omega, by rw [List.map_append]⟩⟩
                rw [List.mem_append, hR, take_one hr, List.mem_map]
                constructor
                · rintro (⟨s, hs, h⟩ | ⟨v, hv, rfl⟩)
                  · exact ⟨s, List.mem_append_left _ hs, h⟩
                  · rw [List.mem_filter, decide_eq_true_eq] at hv
                    exact ⟨r, List.mem_append_right _ (List.mem_singleton_self _), rfl, hv.1, hv.2⟩
                · rintro ⟨s, hs, h1, h2, h3⟩
                  rcases List.mem_append.mp hs with hs | hs
                  · exact .inl ⟨s, hs, h1, h2, h3⟩
                  · rw [List.mem_singleton.mp hs] at h1 h3
                    exact .inr ⟨q.2, List.mem_filter.mpr ⟨h2, decide_eq_true h3⟩, Prod.ext h1.symm rfl⟩
            · rintro ρ' Ω' ⟨rfl, R, x5, x8, x9, hR, hRl, rfl⟩
              rw [List.length_map, List.take_length] at hR
              have hne : R ≠ [] := fun z => by
                obtain ⟨v, hv⟩ := List.exists_mem_of_ne_nil L (fun z => h (by rw [z]; rfl))
                obtain ⟨r, hr, h1, h2, _, _⟩ := all_run AL ha hv
                have := (hR (r.2, v)).mpr ⟨r, hr, rfl, hv, h1, by show v < _; omega⟩
                rw [z] at this
                cases this
              have gm : GoodS ms := goodN hn fun x h => covN hg ((hc x).mp h)
              simp! only [and_true]
              refine ⟨_, R, rfl, rfl, hne, fun p hpR hmin => ⟨_, rfl, .int p.2, rfl, ?_⟩⟩
              rw [walk_best hn gm AL n1 ha hR hpR hmin] at q
              exact retF_1 nc q
theorem ok_law_due (T : Tx K mg) : FnOk P w K mg base CX0 4 (He.ga K "_law_due") T.fd_law_due P_law_due (spD K wp_ddue 4) := by
  refine dok T.F_law_due sc_law_due fun cdv A outer s H E hr => ?_
  refine' dokMk (PSs.nox (pss_cons (ps_if (pt_cmpR op_le (pe_callB (show CallR _ _ (rMax K) from cr_max rfl) (by rfl) T.z_max (by decide +kernel) (pa_cons (pe_op (show OpR _ _ (LT.rAddG K) from LT.op_addG) (pe_lst (pa_cons (pe_int) pa_nil)) (pe_lc (own := [("_law_one", 4)]) (by rfl) sc_law_due.nd (LT.pi_seqK (K := K) rfl (pv 0)) (blkOk_by (N := N_law_due) (sc := defScope s_law_due) (by decide +kernel)) (fun _ _ _ _ _ => (pg_name (i := 4) sc_law_due.nd rfl (Or.inl rfl))) (fun _ _ _ _ _ => pts_nil) (fun _ _ _ _ _ => (pe_op (show OpR _ _ (LT.rAddG K) from LT.op_addG) (pe_ix (show IxR _ (LL.rIxA K) from LL.ix_A) (pv 4) (pe_int) (fun _ _ => rfl)) (pe_ix (show IxR _ (LL.rIxA K) from LL.ix_A) (pv 4) (pe_int) (fun _ _ => rfl)))))) pa_nil)) (pe_int) (nomark _)) (pss_one (ps_ret (pe_call (ok_law_walked T) hr rfl T.g_law_walked T.F_law_walked.kp (b_law_walked T) .nil pass0 (pa_cons (pv 0) (pa_cons (pv 1) (pa_cons (pv 2) (pa_cons (pv 3) pa_nil))))))) pss_nil) (pss_one (ps_ret (pe_call (ok_law_start_due T) (hr.mono (by decide)) rfl T.g_law_start_due T.F_law_start_due.kp (b_law_start_due T) .nil pass0 (pa_cons (pe_call (ok_law_normal_of T) (hr.mono (by decide)) rfl T.g_law_normal_of T.F_law_normal_of.kp (b_law_normal_of T) .nil pass0 (pa_cons (pv 0) pa_nil)) (pa_cons (pv 1) (pa_cons (pv 2) (pa_cons (pv 3) pa_nil))))))))) ?sim ?go
  case sim =>
    try simp only [LL.cxK0, LL.cxK1, List.map_cons, List.map_nil]
    repeat' (first | fail "f" | with_reducible exact simc_isiO | with_reducible apply sim_iR3 | with_reducible apply sim_gLst | with_reducible apply sim_tryR0 | with_reducible apply sim_tryR | with_reducible apply SimRow.cons | with_reducible exact SimRow.nil | with_reducible apply sim_mthS (dts := []) .nil | with_reducible apply sim_makeK (gT := fun ts us => ts ++ us) (fun _ _ _ _ _ _ _ h1 h2 => vdl_app h2 h1) | with_reducible apply sim_makeK (gT := fun ts us => ts ++ us ++ [.non]) (fun _ _ _ _ _ _ _ h1 h2 => vdl_app vdl_N (vdl_app h2 h1)) | with_reducible apply sim_make0 (dts := [.int 0, .non]) df_0N | with_reducible apply sim_fld T.c_Places T.n_Places__spans | with_reducible apply sim_setF T.c_Places T.n_Places__spans | with_reducible apply sim_forI | with_reducible apply sim_pop | with_reducible apply sim_tru | with_reducible apply sim_prop | with_reducible apply sim_make (dts := []) .nil | with_reducible apply sim_make0 (dts := []) .nil | with_reducible apply sim_meth0 (dts := []) .nil | with_reducible apply sim_meth (dts := []) .nil | fail "s")
  case go =>
    intro ts Ω PQ PX hl h
    obtain ⟨rs, ms, n, a, b, rfl, hd, q⟩ := h
    obtain ⟨hg, hl, hn, hml, hc, n1, n2, hp, ha2⟩ := id hd
    have gm : GoodS ms := goodN hn fun x h => covN hg ((hc x).mp h)
    simp! only [N_law_due]
    refine lst_in (lc_I (items := rs.map spT) (st := stay (.lst (rs.map spT)) (rs.map spT)) (fun R w => ?_) trivial (fun x => match x with | .tup [.int u, .int v] => .int (u + v) | _ => .non) (fun _ => true) (fun x hx Q N q1 q2 => ?_) fun hz => ?_)
    · simp! only [and_true]
      exact w
    · obtain ⟨r, hr, rfl⟩ := List.mem_map.mp hx
      simp! only [spT]
      exact q1 rfl
    · rw [List.filter_eq_self.mpr (fun _ _ => rfl), List.map_map]
      have e : rs.map ((fun x => match x with | .tup [.int u, .int v] => Tr.int (u + v) | _ => .non) ∘ spT) = (rs.map fun r => r.1 + r.2).map Tr.int := by
        rw [List.map_map]
        rfl
      rw [e]
      refine lst_in ?_
      simp! only [and_true]
      refine ⟨by rw [List.length_map, List.length_map]; omega, lst_in ⟨0 :: rs.map fun r => r.1 + r.2, rfl, by simp, fun m hmm hmax => itei (fun h => ⟨rs, ms, n, a, b, rfl, hd, fun r hr => ?_, q⟩) fun h => ⟨rs, rfl, by omega, fun ms' n' c' _ => ?_⟩⟩⟩
      · have := hmax (r.1 + r.2) (List.mem_cons_of_mem _ (List.mem_map.mpr ⟨r, hr, rfl⟩))
        omega
      · rw [norm_uniq n' hn (fun x => (c' x).trans (hc x).symm)]
        exact ⟨ms, n, a, b, rfl, gm, n1, hp, ha2, q⟩
end
section
open PySem PySem.Spec PyProof.Rows L2 LL LT
variable {P : Program} {w : World} {K : PySem.W.Frag} {mg : Str → Option Value} {base : Heap}

/-! ### asked -/
/-- which is asked: f with the alignment v -/
noncomputable def WhichA (title : Str) (u v : Tr) (f : Int → Int → List Spn → Option Int) : Prop := (title = "first" ∧ f = firstI ∧ v = u) ∨ (title = "best" ∧ f = bestI ∧ v = u) ∨ (title = "first alone" ∧ f = firstI ∧ v = .int 1) ∨ (title = "best alone" ∧ f = bestI ∧ v = .int 1)
noncomputable def wa_asked (K : PySem.W.Frag) : Pw := fun ts Ω PQ _ => ∃ (a dx : Addr) (ms : List Spn) (title : Str) (t u : Tr), ts = [.obj a, .str title, t, u] ∧ Ω a = some (.ins (cP K) dx ["_spans"] [.tup (ms.map spT)]) ∧ NormS ms ∧ GoodS ms ∧ ms.length ≤ 1000000 ∧ dataT t = true ∧
  ((title = "covers" ∧ (spanB t = false → PQ (refLT (.tup [.str "span"])) Ω) ∧ ∀ (r : Spn) (b : Bool), t = spT r → spanB t = true → (b = true ↔ ∃ m ∈ ms, m.1 ≤ r.1 ∧ r.1 + r.2 ≤ m.1 + m.2) → PQ (.lst [.str "done", .bl b]) Ω) ∨
   ∃ (v : Tr) (f : Int → Int → List Spn → Option Int), WhichA title u v f ∧ dataT v = true ∧ (¬ InR 1 1000000000 t → PQ (refLT (.tup [.str "size"])) Ω) ∧ (InR 1 1000000000 t → alB 1073741824 v = false → PQ (refLT (.tup [.str "align"])) Ω) ∧ ∀ n al : Int, t = .int n → v = .int al → 1 ≤ n → n ≤ 1000000000 → isP al = true → al ≤ 1073741824 → PQ (.lst [.str "done", optT (f n al ms)]) Ω)
theorem ok_law_asked (T : Tx K mg) : FnOk P w K mg base CX0 8 (He.ga K "_law_asked") T.fd_law_asked P_law_asked (spD K (wa_asked K) 4) := by
  refine dok T.F_law_asked sc_law_asked fun cdv A outer s H E hr => ?_
  refine' dokMk (PSs.nox (pss_one (LT.ps_tryT (i := 4) rfl rfl sc_law_asked.nd rfl rfl ⟨rfl, by decide, Or.inl T.g_BadValue⟩ takes0 (fun W pn xe tk _ => (pss_cons (ps_if (pt_cmpR op_eq (pv 1) (pe_str) (nomark _)) (pss_one (ps_ret (pe_lst (pa_cons (pe_str) (pa_cons (by exact LT.pe_mthS (by exact (pv 0)) T.c_Places T.h_Places_covers (ok_Places_covers T) (hr.mono (by decide)) (b_Places_covers T) .nil (fun σ => passAt tk σ) (by exact (pa_cons (pv 2) pa_nil))) pa_nil))))) pss_nil) (pss_cons (ps_if (pt_cmpR op_eq (pv 1) (pe_str) (nomark _)) (pss_one (ps_ret (pe_lst (pa_cons (pe_str) (pa_cons (by exact LT.pe_mthS (by exact (pv 0)) T.c_Places T.h_Places_first_start (ok_Places_first_start T) hr (bz_Places_first_start T).choose_spec.2 (bz_Places_first_start T).choose_spec.1 (fun σ => passAt tk σ) (by exact (pa_cons (pv 2) pa_nil))) pa_nil))))) pss_nil) (pss_cons (ps_if (pt_cmpR op_eq (pv 1) (pe_str) (nomark _)) (pss_one (ps_ret (pe_lst (pa_cons (pe_str) (pa_cons (by exact LT.pe_mthS (by exact (pv 0)) T.c_Places T.h_Places_best_start (ok_Places_best_start T) hr (bz_Places_best_start T).choose_spec.2 (bz_Places_best_start T).choose_spec.1 (fun σ => passAt tk σ) (by exact (pa_cons (pv 2) pa_nil))) pa_nil))))) pss_nil) (pss_cons (ps_if (pt_cmpR op_eq (pv 1) (pe_str) (nomark _)) (pss_one (ps_ret (pe_lst (pa_cons (pe_str) (pa_cons (by exact LT.pe_mthKS (by exact (pv 0)) T.c_Places T.h_Places_first_start (ok_Places_first_start T) hr (bk_Places_first_start_align T) (fun σ => passAt tk σ) (by exact (pa_cons (pv 2) pa_nil)) (by exact (pk_cons (pv 3) pk_nil))) pa_nil))))) pss_nil) (pss_one (ps_ret (pe_lst (pa_cons (pe_str) (pa_cons (by exact LT.pe_mthKS (by exact (pv 0)) T.c_Places T.h_Places_best_start (ok_Places_best_start T) hr (bk_Places_best_start_align T) (fun σ => passAt tk σ) (by exact (pa_cons (pv 2) pa_nil)) (by exact (pk_cons (pv 3) pk_nil))) pa_nil)))))))))) (fun a oe cls d pn hz hf => (pss_one (ps_ret (pe_lst (pa_cons (pe_str) (pa_cons (pe_xf T.f_BadValue T.n_BadValue_told hz hf (pv 4)) (pa_cons (pe_tup (pa_cons (pe_xf T.f_BadValue T.n_BadValue_parameter hz hf (pv 4)) pa_nil)) (pa_cons (pe_callZ (ok_law_kinds T) (hr.mono (by decide)) hz hf rfl T.g_law_kinds T.F_law_kinds.kp (b_law_kinds T) (pa_cons (pv 4) pa_nil)) pa_nil))))))))))) ?sim ?go
  case sim =>
    try simp only [LL.cxK0, LL.cxK1, List.map_cons, List.map_nil]
    repeat' (first | fail "f" | with_reducible apply LT.sim_mthKS (gT := fun ts us => ts ++ us) (fun _ _ _ _ _ _ _ h1 h2 => vdl_app h2 h1) | with_reducible apply LT.sim_mthS (dts := [.int 1]) df_i1 | with_reducible apply LT.sim_mthS (dts := []) .nil | with_reducible exact simc_isiO | with_reducible apply sim_iR3 | with_reducible apply sim_gLst | with_reducible apply sim_tryR0 | with_reducible apply sim_tryR | with_reducible apply SimRow.cons | with_reducible exact SimRow.nil | with_reducible apply sim_mthS (dts := []) .nil | with_reducible apply sim_makeK (gT := fun ts us => ts ++ us) (fun _ _ _ _ _ _ _ h1 h2 => vdl_app h2 h1) | with_reducible apply sim_makeK (gT := fun ts us => ts ++ us ++ [.non]) (fun _ _ _ _ _ _ _ h1 h2 => vdl_app vdl_N (vdl_app h2 h1)) | with_reducible apply sim_make0 (dts := [.int 0, .non]) df_0N | with_reducible apply sim_fld T.c_Places T.n_Places__spans | with_reducible apply sim_setF T.c_Places T.n_Places__spans | with_reducible apply sim_forI | with_reducible apply sim_pop | with_reducible apply sim_tru | with_reducible apply sim_prop | with_reducible apply sim_make (dts := []) .nil | with_reducible apply sim_make0 (dts := []) .nil | with_reducible apply sim_meth0 (dts := []) .nil | with_reducible apply sim_meth (dts := []) .nil | fail "s")
  case go =>
    intro ts Ω PQ PX hl h
    obtain ⟨a, dx, ms, title, t, u, rfl, ha, hn, hg, hz, hd, hw⟩ := h
    simp! only [N_law_asked, dMthKS]
    rcases hw with ⟨rfl, r1, r2⟩ | ⟨v, f, hw, hv, r1, r2, r3⟩
    · rw [if_pos rfl]
      exact ⟨a, insM_obj ha rfl, a, dx, ms, t, rfl, ha, hn, hg, hz, hd, fun h1 => ⟨T.m_BadValue, fun e => ⟨rfl, _, rfl, rfl, _, rfl, rfl, rfl, lst_in (r1 h1)⟩⟩, fun r b e hs hb => lst_in (r2 r b e hs hb)⟩
    · rcases hw with ⟨rfl, rfl, rfl⟩ | ⟨rfl, rfl, rfl⟩ | ⟨rfl, rfl, rfl⟩ | ⟨rfl, rfl, rfl⟩
      · rw [if_neg (by decide), if_neg (by decide), if_neg (by decide), if_pos rfl]
        simp! only [and_true]
        exact ⟨a, insM_obj ha rfl, a, dx, ms, t, _, rfl, ha, hg, hd, hv, fun h1 => ⟨T.m_BadValue, fun e => ⟨rfl, _, rfl, rfl, _, rfl, rfl, rfl, lst_in (r1 h1)⟩⟩, fun h1 h2 => ⟨T.m_BadValue, fun e => ⟨rfl, _, rfl, rfl, _, rfl, rfl, rfl, lst_in (r2 h1 h2)⟩⟩, fun n al e1 e2 h1 h2 h3 h4 => lst_in (r3 n al e1 e2 h1 h2 h3 h4)⟩
      · rw [if_neg (by decide), if_neg (by decide), if_neg (by decide), if_neg (by decide)]
        simp! only [and_true]
        exact ⟨a, insM_obj ha rfl, a, dx, ms, t, _, rfl, ha, hg, hd, hv, fun h1 => ⟨T.m_BadValue, fun e => ⟨rfl, _, rfl, rfl, _, rfl, rfl, rfl, lst_in (r1 h1)⟩⟩, fun h1 h2 => ⟨T.m_BadValue, fun e => ⟨rfl, _, rfl, rfl, _, rfl, rfl, rfl, lst_in (r2 h1 h2)⟩⟩, fun n al e1 e2 h1 h2 h3 h4 => lst_in (r3 n al e1 e2 h1 h2 h3 h4)⟩
      · rw [if_neg (by decide), if_pos rfl]
        exact ⟨a, insM_obj ha rfl, a, dx, ms, t, _, rfl, ha, hg, hd, hv, fun h1 => ⟨T.m_BadValue, fun e => ⟨rfl, _, rfl, rfl, _, rfl, rfl, rfl, lst_in (r1 h1)⟩⟩, fun h1 h2 => ⟨T.m_BadValue, fun e => ⟨rfl, _, rfl, rfl, _, rfl, rfl, rfl, lst_in (r2 h1 h2)⟩⟩, fun n al e1 e2 h1 h2 h3 h4 => lst_in (r3 n al e1 e2 h1 h2 h3 h4)⟩
      · rw [if_neg (by decide), if_neg (by decide), if_pos rfl]
        exact ⟨a, insM_obj ha rfl, a, dx, ms, t, _, rfl, ha, hg, hd, hv, fun h1 => ⟨T.m_BadValue, fun e => ⟨rfl, _, rfl, rfl, _, rfl, rfl, rfl, lst_in (r1 h1)⟩⟩, fun h1 h2 => ⟨T.m_BadValue, fun e => ⟨rfl, _, rfl, rfl, _, rfl, rfl, rfl, lst_in (r2 h1 h2)⟩⟩, fun n al e1 e2 h1 h2 h3 h4 => lst_in (r3 n al e1 e2 h1 h2 h3 h4)⟩
end
section
open PySem PySem.Spec PyProof.Rows L2 LL LT
variable {P : Program} {w : World} {K : PySem.W.Frag} {mg : Str → Option Value} {base : Heap}

/-! ### sizes, spans tried -/
theorem spans_dep {rs : List Spn} : depTrs2 (rs.map spT) ≤ 1 := depTrs2_of fun t ht => by
  obtain ⟨r, _, rfl⟩ := List.mem_map.mp ht
  exact Nat.le_of_ble_eq_true rfl
noncomputable def wp_size : Pw := fun ts Ω PQ _ => ∃ ms : List Spn, ts = [.drw, .lst (ms.map spT)] ∧ GoodS ms ∧ ms.length ≤ 100000 ∧ ∀ n : Int, 1 ≤ n → n ≤ 1000000000 → PQ (.int n) Ω
noncomputable def wp_tried : Pw := fun ts Ω PQ _ => ∃ ms : List Spn, ts = [.drw, .lst (ms.map spT)] ∧ GoodS ms ∧ ms.length ≤ 100000 ∧ ∀ qs, GoodS qs → qs.length ≤ 1000 → PQ (.lst (qs.map spT)) Ω
noncomputable def wa_cright (K : PySem.W.Frag) : Pw := fun ts Ω PQ _ => ∃ (a dx : Addr) (ms qs : List Spn), ts = [.obj a, .lst (ms.map spT), .lst (qs.map spT)] ∧ Ω a = some (.ins (cP K) dx ["_spans"] [.tup (ms.map spT)]) ∧ NormS ms ∧ GoodS ms ∧ ms.length ≤ 100000 ∧ GoodS qs ∧ PQ (.bl true) Ω
theorem one_run {ms : List Spn} (hn : NormS ms) {q : Spn} (hq : 1 ≤ q.2) : decide ((((ms.filter fun m => decide (m.1 ≤ q.1 ∧ q.1 + q.2 ≤ m.1 + m.2)).length : Nat) : Int) = 1) = true ↔ ∃ m ∈ ms, m.1 ≤ q.1 ∧ q.1 + q.2 ≤ m.1 + m.2 := by
  rw [decide_eq_true_eq]
  constructor
  · intro h
    obtain ⟨m, hm⟩ := List.exists_mem_of_ne_nil (ms.filter fun m => decide (m.1 ≤ q.1 ∧ q.1 + q.2 ≤ m.1 + m.2)) (fun z => by rw [z] at h; cases h)
    rw [List.mem_filter, decide_eq_true_eq] at hm
    exact ⟨m, hm⟩
  · rintro ⟨m, hm, h1, h2⟩
    have hin : m ∈ ms.filter fun m => decide (m.1 ≤ q.1 ∧ q.1 + q.2 ≤ m.1 + m.2) := List.mem_filter.mpr ⟨hm, decide_eq_true ⟨h1, h2⟩⟩
    have nd : (ms.filter fun m => decide (m.1 ≤ q.1 ∧ q.1 + q.2 ≤ m.1 + m.2)).Pairwise (fun r s => r.1 + r.2 < s.1) := hn.s.sublist List.filter_sublist
    have all : ∀ x ∈ ms.filter fun m => decide (m.1 ≤ q.1 ∧ q.1 + q.2 ≤ m.1 + m.2), x.1 ≤ q.1 ∧ q.1 + q.2 ≤ x.1 + x.2 := fun x hx => of_decide_eq_true (List.mem_filter.mp hx).2
    generalize (ms.filter fun m => decide (m.1 ≤ q.1 ∧ q.1 + q.2 ≤ m.1 + m.2)) = l at hin nd all
    match l, hin, nd, all with
    | [x], _, _, _ => rfl
    | x :: y :: l, _, nd, all =>
      have a1 := all x List.mem_cons_self
      have a2 := all y (List.mem_cons_of_mem _ List.mem_cons_self)
      have a3 := (List.pairwise_cons.mp nd).1 y List.mem_cons_self
      omega
theorem ok_law_size (T : Tx K mg) : FnOk P w K mg base CX0 6 (He.ga K "_law_size") T.fd_law_size P_law_size (spD K wp_size 2) := by
  refine dok T.F_law_size sc_law_size fun cdv A outer s H E hr => ?_
  refine' dokMk (PSs.nox (pss_cons (ps_if (PW.pt (pw_and (pt_cmpR op_gt (pe_callB (show CallR _ _ (LT.rLenS K) from LT.call_lenS) (by rfl) T.z_len (by decide +kernel) (pa_cons (pv 1) pa_nil)) (pe_int) (nomark _)) (pw_and1 (pt_cmpR op_gt (pe_call (okt_law_take T) (hr.mono (by decide)) rfl T.g_law_take T.F_law_take.kp (b_law_take T) .nil pass0 (pa_cons (pv 0) (pa_cons (pe_int) pa_nil))) (pe_int) (nomark _))))) (pss_one (ps_ret (pe_callB (LL.call_mx rfl) (by rfl) T.z_max (by decide +kernel) (pa_cons (pe_int) (pa_cons (pe_callB (LL.call_mn rfl) (by rfl) T.z_min (by decide +kernel) (pa_cons (pe_op op_pow (pe_int) (pe_int)) (pa_cons (pe_op (show OpR _ _ (LT.rAddG K) from LT.op_addG) (pe_op op_sub (pe_ix (show IxR _ (LL.rIxA K) from LL.ix_A) (pe_call (ok_law_among T) (hr.mono (by decide)) rfl T.g_law_among T.F_law_among.kp (b_law_among T) .nil pass0 (pa_cons (pv 0) (pa_cons (pv 1) pa_nil))) (pe_int) (fun _ _ => rfl)) (pe_call (okt_law_take T) (hr.mono (by decide)) rfl T.g_law_take T.F_law_take.kp (b_law_take T) .nil pass0 (pa_cons (pv 0) (pa_cons (pe_int) pa_nil)))) (pe_op op_mul (pe_int) (pe_call (okt_law_take T) (hr.mono (by decide)) rfl T.g_law_take T.F_law_take.kp (b_law_take T) .nil pass0 (pa_cons (pv 0) (pa_cons (pe_int) pa_nil))))) pa_nil))) pa_nil))))) pss_nil) (pss_one (ps_ret (pe_call (ok_law_number T) hr rfl T.g_law_number T.F_law_number.kp (b_law_number T) .nil pass0 (pa_cons (pv 0) (pa_cons (pe_int) (pa_cons (pe_op op_pow (pe_int) (pe_int)) pa_nil)))))))) ?sim ?go
  case sim =>
    try simp only [LL.cxK0, LL.cxK1, List.map_cons, List.map_nil]
    repeat' (first | fail "f" | with_reducible exact simc_isiO | with_reducible apply sim_iR3 | with_reducible apply sim_gLst | with_reducible apply sim_tryR0 | with_reducible apply sim_tryR | with_reducible apply SimRow.cons | with_reducible exact SimRow.nil | with_reducible apply sim_mthS (dts := []) .nil | with_reducible apply sim_makeK (gT := fun ts us => ts ++ us) (fun _ _ _ _ _ _ _ h1 h2 => vdl_app h2 h1) | with_reducible apply sim_makeK (gT := fun ts us => ts ++ us ++ [.non]) (fun _ _ _ _ _ _ _ h1 h2 => vdl_app vdl_N (vdl_app h2 h1)) | with_reducible apply sim_make0 (dts := [.int 0, .non]) df_0N | with_reducible apply sim_fld T.c_Places T.n_Places__spans | with_reducible apply sim_setF T.c_Places T.n_Places__spans | with_reducible apply sim_forI | with_reducible apply sim_pop | with_reducible apply sim_tru | with_reducible apply sim_prop | with_reducible apply sim_make (dts := []) .nil | with_reducible apply sim_make0 (dts := []) .nil | with_reducible apply sim_meth0 (dts := []) .nil | with_reducible apply sim_meth (dts := []) .nil | fail "s")
  case go =>
    intro ts Ω PQ PX hl h
    obtain ⟨ms, rfl, hg, hn, q⟩ := h
    have pw : CPow 10 9 := by unfold CPow; decide
    simp! only [N_law_size]
    refine fun _ => itei (fun h => tk_call (by decide) fun k k0 k1 => ⟨k, rfl, itei (fun hk => ⟨pw, am_call (us := ms.map spT) rfl (fun z => by rw [z] at h; exact absurd h (by decide)) fun x hx => ?_⟩) fun _ => ⟨pw, nu_call ⟨by decide, by decide, by decide⟩ q⟩⟩) fun _ => ⟨pw, nu_call ⟨by decide, by decide, by decide⟩ q⟩
    obtain ⟨r, hr, rfl⟩ := List.mem_map.mp hx
    have hgr := hg r hr
    exact ⟨_, rfl, .int r.2, rfl, tk_call (by decide) fun u u0 u1 => ⟨_, rfl, _, rfl, tk_call (by decide) fun w w0 w1 => ⟨_, rfl, by unfold CMul; omega, q _ (by omega) (by omega)⟩⟩⟩
theorem ok_law_tried_spans (T : Tx K mg) : FnOk P w K mg base CX0 7 (He.ga K "_law_tried_spans") T.fd_law_tried_spans P_law_tried_spans (spD K wp_tried 2) := by
  refine dok T.F_law_tried_spans sc_law_tried_spans fun cdv A outer s H E hr => ?_
  refine' dokMk (PSs.nox (pss_cons (ps_set (i := 2) sc_law_tried_spans.nd rfl (Or.inl rfl) (pe_lst (pa_cons (pe_call (ok_law_span T) hr rfl T.g_law_span T.F_law_span.kp (b_law_span T) .nil pass0 (pa_cons (pv 0) (pa_cons (pe_int) pa_nil))) (pa_cons (pe_tup (pa_cons (pe_op op_sub (pe_op op_pow (pe_int) (pe_int)) (pe_int)) (pa_cons (pe_int) pa_nil))) pa_nil)))) (pss_cons (ps_for PassesOwn.never rfl (LT.pi_seqK (K := K) rfl (pe_slice (show SlR _ (LT.rSlG K) from LT.sl_G) (pv 1) po_none (po_some (pe_int)))) (LT.pg_tupK (K := K) (n := 2) rfl rfl (pgs_cons (pg_name (i := 3) sc_law_tried_spans.nd rfl (Or.inl rfl)) (pgs_cons (pg_name (i := 4) sc_law_tried_spans.nd rfl (Or.inl rfl)) pgs_nil))) (pss_cons (ps_set (i := 5) sc_law_tried_spans.nd rfl (Or.inl rfl) (pe_call (ok_law_between T) (hr.mono (by decide)) rfl T.g_law_between T.F_law_between.kp (b_law_between T) .nil pass0 (pa_cons (pv 0) (pa_cons (pe_int) (pa_cons (pe_op op_sub (pv 4) (pe_int)) pa_nil))))) (pss_cons (ps_set (i := 2) sc_law_tried_spans.nd rfl (Or.inl rfl) (pe_op (show OpR _ _ (LT.rAddG K) from LT.op_addG) (pv 2) (pe_lst (pa_cons (pe_tup (pa_cons (pv 3) (pa_cons (pv 4) pa_nil))) (pa_cons (pe_tup (pa_cons (pe_op (show OpR _ _ (LT.rAddG K) from LT.op_addG) (pv 3) (pv 5)) (pa_cons (pe_op op_sub (pv 4) (pv 5)) pa_nil))) (pa_cons (pe_tup (pa_cons (pv 3) (pa_cons (pe_op (show OpR _ _ (LT.rAddG K) from LT.op_addG) (pv 5) (pe_int)) pa_nil))) pa_nil)))))) (pss_one (ps_set (i := 2) sc_law_tried_spans.nd rfl (Or.inl rfl) (pe_op (show OpR _ _ (LT.rAddG K) from LT.op_addG) (pv 2) (pe_lst (pa_cons (pe_tup (pa_cons (pe_callB (LL.call_mx rfl) (by rfl) T.z_max (by decide +kernel) (pa_cons (pe_int) (pa_cons (pe_op op_sub (pv 3) (pe_int)) pa_nil))) (pa_cons (pv 4) pa_nil))) (pa_cons (pe_tup (pa_cons (pv 3) (pa_cons (pe_callB (LL.call_mn rfl) (by rfl) T.z_min (by decide +kernel) (pa_cons (pe_op (show OpR _ _ (LT.rAddG K) from LT.op_addG) (pv 4) (pe_int)) (pa_cons (pe_op op_sub (pe_op op_pow (pe_int) (pe_int)) (pv 3)) pa_nil))) pa_nil))) pa_nil))))))))) (pss_one (ps_ret (pv 2)))))) ?sim ?go
  case sim =>
    try simp only [LL.cxK0, LL.cxK1, List.map_cons, List.map_nil]
    repeat' (first | fail "f" | with_reducible exact simc_isiO | with_reducible apply sim_iR3 | with_reducible apply sim_gLst | with_reducible apply sim_tryR0 | with_reducible apply sim_tryR | with_reducible apply SimRow.cons | with_reducible exact SimRow.nil | with_reducible apply sim_mthS (dts := []) .nil | with_reducible apply sim_makeK (gT := fun ts us => ts ++ us) (fun _ _ _ _ _ _ _ h1 h2 => vdl_app h2 h1) | with_reducible apply sim_makeK (gT := fun ts us => ts ++ us ++ [.non]) (fun _ _ _ _ _ _ _ h1 h2 => vdl_app vdl_N (vdl_app h2 h1)) | with_reducible apply sim_make0 (dts := [.int 0, .non]) df_0N | with_reducible apply sim_fld T.c_Places T.n_Places__spans | with_reducible apply sim_setF T.c_Places T.n_Places__spans | with_reducible apply sim_forI | with_reducible apply sim_pop | with_reducible apply sim_tru | with_reducible apply sim_prop | with_reducible apply sim_make (dts := []) .nil | with_reducible apply sim_make0 (dts := []) .nil | with_reducible apply sim_meth0 (dts := []) .nil | with_reducible apply sim_meth (dts := []) .nil | fail "s")
  case go =>
    intro ts Ω PQ PX hl h
    obtain ⟨ms, rfl, hg, hn, q⟩ := h
    have pw : CPow 10 9 := by unfold CPow; decide
    simp! only [N_law_tried_spans]
    refine sp_call ⟨by decide, by decide⟩ fun r0 a0 a1 a2 => ⟨pw, lst_in ?_⟩
    have ec : cutT (ms.map spT) none (some 6) = (ms.take 6).map spT := by
      rw [show (6 : Int) = ((6 : Nat) : Int) from rfl, cutT_to, ← List.map_take]
    have hl6 : (ms.take 6).length ≤ 6 := by rw [List.length_take]; omega
    have hg6 : ∀ r ∈ ms.take 6, 0 ≤ r.1 ∧ 1 ≤ r.2 ∧ r.1 + r.2 ≤ 1000000000 := fun r hr => hg r (List.mem_of_mem_take hr)
    generalize ms.take 6 = fs at ec hl6 hg6
    refine for_Se (t := .lst (fs.map spT)) (ts := fs.map spT) (Ω1 := Ω) (fun P p => ?_) rfl (fun i ρ' Ω' => Ω' = Ω ∧ ∃ (qs : List Spn) (x3 x4 x5 : Option Tr), GoodS qs ∧ qs.length ≤ 2 + 5 * i ∧ ρ' = [some .drw, some (.lst (ms.map spT)), some (.lst (qs.map spT)), x3, x4, x5]) ⟨rfl, [r0, (999999999, 1)], _, _, _, fun r hr => ?_, Nat.le_refl _, rfl⟩ (fun _ _ _ w => trivial) ?_ ?_
    · simp! only [and_true]
      rw [ec]
      exact fun _ => lst_in p
    · rcases List.mem_cons.mp hr with rfl | hr
      · exact ⟨a0, a1, by omega⟩
      · rw [List.mem_singleton.mp hr]
        decide
    · rintro hz i y ρ' Ω' hx ⟨rfl, qs, x3, x4, x5, hq, hql, rfl⟩
      rw [List.getElem?_map] at hx
      obtain ⟨r, hr, rfl⟩ := Option.map_eq_some_iff.mp hx
      have hi := (List.getElem?_eq_some_iff.mp hr).1
      obtain ⟨b0, b1, b2⟩ := hg6 r (List.mem_of_getElem? hr)
      simp! only [spT]
      refine bt_call (tk_big (by omega) (by omega)) fun v v0 v1 => ?_
      simp! only [and_true]
      refine lst_in ?_
      simp! only [and_true]
      refine ⟨by simp only [List.length_append, List.length_map, List.length_cons, List.length_nil]; omega, lst_in ⟨pw, lst_in ?_⟩⟩
      simp! only [and_true]
      refine ⟨by simp only [List.length_append, List.length_map, List.length_cons, List.length_nil]; omega, lst_in ⟨rfl, qs ++ [(r.1, r.2), (r.1 + v, r.2 - v), (r.1, v + 1)] ++ [(max 0 (r.1 - 1), r.2), (r.1, min (r.2 + 1) (1000000000 - r.1))], fun s hs => ?_, by simp only [List.length_append, List.length_cons, List.length_nil]; omega, by rw [List.map_append, List.map_append]; rfl⟩⟩
      simp only [List.mem_append, List.mem_cons, List.not_mem_nil, or_false] at hs
      rcases hs with (h | rfl | rfl | rfl) | rfl | rfl
      · exact hq s h
      all_goals
        simp only
        omega
    · rintro ρ' Ω' ⟨rfl, qs, x3, x4, x5, hq, hql, rfl⟩
      rw [List.length_map] at hql
      simp! only [and_true]
      exact q qs hq (by omega)
theorem ok_law_covers_right (T : Tx K mg) : FnOk P w K mg base CX0 10 (He.ga K "_law_covers_right") T.fd_law_covers_right P_law_covers_right (spD K (wa_cright K) 3) := by
  refine dok T.F_law_covers_right sc_law_covers_right fun cdv A outer s H E hr => ?_
  refine' dokMk (PSs.nox (pss_cons (ps_for PassesOwn.never rfl (LT.pi_seqK (K := K) rfl (pv 2)) (LT.pg_tupK (K := K) (n := 2) rfl rfl (pgs_cons (pg_name (i := 3) sc_law_covers_right.nd rfl (Or.inr rfl)) (pgs_cons (pg_name (i := 4) sc_law_covers_right.nd rfl (Or.inr rfl)) pgs_nil))) (pss_cons (ps_setLc (i := 5) (own := [("_law_one", 6)]) rfl sc_law_covers_right.nd rfl rfl (sw_true rfl rfl rfl (by decide +kernel)) (LT.pi_seqK (K := K) rfl (pv 1)) (blkOk_by (N := N_law_covers_right) (sc := defScope s_law_covers_right) (by decide +kernel)) (fun _ _ _ _ _ => (pg_name (i := 6) sc_law_covers_right.nd rfl (Or.inl rfl))) (fun _ _ _ _ _ => pts_one (PW.pt (pw_and (pt_cmpR op_le (pe_ix (show IxR _ (LL.rIxA K) from LL.ix_A) (pv 6) (pe_int) (fun _ _ => rfl)) (pv 3) (nomark _)) (pw_and1 (pt_cmpR op_le (pe_op (show OpR _ _ (LT.rAddG K) from LT.op_addG) (pv 3) (pv 4)) (pe_op (show OpR _ _ (LT.rAddG K) from LT.op_addG) (pe_ix (show IxR _ (LL.rIxA K) from LL.ix_A) (pv 6) (pe_int) (fun _ _ => rfl)) (pe_ix (show IxR _ (LL.rIxA K) from LL.ix_A) (pv 6) (pe_int) (fun _ _ => rfl))) (nomark _)))))) (fun _ _ _ _ _ => (pv 6))) (pss_one (ps_if (pt_not (pt_val (pe_call (ok_law_same T 8) hr rfl T.g_law_same T.F_law_same.kp (b_law_same T) .nil pass0 (pa_cons (pe_call (ok_law_asked T) (hr.mono (by decide)) rfl T.g_law_asked T.F_law_asked.kp (b_law_asked T) .nil pass0 (pa_cons (pv 0) (pa_cons (pe_str) (pa_cons (pe_tup (pa_cons (pv 3) (pa_cons (pv 4) pa_nil))) (pa_cons (pe_non) pa_nil))))) (pa_cons (pe_lst (pa_cons (pe_str) (pa_cons (pe_cmpR op_eq (pe_callB (show CallR _ _ (LT.rLenS K) from LT.call_lenS) (by rfl) T.z_len (by decide +kernel) (pa_cons (pv 5) pa_nil)) (pe_int) (nomark _)) pa_nil))) pa_nil))))) (pss_one (ps_ret (pe_bl))) pss_nil)))) (pss_one (ps_ret (pe_bl))))) ?sim ?go
  case sim =>
    try simp only [LL.cxK0, LL.cxK1, List.map_cons, List.map_nil]
    repeat' (first | fail "f" | with_reducible exact simc_isiO | with_reducible apply sim_iR3 | with_reducible apply sim_gLst | with_reducible apply sim_tryR0 | with_reducible apply sim_tryR | with_reducible apply SimRow.cons | with_reducible exact SimRow.nil | with_reducible apply sim_mthS (dts := []) .nil | with_reducible apply sim_makeK (gT := fun ts us => ts ++ us) (fun _ _ _ _ _ _ _ h1 h2 => vdl_app h2 h1) | with_reducible apply sim_makeK (gT := fun ts us => ts ++ us ++ [.non]) (fun _ _ _ _ _ _ _ h1 h2 => vdl_app vdl_N (vdl_app h2 h1)) | with_reducible apply sim_make0 (dts := [.int 0, .non]) df_0N | with_reducible apply sim_fld T.c_Places T.n_Places__spans | with_reducible apply sim_setF T.c_Places T.n_Places__spans | with_reducible apply sim_forI | with_reducible apply sim_pop | with_reducible apply sim_tru | with_reducible apply sim_prop | with_reducible apply sim_make (dts := []) .nil | with_reducible apply sim_make0 (dts := []) .nil | with_reducible apply sim_meth0 (dts := []) .nil | with_reducible apply sim_meth (dts := []) .nil | fail "s")
  case go =>
    intro ts Ω PQ PX hl h
    obtain ⟨a, dx, ms, qs, rfl, ha, hn, hg, hz, hq, q⟩ := h
    simp! only [N_law_covers_right]
    refine for_Se (t := .lst (qs.map spT)) (ts := qs.map spT) (Ω1 := Ω) (fun P p => ?_) rfl (fun i ρ' Ω' => Ω' = Ω ∧ ∃ (x3 x4 x5 x6 : Option Tr), ρ' = [some (.obj a), some (.lst (ms.map spT)), some (.lst (qs.map spT)), x3, x4, x5, x6]) ⟨rfl, _, _, _, _, rfl⟩ (fun _ _ _ w => trivial) ?_ ?_
    · simp! only [and_true]
      exact p
    · rintro hz i y ρ' Ω' hx ⟨rfl, x3, x4, x5, x6, rfl⟩
      rw [List.getElem?_map] at hx
      obtain ⟨r, hr, rfl⟩ := Option.map_eq_some_iff.mp hx
      obtain ⟨b0, b1, b2⟩ := hq r (List.mem_of_getElem? hr)
      simp! only [spT]
      refine lc_I (items := ms.map spT) (st := stay (.lst (ms.map spT)) (ms.map spT)) (fun R w => ?_) trivial id (fun x => match x with | .tup [.int u, .int v] => decide (u ≤ r.1 ∧ r.1 + r.2 ≤ u + v) | _ => false) (fun x hx Q N q1 q2 => ?_) fun hz => ?_
      · simp! only [and_true]
        exact w
      · obtain ⟨m, hm, rfl⟩ := List.mem_map.mp hx
        simp! only [wipeT, spT]
        have q1' : m.1 ≤ r.1 → r.1 + r.2 ≤ m.1 + m.2 → Q (.tup [.int m.1, .int m.2]) Ω' := fun h1 h2 => q1 (decide_eq_true ⟨h1, h2⟩)
        have q2' : ¬ (m.1 ≤ r.1 ∧ r.1 + r.2 ≤ m.1 + m.2) → N Ω' := fun h => q2 (decide_eq_false h)
        exact itei (fun h1 => itei (fun h2 => q1' h1 h2) fun h2 => q2' fun z => h2 z.2) fun h1 => q2' fun z => h1 z.1
      · have e : (List.filter (fun x => match x with | .tup [.int u, .int v] => decide (u ≤ r.1 ∧ r.1 + r.2 ≤ u + v) | _ => false) (ms.map spT)).map id = (ms.filter fun m => decide (m.1 ≤ r.1 ∧ r.1 + r.2 ≤ m.1 + m.2)).map spT := by
          rw [List.map_id, List.filter_map]
          rfl
        rw [e]
        have e1 := one_run hn (q := r) b1
        have hfl : (ms.filter fun m => decide (m.1 ≤ r.1 ∧ r.1 + r.2 ≤ m.1 + m.2)).length ≤ 100000 := Nat.le_trans (List.length_filter_le _ _) (by omega)
        generalize (ms.filter fun m => decide (m.1 ≤ r.1 ∧ r.1 + r.2 ≤ m.1 + m.2)) = fs at e1 hfl
        refine lst_in ?_
        simp! only [and_true]
        refine ⟨a, dx, ms, "covers", spT r, .non, rfl, ha, hn, hg, by omega, rfl, .inl ⟨rfl, fun h => ?_, fun r' b e _ hb => ?_⟩⟩
        · rw [span_good ⟨b0, b1, b2⟩] at h
          cases h
        · have er : r' = r := by
            simp only [spT, Tr.tup.injEq, List.cons.injEq, Tr.int.injEq, and_true] at e
            exact Prod.ext e.1.symm e.2.symm
          rw [er] at hb
          have eb : decide (((fs.length : Nat) : Int) = 1) = b := Bool.eq_iff_iff.mpr (e1.trans hb.symm)
          rw [List.length_map, eb]
          refine fun _ => lst_in (sm_call rfl (Nat.le_of_ble_eq_true rfl) ⟨true, rfl, ?_⟩)
          rw [if_neg (by decide)]
    · rintro ρ' Ω' ⟨rfl, x3, x4, x5, x6, rfl⟩
      simp! only [and_true]
      exact q
end
section
open PySem PySem.Spec PyProof.Rows L2 LL LT
variable {P : Program} {w : World} {K : PySem.W.Frag} {mg : Str → Option Value} {base : Heap}

/-! ### starts right -/
theorem ask_call {K : PySem.W.Frag} {a dx : Addr} {ms : List Spn} {title : Str} {u v : Tr} {f : Int → Int → List Spn → Option Int} {n al : Int} {Ω : Om} {P : PT'} {X : PXt} (ha : Ω a = some (.ins (cP K) dx ["_spans"] [.tup (ms.map spT)])) (hn : NormS ms) (hg : GoodS ms) (hl : ms.length ≤ 1000000) (hw : WhichA title u v f) (hv : v = .int al) (n1 : 1 ≤ n) (n2 : n ≤ 1000000000) (hp : isP al = true) (ha2 : al ≤ 1073741824) (q : P (.lst [.str "done", optT (f n al ms)]) Ω) : wa_asked K [.obj a, .str title, .int n, u] Ω P X := by
  subst hv
  refine ⟨a, dx, ms, title, .int n, u, rfl, ha, hn, hg, hl, rfl, .inr ⟨_, f, hw, rfl, fun h => (h ⟨n1, n2⟩).elim, fun _ h => ?_, fun n' al' e1 e2 _ _ _ _ => ?_⟩⟩
  · rw [alB_i, hp, decide_eq_true ha2] at h
    cases h
  · cases e1
    cases e2
    exact q
theorem ask_size {K : PySem.W.Frag} {a dx : Addr} {ms : List Spn} {title : Str} {t u v : Tr} {f : Int → Int → List Spn → Option Int} {Ω : Om} {P : PT'} {X : PXt} (ha : Ω a = some (.ins (cP K) dx ["_spans"] [.tup (ms.map spT)])) (hn : NormS ms) (hg : GoodS ms) (hl : ms.length ≤ 1000000) (hw : WhichA title u v f) (hd : dataT t = true) (hv : dataT v = true) (hb : ¬ InR 1 1000000000 t) (q : P (refLT (.tup [.str "size"])) Ω) : wa_asked K [.obj a, .str title, t, u] Ω P X :=
  ⟨a, dx, ms, title, t, u, rfl, ha, hn, hg, hl, hd, .inr ⟨v, f, hw, hv, fun _ => q, fun h => (hb h).elim, fun n al e1 _ h1 h2 _ _ => by subst e1; exact (hb ⟨h1, h2⟩).elim⟩⟩
theorem ask_align {K : PySem.W.Frag} {a dx : Addr} {ms : List Spn} {title : Str} {n : Int} {u v : Tr} {f : Int → Int → List Spn → Option Int} {Ω : Om} {P : PT'} {X : PXt} (ha : Ω a = some (.ins (cP K) dx ["_spans"] [.tup (ms.map spT)])) (hn : NormS ms) (hg : GoodS ms) (hl : ms.length ≤ 1000000) (hw : WhichA title u v f) (hv : dataT v = true) (n1 : 1 ≤ n) (n2 : n ≤ 1000000000) (hb : alB 1073741824 v = false) (q : P (refLT (.tup [.str "align"])) Ω) : wa_asked K [.obj a, .str title, .int n, u] Ω P X :=
  ⟨a, dx, ms, title, .int n, u, rfl, ha, hn, hg, hl, rfl, .inr ⟨v, f, hw, hv, fun h => (h ⟨n1, n2⟩).elim, fun _ _ => q, fun n' al _ e2 _ _ h3 h4 => by subst e2; rw [alB_i, h3, decide_eq_true h4] at hb; cases hb⟩⟩
theorem ask_span {K : PySem.W.Frag} {a dx : Addr} {ms : List Spn} {t u : Tr} {Ω : Om} {P : PT'} {X : PXt} (ha : Ω a = some (.ins (cP K) dx ["_spans"] [.tup (ms.map spT)])) (hn : NormS ms) (hg : GoodS ms) (hl : ms.length ≤ 1000000) (hd : dataT t = true) (hb : spanB t = false) (q : P (refLT (.tup [.str "span"])) Ω) : wa_asked K [.obj a, .str "covers", t, u] Ω P X :=
  ⟨a, dx, ms, "covers", t, u, rfl, ha, hn, hg, hl, hd, .inl ⟨rfl, fun _ => q, fun r b e h _ => by rw [hb] at h; cases h⟩⟩
theorem opt_data (o : Option Int) : dataT (.lst [.str "done", optT o]) = true := by cases o <;> rfl
theorem opt_dep (o : Option Int) : depTr2 (.lst [.str "done", optT o]) < 8 := by cases o <;> exact Nat.le_of_ble_eq_true rfl
noncomputable def wa_sright (K : PySem.W.Frag) : Pw := fun ts Ω PQ _ => ∃ (a dx : Addr) (rs ms : List Spn) (n al : Int), ts = [.obj a, .lst (rs.map spT), .int n, .int al] ∧ Ω a = some (.ins (cP K) dx ["_spans"] [.tup (ms.map spT)]) ∧ GoodS ms ∧ DueA rs ms n al ∧ PQ (.bl true) Ω
theorem ok_law_starts_right (T : Tx K mg) : FnOk P w K mg base CX0 10 (He.ga K "_law_starts_right") T.fd_law_starts_right P_law_starts_right (spD K (wa_sright K) 4) := by
  refine dok T.F_law_starts_right sc_law_starts_right fun cdv A outer s H E hr => ?_
  refine' dokMk (PSs.nox (pss_cons (ps_for PassesOwn.never rfl (LT.pi_seqK (K := K) rfl (pe_lst (pa_cons (pe_bl) (pa_cons (pe_bl) pa_nil)))) (pg_name (i := 4) sc_law_starts_right.nd rfl (Or.inl rfl)) (pss_cons (ps_set (i := 5) sc_law_starts_right.nd rfl (Or.inl rfl) (pe_ix (show IxR _ (LL.rIxA K) from LL.ix_A) (pe_lst (pa_cons (pe_str) (pa_cons (pe_str) pa_nil))) (pe_callTy LT.call_int (by rfl) T.z_int (by decide +kernel) (pa_cons (pv 4) pa_nil)) (fun _ _ => rfl))) (pss_cons (ps_if (pt_not (pt_val (pe_call (ok_law_same T 8) hr rfl T.g_law_same T.F_law_same.kp (b_law_same T) .nil pass0 (pa_cons (pe_call (ok_law_asked T) (hr.mono (by decide)) rfl T.g_law_asked T.F_law_asked.kp (b_law_asked T) .nil pass0 (pa_cons (pv 0) (pa_cons (pv 5) (pa_cons (pv 2) (pa_cons (pv 3) pa_nil))))) (pa_cons (pe_lst (pa_cons (pe_str) (pa_cons (pe_call (ok_law_due T) (hr.mono (by decide)) rfl T.g_law_due T.F_law_due.kp (b_law_due T) .nil pass0 (pa_cons (pv 1) (pa_cons (pv 2) (pa_cons (pv 3) (pa_cons (pv 4) pa_nil))))) pa_nil))) pa_nil))))) (pss_one (ps_ret (pe_bl))) pss_nil) (pss_one (ps_if (pt_not (pt_val (pe_call (ok_law_same T 8) hr rfl T.g_law_same T.F_law_same.kp (b_law_same T) .nil pass0 (pa_cons (pe_call (ok_law_asked T) (hr.mono (by decide)) rfl T.g_law_asked T.F_law_asked.kp (b_law_asked T) .nil pass0 (pa_cons (pv 0) (pa_cons (pe_op (show OpR _ _ (LT.rAddG K) from LT.op_addG) (pv 5) (pe_str)) (pa_cons (pv 2) (pa_cons (pe_non) pa_nil))))) (pa_cons (pe_lst (pa_cons (pe_str) (pa_cons (pe_call (ok_law_due T) (hr.mono (by decide)) rfl T.g_law_due T.F_law_due.kp (b_law_due T) .nil pass0 (pa_cons (pv 1) (pa_cons (pv 2) (pa_cons (pe_int) (pa_cons (pv 4) pa_nil))))) pa_nil))) pa_nil))))) (pss_one (ps_ret (pe_bl))) pss_nil))))) (pss_one (ps_ret (pe_bl))))) ?sim ?go
  case sim =>
    try simp only [LL.cxK0, LL.cxK1, List.map_cons, List.map_nil]
    repeat' (first | fail "f" | with_reducible exact simc_isiO | with_reducible apply sim_iR3 | with_reducible apply sim_gLst | with_reducible apply sim_tryR0 | with_reducible apply sim_tryR | with_reducible apply SimRow.cons | with_reducible exact SimRow.nil | with_reducible apply sim_mthS (dts := []) .nil | with_reducible apply sim_makeK (gT := fun ts us => ts ++ us) (fun _ _ _ _ _ _ _ h1 h2 => vdl_app h2 h1) | with_reducible apply sim_makeK (gT := fun ts us => ts ++ us ++ [.non]) (fun _ _ _ _ _ _ _ h1 h2 => vdl_app vdl_N (vdl_app h2 h1)) | with_reducible apply sim_make0 (dts := [.int 0, .non]) df_0N | with_reducible apply sim_fld T.c_Places T.n_Places__spans | with_reducible apply sim_setF T.c_Places T.n_Places__spans | with_reducible apply sim_forI | with_reducible apply sim_pop | with_reducible apply sim_tru | with_reducible apply sim_prop | with_reducible apply sim_make (dts := []) .nil | with_reducible apply sim_make0 (dts := []) .nil | with_reducible apply sim_meth0 (dts := []) .nil | with_reducible apply sim_meth (dts := []) .nil | fail "s")
  case go =>
    intro ts Ω PQ PX hl h
    obtain ⟨a, dx, rs, ms, n, al, rfl, ha, gm, hd, q⟩ := h
    obtain ⟨hg, hl, hn, hml, hc, n1, n2, hp, ha2⟩ := id hd
    have hd1 : DueA rs ms n 1 := ⟨hg, hl, hn, hml, hc, n1, n2, by decide +kernel, by decide⟩
    simp! only [N_law_starts_right]
    refine for_Se (t := .lst [.bl false, .bl true]) (ts := [.bl false, .bl true]) (Ω1 := Ω) (fun P p => ?_) rfl (fun i ρ' Ω' => Ω' = Ω ∧ ∃ (x4 x5 : Option Tr), ρ' = [some (.obj a), some (.lst (rs.map spT)), some (.int n), some (.int al), x4, x5]) ⟨rfl, _, _, rfl⟩ (fun _ _ _ w => trivial) ?_ ?_
    · simp! only [and_true]
      exact lst_in p
    · rintro hz i y ρ' Ω' hx ⟨rfl, x4, x5, rfl⟩
      match i, hx with
      | 0, hx =>
        cases hx
        simp! only [and_true]
        refine lst_in ⟨_, rfl, .str "first", rfl, ask_call ha hn gm (by omega) (.inl ⟨rfl, rfl, rfl⟩) rfl n1 n2 hp ha2 ⟨rs, ms, n, al, false, rfl, hd, ?_⟩⟩
        rw [if_neg (by decide)]
        refine lst_in (sm_call (opt_data _) (opt_dep _) ⟨true, rfl, ?_⟩)
        rw [if_neg (by decide)]
        simp! only [and_true]
        refine ⟨by decide +kernel, ?_⟩
        rw [show (("first" : Str) ++ (" alone" : Str)) = ("first alone" : Str) by decide +kernel]
        refine ask_call (title := "first alone") (v := .int 1) ha hn gm (by omega) (.inr (.inr (.inl ⟨rfl, rfl, rfl⟩))) rfl n1 n2 (by decide +kernel) (by decide) ⟨rs, ms, n, 1, false, rfl, hd1, ?_⟩
        rw [if_neg (by decide)]
        refine lst_in (sm_call (opt_data _) (opt_dep _) ⟨true, rfl, ?_⟩)
        rw [if_neg (by decide)]
      | 1, hx =>
        cases hx
        simp! only [and_true]
        refine lst_in ⟨_, rfl, .str "best", rfl, ask_call ha hn gm (by omega) (.inr (.inl ⟨rfl, rfl, rfl⟩)) rfl n1 n2 hp ha2 ⟨rs, ms, n, al, true, rfl, hd, ?_⟩⟩
        rw [if_pos rfl]
        refine lst_in (sm_call (opt_data _) (opt_dep _) ⟨true, rfl, ?_⟩)
        rw [if_neg (by decide)]
        simp! only [and_true]
        refine ⟨by decide +kernel, ?_⟩
        rw [show (("best" : Str) ++ (" alone" : Str)) = ("best alone" : Str) by decide +kernel]
        refine ask_call (title := "best alone") (v := .int 1) ha hn gm (by omega) (.inr (.inr (.inr ⟨rfl, rfl, rfl⟩))) rfl n1 n2 (by decide +kernel) (by decide) ⟨rs, ms, n, 1, true, rfl, hd1, ?_⟩
        rw [if_pos rfl]
        refine lst_in (sm_call (opt_data _) (opt_dep _) ⟨true, rfl, ?_⟩)
        rw [if_neg (by decide)]
    · rintro ρ' Ω' ⟨rfl, x4, x5, rfl⟩
      simp! only [and_true]
      exact q
end
section
open PySem PySem.Spec PyProof.Rows L2 LL LT
variable {P : Program} {w : World} {K : PySem.W.Frag} {mg : Str → Option Value} {base : Heap}

/-! ### wrong values, refused -/
noncomputable def wp_notintD : Pw := fun ts Ω PQ _ => ts = [.drw] ∧ ∀ t, dataT t = true → isInt t = false → depTr2 t ≤ 2 → PQ t Ω
theorem niD_call {Ω : Om} {P : PT'} {X : PXt} (k : ∀ t, dataT t = true → isInt t = false → depTr2 t ≤ 2 → P t Ω) : wp_notintD [.drw] Ω P X := ⟨rfl, k⟩
noncomputable def wp_notwithinD : Pw := fun ts Ω PQ _ => ∃ lo hi : Int, ts = [.drw, .int lo, .int hi] ∧ -(10 ^ 12) ≤ lo ∧ hi ≤ 10 ^ 12 ∧ ∀ t, dataT t = true → ¬ InR lo hi t → depTr2 t ≤ 2 → PQ t Ω
theorem nwD_call {lo hi : Int} {Ω : Om} {P : PT'} {X : PXt} (h : -(10 ^ 12) ≤ lo ∧ hi ≤ 10 ^ 12) (k : ∀ t, dataT t = true → ¬ InR lo hi t → depTr2 t ≤ 2 → P t Ω) : wp_notwithinD [.drw, .int lo, .int hi] Ω P X := ⟨lo, hi, rfl, h.1, h.2, k⟩
noncomputable def wp_notal : Pw := fun ts Ω PQ _ => ts = [.drw, .int 1073741824] ∧ ∀ t, dataT t = true → alB 1073741824 t = false → depTr2 t ≤ 2 → PQ t Ω
theorem alB_int {t : Tr} {m : Int} (h : isInt t = false) : alB m t = false := by
  cases t <;> first | rfl | cases h
theorem alB_big {i m : Int} (h : m < i) : alB m (.int i) = false := by
  rw [alB_i, decide_eq_false (by omega), Bool.and_false]
theorem alB_neg {i m : Int} (h : i < 1) : alB m (.int i) = false := by
  rw [alB_i]
  unfold isP
  rw [decide_eq_false (by omega), Bool.false_and, Bool.false_and]
noncomputable def wa_rright (K : PySem.W.Frag) : Pw := fun ts Ω PQ _ => ∃ (a dx : Addr) (ms : List Spn) (n al : Int), ts = [.drw, .obj a, .int n, .int al] ∧ Ω a = some (.ins (cP K) dx ["_spans"] [.tup (ms.map spT)]) ∧ NormS ms ∧ GoodS ms ∧ ms.length ≤ 2000 ∧ 1 ≤ n ∧ n ≤ 1000000000 ∧ PQ (.bl true) Ω
theorem ok_law_not_integer (T : Tx K mg) : FnOk P w K mg base CX0 3 (He.ga K "_law_not_integer") T.fd_law_not_integer P_law_not_integer (spD K wp_notintD 1) := by
  refine dok T.F_law_not_integer sc_law_not_integer fun cdv A outer s H E hr => ?_
  refine' dokMk (PSs.nox (pss_one (ps_ret (pe_ix (show IxR _ (LL.rIxA K) from LL.ix_A) (pe_lst (pa_cons (pe_bl) (pa_cons (pe_bl) (pa_cons (pe_non) (pa_cons (pe_str) (pa_cons (pe_str) (pa_cons (pe_str) (pa_cons (pe_lst pa_nil) (pa_cons (pe_tup pa_nil) (pa_cons (pe_lst (pa_cons (pe_int) pa_nil)) (pa_cons (pe_tup (pa_cons (pe_int) pa_nil)) (pa_cons (pe_disp (pps_cons (pe_str) (pe_int) pps_nil) (by rfl) (by rfl) (fun z => by cases z) (by decide)) pa_nil)))))))))))) (pe_call (okt_law_take T) hr rfl T.g_law_take T.F_law_take.kp (b_law_take T) .nil pass0 (pa_cons (pv 0) (pa_cons (pe_int) pa_nil))) (fun _ _ => rfl))))) ?sim ?go
  case sim =>
    try simp only [LL.cxK0, LL.cxK1, List.map_cons, List.map_nil]
    repeat' (first | fail "f" | with_reducible exact simc_isiO | with_reducible apply sim_iR3 | with_reducible apply sim_gLst | with_reducible apply sim_tryR0 | with_reducible apply sim_tryR | with_reducible apply SimRow.cons | with_reducible exact SimRow.nil | with_reducible apply sim_mthS (dts := []) .nil | with_reducible apply sim_makeK (gT := fun ts us => ts ++ us) (fun _ _ _ _ _ _ _ h1 h2 => vdl_app h2 h1) | with_reducible apply sim_makeK (gT := fun ts us => ts ++ us ++ [.non]) (fun _ _ _ _ _ _ _ h1 h2 => vdl_app vdl_N (vdl_app h2 h1)) | with_reducible apply sim_make0 (dts := [.int 0, .non]) df_0N | with_reducible apply sim_fld T.c_Places T.n_Places__spans | with_reducible apply sim_setF T.c_Places T.n_Places__spans | with_reducible apply sim_forI | with_reducible apply sim_pop | with_reducible apply sim_tru | with_reducible apply sim_prop | with_reducible apply sim_make (dts := []) .nil | with_reducible apply sim_make0 (dts := []) .nil | with_reducible apply sim_meth0 (dts := []) .nil | with_reducible apply sim_meth (dts := []) .nil | fail "s")
  case go =>
    intro ts Ω PQ PX hl h
    obtain ⟨rfl, q⟩ := h
    simp! only [N_law_not_integer]
    repeat' (first | fail "r" | exact q _ rfl rfl (Nat.le_of_ble_eq_true rfl))
theorem ok_law_not_within (T : Tx K mg) : FnOk P w K mg base CX0 4 (He.ga K "_law_not_within") T.fd_law_not_within P_law_not_within (spD K wp_notwithinD 3) := by
  refine dok T.F_law_not_within sc_law_not_within fun cdv A outer s H E hr => ?_
  refine' dokMk (PSs.nox (pss_cons (ps_set (i := 3) sc_law_not_within.nd rfl (Or.inl rfl) (pe_call (okt_law_take T) (hr.mono (by decide)) rfl T.g_law_take T.F_law_take.kp (b_law_take T) .nil pass0 (pa_cons (pv 0) (pa_cons (pe_int) pa_nil)))) (pss_cons (ps_if (pt_cmpR op_lt (pv 3) (pe_int) (nomark _)) (pss_one (ps_ret (pe_ix (show IxR _ (LL.rIxA K) from LL.ix_A) (pe_lst (pa_cons (pe_op op_sub (pv 1) (pe_int)) (pa_cons (pe_op (show OpR _ _ (LT.rAddG K) from LT.op_addG) (pv 2) (pe_int)) pa_nil))) (pv 3) (fun _ _ => rfl)))) pss_nil) (pss_cons (ps_if (pt_cmpR op_eq (pv 3) (pe_int) (nomark _)) (pss_one (ps_ret (pe_op (show OpR _ _ (LT.rAddG K) from LT.op_addG) (pe_op (show OpR _ _ (LT.rAddG K) from LT.op_addG) (pv 2) (pe_int)) (pe_call (okt_law_take T) (hr.mono (by decide)) rfl T.g_law_take T.F_law_take.kp (b_law_take T) .nil pass0 (pa_cons (pv 0) (pa_cons (pe_op op_pow (pe_int) (pe_int)) pa_nil)))))) pss_nil) (pss_cons (ps_if (pt_cmpR op_eq (pv 3) (pe_int) (nomark _)) (pss_one (ps_ret (pe_op op_sub (pe_op op_sub (pv 1) (pe_int)) (pe_call (okt_law_take T) (hr.mono (by decide)) rfl T.g_law_take T.F_law_take.kp (b_law_take T) .nil pass0 (pa_cons (pv 0) (pa_cons (pe_op op_pow (pe_int) (pe_int)) pa_nil)))))) pss_nil) (pss_cons (ps_if (pt_cmpR op_eq (pv 3) (pe_int) (nomark _)) (pss_one (ps_ret (pe_ix (show IxR _ (LL.rIxA K) from LL.ix_A) (pe_lst (pa_cons (pe_call0 (ok_law_long T) (hr.mono (by decide)) rfl T.g_law_long T.F_law_long.kp (b_law_long T) .nil pass0) (pa_cons (pe_un un_neg (pe_call0 (ok_law_long T) (hr.mono (by decide)) rfl T.g_law_long T.F_law_long.kp (b_law_long T) .nil pass0)) pa_nil))) (pe_call (okt_law_take T) (hr.mono (by decide)) rfl T.g_law_take T.F_law_take.kp (b_law_take T) .nil pass0 (pa_cons (pv 0) (pa_cons (pe_int) pa_nil))) (fun _ _ => rfl)))) pss_nil) (pss_one (ps_ret (pe_call (ok_law_not_integer T) hr rfl T.g_law_not_integer T.F_law_not_integer.kp (b_law_not_integer T) .nil pass0 (pa_cons (pv 0) pa_nil)))))))))) ?sim ?go
  case sim =>
    try simp only [LL.cxK0, LL.cxK1, List.map_cons, List.map_nil]
    repeat' (first | fail "f" | with_reducible exact simc_isiO | with_reducible apply sim_iR3 | with_reducible apply sim_gLst | with_reducible apply sim_tryR0 | with_reducible apply sim_tryR | with_reducible apply SimRow.cons | with_reducible exact SimRow.nil | with_reducible apply sim_mthS (dts := []) .nil | with_reducible apply sim_makeK (gT := fun ts us => ts ++ us) (fun _ _ _ _ _ _ _ h1 h2 => vdl_app h2 h1) | with_reducible apply sim_makeK (gT := fun ts us => ts ++ us ++ [.non]) (fun _ _ _ _ _ _ _ h1 h2 => vdl_app vdl_N (vdl_app h2 h1)) | with_reducible apply sim_make0 (dts := [.int 0, .non]) df_0N | with_reducible apply sim_fld T.c_Places T.n_Places__spans | with_reducible apply sim_setF T.c_Places T.n_Places__spans | with_reducible apply sim_forI | with_reducible apply sim_pop | with_reducible apply sim_tru | with_reducible apply sim_prop | with_reducible apply sim_make (dts := []) .nil | with_reducible apply sim_make0 (dts := []) .nil | with_reducible apply sim_meth0 (dts := []) .nil | with_reducible apply sim_meth (dts := []) .nil | fail "s")
  case go =>
    intro ts Ω PQ PX hl h
    obtain ⟨lo, hi, rfl, h1, h2, q⟩ := h
    simp! only [N_law_not_within]
    repeat' (first | fail "r" | with_reducible refine long_call fun L hL => ?_ | with_reducible refine niD_call fun t ht hi hd => q t ht (inR_int hi) hd | exact q _ rfl (not_in (by omega)) (Nat.zero_le _))
theorem ok_law_not_alignment (T : Tx K mg) : FnOk P w K mg base CX0 4 (He.ga K "_law_not_alignment") T.fd_law_not_alignment P_law_not_alignment (spD K wp_notal 2) := by
  refine dok T.F_law_not_alignment sc_law_not_alignment fun cdv A outer s H E hr => ?_
  refine' dokMk (PSs.nox (pss_cons (ps_set (i := 2) sc_law_not_alignment.nd rfl (Or.inl rfl) (pe_call (okt_law_take T) (hr.mono (by decide)) rfl T.g_law_take T.F_law_take.kp (b_law_take T) .nil pass0 (pa_cons (pv 0) (pa_cons (pe_int) pa_nil)))) (pss_cons (ps_if (pt_cmpR op_lt (pv 2) (pe_int) (nomark _)) (pss_one (ps_ret (pe_ix (show IxR _ (LL.rIxA K) from LL.ix_A) (pe_lst (pa_cons (pe_int) (pa_cons (pe_un un_neg (pe_int)) (pa_cons (pe_un un_neg (pe_int)) (pa_cons (pe_int) (pa_cons (pe_op (show OpR _ _ (LT.rAddG K) from LT.op_addG) (pv 1) (pv 1)) (pa_cons (pe_op (show OpR _ _ (LT.rAddG K) from LT.op_addG) (pe_op (show OpR _ _ (LT.rAddG K) from LT.op_addG) (pv 1) (pv 1)) (pe_int)) pa_nil))))))) (pv 2) (fun _ _ => rfl)))) pss_nil) (pss_cons (ps_if (pt_cmpR op_eq (pv 2) (pe_int) (nomark _)) (pss_one (ps_ret (pe_call (ok_law_among T) hr rfl T.g_law_among T.F_law_among.kp (b_law_among T) .nil pass0 (pa_cons (pv 0) (pa_cons (pe_lst (pa_cons (pe_int) (pa_cons (pe_int) (pa_cons (pe_op op_pow (pe_int) (pe_int)) (pa_cons (pe_call0 (ok_law_long T) (hr.mono (by decide)) rfl T.g_law_long T.F_law_long.kp (b_law_long T) .nil pass0) (pa_cons (pe_un un_neg (pv 1)) (pa_cons (pe_op op_mul (pv 1) (pe_int)) pa_nil))))))) pa_nil))))) pss_nil) (pss_one (ps_ret (pe_call (ok_law_not_integer T) hr rfl T.g_law_not_integer T.F_law_not_integer.kp (b_law_not_integer T) .nil pass0 (pa_cons (pv 0) pa_nil)))))))) ?sim ?go
  case sim =>
    try simp only [LL.cxK0, LL.cxK1, List.map_cons, List.map_nil]
    repeat' (first | fail "f" | with_reducible exact simc_isiO | with_reducible apply sim_iR3 | with_reducible apply sim_gLst | with_reducible apply sim_tryR0 | with_reducible apply sim_tryR | with_reducible apply SimRow.cons | with_reducible exact SimRow.nil | with_reducible apply sim_mthS (dts := []) .nil | with_reducible apply sim_makeK (gT := fun ts us => ts ++ us) (fun _ _ _ _ _ _ _ h1 h2 => vdl_app h2 h1) | with_reducible apply sim_makeK (gT := fun ts us => ts ++ us ++ [.non]) (fun _ _ _ _ _ _ _ h1 h2 => vdl_app vdl_N (vdl_app h2 h1)) | with_reducible apply sim_make0 (dts := [.int 0, .non]) df_0N | with_reducible apply sim_fld T.c_Places T.n_Places__spans | with_reducible apply sim_setF T.c_Places T.n_Places__spans | with_reducible apply sim_forI | with_reducible apply sim_pop | with_reducible apply sim_tru | with_reducible apply sim_prop | with_reducible apply sim_make (dts := []) .nil | with_reducible apply sim_make0 (dts := []) .nil | with_reducible apply sim_meth0 (dts := []) .nil | with_reducible apply sim_meth (dts := []) .nil | fail "s")
  case go =>
    intro ts Ω PQ PX hl h
    obtain ⟨rfl, q⟩ := h
    simp! only [N_law_not_alignment]
    refine tk_call (by decide) fun k k0 k1 => ⟨k, rfl, itei (fun h6 => lst_in ⟨_, rfl, k, rfl, ?_⟩) fun h6 => ⟨rfl, rfl, ?_⟩⟩
    · have hk : k = 0 ∨ k = 1 ∨ k = 2 ∨ k = 3 ∨ k = 4 ∨ k = 5 := by omega
      rcases hk with rfl | rfl | rfl | rfl | rfl | rfl
      all_goals exact ⟨_, rfl, q _ rfl (by decide +kernel) (Nat.le_of_ble_eq_true rfl)⟩
    · refine itei (fun h => ⟨by unfold CPow; decide, long_call fun L hL => ⟨by unfold CMul; omega, lst_in (am_call (us := [Tr.int 6, Tr.int 12, Tr.int 1000000000000000000000000000000, .int L, Tr.int (-1073741824), Tr.int 3221225472]) rfl (by simp) fun x hx => ?_)⟩⟩) fun h => niD_call fun t ht hi hd => q t ht (alB_int hi) hd
      simp only [List.mem_cons, List.not_mem_nil, or_false] at hx
      rcases hx with rfl | rfl | rfl | rfl | rfl | rfl
      · exact q _ rfl (by decide +kernel) (Nat.zero_le _)
      · exact q _ rfl (by decide +kernel) (Nat.zero_le _)
      · exact q _ rfl (alB_big (by decide)) (Nat.zero_le _)
      · exact q _ rfl (alB_big (by omega)) (Nat.zero_le _)
      · exact q _ rfl (alB_neg (by decide)) (Nat.zero_le _)
      · exact q _ rfl (alB_big (by decide)) (Nat.zero_le _)
theorem ok_law_refused_right (T : Tx K mg) : FnOk P w K mg base CX0 10 (He.ga K "_law_refused_right") T.fd_law_refused_right P_law_refused_right (spD K (wa_rright K) 4) := by
  refine dok T.F_law_refused_right sc_law_refused_right fun cdv A outer s H E hr => ?_
  refine' dokMk (PSs.nox (pss_cons (ps_set (i := 4) sc_law_refused_right.nd rfl (Or.inl rfl) (pe_call (ok_law_not_within T) (hr.mono (by decide)) rfl T.g_law_not_within T.F_law_not_within.kp (b_law_not_within T) .nil pass0 (pa_cons (pv 0) (pa_cons (pe_int) (pa_cons (pe_op op_pow (pe_int) (pe_int)) pa_nil))))) (pss_cons (ps_set (i := 5) sc_law_refused_right.nd rfl (Or.inl rfl) (pe_call (ok_law_not_alignment T) (hr.mono (by decide)) rfl T.g_law_not_alignment T.F_law_not_alignment.kp (b_law_not_alignment T) .nil pass0 (pa_cons (pv 0) (pa_cons (pe_op op_pow (pe_int) (pe_int)) pa_nil)))) (pss_cons (ps_set (i := 6) sc_law_refused_right.nd rfl (Or.inl rfl) (pe_call (ok_law_among T) (hr.mono (by decide)) rfl T.g_law_among T.F_law_among.kp (b_law_among T) .nil pass0 (pa_cons (pv 0) (pa_cons (pe_lst (pa_cons (pe_lst (pa_cons (pe_int) (pa_cons (pe_int) pa_nil))) (pa_cons (pe_tup (pa_cons (pe_int) (pa_cons (pe_int) (pa_cons (pe_int) pa_nil)))) (pa_cons (pe_tup (pa_cons (pe_int) pa_nil)) (pa_cons (pe_tup (pa_cons (pe_int) (pa_cons (pe_int) pa_nil))) (pa_cons (pe_tup (pa_cons (pe_un un_neg (pe_int)) (pa_cons (pe_int) pa_nil))) (pa_cons (pe_tup (pa_cons (pe_int) (pa_cons (pe_un un_neg (pe_int)) pa_nil))) (pa_cons (pe_tup (pa_cons (pe_int) (pa_cons (pe_op op_sub (pe_op op_pow (pe_int) (pe_int)) (pe_int)) pa_nil))) (pa_cons (pe_tup (pa_cons (pe_bl) (pa_cons (pe_int) pa_nil))) (pa_cons (pe_non) pa_nil)))))))))) pa_nil)))) (pss_cons (ps_set (i := 7) sc_law_refused_right.nd rfl (Or.inl rfl) (pe_call (ok_law_copy T 8) hr rfl T.g_law_copy T.F_law_copy.kp (b_law_copy T) .nil pass0 (pa_cons (pe_lst (pa_cons (pv 4) (pa_cons (pv 5) (pa_cons (pv 6) pa_nil)))) pa_nil))) (pss_cons (ps_for PassesOwn.never rfl (LT.pi_seqK (K := K) rfl (pe_lst (pa_cons (pe_str) (pa_cons (pe_str) pa_nil)))) (pg_name (i := 8) sc_law_refused_right.nd rfl (Or.inl rfl)) (pss_cons (ps_if (pt_not (pt_val (pe_call (ok_law_same T 8) hr rfl T.g_law_same T.F_law_same.kp (b_law_same T) .nil pass0 (pa_cons (pe_call (ok_law_asked T) (hr.mono (by decide)) rfl T.g_law_asked T.F_law_asked.kp (b_law_asked T) .nil pass0 (pa_cons (pv 1) (pa_cons (pv 8) (pa_cons (pv 4) (pa_cons (pv 3) pa_nil))))) (pa_cons (pe_call (ok_law_refused T) (hr.mono (by decide)) rfl T.g_law_refused T.F_law_refused.kp (b_law_refused T) .nil pass0 (pa_cons (pe_str) (pa_cons (pe_tup (pa_cons (pe_str) pa_nil)) pa_nil))) pa_nil))))) (pss_one (ps_ret (pe_bl))) pss_nil) (pss_cons (ps_if (pt_not (pt_val (pe_call (ok_law_same T 8) hr rfl T.g_law_same T.F_law_same.kp (b_law_same T) .nil pass0 (pa_cons (pe_call (ok_law_asked T) (hr.mono (by decide)) rfl T.g_law_asked T.F_law_asked.kp (b_law_asked T) .nil pass0 (pa_cons (pv 1) (pa_cons (pv 8) (pa_cons (pv 2) (pa_cons (pv 5) pa_nil))))) (pa_cons (pe_call (ok_law_refused T) (hr.mono (by decide)) rfl T.g_law_refused T.F_law_refused.kp (b_law_refused T) .nil pass0 (pa_cons (pe_str) (pa_cons (pe_tup (pa_cons (pe_str) pa_nil)) pa_nil))) pa_nil))))) (pss_one (ps_ret (pe_bl))) pss_nil) (pss_one (ps_if (pt_not (pt_val (pe_call (ok_law_same T 8) hr rfl T.g_law_same T.F_law_same.kp (b_law_same T) .nil pass0 (pa_cons (pe_call (ok_law_asked T) (hr.mono (by decide)) rfl T.g_law_asked T.F_law_asked.kp (b_law_asked T) .nil pass0 (pa_cons (pv 1) (pa_cons (pv 8) (pa_cons (pv 4) (pa_cons (pv 5) pa_nil))))) (pa_cons (pe_call (ok_law_refused T) (hr.mono (by decide)) rfl T.g_law_refused T.F_law_refused.kp (b_law_refused T) .nil pass0 (pa_cons (pe_str) (pa_cons (pe_tup (pa_cons (pe_str) pa_nil)) pa_nil))) pa_nil))))) (pss_one (ps_ret (pe_bl))) pss_nil))))) (pss_cons (ps_if (pt_not (pt_val (pe_call (ok_law_same T 8) hr rfl T.g_law_same T.F_law_same.kp (b_law_same T) .nil pass0 (pa_cons (pe_call (ok_law_asked T) (hr.mono (by decide)) rfl T.g_law_asked T.F_law_asked.kp (b_law_asked T) .nil pass0 (pa_cons (pv 1) (pa_cons (pe_str) (pa_cons (pv 6) (pa_cons (pe_non) pa_nil))))) (pa_cons (pe_call (ok_law_refused T) (hr.mono (by decide)) rfl T.g_law_refused T.F_law_refused.kp (b_law_refused T) .nil pass0 (pa_cons (pe_str) (pa_cons (pe_tup (pa_cons (pe_str) pa_nil)) pa_nil))) pa_nil))))) (pss_one (ps_ret (pe_bl))) pss_nil) (pss_one (ps_ret (pe_call (ok_law_same T 8) hr rfl T.g_law_same T.F_law_same.kp (b_law_same T) .nil pass0 (pa_cons (pe_lst (pa_cons (pv 4) (pa_cons (pv 5) (pa_cons (pv 6) pa_nil)))) (pa_cons (pv 7) pa_nil)))))))))))) ?sim ?go
  case sim =>
    try simp only [LL.cxK0, LL.cxK1, List.map_cons, List.map_nil]
    repeat' (first | fail "f" | with_reducible exact simc_isiO | with_reducible apply sim_iR3 | with_reducible apply sim_gLst | with_reducible apply sim_tryR0 | with_reducible apply sim_tryR | with_reducible apply SimRow.cons | with_reducible exact SimRow.nil | with_reducible apply sim_mthS (dts := []) .nil | with_reducible apply sim_makeK (gT := fun ts us => ts ++ us) (fun _ _ _ _ _ _ _ h1 h2 => vdl_app h2 h1) | with_reducible apply sim_makeK (gT := fun ts us => ts ++ us ++ [.non]) (fun _ _ _ _ _ _ _ h1 h2 => vdl_app vdl_N (vdl_app h2 h1)) | with_reducible apply sim_make0 (dts := [.int 0, .non]) df_0N | with_reducible apply sim_fld T.c_Places T.n_Places__spans | with_reducible apply sim_setF T.c_Places T.n_Places__spans | with_reducible apply sim_forI | with_reducible apply sim_pop | with_reducible apply sim_tru | with_reducible apply sim_prop | with_reducible apply sim_make (dts := []) .nil | with_reducible apply sim_make0 (dts := []) .nil | with_reducible apply sim_meth0 (dts := []) .nil | with_reducible apply sim_meth (dts := []) .nil | fail "s")
  case go =>
    intro ts Ω PQ PX hl h
    obtain ⟨a, dx, ms, n, al, rfl, ha, hn, hg, hl, n1, n2, q⟩ := h
    have pw9 : CPow 10 9 := by unfold CPow; decide
    have pw2 : CPow 2 30 := by unfold CPow; decide
    simp! only [N_law_refused_right]
    refine ⟨pw9, nwD_call ⟨by decide, by decide⟩ fun t1 d1 i1 p1 => ⟨pw2, rfl, fun t2 d2 i2 p2 => lst_in ⟨pw9, lst_in (am_call (us := [.lst [.int 3, .int 4], Tr.tup [Tr.int 3, Tr.int 4, Tr.int 1], Tr.tup [Tr.int 3], Tr.tup [Tr.int 3, Tr.int 0], Tr.tup [Tr.int (-1), Tr.int 4], Tr.tup [Tr.int 3, Tr.int (-4)], Tr.tup [Tr.int 4, Tr.int 999999997], Tr.tup [Tr.bl true, Tr.int 4], Tr.non]) rfl (by simp) fun t3 h3 => ?_)⟩⟩⟩
    have W : dataT t3 = true ∧ spanB t3 = false ∧ depTr2 t3 ≤ 2 := by
      simp only [List.mem_cons, List.not_mem_nil, or_false] at h3
      rcases h3 with rfl | rfl | rfl | rfl | rfl | rfl | rfl | rfl | rfl
      all_goals exact ⟨rfl, rfl, Nat.le_of_ble_eq_true rfl⟩
    obtain ⟨d3, s3, p3⟩ := W
    have dd : dataT (.lst [t1, t2, t3]) = true := by
      show (dataT t1 && (dataT t2 && (dataT t3 && true))) = true
      rw [d1, d2, d3]
      rfl
    have pp : depTr2 (.lst [t1, t2, t3]) < 8 := by
      have : depTrs2 [t1, t2, t3] ≤ 2 := depTrs2_of fun t ht => by
        simp only [List.mem_cons, List.not_mem_nil, or_false] at ht
        rcases ht with rfl | rfl | rfl
        · exact p1
        · exact p2
        · exact p3
      show depTrs2 _ + 1 < 8
      omega
    refine lst_in ⟨_, rfl, dd, pp, ?_⟩
    simp! only [and_true]
    refine for_Se (t := .lst [.str "first", .str "best"]) (ts := [.str "first", .str "best"]) (Ω1 := Ω) (fun P p => ?_) rfl (fun i ρ' Ω' => Ω' = Ω ∧ ∃ (x8 : Option Tr), ρ' = [some .drw, some (.obj a), some (.int n), some (.int al), some t1, some t2, some t3, some (.lst [t1, t2, t3]), x8]) ⟨rfl, _, rfl⟩ (fun _ _ _ w => trivial) ?_ ?_
    · simp! only [and_true]
      exact lst_in p
    · rintro hz i y ρ' Ω' hx ⟨rfl, x8, rfl⟩
      match i, hx with
      | 0, hx =>
        cases hx
        simp! only [and_true]
        refine ask_size ha hn hg (by omega) (.inl ⟨rfl, rfl, rfl⟩) d1 rfl i1 ⟨_, rfl, sm_call rfl (Nat.le_of_ble_eq_true rfl) ⟨true, rfl, ?_⟩⟩
        rw [if_neg (by decide)]
        refine ask_align ha hn hg (by omega) (.inl ⟨rfl, rfl, rfl⟩) d2 n1 n2 i2 ⟨_, rfl, sm_call rfl (Nat.le_of_ble_eq_true rfl) ⟨true, rfl, ?_⟩⟩
        rw [if_neg (by decide)]
        refine ask_size ha hn hg (by omega) (.inl ⟨rfl, rfl, rfl⟩) d1 d2 i1 ⟨_, rfl, sm_call rfl (Nat.le_of_ble_eq_true rfl) ⟨true, rfl, ?_⟩⟩
        rw [if_neg (by decide)]
      | 1, hx =>
        cases hx
        simp! only [and_true]
        refine ask_size ha hn hg (by omega) (.inr (.inl ⟨rfl, rfl, rfl⟩)) d1 rfl i1 ⟨_, rfl, sm_call rfl (Nat.le_of_ble_eq_true rfl) ⟨true, rfl, ?_⟩⟩
        rw [if_neg (by decide)]
        refine ask_align ha hn hg (by omega) (.inr (.inl ⟨rfl, rfl, rfl⟩)) d2 n1 n2 i2 ⟨_, rfl, sm_call rfl (Nat.le_of_ble_eq_true rfl) ⟨true, rfl, ?_⟩⟩
        rw [if_neg (by decide)]
        refine ask_size ha hn hg (by omega) (.inr (.inl ⟨rfl, rfl, rfl⟩)) d1 d2 i1 ⟨_, rfl, sm_call rfl (Nat.le_of_ble_eq_true rfl) ⟨true, rfl, ?_⟩⟩
        rw [if_neg (by decide)]
    · rintro ρ' Ω' ⟨rfl, x8, rfl⟩
      simp! only [and_true]
      refine ask_span ha hn hg (by omega) d3 s3 ⟨_, rfl, sm_call rfl (Nat.le_of_ble_eq_true rfl) ⟨true, rfl, ?_⟩⟩
      rw [if_neg (by decide)]
      exact lst_in (sm_call dd pp q)
end
section
open PySem PySem.Spec PyProof.Rows L2 LL LT
variable {P : Program} {w : World} {K : PySem.W.Frag} {mg : Str → Option Value} {base : Heap}

noncomputable def sp_law (K : PySem.W.Frag) : Sp := fun vs H Q _ => ∃ (a : Addr) (ns : List Int), vs = [.ref a] ∧ SqL K H a (ns.map V.int) ∧ ns.length ≤ 100000 ∧ ∀ H', Q (.bl true) H'
theorem spT_inj {as bs : List Spn} (h : as.map spT = bs.map spT) : as = bs := (List.map_inj_right (fun a b e => by
  obtain ⟨a1, a2⟩ := a
  obtain ⟨b1, b2⟩ := b
  unfold spT at e
  cases e
  rfl)).mp h
theorem good_true {t : Tr} {Ω : Om} {rs : List Spn} (hs : asS t Ω = some (rs.map spT)) (hg : GoodS rs) (hl : rs.length ≤ 20000) : goodO t Ω = true := by
  unfold goodO
  rw [hs]
  simp only [List.length_map]
  rw [decide_eq_true hl, spans_good hg]
  rfl
theorem pinit_call {K : PySem.W.Frag} {a dx : Addr} {t : Tr} {rs : List Spn} {Ω : Om} {PQ : PT'} {PX : PXt} (ha : Ω a = some (.ins (cP K) dx [] [])) (hk : RowK K t Ω) (hs : asS t Ω = some (rs.map spT)) (hg : GoodS rs) (hl : rs.length ≤ 20000)
    (k : ∀ ms, NormS ms → (∀ x, CovS ms x ↔ CovS rs x) → ms.length ≤ rs.length → PQ .non (put Ω a (.ins (cP K) dx ["_spans"] [.tup (ms.map spT)]))) : wa_pinit K [.obj a, t] Ω PQ PX :=
  ⟨a, dx, t, rfl, ha, hk, fun z => (by rw [good_true hs hg hl] at z; cases z), fun rs' hs' _ _ ms n c l => by
    rw [hs] at hs'
    obtain rfl := spT_inj (Option.some.inj hs')
    exact k ms n c l⟩
theorem row2_get {r : Nat → List Spn} {i : Nat} {x : Tr} (h : [Tr.lst ((r 0).map spT), Tr.lst ((r 1).map spT)][i]? = some x) : i < 2 ∧ x = .lst ((r i).map spT) := by
  match i, h with
  | 0, h => cases h; exact ⟨by decide, rfl⟩
  | 1, h => cases h; exact ⟨by decide, rfl⟩
theorem ok_law (T : Tx K mg) : FnOk P w K mg base CX0 11 (He.ga K "law") T.fd_law P_law (sp_law K) := by
  refine T.F_law.ok sc_law (fun vs H Q E h => by obtain ⟨_, _, rfl, _⟩ := h; rfl) (fun cdv A outer s H vs Q E hr h => ?_)
  obtain ⟨a, ns, rfl, hs, hn, q⟩ := h
  refine ⟨_, PSs.nox (pss_cons (ps_set (i := 1) sc_law.nd rfl (Or.inr rfl) (pe_call (ok_law_draws T) (hr.mono (by decide)) rfl T.g_law_draws T.F_law_draws.kp (b_law_draws T) .nil pass0 (pa_cons (pv 0) pa_nil))) (pss_cons (ps_set (i := 2) sc_law.nd rfl (Or.inr rfl) (pe_call (ok_law_among T) (hr.mono (by decide)) rfl T.g_law_among T.F_law_among.kp (b_law_among T) .nil pass0 (pa_cons (pv 1) (pa_cons (pe_lst (pa_cons (pe_int) (pa_cons (pe_int) (pa_cons (pe_op op_pow (pe_int) (pe_int)) pa_nil)))) pa_nil)))) (pss_cons (ps_setLc (i := 3) (own := [("_law_k", 10)]) rfl sc_law.nd rfl rfl (sw_true rfl rfl rfl (by decide +kernel)) (pi_range1 rfl T.z_range (pa_cons (pe_int) pa_nil)) (blkOk_by (N := N_law) (sc := defScope s_law) (by decide +kernel)) (fun _ _ _ _ _ => (pg_name (i := 10) sc_law.nd rfl (Or.inl rfl))) (fun _ _ _ _ _ => pts_nil) (fun _ _ _ _ _ => (pe_call (ok_law_spans T) (hr.mono (by decide)) rfl T.g_law_spans T.F_law_spans.kp (b_law_spans T) .nil pass0 (pa_cons (pv 1) (pa_cons (pe_call (ok_law_count T) (hr.mono (by decide)) rfl T.g_law_count T.F_law_count.kp (b_law_count T) .nil pass0 (pa_cons (pv 1) (pa_cons (pe_int) (pa_cons (pe_int) pa_nil)))) (pa_cons (pv 2) pa_nil)))))) (pss_cons (ps_setLc (i := 4) (own := [("_law_row", 11)]) rfl sc_law.nd rfl rfl (sw_true rfl rfl rfl (by decide +kernel)) (LT.pi_seqK (K := K) rfl (pv 3)) (blkOk_by (N := N_law) (sc := defScope s_law) (by decide +kernel)) (fun _ _ _ _ _ => (pg_name (i := 11) sc_law.nd rfl (Or.inl rfl))) (fun _ _ _ _ _ => pts_nil) (fun _ _ _ _ _ => (pe_call (ok_law_normal_of T) (hr.mono (by decide)) rfl T.g_law_normal_of T.F_law_normal_of.kp (b_law_normal_of T) .nil pass0 (pa_cons (pv 11) pa_nil)))) (pss_cons (ps_setLc (i := 5) (own := [("_law_row", 11)]) rfl sc_law.nd rfl rfl (sw_true rfl rfl rfl (by decide +kernel)) (LT.pi_seqK (K := K) rfl (pv 3)) (blkOk_by (N := N_law) (sc := defScope s_law) (by decide +kernel)) (fun _ _ _ _ _ => (pg_name (i := 11) sc_law.nd rfl (Or.inl rfl))) (fun _ _ _ _ _ => pts_nil) (fun _ _ _ _ _ => (pe_make T.k_Places (ok_Places_init T) (hr.mono (by decide)) rfl T.g_Places (b1_Places_init T).choose_spec.2 (b1_Places_init T).choose_spec.1 passE0 (pa_cons (pe_callTy (show CallR _ _ (LT.rList K) from LT.call_list rfl) (by rfl) T.z_list (by decide +kernel) (pa_cons (pv 11) pa_nil)) pa_nil)))) (pss_cons (ps_set (i := 6) sc_law.nd rfl (Or.inl rfl) (pe_int)) (pss_cons (ps_set (i := 7) sc_law.nd rfl (Or.inl rfl) (pe_int)) (pss_cons (ps_for PassesOwn.never rfl (pi_range1 rfl T.z_range (pa_cons (pe_int) pa_nil)) (pg_name (i := 8) sc_law.nd rfl (Or.inl rfl)) (pss_cons (ps_set (i := 9) sc_law.nd rfl (Or.inl rfl) (pe_op op_mod (pv 8) (pe_int))) (pss_cons (ps_set (i := 6) sc_law.nd rfl (Or.inl rfl) (pe_call (ok_law_size T) (hr.mono (by decide)) rfl T.g_law_size T.F_law_size.kp (b_law_size T) .nil pass0 (pa_cons (pv 1) (pa_cons (pe_ix (show IxR _ (LL.rIxA K) from LL.ix_A) (pv 4) (pv 9) (fun _ _ => rfl)) pa_nil)))) (pss_cons (ps_set (i := 7) sc_law.nd rfl (Or.inl rfl) (pe_call (ok_law_alignment T) (hr.mono (by decide)) rfl T.g_law_alignment T.F_law_alignment.kp (b_law_alignment T) .nil pass0 (pa_cons (pv 1) (pa_cons (pe_op (show OpR _ _ (LT.rAddG K) from LT.op_addG) (pe_int) (pe_op op_mul (pe_int) (pe_op op_fdiv (pe_call (okt_law_take T) (hr.mono (by decide)) rfl T.g_law_take T.F_law_take.kp (b_law_take T) .nil pass0 (pa_cons (pv 1) (pa_cons (pe_int) pa_nil))) (pe_int)))) pa_nil)))) (pss_cons (ps_if (pt_not (pt_val (pe_call (ok_law_starts_right T) hr rfl T.g_law_starts_right T.F_law_starts_right.kp (b_law_starts_right T) .nil pass0 (pa_cons (pe_ix (show IxR _ (LL.rIxA K) from LL.ix_A) (pv 5) (pv 9) (fun _ _ => rfl)) (pa_cons (pe_ix (show IxR _ (LL.rIxA K) from LL.ix_A) (pv 3) (pv 9) (fun _ _ => rfl)) (pa_cons (pv 6) (pa_cons (pv 7) pa_nil))))))) (pss_one (ps_ret (pe_bl))) pss_nil) (pss_cons (ps_if (pt_not (pt_val (pe_call (ok_law_starts_right T) hr rfl T.g_law_starts_right T.F_law_starts_right.kp (b_law_starts_right T) .nil pass0 (pa_cons (pe_ix (show IxR _ (LL.rIxA K) from LL.ix_A) (pv 5) (pe_op op_sub (pe_int) (pv 9)) (fun _ _ => rfl)) (pa_cons (pe_ix (show IxR _ (LL.rIxA K) from LL.ix_A) (pv 3) (pe_op op_sub (pe_int) (pv 9)) (fun _ _ => rfl)) (pa_cons (pv 6) (pa_cons (pv 7) pa_nil))))))) (pss_one (ps_ret (pe_bl))) pss_nil) (pss_one (ps_if (pt_not (pt_val (pe_call (ok_law_covers_right T) hr rfl T.g_law_covers_right T.F_law_covers_right.kp (b_law_covers_right T) .nil pass0 (pa_cons (pe_ix (show IxR _ (LL.rIxA K) from LL.ix_A) (pv 5) (pv 9) (fun _ _ => rfl)) (pa_cons (pe_ix (show IxR _ (LL.rIxA K) from LL.ix_A) (pv 4) (pv 9) (fun _ _ => rfl)) (pa_cons (pe_call (ok_law_tried_spans T) (hr.mono (by decide)) rfl T.g_law_tried_spans T.F_law_tried_spans.kp (b_law_tried_spans T) .nil pass0 (pa_cons (pv 1) (pa_cons (pe_ix (show IxR _ (LL.rIxA K) from LL.ix_A) (pv 4) (pv 9) (fun _ _ => rfl)) pa_nil))) pa_nil)))))) (pss_one (ps_ret (pe_bl))) pss_nil)))))))) (pss_cons (ps_if (pt_not (pt_val (pe_call (ok_law_refused_right T) hr rfl T.g_law_refused_right T.F_law_refused_right.kp (b_law_refused_right T) .nil pass0 (pa_cons (pv 1) (pa_cons (pe_ix (show IxR _ (LL.rIxA K) from LL.ix_A) (pv 5) (pe_int) (fun _ _ => rfl)) (pa_cons (pv 6) (pa_cons (pv 7) pa_nil))))))) (pss_one (ps_ret (pe_bl))) pss_nil) (pss_one (ps_ret ((pe_and (pe_call (ok_law_starts_right T) hr rfl T.g_law_starts_right T.F_law_starts_right.kp (b_law_starts_right T) .nil pass0 (pa_cons (pe_ix (show IxR _ (LL.rIxA K) from LL.ix_A) (pv 5) (pe_int) (fun _ _ => rfl)) (pa_cons (pe_ix (show IxR _ (LL.rIxA K) from LL.ix_A) (pv 3) (pe_int) (fun _ _ => rfl)) (pa_cons (pv 6) (pa_cons (pv 7) pa_nil))))) (pe_one (pe_call (ok_law_same T 8) (hr.mono (by decide)) rfl T.g_law_same T.F_law_same.kp (b_law_same T) .nil pass0 (pa_cons (pe_prop (pe_ix (show IxR _ (LL.rIxA K) from LL.ix_A) (pv 5) (pe_int) (fun _ _ => rfl)) T.c_Places T.p_Places_spans (ok_Places_spans T) (hr.mono (by decide)) (b_Places_spans T) .nil pass0 rfl) (pa_cons (pe_ix (show IxR _ (LL.rIxA K) from LL.ix_A) (pv 4) (pe_int) (fun _ _ => rfl)) pa_nil))))))))))))))))), ?_⟩
  refine law_cut (fun σ' H' => ∃ d s, σ' = some (.ref a) :: some (.ref d) :: List.replicate 10 none ∧ Drw d s H') ?_ ?_
  · intro N hN
    simp only [tSeq, tAsg, tRet, tRetN, tDrop, tNext, tVar, tC, gName, tOp, tUn, rI, rI0, rU, tIfS, tTest, tB, tIf, tAnd, tOr, tNot, tAndV, tOrV, tNotV, tCall, tCons, tNil, tCB, tLst, tTup, tChain, CMul, CDiv, CPow, rEq, rNe, gSub, L2.start, LL.cxK0, LL.cxK1, List.map_cons, List.map_nil, List.length_cons, List.length_nil, List.replicate_succ, List.replicate_zero, List.cons_append, List.nil_append, List.append_nil, List.getElem?_cons_zero, List.getElem?_cons_succ, List.set_cons_zero, List.set_cons_succ, Nat.add_sub_cancel, Nat.reduceAdd, Nat.reduceSub, Option.some.injEq, V.int.injEq, V.bl.injEq, V.ref.injEq, V.str.injEq, List.cons.injEq, and_true, true_and, and_false, false_and, exists_eq_left, exists_eq_left', exists_and_left, exists_and_right, exists_eq, exists_eq', LL.if_dec, reduceCtorEq, exists_false, exists_const, or_false, false_or, if_true, if_false, LL.rInt1, LL.rMx, LL.rMn, and_assoc, Int.reduceNeg, Int.reduceLT, Int.reduceLE, Int.reduceMul, Int.reduceAdd, Int.reduceSub, Int.reducePow, Int.reduceToNat, Nat.reducePow, Nat.reduceLT, true_or, or_true, Bool.not_true, Bool.not_false, Bool.false_eq_true, Bool.or_false, Bool.or_true, Bool.true_or, Bool.false_or, decide_true, decide_false, not_true_eq_false, not_false_eq_true, LL.scal_int, LL.scal_bl, LL.scal_str, LL.isInt, LL.isBl, LL.isStr, LL.isLst, LL.isTup, LL.isDic, N_law]
    exact ⟨a, ns, rfl, hs, hn, fun d s H1 s1 D1 nd ns' => hN _ _ ⟨d, s, rfl, D1⟩⟩
  · rintro σ' H' ⟨d, s', rfl, D1⟩
    refine' law_sim (K := K) (E := fun _ => E) (n := 10) ?sim rfl D1 q _ ?go
    case sim =>
      try simp only [LL.cxK0, LL.cxK1, List.map_cons, List.map_nil]
      repeat' (first | fail "f" | with_reducible exact simc_isiO | with_reducible apply sim_iR3 | with_reducible apply sim_gLst | with_reducible apply sim_tryR0 | with_reducible apply sim_tryR | with_reducible apply SimRow.cons | with_reducible exact SimRow.nil | with_reducible apply sim_mthS (dts := []) .nil | with_reducible apply sim_makeK (gT := fun ts us => ts ++ us) (fun _ _ _ _ _ _ _ h1 h2 => vdl_app h2 h1) | with_reducible apply sim_makeK (gT := fun ts us => ts ++ us ++ [.non]) (fun _ _ _ _ _ _ _ h1 h2 => vdl_app vdl_N (vdl_app h2 h1)) | with_reducible apply sim_make0 (dts := [.int 0, .non]) df_0N | with_reducible apply sim_fld T.c_Places T.n_Places__spans | with_reducible apply sim_setF T.c_Places T.n_Places__spans | with_reducible apply sim_forI | with_reducible apply sim_pop | with_reducible apply sim_tru | with_reducible apply sim_prop | with_reducible apply sim_make (dts := []) .nil | with_reducible apply sim_make0 (dts := []) .nil | with_reducible apply sim_meth0 (dts := []) .nil | with_reducible apply sim_meth (dts := []) .nil | fail "s")
    case go =>
      generalize (fun _ => none : Om) = Ω
      simp! only [N_law]
      have pw9 : CPow 10 9 := by unfold CPow; decide
      refine ⟨pw9, lst_in (am_call (us := [.int 24, .int 60, .int 1000000000]) rfl (by simp) fun mt hmt => ?_)⟩
      obtain ⟨most, rfl, mo0, mo1⟩ : ∃ most : Int, mt = .int most ∧ 1 ≤ most ∧ most ≤ 1000000000 := by
        simp only [List.mem_cons, List.not_mem_nil, or_false] at hmt
        rcases hmt with rfl | rfl | rfl
        all_goals exact ⟨_, rfl, by decide, by decide⟩
      refine lc_B (items := [.int 0, .int 1]) (st := fun _ => True) (fun R rr => ?_) trivial (fun t => ∃ rs : List Spn, t = .lst (rs.map spT) ∧ GoodS rs ∧ rs.length ≤ 20) (fun x hx Q N' q1 => ?_) fun us2 hus hul _ => ?_
      · simp! only [and_true]
        exact rr (Nat.le_of_ble_eq_true rfl)
      · simp! only [and_true]
        refine ct_call ⟨by decide, by decide, by decide⟩ fun v v0 v1 => ⟨v, most, rfl, v0, by omega, mo0, mo1, fun rs hm hl => q1 _ ⟨rs, rfl, fun s hs => ?_, by omega⟩⟩
        have := hm s hs
        omega
      obtain ⟨r, rfl, hr⟩ : ∃ r : Nat → List Spn, us2 = [.lst ((r 0).map spT), .lst ((r 1).map spT)] ∧ ∀ k, GoodS (r k) ∧ (r k).length ≤ 20 := by
        match us2, hul, hus with
        | [x, y], _, hus =>
          obtain ⟨r0, rfl, h0, h1⟩ := hus x List.mem_cons_self
          obtain ⟨r1, rfl, h2, h3⟩ := hus y (List.mem_cons_of_mem _ List.mem_cons_self)
          refine ⟨fun k => if k = 0 then r0 else r1, rfl, fun k => ?_⟩
          by_cases hk : k = 0
          · simp only [hk, if_true]
            exact ⟨h0, h1⟩
          · simp only [hk, if_false]
            exact ⟨h2, h3⟩
      refine lst_in ?_
      simp! only [and_true]
      refine ⟨_, rfl, _, rfl, fun hz => ⟨hz, fun i acc Ω' => Ω' = Ω ∧ ∃ (m : Nat → List Spn), acc = (List.range i).map (fun k => Tr.lst ((m k).map spT)) ∧ ∀ k, k < i → NormS (m k) ∧ (∀ x, CovS (m k) x ↔ CovS (r k) x) ∧ (m k).length ≤ 40, ⟨rfl, fun _ => [], rfl, fun k hk => by omega⟩, fun _ _ _ _ => trivial, ?_, ?_⟩⟩
      · rintro i x acc Ω' hx ⟨rfl, m, rfl, hA⟩
        obtain ⟨hi, rfl⟩ := row2_get hx
        obtain ⟨gr, lr⟩ := hr i
        simp! only [and_true]
        refine ⟨r i, rfl, by omega, fun ms n cv ln => ⟨rfl, fun k => if k = i then ms else m k, ?_, fun k hk => ?_⟩⟩
        · rw [List.range_succ, List.map_append]
          congr 1
          · exact List.map_congr_left fun k hk => by
              have := List.mem_range.mp hk
              simp only
              rw [if_neg (by omega)]
          · simp
        · by_cases e : k = i
          · subst e
            simp only [if_true]
            exact ⟨n, cv, by omega⟩
          · simp only [if_neg e]
            exact hA k (by omega)
      rintro acc Ω' ⟨rfl, m, rfl, hM⟩
      refine lst_in ?_
      have hM2 : ∀ k, k < 2 → NormS (m k) ∧ (∀ x, CovS (m k) x ↔ CovS (r k) x) ∧ (m k).length ≤ 40 := hM
      have gM : ∀ k, k < 2 → GoodS (m k) := fun k hk => goodN (hM2 k hk).1 fun x h => covN (hr k).1 (((hM2 k hk).2.1 x).mp h)
      show dLc _ _ _ _ _ [none, some Tr.drw, some (.int most), some (Tr.lst [Tr.lst ((r 0).map spT), Tr.lst ((r 1).map spT)]), some (Tr.lst [Tr.lst ((m 0).map spT), Tr.lst ((m 1).map spT)]), none, none, none, none, none, none, none] _ _ _
      clear hM
      refine ⟨_, rfl, _, rfl, fun hz => ⟨hz, fun i acc Ω2 => ∃ (a : Nat → Addr), acc = (List.range i).map (fun k => Tr.obj (a k)) ∧ ∀ k, k < i → k < 2 → ∃ dx, Ω2 (a k) = some (.ins (cP K) dx ["_spans"] [.tup ((m k).map spT)]), ⟨fun _ => 0, rfl, fun k hk => by omega⟩, fun _ _ _ _ => trivial, ?_, ?_⟩⟩
      · rintro i x acc Ω2 hx ⟨a, rfl, hA⟩
        obtain ⟨hi, rfl⟩ := row2_get hx
        obtain ⟨gr, lr⟩ := hr i
        simp! only [and_true]
        refine .inl fun _ => lst_in fun b dx hb => pinit_call (rs := r i) put_same (.inl spans_data) rfl gr (by omega) fun ms n cv ln => ⟨rfl, fun k => if k = i then b else a k, ?_, fun k hk hk2 => ?_⟩
        · rw [List.range_succ, List.map_append]
          congr 1
          · exact List.map_congr_left fun k hk => by
              have := List.mem_range.mp hk
              simp only
              rw [if_neg (by omega)]
          · simp
        · rw [put_put]
          by_cases e : k = i
          · subst e
            simp only [if_true]
            rw [norm_uniq n (hM2 k hi).1 (fun x => (cv x).trans ((hM2 k hi).2.1 x).symm)]
            exact ⟨dx, put_same⟩
          · simp only [if_neg e]
            obtain ⟨dy, h1⟩ := hA k (by omega) hk2
            exact ⟨dy, by rw [put_ne (fun z => by rw [z, hb] at h1; cases h1)]; exact h1⟩
      rintro acc Ω2 ⟨a, rfl, hA⟩
      have hA2 : ∀ k, k < 2 → ∃ dx, Ω2 (a k) = some (.ins (cP K) dx ["_spans"] [.tup ((m k).map spT)]) := fun k hk => hA k hk hk
      have SR : ∀ (k : Nat) (n al : Int) (P : PT') (X : PXt), k < 2 → 1 ≤ n → n ≤ 1000000000 → isP al = true → al ≤ 1073741824 → P (.bl true) Ω2 → wa_sright K [.obj (a k), .lst ((r k).map spT), .int n, .int al] Ω2 P X := fun k n al P X hk n1 n2 hp ha2 h => by
        obtain ⟨dx, h1⟩ := hA2 k hk
        obtain ⟨h2, h3, h4⟩ := hM2 k hk
        have := (hr k).2
        exact ⟨a k, dx, r k, m k, n, al, rfl, h1, gM k hk, ⟨(hr k).1, by omega, h2, by omega, h3, n1, n2, hp, ha2⟩, h⟩
      have TR : ∀ (k : Nat) (P : PT') (X : PXt), k < 2 → (∀ qs, GoodS qs → P (.lst (qs.map spT)) Ω2) → wp_tried [.drw, .lst ((m k).map spT)] Ω2 P X := fun k P X hk h => by
        obtain ⟨h2, h3, h4⟩ := hM2 k hk
        exact ⟨m k, rfl, gM k hk, by omega, fun qs hq _ => h qs hq⟩
      have CR : ∀ (k : Nat) (qs : List Spn) (P : PT') (X : PXt), k < 2 → GoodS qs → P (.bl true) Ω2 → wa_cright K [.obj (a k), .lst ((m k).map spT), .lst (qs.map spT)] Ω2 P X := fun k qs P X hk hq h => by
        obtain ⟨dx, h1⟩ := hA2 k hk
        obtain ⟨h2, h3, h4⟩ := hM2 k hk
        exact ⟨a k, dx, m k, qs, rfl, h1, h2, gM k hk, by omega, hq, h⟩
      have SZ : ∀ (k : Nat) (P : PT') (X : PXt), k < 2 → (∀ n : Int, 1 ≤ n → n ≤ 1000000000 → P (.int n) Ω2) → wp_size [.drw, .lst ((m k).map spT)] Ω2 P X := fun k P X hk h => by
        obtain ⟨h2, h3, h4⟩ := hM2 k hk
        exact ⟨m k, rfl, gM k hk, by omega, h⟩
      refine lst_in ?_
      simp! only [and_true]
      refine for_R1 (n := 3) (Ω1 := Ω2) (fun P p => ?_) (by omega) (fun i ρ' Ω' => Ω' = Ω2 ∧ ∃ (n al : Int) (x8 x9 x10 x11 : Option Tr), (1 ≤ n ∧ n ≤ 1000000000 ∧ isP al = true ∧ al ≤ 1073741824) ∧ ρ' = [none, some Tr.drw, some (.int most), some (Tr.lst [Tr.lst ((r 0).map spT), Tr.lst ((r 1).map spT)]), some (Tr.lst [Tr.lst ((m 0).map spT), Tr.lst ((m 1).map spT)]), some (Tr.lst [.obj (a 0), .obj (a 1)]), some (.int n), some (.int al), x8, x9, x10, x11]) ⟨rfl, _, _, _, _, _, _, ⟨by decide, by decide, by decide +kernel, by decide⟩, rfl⟩ ?_ ?_
      · simp! only [and_true]
        exact p
      · rintro i ρ' Ω' hi ⟨rfl, n, al, x8, x9, x10, x11, ⟨n1, n2, hp, ha2⟩, rfl⟩
        have hi3 : i = 0 ∨ i = 1 ∨ i = 2 := by omega
        rcases hi3 with rfl | rfl | rfl
        · simp! only [and_true]
          refine ⟨.lst ((m 0).map spT), rfl, SZ 0 _ _ (by decide) fun n' n1' n2' => tk_call (by decide) fun v v0 v1 => ⟨v, rfl, by unfold CDiv; omega, by unfold CMul; omega, al_call ⟨by omega, by omega⟩ fun k hk => ?_⟩⟩
          have ha' : isP ((2 : Int) ^ k) = true := isP_pow k
          have hl' : (2 : Int) ^ k ≤ 1073741824 := by
            have h0 : (2 : Nat) ^ k ≤ 2 ^ 30 := Nat.pow_le_pow_right (by decide) (by omega)
            have h30 : (2 : Nat) ^ 30 = 1073741824 := by decide
            have e : (2 : Int) ^ k = ((2 ^ k : Nat) : Int) := by simp
            rw [e]
            omega
          refine ⟨.obj (a 0), rfl, .lst ((r 0).map spT), rfl, SR 0 _ _ _ _ (by decide) n1' n2' ha' hl' ⟨true, rfl, ?_⟩⟩
          rw [if_neg (by decide)]
          refine ⟨.obj (a 1), rfl, .lst ((r 1).map spT), rfl, SR 1 _ _ _ _ (by decide) n1' n2' ha' hl' ⟨true, rfl, ?_⟩⟩
          rw [if_neg (by decide)]
          refine ⟨.obj (a 0), rfl, .lst ((m 0).map spT), rfl, .lst ((m 0).map spT), rfl, TR 0 _ _ (by decide) fun qs hq => CR 0 qs _ _ (by decide) hq ⟨true, rfl, ?_⟩⟩
          rw [if_neg (by decide)]
          exact ⟨rfl, n', n1', n2', _, ha', hl', rfl, rfl⟩
        · simp! only [and_true]
          refine ⟨.lst ((m 1).map spT), rfl, SZ 1 _ _ (by decide) fun n' n1' n2' => tk_call (by decide) fun v v0 v1 => ⟨v, rfl, by unfold CDiv; omega, by unfold CMul; omega, al_call ⟨by omega, by omega⟩ fun k hk => ?_⟩⟩
          have ha' : isP ((2 : Int) ^ k) = true := isP_pow k
          have hl' : (2 : Int) ^ k ≤ 1073741824 := by
            have h0 : (2 : Nat) ^ k ≤ 2 ^ 30 := Nat.pow_le_pow_right (by decide) (by omega)
            have h30 : (2 : Nat) ^ 30 = 1073741824 := by decide
            have e : (2 : Int) ^ k = ((2 ^ k : Nat) : Int) := by simp
            rw [e]
            omega
          refine ⟨.obj (a 1), rfl, .lst ((r 1).map spT), rfl, SR 1 _ _ _ _ (by decide) n1' n2' ha' hl' ⟨true, rfl, ?_⟩⟩
          rw [if_neg (by decide)]
          refine ⟨.obj (a 0), rfl, .lst ((r 0).map spT), rfl, SR 0 _ _ _ _ (by decide) n1' n2' ha' hl' ⟨true, rfl, ?_⟩⟩
          rw [if_neg (by decide)]
          refine ⟨.obj (a 1), rfl, .lst ((m 1).map spT), rfl, .lst ((m 1).map spT), rfl, TR 1 _ _ (by decide) fun qs hq => CR 1 qs _ _ (by decide) hq ⟨true, rfl, ?_⟩⟩
          rw [if_neg (by decide)]
          exact ⟨rfl, n', n1', n2', _, ha', hl', rfl, rfl⟩
        · simp! only [and_true]
          refine ⟨.lst ((m 0).map spT), rfl, SZ 0 _ _ (by decide) fun n' n1' n2' => tk_call (by decide) fun v v0 v1 => ⟨v, rfl, by unfold CDiv; omega, by unfold CMul; omega, al_call ⟨by omega, by omega⟩ fun k hk => ?_⟩⟩
          have ha' : isP ((2 : Int) ^ k) = true := isP_pow k
          have hl' : (2 : Int) ^ k ≤ 1073741824 := by
            have h0 : (2 : Nat) ^ k ≤ 2 ^ 30 := Nat.pow_le_pow_right (by decide) (by omega)
            have h30 : (2 : Nat) ^ 30 = 1073741824 := by decide
            have e : (2 : Int) ^ k = ((2 ^ k : Nat) : Int) := by simp
            rw [e]
            omega
          refine ⟨.obj (a 0), rfl, .lst ((r 0).map spT), rfl, SR 0 _ _ _ _ (by decide) n1' n2' ha' hl' ⟨true, rfl, ?_⟩⟩
          rw [if_neg (by decide)]
          refine ⟨.obj (a 1), rfl, .lst ((r 1).map spT), rfl, SR 1 _ _ _ _ (by decide) n1' n2' ha' hl' ⟨true, rfl, ?_⟩⟩
          rw [if_neg (by decide)]
          refine ⟨.obj (a 0), rfl, .lst ((m 0).map spT), rfl, .lst ((m 0).map spT), rfl, TR 0 _ _ (by decide) fun qs hq => CR 0 qs _ _ (by decide) hq ⟨true, rfl, ?_⟩⟩
          rw [if_neg (by decide)]
          exact ⟨rfl, n', n1', n2', _, ha', hl', rfl, rfl⟩
      · rintro ρ' Ω' ⟨rfl, n, al, x8, x9, x10, x11, ⟨n1, n2, hp, ha2⟩, rfl⟩
        obtain ⟨dx, h1⟩ := hA2 0 (by decide)
        obtain ⟨h2, h3, h4⟩ := hM2 0 (by decide)
        simp! only [and_true]
        refine ⟨a 0, dx, m 0, n, al, rfl, h1, h2, gM 0 (by decide), by omega, n1, n2, ⟨true, rfl, ?_⟩⟩
        rw [if_neg (by decide)]
        refine SR 0 n al _ _ (by decide) n1 n2 hp ha2 ⟨true, rfl, ?_⟩
        rw [if_pos rfl]
        refine ⟨a 0, insP_obj h1, a 0, dx, m 0, rfl, h1, lst_in (sm_call (show dataT (.lst ((m 0).map spT)) = true from spans_data) ?_ rfl)⟩
        have := spans_dep (rs := m 0)
        show depTrs2 _ + 1 < 8
        omega
end
section
open PySem PySem.Spec PyProof.Rows L2 LL LT
variable {P : Program} {w : World} {K : PySem.W.Frag} {mg : Str → Option Value} {base : Heap}

theorem tx_of {K : PySem.W.Frag} {h : Heap} {mg : Str → Option Value} (X : K.In h) (G : h.Ns mainGlobals mg) (c : SaysP fa fn prs (fun K => exs.all fun e => e K) K) : Nonempty (Tx K mg) := by
  obtain ⟨fd_wall, F_wall⟩ := c.d.def_ 0 (d := dd_wall) rfl
  obtain ⟨fd_is_whole, F_is_whole⟩ := c.d.def_ 1 (d := dd_is_whole) rfl
  obtain ⟨fd_need, F_need⟩ := c.d.def_ 2 (d := dd_need) rfl
  obtain ⟨fd_need_whole, F_need_whole⟩ := c.d.def_ 3 (d := dd_need_whole) rfl
  obtain ⟨fd_is_row, F_is_row⟩ := c.d.def_ 4 (d := dd_is_row) rfl
  obtain ⟨fd_is_span, F_is_span⟩ := c.d.def_ 5 (d := dd_is_span) rfl
  obtain ⟨fd_is_power, F_is_power⟩ := c.d.def_ 6 (d := dd_is_power) rfl
  obtain ⟨fd_need_align, F_need_align⟩ := c.d.def_ 7 (d := dd_need_align) rfl
  obtain ⟨fd_end_of, F_end_of⟩ := c.d.def_ 8 (d := dd_end_of) rfl
  obtain ⟨fd_align_up, F_align_up⟩ := c.d.def_ 9 (d := dd_align_up) rfl
  obtain ⟨fd_merged, F_merged⟩ := c.d.def_ 10 (d := dd_merged) rfl
  obtain ⟨fd_gaps_in, F_gaps_in⟩ := c.d.def_ 11 (d := dd_gaps_in) rfl
  obtain ⟨fd_common, F_common⟩ := c.d.def_ 12 (d := dd_common) rfl
  obtain ⟨fd_index_upto, F_index_upto⟩ := c.d.def_ 13 (d := dd_index_upto) rfl
  obtain ⟨fd_start_in, F_start_in⟩ := c.d.def_ 14 (d := dd_start_in) rfl
  obtain ⟨fd_places_of, F_places_of⟩ := c.d.def_ 15 (d := dd_places_of) rfl
  obtain ⟨fd_law_draws, F_law_draws⟩ := c.d.def_ 16 (d := dd_law_draws) rfl
  obtain ⟨fd_law_next_cell, F_law_next_cell⟩ := c.d.def_ 17 (d := dd_law_next_cell) rfl
  obtain ⟨fd_law_mixed, F_law_mixed⟩ := c.d.def_ 18 (d := dd_law_mixed) rfl
  obtain ⟨fd_law_take, F_law_take⟩ := c.d.def_ 19 (d := dd_law_take) rfl
  obtain ⟨fd_law_among, F_law_among⟩ := c.d.def_ 20 (d := dd_law_among) rfl
  obtain ⟨fd_law_between, F_law_between⟩ := c.d.def_ 21 (d := dd_law_between) rfl
  obtain ⟨fd_law_number, F_law_number⟩ := c.d.def_ 22 (d := dd_law_number) rfl
  obtain ⟨fd_law_count, F_law_count⟩ := c.d.def_ 23 (d := dd_law_count) rfl
  obtain ⟨fd_law_alignment, F_law_alignment⟩ := c.d.def_ 24 (d := dd_law_alignment) rfl
  obtain ⟨fd_law_up, F_law_up⟩ := c.d.def_ 25 (d := dd_law_up) rfl
  obtain ⟨fd_law_long, F_law_long⟩ := c.d.def_ 26 (d := dd_law_long) rfl
  obtain ⟨fd_law_not_integer, F_law_not_integer⟩ := c.d.def_ 27 (d := dd_law_not_integer) rfl
  obtain ⟨fd_law_not_within, F_law_not_within⟩ := c.d.def_ 28 (d := dd_law_not_within) rfl
  obtain ⟨fd_law_not_alignment, F_law_not_alignment⟩ := c.d.def_ 29 (d := dd_law_not_alignment) rfl
  obtain ⟨fd_law_same, F_law_same⟩ := c.d.def_ 30 (d := dd_law_same) rfl
  obtain ⟨fd_law_copy, F_law_copy⟩ := c.d.def_ 31 (d := dd_law_copy) rfl
  obtain ⟨fd_law_span, F_law_span⟩ := c.d.def_ 32 (d := dd_law_span) rfl
  obtain ⟨fd_law_spans, F_law_spans⟩ := c.d.def_ 33 (d := dd_law_spans) rfl
  obtain ⟨fd_law_start_due, F_law_start_due⟩ := c.d.def_ 34 (d := dd_law_start_due) rfl
  obtain ⟨fd_law_kinds, F_law_kinds⟩ := c.d.def_ 35 (d := dd_law_kinds) rfl
  obtain ⟨fd_law_refused, F_law_refused⟩ := c.d.def_ 36 (d := dd_law_refused) rfl
  obtain ⟨fd_law_held, F_law_held⟩ := c.d.def_ 37 (d := dd_law_held) rfl
  obtain ⟨fd_law_cuts_of, F_law_cuts_of⟩ := c.d.def_ 38 (d := dd_law_cuts_of) rfl
  obtain ⟨fd_law_glued, F_law_glued⟩ := c.d.def_ 39 (d := dd_law_glued) rfl
  obtain ⟨fd_law_normal_of, F_law_normal_of⟩ := c.d.def_ 40 (d := dd_law_normal_of) rfl
  obtain ⟨fd_law_asked, F_law_asked⟩ := c.d.def_ 41 (d := dd_law_asked) rfl
  obtain ⟨fd_law_all_inside, F_law_all_inside⟩ := c.d.def_ 42 (d := dd_law_all_inside) rfl
  obtain ⟨fd_law_walked, F_law_walked⟩ := c.d.def_ 43 (d := dd_law_walked) rfl
  obtain ⟨fd_law_due, F_law_due⟩ := c.d.def_ 44 (d := dd_law_due) rfl
  obtain ⟨fd_law_size, F_law_size⟩ := c.d.def_ 45 (d := dd_law_size) rfl
  obtain ⟨fd_law_tried_spans, F_law_tried_spans⟩ := c.d.def_ 46 (d := dd_law_tried_spans) rfl
  obtain ⟨fd_law_starts_right, F_law_starts_right⟩ := c.d.def_ 47 (d := dd_law_starts_right) rfl
  obtain ⟨fd_law_covers_right, F_law_covers_right⟩ := c.d.def_ 48 (d := dd_law_covers_right) rfl
  obtain ⟨fd_law_refused_right, F_law_refused_right⟩ := c.d.def_ 49 (d := dd_law_refused_right) rfl
  obtain ⟨fd_law, F_law⟩ := c.d.def_ 50 (d := dd_law) rfl
  obtain ⟨fd_BadValue, F_BadValue⟩ := c.d.def_ 51 (d := dd_BadValue) rfl
  obtain ⟨fd_Places_init, F_Places_init⟩ := c.d.def_ 52 (d := dd_Places_init) rfl
  obtain ⟨fd_Places_covers, F_Places_covers⟩ := c.d.def_ 53 (d := dd_Places_covers) rfl
  obtain ⟨fd_Places_first_start, F_Places_first_start⟩ := c.d.def_ 54 (d := dd_Places_first_start) rfl
  obtain ⟨fd_Places_best_start, F_Places_best_start⟩ := c.d.def_ 55 (d := dd_Places_best_start) rfl
  obtain ⟨⟨fd_Places_spans, F_Places_spans⟩, P_Places_spans⟩ := c.pr 0 (d := pp_Places_spans) rfl
  exact ⟨{ fd_wall := fd_wall, F_wall := F_wall, g_wall := He.glo_ok X G (c.d.fact 0 (f := .glo "_wall") rfl), fd_is_whole := fd_is_whole, F_is_whole := F_is_whole, g_is_whole := He.glo_ok X G (c.d.fact 1 (f := .glo "is_whole") rfl), fd_need := fd_need, F_need := F_need, g_need := He.glo_ok X G (c.d.fact 2 (f := .glo "need") rfl), fd_need_whole := fd_need_whole, F_need_whole := F_need_whole, g_need_whole := He.glo_ok X G (c.d.fact 3 (f := .glo "need_whole") rfl), fd_is_row := fd_is_row, F_is_row := F_is_row, g_is_row := He.glo_ok X G (c.d.fact 4 (f := .glo "is_row") rfl), fd_is_span := fd_is_span, F_is_span := F_is_span, g_is_span := He.glo_ok X G (c.d.fact 5 (f := .glo "is_span") rfl), fd_is_power := fd_is_power, F_is_power := F_is_power, g_is_power := He.glo_ok X G (c.d.fact 6 (f := .glo "is_power") rfl), fd_need_align := fd_need_align, F_need_align := F_need_align, g_need_align := He.glo_ok X G (c.d.fact 7 (f := .glo "need_align") rfl), fd_end_of := fd_end_of, F_end_of := F_end_of, g_end_of := He.glo_ok X G (c.d.fact 8 (f := .glo "end_of") rfl), fd_align_up := fd_align_up, F_align_up := F_align_up, g_align_up := He.glo_ok X G (c.d.fact 9 (f := .glo "align_up") rfl), fd_merged := fd_merged, F_merged := F_merged, g_merged := He.glo_ok X G (c.d.fact 10 (f := .glo "merged") rfl), fd_gaps_in := fd_gaps_in, F_gaps_in := F_gaps_in, g_gaps_in := He.glo_ok X G (c.d.fact 11 (f := .glo "gaps_in") rfl), fd_common := fd_common, F_common := F_common, g_common := He.glo_ok X G (c.d.fact 12 (f := .glo "common") rfl), fd_index_upto := fd_index_upto, F_index_upto := F_index_upto, g_index_upto := He.glo_ok X G (c.d.fact 13 (f := .glo "index_upto") rfl), fd_start_in := fd_start_in, F_start_in := F_start_in, g_start_in := He.glo_ok X G (c.d.fact 14 (f := .glo "start_in") rfl), fd_places_of := fd_places_of, F_places_of := F_places_of, g_places_of := He.glo_ok X G (c.d.fact 15 (f := .glo "places_of") rfl), fd_law_draws := fd_law_draws, F_law_draws := F_law_draws, g_law_draws := He.glo_ok X G (c.d.fact 16 (f := .glo "_law_draws") rfl), fd_law_next_cell := fd_law_next_cell, F_law_next_cell := F_law_next_cell, g_law_next_cell := He.glo_ok X G (c.d.fact 17 (f := .glo "_law_next_cell") rfl), fd_law_mixed := fd_law_mixed, F_law_mixed := F_law_mixed, g_law_mixed := He.glo_ok X G (c.d.fact 18 (f := .glo "_law_mixed") rfl), fd_law_take := fd_law_take, F_law_take := F_law_take, g_law_take := He.glo_ok X G (c.d.fact 19 (f := .glo "_law_take") rfl), fd_law_among := fd_law_among, F_law_among := F_law_among, g_law_among := He.glo_ok X G (c.d.fact 20 (f := .glo "_law_among") rfl), fd_law_between := fd_law_between, F_law_between := F_law_between, g_law_between := He.glo_ok X G (c.d.fact 21 (f := .glo "_law_between") rfl), fd_law_number := fd_law_number, F_law_number := F_law_number, g_law_number := He.glo_ok X G (c.d.fact 22 (f := .glo "_law_number") rfl), fd_law_count := fd_law_count, F_law_count := F_law_count, g_law_count := He.glo_ok X G (c.d.fact 23 (f := .glo "_law_count") rfl), fd_law_alignment := fd_law_alignment, F_law_alignment := F_law_alignment, g_law_alignment := He.glo_ok X G (c.d.fact 24 (f := .glo "_law_alignment") rfl), fd_law_up := fd_law_up, F_law_up := F_law_up, g_law_up := He.glo_ok X G (c.d.fact 25 (f := .glo "_law_up") rfl), fd_law_long := fd_law_long, F_law_long := F_law_long, g_law_long := He.glo_ok X G (c.d.fact 26 (f := .glo "_law_long") rfl), fd_law_not_integer := fd_law_not_integer, F_law_not_integer := F_law_not_integer, g_law_not_integer := He.glo_ok X G (c.d.fact 27 (f := .glo "_law_not_integer") rfl), fd_law_not_within := fd_law_not_within, F_law_not_within := F_law_not_within, g_law_not_within := He.glo_ok X G (c.d.fact 28 (f := .glo "_law_not_within") rfl), fd_law_not_alignment := fd_law_not_alignment, F_law_not_alignment := F_law_not_alignment, g_law_not_alignment := He.glo_ok X G (c.d.fact 29 (f := .glo "_law_not_alignment") rfl), fd_law_same := fd_law_same, F_law_same := F_law_same, g_law_same := He.glo_ok X G (c.d.fact 30 (f := .glo "_law_same") rfl), fd_law_copy := fd_law_copy, F_law_copy := F_law_copy, g_law_copy := He.glo_ok X G (c.d.fact 31 (f := .glo "_law_copy") rfl), fd_law_span := fd_law_span, F_law_span := F_law_span, g_law_span := He.glo_ok X G (c.d.fact 32 (f := .glo "_law_span") rfl), fd_law_spans := fd_law_spans, F_law_spans := F_law_spans, g_law_spans := He.glo_ok X G (c.d.fact 33 (f := .glo "_law_spans") rfl), fd_law_start_due := fd_law_start_due, F_law_start_due := F_law_start_due, g_law_start_due := He.glo_ok X G (c.d.fact 34 (f := .glo "_law_start_due") rfl), fd_law_kinds := fd_law_kinds, F_law_kinds := F_law_kinds, g_law_kinds := He.glo_ok X G (c.d.fact 35 (f := .glo "_law_kinds") rfl), fd_law_refused := fd_law_refused, F_law_refused := F_law_refused, g_law_refused := He.glo_ok X G (c.d.fact 36 (f := .glo "_law_refused") rfl), fd_law_held := fd_law_held, F_law_held := F_law_held, g_law_held := He.glo_ok X G (c.d.fact 37 (f := .glo "_law_held") rfl), fd_law_cuts_of := fd_law_cuts_of, F_law_cuts_of := F_law_cuts_of, g_law_cuts_of := He.glo_ok X G (c.d.fact 38 (f := .glo "_law_cuts_of") rfl), fd_law_glued := fd_law_glued, F_law_glued := F_law_glued, g_law_glued := He.glo_ok X G (c.d.fact 39 (f := .glo "_law_glued") rfl), fd_law_normal_of := fd_law_normal_of, F_law_normal_of := F_law_normal_of, g_law_normal_of := He.glo_ok X G (c.d.fact 40 (f := .glo "_law_normal_of") rfl), fd_law_asked := fd_law_asked, F_law_asked := F_law_asked, g_law_asked := He.glo_ok X G (c.d.fact 41 (f := .glo "_law_asked") rfl), fd_law_all_inside := fd_law_all_inside, F_law_all_inside := F_law_all_inside, g_law_all_inside := He.glo_ok X G (c.d.fact 42 (f := .glo "_law_all_inside") rfl), fd_law_walked := fd_law_walked, F_law_walked := F_law_walked, g_law_walked := He.glo_ok X G (c.d.fact 43 (f := .glo "_law_walked") rfl), fd_law_due := fd_law_due, F_law_due := F_law_due, g_law_due := He.glo_ok X G (c.d.fact 44 (f := .glo "_law_due") rfl), fd_law_size := fd_law_size, F_law_size := F_law_size, g_law_size := He.glo_ok X G (c.d.fact 45 (f := .glo "_law_size") rfl), fd_law_tried_spans := fd_law_tried_spans, F_law_tried_spans := F_law_tried_spans, g_law_tried_spans := He.glo_ok X G (c.d.fact 46 (f := .glo "_law_tried_spans") rfl), fd_law_starts_right := fd_law_starts_right, F_law_starts_right := F_law_starts_right, g_law_starts_right := He.glo_ok X G (c.d.fact 47 (f := .glo "_law_starts_right") rfl), fd_law_covers_right := fd_law_covers_right, F_law_covers_right := F_law_covers_right, g_law_covers_right := He.glo_ok X G (c.d.fact 48 (f := .glo "_law_covers_right") rfl), fd_law_refused_right := fd_law_refused_right, F_law_refused_right := F_law_refused_right, g_law_refused_right := He.glo_ok X G (c.d.fact 49 (f := .glo "_law_refused_right") rfl), fd_law := fd_law, F_law := F_law, g_law := He.glo_ok X G (c.d.fact 50 (f := .glo "law") rfl), c_MOST_ALIGN := He.int_ok X G (c.d.fact 51 (f := .int "MOST_ALIGN" 1073741824) rfl), c_MOST_PLACE := He.int_ok X G (c.d.fact 52 (f := .int "MOST_PLACE" 1000000000) rfl), c_MOST_SPANS := He.int_ok X G (c.d.fact 53 (f := .int "MOST_SPANS" 20000) rfl), g_BadLine := He.glo_ok X G (c.d.fact 54 (f := .glo "BadLine") rfl), g_BadValue := He.glo_ok X G (c.d.fact 55 (f := .glo "BadValue") rfl), g_Broken := He.glo_ok X G (c.d.fact 56 (f := .glo "Broken") rfl), g_Cut := He.glo_ok X G (c.d.fact 57 (f := .glo "Cut") rfl), g_Fault := He.glo_ok X G (c.d.fact 58 (f := .glo "Fault") rfl), g_NoRoom := He.glo_ok X G (c.d.fact 59 (f := .glo "NoRoom") rfl), g_NotHeld := He.glo_ok X G (c.d.fact 60 (f := .glo "NotHeld") rfl), g_Places := He.glo_ok X G (c.d.fact 61 (f := .glo "Places") rfl), g_StoreError := He.glo_ok X G (c.d.fact 62 (f := .glo "StoreError") rfl), g_Unknown := He.glo_ok X G (c.d.fact 63 (f := .glo "Unknown") rfl), z_ValueError := He.free_ok X G (c.d.fact 64 (f := .free "ValueError") rfl), z_bool := He.free_ok X G (c.d.fact 65 (f := .free "bool") rfl), z_dict := He.free_ok X G (c.d.fact 66 (f := .free "dict") rfl), z_int := He.free_ok X G (c.d.fact 67 (f := .free "int") rfl), z_isinstance := He.free_ok X G (c.d.fact 68 (f := .free "isinstance") rfl), z_len := He.free_ok X G (c.d.fact 69 (f := .free "len") rfl), z_list := He.free_ok X G (c.d.fact 70 (f := .free "list") rfl), z_max := He.free_ok X G (c.d.fact 71 (f := .free "max") rfl), z_min := He.free_ok X G (c.d.fact 72 (f := .free "min") rfl), z_range := He.free_ok X G (c.d.fact 73 (f := .free "range") rfl), z_sorted := He.free_ok X G (c.d.fact 74 (f := .free "sorted") rfl), z_str := He.free_ok X G (c.d.fact 75 (f := .free "str") rfl), z_tuple := He.free_ok X G (c.d.fact 76 (f := .free "tuple") rfl), fd_BadValue := fd_BadValue, F_BadValue := F_BadValue, fd_Places_init := fd_Places_init, F_Places_init := F_Places_init, fd_Places_covers := fd_Places_covers, F_Places_covers := F_Places_covers, fd_Places_first_start := fd_Places_first_start, F_Places_first_start := F_Places_first_start, fd_Places_best_start := fd_Places_best_start, F_Places_best_start := F_Places_best_start, fd_Places_spans := fd_Places_spans, F_Places_spans := F_Places_spans, p_Places_spans := P_Places_spans, k_Places := He.mkr_ok (c.d.fact 77 (f := .mkr "Places") rfl), h_Places_covers := He.meth_ok (c.d.fact 78 (f := .meth "Places" "covers") rfl), h_Places_first_start := He.meth_ok (c.d.fact 79 (f := .meth "Places" "first_start") rfl), h_Places_best_start := He.meth_ok (c.d.fact 80 (f := .meth "Places" "best_start") rfl), c_Places := He.cls_ok (c.d.fact 81 (f := .cls "Places") rfl), n_Places__spans := He.noat_ok (c.d.fact 82 (f := .noat "Places" "_spans") rfl), x_BadValue := oexB_ok (c.y.ex 0 (e := fun K => oexB K (He.ga K "BadValue")) rfl), i_BadValue := of_decide_eq_true (c.y.ex 1 (e := fun K => decide (PySem.W.findIn K (.ref (He.ga K "BadValue")) "__init__" = some (some (.ref (He.ma K (He.ga K "BadValue") "__init__"))))) rfl), t_BadValue := of_decide_eq_true (c.y.ex 2 (e := fun K => decide (PySem.W.typeIn K (.ref (He.ma K (He.ga K "BadValue") "__init__")) = some (.type "function"))) rfl), n_BadValue_parameter := of_decide_eq_true (c.y.ex 3 (e := fun K => decide (PySem.W.findIn K (.ref (He.ga K "BadValue")) "parameter" = some none)) rfl), n_BadValue_told := of_decide_eq_true (c.y.ex 4 (e := fun K => decide (PySem.W.findIn K (.ref (He.ga K "BadValue")) "told" = some none)) rfl), f_BadValue := xfB_ok (c.y.ex 5 (e := fun K => xfB K (He.ga K "BadValue")) rfl), d_BadValue := excdB_ok (c.y.ex 6 (e := fun K => excdB K (He.ga K "BadValue")) rfl), m_BadValue := of_decide_eq_true (c.y.ex 7 (e := fun K => decide (PySem.W.exmOne K (.ref (He.ga K "BadValue")) (.ref (He.ga K "BadValue")) = some true)) rfl), k_ValueError := of_decide_eq_true (c.y.ex 8 (e := fun K => decide (PySem.W.kitOne K (.ref (He.ga K "BadValue")) (.type "ValueError") = some true)) rfl), k_StoreError := of_decide_eq_true (c.y.ex 9 (e := fun K => decide (PySem.W.kitOne K (.ref (He.ga K "BadValue")) (.ref (He.ga K "StoreError")) = some true)) rfl), k_BadValue := of_decide_eq_true (c.y.ex 10 (e := fun K => decide (PySem.W.kitOne K (.ref (He.ga K "BadValue")) (.ref (He.ga K "BadValue")) = some true)) rfl), k_Broken := of_decide_eq_true (c.y.ex 11 (e := fun K => decide (PySem.W.kitOne K (.ref (He.ga K "BadValue")) (.ref (He.ga K "Broken")) = some false)) rfl), k_Unknown := of_decide_eq_true (c.y.ex 12 (e := fun K => decide (PySem.W.kitOne K (.ref (He.ga K "BadValue")) (.ref (He.ga K "Unknown")) = some false)) rfl), k_NotHeld := of_decide_eq_true (c.y.ex 13 (e := fun K => decide (PySem.W.kitOne K (.ref (He.ga K "BadValue")) (.ref (He.ga K "NotHeld")) = some false)) rfl), k_Fault := of_decide_eq_true (c.y.ex 14 (e := fun K => decide (PySem.W.kitOne K (.ref (He.ga K "BadValue")) (.ref (He.ga K "Fault")) = some false)) rfl), k_NoRoom := of_decide_eq_true (c.y.ex 15 (e := fun K => decide (PySem.W.kitOne K (.ref (He.ga K "BadValue")) (.ref (He.ga K "NoRoom")) = some false)) rfl), k_Cut := of_decide_eq_true (c.y.ex 16 (e := fun K => decide (PySem.W.kitOne K (.ref (He.ga K "BadValue")) (.ref (He.ga K "Cut")) = some false)) rfl), k_BadLine := of_decide_eq_true (c.y.ex 17 (e := fun K => decide (PySem.W.kitOne K (.ref (He.ga K "BadValue")) (.ref (He.ga K "BadLine")) = some false)) rfl), m_BadValue_BadValue := of_decide_eq_true (c.y.ex 18 (e := fun K => decide (PySem.W.exmOne K (.ref (He.ga K "BadValue")) (.ref (He.ga K "BadValue")) = some true)) rfl), kk_Places_list := of_decide_eq_true (c.y.ex 19 (e := fun K => decide (PySem.W.kitOne K (.ref (He.ga K "Places")) (.type "list") = some false)) rfl), kk_Places_tuple := of_decide_eq_true (c.y.ex 20 (e := fun K => decide (PySem.W.kitOne K (.ref (He.ga K "Places")) (.type "tuple") = some false)) rfl), w_Places := ownB_ok (c.y.ex 21 (e := fun K => ownB K (He.ga K "Places")) rfl), v_BadValue := exvB_ok (c.y.ex 22 (e := fun K => exvB K "BadValue" ["parameter"] 0) rfl), d0_Places := tup0B_ok (c.y.ex 23 (e := fun K => tup0B K (He.dflAt ("Places", some "__init__") 0 K)) rfl) }⟩
theorem facts {P : Program} {w : World} {K : PySem.W.Frag} {h : Heap} {mg : Str → Option Value} {f : Addr} (X : K.In h) (G : h.Ns mainGlobals mg) (hfa : mg ("law" : Str) = some (.ref f)) (c : SaysP fa fn prs (fun K => exs.all fun e => e K) K) :
    ∃ fd : FuncData, (∀ (s : Shared) (v : Value), BindsTo s fd ⟨[v], []⟩ [("_law_script", v)]) ∧ ∀ base : Heap, K.In base → base.Ns mainGlobals mg → FnOk P w K mg base CX0 11 f fd ["_law_script"] (sp_law K) := by
  obtain ⟨T⟩ := tx_of X G c
  have e := hfa.symm.trans T.g_law
  cases e
  have b := FunD.bindsA (ps := ["_law_script"]) T.F_law fun _ _ _ _ _ _ us hl => match us, hl with | [_], _ => rfl
  exact ⟨T.fd_law, fun s v => b s [v] rfl, fun base _ _ => ok_law T⟩
end
end K05
open PySem PySem.W PySem.Calls PyProof.Rows
set_option maxHeartbeats 0 in
theorem PySem.Challenge.cw_allgivenback_k05_starts_holds : PySem.Challenge.rw_allgivenback_k05_starts.Holds := by
  refine K05.holds_of ?_
  intro w mg fa h Y G hmg
  obtain ⟨K, KX, c⟩ := Y
  obtain ⟨fd, hb, hF⟩ := K05.facts (P := (PySem.Challenge.rw_allgivenback_k05_starts).prog) (w := w) KX G hmg c
  exact ⟨K, fd, K05.sp_law K, KX, hb, fun H a ns hl _ hS => ⟨a, ns, rfl, hS, Nat.le_trans hl (by decide), fun _ => rfl⟩, hF⟩
