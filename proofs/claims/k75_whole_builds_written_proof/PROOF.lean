import PyProof.Rows.All
import Wide.All
import OpenK.AllK
import Wide.FinOn
import KE.KStateDown
import HandS.ForMost
import HandS.Exc
import HandS.WordsExc
import HandS.Defaults
import HandS.IsInst
import HandS.Walk
import HandS.HeadHook1
import HandS.HeadHook2
import HandS.ExcField
import HandS.HeadWalk
import HandS.Lambda
import HandS.HeadEnd
import HandS.EndTab
import HandS.Set
import HandS.SetKeys
import HandS.SetFor
import HandS.Strs
import HandS.TupSets
import PyProof.ReprRoads
import PyProof.Rows.RegFStrParts
import PyProof.ListStr
import HandS.Style
import KE.KSortKey
import HandS.SortOrd
import HandS.Words
import HandS.SortKw
import HandS.Small
import HandS.Deep
import HandS.TryOnly
import HandS.More
import PyProof.TupleOfSeq
import KE.KDictPairs
import HandS.MakeKwOnly
import HandS.TupAny
import KE.GoesMore
import KE.KDictZip
import HandS.Property
import HandS.ExcInit
import HandS.ExcIs
import HandS.Head0
import HandS.ExcOwn
import PyProof.Rows.StrMeet
import PyProof.Rows.SortStr
import HandS.Text
import PyProof.StrLawsChain
import HandS.OwnEq
import HandS.IterNext
import KE.KOwnIter
import HandS.RevRange
import HandS.Flow
import KE.BitLaws
import HandS.GenList
import HandS.Base
import KE.KNestM
import KE.KeyNested
import HandS.Iter
import Lean
import HandS.Head1
import HandS.Head2
import PySem.Challenge.RW_refundtrees_k75_whole_builds_written
section
set_option Elab.async false
set_option linter.all false
set_option maxRecDepth 100000
set_option maxHeartbeats 4000000
/-! Refundtrees: what every law's proof shares: callees packed, isinstance answered, module ints. -/
namespace Rt
open PySem PySem.Spec PyProof.Rows L2

/-! ### a def of the module, packed: where it stands, how it binds, what it promises -/
structure Cal (P : Program) (w : World) (K : PySem.W.Frag) (mg : Str → Option Value) (base : Heap) (CX : CXT) (k : Nat) (x : Str) (ps : List Str) (sp : Sp) : Prop where
  ex : ∃ fd, Binds K fd ps [] ∧ FnOk P w K mg base CX k (He.ga K x) fd ps sp
  gm : mg x = some (.ref (He.ga K x))
  kp : PySem.W.keepIn K (.ref (He.ga K x)) = true
section
variable {X : Cx} {CX : CXT} {k : Nat} {x : Str} {ps : List Str} {sp : Sp} {E : XK} {e : Expr} {es : List Expr} {p pos : Pos} {t : TA}
theorem pe_cal (C : Cal X.prog X.w X.K X.mg X.base CX k x ps sp) (hr : Room k X.A) (hg : Gl X x) (hx : Passes CX X E) (ha : PA X (e :: es) t)
    (hdb : (x == ("__debug__" : Str)) = false := by decide) (h1 : starEach (e :: es) X.env = (false, eval e X.env) :: starEach es X.env := by rfl)
    (h2 : (backTo pos (starEach es X.env)).any (·.1) = false := by rfl) : PE X (.Call (.Name x p) (e :: es) [] pos) (tCall sp [] E t) := by
  obtain ⟨fd, b, F⟩ := C.ex
  exact pe_call F hr hg C.gm C.kp b .nil hx ha hdb h1 h2
end

/-! ### module ints and texts -/
section
variable {X : Cx} {x : Str} {pos : Pos}
theorem pe_gint {i : Int} (hg : Gl X x) (hm : ∃ t, X.mg x = some (.int i t)) (hd : (x == ("__debug__" : Str)) = false := by decide) : PE X (.Name x pos) (tC (.int i)) := by
  obtain ⟨t, h⟩ := hm
  exact pe_glob hg h ⟨_, rfl⟩ hd
theorem pe_gstr {z : Str} (hg : Gl X x) (hm : ∃ t, X.mg x = some (.str z t)) (hd : (x == ("__debug__" : Str)) = false := by decide) : PE X (.Name x pos) (tC (.str z)) := by
  obtain ⟨t, h⟩ := hm
  exact pe_glob hg h ⟨_, rfl⟩ hd
end

/-! ### what a value is, for isinstance -/
def kinds : List String := ["NoneType", "bool", "int", "str", "tuple", "list", "dict"]
/-- the value's type by its name -/
inductive Ts (K : PySem.W.Frag) (H : Hp) : V → String → Prop where
  | non : Ts K H .non "NoneType"
  | bl (b : Bool) : Ts K H (.bl b) "bool"
  | int (i : Int) : Ts K H (.int i) "int"
  | str (x : Str) : Ts K H (.str x) "str"
  | tup {a : Addr} {xs : List V} (h : SqT K H a xs) : Ts K H (.ref a) "tuple"
  | lst {a : Addr} {xs : List V} (h : H a = some (.lst xs)) : Ts K H (.ref a) "list"
  | dct {a : Addr} {kvs : List (Key × V)} (h : H a = some (.dK kvs)) : Ts K H (.ref a) "dict"
theorem Ts.x {K : PySem.W.Frag} {H : Hp} {x : V} {T : String} (h : Ts K H x T) : TyX K H x (.type T) := by
  cases h with
  | non => exact .base .non
  | bl b => exact .base (.bl b)
  | int i => exact .base (.int i)
  | str x => exact .base (.str x)
  | tup h =>
    rcases h with (h | ⟨_, h⟩) | ⟨_, _, _, e, c, _⟩
    · exact .base (.tup h)
    · exact .fTuple h
    · exact .kTuple e c
  | lst h => exact .base (.lst h)
  | dct h => exact .base (.dK h)
theorem Ts.mem {K : PySem.W.Frag} {H : Hp} {x : V} {T : String} (h : Ts K H x T) : T ∈ kinds := by
  cases h <;> decide
def asks : List String := ["int", "bool", "str", "list", "tuple", "dict"]
def answ (T c : String) : Bool := decide (T = c) || (decide (T = "bool") && decide (c = "int"))
theorem answ_all : (kinds.all fun T => asks.all fun c => decide (kitB T c = some (answ T c))) = true := by decide +kernel
theorem answ_of {T c : String} (hT : T ∈ kinds) (hc : c ∈ asks) {K : PySem.W.Frag} : PySem.W.kitOne K (.type T) (.type c) = some (answ T c) := by
  have h := List.all_eq_true.mp (List.all_eq_true.mp answ_all T hT) c hc
  exact kit_ty (of_decide_eq_true h)

/-- isinstance(x, c), c one built-in class -/
def rIs (K : PySem.W.Frag) (cn : String) : List V → Hp → VK → Prop := fun xs H Q => ∃ x T, xs = [x, .ty cn] ∧ Ts K H x T ∧ Q (.bl (answ T cn)) H
theorem call_is {X : Cx} {cn : String} (hc : cn ∈ asks) : CallR X (.builtin "isinstance") (fun xs H Q => ∃ x T, xs = [x, .ty cn] ∧ Ts X.K H x T ∧ Q (.bl (answ T cn)) H) := by
  intro pins s σ H xs us Q I r h
  obtain ⟨x, T, rfl, t, q⟩ := h
  exact call_isi pins s σ H _ us Q I r ⟨x, .ty cn, .type T, .type cn, _, rfl, .ty cn, t.x, answ_of t.mem hc, q⟩
/-- isinstance(x, (list, tuple)) -/
theorem call_isLT {X : Cx} : CallR X (.builtin "isinstance") (fun xs H Q => ∃ x T tp, xs = [x, .ref tp] ∧ H tp = some (.tup [.ty "list", .ty "tuple"]) ∧ Ts X.K H x T ∧ Q (.bl (decide (T = "list") || decide (T = "tuple"))) H) := by
  intro pins s σ H xs us Q I r h
  obtain ⟨x, T, tp, rfl, ht, t, q⟩ := h
  have e1 : answ T "list" = decide (T = "list") := by
    have h1 : decide (("list" : String) = "int") = false := by decide
    unfold answ
    rw [h1, Bool.and_false, Bool.or_false]
  have e2 : answ T "tuple" = decide (T = "tuple") := by
    have h1 : decide (("tuple" : String) = "int") = false := by decide
    unfold answ
    rw [h1, Bool.and_false, Bool.or_false]
  have k1 : PySem.W.kitOne X.K (.type T) (.type "list") = some (decide (T = "list")) := e1 ▸ answ_of t.mem (by decide)
  have k2 : PySem.W.kitOne X.K (.type T) (.type "tuple") = some (decide (T = "tuple")) := e2 ▸ answ_of t.mem (by decide)
  refine call_isiT pins s σ H _ us Q I r ⟨x, tp, [.ty "list", .ty "tuple"], .type T, [.type "list", .type "tuple"], _, rfl, ht, .cons (.ty _) (.cons (.ty _) .nil), t.x, ?_, q⟩
  refine kitAny_cons k1 (fun hf => ?_) (fun ht => by rw [ht, Bool.true_or])
  rw [hf, Bool.false_or]
  exact kitAny_cons k2 (fun hf => by rw [hf]; exact kitAny_nil) (fun ht => ht)
end Rt
namespace Rt
open PySem PySem.Spec PyProof.Rows L2
section
variable {P : Program} {w : World} {K : PySem.W.Frag} {mg : Str → Option Value} {base : Heap} {x qual : Str} {params : Arguments} {body : List Stmt} {scope : Scope} {f : Addr} {fd : FuncData} {N ps : List Str} {k : Nat} {sp : Sp}
/-- a def that lets nothing out -/
theorem ok0 (F : FunD K x qual params body scope [] [] f fd) (S : FnScope N ps scope) (len : ∀ vs H Q E, sp vs H Q E → vs.length = ps.length)
    (hbody : ∀ (cdv : Value) (A : Around) (outer : List Env) (s : Shared) (H : Hp) (vs : List V) (Q : VK) (E : XK), Room k (A.deeper (envOfC qual scope s.heap.objs.size f cdv)) → sp vs H Q E →
      ∃ t, PSs (cxOf CX0 P w K mg base N qual scope f cdv A outer s H E).nox body t ∧ t { nx := fun _ H' => Q .non H', rt := Q } (start N vs) H) : FnOk P w K mg base CX0 (k + 1) f fd ps sp :=
  F.ok S len fun cdv A outer s H vs Q E hr h => by
    obtain ⟨t, h1, h2⟩ := hbody cdv A outer s H vs Q E hr h
    exact ⟨t, PSs.nox h1, h2⟩
theorem Cal.of (ex : ∃ fd, FunD K x qual params body scope [] [] (He.ga K x) fd ∧ FnOk P w K mg base CX0 k (He.ga K x) fd ps sp) (gm : mg x = some (.ref (He.ga K x)))
    (h : ∀ (kV doc pm : Value) (an : Option Addr) (cdv ct : Value) (us : List Value), us.length = ps.length → bindArgs (PySem.W.fnOf x qual params body scope .none kV doc pm an cdv ct) ⟨us, []⟩ = pure (ps.zip us)) :
    Cal P w K mg base CX0 k x ps sp := by
  obtain ⟨fd, F, G⟩ := ex
  exact ⟨⟨fd, F.bindsN h, G⟩, gm, F.kp⟩
end
end Rt
namespace Rt
theorem ifT {c : Bool} {A B : Prop} (e : c = true) (h : A) : if c = true then A else B := by rw [if_pos e]; exact h
theorem ifF {c : Bool} {A B : Prop} (e : c = false) (h : B) : if c = true then A else B := by rw [if_neg (by rw [e]; decide)]; exact h
theorem ifB {c : Bool} {A B : Prop} (h1 : c = true → A) (h2 : c = false → B) : if c = true then A else B := by
  cases e : c with
  | true => exact ifT rfl (h1 e)
  | false => exact ifF rfl (h2 e)
end Rt
namespace Rt
open PySem PySem.Spec PyProof.Rows L2
/-! ### a comprehension whose turns leave what was tracked as it was: its list at D by the turn -/
structure LcP (H1 : Hp) (D : Addr) (L : Nat → List V) (i : Nat) (H : Hp) : Prop where
  same : Same H1 H
  at_ : H D = some (.lst (L i))
section
variable {H1 H : Hp} {D : Addr} {L : Nat → List V} {i : Nat}
theorem LcP.zero (nD : H1 D = none) (e : L 0 = []) : LcP H1 D L 0 (upd H1 D (.lst [])) := by
  refine ⟨fun b o h => ?_, by rw [upd_same, e]⟩
  rw [upd_ne (ne_of_none h nD)]
  exact h
theorem LcP.put {y : V} (h : LcP H1 D L i H) (nD : H1 D = none) (e : L (i + 1) = L i ++ [y]) (hl : (L i).length < sizeLine) : ∃ acc, H D = some (.lst acc) ∧ acc.length < sizeLine ∧ LcP H1 D L (i + 1) (upd H D (.lst (acc ++ [y]))) := by
  refine ⟨L i, h.at_, hl, fun b o hb => ?_, by rw [upd_same, e]⟩
  rw [upd_ne (ne_of_none hb nD)]
  exact h.same b o hb
theorem LcP.skip (h : LcP H1 D L i H) (e : L (i + 1) = L i) : LcP H1 D L (i + 1) H := ⟨h.same, by rw [e]; exact h.at_⟩
theorem LcP.ext {H' : Hp} (h : LcP H1 D L i H) (s : Same H H') : LcP H1 D L i H' := ⟨h.same.trans s, s _ _ h.at_⟩
end
theorem Same.new {H : Hp} {p : Addr} {o : HO} (n : H p = none) : Same H (upd H p o) := fun b u h => by
  rw [upd_ne (ne_of_none h n)]
  exact h
theorem take_one {α : Type} {xs : List α} {i : Nat} {x : α} (h : xs[i]? = some x) : xs.take (i + 1) = xs.take i ++ [x] := by
  rw [List.take_succ, h]
  rfl
theorem map_one {α β : Type} (f : α → β) {xs : List α} {i : Nat} {x : α} (h : xs[i]? = some x) : (xs.take (i + 1)).map f = (xs.take i).map f ++ [f x] := by
  rw [take_one h, List.map_append]
  rfl
theorem filt_one {α β : Type} (f : α → β) (p : α → Bool) {xs : List α} {i : Nat} {x : α} (h : xs[i]? = some x) (hp : p x = true) : ((xs.take (i + 1)).filter p).map f = ((xs.take i).filter p).map f ++ [f x] := by
  rw [take_one h, List.filter_append, List.map_append, List.filter_cons, if_pos hp]
  rfl
theorem filt_no {α β : Type} (f : α → β) (p : α → Bool) {xs : List α} {i : Nat} {x : α} (h : xs[i]? = some x) (hp : p x = false) : ((xs.take (i + 1)).filter p).map f = ((xs.take i).filter p).map f := by
  rw [take_one h, List.filter_append, List.filter_cons, if_neg (by rw [hp]; decide), List.filter_nil, List.append_nil]
theorem line_of {n m : Nat} (h : n ≤ m) (hm : m ≤ 100000) : n < sizeLine := by
  rw [sizeLine_eq]
  omega
end Rt
namespace Rt
open PySem PySem.Spec PyProof.Rows L2
/-! ### a list or a tuple -/
def Sq (K : PySem.W.Frag) (H : Hp) (a : Addr) (xs : List V) : Prop := SqL K H a xs ∨ SqT K H a xs
theorem sqT_same {K : PySem.W.Frag} {H H' : Hp} {a : Addr} {xs : List V} (e : Same H H') (h : SqT K H a xs) : SqT K H' a xs := by
  rcases h with (h | ⟨o, h⟩) | h
  · exact .inl (.inl (e _ _ h))
  · exact .inl (.inr ⟨o, e _ _ h⟩)
  · exact .inr h
theorem Sq.same {K : PySem.W.Frag} {H H' : Hp} {a : Addr} {xs : List V} (h : Sq K H a xs) (e : Same H H') : Sq K H' a xs := h.elim (fun h => .inl (e.seq h)) fun h => .inr (sqT_same e h)
section
variable {X : Cx} {tg : Expr}
def iSeq (K : PySem.W.Frag) (tl : TE) : TI := fun σ H R => tl σ H fun x H1 => ∃ a, x = .ref a ∧ (((∃ xs, SqL K H1 a xs) ∧ R (Itl K a) H1) ∨ ((∃ xs, SqT K H1 a xs) ∧ R (Itt K a) H1))
/-- what is walked is a list or a tuple -/
theorem pi_seq {l : Expr} {tl : TE} (hl : PE X l tl) : PI X tg l (iSeq X.K tl) := by
  refine ⟨fun pins s σ H R I h => ?_⟩
  refine thn (hl.run pins s σ H _ I h) fun v s1 ⟨x, H1, I1, r1, a, e, q1⟩ => ?_
  subst e
  have he : PE X l (fun _ H Q => Q (.ref a) H) → True := fun _ => trivial
  cases r1
  have pushed : ∀ {o : Obj}, Inv X pins σ H1 { s1 with heap := s1.heap.push o } := fun {o} => I1.kept (t' := s1.toks) fun b u e => Heap.get?_push_of_some _ e
  have own : ∀ b ∈ [s1.heap.objs.size], FpOk X pins H1 b := fun b hb => by
    rw [List.mem_singleton.mp hb]
    exact I1.fpOk (Nat.le_refl _) I1.fresh
  rcases q1 with ⟨⟨xs, hq⟩, q⟩ | ⟨⟨xs, hq⟩, q⟩
  · obtain ⟨its, rv, pl, _⟩ := I1.list hq
    exact wpAny_pyIter_list pl.isList ⟨s1.heap.objs.size, [s1.heap.objs.size], _, _, H1, rfl, pushed, turn_list a _, ⟨_, Heap.get?_push_size _ rfl, rfl, rfl⟩, own, q⟩
  · obtain ⟨its, rv, pl, _⟩ := I1.tuple hq
    exact wpAny_pyIter_tuple (show s1.heap.IsTuple a its.toArray from pl) ⟨s1.heap.objs.size, [s1.heap.objs.size], _, _, H1, rfl, pushed, turn_tuple a _, ⟨_, Heap.get?_push_size _ rfl, rfl, rfl⟩, own, q⟩
theorem seq_by {K : PySem.W.Frag} {H : Hp} {a : Addr} {xs : List V} {R : It → Hp → Prop} (h : Sq K H a xs) (f : ∀ (J : It) (G : Hp → Prop), Walk J xs.length G (YAt xs) → (∀ H', Same H H' → G H') → R J H) :
    ((∃ xs, SqL K H a xs) ∧ R (Itl K a) H) ∨ ((∃ xs, SqT K H a xs) ∧ R (Itt K a) H) := by
  rcases h with h | h
  · exact .inl ⟨⟨xs, h⟩, f _ _ walk_list fun H' e => e.seq h⟩
  · exact .inr ⟨⟨xs, h⟩, f _ _ walk_tup fun H' e => sqT_same e h⟩
end
/-- what a comprehension asks of the thing that it walks -/
abbrev LcR (g : TG) (tt : TT) (te : TE) (vs : List Nat) (σ : L2.St) (Q : Addr → Hp → Prop) : It → Hp → Prop := fun J H1 => ∀ D, H1 D = none → ∃ W : Nat → Nat → Hp → Prop, (∃ m, W 0 m (upd H1 D (.lst []))) ∧ ∀ i m H, W i m H →
  (J.stop i H ∧ Q D H) ∨ (J.go i H ∧ ∃ Nx : Hp → Prop, (∀ H', Nx H' → ∃ m', m' < m ∧ W (i + 1) m' H') ∧ ∀ x H', J.yld i H x H' → g x (wipe σ vs) H' fun σ2 H2 => wipe σ2 vs = wipe σ vs ∧ tt σ2 H2 fun b H3 =>
    if b = true then te σ2 H3 fun y H4 => ∃ acc, H4 D = some (.lst acc) ∧ acc.length < sizeLine ∧ Nx (upd H4 D (.lst (acc ++ [y]))) else Nx H3)
/-- a comprehension over a list or a tuple, its turns leaving what was tracked -/
theorem lc_seq {K : PySem.W.Frag} {H1 : Hp} {a : Addr} {xs : List V} {g : TG} {tt : TT} {te : TE} {vs : List Nat} {σ : L2.St} {Q : Addr → Hp → Prop} (h : Sq K H1 a xs) (L : Nat → List V) (h0 : L 0 = [])
    (turn : ∀ D, H1 D = none → ∀ i x H, xs[i]? = some x → LcP H1 D L i H → g x (wipe σ vs) H fun σ2 H2 => wipe σ2 vs = wipe σ vs ∧ tt σ2 H2 fun b H3 =>
      if b = true then te σ2 H3 fun y H4 => ∃ acc, H4 D = some (.lst acc) ∧ acc.length < sizeLine ∧ LcP H1 D L (i + 1) (upd H4 D (.lst (acc ++ [y]))) else LcP H1 D L (i + 1) H3)
    (fin : ∀ D H, H1 D = none → Same H1 H → H D = some (.lst (L xs.length)) → Q D H) :
    ((∃ xs, SqL K H1 a xs) ∧ LcR g tt te vs σ Q (Itl K a) H1) ∨ ((∃ xs, SqT K H1 a xs) ∧ LcR g tt te vs σ Q (Itt K a) H1) := by
  refine seq_by (R := LcR g tt te vs σ Q) h fun J G w g0 D nD => ?_
  refine lc_it w (LcP H1 D L) (LcP.zero nD h0) (fun i H _ p => g0 H p.same) ?_ (fun H p => fin D H nD p.same p.at_)
  rintro i x H2 H3 hi p ⟨rfl, hx⟩
  exact turn D nD i x H3 hx p
end Rt
end
section
set_option Elab.async false
set_option linter.all false
set_option maxRecDepth 100000
set_option maxHeartbeats 4000000
/-! try with two except clauses that both give the error the same name -/
namespace Rt
open PySem PySem.Spec PyProof.Rows L2
/-- behind a clause's suite its name is unbound -/
abbrev unset (i : Nat) (D : Ends) : Ends := { nx := fun τ G => D.nx (τ.set i none) G, rt := D.rt, bk := fun τ G => D.bk (τ.set i none) G, ct := fun τ G => D.ct (τ.set i none) G }
abbrev SuiteT : Type := Addr → Value → Option Addr → TS
/-- what a row of clauses wishes of an error -/
def wRow (K : PySem.W.Frag) (m i : Nat) (Wout : WX) (D : Ends) : List (Value × SuiteT) → WX
  | [] => Wout
  | (c, ts) :: more => fun cls d σ H => ∃ b, PySem.W.exmOne K cls c = some b ∧ (b = true → ∀ a, H a = none → σ.length = m → ts a cls d (unset i D) (σ.set i (some (.ref a))) H) ∧ (b = false → wRow K m i Wout D more cls d σ H)
/-- a row of clauses, each with the name n -/
inductive Row (X : Cx) (n : Str) : List ExceptHandler → List (Value × SuiteT) → Prop
  | nil : Row X n [] []
  | cons {x : Str} {c : Value} {ts : SuiteT} {b : Stmt} {bs : List Stmt} {p q : Pos} {hs : List ExceptHandler} {l : List (Value × SuiteT)} (hc : Names X x c)
      (su : ∀ (a : Addr) (oe : Obj) (cls : Value) (d : Option Addr) (pn : List (Addr × Obj)), Zc cls d oe → (∃ vs, oe.data = .fields vs) → PSs (X.suite a ((a, oe) :: pn)) (b :: bs) (ts a cls d)) (more : Row X n hs l) :
      Row X n (.ExceptHandler (some (.Name x p)) (some n) (b :: bs) q :: hs) ((c, ts) :: l)
section
variable {X : Cx} {n : Str} {i : Nat} {body : List Stmt} {hs : List ExceptHandler} {h₀ : ExceptHandler} {l : List (Value × SuiteT)} {pos : Pos} {tb : WX → TS} {Wout : WX}
/-- the error is in our hands: the row of clauses -/
theorem row_run {pins : List (Addr × Obj)} {D : Ends} {a : Addr} {B : Heap} {sI s3 : Shared} {τ : L2.St} {G : Hp} {cls : Value} {d : Option Addr} (stk : X.stack = X.env :: X.outer) (fr : X.env.frame = some X.env.locals) (nd : X.N.Nodup) (at_ : X.N[i]? = some n) (lo : X.env.kindOf n = some .local) (tk : Takes X Wout) (ok : X.Ok)
    (J : Inv X pins τ G sI) (nb : ∀ b o, sI.heap.get? b = some o → b ∉ frs X.stack → B.get? b = some o) (up : sI.heap.UpToSlots s3.heap) (fl : HandSPX.FlyingZ B (X.env :: X.outer) a (Zc cls d) s3.heap) (free : G a = none) (os : s3.os = sI.os) (ag : AllBare s3.gens)
    (row : Row X n hs l) : wRow X.K X.N.length i Wout D l cls d τ G → wpAny (model X.prog X.w) X.A (handleBy (.ref a) X.env hs) (SP X pins D) X.xe s3 := by
  obtain ⟨oe, vs, he, hz, hd⟩ := fl.there
  have J3 : Inv X pins τ G s3 := J.landed nb fl.1 up os ag
  have out : ∀ {h : Heap} {o : Obj} {us : Array Value}, h.FunFrames B (X.env :: X.outer) → h.get? a = some o → o.data = .fields us → a ∉ frs (X.env :: X.outer) := fun {h o us} ff e dd hm => by
    obtain ⟨_, o2, e2, no⟩ := ff.mem hm
    rw [e] at e2
    cases e2
    exact no _ dd
  have o1 := out fl.2.2.1 he hd
  have nL : a ≠ X.env.locals := fun z => o1 (List.mem_filterMap.mpr ⟨X.env, List.mem_cons_self, by rw [fr, z]⟩)
  have nF : a ∉ X.fs := fun hm => by
    obtain ⟨e, hin, q⟩ := List.mem_filterMap.mp hm
    exact o1 (List.mem_filterMap.mpr ⟨e, List.mem_cons_of_mem _ hin, q⟩)
  have S3 := J3.suite he hd free nL nF
  induction row with
  | nil =>
    intro w
    refine wpAny_handleBy_nil ?_
    obtain ⟨_, _, _, o4, v4, T, _, _, e4, z4, d4, t4, _⟩ := id fl
    have fin : wpAny (model X.prog X.w) X.A (setFlight (.ref a) X.env.frame) (fun _ s4 => wpAny (model X.prog X.w) X.A (throw (.ref a) : Sem Flow) (SP X pins D) X.xe s4) X.xe s3 := by
      rw [fr]
      exact HandSPX.setFlight_upZ fl fun h4 hh up4 => wpAny_throw (tk _ _ ⟨a, B, sI, pins, τ, G, cls, d, rfl, J, nb, up.trans up4, .inr (.inr (by rw [stk]; exact hh)), free, os, ag, w⟩)
    unfold PySem.passOn
    refine wpAny_bind (wpAny_field e4 d4 t4 ?_)
    rw [if_neg (show ¬ ((Value.ref T == Value.none) = true) by simp)]
    first
      | exact wpAny_bind (wpAny_pure (wpAny_bind fin))
      | exact wpAny_bind fin
  | @cons x c ts b bs p q hs l hc su more ih =>
    rintro ⟨yes, ans, w1, w0⟩
    refine wpAny_handleBy_cons (codeAny_handlers_test ?_) (fun z => nomatch z)
    have LT : PySem.W.Looks (model X.prog X.w) s3.heap (typeOf (.ref a)) cls := fun _ _ _ _ k q => wpAny_typeOf_ref (k _ _ he) (by rw [hz.1]; exact q)
    have LM := PySem.W.exm_one (M := model X.prog X.w) J3.kIn LT ans
    have name : ∀ {Q E : Value → Shared → Prop}, Q c s3 → wpAny (model X.prog X.w) (X.A.mark (some (.ref a))) (eval (.Name x p) X.env) Q E s3 := fun {Q E} q => by
      obtain ⟨g1, g2, g3 | ⟨g3, g4, g5⟩⟩ := hc
      · exact ld_glob (X := X.suite a ((a, oe) :: (X.pn ++ pins))) S3 g1 g3 q g2
      · exact ld_blt (X := X.suite a ((a, oe) :: (X.pn ++ pins))) S3 g1 g3 g4 q g5 g2
    refine name (LM.here ?_)
    cases yes with
    | false => exact ih (w0 rfl)
    | true =>
      refine codeAny_handlers_suite_as (HandSPX.lands_againZ fl fun h4 fl4 up4 => ?_)
      have J4 : Inv X pins τ G { s3 with heap := h4 } := J.landed nb fl4.1 (up.trans up4) os ag
      obtain ⟨oe4, vs4, he4, hz4, hd4⟩ := fl4.there
      refine store_ok (X := X.suite a ((a, oe4) :: (X.pn ++ pins))) (v := .ref a) (J4.suite he4 hd4 free nL nF) nd at_ (.inl lo) rfl (fun s5 S5 => ?_) (.inr lo)
      refine wpAny_mono ((su a oe4 cls d (X.pn ++ pins) hz4 ⟨_, hd4⟩).run [] s5 _ G _ S5 (w1 rfl a free J.len)) (fun f s6 hsp => ?_) (fun _ _ z => z.elim)
      have last : ∀ {τ6 : L2.St} {G6 : Hp} {Q : Shared → Prop}, Inv (X.suite a ((a, oe4) :: (X.pn ++ pins))) [] τ6 G6 s6 → (∀ s7, Inv X pins (τ6.set i none) G6 s7 → Q s7) →
          wpAny (model X.prog X.w) X.A (do bindName X.env n .none; unbindBehindTheSuite X.env n q) (fun _ s7 => Q s7) X.xe s6 := fun S6 k => gone_ok (S6.unsuite ok) nd at_ lo k
      match f, hsp with
      | .next, ⟨τ6, G6, S6, k⟩ => exact last S6 fun s7 J7 => ⟨_, _, J7, k⟩
      | .brk, ⟨τ6, G6, S6, k⟩ => exact last S6 fun s7 J7 => ⟨_, _, J7, k⟩
      | .cont, ⟨τ6, G6, S6, k⟩ => exact last S6 fun s7 J7 => ⟨_, _, J7, k⟩
      | .ret u, ⟨v6, τ6, G6, S6, r6, k⟩ => exact last S6 fun s7 J7 => ⟨_, _, _, J7, r6, k⟩
theorem ps_try_row (stk : X.stack = X.env :: X.outer) (fr : X.env.frame = some X.env.locals) (nd : X.N.Nodup) (at_ : X.N[i]? = some n) (lo : X.env.kindOf n = some .local) (tk : Takes X Wout)
    (hb : ∀ (W : WX) (pn : List (Addr × Obj)) (xe : Value → Shared → Prop), Takes (X.tr pn xe) W → PassesOwn (model X.prog X.w) X.A X.env xe → PSs (X.tr pn xe) body (tb W)) (row : Row X n (h₀ :: hs) l) :
    PS X (.Try body (h₀ :: hs) [] [] pos) (fun D σ H => tb (wRow X.K X.N.length i Wout D l) D σ H) := by
  refine ⟨fun pins s σ H D I h => wpAny_Try_except ?_⟩
  have ok := I.ok
  have frames : X.A.frames = some (X.env :: X.outer) := by rw [ok.frames, stk]
  let xe : Value → Shared → Prop := fun e s₁ => wpAny (model X.prog X.w) X.A (noteFrame e X.env) (fun _ s₂ => wpAny (model X.prog X.w) X.A (setFlight e none) (fun _ s₃ => wpAny (model X.prog X.w) X.A (handleBy e X.env (h₀ :: hs)) (SP X pins D) X.xe s₃) X.xe s₂) X.xe s₁
  have caught : Takes (X.tr (X.pn ++ pins) xe) (wRow X.K X.N.length i Wout D l) := fun u s' ⟨a, B, sI, pins', τ, G, cls, d, eu, J', nb, up, sky, na, os, ag, w⟩ => by
    subst eu
    have J : Inv X pins τ G sI := J'.ofTry ok
    have sky2 : Sky B (X.env :: X.outer) a (Zc cls d) X.env.locals s'.heap := by rw [← stk]; exact sky
    refine Sky.land Zc.steady frames fr sky2 fun h3 fl3 up3 => ?_
    exact row_run (s3 := { s' with heap := h3 }) stk fr nd at_ lo tk ok J nb (up.trans up3) fl3 na os ag row w
  refine wpAny_mono ((hb (wRow X.K X.N.length i Wout D l) (X.pn ++ pins) xe caught PassesOwn.looking).run [] s σ H D (I.toTry _) h) (fun f s1 hsp => ?_) (fun _ _ z => z)
  match f, hsp with
  | .next, ⟨τ, G, J, q⟩ => exact wpAny_execs_nil ⟨τ, G, J.ofTry ok, q⟩
  | .brk, ⟨τ, G, J, q⟩ => exact ⟨τ, G, J.ofTry ok, q⟩
  | .cont, ⟨τ, G, J, q⟩ => exact ⟨τ, G, J.ofTry ok, q⟩
  | .ret u, ⟨v, τ, G, J, r, q⟩ => exact ⟨v, τ, G, J.ofTry ok, r, q⟩
end
end Rt
end
section
set_option Elab.async false
set_option linter.all false
set_option maxRecDepth 100000
set_option maxHeartbeats 4000000
/-! defs and laws whose promise is told where no repr is under way -/
namespace Rt
open PySem PySem.Spec PyProof.Rows L2
/-- what a def's code is -/
def codeOf (K : PySem.W.Frag) (f : Addr) : Option Value := match K.lookup f with
  | some ⟨_, _, .func fd, _⟩ => some fd.code
  | _ => none
abbrev SpG : Type := List V → Hp → VK → Prop
structure FnG (P : Program) (w : World) (K : PySem.W.Frag) (mg : Str → Option Value) (base : Heap) (k : Nat) (f : Addr) (fd : FuncData) (ps : List Str) (sp : SpG) : Prop where
  len : ∀ vs H Q, sp vs H Q → vs.length = ps.length
  run : ∀ (A : Around) (outer : List Env) (s : Shared) (H : Hp) (us : List Value) (vs : List V) (Q : VK), A.guards = some [] → Room k A → Env0 P w K mg base A outer s H → Vals vs us → sp vs H Q → codeAny (model P w) A (.call (.ref f) ⟨us, []⟩) (CR C8.CX0 outer P w H s Q C8.E0) s
section
variable {P : Program} {w : World} {K : PySem.W.Frag} {mg : Str → Option Value} {base : Heap} {x qual : Str} {params : Arguments} {body : List Stmt} {scope : Scope} {f : Addr} {fd : FuncData} {N ps : List Str} {k : Nat} {sp : SpG}
theorem FnG.of (F : FunD K x qual params body scope [] [] f fd) (S : FnScope N ps scope) (hb : Binds K fd ps []) (len : ∀ vs H Q, sp vs H Q → vs.length = ps.length)
    (hbody : ∀ (cdv : Value) (A : Around) (outer : List Env) (s : Shared) (H : Hp) (vs : List V) (Q : VK), codeOf K f = some cdv → A.guards = some [] → Room k (A.deeper (envOfC qual scope s.heap.objs.size f cdv)) → sp vs H Q →
      ∃ t, PSs (cxOf C8.CX0 P w K mg base N qual scope f cdv A outer s H C8.E0).nox body t ∧ t { nx := fun _ H' => Q .non H', rt := Q } (start N vs) H) : FnG P w K mg base (k + 1) f fd ps sp := by
  refine ⟨len, fun A outer s H us vs Q gu hr e0 r h => ?_⟩
  obtain ⟨oc, od, dV, kV, doc, pm, an, cdv, ct, osl, rfl, lk, hcd, _, _⟩ := F.ex
  have KX : K.In s.heap := e0.mod.kin.keeps fun b o e => (e0.bs b o e).1
  have ln := len _ _ _ h
  have bd := hb s us KX (by rw [r.length] at ln; simpa using ln)
  refine LamX.run_ofS lk hcd S hr e0 (by simpa using bd) r ln fun hr2 => ?_
  obtain ⟨t, ht, q⟩ := hbody cdv A outer s H vs Q (by unfold codeOf; rw [lk] <;> rfl) gu hr2 h
  exact ⟨t, ht.nox, q⟩
end
/-- the end: a law without lambdas whose promise is told where no repr is under way -/
theorem law_end2 {P : Program} {w : World} {K : PySem.W.Frag} {mg mb : Str → Option Value} {k : Nat} {fa a : Addr} {fd : FuncData} {x : Str} {sp : SpG} {s : Shared} {vs : List Value} {ns : List Int}
    (kin : K.In s.heap) (glob : s.heap.Ns mainGlobals mg) (bltn : s.heap.Ns builtinsNs mb) (boot : ∀ x : Str, x ≠ "__name__" → mb x = bootBuiltins x) (lim : s.heap.NoLimit) (gens : s.gens = #[])
    (scr : s.heap.get? a = some { cls := .type "list", data := .seq vs.toArray }) (isI : IntsAre vs ns) (fits : ns.length ≤ sizeLine) (hr : Room k callerA)
    (F : ∀ base : Heap, K.In base → base.Ns mainGlobals mg → FnG P w K mg base k fa fd [x] sp)
    (told : ∀ H : Hp, SqL K H a (ns.map V.int) → sp [.ref a] H (fun v _ => v = .bl true)) :
    codeAny (model P w) callerA (.call (.ref fa) ⟨[.ref a], []⟩) (fun r s' => r = .ok (.ret (.bool true)) ∧ OldK s.heap s'.heap ∧ s'.os = s.os ∧ AllBare s'.gens) s := by
  have rv := vals_ints isI
  have vl := isI.length
  have go : ∀ H : Hp, (∀ b, H b = none ∨ (b = a ∧ K.lookup a = none ∧ ∃ o ys, H b = some (.frz o (.lst ys)))) → SqL K H a (ns.map V.int) → HOk P w H s.heap →
      codeAny (model P w) callerA (.call (.ref fa) ⟨[.ref a], []⟩) (fun r s' => r = .ok (.ret (.bool true)) ∧ OldK s.heap s'.heap ∧ s'.os = s.os ∧ AllBare s'.gens) s := by
    intro H other sq hok
    have names : ∀ {b : Addr} {m : Str → Option Value}, s.heap.Ns b m → (hidT s.heap H).Ns b m := fun {b m} ⟨o, es, ep, e, d, r⟩ => by
      refine ⟨o, es, ep, hidT_get e ?_, d, r⟩
      rcases other b with q | ⟨q, _⟩
      · exact q
      · rw [q, scr] at e
        cases e
        cases d
    have bin : K.In (hidT s.heap H) := fun b o e => hidT_get (kin b o e) (by
      rcases other b with q | ⟨q, q2, _⟩
      · exact q
      · rw [q, q2] at e
        cases e)
    have md : L2.Mod K mg (hidT s.heap H) := ⟨bin, names glob, ⟨mb, names bltn, boot⟩, let ⟨mc, h1, h2⟩ := lim; ⟨mc, names h1, h2⟩⟩
    have e0 : Env0 P w K mg (hidT s.heap H) callerA [] s H := ⟨rfl, md, fun b o e => of_hidT e, Nat.le_of_eq (hidT_size _ _), trivial, fun b hb => absurd (show b ∈ ([] : List Addr) from hb) (by simp), hok, .of_eq gens⟩
    refine codeAny_mono ((F _ bin (names glob)).run callerA [] s H [.ref a] [.ref a] _ rfl hr e0 (.cons rfl .nil) (told H sq)) fun r s' h => ?_
    match r, h with
    | .error e, h => exact (show False from h).elim
    | .ok .next, h => exact False.elim h
    | .ok .brk, h => exact False.elim h
    | .ok .cont, h => exact False.elim h
    | .ok (.ret u), h =>
      obtain ⟨v, H', os, bare, un, hok', rv', q⟩ := h
      have q : v = .bl true := q
      subst q
      obtain rfl : u = Value.bool true := rv'
      have stay : ∀ b o, s.heap.get? b = some o → s'.heap.get? b = some o := fun b o e => by
        rcases other b with q | ⟨_, _, o2, ys, q⟩
        · exact un.keep b o e q (fun z => nomatch (show b ∈ ([] : List Addr) from z)) (by simp)
        · obtain ⟨e1, _⟩ := hok b _ q
          obtain ⟨e2, _⟩ := hok' b _ (un.frzs b o2 _ q)
          rw [e] at e1
          cases e1
          exact e2
      exact ⟨rfl, ⟨fun b o e => .inl (stay b o e), fun b o e => ⟨o, stay b o e⟩⟩, os, bare⟩
  cases hk : K.lookup a with
  | some o =>
    have e := kin a o hk
    rw [scr] at e
    cases e
    exact go (fun _ => none) (fun b => .inl rfl) (.inr ⟨_, vs.toArray, _, hk, rfl, rfl, rfl, by rw [List.size_toArray, vl]; exact fits, by simpa using rv⟩) (fun b u z => nomatch z)
  | none =>
    refine go (fun b => if b = a then some (.frz { cls := .type "list", data := .seq vs.toArray } (.lst (ns.map V.int))) else none) (fun b => ?_) (.inl (.inr ⟨{ cls := .type "list", data := .seq vs.toArray }, if_pos rfl⟩)) (fun b u z => ?_)
    · by_cases hb : b = a
      · exact .inr ⟨hb, hk, _, _, if_pos hb⟩
      · exact .inl (if_neg hb)
    · by_cases hb : b = a
      · have z2 := (if_pos hb).symm.trans z
        cases z2
        rw [hb]
        exact ⟨scr, by rw [List.length_map]; exact fits, vs, _, rv, scr⟩
      · have z2 := (if_neg hb).symm.trans z
        cases z2
theorem walk_end2 {l : PySem.W.OpenLaw} {n k : Nat} {q : Program} {loose : List Str} {XP : (Str → Option Value) → Heap → Prop} {YP : World → Heap → Prop} {d : DefRec} {x : Str}
    (hn : l.most = some n) (hn2 : n ≤ sizeLine) (hdf : d.params.defaults = []) (hr : Room k callerA)
    (F : ∀ (w : World) (mg : Str → Option Value) (fa : Addr) (h : Heap), YP w h → h.Ns mainGlobals mg → mg d.name = some (.ref fa) → ∃ (K : PySem.W.Frag) (fd : FuncData) (sp : SpG), K.In h ∧
      (∀ (H : Hp) (a : Addr) (ns : List Int), ns.length ≤ n → SqL K H a (ns.map V.int) → sp [.ref a] H (fun v _ => v = .bl true)) ∧
      ∀ base : Heap, K.In base → base.Ns mainGlobals mg → FnG l.prog w K mg base k fa fd [x] sp) :
    PySem.W.WalkO q loose XP YP l.row.toRowW d [] (fun f vs => PySem.call f vs) := by
  refine Att.attach_callB hn hdf fun w s₀ s₁ mg mb fa o pm cd doc a vs ns G Y ho hd hcd hmg hobj hints hlen hbits hg => ?_
  obtain ⟨K, fd, sp, KX, hsp, hF⟩ := F w mg fa _ Y G.T.g hmg
  exact law_end2 KX G.T.g G.T.b G.T.builtins G.T.nolimit hg hobj hints (Nat.le_trans hlen hn2) hr hF fun H h => hsp H a ns hlen h
end Rt
end
section
set_option Elab.async false
set_option linter.all false
set_option maxRecDepth 100000
set_option maxHeartbeats 4000000
/-! sets made of a list or a tuple: the call taken apart from the loop that fills the set -/
namespace Rt
open PySem PySem.Spec PyProof.Rows
section
variable {prog : Program} {w : World} {A : Around} {E : Value → Shared → Prop} {s : Shared}
/-- the heap as the filling loop finds it: an empty set, behind it an iterator -/
def setAhead (w : World) (led : Bool) (h : Heap) (kind : String) (l : Addr) : Heap :=
  (h.push { cls := .type "set", dict := none, data := .set #[] 0 (.fresh 0 0 led) }).push { cls := .type kind, data := .fields #[.ref l, .int 0 0] }
abbrev eqG : Array GenState → Array GenState → Prop := fun a b => b = a
/-- what the loop has to do -/
def Fills (prog : Program) (w : World) (led : Bool) (s : Shared) (kind : String) (l : Addr) (T : Heap → Prop) (u : Nat) : Prop :=
  ∀ (B : Around) (R : Result → Shared → Prop), B.in1.handled = none → B.in1.units ≤ u →
    (∀ s', Moved [s.heap.objs.size, s.heap.objs.size + 1] eqG { s with heap := setAhead w led s.heap kind l } s' → T s'.heap → R (.ok (.ret .none)) s') →
    codeAny (model prog w) B (.builtin "set.update.loop" ⟨[.ref s.heap.objs.size, .ref (s.heap.objs.size + 1)], []⟩) R { s with heap := setAhead w led s.heap kind l }
theorem led_new (a : Value) {Z : Value → Shared → Prop} (k : ∀ led : Bool, led = (!w.params.followText "set-order") → Z (.ref s.heap.objs.size) { s with heap := s.heap.push { cls := .type "set", dict := none, data := .set #[] 0 (.fresh 0 0 led) } }) :
    codeAny (model prog w) A (.call (.builtin "set.__new__") ⟨[.type "set", a], []⟩) (wants Z E) s := L2.code_set_led1 a (k _ rfl)

set_option maxHeartbeats 3200000 in
theorem set_list {l : Addr} {items : Array Value} {T : Heap → Prop} {Q : Value → Shared → Prop} (hh : A.handled = none) (src : s.heap.IsList l items)
    (F0 : ∀ led : Bool, led = (!w.params.followText "set-order") → Fills prog w led s "list_iterator" l T (A.units + 3))
    (fin : ∀ (h' : Heap) (tk : Nat), T h' → (∀ b o, s.heap.get? b = some o → h'.get? b = some o) → Q (.ref s.heap.objs.size) { s with heap := h', toks := tk }) :
    wpAny (model prog w) A (call (.type "set") [.ref l]) Q E s := by
  have g1 := PySem.F.called_set.made
  have g2 := PySem.F.called_set.sub
  have g3 := PySem.F.called_set.notType
  have g4 := PySem.F.called_set.canCreate
  have g5 := PySem.F.typeCall_set_1 (.ref l)
  obtain ⟨g6, g7, g8⟩ := PySem.F.called_set.mro
  apply wpAny_call
  apply codeAny_of_tree
  show wpAny _ _ (callAny (.type "set") _) _ _ _
  apply wpAny_pure
  refine ⟨Code.quiet_builtin _ (by decide +kernel), ?_⟩
  apply codeAny_builtin PySem.F.entry_type_call
  rw [Around.under_plain (weight_type_call_type "set" [.ref l] []) rfl]
  repeat (any_goals (first | assumption | wp_step))

  apply codeAny_mono (led_new (.ref l) (E := E) (Z := fun x t => ∃ led : Bool, led = (!w.params.followText "set-order") ∧ x = .ref s.heap.objs.size ∧ t = { s with heap := s.heap.push { cls := .type "set", dict := none, data := .set #[] 0 (.fresh 0 0 led) } }) fun led e => ⟨led, e, rfl, rfl⟩)
  rintro r s₁ made
  rcases r with _ | fl
  · exact made
  rcases fl with _ | _ | _ | x
  any_goals (first | exact made.elim | skip)
  obtain ⟨led, eled, rfl, rfl⟩ := made
  generalize eO : ({ cls := .type "set", dict := none, data := .set #[] 0 (.fresh 0 0 led) } : Obj) = O at *
  have atS : (s.heap.push O).get? s.heap.objs.size = some O := Heap.get?_push_size _ (by subst eO; rfl)
  have tyS : Shared.TypeIs { s with heap := s.heap.push O } (.ref s.heap.objs.size) "set" := ⟨_, atS, by subst eO; rfl⟩
  have g9 := PySem.F.called_set.init.lookup
  have g10 := PySem.F.called_set.init.bind (.ref s.heap.objs.size)
  repeat (any_goals (first | assumption | wp_step))

  apply codeAny_mono (codeAny_call_builtin (R := wants (fun r t => r = .none ∧ ∃ h' tk, t = { s with heap := h', toks := tk } ∧ T h' ∧ (∀ b o, s.heap.get? b = some o → h'.get? b = some o)) E) PySem.F.called_set.init.plain PySem.F.entry_set_init (check_set_init_1 tyS ?_))
  · rintro r s₂ done
    rcases r with _ | fl
    · exact done
    rcases fl with _ | _ | _ | x
    any_goals (first | exact done.elim | skip)
    obtain ⟨rfl, h', tk, rfl, t1, t2⟩ := done
    repeat (any_goals (first | assumption | wp_step))
    exact fin _ _ t1 t2
  · obtain ⟨ob, ol, oc, cnt, od⟩ := src
    obtain ⟨c0, c1, c2, c3⟩ := ob
    simp only at oc od
    subst oc od
    have keep : (s.heap.push O).get? l = some { cls := .type "list", dict := c1, data := .seq items cnt, slots := c3 } := Heap.get?_push_of_some _ ol
    have k1 := PySem.F.sub_list_set
    have k2 := PySem.F.sub_list_frozenset
    have k3 : (Value.type "list" == Value.type "dict") = false := by decide
    have inner : (s.heap.push O).IsList l items := ⟨_, keep, rfl, cnt, rfl⟩
    subst eO
    unfold Builtin.«set.__init__» noKeywords Builtin.Frozenset.updateFrom
    generalize ePI : pyIter = PI
    wp_walk
    subst ePI
    apply wpAny_pyIter_list inner
    apply wpAny_bind
    apply wpAny_runValue
    have small : l < s.heap.objs.size := Heap.lt_size ol
    have calm : A.in1.in1.in1.handled = none := by simp [hh]
    have two : (s.heap.push { cls := .type "set", dict := none, data := .set #[] 0 (.fresh 0 0 led) }).objs.size = s.heap.objs.size + 1 := Heap.size_push ..
    have run := F0 led eled
    unfold Fills setAhead at run
    rw [two]
    apply run _ _ calm (Nat.le_refl _)
    intro s' mv tT
    obtain ⟨hp, gs, dr, tk, os⟩ := s'
    have e1 : gs = s.gens := mv.gens
    have e2 : dr = s.drawn := mv.drawn
    have e3 : os = s.os := mv.os
    subst e1 e2 e3
    show wpAny _ _ _ _ _ _
    apply wpAny_pure
    show wpAny _ _ (ret Value.none) _ _ _
    refine wpAny_pure ⟨rfl, hp, tk, rfl, tT, fun b o hb => mv.heap b o ?_ (Heap.get?_push_of_some _ (Heap.get?_push_of_some _ hb))⟩
    have lt := Heap.lt_size hb
    simp only [List.mem_cons, List.not_mem_nil, or_false, not_or]
    exact ⟨Nat.ne_of_lt lt, Nat.ne_of_lt (Nat.lt_succ_of_lt lt)⟩

set_option maxHeartbeats 3200000 in
theorem set_tuple {l : Addr} {items : Array Value} {T : Heap → Prop} {Q : Value → Shared → Prop} (hh : A.handled = none) (src : s.heap.IsTuple l items)
    (F0 : ∀ led : Bool, led = (!w.params.followText "set-order") → Fills prog w led s "tuple_iterator" l T (A.units + 3))
    (fin : ∀ (h' : Heap) (tk : Nat), T h' → (∀ b o, s.heap.get? b = some o → h'.get? b = some o) → Q (.ref s.heap.objs.size) { s with heap := h', toks := tk }) :
    wpAny (model prog w) A (call (.type "set") [.ref l]) Q E s := by
  have g1 := PySem.F.called_set.made
  have g2 := PySem.F.called_set.sub
  have g3 := PySem.F.called_set.notType
  have g4 := PySem.F.called_set.canCreate
  have g5 := PySem.F.typeCall_set_1 (.ref l)
  obtain ⟨g6, g7, g8⟩ := PySem.F.called_set.mro
  apply wpAny_call
  apply codeAny_of_tree
  show wpAny _ _ (callAny (.type "set") _) _ _ _
  apply wpAny_pure
  refine ⟨Code.quiet_builtin _ (by decide +kernel), ?_⟩
  apply codeAny_builtin PySem.F.entry_type_call
  rw [Around.under_plain (weight_type_call_type "set" [.ref l] []) rfl]
  repeat (any_goals (first | assumption | wp_step))

  apply codeAny_mono (led_new (.ref l) (E := E) (Z := fun x t => ∃ led : Bool, led = (!w.params.followText "set-order") ∧ x = .ref s.heap.objs.size ∧ t = { s with heap := s.heap.push { cls := .type "set", dict := none, data := .set #[] 0 (.fresh 0 0 led) } }) fun led e => ⟨led, e, rfl, rfl⟩)
  rintro r s₁ made
  rcases r with _ | fl
  · exact made
  rcases fl with _ | _ | _ | x
  any_goals (first | exact made.elim | skip)
  obtain ⟨led, eled, rfl, rfl⟩ := made
  generalize eO : ({ cls := .type "set", dict := none, data := .set #[] 0 (.fresh 0 0 led) } : Obj) = O at *
  have atS : (s.heap.push O).get? s.heap.objs.size = some O := Heap.get?_push_size _ (by subst eO; rfl)
  have tyS : Shared.TypeIs { s with heap := s.heap.push O } (.ref s.heap.objs.size) "set" := ⟨_, atS, by subst eO; rfl⟩
  have g9 := PySem.F.called_set.init.lookup
  have g10 := PySem.F.called_set.init.bind (.ref s.heap.objs.size)
  repeat (any_goals (first | assumption | wp_step))

  apply codeAny_mono (codeAny_call_builtin (R := wants (fun r t => r = .none ∧ ∃ h' tk, t = { s with heap := h', toks := tk } ∧ T h' ∧ (∀ b o, s.heap.get? b = some o → h'.get? b = some o)) E) PySem.F.called_set.init.plain PySem.F.entry_set_init (check_set_init_1 tyS ?_))
  · rintro r s₂ done
    rcases r with _ | fl
    · exact done
    rcases fl with _ | _ | _ | x
    any_goals (first | exact done.elim | skip)
    obtain ⟨rfl, h', tk, rfl, t1, t2⟩ := done
    repeat (any_goals (first | assumption | wp_step))
    exact fin _ _ t1 t2
  · obtain ⟨ob, ol, oc, cnt, od⟩ := src
    obtain ⟨c0, c1, c2, c3⟩ := ob
    simp only at oc od
    subst oc od
    have keep : (s.heap.push O).get? l = some { cls := .type "tuple", dict := c1, data := .seq items cnt, slots := c3 } := Heap.get?_push_of_some _ ol
    have k1 := PySem.F.sub_tuple_set
    have k2 := PySem.F.sub_tuple_frozenset
    have k3 : (Value.type "tuple" == Value.type "dict") = false := by decide
    have inner : (s.heap.push O).IsTuple l items := ⟨_, keep, rfl, cnt, rfl⟩
    subst eO
    unfold Builtin.«set.__init__» noKeywords Builtin.Frozenset.updateFrom
    generalize ePI : pyIter = PI
    wp_walk
    subst ePI
    apply wpAny_pyIter_tuple inner
    apply wpAny_bind
    apply wpAny_runValue
    have small : l < s.heap.objs.size := Heap.lt_size ol
    have calm : A.in1.in1.in1.handled = none := by simp [hh]
    have two : (s.heap.push { cls := .type "set", dict := none, data := .set #[] 0 (.fresh 0 0 led) }).objs.size = s.heap.objs.size + 1 := Heap.size_push ..
    have run := F0 led eled
    unfold Fills setAhead at run
    rw [two]
    apply run _ _ calm (Nat.le_refl _)
    intro s' mv tT
    obtain ⟨hp, gs, dr, tk, os⟩ := s'
    have e1 : gs = s.gens := mv.gens
    have e2 : dr = s.drawn := mv.drawn
    have e3 : os = s.os := mv.os
    subst e1 e2 e3
    show wpAny _ _ _ _ _ _
    apply wpAny_pure
    show wpAny _ _ (ret Value.none) _ _ _
    refine wpAny_pure ⟨rfl, hp, tk, rfl, tT, fun b o hb => mv.heap b o ?_ (Heap.get?_push_of_some _ (Heap.get?_push_of_some _ hb))⟩
    have lt := Heap.lt_size hb
    simp only [List.mem_cons, List.not_mem_nil, or_false, not_or]
    exact ⟨Nat.ne_of_lt lt, Nat.ne_of_lt (Nat.lt_succ_of_lt lt)⟩
end
end Rt
end
section
set_option Elab.async false
set_option linter.all false
set_option maxRecDepth 100000
set_option maxHeartbeats 4000000
/-! set(xs) of ints and texts: which are in, how many there are; sorted(set(xs)) of ints -/
namespace Rt
open PySem PySem.Spec PyProof.Rows
/-! ### how many unlike ones -/
section
variable {κ : Type} [DecidableEq κ]
/-- of the list turned about -/
def cntR : List κ → Nat
  | [] => 0
  | x :: r => if x ∈ r then cntR r else cntR r + 1
def cnt (l : List κ) : Nat := cntR l.reverse
theorem cnt_snoc (l : List κ) (x : κ) : cnt (l ++ [x]) = if x ∈ l then cnt l else cnt l + 1 := by
  unfold cnt
  rw [List.reverse_append]
  show (if x ∈ l.reverse then cntR l.reverse else cntR l.reverse + 1) = _
  simp only [List.mem_reverse]
theorem cntR_le : ∀ l : List κ, cntR l ≤ l.length
  | [] => Nat.le_refl _
  | x :: r => by
    have := cntR_le r
    show (if x ∈ r then cntR r else cntR r + 1) ≤ r.length + 1
    split <;> omega
theorem cnt_le (l : List κ) : cnt l ≤ l.length := by
  have := cntR_le l.reverse
  rw [List.length_reverse] at this
  exact this
theorem cntR_nd : ∀ l : List κ, cntR l = l.length ↔ l.Nodup
  | [] => by simp [cntR]
  | x :: r => by
    have ih := cntR_nd r
    have le := cntR_le r
    show (if x ∈ r then cntR r else cntR r + 1) = r.length + 1 ↔ _
    rw [List.nodup_cons, ← ih]
    by_cases h : x ∈ r
    · rw [if_pos h]
      constructor
      · intro e
        omega
      · intro e
        exact absurd h e.1
    · rw [if_neg h]
      constructor
      · intro e
        exact ⟨h, by omega⟩
      · intro e
        omega
theorem cnt_nd (l : List κ) : cnt l = l.length ↔ l.Nodup := by
  unfold cnt
  rw [← List.length_reverse, cntR_nd]
  exact (List.reverse_perm l).nodup_iff
end
/-! ### the filling loop, for any kind of key that is carried by its value -/
section
variable {prog : Program} {w : World} {A : Around} {R : Result → Shared → Prop} {I : Addr} {fp wr : List Addr} {G : Array GenState → Array GenState → Prop} {n : Nat} {P : Nat → Value → Prop} {St : Nat → Shared → Prop}
variable {κ : Type} [DecidableEq κ]
theorem setOf_same {knd : KeyKind prog w κ} {h h' : Heap} {a : Addr} {S : κ → Bool} {m : Nat} (x : h.SetOf knd a S m) (k : ∀ o, h.get? a = some o → h'.get? a = some o) : h'.SetOf knd a S m :=
  match x with
  | ⟨o, es, ep, t, ho, r⟩ => ⟨o, es, ep, t, k o ho, r⟩
theorem fill_keys (knd : KeyKind prog w κ) (walk : WalksS prog w A.in1 I fp wr G n P St) (S : Addr) (out : S ∉ fp) (xs : List κ) (hn : xs.length = n) (room : n + 1 < scanBound)
    (key : ∀ i v, P i v → ∃ x, xs[i]? = some x ∧ knd.is x v = true ∧ v.scannable = true) :
    ∀ (d i : Nat) (s : Shared), i + d = n → St i s → s.heap.SetOf knd S (fun j => decide (j ∈ xs.take i)) (cnt (xs.take i)) →
      (∀ s', Moved (S :: wr) G s s' → s'.heap.SetOf knd S (fun j => decide (j ∈ xs)) (cnt xs) → R (.ok (.ret .none)) s') →
      codeAny (model prog w) A (.builtin "set.update.loop" ⟨[.ref S, .ref I], []⟩) R s
  | 0, i, s, e, st, here, fin => by
    obtain rfl : i = n := by omega
    have full : xs.take i = xs := List.take_of_length_le (by omega)
    rw [full] at here
    apply codeAny_builtin PyProof.Rows.F.entry_set_update_loop
    rw [Around.under_plainId PyProof.Rows.F.plain_set_update_loop _]
    show wpAny _ A.in1 (pyNext (.ref I) >>= _) _ _ s
    apply wpAny_bind
    apply walk.done s _ _ st
    intro s' mv
    exact wpAny_pure (fin s' (mv.mono fun b hb => List.mem_cons_of_mem _ hb) (setOf_same here fun o ho => mv.heap S o (fun q => out (walk.sub _ q)) ho))
  | d + 1, i, s, e, st, here, fin => by
    apply codeAny_builtin PyProof.Rows.F.entry_set_update_loop
    rw [Around.under_plainId PyProof.Rows.F.plain_set_update_loop _]
    show wpAny _ A.in1 (pyNext (.ref I) >>= _) _ _ s
    apply wpAny_bind
    apply walk.item i s _ _ (by omega) st
    intro v s' pv st' mv
    obtain ⟨x, hx, isx, scx⟩ := key i v pv
    have here' := setOf_same (h' := s'.heap) here fun o ho => mv.heap S o (fun q => out (walk.sub _ q)) ho
    show wpAny _ A.in1 (holding [v] (setAdd S v) >>= _) _ _ s'
    apply wpAny_bind
    apply wpAny_holding
    unfold setAdd
    apply wpAny_holding
    apply wpAny_bind
    refine knd.pyHash isx ?_
    have few : cnt (xs.take i) + 1 < scanBound := by
      have h1 := cnt_le (xs.take i)
      have h2 : (xs.take i).length ≤ xs.length := List.length_take_le' _ _
      omega
    refine wpAny_setAddHashed_of (knd := knd) (s := { s' with toks := s'.toks + 1 }) isx scx here' few fun h' but now => ?_
    have step : xs.take (i + 1) = xs.take i ++ [x] := take_one hx
    have now' : h'.SetOf knd S (fun j => decide (j ∈ xs.take (i + 1))) (cnt (xs.take (i + 1))) := by
      have e1 : (fun j => decide (j ∈ xs.take i) || decide (j = x)) = fun j => decide (j ∈ xs.take (i + 1)) := by
        funext j
        rw [step]
        by_cases a : j ∈ xs.take i <;> by_cases b : j = x <;> simp [a, b]
      have e2 : (if decide (x ∈ xs.take i) = true then cnt (xs.take i) else cnt (xs.take i) + 1) = cnt (xs.take (i + 1)) := by
        rw [step, cnt_snoc]
        by_cases a : x ∈ xs.take i <;> simp [a]
      rw [← e1, ← e2]
      exact now
    refine wpAny_pure ⟨plainId_quiet PyProof.Rows.F.plain_set_update_loop _, fill_keys knd walk S out xs hn room key d (i + 1) _ (by omega) (walk.frame _ s' _ _ st' (Nat.le_succ _) fun b hb o ho => ?_) now' fun s'' mv2 last => fin s'' ?_ last⟩
    · rw [but.2 b (fun q : b = S => out (q ▸ hb))]
      exact ho
    · refine Moved.trans walk.gtrans ((mv.mono fun b hb => List.mem_cons_of_mem _ hb).then_heap (Nat.le_succ _) fun b o hb ho => ?_) mv2
      rw [but.2 b (fun q : b = S => hb (q ▸ List.mem_cons_self))]
      exact ho
end
end Rt
end
section
set_option Elab.async false
set_option linter.all false
set_option maxRecDepth 100000
set_option maxHeartbeats 4000000
/-! set(xs) of a few tuples of keys (ints, texts): how many unlike ones there are -/
namespace Rt
open PySem PySem.Spec PyProof.Rows
section
variable {P : Program} {w : World} {κ : Type} [DecidableEq κ]
/-- keys that the small questions of a search answer by themselves -/
structure Mild (knd : KeyKind P w κ) : Prop where
  cls : ∀ k v n, knd.is k v = true → ofAClassStatement n v = pure false
  val : ∀ k v n, knd.is k v = true → ∃ r, hashByValue n v = pure r
variable {knd : KeyKind P w κ}
theorem mixMild : Mild (L2.mixKind P w) where
  cls := fun k v n h => by
    rcases L2.keyIs_shape h with ⟨i, t, rfl, rfl⟩ | ⟨x, t, rfl, rfl⟩ <;> cases n <;> rfl
  val := fun k v n h => by
    rcases L2.keyIs_shape h with ⟨i, t, rfl, rfl⟩ | ⟨x, t, rfl, rfl⟩ <;> cases n <;> exact ⟨_, rfl⟩
theorem items_each {ks : List κ} {vs : List Value} (h : ItemsAre knd ks vs) : ∀ v ∈ vs, ∃ k, knd.is k v = true := by
  induction h with
  | nil => intro v hv; cases hv
  | @cons k0 u ks us one _ more =>
    intro v hv
    cases List.mem_cons.mp hv with
    | inl e => exact ⟨k0, e ▸ one⟩
    | inr m => exact more v m
variable {A : Around} {E : Value → Shared → Prop} {s : Shared}
/-- a loop over a tuple's items that asks each a question with a settled answer -/
theorem ask_each {α : Type} {items : Array Value} {f : Value → α → Sem (ForInStep α)} {z : α} {Q : α → Shared → Prop} (h : ∀ v ∈ items.toList, f v z = pure (.yield z)) (q : Q z s) : wpAny (model P w) A (forIn items z f) Q E s := by
  rw [← Array.forIn_toList]
  refine wpAny_forIn_list _ (fun left r t => r = z ∧ t = s ∧ ∀ v ∈ left, f v z = pure (.yield z)) _ ?_ ?_ _ _ ⟨rfl, rfl, h⟩
  · rintro v left r t ⟨rfl, rfl, all⟩
    rw [all v List.mem_cons_self]
    exact wpAny_pure ⟨rfl, rfl, fun u hu => all u (List.mem_cons_of_mem _ hu)⟩
  · rintro r t ⟨rfl, rfl, _⟩
    exact q
theorem ask_some {α : Type} {items : Array Value} {f : Value → α → Sem (ForInStep α)} {z : α} {D : α → Prop} {Q : α → Shared → Prop} (h : ∀ v ∈ items.toList, f v z = pure (.yield z) ∨ ∃ d, D d ∧ f v z = pure (.done d)) (q : Q z s) (qd : ∀ d, D d → Q d s) :
    wpAny (model P w) A (forIn items z f) Q E s := by
  rw [← Array.forIn_toList]
  refine wpAny_forIn_list _ (fun left r t => r = z ∧ t = s ∧ ∀ v ∈ left, f v z = pure (.yield z) ∨ ∃ d, D d ∧ f v z = pure (.done d)) _ ?_ ?_ _ _ ⟨rfl, rfl, h⟩
  · rintro v left r t ⟨rfl, rfl, all⟩
    rcases all v List.mem_cons_self with e | ⟨d, hd, e⟩
    · rw [e]
      exact wpAny_pure ⟨rfl, rfl, fun u hu => all u (List.mem_cons_of_mem _ hu)⟩
    · rw [e]
      exact wpAny_pure (qd d hd)
  · rintro r t ⟨rfl, rfl, _⟩
    exact q
theorem no_class (M : Mild knd) {k : List κ} {b : Addr} {Q : Bool → Shared → Prop} (t : IsTupleKey knd s.heap k b) (q : Q false s) : wpAny (model P w) A (ofAClassStatement 8 (.ref b)) Q E s := by
  have ty := t.typeIs
  obtain ⟨o, items, n, ho, _, hd, hi⟩ := t
  unfold ofAClassStatement
  apply wpAny_bind
  apply wpAny_typeOf ty
  have yes : (("tuple" : String) == "tuple") = true := by decide
  simp only [yes, if_true, Bool.not_true, Bool.false_eq_true, if_false]
  try (apply wpAny_bind; apply wpAny_pure)
  try simp only [Bool.not_true, Bool.false_eq_true, if_false]
  show wpAny _ _ (seqItems? (.ref b) >>= _) _ _ s
  apply wpAny_bind
  apply wpAny_seqItems ho hd
  dsimp only
  apply wpAny_bind
  refine ask_each (fun v hv => ?_) ?_
  · obtain ⟨k', hk'⟩ := items_each hi v hv
    simp only [M.cls k' v _ hk', pure_bind, Bool.false_eq_true, if_false]
  · exact wpAny_pure q
theorem by_value (M : Mild knd) {k : List κ} {b : Addr} {Q : Bool → Shared → Prop} (t : IsTupleKey knd s.heap k b) (q : ∀ r, Q r s) : wpAny (model P w) A (hashByValue 8 (.ref b)) Q E s := by
  have ty := t.typeIs
  obtain ⟨o, items, n, ho, _, hd, hi⟩ := t
  unfold hashByValue
  apply wpAny_bind
  apply wpAny_specialOf ty F.slot_tuple_hash.lookup
  show wpAny _ _ (seqItems? (.ref b) >>= _) _ _ s
  apply wpAny_bind
  apply wpAny_seqItems ho hd
  apply wpAny_bind
  refine ask_some (D := fun d => ∃ r, d.1 = some r) (fun v hv => ?_) ?_ (fun d hd => ?_)
  · obtain ⟨k', hk'⟩ := items_each hi v hv
    obtain ⟨r, e⟩ := M.val k' v 7 hk'
    rw [e]
    cases r with
    | true => exact .inl rfl
    | false => exact .inr ⟨_, ⟨false, rfl⟩, rfl⟩
  · exact wpAny_pure (q true)
  · obtain ⟨d1, d2⟩ := d
    obtain ⟨r, e⟩ := hd
    simp only at e
    subst e
    exact wpAny_pure (q r)

/-! ### the set -/
abbrev th (knd : KeyKind P w κ) (k : List κ) : Int := tupleKeyHash knd k
def rws (knd : KeyKind P w κ) (L : List (Addr × List κ)) : List (Int × Value) := L.map fun p => (th knd p.2, Value.ref p.1)
/-- up to four tuples in the least table -/
structure TSet (knd : KeyKind P w κ) (h : Heap) (a : Addr) (L : List (Addr × List κ)) (es : Array (Int × Value)) (ep : Nat) (t : SetTable) : Prop where
  ob : ∃ o, h.get? a = some o ∧ o.ExactSet ∧ o.data = .set es ep t
  rw_ : es.toList = rws knd L
  tb : L2.TabOk t (L.map fun p => th knd p.2)
  one : (L.map (·.2)).Nodup
  at_ : ∀ p ∈ L, IsTupleKey knd h p.2 p.1
  mask : t.mask = 7
  few : L.length ≤ 4
variable {a : Addr} {L : List (Addr × List κ)} {es : Array (Int × Value)} {ep : Nat} {t : SetTable}
theorem TSet.size {h : Heap} (R : TSet knd h a L es ep t) : es.size = L.length := by
  have q := congrArg List.length R.rw_
  simpa [rws] using q
theorem TSet.fits {h : Heap} (R : TSet knd h a L es ep t) : t.fits es.size = true := by
  have z := R.tb.sz
  have few := R.few
  have m := R.mask
  rw [List.length_map] at z
  unfold SetTable.fits SetTable.fill
  rw [R.tb.dm, Bool.and_eq_true, beq_iff_eq, decide_eq_true_eq, R.size]
  exact ⟨z, by rw [z, m]; simp; omega⟩
theorem TSet.row {h : Heap} (R : TSet knd h a L es ep t) {i : Nat} {p : Addr × List κ} (e : L[i]? = some p) : es[i]? = some (th knd p.2, Value.ref p.1) := by
  rw [← Array.getElem?_toList, R.rw_, rws, List.getElem?_map, e]
  rfl
/-- the way's places -/
abbrev stp (m : Nat) (h : Int) (c : Nat) : SetTable.Probe := L2.nth m (L2.runAt m (SetTable.bits h % (m + 1)) (SetTable.bits h)) c
theorem nth_clean (m : Nat) : ∀ (n : Nat) (p : SetTable.Probe), p.dummy = none → (L2.nth m p n).dummy = none
  | 0, p, e => e
  | n + 1, p, e => nth_clean m n (L2.adv m p) (by unfold L2.adv; split <;> exact e)
theorem stp_more (m : Nat) (h : Int) (c q : Nat) : L2.nth m (stp m h c) q = stp m h (c + q) := (L2.nth_add m c _ q).symm
theorem stp_j (m : Nat) (h : Int) (c q : Nat) : (L2.nth m (stp m h c) q).j = L2.way m h (c + q) := congrArg SetTable.Probe.j (stp_more m h c q)
/-- a search among them shows nothing of the table -/
theorem quiet_search (M : Mild knd) {k : List κ} {b : Addr} {Q : Bool → Shared → Prop} (hk : IsTupleKey knd s.heap k b) {ys : List Value} (hy : ∀ y ∈ ys, ∃ k' c, y = Value.ref c ∧ IsTupleKey knd s.heap k' c) (q : Q false s) :
    wpAny (model P w) A (searchCouldBeSeen (.ref b) ys) Q E s := by
  unfold searchCouldBeSeen
  apply wpAny_bind
  refine wpAny_forIn_list _ (fun left r t => r.1 = none ∧ t = s ∧ ∀ y ∈ left, ∃ k' c, y = Value.ref c ∧ IsTupleKey knd s.heap k' c) _ ?_ ?_ _ _ ⟨rfl, rfl, hy⟩
  · rintro v left r t ⟨none_, rfl, all⟩
    obtain ⟨k', c, rfl, hc⟩ := all v List.mem_cons_self
    have others : ∀ y ∈ left, ∃ k' c, y = Value.ref c ∧ IsTupleKey knd t.heap k' c := fun u hu => all u (List.mem_cons_of_mem _ hu)
    dsimp only
    rcases Classical.em ((b == c || (carriedByValue (.ref b) && carriedByValue (.ref c))) = true) with plain | other
    · exact L2.wp_if_pos plain (wpAny_pure ⟨rfl, rfl, others⟩)
    · apply L2.wp_if_neg other
      apply wpAny_bind
      apply wpAny_eqIsQuiet_tuple hk
      simp only [Bool.not_true, Bool.false_eq_true, if_false]
      apply wpAny_bind
      apply wpAny_eqIsQuiet_tuple hc
      simp only [Bool.not_true, Bool.false_eq_true, if_false]
      apply wpAny_bind
      apply no_class M hk
      simp only [Bool.false_eq_true, if_false]
      apply wpAny_bind
      apply no_class M hc
      simp only [Bool.false_eq_true, if_false]
      exact wpAny_pure ⟨rfl, rfl, others⟩
  · rintro ⟨r1, r2⟩ t ⟨none_, rfl, _⟩
    simp only at none_
    subst none_
    exact wpAny_pure q
end
end Rt
end
section
set_option Elab.async false
set_option linter.all false
set_option maxRecDepth 100000
set_option maxHeartbeats 4000000
/-! the search of a tuple in the set, and its adding -/
namespace Rt
open PySem PySem.Spec PyProof.Rows
section
variable {P : Program} {w : World} {κ : Type} [DecidableEq κ] {knd : KeyKind P w κ} {A : Around} {E : Value → Shared → Prop} {s : Shared}
variable {a : Addr} {L : List (Addr × List κ)} {es : Array (Int × Value)} {ep : Nat} {t : SetTable}
/-- f turns are left, the c-th place of the way is the next one; K is the first empty one -/
theorem find_from (M : Mild knd) (R : TSet knd s.heap a L es ep t) {x : Addr} {k : List κ} (hx : IsTupleKey knd s.heap k x) (hu : A.units < cLine) {K : Nat} (kf : K < 10 * SetTable.turns t.mask)
    (gap : L2.way t.mask (th knd k) K ∉ t.place.toList) (full : ∀ c, c < K → L2.way t.mask (th knd k) c ∈ t.place.toList) {Q : SetFound → Shared → Prop}
    (yes : k ∈ L.map (·.2) → Q (.there none) s) (no : k ∉ L.map (·.2) → Q (.free (L2.way t.mask (th knd k) K) false) s) :
    ∀ (f c : Nat) (stand : Option SetTable.Probe), stand.getD (t.probeStart (th knd k)) = stp t.mask (th knd k) c → c ≤ K → K - c < f →
      (∀ (i : Nat) p, L[i]? = some p → p.2 = k → ∃ d, c ≤ d ∧ d < K ∧ t.place.toList[i]? = some (L2.way t.mask (th knd k) d)) →
      wpAny (model P w) A (setSearchFrom a (.ref x) (th knd k) true f stand) Q E s := by
  obtain ⟨o, ho, hex, hd⟩ := R.ob
  have fit := R.fits
  intro f
  induction f with
  | zero => intro c stand _ _ hf _; omega
  | succ f ih =>
    intro c stand hst hc hf here
    have hashAt : ∀ (i : Nat) p, L[i]? = some p → ((es[i]?.map (·.1)).getD 0) = th knd p.2 := fun i p hp => by rw [R.row hp]; rfl
    have look := L2.go_spec t R.tb.ris R.tb.dm (fun i => (es[i]?.map (·.1)).getD 0) (th knd k) (10 * SetTable.turns t.mask) (K - c) (stp t.mask (th knd k) c) (nth_clean _ c _ rfl) (by omega)
      (fun q hq => by rw [stp_j]; exact full _ (by omega)) (by rw [stp_j, show c + (K - c) = K by omega]; exact gap)
    have start : t.probe (fun i => (es[i]?.map (·.1)).getD 0) (th knd k) (stand.getD (t.probeStart (th knd k))) = SetTable.probe.go t (fun i => (es[i]?.map (·.1)).getD 0) (th knd k) (10 * SetTable.turns t.mask) (stp t.mask (th knd k) c) := by
      rw [hst]
      rfl
    rw [L2.setSearchFrom_succ]
    apply wpAny_bind
    apply wpAny_setState_of ho hd fit
    dsimp only
    have steady : ¬ t.gaveWay = true := by
      unfold SetTable.gaveWay
      rw [R.mask]
      decide
    apply L2.wp_if_neg steady
    try (apply wpAny_bind; apply wpAny_pure)
    rcases look with ⟨q, i, hq, hi, same, before, found⟩ | ⟨none_, found⟩
    · rw [start, found, stp_j]
      rw [stp_j] at hi
      dsimp only
      have il : i < L.length := by
        have h1 : i < t.place.toList.length := (List.getElem?_eq_some_iff.mp hi).1
        have h2 := R.tb.sz
        rw [List.length_map] at h2
        rw [Array.length_toList] at h1
        omega
      obtain ⟨p, hp⟩ : ∃ p, L[i]? = some p := ⟨_, List.getElem?_eq_getElem il⟩
      have pL : p ∈ L := List.mem_of_getElem? hp
      have on : wpAny (model P w) A (L2.searchRest a (.ref x) (th knd k) true f es t (L2.way t.mask (th knd k) (c + q)) i (L2.nth t.mask (stp t.mask (th knd k) c) (q + 1))) Q E s := by
        unfold L2.searchRest
        rw [R.row hp]
        dsimp only
        apply wpAny_bind
        apply wpAny_holding
        apply wpAny_eqBool_tuple hu (R.at_ p pL) hx
        apply wpAny_bind
        apply wpAny_setState_of ho hd fit
        dsimp only
        by_cases eq : p.2 = k
        · apply L2.wp_if_pos (by simp [eq])
          exact wpAny_pure (yes (List.mem_map.mpr ⟨p, pL, eq⟩))
        · apply L2.wp_if_neg (by simp [eq])
          try (apply wpAny_bind; apply wpAny_pure)
          rw [L2.sameMem]
          dsimp only
          have live : t.slot (L2.way t.mask (th knd k) (c + q)) = .live i := L2.slot_live R.tb.ris hi
          simp only [if_true, live, R.row hp]
          apply wpAny_bind
          apply wpAny_isSame_ref_self
          apply wpAny_bind
          apply wpAny_pure
          simp only [if_true]
          apply L2.wp_if_neg (by simp [eq])
          refine ih (c + (q + 1)) _ (stp_more _ _ _ _) (by omega) (by omega) fun j r hr er => ?_
          obtain ⟨d, d1, d2, d3⟩ := here j r hr er
          refine ⟨d, ?_, d2, d3⟩
          have cmp := Nat.lt_trichotomy d (c + q)
          rcases cmp with lt | same_ | gt
          · exact absurd ((hashAt j r hr).trans (congrArg (th knd) er)) (before (d - c) j (by omega) (by rw [stp_j, show c + (d - c) = d by omega]; exact d3))
          · rw [same_] at d3
            have other := L2.slot_live R.tb.ris d3
            rw [live] at other
            injection other with ij
            rw [← ij, hp] at hr
            exact absurd ((congrArg Prod.snd (Option.some.inj hr)).trans er) eq
          · omega
      rcases Classical.em (t.led = true) with led | unled
      · apply L2.wp_if_neg (by simp [led])
        try (apply wpAny_bind; apply wpAny_pure)
        exact on
      · apply L2.wp_if_pos (by simp [unled])
        apply wpAny_bind
        refine quiet_search M hx (fun y hy => ?_) ?_
        · obtain ⟨e, he, ey⟩ := List.mem_map.mp hy
          have he' : e ∈ es ∧ e.1 = th knd k := by simpa using he
          have hl : e ∈ es.toList := by simpa using he'.1
          rw [R.rw_] at hl
          obtain ⟨r, hr, er⟩ := List.mem_map.mp hl
          exact ⟨r.2, r.1, by rw [← ey, ← er], R.at_ r hr⟩
        · apply L2.wp_if_neg (by decide)
          try (apply wpAny_bind; apply wpAny_pure)
          exact on
    · rw [start, found, stp_j, show c + (K - c) = K by omega]
      dsimp only
      refine wpAny_pure (no fun hm => ?_)
      obtain ⟨r, hr, er⟩ := List.mem_map.mp hm
      obtain ⟨j, hj, ej⟩ := List.getElem_of_mem hr
      have hr' : L[j]? = some r := by rw [List.getElem?_eq_getElem hj, ej]
      obtain ⟨d, d1, d2, d3⟩ := here j r hr' er
      exact none_ (d - c) j (by omega) (by rw [stp_j, show c + (d - c) = d by omega]; exact d3) ((hashAt j r hr').trans (congrArg (th knd) er))
theorem find_it (M : Mild knd) (R : TSet knd s.heap a L es ep t) {x : Addr} {k : List κ} (hx : IsTupleKey knd s.heap k x) (hu : A.units < cLine) {Q : SetFound → Shared → Prop} (yes : k ∈ L.map (·.2) → Q (.there none) s)
    (no : ∀ K, k ∉ L.map (·.2) → L2.way t.mask (th knd k) K ∉ t.place.toList → (∀ c, c < K → L2.way t.mask (th knd k) c ∈ t.place.toList) → Q (.free (L2.way t.mask (th knd k) K) false) s) :
    wpAny (model P w) A (setSearch a (.ref x) (th knd k) true) Q E s := by
  have few := R.few
  obtain ⟨K, kf, gap, full⟩ := R.tb.first (by rw [List.length_map, R.mask]; omega) (th knd k)
  have small : K < 100000 := by
    have m := R.mask
    unfold SetTable.turns at kf
    rw [m] at kf
    omega
  unfold setSearch
  refine find_from M R hx hu kf gap full yes (fun n => no K n gap full) 100000 0 none rfl (Nat.zero_le _) (by omega) fun i p hp ep => ?_
  have ih : (L.map fun p => th knd p.2)[i]? = some (th knd k) := by rw [List.getElem?_map, hp, ← ep]; rfl
  have il : i < t.place.toList.length := by
    have h1 : i < L.length := (List.getElem?_eq_some_iff.mp hp).1
    have h2 := R.tb.sz
    rw [List.length_map] at h2
    rw [Array.length_toList]
    omega
  obtain ⟨d, d1, d2⟩ := R.tb.before gap ih (List.getElem?_eq_getElem il)
  exact ⟨d, Nat.zero_le _, d1, by rw [List.getElem?_eq_getElem il, d2]⟩

theorem tup_stays {h h' : Heap} {k : List κ} {b : Addr} {o : Obj} (hb : IsTupleKey knd h k b) (ho : h.get? a = some o) (hd : o.data = .set es ep t) (sb : Heap.SameBut a h h') : IsTupleKey knd h' k b := by
  obtain ⟨u, items, n, hu, hc, hdu, hi⟩ := hb
  refine ⟨u, items, n, (sb.2 b fun e => ?_).trans hu, hc, hdu, hi⟩
  rw [e, ho] at hu
  rw [← Option.some.inj hu, hd] at hdu
  cases hdu
theorem mid_perm {α : Type} (L : List α) (p : Nat) (x : α) : (L.take p ++ x :: L.drop p).Perm (x :: L) := by
  refine List.perm_middle.trans ?_
  rw [List.take_append_drop]
/-- a tuple is added: it was there, or it is there now -/
theorem add_it (M : Mild knd) (R : TSet knd s.heap a L es ep t) {x : Addr} {k : List κ} (hx : IsTupleKey knd s.heap k x) (hu : A.units < cLine) (few : L.length + 1 ≤ 4) {Q : Bool → Shared → Prop}
    (fin : ∀ r h' L' es' ep' t', Heap.SameBut a s.heap h' → TSet knd h' a L' es' ep' t' → (k ∈ L.map (·.2) → L' = L) → (k ∉ L.map (·.2) → L'.Perm ((x, k) :: L)) → Q r { s with heap := h' }) :
    wpAny (model P w) A (setAddHashed a (.ref x) (th knd k)) Q E s := by
  obtain ⟨o, ho, hex, hd⟩ := R.ob
  have sz := R.size
  unfold setAddHashed
  apply wpAny_holding
  rw [show (100000 : Nat) = 99999 + 1 from rfl, L2.setAddHashedIn_succ]
  apply wpAny_bind
  apply wpAny_setState_of ho hd R.fits
  dsimp only
  apply L2.wp_if_neg (by simp [byScan, Value.scannable])
  try (apply wpAny_bind; apply wpAny_pure)
  apply wpAny_bind
  refine find_it M R hx hu (fun hm => ?_) fun K hm gap full => ?_
  · dsimp only
    exact wpAny_pure (fin false s.heap L es ep t (Heap.SameBut.refl a s.heap) R (fun _ => rfl) fun z => absurd hm z)
  · dsimp only
    apply wpAny_bind
    apply wpAny_setState_of ho hd R.fits
    dsimp only
    obtain ⟨q1, q2, q3, q4, q5, q6, q7, q8, q9⟩ := R.tb.put gap full
    generalize t.put (L2.way t.mask (th knd k) K) = pt at q1 q3 q4 q5 q6 q7 q8 q9 ⊢
    obtain ⟨t1, p⟩ := pt
    dsimp only at q1 q3 q4 q5 q6 q7 q8 q9 ⊢
    subst q1
    generalize SetTable.below t.place (L2.way t.mask (th knd k) K) = p at q2 q3 ⊢
    have mask1 : t1.mask = 7 := q4.trans R.mask
    have rows1 : (SetTable.insertAt es p (th knd k, Value.ref x)).toList = rws knd (L.take p ++ (x, k) :: L.drop p) := by
      rw [SetTable.toList_insertAt, R.rw_]
      simp [rws, List.map_take, List.map_drop]
    have pm := mid_perm L p (x, k)
    have hs1 : (L.take p ++ (x, k) :: L.drop p).map (fun p => th knd p.2) = (L.map fun p => th knd p.2).take p ++ th knd k :: (L.map fun p => th knd p.2).drop p := by simp [List.map_take, List.map_drop]
    rw [← hs1] at q3
    have one1 : ((L.take p ++ (x, k) :: L.drop p).map (·.2)).Nodup := (pm.map (·.2)).nodup_iff.mpr (List.nodup_cons.mpr ⟨hm, R.one⟩)
    have len1 : (L.take p ++ (x, k) :: L.drop p).length = L.length + 1 := pm.length_eq
    have es1 : (SetTable.insertAt es p (th knd k, Value.ref x)).size = L.length + 1 := by
      have q := congrArg List.length rows1
      rw [Array.length_toList] at q
      rw [q, rws, List.length_map, len1]
    generalize SetTable.insertAt es p (th knd k, Value.ref x) = E1 at rows1 es1 ⊢
    generalize L.take p ++ (x, k) :: L.drop p = L1 at pm len1 q3 one1 rows1
    -- what is stored in the end, for either answer of by-value
    have last : ∀ r : Bool, wpAny (model P w) A (do
        storeSet a E1 (if r = true then t1 else { t1 with plain := false })
        if (!false && (if r = true then t1 else { t1 with plain := false }).tooFull) = true then do { setRelay a (SetTable.grown (es.size + 1)); pure true } else pure true) Q E s := fun r => by
      have nf : (if r then t1 else { t1 with plain := false }).tooFull = false := by
        have z : (if r then t1 else { t1 with plain := false }).tooFull = t1.tooFull := by cases r <;> rfl
        rw [z]
        unfold SetTable.tooFull
        rw [q9, mask1, List.length_map]
        exact decide_eq_false (by omega)
      have tb1 : L2.TabOk (if r then t1 else { t1 with plain := false }) (L1.map fun p => th knd p.2) := by
        cases r with
        | true => exact q3
        | false => exact ⟨q3.ris, q3.dm, q3.sz, q3.mok, q3.bd, q3.reach⟩
      have mk1 : (if r then t1 else { t1 with plain := false }).mask = 7 := by cases r <;> exact mask1
      generalize (if r then t1 else { t1 with plain := false }) = t2 at nf tb1 mk1 ⊢
      apply wpAny_bind
      refine wpAny_storeSet_of ho hd ?_ (by rw [es1, sizeLine_eq]; omega)
      have sb : Heap.SameBut a s.heap (s.heap.update a (Obj.putSet E1 t2)) := Heap.SameBut.update ..
      have at1 := L2.store_at (es' := E1) (t' := t2) ho hd
      generalize s.heap.update a (Obj.putSet E1 t2) = h1 at sb at1 ⊢
      rw [nf]
      have tups : ∀ p ∈ L1, IsTupleKey knd h1 p.2 p.1 := fun r hr => by
        rcases List.mem_cons.mp (pm.mem_iff.mp hr) with e | hr
        · rw [e]
          exact tup_stays hx ho hd sb
        · exact tup_stays (R.at_ r hr) ho hd sb
      have done := fin true h1 L1 E1 (ep + 1) t2 sb ⟨⟨_, at1, ⟨hex.1, hex.2.1, hex.2.2⟩, rfl⟩, rows1, tb1, one1, tups, mk1, by rw [len1]; exact few⟩ (fun z => absurd z hm) fun _ => pm
      simp only [Bool.not_false, Bool.and_false, Bool.false_eq_true, if_false]
      try (apply wpAny_bind; apply wpAny_pure)
      exact wpAny_pure done
    rcases Classical.em (t1.plain = true) with pl | pl
    · first
        | exact L2.wp_if_pos pl (wpAny_bind (by_value M hx fun r => last r))
        | (apply wpAny_bind; apply L2.wp_if_pos pl; exact by_value M hx fun r => last r)
    · first
        | exact L2.wp_if_neg pl (by first | exact last true | exact wpAny_bind (wpAny_pure (last true)))
        | (apply wpAny_bind; apply L2.wp_if_neg pl; exact wpAny_pure (last true))
end
end Rt
end
section
set_option Elab.async false
set_option linter.all false
set_option maxRecDepth 100000
set_option maxHeartbeats 4000000
/-! set(xs) and len of it, as rules of the layer; sorted(set(xs)) of ints -/
namespace Rt
open PySem PySem.Spec PyProof.Rows
section
variable {P : Program} {w : World} {κ : Type} [DecidableEq κ] {knd : KeyKind P w κ}
structure TIn (knd : KeyKind P w κ) (S : Addr) (ks : List (Addr × List κ)) (i : Nat) (h : Heap) : Prop where
  ex : ∃ L es ep t, TSet knd h S L es ep t ∧ (∀ k, k ∈ L.map (·.2) ↔ k ∈ (ks.take i).map (·.2)) ∧ L.length = cnt ((ks.take i).map (·.2)) ∧ ∀ p ∈ L, p ∈ ks
abbrev Keeps (h h' : Heap) : Prop := ∀ b o, h.get? b = some o → h'.get? b = some o
theorem tup_keep {h h' : Heap} {k : List κ} {b : Addr} (hb : IsTupleKey knd h k b) (kp : Keeps h h') : IsTupleKey knd h' k b := by
  obtain ⟨u, items, n, hu, r⟩ := hb
  exact ⟨u, items, n, kp _ _ hu, r⟩
theorem TSet.over {h h' : Heap} {a : Addr} {L : List (Addr × List κ)} {es : Array (Int × Value)} {ep : Nat} {t : SetTable} (R : TSet knd h a L es ep t) (ha : ∀ o, h.get? a = some o → h'.get? a = some o) (ht : ∀ p ∈ L, IsTupleKey knd h' p.2 p.1) : TSet knd h' a L es ep t := by
  obtain ⟨o, ho, r⟩ := R.ob
  exact ⟨⟨o, ha o ho, r⟩, R.rw_, R.tb, R.one, ht, R.mask, R.few⟩
variable {A : Around} {R : Result → Shared → Prop} {I : Addr} {fp wr : List Addr} {G : Array GenState → Array GenState → Prop} {n : Nat} {Pv : Nat → Value → Prop} {St : Nat → Shared → Prop}
theorem fill_tups (M : Mild knd) (walk : WalksS P w A.in1 I fp wr G n Pv St) (S : Addr) (out : S ∉ fp) (ks : List (Addr × List κ)) (hn : ks.length = n) (few : n ≤ 4) (val : ∀ i v, Pv i v → ∃ p, ks[i]? = some p ∧ v = .ref p.1)
    (h0 : Heap) (hk : ∀ p ∈ ks, IsTupleKey knd h0 p.2 p.1) (S0 : h0.get? S = none) (w0 : ∀ b ∈ wr, h0.get? b = none) (hu : A.in1.units < cLine) :
    ∀ (d i : Nat) (s : Shared), i + d = n → St i s → Keeps h0 s.heap → TIn knd S ks i s.heap → (∀ s', Moved (S :: wr) G s s' → TIn knd S ks n s'.heap → R (.ok (.ret .none)) s') →
      codeAny (model P w) A (.builtin "set.update.loop" ⟨[.ref S, .ref I], []⟩) R s := by
  have mkeep : ∀ {s s' : Shared}, Moved wr G s s' → Keeps h0 s.heap → Keeps h0 s'.heap := fun mv kp b o e => mv.heap b o (fun hb => by rw [w0 b hb] at e; cases e) (kp b o e)
  have carry : ∀ {s s' : Shared} {i : Nat}, Moved wr G s s' → Keeps h0 s'.heap → TIn knd S ks i s.heap → TIn knd S ks i s'.heap := fun mv kp ⟨L, es, ep, t, T, z1, z2, z3⟩ =>
    ⟨L, es, ep, t, T.over (fun o ho => mv.heap S o (fun q => out (walk.sub _ q)) ho) fun p hp => tup_keep (hk p (z3 p hp)) kp, z1, z2, z3⟩
  intro d
  induction d with
  | zero =>
    intro i s e st kp here fin
    obtain rfl : i = n := by omega
    apply codeAny_builtin F.entry_set_update_loop
    rw [Around.under_plainId F.plain_set_update_loop _]
    show wpAny _ A.in1 (pyNext (.ref I) >>= _) _ _ s
    apply wpAny_bind
    apply walk.done s _ _ st
    intro s' mv
    exact wpAny_pure (fin s' (mv.mono fun b hb => List.mem_cons_of_mem _ hb) (carry mv (mkeep mv kp) here))
  | succ d ih =>
    intro i s e st kp here fin
    apply codeAny_builtin F.entry_set_update_loop
    rw [Around.under_plainId F.plain_set_update_loop _]
    show wpAny _ A.in1 (pyNext (.ref I) >>= _) _ _ s
    apply wpAny_bind
    apply walk.item i s _ _ (by omega) st
    intro v s' pv st' mv
    obtain ⟨p, hp, rfl⟩ := val i v pv
    have kp' := mkeep mv kp
    obtain ⟨L, es, ep, t, T, z1, z2, z3⟩ := carry mv kp' here
    have hx : IsTupleKey knd s'.heap p.2 p.1 := tup_keep (hk p (List.mem_of_getElem? hp)) kp'
    show wpAny _ A.in1 (holding [Value.ref p.1] (setAdd S (.ref p.1)) >>= _) _ _ s'
    apply wpAny_bind
    apply wpAny_holding
    unfold setAdd
    apply wpAny_holding
    apply wpAny_bind
    apply wpAny_pyHash_tuple hu hx
    have il : i < ks.length := (List.getElem?_eq_some_iff.mp hp).1
    have room : L.length + 1 ≤ 4 := by
      have q := cnt_le ((ks.take i).map (·.2))
      rw [List.length_map] at q
      have q2 : (ks.take i).length ≤ i := List.length_take_le _ _
      omega
    refine add_it (s := { s' with toks := s'.toks + (p.2.length + 1) }) M T hx hu room fun r h' L' es' ep' t' sb T' same more => ?_
    have kp2 : Keeps h0 h' := fun b o e => (sb.2 b fun z => by rw [z, S0] at e; cases e).trans (kp' b o e)
    have step : (ks.take (i + 1)).map (·.2) = (ks.take i).map (·.2) ++ [p.2] := map_one _ hp
    have here' : TIn knd S ks (i + 1) h' := by
      refine ⟨L', es', ep', t', T', ?_⟩
      rw [step, cnt_snoc]
      by_cases m : p.2 ∈ L.map (·.2)
      · rw [same m]
        have m' := (z1 _).mp m
        refine ⟨fun k => ?_, by rw [if_pos m']; exact z2, z3⟩
        rw [z1 k, List.mem_append, List.mem_singleton]
        constructor
        · exact .inl
        · rintro (q | q)
          · exact q
          · rw [q]; exact m'
      · have m' : p.2 ∉ (ks.take i).map (·.2) := fun q => m ((z1 _).mpr q)
        have pm := more m
        refine ⟨fun k => ?_, by rw [if_neg m', pm.length_eq, List.length_cons, z2], fun r hr => ?_⟩
        · rw [(pm.map (·.2)).mem_iff, List.map_cons, List.mem_cons, z1 k, List.mem_append, List.mem_singleton]
          exact Or.comm
        · rcases List.mem_cons.mp (pm.mem_iff.mp hr) with q | q
          · rw [q]; exact List.mem_of_getElem? hp
          · exact z3 r q
    refine wpAny_pure ⟨plainId_quiet F.plain_set_update_loop _, ih (i + 1) _ (by omega) (walk.frame _ s' _ _ st' (Nat.le_add_right _ _) fun b hb o ho => ?_) kp2 here' fun s'' mv2 last => fin s'' ?_ last⟩
    · rw [sb.2 b (fun q : b = S => out (q ▸ hb))]
      exact ho
    · refine Moved.trans walk.gtrans ((mv.mono fun b hb => List.mem_cons_of_mem _ hb).then_heap (Nat.le_add_right _ _) fun b o hb ho => ?_) mv2
      rw [sb.2 b (fun q : b = S => hb (q ▸ List.mem_cons_self))]
      exact ho
end
end Rt
namespace Rt
open PySem PySem.Spec PyProof.Rows L2
/-- a set of n members -/
def SetN (a : Addr) (n : Nat) : HO := .ext fun h => ∃ o es ep t, h.get? a = some o ∧ o.ExactSet ∧ o.data = .set es ep t ∧ t.fits es.size = true ∧ es.size = n
theorem setN_ok {P : Program} {w : World} {H : Hp} {h : Heap} {a : Addr} {n : Nat} (q : ∃ o es ep t, h.get? a = some o ∧ o.ExactSet ∧ o.data = .set es ep t ∧ t.fits es.size = true ∧ es.size = n) : ObjOk P w H h a (SetN a n) := by
  have ⟨o, es, ep, t, ho, r⟩ := q
  exact ⟨q, ⟨o, ho⟩, fun h1 h2 z k => let ⟨o', es', ep', t', ho', r'⟩ := z; ⟨o', es', ep', t', k o' ho', r'⟩⟩
section
variable {X : Cx}
theorem call_lenN : CallR X (.builtin "len") (fun xs H Q => ∃ a n, xs = [V.ref a] ∧ H a = some (SetN a n) ∧ n ≤ 1000 ∧ Q (.int (n : Nat)) H) := by
  intro pins s σ H xs us Q I r h
  obtain ⟨a, n, rfl, ha, hn, q⟩ := h
  rw [Vals.ref1 r]
  obtain ⟨o, es, ep, t, ho, hex, hd, hf, hz⟩ := (show ∃ o es ep t, s.heap.get? a = some o ∧ o.ExactSet ∧ o.data = .set es ep t ∧ t.fits es.size = true ∧ es.size = n from (I.hok a _ ha).1)
  refine call_len_set ho hex hd hf (by rw [hz]; omega) ⟨.int (n : Nat), H, I.tok _, ⟨_, by rw [hz]⟩, q⟩
theorem fresh_set {prog : Program} {w : World} {κ : Type} [DecidableEq κ] {knd : PySem.KeyKind prog w κ} {h : Heap} {a : Addr} {led : Bool} {xs : List κ} (ha : h.get? a = some { cls := .type "set", dict := none, data := .set #[] 0 (.fresh 0 0 led) }) :
    h.SetOf knd a (fun j => decide (j ∈ xs.take 0)) (cnt (xs.take 0)) := by
  have q := (PyProof.Rows.setObjOf_fresh (knd := knd) led).setOf ha (by unfold scanBound; omega)
  have e : (fun j => decide (j ∈ xs.take 0)) = fun _ : κ => false := by
    funext j
    simp
  rw [e]
  exact q
def memb {κ : Type} [DecidableEq κ] (ks : List κ) (j : κ) : Bool := decide (j ∈ ks)
/-- set(xs), xs a list or a tuple of ints and texts -/
theorem call_setK (hc : X.calm = true) : CallR X (.type "set") (fun xs H Q => ∃ l, ∃ ks : List Key, xs = [V.ref l] ∧ (SqL X.K H l (ks.map kV) ∨ SqT X.K H l (ks.map kV)) ∧ ks.length ≤ 60 ∧ ∀ p, H p = none → Q (.ref p) (upd H p (SetN p (cnt ks)))) := by
  intro pins s σ H xs us Q I r h
  obtain ⟨l, ks, rfl, hl, hz, q⟩ := h
  rw [Vals.ref1 r]
  have key : ∀ {its : List Value}, Vals (ks.map kV) its → ∀ (i : Nat) (v : Value), its.toArray[i]? = some v → ∃ x, ks[i]? = some x ∧ (mixKind X.prog X.w).is x v = true ∧ v.scannable = true := fun {its} rv i v hv => by
    have hv' : its[i]? = some v := by simpa using hv
    cases hx : ks[i]? with
    | none =>
      have : (ks.map kV)[i]? = none := by rw [List.getElem?_map, hx]; rfl
      rw [rv.none_of this] at hv'
      cases hv'
    | some x =>
      obtain ⟨u, hu, ru⟩ := rv.get (i := i) (x := kV x) (by rw [List.getElem?_map, hx]; rfl)
      rw [hv'] at hu
      cases hu
      exact ⟨x, rfl, kV_is ru, key_scan ru⟩
  have fin : ∀ (h' : Heap) (tk : Nat), h'.SetOf (mixKind X.prog X.w) s.heap.objs.size (memb ks) (cnt ks) → (∀ b o, s.heap.get? b = some o → h'.get? b = some o) → EP X pins σ Q (.ref s.heap.objs.size) { s with heap := h', toks := tk } := fun h' tk S kp => by
    obtain ⟨o, es, ep, t, ho, hex, hd, _, _, _, hf, hn⟩ := S
    exact ⟨.ref s.heap.objs.size, _, I.laid (t' := tk) kp (Nat.le_refl _) (setN_ok ⟨o, es, ep, t, ho, hex, hd, hf, hn⟩), rfl, q _ (I.hok.fresh (Nat.le_refl _))⟩
  have two : ∀ led, (s.heap.push { cls := .type "set", dict := none, data := .set #[] 0 (.fresh 0 0 led) }).objs.size = s.heap.objs.size + 1 := fun led => Heap.size_push ..
  rcases hl with hl | hl
  · obtain ⟨its, rv, pl, hz'⟩ := I.list hl
    have lt : l < s.heap.objs.size := by
      obtain ⟨o, ho, _⟩ := pl.isList
      exact Heap.lt_size ho
    refine set_list (I.ok.hd hc) pl.isList (T := fun h' => h'.SetOf (mixKind X.prog X.w) s.heap.objs.size (memb ks) (cnt ks)) (fun led _ B R calm un k => ?_) fin
    have at0 : (setAhead X.w led s.heap "list_iterator" l).get? s.heap.objs.size = some { cls := .type "set", dict := none, data := .set #[] 0 (.fresh 0 0 led) } := Heap.get?_push_of_some _ (Heap.get?_push_size _ rfl)
    have at1 : (setAhead X.w led s.heap "list_iterator" l).get? (s.heap.objs.size + 1) = some { cls := .type "list_iterator", data := .fields #[.ref l, .int 0 0] } := by
      rw [← two led]
      exact Heap.get?_push_size _ rfl
    have ls : ks.length = its.toArray.size := by
      have := rv.length
      rw [List.length_map] at this
      simpa using this
    refine fill_keys (mixKind X.prog X.w) (Walks.list calm (s.heap.objs.size + 1) l (Nat.ne_of_lt (Nat.lt_succ_of_lt lt)) its.toArray).toS s.heap.objs.size (by
      simp only [List.mem_cons, List.not_mem_nil, or_false, not_or]
      exact ⟨Nat.ne_of_lt (Nat.lt_succ_self _), Nat.ne_of_gt lt⟩) ks ls (by rw [← ls]; unfold scanBound; omega) (key rv) its.toArray.size 0 _ (by omega) ⟨⟨_, at1, rfl, rfl⟩, (pl.isList.push _).push _⟩ (fresh_set at0) fun s' mv S => k s' mv S
  · obtain ⟨its, rv, pl, hz'⟩ := I.tuple hl
    have lt : l < s.heap.objs.size := by
      obtain ⟨o, ho, _⟩ := pl
      exact Heap.lt_size ho
    refine set_tuple (I.ok.hd hc) pl (T := fun h' => h'.SetOf (mixKind X.prog X.w) s.heap.objs.size (memb ks) (cnt ks)) (fun led _ B R calm un k => ?_) fin
    have at0 : (setAhead X.w led s.heap "tuple_iterator" l).get? s.heap.objs.size = some { cls := .type "set", dict := none, data := .set #[] 0 (.fresh 0 0 led) } := Heap.get?_push_of_some _ (Heap.get?_push_size _ rfl)
    have at1 : (setAhead X.w led s.heap "tuple_iterator" l).get? (s.heap.objs.size + 1) = some { cls := .type "tuple_iterator", data := .fields #[.ref l, .int 0 0] } := by
      rw [← two led]
      exact Heap.get?_push_size _ rfl
    have ls : ks.length = its.toArray.size := by
      have := rv.length
      rw [List.length_map] at this
      simpa using this
    refine fill_keys (mixKind X.prog X.w) (Walks.tuple calm (s.heap.objs.size + 1) l (Nat.ne_of_lt (Nat.lt_succ_of_lt lt)) its.toArray).toS s.heap.objs.size (by
      simp only [List.mem_cons, List.not_mem_nil, or_false, not_or]
      exact ⟨Nat.ne_of_lt (Nat.lt_succ_self _), Nat.ne_of_gt lt⟩) ks ls (by rw [← ls]; unfold scanBound; omega) (key rv) its.toArray.size 0 _ (by omega) ⟨⟨_, at1, rfl, rfl⟩, (pl.push _).push _⟩ (fresh_set at0) fun s' mv S => k s' mv S
end
end Rt
namespace Rt
open PySem PySem.Spec PyProof.Rows L2
section
variable {X : Cx}
theorem items_keys {P : Program} {w : World} : ∀ {k : List Key} {us : List Value}, Vals (k.map kV) us → ItemsAre (mixKind P w) k us
  | [], _, .nil => .nil
  | n :: k, _, .cons r t => .cons (kV_is r) (items_keys t)
theorem refs_at : ∀ {ks : List (Addr × List Key)} {us : List Value}, Vals (ks.map fun p => V.ref p.1) us → us = ks.map fun p => Value.ref p.1
  | [], _, .nil => rfl
  | p :: ks, _, .cons r t => by
    cases r
    rw [refs_at t]
    rfl
/-- set(xs), xs a list of up to four tuples of ints and texts -/
theorem call_setT (hc : X.calm = true) (hu : X.A.units + 64 < cLine) : CallR X (.type "set") (fun xs H Q => ∃ l, ∃ ks : List (Addr × List Key), xs = [V.ref l] ∧ SqL X.K H l (ks.map fun p => V.ref p.1) ∧ (∀ p ∈ ks, SqT X.K H p.1 (p.2.map kV)) ∧ ks.length ≤ 4 ∧
    ∀ p, H p = none → Q (.ref p) (upd H p (SetN p (cnt (ks.map (·.2)))))) := by
  intro pins s σ H xs us Q I r h
  obtain ⟨l, ks, rfl, hl, hk, few, q⟩ := h
  rw [Vals.ref1 r]
  obtain ⟨its, rv, pl, hz'⟩ := I.list hl
  have tups : ∀ p ∈ ks, IsTupleKey (mixKind X.prog X.w) s.heap p.2 p.1 := fun p hp => by
    obtain ⟨us, ru, ⟨o, ho, hcl, n, hd⟩, _⟩ := I.tuple (hk p hp)
    exact ⟨o, us.toArray, n, ho, hcl, hd, by simpa using items_keys ru⟩
  have eits : its = ks.map fun p => Value.ref p.1 := refs_at rv
  have lt : l < s.heap.objs.size := by
    obtain ⟨o, ho, _⟩ := pl.isList
    exact Heap.lt_size ho
  have free : ∀ b, s.heap.objs.size ≤ b → s.heap.get? b = none := fun b hb => Heap.get?_none_of_le hb
  refine set_list (I.ok.hd hc) pl.isList (T := fun h' => TIn (mixKind X.prog X.w) s.heap.objs.size ks ks.length h') (fun led _ B R calm un k => ?_) (fun h' tk S kp => ?_)
  · have two : (s.heap.push { cls := .type "set", dict := none, data := .set #[] 0 (.fresh 0 0 led) }).objs.size = s.heap.objs.size + 1 := Heap.size_push ..
    have at0 : (setAhead X.w led s.heap "list_iterator" l).get? s.heap.objs.size = some { cls := .type "set", dict := none, data := .set #[] 0 (.fresh 0 0 led) } := Heap.get?_push_of_some _ (Heap.get?_push_size _ rfl)
    have at1 : (setAhead X.w led s.heap "list_iterator" l).get? (s.heap.objs.size + 1) = some { cls := .type "list_iterator", data := .fields #[.ref l, .int 0 0] } := by
      rw [← two]
      exact Heap.get?_push_size _ rfl
    have ls : ks.length = its.toArray.size := by
      rw [eits]
      simp
    have val : ∀ (i : Nat) (v : Value), its.toArray[i]? = some v → ∃ p, ks[i]? = some p ∧ v = .ref p.1 := fun i v hv => by
      have hv' : its[i]? = some v := by simpa using hv
      rw [eits, List.getElem?_map] at hv'
      cases hx : ks[i]? with
      | none => rw [hx] at hv'; cases hv'
      | some p =>
        rw [hx] at hv'
        exact ⟨p, rfl, (Option.some.inj hv').symm⟩
    have empty : TSet (mixKind X.prog X.w) (setAhead X.w led s.heap "list_iterator" l) s.heap.objs.size [] #[] 0 (.fresh 0 0 led) :=
      ⟨⟨_, at0, ⟨rfl, rfl, rfl⟩, rfl⟩, rfl, ⟨List.Pairwise.nil, rfl, rfl, .inl rfl, fun x hx => (nomatch hx), fun i h j hi _ => by simp at hi⟩, List.nodup_nil, fun p hp => (nomatch hp), rfl, Nat.zero_le _⟩
    refine fill_tups mixMild (Walks.list calm (s.heap.objs.size + 1) l (Nat.ne_of_lt (Nat.lt_succ_of_lt lt)) its.toArray).toS s.heap.objs.size (by
      simp only [List.mem_cons, List.not_mem_nil, or_false, not_or]
      exact ⟨Nat.ne_of_lt (Nat.lt_succ_self _), Nat.ne_of_gt lt⟩) ks ls (by rw [← ls]; exact few) val s.heap tups (free _ (Nat.le_refl _)) (fun b hb => free b (by
        rw [List.mem_singleton.mp hb]
        exact Nat.le_succ _)) (by omega) its.toArray.size 0 _ (by omega) ⟨⟨_, at1, rfl, rfl⟩, (pl.isList.push _).push _⟩ (fun b o e => Heap.get?_push_of_some _ (Heap.get?_push_of_some _ e)) ⟨[], #[], 0, _, empty, fun k => by simp, rfl, fun p hp => (nomatch hp)⟩ fun s' mv S => k s' mv (by rw [ls]; exact S)
  · obtain ⟨L, es, ep, t, T, z1, z2, z3⟩ := S
    obtain ⟨o, ho, hex, hd⟩ := T.ob
    rw [List.take_length] at z2
    exact ⟨.ref s.heap.objs.size, _, I.laid (t' := tk) kp (Nat.le_refl _) (setN_ok ⟨o, es, ep, t, ho, hex, hd, T.fits, T.size.trans z2⟩), rfl, q _ (I.hok.fresh (Nat.le_refl _))⟩
end
end Rt
end
section
set_option Elab.async false
set_option linter.all false
set_option maxRecDepth 100000
set_option maxHeartbeats 4000000
/-! repr of data, of {} and of a small dict -/
namespace Rt
open PySem PySem.Spec PyProof.Rows L2
/-- the text that repr gives -/
def rT : PyData → Str
  | .none => "None"
  | .bool b => if b then "True" else "False"
  | .int i => toString i
  | .str x => reprText x
  | d => d.shown
structure RepOk (d : PyData) : Prop where
  sh : d.showable = true
  nd : d.hasDict = false
  dp : d.depth ≤ 60
  len : (rT d).length ≤ sizeLine
  int : ∀ i, d = .int i → i.natAbs.log2 < 1920
def rRep (K : PySem.W.Frag) : List V → Hp → VK → Prop := fun xs H Q => ∃ x d, xs = [x] ∧ Dp K H x d ∧ RepOk d ∧ Q (.str (rT d)) H
theorem call_rep {X : Cx} (gu : X.A.guards = some []) (room : X.A.units + 70 < cLine) : CallR X (.builtin "repr") (rRep X.K) := by
  intro pins s σ H xs us Q I r ⟨x, d, ex, dp, ok, q⟩
  subst ex
  obtain ⟨u, rfl, ru⟩ := r.one
  have refs : ∀ {a : Addr} {e : PyData}, x = .ref a → d = e → rT e = e.shown → wpAny (model X.prog X.w) X.A (call (.builtin "repr") [u]) (EP X pins σ Q) X.xe s := fun {a e} ex ed et => by
    subst ex ed
    obtain ⟨as, rd⟩ := dp.reads I d _ u ru
    cases ru
    have dpt := ok.dp
    have ln := ok.len
    rw [et] at ln
    refine repr_of_reads' (h₀ := s.heap) rd ok.sh (fun z => by rw [ok.nd] at z; cases z) gu (by omega) (fun _ _ z => z) (fun h' t tk k => ?_) ln
    exact ⟨.str (rT d), H, I.kept (t' := tk) k, ⟨t, by rw [et]⟩, q⟩
  cases dp with
  | non =>
    cases ru
    exact P.repr_of_none ⟨.str "None", H, I.tok _, ⟨_, rfl⟩, q⟩
  | bl b =>
    cases ru
    exact P.repr_of_bool ⟨.str _, H, I.tok _, ⟨_, rfl⟩, q⟩
  | int i =>
    obtain ⟨t, rfl⟩ := ru
    exact P.repr_of_int (ok.int i rfl) ⟨.str _, H, I.tok _, ⟨_, rfl⟩, q⟩
  | str z =>
    obtain ⟨t, rfl⟩ := ru
    exact P.repr_of_str ⟨.str _, H, I.tok _, ⟨_, rfl⟩, q⟩ ok.len
  | lst h1 h2 => exact refs rfl rfl rfl
  | tup h1 h2 => exact refs rfl rfl rfl
theorem room70 {k : Nat} {A : Around} (r : Room k A) : A.units + 70 < cLine := by have := r.un; omega
theorem show_strs : ∀ zs : List Str, PyData.showableAll (zs.map PyData.str) = true ∧ PyData.intsShortAll 13 (zs.map PyData.str) = true
  | [] => ⟨by simp [PyData.showableAll], by simp [PyData.intsShortAll]⟩
  | z :: zs => by
    obtain ⟨h1, h2⟩ := show_strs zs
    exact ⟨by simp [PyData.showableAll, PyData.showable, h1], by simp [PyData.intsShortAll, PyData.intsShort, h2]⟩
theorem weigh_strs {m : Nat} : ∀ {zs : List Str}, (∀ z ∈ zs, z.length ≤ m) → PyData.weightAll (zs.map PyData.str) ≤ (m + 1) * zs.length
  | [], _ => by simp [PyData.weightAll]
  | z :: zs, h => by
    have ih := weigh_strs (zs := zs) fun y hy => h y (List.mem_cons_of_mem _ hy)
    have hz : z.cps.size ≤ m := h z List.mem_cons_self
    simp only [List.map_cons, PyData.weightAll, PyData.weight, List.length_cons, Nat.mul_add, Nat.mul_one]
    omega
def keyD : Key → PyData
  | .inl i => .int i
  | .inr x => .str x
theorem reads_key {h : Heap} {P : Program} {w : World} : ∀ (k : Key) (key : Value), (mixKind P w).is k key = true → Reads h key (keyD k) [] := fun k key hk => by
  rcases keyIs_shape hk with ⟨i, t, rfl, rfl⟩ | ⟨x, t, rfl, rfl⟩
  · exact .int i t
  · exact .str x t
/-- plain data -/
def plD : V → Option PyData
  | .non => some .none
  | .bl b => some (.bool b)
  | .int i => some (.int i)
  | .str x => some (.str x)
  | _ => none
/-- a dict's rows, where all that it holds is plain -/
def dctD : List (Key × V) → Option (List (PyData × PyData))
  | [] => some []
  | (k, v) :: r => match plD v, dctD r with
    | some d, some D => some ((keyD k, d) :: D)
    | _, _ => none
theorem reads_plain {h : Heap} {v : V} {u : Value} {d : PyData} (e : plD v = some d) (r : RelV v u) : Reads h u d [] := by
  cases v with
  | non => cases e; cases r; exact .none
  | bl b => cases e; cases r; exact .bool b
  | int i => cases e; obtain ⟨t, rfl⟩ := r; exact .int i t
  | str x => cases e; obtain ⟨t, rfl⟩ := r; exact .str x t
  | _ => cases e
theorem pairs_plain {h : Heap} : ∀ {kvs : List (Key × V)} {vs : List (Key × Value)} {D : List (PyData × PyData)}, KV kvs vs → dctD kvs = some D → PyProof.V.PairsRead h keyD vs D []
  | [], _, _, .nil, e => by cases e; exact .nil
  | (k, v) :: r, _, D, .cons p q, e => by
    rename_i y ys
    obtain ⟨k2, u⟩ := y
    obtain ⟨e1, r1⟩ := p
    have e1 : k = k2 := e1
    subst e1
    unfold dctD at e
    split at e
    · rename_i d D' e2 e3
      cases e
      exact .cons (reads_plain e2 r1) (pairs_plain q e3)
    · cases e
def fitsD (D : List (PyData × PyData)) : Bool := (PyData.dict D).showable && (decide ((PyData.dict D).depth ≤ 60) && (decide ((PyData.dict D).shown.length ≤ 1000) && PyData.strOk (PyData.dict D).shown))
/-- what repr tells of a value: data without dicts, or a dict of plain data -/
def Rp (K : PySem.W.Frag) (H : Hp) (x : V) (t : Str) : Prop := (∃ d, Dp K H x d ∧ RepOk d ∧ rT d = t) ∨ ∃ (a : Addr) (kvs : List (Key × V)) (D : List (PyData × PyData)), x = .ref a ∧ H a = some (.dK kvs) ∧ dctD kvs = some D ∧ fitsD D = true ∧ t = (PyData.dict D).shown
def rRp (K : PySem.W.Frag) : List V → Hp → VK → Prop := fun xs H Q => ∃ x t, xs = [x] ∧ Rp K H x t ∧ Q (.str t) H
theorem call_rp {X : Cx} (gu : X.A.guards = some []) (room : X.A.units + 70 < cLine) : CallR X (.builtin "repr") (rRp X.K) := by
  intro pins s σ H xs us Q I r ⟨x, t, ex, rp, q⟩
  rcases rp with ⟨d, dp, ok, e⟩ | ⟨a, kvs, D, e, ha, eD, ft, et⟩
  · subst e
    exact call_rep gu room pins s σ H xs us Q I r ⟨x, d, ex, dp, ok, q⟩
  · subst ex
    obtain ⟨u, rfl, ru⟩ := r.one
    subst e
    cases ru
    obtain ⟨h1, ft⟩ := He.ba ft
    obtain ⟨h2, ft⟩ := He.ba ft
    obtain ⟨h3, h4⟩ := He.ba ft
    have h2 := of_decide_eq_true h2
    have h3 := of_decide_eq_true h3
    obtain ⟨_, nm, vs, kv, dk⟩ := I.hok a _ ha
    have rd : Reads s.heap (.ref a) (.dict D) [a] := PyProof.V.reads_dictOf reads_key dk (pairs_plain kv eD)
    refine repr_of_reads' (h₀ := s.heap) rd h1 (fun _ z => ?_) gu (by omega) (fun _ _ z => z) (fun h' tt tk k => ?_) (by rw [sizeLine_eq]; omega)
    · rw [List.mem_singleton] at z
      rw [z] at nm
      simp at nm
    · exact ⟨.str t, H, I.kept (t' := tk) k, ⟨tt, by rw [et]⟩, q⟩
def fits (d : PyData) : Bool := (d.showable && !d.hasDict) && (decide (d.depth ≤ 60) && (decide ((rT d).length ≤ 1000) && (PyData.strOk (rT d) && (match d with
  | .int i => decide (i.natAbs.log2 < 1920)
  | _ => true))))
theorem fits_ok {d : PyData} (h : fits d = true) : RepOk d ∧ PyData.strOk (rT d) = true := by
  unfold fits at h
  obtain ⟨h1, h2⟩ := He.ba h
  obtain ⟨h3, h4⟩ := He.ba h1
  obtain ⟨h5, h6⟩ := He.ba h2
  obtain ⟨h7, h8⟩ := He.ba h6
  obtain ⟨h9, h10⟩ := He.ba h8
  have l := of_decide_eq_true h7
  refine ⟨⟨h3, by simpa using h4, of_decide_eq_true h5, by rw [sizeLine_eq]; omega, fun i e => ?_⟩, h9⟩
  subst e
  exact of_decide_eq_true h10
/-- what can be told -/
def Tl (K : PySem.W.Frag) (H : Hp) (x : V) : Prop := ∃ t, Rp K H x t ∧ PyData.strOk t = true
theorem Tl.of {K : PySem.W.Frag} {H : Hp} {x : V} {d : PyData} (h : Dp K H x d) (f : fits d = true) : Tl K H x := ⟨rT d, .inl ⟨d, h, (fits_ok f).1, rfl⟩, (fits_ok f).2⟩
theorem Tl.dct {K : PySem.W.Frag} {H : Hp} {a : Addr} {kvs : List (Key × V)} {D : List (PyData × PyData)} (h : H a = some (.dK kvs)) (e : dctD kvs = some D) (f : fitsD D = true) : Tl K H (.ref a) :=
  ⟨_, .inr ⟨a, kvs, D, rfl, h, e, f, rfl⟩, (He.ba (He.ba (He.ba f).2).2).2⟩
section
variable {X : Cx} {k : Nat} {x : Str} {f : Addr} {fd : FuncData} {ps : List Str} {sp : SpG} {e : Expr} {es : List Expr} {p pos : Pos} {t : TA}
theorem pe_callG (F : FnG X.prog X.w X.K X.mg X.base k f fd ps sp) (gu : X.A.guards = some []) (hr : Room k X.A) (hg : Gl X x) (hm : X.mg x = some (.ref f)) (hk : PySem.W.keepIn X.K (.ref f) = true) (ha : PA X (e :: es) t)
    (hdb : (x == ("__debug__" : Str)) = false := by decide) (he : starEach (e :: es) X.env = (false, eval e X.env) :: starEach es X.env := by rfl) (hpl : (backTo pos (starEach es X.env)).any (·.1) = false := by rfl) :
    PE X (.Call (.Name x p) (e :: es) [] pos) (fun σ H Q => t σ H fun vs H1 => sp vs H1 Q) := by
  refine ⟨fun pins s σ H Q I h => wpAny_Call_Name_kw (ld_glob I hg hm ?_ hdb)⟩
  refine PySem.W.callWith_K (h₀ := X.base) I.ok.mod.kin hk (thn (ha.run pos pins s σ H _ I h) fun us s1 ⟨vs, H1, I1, r1, q1⟩ => ⟨I1.kIn, ?_⟩) he hpl
  show wpAny _ _ (call (.ref f) us) _ _ _
  refine wpAny_call (codeAny_mono (F.run X.A X.stack s1 H1 us vs Q gu hr I1.env0 r1 q1) fun r s2 hq => ?_)
  match r, hq with
  | .error e, hq => exact (show False from hq).elim
  | .ok (.ret u), hq => exact I1.after hq
  | .ok .next, hq => exact False.elim hq
  | .ok .brk, hq => exact False.elim hq
  | .ok .cont, hq => exact False.elim hq
end
end Rt
end
section
set_option Elab.async false
set_option linter.all false
set_option maxRecDepth 100000
set_option maxHeartbeats 4000000
/-! sorted(xs, key=lambda x: ..), the key a pair of ints: the library's side -/
namespace Rt
open PySem PySem.Spec PyProof.Rows L2
open SrtO (Swo Srtd Stb lexB Cmp lexB_iff lexB_no lt2)
/-! ### the two ints of a pair -/
def pairAt (h : Heap) : Value → Int × Int
  | .ref a => match h.get? a with
    | some ⟨_, _, .seq its _, _⟩ => (match its.toList with
      | [.int x _, .int y _] => (x, y)
      | _ => (0, 0))
    | _ => (0, 0)
  | _ => (0, 0)
theorem pairAt_of {h : Heap} {v : Value} {x y : Int} (p : Srt.IsPair h v x y) : pairAt h v = (x, y) := by
  obtain ⟨a, o, t, u, n, rfl, ho, _, hd⟩ := p
  obtain ⟨oc, od, dt, sl⟩ := o
  have hd : dt = .seq #[.int x t, .int y u] n := hd
  subst hd
  unfold pairAt
  simp only [ho]
/-! ### the sort's end, the keys being made -/
section
variable {prog : Program} {w : World} {A : Around} {E : Value → Shared → Prop} {s : Shared}
abbrev ltk (kp : Value → Int × Int) : Keyed → Keyed → Bool := lt2 fun v u => lexB (kp v) (kp u)
theorem sort_end {L kS : Addr} {e e1 : Nat} {keys vs : List Value} {kp : Value → Int × Int} {P : PySem.Fin → Shared → Prop} (hl : keys.length = vs.length) (hz : vs.length ≤ sizeLine) (hp : ∀ v ∈ keys, Srt.IsPair s.heap v (kp v).1 (kp v).2)
    (hL : s.heap.get? L = some (seqObj "list" #[] e1)) (hk : s.heap.get? kS = some (seqObj "list" keys.toArray e)) (ne : kS ≠ L)
    (h : ∀ (out : List Keyed) (h' : Heap), Srtd (ltk kp) out → out.Perm (keys.zip vs) → (∀ b o, b ≠ kS → b ≠ L → s.heap.get? b = some o → h'.get? b = some o) → (∃ n, h'.get? L = some (seqObj "list" (out.map (·.2)).toArray n)) → (∃ o, h'.get? kS = some o) → P (.done (.ret .none)) { s with heap := h' }) :
    wpAny (model prog w) A (ksk_end L false vs.toArray e1 (.ref kS) keys.toArray) P E s := by
  have O : Swo (ltk kp) := SrtO.swo2 (SrtO.swo_lex kp)
  have ez : (keys.toArray.zip vs.toArray).toList = keys.zip vs := ksk_zip keys.toArray vs
  -- the tail
  have tail : ∀ st : SortSt, Srtd (ltk kp) (arrOf st).toList → (arrOf st).toList.Perm (keys.zip vs) → failedOf st = none → wpAny (model prog w) A (ksk_tail L false e1 (.ref kS) st) P E s := by
    intro st hs hb hf
    have hlen : (arrOf st).size = vs.length := by
      have := hb.length_eq
      rw [Array.length_toList, List.length_zip, hl, Nat.min_self] at this
      exact this
    have hout : ((arrOf st).map (·.2)).size ≤ sizeLine + 1 := by
      rw [Array.size_map, hlen]
      omega
    have s1 := Heap.SameBut.update s.heap kS (Obj.mapSeq fun _ => (#[] : Array Value))
    have na1 : (s.heap.update kS (Obj.mapSeq fun _ => (#[] : Array Value))).get? L = some (seqObj "list" #[] e1) := (s1.2 L ne.symm).trans hL
    have s2 := Heap.SameBut.update (s.heap.update kS (Obj.mapSeq fun _ => (#[] : Array Value))) L (Obj.mapSeq fun _ => (arrOf st).map (·.2))
    obtain ⟨c2, hc2⟩ : ∃ c2, ((s.heap.update kS (Obj.mapSeq fun _ => (#[] : Array Value))).update L (Obj.mapSeq fun _ => (arrOf st).map (·.2))).get? L = some (seqObj "list" ((arrOf st).map (·.2)) c2) := ⟨_, get?_update_seq na1 fun _ => (arrOf st).map (·.2)⟩
    obtain ⟨c1, hc1⟩ : ∃ c1, (s.heap.update kS (Obj.mapSeq fun _ => (#[] : Array Value))).get? kS = some (seqObj "list" #[] c1) := ⟨_, get?_update_seq hk fun _ => (#[] : Array Value)⟩
    unfold ksk_tail
    try dsimp only
    refine wpAny_bind (listUpdate_at hk rfl ?_ (by rw [List.size_toArray, hl]; omega) (Nat.zero_le _))
    refine wpAny_bind (wpAny_letGo ?_)
    refine wpAny_bind (seqEpoch_at na1 rfl ?_)
    refine wpAny_bind (listUpdate_at na1 rfl ?_ (Nat.zero_le _) hout)
    rw [hf]
    simp only [bne_self_eq_false, Bool.false_eq_true, if_false]
    refine wpAny_pure (h (arrOf st).toList _ hs hb (fun b o n1 n2 q => ?_) ⟨c2, ?_⟩ ⟨_, (s2.2 kS ne).trans hc1⟩)
    · exact (s2.2 b n2).trans ((s1.2 b n1).trans q)
    · have e3 : ((arrOf st).toList.map (·.2)).toArray = (arrOf st).map (·.2) := by
        rw [← Array.toList_map, Array.toArray_toList]
      rw [e3]
      exact hc2
  unfold ksk_end
  simp only [Bool.false_eq_true, if_false]
  by_cases h2 : vs.toArray.size < 2
  · rw [if_pos h2, if_pos h2]
    refine wpAny_bind (wpAny_pure ?_)
    rw [StateT.run_pure]
    refine wpAny_bind (wpAny_pure ?_)
    try dsimp only
    refine tail (SortSt.mk' general' (keys.toArray.zip vs.toArray) #[] 7 none) ?_ ?_ rfl
    · show Srtd (ltk kp) (keys.toArray.zip vs.toArray).toList
      rw [ez]
      rw [List.size_toArray] at h2
      have hq : (keys.zip vs).length < 2 := by
        rw [List.length_zip, hl, Nat.min_self]
        exact h2
      match keys.zip vs, hq with
      | [], _ => exact List.Pairwise.nil
      | [v], _ => exact List.pairwise_singleton _ _
      | _ :: _ :: l, hq => exact absurd hq (by rw [List.length_cons, List.length_cons]; omega)
    · show (keys.toArray.zip vs.toArray).toList.Perm (keys.zip vs)
      rw [ez]
  · rw [if_neg h2, if_neg h2]
    rw [List.size_toArray] at h2
    obtain ⟨κ, hkind, hT⟩ := SrtO.pairs_sortableO (prog := prog) (w := w) (A := A) (s := s) (a := L) (vs := keys) (k := kp) (by omega) hp (fun o q => by
      rw [hL] at q
      cases q
      exact fun c => absurd (Value.type.inj c) (by decide)) s.heap (fun _ _ _ q => q)
    refine wpAny_bind (hkind _ _ ?_)
    have hall : SrtO.AllL (fun p : Keyed => p.1 ∈ keys) (keys.toArray.zip vs.toArray).toList := fun p hm => by
      rw [ez] at hm
      exact (List.of_mem_zip hm).1
    refine wpAny_bind (wpAny_mono (SrtO.wpS_sortO (st0 := SortSt.mk' κ (keys.toArray.zip vs.toArray) #[] 7 none)
      (Q := fun _ st' => Srtd (ltk kp) (arrOf st').toList ∧ Stb (ltk kp) (arrOf st').toList (keys.toArray.zip vs.toArray).toList ∧ failedOf st' = none) O hT rfl hall rfl rfl fun st' a1 a2 a3 => ⟨a1, a2, a3⟩) ?_ fun _ _ e => e)
    rintro ⟨⟨⟩, st'⟩ s' ⟨rfl, hp1, hp2, hf⟩
    try dsimp only
    refine tail st' hp1 ?_ hf
    have := hp2.perm
    rw [ez] at this
    exact this
end
end Rt
end
section
set_option Elab.async false
set_option linter.all false
set_option maxRecDepth 100000
set_option maxHeartbeats 4000000
/-! sorted(xs, key=lambda x: ..), the key a pair of ints: a rule of the layer -/
namespace Rt
open PySem PySem.Spec PyProof.Rows L2
open SrtO (Swo Srtd Stb lexB Cmp lexB_iff lexB_no lt2)
open LamX (CodeO TabB TabS Tabs ExtN lam_make2)
theorem clo_nil {cells : List (Str × Addr)} : ∀ {names : List (Str × NameKind)} {acc : List (Str × Addr)}, (∀ y ∈ names, y.2 ≠ .free) → cloFrom cells names acc = acc
  | [], _, _ => rfl
  | (n, k) :: r, acc, h => by
    have hk : k ≠ .free := h (n, k) List.mem_cons_self
    unfold cloFrom
    rw [if_neg (by simpa using hk)]
    exact clo_nil fun y hy => h y (List.mem_cons_of_mem _ hy)
/-! ### a lambda that captures nothing, called -/
theorem lam_run {P : Program} {w : World} {K : PySem.W.Frag} {mg : Str → Option Value} {base : Heap} {k : Nat} {f c' : Addr} {q : Str} {params : Arguments} {body : Expr} {scope : Scope} {pm ctv : Value} {N ps : List Str} (S : FnScope N ps scope)
    {A : Around} {outer : List Env} {s : Shared} {H : Hp} {args : Args} {us : List Value} {vs : List V} {Q : VK} (hr : Room (k + 1) A) (e0 : Env0 P w K mg base A outer s H)
    (ho : s.heap.get? f = some (PySem.W.kla_obj "<lambda>" q params body scope [] pm c' ctv)) (hco : H c' = some (CodeO c' q))
    (hb : bindArgs (PySem.W.kla_fn "<lambda>" q params body scope [] pm (.ref c') ctv) args = pure (ps.zip us)) (r : Vals vs us) (hl : vs.length = ps.length)
    (hbody : Room k (A.deeper (envOfC q scope s.heap.objs.size f (.ref c'))) → ∃ t, PE (cxOf L2.CX0 P w K mg base N q scope f (.ref c') A outer s H L2.E0) body t ∧ t (L2.start N vs) H Q) :
    codeAny (model P w) A (.call (.ref f) args) (CR L2.CX0 outer P w H s Q L2.E0) s := by
  have lim : s.heap.NoLimit := e0.mod.nolimit.keeps fun b o e => (e0.bs b o e).1
  obtain ⟨⟨oc, vs', t, hoc, hdc, hvc⟩, _, _⟩ := e0.hok c' _ hco
  have hkind : ∀ y ∈ ps.zip us, scope.names.lookup y.1 = some .local ∨ (scope.names.lookup y.1 = some .cell ∧ ((cellsFrom (s.heap.objs.size + 1) scope.names []).lookup y.1).isSome = true) := fun ⟨n, v⟩ hy => by
    rcases S.par n (List.of_mem_zip hy).1 with q | q
    · exact .inl q
    · exact .inr ⟨q, PySem.W.cellsFrom_some _ _ _ (.inl q)⟩
  refine PySem.W.kla_callFunE hr.depth ho rfl S.co S.gen rfl ⟨c', oc, vs', t, rfl, hoc, hdc, hvc⟩ ?_
  rw [hb]
  refine wpAny_pure (wpAny_newFunctionEnv_cells S.kind hkind fun env he s1 x => ?_)
  subst he
  refine ⟨lim.keeps x.toInCall.keep, ?_⟩
  obtain ⟨t, ht, hq⟩ := hbody (hr.deeper _)
  have I : Inv (cxOf L2.CX0 P w K mg base N q scope f (.ref c') A outer s H L2.E0) [] (L2.start N vs) H s1 := inv_start S hr.hd e0 hl r x
  refine PySem.W.kla_codeExpr (wpAny_mono (ht.run [] s1 (L2.start N vs) H _ I hq) (fun v s' hs => ?_) fun e s' hs => hs)
  obtain ⟨w', H', J, rv, q⟩ := hs
  exact ⟨w', H', J.os, J.bare, J.base, J.hok, rv, q⟩
/-! ### between the calls -/
structure Mid (X : Cx) (H : Hp) (s : Shared) (H' : Hp) (s' : Shared) : Prop where
  os : s'.os = s.os
  bare : AllBare s'.gens
  un : Un (frs X.stack) [] H H' s.heap s'.heap
  hok : HOk X.prog X.w H' s'.heap
section
variable {X : Cx} {pins : List (Addr × Obj)} {σ : L2.St} {H H' H'' : Hp} {s s' s'' : Shared}
theorem Mid.refl (I : Inv X pins σ H s) : Mid X H s H s := ⟨rfl, I.bare, Un.refl, I.hok⟩
theorem Mid.inv (m : Mid X H s H' s') (I : Inv X pins σ H s) : Inv X pins σ H' s' := by
  obtain ⟨hh, g, d, t, os'⟩ := s'
  obtain rfl : os' = s.os := m.os
  exact I.call (h' := hh) (g' := g) (d' := d) (t' := t) (ch := []) m.un m.hok m.bare (fun b z => absurd z (by simp))
theorem Mid.trans (a : Mid X H s H' s') (b : Mid X H' s' H'' s'') : Mid X H s H'' s'' := ⟨b.os.trans a.os, b.bare, a.un.trans b.un, b.hok⟩
theorem Mid.kept {h' : Heap} {t' : Nat} (m : Mid X H s H' s') (k : ∀ b o, s'.heap.get? b = some o → h'.get? b = some o) : Mid X H s H' { s' with heap := h', toks := t' } :=
  ⟨m.os, m.bare, m.un.trans (Un.kept k), m.hok.kept k⟩
/-- untracked new things have changed -/
theorem Mid.turn {h' : Heap} {t' : Nat} {ch : List Addr} (m : Mid X H s H' s') (hc : ∀ e ∈ ch, s.heap.objs.size ≤ e ∧ H' e = none) (k : ∀ b o, b ∉ ch → s'.heap.get? b = some o → h'.get? b = some o) : Mid X H s H' { s' with heap := h', toks := t' } := by
  have old : ∀ {b : Addr} {o : Obj}, s.heap.get? b = some o → b ∉ ch := fun {b o} q z => absurd (Heap.lt_size q) (Nat.not_lt.mpr (hc b z).1)
  refine ⟨m.os, m.bare, ⟨fun b o q n hb hx => k b o (old q) (m.un.keep b o q n hb hx), fun b o q n hb hx => ?_, fun b o q n hx => m.un.free b o q n hx, fun b o q hx => ?_, m.un.tups, m.un.frzs, m.un.tbls⟩, fun b u e => ?_⟩
  · obtain ⟨sl, r⟩ := m.un.slot b o q n hb hx
    exact ⟨sl, k _ _ (old q) r⟩
  · obtain ⟨o', r⟩ := m.un.there b o q hx
    exact ⟨o', k _ _ (old q) r⟩
  · refine (m.hok b u e).stay (fun c v hcc q => k c v (fun z => ?_) q) (fun _ q => q) fun _ _ q => q
    have n := (hc c z).2
    rcases hcc with rfl | z
    · rw [e] at n
      cases n
    · rw [z] at n
      cases n
/-- an untracked new thing is tracked from now on -/
theorem Mid.track {L : Addr} {o : HO} (m : Mid X H s H' s') (hL : s.heap.objs.size ≤ L) (hn : H' L = none) (new : ObjOk X.prog X.w (upd H' L o) s'.heap L o) : Mid X H s (upd H' L o) s' := by
  have old : ∀ {b : Addr} {ob : Obj}, s.heap.get? b = some ob → b ≠ L := fun {b ob} q z => absurd (Heap.lt_size q) (Nat.not_lt.mpr (by rw [z]; exact hL))
  refine ⟨m.os, m.bare, ⟨m.un.keep, m.un.slot, fun b ob q n hx => ?_, m.un.there, fun b xs q => ?_, fun b ob u q => ?_, fun b ps q => ?_⟩, fun b u e => ?_⟩
  · rw [upd_ne (old q)]
    exact m.un.free b ob q n hx
  · have := m.un.tups b xs q
    rw [upd_ne (ne_of_none this hn)]
    exact this
  · have := m.un.frzs b ob u q
    rw [upd_ne (ne_of_none this hn)]
    exact this
  · obtain ⟨more, this⟩ := m.un.tbls b ps q
    exact ⟨more, by rw [upd_ne (ne_of_none this hn)]; exact this⟩
  · by_cases hb : b = L
    · subst hb
      rw [upd_same] at e
      cases e
      exact new
    · rw [upd_ne hb] at e
      exact (m.hok b u e).stay (fun c v _ q => q) (fun c q => by rw [upd_ne (ne_of_none q hn)]; exact q) fun c xs q => by rw [upd_ne (ne_of_none q hn)]; exact q
theorem Mid.size (m : Mid X H s H' s') : ∀ b o, s.heap.get? b = some o → ∃ o', s'.heap.get? b = some o' := fun b o q => m.un.there b o q (by simp)
theorem nofrs (I : Inv X pins σ H s) {a : Addr} (h : s.heap.objs.size ≤ a) : a ∉ frs X.stack := fun z => by
  rcases List.mem_cons.mp (I.stkSub _ z) with e | e
  · have h1 := I.lt
    rw [← e] at h1
    exact Nat.lt_irrefl _ (Nat.lt_of_lt_of_le h1 h)
  · exact I.nofs h e
end
/-! ### the call of sorted -/
section
variable {X : Cx} {pins : List (Addr × Obj)} {σ : L2.St} {H : Hp} {s : Shared}
/-- what is known of the keys that are made so far -/
def KeysAre (H : Hp) (kf : Int → Int × Int) (keys : List Value) (ns : List Int) : Prop := Paired (fun v n => ∃ p, v = Value.ref p ∧ H p = some (.tup [.int (kf n).1, .int (kf n).2])) keys ns
theorem paired_snocV {α β : Type} {R : α → β → Prop} : ∀ {l : List α} {m : List β} {a : α} {b : β}, Paired R l m → R a b → Paired R (l ++ [a]) (m ++ [b])
  | _, _, _, _, .nil, r => .cons r .nil
  | _, _, _, _, .cons q t, r => .cons q (paired_snocV t r)
theorem paired_mapV {α β : Type} {R S : α → β → Prop} : ∀ {l : List α} {m : List β}, Paired R l m → (∀ a b, R a b → S a b) → Paired S l m
  | _, _, .nil, _ => .nil
  | _, _, .cons q t, f => .cons (f _ _ q) (paired_mapV t f)
theorem paired_lenV {α β : Type} {R : α → β → Prop} : ∀ {l : List α} {m : List β}, Paired R l m → l.length = m.length
  | _, _, .nil => rfl
  | _, _, .cons _ t => congrArg (· + 1) (paired_lenV t)
theorem paired_memV {α β : Type} {R : α → β → Prop} : ∀ {l : List α} {m : List β} {a : α}, Paired R l m → a ∈ l → ∃ b ∈ m, R a b
  | _, _, _, .nil, h => nomatch h
  | _, _, _, .cons q t, h => by
    rcases List.mem_cons.mp h with rfl | h
    · exact ⟨_, List.mem_cons_self, q⟩
    · obtain ⟨b, hb, r⟩ := paired_memV t h
      exact ⟨b, List.mem_cons_of_mem _ hb, r⟩
theorem keys_zip {kp : Value → Int × Int} {kf : Int → Int × Int} : ∀ {keys its : List Value} {ns : List Int}, Paired (fun v n => kp v = kf n) keys ns → IntsAre its ns → ∀ p ∈ keys.zip its, ∃ n t, n ∈ ns ∧ p.2 = Value.int n t ∧ kp p.1 = kf n
  | [], _, [], _, _, _, h => nomatch h
  | key :: keys, it :: its, n :: ns, .cons q t, h, p, hp => by
    cases h with
    | cons _ k h =>
      rcases List.mem_cons.mp hp with rfl | hp
      · exact ⟨n, k, List.mem_cons_self, rfl, q⟩
      · obtain ⟨m, t', hm, e1, e2⟩ := keys_zip t h p hp
        exact ⟨m, t', List.mem_cons_of_mem _ hm, e1, e2⟩
def intAt : Value → Int
  | .int n _ => n
  | _ => 0
theorem ints_map : ∀ {its : List Value} {ns : List Int}, IntsAre its ns → its.map intAt = ns
  | _, _, .nil => rfl
  | _, _, .cons n t h => congrArg (n :: ·) (ints_map h)
theorem ints_valsV : ∀ {its : List Value}, (∀ v ∈ its, ∃ n t, v = Value.int n t) → Vals ((its.map intAt).map V.int) its
  | [], _ => .nil
  | v :: its, h => by
    obtain ⟨n, t, rfl⟩ := h v List.mem_cons_self
    exact .cons ⟨t, rfl⟩ (ints_valsV fun v hv => h v (List.mem_cons_of_mem _ hv))
theorem zip_snd {α β : Type} : ∀ {l : List α} {m : List β}, l.length = m.length → (l.zip m).map (·.2) = m
  | [], [], _ => rfl
  | _ :: l, y :: m, h => congrArg (y :: ·) (zip_snd (Nat.succ.inj h))
/-- order of ints by a key of two -/
def Kord (kf : Int → Int × Int) (l : List Int) : Prop := l.Pairwise fun x y => lexB (kf y) (kf x) = false
theorem sorted_lam {kf : Int → Int × Int} {a f : Addr} {fo : Obj} {ns : List Int} {Q : VK} (I : Inv X pins σ H s) (hs : SqL X.K H a (ns.map V.int)) (hf : s.heap.get? f = some fo) (hfn : H f = none) (hfr : f ∉ frs X.stack)
    (turn : ∀ n ∈ ns, ∀ (t : Tok) (s' : Shared) (H' : Hp), Env0 X.prog X.w X.K X.mg X.base X.A.in1.in1 X.stack s' H' → s'.heap.get? f = some fo → Same H H' →
      codeAny (model X.prog X.w) X.A.in1.in1 (.call (.ref f) ⟨[.int n t], []⟩) (CR L2.CX0 X.stack X.prog X.w H' s' (fun v H'' => ∃ p, v = .ref p ∧ Same H' H'' ∧ H'' p = some (.tup [.int (kf n).1, .int (kf n).2])) L2.E0) s')
    (q : ∀ (ns' : List Int) (L : Addr) (H' : Hp), ns'.Perm ns → Kord kf ns' → H L = none → Same H H' → H' L = some (.lst (ns'.map V.int)) → Q (.ref L) H') :
    wpAny (model X.prog X.w) X.A (call (.builtin "sorted") [.ref a] [(Str.ofString "key", .ref f)]) (EP X pins σ Q) X.xe s := by
  obtain ⟨its, rv, hl, hz⟩ := I.list hs
  have hi : IntsAre its ns := rv.ints
  have hlen : its.length = ns.length := hi.length
  rw [List.length_map] at hz
  have hz' : its.length ≤ sizeLine := by omega
  refine call_function_entry_kw kind_sorted plain_sorted entry_sorted (ksk_s1 _ _) ?_
  unfold Builtin.«sorted»
  refine wpAny_bind (m := checkCount "sorted" 1 1 _) (wpAny_pure ?_)
  refine wpAny_bind (collect_list hl.isList ?_ hz')
  refine wpAny_bind (wpAny_newList ?_ hz')
  have hsz : ((s.heap.push (seqObj "list" #[] 0)).update s.heap.objs.size (Obj.mapSeq (· ++ its.toArray))).objs.size = s.heap.objs.size + 1 := by
    rw [Heap.size_update, size_push']
  show wpAny _ _ _ _ _ { s with heap := ((s.heap.push (seqObj "list" #[] 0)).update s.heap.objs.size (Obj.mapSeq (· ++ its.toArray))).push (seqObj "list" its.toArray 0) }
  rw [hsz]
  have k1 : ∀ b o, s.heap.get? b = some o → (((s.heap.push (seqObj "list" #[] 0)).update s.heap.objs.size (Obj.mapSeq (· ++ its.toArray))).push (seqObj "list" its.toArray 0)).get? b = some o := fun b o e => by
    have hlt : b < s.heap.objs.size := Heap.lt_size e
    refine Heap.get?_push_of_some _ ?_
    rw [Heap.get?_update_ne _ _ _ _ (Nat.ne_of_lt hlt)]
    exact Heap.get?_push_of_some _ e
  have hoL : (((s.heap.push (seqObj "list" #[] 0)).update s.heap.objs.size (Obj.mapSeq (· ++ its.toArray))).push (seqObj "list" its.toArray 0)).get? (s.heap.objs.size + 1) = some (seqObj "list" its.toArray 0) := by
    rw [← hsz]; exact Heap.get?_push_size _ rfl
  have z1 : (((s.heap.push (seqObj "list" #[] 0)).update s.heap.objs.size (Obj.mapSeq (· ++ its.toArray))).push (seqObj "list" its.toArray 0)).objs.size = s.heap.objs.size + 2 := by rw [size_push', hsz]
  generalize ((s.heap.push (seqObj "list" #[] 0)).update s.heap.objs.size (Obj.mapSeq (· ++ its.toArray))).push (seqObj "list" its.toArray 0) = h1 at k1 hoL z1
  obtain ⟨L, eL⟩ : ∃ L, L = s.heap.objs.size + 1 := ⟨_, rfl⟩
  rw [← eL] at hoL ⊢
  have gL : s.heap.objs.size ≤ L := by omega
  have nL : H L = none := I.hok.fresh gL
  refine wpAny_bind (wpAny_holding (wpAny_call_entry_kw slot_list_sort ⟨_, hoL, rfl⟩ entry_list_sort ?_ (ksk_l1 _ _)))
  rw [ksk_t1]
  have m1 : Mid X H s H { s with heap := h1 } := (Mid.refl I).kept (t' := s.toks) k1
  unfold ksk_tree
  refine wpAny_bind (listItems_at hoL rfl ?_)
  refine wpAny_bind (listUpdate_at hoL rfl ?_ (by rw [List.size_toArray]; exact hz') (Nat.zero_le _))
  obtain ⟨e1, ho1⟩ : ∃ e1, (h1.update L (Obj.mapSeq fun _ => #[])).get? L = some (seqObj "list" #[] e1) := ⟨_, get?_update_seq hoL (fun _ => #[])⟩
  refine wpAny_bind (seqEpoch_at ho1 rfl ?_)
  refine wpAny_bind (wpAny_newTuple ?_ (by show its.length ≤ _; exact hz'))
  refine wpAny_bind (wpAny_newList ?_ (Nat.zero_le _))
  refine wpAny_holding ?_
  have zK : ((h1.update L (Obj.mapSeq fun _ => #[])).push (seqObj "tuple" its.toArray 0)).objs.size = s.heap.objs.size + 3 := by rw [size_push', Heap.size_update, z1]
  show wpAny _ _ (ksk_rest L (.ref f) false its.toArray e1 (.ref ((h1.update L (Obj.mapSeq fun _ => #[])).push (seqObj "tuple" its.toArray 0)).objs.size)) _ _ { s with heap := ((h1.update L (Obj.mapSeq fun _ => #[])).push (seqObj "tuple" its.toArray 0)).push (seqObj "list" #[] 0) }
  have hoK : (((h1.update L (Obj.mapSeq fun _ => #[])).push (seqObj "tuple" its.toArray 0)).push (seqObj "list" #[] 0)).get? (s.heap.objs.size + 3) = some (seqObj "list" #[] 0) := by
    rw [← zK]; exact Heap.get?_push_size _ rfl
  have hoL2 : (((h1.update L (Obj.mapSeq fun _ => #[])).push (seqObj "tuple" its.toArray 0)).push (seqObj "list" #[] 0)).get? L = some (seqObj "list" #[] e1) :=
    Heap.get?_push_of_some _ (Heap.get?_push_of_some _ ho1)
  have k2 : ∀ b o, b ∉ [L] → h1.get? b = some o → (((h1.update L (Obj.mapSeq fun _ => #[])).push (seqObj "tuple" its.toArray 0)).push (seqObj "list" #[] 0)).get? b = some o := fun b o hb e =>
    Heap.get?_push_of_some _ (Heap.get?_push_of_some _ ((Heap.get?_update_ne _ _ _ _ (by simpa using hb)).trans e))
  have m2 := m1.turn (t' := s.toks) (ch := [L]) (fun e he => by rw [List.mem_singleton.mp he]; exact ⟨gL, nL⟩) k2
  rw [zK]
  generalize ((h1.update L (Obj.mapSeq fun _ => #[])).push (seqObj "tuple" its.toArray 0)).push (seqObj "list" #[] 0) = h2 at hoK hoL2 m2
  obtain ⟨kS, eK⟩ : ∃ kS, kS = s.heap.objs.size + 3 := ⟨_, rfl⟩
  rw [← eK] at hoK ⊢
  have gK : s.heap.objs.size ≤ kS := by omega
  have nK : H kS = none := I.hok.fresh gK
  have neKL : kS ≠ L := by omega
  have m2 : Mid X H s H { s with heap := h2 } := m2
  clear k1 k2 m1 hoL ho1 z1 zK hsz eL eK
  unfold ksk_rest
  refine wpAny_bind (wpAny_rule ?_)
  first
    | rw [List.forIn_toArray]
    | (rw [← Array.forIn_toList]; simp only [List.toList_toArray])
    | rw [← Array.forIn_toList]
  refine wpAny_bind (ksk_fold (fun i s' => ∃ H' keys e, Mid X H s H' s' ∧ Same H H' ∧ H' L = none ∧ H' kS = none ∧ s'.heap.get? f = some fo ∧ s'.heap.get? L = some (seqObj "list" #[] e1) ∧ s'.heap.get? kS = some (seqObj "list" (List.toArray keys) e) ∧ KeysAre H' kf keys (ns.take i)) its 0 _
    ⟨H, [], 0, m2, Same.refl _, nL, nK, m2.un.keep f fo hf hfn hfr (by simp), hoL2, hoK, by rw [List.take_zero]; exact .nil⟩ ?step ?done)
  case step =>
    rintro j x s' hx ⟨H', keys, e, m, sm, nL', nK', hf', hL', hK', ks⟩
    simp only [Nat.zero_add] at ks ⊢
    have hj : j < its.length := (List.getElem?_eq_some_iff.mp hx).1
    obtain ⟨n, t, hn, rfl⟩ : ∃ n t, ns[j]? = some n ∧ x = Value.int n t := by
      have e := congrArg (fun l : List Int => l[j]?) (ints_map hi)
      have e : (its.map intAt)[j]? = ns[j]? := e
      rw [List.getElem?_map, hx] at e
      have g : ∀ {l : List Value} {m : List Int}, IntsAre l m → ∀ v ∈ l, ∃ n t, v = Value.int n t := by
        intro l m h
        induction h with
        | nil => intro v hv; cases hv
        | cons n t h ih =>
          intro v hv
          rcases List.mem_cons.mp hv with rfl | hv
          · exact ⟨n, t, rfl⟩
          · exact ih v hv
      obtain ⟨n, t, rfl⟩ := g hi x (List.mem_of_getElem? hx)
      exact ⟨n, t, e.symm, rfl⟩
    have J := m.inv I
    have cl := turn n (List.mem_of_getElem? hn) t s' H' J.env0.in1.in1 hf' sm
    have lk : keys.length = j := by
      have h1 := paired_lenV ks
      rw [List.length_take, Nat.min_eq_left (by omega)] at h1
      exact h1
    refine wpAny_bind (wpAny_attempt (wpAny_call (codeAny_mono cl fun r s'' hq => ?_)))
    cases r with
    | error e => exact False.elim hq
    | ok fl =>
      cases fl with
      | next => exact False.elim hq
      | brk => exact False.elim hq
      | cont => exact False.elim hq
      | ret u =>
        obtain ⟨v, H2, os2, bare2, un2, hok2, ru, p, rfl, sm2, hp⟩ := hq
        obtain rfl : u = Value.ref p := ru
        have mc : Mid X H' s' H2 s'' := ⟨os2, bare2, un2, hok2⟩
        have hL2 := un2.keep L _ hL' nL' (nofrs I gL) (by simp)
        have hK2 := un2.keep kS _ hK' nK' (nofrs I gK) (by simp)
        have nL2 := un2.free L _ hL' nL' (by simp)
        have nK2 := un2.free kS _ hK' nK' (by simp)
        have nf' : H' f = none := m.un.free f fo hf hfn (by simp)
        have hf2 := un2.keep f _ hf' nf' hfr (by simp)
        have md := (m.trans mc).turn (t' := s''.toks) (ch := [kS]) (h' := s''.heap.update kS (Obj.mapSeq (·.push (.ref p)))) (fun e he => by rw [List.mem_singleton.mp he]; exact ⟨gK, nK2⟩) (fun b o hb e => (Heap.get?_update_ne _ _ _ _ (by simpa using hb)).trans e)
        obtain ⟨c2, hc2⟩ : ∃ c2, (s''.heap.update kS (Obj.mapSeq (·.push (.ref p)))).get? kS = some (seqObj "list" ((List.toArray keys).push (.ref p)) c2) := ⟨_, get?_update_seq hK2 (·.push (.ref p))⟩
        have nfk : f ≠ kS := by
          intro z
          rw [z] at hf
          exact absurd (Heap.lt_size hf) (Nat.not_lt.mpr gK)
        show wpAny _ _ (do Builtin.List.listUpdate (.ref kS) (·.push (.ref p)); pure (ForInStep.yield PUnit.unit)) _ _ s''
        refine wpAny_bind (listUpdate_at hK2 rfl ?_ (by rw [List.size_toArray]; omega) (Nat.le_trans (Nat.le_of_eq (Array.size_push ..)) (by rw [List.size_toArray]; omega)))
        refine wpAny_pure ⟨rfl, H2, keys ++ [.ref p], c2, md, sm.trans sm2, nL2, nK2, (Heap.get?_update_ne _ _ _ _ nfk).trans hf2, (Heap.get?_update_ne _ _ _ _ neKL.symm).trans hL2, ?_, ?_⟩
        · have ea : (List.toArray keys).push (Value.ref p) = List.toArray (keys ++ [Value.ref p]) := by simp
          rw [← ea]
          exact hc2
        · rw [List.take_add_one, hn]
          exact paired_snocV (paired_mapV ks fun v n ⟨p, e, hp⟩ => ⟨p, e, sm2 _ _ hp⟩) ⟨p, rfl, hp⟩
  case done =>
    rintro s' ⟨H', keys, e, m, sm, nL', nK', hf', hL', hK', ks⟩
    rw [Nat.zero_add, hlen, List.take_length] at ks
    have lk : keys.length = its.length := by rw [paired_lenV ks, hlen]
    refine wpAny_bind (listItems_at hK' rfl ?_)
    have hp : ∀ v ∈ keys, Srt.IsPair s'.heap v (pairAt s'.heap v).1 (pairAt s'.heap v).2 ∧ True := fun v hv => by
      obtain ⟨n, hn, p, rfl, hp⟩ := paired_memV ks hv
      obtain ⟨_, its2, r2, o, ho, hc, n', hd⟩ := m.hok _ _ hp
      obtain ⟨u1, u2, rfl, ri, rj⟩ := vals2 r2
      obtain ⟨t1, rfl⟩ := ri
      obtain ⟨t2, rfl⟩ := rj
      have ip : Srt.IsPair s'.heap (.ref p) (kf n).1 (kf n).2 := ⟨p, o, t1, t2, n', rfl, ho, hc, hd⟩
      have e := pairAt_of ip
      rw [e]
      exact ⟨ip, trivial⟩
    have kz : Paired (fun v n => pairAt s'.heap v = kf n) keys ns := paired_mapV ks fun v n ⟨p, e, hp⟩ => by
      subst e
      obtain ⟨_, its2, r2, o, ho, hc, n', hd⟩ := m.hok _ _ hp
      obtain ⟨u1, u2, rfl, ri, rj⟩ := vals2 r2
      obtain ⟨t1, rfl⟩ := ri
      obtain ⟨t2, rfl⟩ := rj
      exact pairAt_of (x := (kf n).1) (y := (kf n).2) ⟨p, o, t1, t2, n', rfl, ho, hc, hd⟩
    refine sort_end (kp := pairAt s'.heap) lk hz' (fun v hv => (hp v hv).1) hL' hK' neKL (fun out h' so po kp hLo hKo => ?_)
    obtain ⟨nn, hLo⟩ := hLo
    have mem : ∀ p ∈ out, ∃ n t, n ∈ ns ∧ p.2 = Value.int n t ∧ pairAt s'.heap p.1 = kf n := fun p hp => keys_zip kz hi p (po.mem_iff.mp hp)
    have hv : Vals (((out.map (·.2)).map intAt).map V.int) (out.map (·.2)) := ints_valsV fun v hv => by
      obtain ⟨p, hp, rfl⟩ := List.mem_map.mp hv
      obtain ⟨n, t, _, e, _⟩ := mem p hp
      exact ⟨n, t, e⟩
    have pm : ((out.map (·.2)).map intAt).Perm ns := by
      have e := (po.map (·.2)).map intAt
      rw [zip_snd lk, ints_map hi] at e
      exact e
    have ko : Kord kf ((out.map (·.2)).map intAt) := by
      unfold Kord
      rw [List.pairwise_map, List.pairwise_map]
      refine List.Pairwise.imp_of_mem (fun {x y} hx hy h => ?_) so
      obtain ⟨n, t, _, e1, e2⟩ := mem x hx
      obtain ⟨n', t', _, e1', e2'⟩ := mem y hy
      rw [e1, e1']
      show lexB (kf n') (kf n) = false
      rw [← e2, ← e2']
      exact h
    have m3 := m.turn (t' := s'.toks) (h' := h') (ch := [kS, L]) (fun e he => by
      rcases List.mem_cons.mp he with rfl | he
      · exact ⟨gK, nK'⟩
      · rw [List.mem_singleton.mp he]
        exact ⟨gL, nL'⟩) (fun b o hb e => kp b o (fun z => hb (by simp [z])) (fun z => hb (by simp [z])) e)
    have m4 := m3.track (o := .lst (((out.map (·.2)).map intAt).map V.int)) gL nL' ⟨by rw [List.length_map, pm.length_eq]; exact hz, _, nn, hv, hLo⟩
    refine ⟨.none, rfl, wpAny_pure ⟨_, rfl, .ref L, _, m4.inv I, rfl, q _ L _ pm ko nL (sm.trans fun b o e => ?_) upd_same⟩⟩
    rw [upd_ne (ne_of_none e nL')]
    exact e
end
end Rt
end
section
set_option Elab.async false
set_option linter.all false
set_option maxRecDepth 100000
set_option maxHeartbeats 4000000
/-! sorted(xs, key=lambda x: ..) as an expression; a def that makes lambdas -/
namespace Rt
open PySem PySem.Spec PyProof.Rows L2
open SrtO (lexB lexB_iff lexB_no)
open LamX (CodeO TabB TabS Tabs ExtN lam_make2)
theorem sqL_xn {K : PySem.W.Frag} {H H' : Hp} {a : Addr} {xs : List V} (e : ExtN H H') (h : SqL K H a xs) : SqL K H' a xs := by
  rcases h with (h | ⟨o, h⟩) | h
  · exact .inl (.inl (e _ _ h fun _ z => by cases z))
  · exact .inl (.inr ⟨o, e _ _ h fun _ z => by cases z⟩)
  · exact .inr h
def tSortLam (K : PySem.W.Frag) (T : List (Addr × Str)) (N : List Str) (t : TE) (te : TA) : TE := fun σ H Q => te σ H fun vs H1 => ∃ (a : Addr) (ns : List Int) (kf : Int → Int × Int), vs = [.ref a] ∧ SqL K H1 a (ns.map V.int) ∧ Tabs T H1 ∧
  (∀ n ∈ ns, ∀ H', t (L2.start N [.int n]) H' fun v H'' => ∃ p, v = .ref p ∧ Same H' H'' ∧ H'' p = some (.tup [.int (kf n).1, .int (kf n).2])) ∧
  ∀ (ns' : List Int) (L : Addr) (H' : Hp), ns'.Perm ns → Kord kf ns' → (∀ o, H1 L = some o → ∃ ps, o = .tbl ps) → ExtN H1 H' → Tabs T H' → H' L = some (.lst (ns'.map V.int)) → Q (.ref L) H'
theorem pe_sortLam {X : Cx} {T : List (Addr × Str)} {e : Expr} {te : TA} {t : TE} {params : Arguments} {body : Expr} {scope : Scope} {lpos kpos p pos : Pos} {x0 : Str} {N : List Str} {c P : Addr} {k : Nat}
    (hg : Gl X "sorted") (hm : X.mg "sorted" = none) (ha : PA X [e] te) (TB : TabB X.base X.mg c P) (hcode : X.env.code = .ref c) (hmT : (P, X.env.qual ++ "<lambda>") ∈ T) (hu : ∀ p ∈ T, p.1 = P → p.2 = X.env.qual ++ "<lambda>") (hr : Room (k + 3) X.A)
    (S : FnScope N [x0] scope) (hdef : defaultsOf params X.env = ([], [])) (hbind : ∀ (q : Str) (pm cv ctv u : Value), bindArgs (PySem.W.kla_fn "<lambda>" q params body scope [] pm cv ctv) ⟨[u], []⟩ = pure [(x0, u)])
    (hbody : ∀ (A : Around) (outer : List Env) (s : Shared) (H : Hp) (f c' : Addr), Room k (A.deeper (envOfC (X.env.qual ++ "<lambda>") scope s.heap.objs.size f (.ref c'))) → PE (cxOf L2.CX0 X.prog X.w X.K X.mg X.base N (X.env.qual ++ "<lambda>") scope f (.ref c') A outer s H L2.E0) body t)
    (he : backTo pos (starEach [e] X.env) = (false, eval e X.env) :: backTo pos (starEach [] X.env) := by rfl) (hpl : (backTo pos (starEach [e] X.env)).any (·.1) = false := by rfl) :
    PE X (.Call (.Name "sorted" p) [e] [⟨some "key", .Lambda params body scope lpos, kpos⟩] pos) (tSortLam X.K T N t te) := by
  refine ⟨fun pins s σ H Q I h => ?_⟩
  refine wpAny_Call_Name_kw (ld_blt I hg hm PyProof.Rows.boot_sorted ?_ (by decide) (by decide))
  refine PyProof.Rows.callWith_kw (thn (ha.run pos pins s σ H _ I h) fun us s1 ⟨vs, H1, I1, r1, q1⟩ => ?_) he hpl (by rfl) (by rfl)
  obtain ⟨a, ns, kf, rfl, hs, hT, tn, fin⟩ := q1
  obtain rfl := Vals.ref1 r1
  show wpAny _ _ (evalAll ((do let v ← eval (.Lambda params body scope lpos) X.env; standAt pos; pure v) :: (backToKw pos (keywordEach [] X.env)).map (·.2))) _ _ s1
  refine wpAny_evalAll_cons (wpAny_bind (lam_make2 I1 TB hcode hmT hu hT hdef (fun y hy z => absurd z (S.nofree y hy)) fun f c' pm' ctv H2 s2 I2 eN T2 hf hfn hfr hco => ?_))
  refine wpAny_bind (wpAny_standAt (wpAny_pure ?_))
  refine wpAny_evalAll_nil ?_
  rw [clo_nil S.nofree] at hf
  show wpAny _ _ (call (.builtin "sorted") [.ref a] [(Str.ofString "key", .ref f)]) _ _ _
  refine sorted_lam (kf := kf) I2 (sqL_xn eN hs) hf hfn hfr (fun n hn tk s' H' e0 hf' sm => ?_) fun ns' L H' pm ko nL sm hL => ?_
  · exact lam_run S (hr.in1.in1) e0 hf' (sm _ _ hco) (hbind _ _ _ _ _) (show Vals [V.int n] [Value.int n tk] from .cons ⟨tk, rfl⟩ .nil) rfl fun hr2 => ⟨t, hbody _ _ _ _ _ _ hr2, tn n hn H'⟩
  · refine fin ns' L H' pm ko (fun o z => ?_) (eN.trans (ExtN.of sm)) (T2.ext sm) hL
    cases o with
    | tbl ps => exact ⟨ps, rfl⟩
    | _ =>
      have := eN L _ z (fun _ z => by cases z)
      rw [nL] at this
      cases this
/-! ### a def that makes lambdas: its code object is known -/
section
variable {P : Program} {w : World} {K : PySem.W.Frag} {mg : Str → Option Value} {base : Heap} {x qual : Str} {params : Arguments} {body : List Stmt} {scope : Scope} {f : Addr} {fd : FuncData} {N ps : List Str} {k : Nat} {sp : Sp}
theorem ok0c {kws : List (Str × V)} {dvs : List V} (F : FunD K x qual params body scope dvs kws f fd) (S : FnScope N ps scope) (len : ∀ vs H Q E, sp vs H Q E → vs.length = ps.length)
    (hbody : ∀ (cdv : Value) (A : Around) (outer : List Env) (s : Shared) (H : Hp) (vs : List V) (Q : VK) (E : XK), codeOf K f = some cdv → Room k (A.deeper (envOfC qual scope s.heap.objs.size f cdv)) → sp vs H Q E →
      ∃ t, PSs (cxOf CX0 P w K mg base N qual scope f cdv A outer s H E).nox body t ∧ t { nx := fun _ H' => Q .non H', rt := Q } (start N vs) H) : FnOk P w K mg base CX0 (k + 1) f fd ps sp := by
  refine ⟨len, fun A outer s H args us vs Q E hr e0 hb r h => ?_⟩
  obtain ⟨oc, od, dV, kV, doc, pm, an, cdv, ct, osl, rfl, lk, hcd, _, _⟩ := F.ex
  refine LamX.run_ofS lk hcd S hr e0 hb r (len _ _ _ _ h) fun hr2 => ?_
  obtain ⟨t, ht, q⟩ := hbody cdv A outer s H vs Q E (by unfold codeOf; rw [lk] <;> rfl) hr2 h
  exact ⟨t, ht.nox, q⟩
end
/-! ### what such a call leaves: all but the tables -/
structure ExtT (T : List (Addr × Str)) (H H' : Hp) : Prop where
  xn : ExtN H H'
  tab : Tabs T H → Tabs T H'
section
variable {T : List (Addr × Str)} {H H1 H2 : Hp}
theorem ExtT.refl (H : Hp) : ExtT T H H := ⟨ExtN.refl _, id⟩
theorem ExtT.of (s : Same H H1) : ExtT T H H1 := ⟨ExtN.of s, fun t => t.ext s⟩
theorem ExtT.trans (a : ExtT T H H1) (b : ExtT T H1 H2) : ExtT T H H2 := ⟨a.xn.trans b.xn, fun t => b.tab (a.tab t)⟩
theorem ExtN.tk (e : ExtN H H1) {a : Addr} {xs : List V} (h : H a = some (.tup xs)) : H1 a = some (.tup xs) := e _ _ h fun _ z => by cases z
theorem ExtN.dk (e : ExtN H H1) {a : Addr} {kvs : List (Key × V)} (h : H a = some (.dK kvs)) : H1 a = some (.dK kvs) := e _ _ h fun _ z => by cases z
theorem ExtN.ls (e : ExtN H H1) {a : Addr} {xs : List V} (h : H a = some (.lst xs)) : H1 a = some (.lst xs) := e _ _ h fun _ z => by cases z
theorem ExtN.is (e : ExtN H H1) {a C dx : Addr} {fs : List (Str × V)} (h : H a = some (.ins C dx fs)) : H1 a = some (.ins C dx fs) := e _ _ h fun _ z => by cases z
end
/-! ### there is just one list in the order of the keys -/
theorem kord_uniq {kf : Int → Int × Int} (inj : ∀ x y, kf x = kf y → x = y) : ∀ {l m : List Int}, l.Perm m → Kord kf l → Kord kf m → l = m := by
  intro l m p h1 h2
  refine p.eq_of_pairwise (le := fun x y => lexB (kf y) (kf x) = false) ?_ h1 h2
  intro x y _ _ a b
  have a := lexB_no.mp a
  have b := lexB_no.mp b
  refine inj x y (Prod.ext ?_ ?_) <;> omega
end Rt
end
section
set_option Elab.async false
set_option linter.all false
set_option maxRecDepth 100000
set_option maxHeartbeats 4000000
namespace Rt
open PySem PySem.Spec PyProof.Rows L2
/-! ### the text by places -/
def top (i : Nat) : Stmt := PySem.Challenge.pw_refundtrees_k75_whole_builds_written.main.body.getD i (.Pass ⟨0, 0, 0, 0⟩)
abbrev s_NoBook_init : Stmt := inClass (top 3) 0
abbrev s_NoSkill_init : Stmt := inClass (top 4) 0
abbrev s_NoBuild_init : Stmt := inClass (top 5) 0
abbrev s_NoStep_init : Stmt := inClass (top 6) 0
abbrev s_NoPlain_init : Stmt := inClass (top 7) 0
abbrev s_NoNumber_init : Stmt := inClass (top 8) 0
abbrev s_NoWorth_init : Stmt := inClass (top 9) 0
abbrev s_NoSeen_init : Stmt := inClass (top 10) 0
abbrev s_NoKind_init : Stmt := inClass (top 11) 0
abbrev s_NothingBack_init : Stmt := inClass (top 12) 0
abbrev s_NoNote_init : Stmt := inClass (top 13) 0
abbrev s_is_number : Stmt := top 17
abbrev s_is_number_in : Stmt := top 18
abbrev s_is_word : Stmt := top 19
abbrev s_is_one_of : Stmt := top 20
abbrev s_is_ordered : Stmt := top 21
abbrev s_are_unlike : Stmt := top 22
abbrev s_wrong_part : Stmt := top 32
abbrev s_are_rows : Stmt := top 33
abbrev s_is_pair : Stmt := top 34
abbrev s_are_skills : Stmt := top 35
abbrev s_are_needs : Stmt := top 36
abbrev s_is_need : Stmt := top 37
abbrev s_are_wants : Stmt := top 38
abbrev s_is_want : Stmt := top 39
abbrev s_are_others : Stmt := top 40
abbrev s_are_bars : Stmt := top 41
abbrev s_are_told_once : Stmt := top 42
abbrev s_Book_init : Stmt := inClass (top 44) 0
abbrev s_Book_skills : Stmt := inClass (top 44) 1
abbrev s_Book_needs : Stmt := inClass (top 44) 2
abbrev s_Book_wants : Stmt := inClass (top 44) 3
abbrev s_Book_bars : Stmt := inClass (top 44) 4
abbrev s_Book_gives : Stmt := inClass (top 44) 5
abbrev s_Book_prices : Stmt := inClass (top 44) 6
abbrev s_Book_points : Stmt := inClass (top 44) 7
abbrev s_Book_reset : Stmt := inClass (top 44) 8
abbrev s_Book_names : Stmt := inClass (top 44) 9
abbrev s_Book_changed : Stmt := inClass (top 44) 15
abbrev s_Book_must_have : Stmt := inClass (top 44) 16
abbrev s_Book_getitem : Stmt := inClass (top 44) 17
abbrev s_Book_contains : Stmt := inClass (top 44) 18
abbrev s_Book_len : Stmt := inClass (top 44) 19
abbrev s_Book_iter : Stmt := inClass (top 44) 20
abbrev s_Book_eq : Stmt := inClass (top 44) 21
abbrev s_is_build : Stmt := top 46
abbrev s_write_build : Stmt := top 48
abbrev s_read_build : Stmt := top 49
abbrev s_law_pool : Stmt := top 51
abbrev s_law_take : Stmt := top 52
abbrev s_law_one : Stmt := top 53
abbrev s_law_turned : Stmt := top 54
abbrev s_law_tree : Stmt := top 55
abbrev s_law_rows : Stmt := top 56
abbrev s_law_book : Stmt := top 57
abbrev s_law_made : Stmt := top 58
abbrev s_law_names : Stmt := top 59
abbrev s_law_subsets : Stmt := top 60
abbrev s_law_caught : Stmt := top 61
abbrev s_law : Stmt := top 62
theorem sc_NoBook_init : FnScope ["self", "part"] ["self", "part"] (defScope s_NoBook_init) := ⟨rfl, rfl, rfl, by decide +kernel, rfl, by decide +kernel, by decide +kernel⟩
theorem sc_NoSkill_init : FnScope ["self", "skill"] ["self", "skill"] (defScope s_NoSkill_init) := ⟨rfl, rfl, rfl, by decide +kernel, rfl, by decide +kernel, by decide +kernel⟩
theorem sc_NoBuild_init : FnScope ["self", "build"] ["self", "build"] (defScope s_NoBuild_init) := ⟨rfl, rfl, rfl, by decide +kernel, rfl, by decide +kernel, by decide +kernel⟩
theorem sc_NoStep_init : FnScope ["self", "step"] ["self", "step"] (defScope s_NoStep_init) := ⟨rfl, rfl, rfl, by decide +kernel, rfl, by decide +kernel, by decide +kernel⟩
theorem sc_NoPlain_init : FnScope ["self", "book"] ["self", "book"] (defScope s_NoPlain_init) := ⟨rfl, rfl, rfl, by decide +kernel, rfl, by decide +kernel, by decide +kernel⟩
theorem sc_NoNumber_init : FnScope ["self", "value"] ["self", "value"] (defScope s_NoNumber_init) := ⟨rfl, rfl, rfl, by decide +kernel, rfl, by decide +kernel, by decide +kernel⟩
theorem sc_NoWorth_init : FnScope ["self", "worths"] ["self", "worths"] (defScope s_NoWorth_init) := ⟨rfl, rfl, rfl, by decide +kernel, rfl, by decide +kernel, by decide +kernel⟩
theorem sc_NoSeen_init : FnScope ["self", "seen"] ["self", "seen"] (defScope s_NoSeen_init) := ⟨rfl, rfl, rfl, by decide +kernel, rfl, by decide +kernel, by decide +kernel⟩
theorem sc_NoKind_init : FnScope ["self", "kind"] ["self", "kind"] (defScope s_NoKind_init) := ⟨rfl, rfl, rfl, by decide +kernel, rfl, by decide +kernel, by decide +kernel⟩
theorem sc_NothingBack_init : FnScope ["self", "many"] ["self", "many"] (defScope s_NothingBack_init) := ⟨rfl, rfl, rfl, by decide +kernel, rfl, by decide +kernel, by decide +kernel⟩
theorem sc_NoNote_init : FnScope ["self", "line"] ["self", "line"] (defScope s_NoNote_init) := ⟨rfl, rfl, rfl, by decide +kernel, rfl, by decide +kernel, by decide +kernel⟩
theorem sc_is_number : FnScope ["value"] ["value"] (defScope s_is_number) := ⟨rfl, rfl, rfl, by decide +kernel, rfl, by decide +kernel, by decide +kernel⟩
theorem sc_is_number_in : FnScope ["value", "low", "high"] ["value", "low", "high"] (defScope s_is_number_in) := ⟨rfl, rfl, rfl, by decide +kernel, rfl, by decide +kernel, by decide +kernel⟩
theorem sc_is_word : FnScope ["value", "sign"] ["value"] (defScope s_is_word) := ⟨rfl, rfl, rfl, by decide +kernel, rfl, by decide +kernel, by decide +kernel⟩
theorem sc_is_one_of : FnScope ["names", "value"] ["names", "value"] (defScope s_is_one_of) := ⟨rfl, rfl, rfl, by decide +kernel, rfl, by decide +kernel, by decide +kernel⟩
theorem sc_is_ordered : FnScope ["names", "value", "name"] ["names", "value"] (defScope s_is_ordered) := ⟨rfl, rfl, rfl, by decide +kernel, rfl, by decide +kernel, by decide +kernel⟩
theorem sc_are_unlike : FnScope ["names", "values", "value"] ["names", "values"] (defScope s_are_unlike) := ⟨rfl, rfl, rfl, by decide +kernel, rfl, by decide +kernel, by decide +kernel⟩
theorem sc_wrong_part : FnScope ["skills", "points", "needs", "wants", "bars", "gives", "prices", "reset", "names", "answers", "wrong", "name", "_", "part", "right"] ["skills", "points", "needs", "wants", "bars", "gives", "prices", "reset"] (defScope s_wrong_part) := ⟨rfl, rfl, rfl, by decide +kernel, rfl, by decide +kernel, by decide +kernel⟩
theorem sc_are_rows : FnScope ["value", "most"] ["value", "most"] (defScope s_are_rows) := ⟨rfl, rfl, rfl, by decide +kernel, rfl, by decide +kernel, by decide +kernel⟩
theorem sc_is_pair : FnScope ["value"] ["value"] (defScope s_is_pair) := ⟨rfl, rfl, rfl, by decide +kernel, rfl, by decide +kernel, by decide +kernel⟩
theorem sc_are_skills : FnScope ["value", "names", "tiers", "name", "_", "tier", "row"] ["value"] (defScope s_are_skills) := ⟨rfl, rfl, rfl, by decide +kernel, rfl, by decide +kernel, by decide +kernel⟩
theorem sc_are_needs : FnScope ["value", "tiers", "tier", "_", "row"] ["value"] (defScope s_are_needs) := ⟨rfl, rfl, rfl, by decide +kernel, rfl, by decide +kernel, by decide +kernel⟩
theorem sc_is_need : FnScope ["row"] ["row"] (defScope s_is_need) := ⟨rfl, rfl, rfl, by decide +kernel, rfl, by decide +kernel, by decide +kernel⟩
theorem sc_are_wants : FnScope ["names", "value", "row"] ["names", "value"] (defScope s_are_wants) := ⟨rfl, rfl, rfl, by decide +kernel, rfl, by decide +kernel, by decide +kernel⟩
theorem sc_is_want : FnScope ["names", "row"] ["names", "row"] (defScope s_is_want) := ⟨rfl, rfl, rfl, by decide +kernel, rfl, by decide +kernel, by decide +kernel⟩
theorem sc_are_others : FnScope ["names", "skill", "value"] ["names", "skill", "value"] (defScope s_are_others) := ⟨rfl, rfl, rfl, by decide +kernel, rfl, by decide +kernel, by decide +kernel⟩
theorem sc_are_bars : FnScope ["names", "value", "pairs", "row"] ["names", "value"] (defScope s_are_bars) := ⟨rfl, rfl, rfl, by decide +kernel, rfl, by decide +kernel, by decide +kernel⟩
theorem sc_are_told_once : FnScope ["names", "value", "low", "high", "skill", "_", "row"] ["names", "value", "low", "high"] (defScope s_are_told_once) := ⟨rfl, rfl, rfl, by decide +kernel, rfl, by decide +kernel, by decide +kernel⟩
theorem sc_Book_init : FnScope ["self", "skills", "points", "needs", "wants", "bars", "gives", "prices", "reset", "part", "name", "_"] ["self", "skills", "points", "needs", "wants", "bars", "gives", "prices", "reset"] (defScope s_Book_init) := ⟨rfl, rfl, rfl, by decide +kernel, rfl, by decide +kernel, by decide +kernel⟩
theorem sc_Book_skills : FnScope ["self"] ["self"] (defScope s_Book_skills) := ⟨rfl, rfl, rfl, by decide +kernel, rfl, by decide +kernel, by decide +kernel⟩
theorem sc_Book_needs : FnScope ["self"] ["self"] (defScope s_Book_needs) := ⟨rfl, rfl, rfl, by decide +kernel, rfl, by decide +kernel, by decide +kernel⟩
theorem sc_Book_wants : FnScope ["self"] ["self"] (defScope s_Book_wants) := ⟨rfl, rfl, rfl, by decide +kernel, rfl, by decide +kernel, by decide +kernel⟩
theorem sc_Book_bars : FnScope ["self"] ["self"] (defScope s_Book_bars) := ⟨rfl, rfl, rfl, by decide +kernel, rfl, by decide +kernel, by decide +kernel⟩
theorem sc_Book_gives : FnScope ["self"] ["self"] (defScope s_Book_gives) := ⟨rfl, rfl, rfl, by decide +kernel, rfl, by decide +kernel, by decide +kernel⟩
theorem sc_Book_prices : FnScope ["self"] ["self"] (defScope s_Book_prices) := ⟨rfl, rfl, rfl, by decide +kernel, rfl, by decide +kernel, by decide +kernel⟩
theorem sc_Book_points : FnScope ["self"] ["self"] (defScope s_Book_points) := ⟨rfl, rfl, rfl, by decide +kernel, rfl, by decide +kernel, by decide +kernel⟩
theorem sc_Book_reset : FnScope ["self"] ["self"] (defScope s_Book_reset) := ⟨rfl, rfl, rfl, by decide +kernel, rfl, by decide +kernel, by decide +kernel⟩
theorem sc_Book_names : FnScope ["self"] ["self"] (defScope s_Book_names) := ⟨rfl, rfl, rfl, by decide +kernel, rfl, by decide +kernel, by decide +kernel⟩
theorem sc_Book_changed : FnScope ["self", "parts", "name", "told"] ["self", "parts"] (defScope s_Book_changed) := ⟨rfl, rfl, rfl, by decide +kernel, rfl, by decide +kernel, by decide +kernel⟩
theorem sc_Book_must_have : FnScope ["self", "skill"] ["self", "skill"] (defScope s_Book_must_have) := ⟨rfl, rfl, rfl, by decide +kernel, rfl, by decide +kernel, by decide +kernel⟩
theorem sc_Book_getitem : FnScope ["self", "at"] ["self", "at"] (defScope s_Book_getitem) := ⟨rfl, rfl, rfl, by decide +kernel, rfl, by decide +kernel, by decide +kernel⟩
theorem sc_Book_contains : FnScope ["self", "x"] ["self", "x"] (defScope s_Book_contains) := ⟨rfl, rfl, rfl, by decide +kernel, rfl, by decide +kernel, by decide +kernel⟩
theorem sc_Book_len : FnScope ["self"] ["self"] (defScope s_Book_len) := ⟨rfl, rfl, rfl, by decide +kernel, rfl, by decide +kernel, by decide +kernel⟩
theorem sc_Book_iter : FnScope ["self"] ["self"] (defScope s_Book_iter) := ⟨rfl, rfl, rfl, by decide +kernel, rfl, by decide +kernel, by decide +kernel⟩
theorem sc_Book_eq : FnScope ["self", "other"] ["self", "other"] (defScope s_Book_eq) := ⟨rfl, rfl, rfl, by decide +kernel, rfl, by decide +kernel, by decide +kernel⟩
theorem sc_is_build : FnScope ["book", "value"] ["book", "value"] (defScope s_is_build) := ⟨rfl, rfl, rfl, by decide +kernel, rfl, by decide +kernel, by decide +kernel⟩
theorem sc_write_build : FnScope ["build", "skill"] ["build"] (defScope s_write_build) := ⟨rfl, rfl, rfl, by decide +kernel, rfl, by decide +kernel, by decide +kernel⟩
theorem sc_read_build : FnScope ["book", "text", "build"] ["book", "text"] (defScope s_read_build) := ⟨rfl, rfl, rfl, by decide +kernel, rfl, by decide +kernel, by decide +kernel⟩
theorem sc_law_pool : FnScope ["_law_script", "_law_k", "_law_cell", "_law_big", "_law_mixed"] ["_law_script", "_law_k"] (defScope s_law_pool) := ⟨rfl, rfl, rfl, by decide +kernel, rfl, by decide +kernel, by decide +kernel⟩
theorem sc_law_take : FnScope ["_law_pool_here", "_law_bound", "_law_result"] ["_law_pool_here", "_law_bound"] (defScope s_law_take) := ⟨rfl, rfl, rfl, by decide +kernel, rfl, by decide +kernel, by decide +kernel⟩
theorem sc_law_one : FnScope ["_law_pool_here", "_law_things"] ["_law_pool_here", "_law_things"] (defScope s_law_one) := ⟨rfl, rfl, rfl, by decide +kernel, rfl, by decide +kernel, by decide +kernel⟩
theorem sc_law_turned : FnScope ["_law_pool_here", "_law_things", "_law_left", "_law_found"] ["_law_pool_here", "_law_things"] (defScope s_law_turned) := ⟨rfl, rfl, rfl, by decide +kernel, rfl, by decide +kernel, by decide +kernel⟩
theorem sc_law_tree : FnScope ["_law_pool_here", "_law_top", "_law_names_here", "_law_tier", "_law_rows_here", "_law_name", "_law_asked"] ["_law_pool_here", "_law_top"] (defScope s_law_tree) := ⟨rfl, rfl, rfl, by decide +kernel, rfl, by decide +kernel, by decide +kernel⟩
theorem sc_law_rows : FnScope ["_law_pool_here", "_law_names_here", "_law_top", "_law_words", "_law_is_down", "_law_found", "_law_turn", "_law_spot", "_law_others", "_law_some", "_law_word"] ["_law_pool_here", "_law_names_here", "_law_top", "_law_words", "_law_is_down"] (defScope s_law_rows) := ⟨rfl, rfl, rfl, by decide +kernel, rfl, by decide +kernel, by decide +kernel⟩
theorem sc_law_book : FnScope ["_law_pool_here", "_law_top", "_law_sort", "_law_rows_here", "_law_asked", "_law_names_here", "_law_words", "_law_book_here", "_law_turn", "_law_pair", "_law_row", "_law_name"] ["_law_pool_here", "_law_top", "_law_sort"] (defScope s_law_book) := ⟨rfl, rfl, rfl, by decide +kernel, rfl, by decide +kernel, by decide +kernel⟩
theorem sc_law_made : FnScope ["_law_book_here"] ["_law_book_here"] (defScope s_law_made) := ⟨rfl, rfl, rfl, by decide +kernel, rfl, by decide +kernel, by decide +kernel⟩
theorem sc_law_names : FnScope ["_law_book_here", "_law_row"] ["_law_book_here"] (defScope s_law_names) := ⟨rfl, rfl, rfl, by decide +kernel, rfl, by decide +kernel, by decide +kernel⟩
theorem sc_law_subsets : FnScope ["_law_book_here", "_law_names_here", "_law_found", "_law_level", "_law_turn", "_law_longer", "_law_build", "_law_low", "_law_name"] ["_law_book_here"] (defScope s_law_subsets) := ⟨rfl, rfl, rfl, by decide +kernel, rfl, by decide +kernel, by decide +kernel⟩
theorem sc_law_caught : FnScope ["_law_call", "e"] ["_law_call"] (defScope s_law_caught) := ⟨rfl, rfl, rfl, by decide +kernel, rfl, by decide +kernel, by decide +kernel⟩
theorem sc_law : FnScope ["_law_script", "_law_k", "_law_pool_here", "_law_book_here", "_law_names_here", "_law_right", "_law_build", "_law_text", "_law_turn", "_law_at", "_law_sign", "_law_bent", "_law_made_here", "_law_odd"] ["_law_script"] (defScope s_law) := ⟨rfl, rfl, rfl, by decide +kernel, rfl, by decide +kernel, by decide +kernel⟩
/-! ### the facts of the top -/
def dG (i : Nat) (x : Str) : He.DefD := ⟨(x, none), x, x, defArgs (top i), defBody (top i), defScope (top i), [], []⟩
def dM (c : Str) (i j : Nat) (m q : Str) : He.DefD := ⟨(c, some m), m, q, defArgs (inClass (top i) j), defBody (inClass (top i) j), defScope (inClass (top i) j), [], []⟩
def dGd (i : Nat) (x : Str) (dv : List He.Dv) : He.DefD := ⟨(x, none), x, x, defArgs (top i), defBody (top i), defScope (top i), dv, []⟩
/-- a default that is an object -/
def dflAt (f : Str × Option Str) (j : Nat) (K : PySem.W.Frag) : Addr := match K.lookup (He.fAd K f) with
  | some ⟨_, _, .func fd, _⟩ => (match fd.defaults with
    | .ref T => (match K.lookup T with
      | some ⟨_, _, .seq its _, _⟩ => (match its.toList[j]? with
        | some (.ref a) => a
        | _ => 0)
      | _ => 0)
    | _ => 0)
  | _ => 0
def dMd (c : Str) (i j : Nat) (m q : Str) (dv : List He.Dv) : He.DefD := ⟨(c, some m), m, q, defArgs (inClass (top i) j), defBody (inClass (top i) j), defScope (inClass (top i) j), dv, []⟩
/-- the default of a keyword-only parameter, if it is an object -/
def kwdAt (f : Str × Option Str) (x : Str) (K : PySem.W.Frag) : Addr := match K.lookup (He.fAd K f) with
  | some ⟨_, _, .func fd, _⟩ => (match fd.kwdefaults with
    | .ref D => (match PySem.W.nsIn K D x with
      | some (some (.ref a)) => a
      | _ => 0)
    | _ => 0)
  | _ => 0
def dI : He.DefD := ⟨("Book", some "__init__"), "__init__", "Book.__init__", defArgs s_Book_init, defBody s_Book_init, defScope s_Book_init, [], [("needs", .adr (kwdAt ("Book", some "__init__") "needs")), ("wants", .adr (kwdAt ("Book", some "__init__") "wants")), ("bars", .adr (kwdAt ("Book", some "__init__") "bars")), ("gives", .adr (kwdAt ("Book", some "__init__") "gives")), ("prices", .adr (kwdAt ("Book", some "__init__") "prices")), ("reset", .non)]⟩
def fn : List He.DefD := [dG 17 "is_number", dG 18 "is_number_in", dG 19 "is_word", dG 20 "is_one_of", dG 21 "is_ordered", dG 22 "are_unlike", dG 32 "wrong_part", dG 33 "are_rows", dG 34 "is_pair", dG 35 "are_skills", dG 36 "are_needs", dG 37 "is_need", dG 38 "are_wants", dG 39 "is_want", dG 40 "are_others", dG 41 "are_bars", dG 42 "are_told_once", dG 46 "is_build", dG 48 "write_build", dG 49 "read_build", dG 51 "_law_pool", dG 52 "_law_take", dG 53 "_law_one", dG 54 "_law_turned", dG 55 "_law_tree", dG 56 "_law_rows", dG 57 "_law_book", dG 58 "_law_made", dG 59 "_law_names", dG 60 "_law_subsets", dG 61 "_law_caught", dG 62 "law", dM "NoBook" 3 0 "__init__" "NoBook.__init__", dM "NoSkill" 4 0 "__init__" "NoSkill.__init__", dM "NoBuild" 5 0 "__init__" "NoBuild.__init__", dM "NoStep" 6 0 "__init__" "NoStep.__init__", dM "NoPlain" 7 0 "__init__" "NoPlain.__init__", dM "NoNumber" 8 0 "__init__" "NoNumber.__init__", dM "NoWorth" 9 0 "__init__" "NoWorth.__init__", dM "NoSeen" 10 0 "__init__" "NoSeen.__init__", dM "NoKind" 11 0 "__init__" "NoKind.__init__", dM "NothingBack" 12 0 "__init__" "NothingBack.__init__", dM "NoNote" 13 0 "__init__" "NoNote.__init__", dM "Book" 44 1 "skills" "Book.skills", dM "Book" 44 2 "needs" "Book.needs", dM "Book" 44 3 "wants" "Book.wants", dM "Book" 44 4 "bars" "Book.bars", dM "Book" 44 5 "gives" "Book.gives", dM "Book" 44 6 "prices" "Book.prices", dM "Book" 44 9 "names" "Book.names", dM "Book" 44 16 "_must_have" "Book._must_have", dM "Book" 44 17 "__getitem__" "Book.__getitem__", dM "Book" 44 18 "__contains__" "Book.__contains__", dM "Book" 44 19 "__len__" "Book.__len__", dM "Book" 44 20 "__iter__" "Book.__iter__", dM "Book" 44 21 "__eq__" "Book.__eq__", dI]
def fa : List He.Fa := [.glo "is_number", .glo "is_number_in", .glo "is_word", .glo "is_one_of", .glo "is_ordered", .glo "are_unlike", .glo "wrong_part", .glo "are_rows", .glo "is_pair", .glo "are_skills", .glo "are_needs", .glo "is_need", .glo "are_wants", .glo "is_want", .glo "are_others", .glo "are_bars", .glo "are_told_once", .glo "is_build", .glo "write_build", .glo "read_build", .glo "_law_pool", .glo "_law_take", .glo "_law_one", .glo "_law_turned", .glo "_law_tree", .glo "_law_rows", .glo "_law_book", .glo "_law_made", .glo "_law_names", .glo "_law_subsets", .glo "_law_caught", .glo "law", .free "len", .free "isinstance", .free "int", .free "str", .free "bool", .free "list", .free "tuple", .free "dict", .free "set", .free "sorted", .free "all", .free "any", .free "sum", .free "min", .free "max", .free "range", .free "repr", .free "iter", .free "zip", .free "reversed", .free "enumerate", .int "LONGEST_WORD" 8, .int "MOST_SKILLS" 12, .int "LAST_TIER" 4, .int "MOST_POINTS" 12, .int "MOST_NEED" 12, .int "MOST_WANTS" 12, .int "MOST_BARS" 6, .int "MOST_GIVEN" 3, .int "MOST_PRICE" 99, .str "SMALL_LETTERS" "abcdefghijklmnopqrstuvwxyz", .glo "Book", .cls "Book", .mkr "Book", .keep "Book", .noat "Book" "_parts", .noat "Book" "_names", .noat "Book" "_tiers", .noat "Book" "_need_by_tier", .noat "Book" "_given_by_skill", .noat "Book" "_price_by_skill", .meth "Book" "skills", .meth "Book" "needs", .meth "Book" "wants", .meth "Book" "bars", .meth "Book" "gives", .meth "Book" "prices", .meth "Book" "names", .meth "Book" "_must_have", .meth "Book" "__getitem__", .meth "Book" "__contains__", .meth "Book" "__len__", .meth "Book" "__iter__", .meth "Book" "__eq__", .glo "NoBook", .noat "NoBook" "part", .glo "NoSkill", .noat "NoSkill" "skill", .glo "NoBuild", .noat "NoBuild" "build", .glo "NoStep", .noat "NoStep" "step", .glo "NoPlain", .noat "NoPlain" "book", .glo "NoNumber", .noat "NoNumber" "value", .glo "NoWorth", .noat "NoWorth" "worths", .glo "NoSeen", .noat "NoSeen" "seen", .glo "NoKind", .noat "NoKind" "kind", .glo "NothingBack", .noat "NothingBack" "many", .glo "NoNote", .noat "NoNote" "line", .exm "NoBook" "NoBook" true, .exm "NoBook" "NoSkill" false, .exm "NoBook" "NoBuild" false, .exm "NoBook" "NoStep" false, .exm "NoBook" "NoPlain" false, .exm "NoBook" "NoNumber" false, .exm "NoBook" "NoWorth" false, .exm "NoBook" "NoSeen" false, .exm "NoBook" "NoKind" false, .exm "NoBook" "NothingBack" false, .exm "NoBook" "NoNote" false, .exm "NoSkill" "NoBook" false, .exm "NoSkill" "NoSkill" true, .exm "NoSkill" "NoBuild" false, .exm "NoSkill" "NoStep" false, .exm "NoSkill" "NoPlain" false, .exm "NoSkill" "NoNumber" false, .exm "NoSkill" "NoWorth" false, .exm "NoSkill" "NoSeen" false, .exm "NoSkill" "NoKind" false, .exm "NoSkill" "NothingBack" false, .exm "NoSkill" "NoNote" false, .exm "NoBuild" "NoBook" false, .exm "NoBuild" "NoSkill" false, .exm "NoBuild" "NoBuild" true, .exm "NoBuild" "NoStep" false, .exm "NoBuild" "NoPlain" false, .exm "NoBuild" "NoNumber" false, .exm "NoBuild" "NoWorth" false, .exm "NoBuild" "NoSeen" false, .exm "NoBuild" "NoKind" false, .exm "NoBuild" "NothingBack" false, .exm "NoBuild" "NoNote" false, .exm "NoStep" "NoBook" false, .exm "NoStep" "NoSkill" false, .exm "NoStep" "NoBuild" false, .exm "NoStep" "NoStep" true, .exm "NoStep" "NoPlain" false, .exm "NoStep" "NoNumber" false, .exm "NoStep" "NoWorth" false, .exm "NoStep" "NoSeen" false, .exm "NoStep" "NoKind" false, .exm "NoStep" "NothingBack" false, .exm "NoStep" "NoNote" false, .exm "NoPlain" "NoBook" false, .exm "NoPlain" "NoSkill" false, .exm "NoPlain" "NoBuild" false, .exm "NoPlain" "NoStep" false, .exm "NoPlain" "NoPlain" true, .exm "NoPlain" "NoNumber" false, .exm "NoPlain" "NoWorth" false, .exm "NoPlain" "NoSeen" false, .exm "NoPlain" "NoKind" false, .exm "NoPlain" "NothingBack" false, .exm "NoPlain" "NoNote" false, .exm "NoNumber" "NoBook" false, .exm "NoNumber" "NoSkill" false, .exm "NoNumber" "NoBuild" false, .exm "NoNumber" "NoStep" false, .exm "NoNumber" "NoPlain" false, .exm "NoNumber" "NoNumber" true, .exm "NoNumber" "NoWorth" false, .exm "NoNumber" "NoSeen" false, .exm "NoNumber" "NoKind" false, .exm "NoNumber" "NothingBack" false, .exm "NoNumber" "NoNote" false, .exm "NoWorth" "NoBook" false, .exm "NoWorth" "NoSkill" false, .exm "NoWorth" "NoBuild" false, .exm "NoWorth" "NoStep" false, .exm "NoWorth" "NoPlain" false, .exm "NoWorth" "NoNumber" false, .exm "NoWorth" "NoWorth" true, .exm "NoWorth" "NoSeen" false, .exm "NoWorth" "NoKind" false, .exm "NoWorth" "NothingBack" false, .exm "NoWorth" "NoNote" false, .exm "NoSeen" "NoBook" false, .exm "NoSeen" "NoSkill" false, .exm "NoSeen" "NoBuild" false, .exm "NoSeen" "NoStep" false, .exm "NoSeen" "NoPlain" false, .exm "NoSeen" "NoNumber" false, .exm "NoSeen" "NoWorth" false, .exm "NoSeen" "NoSeen" true, .exm "NoSeen" "NoKind" false, .exm "NoSeen" "NothingBack" false, .exm "NoSeen" "NoNote" false, .exm "NoKind" "NoBook" false, .exm "NoKind" "NoSkill" false, .exm "NoKind" "NoBuild" false, .exm "NoKind" "NoStep" false, .exm "NoKind" "NoPlain" false, .exm "NoKind" "NoNumber" false, .exm "NoKind" "NoWorth" false, .exm "NoKind" "NoSeen" false, .exm "NoKind" "NoKind" true, .exm "NoKind" "NothingBack" false, .exm "NoKind" "NoNote" false, .exm "NothingBack" "NoBook" false, .exm "NothingBack" "NoSkill" false, .exm "NothingBack" "NoBuild" false, .exm "NothingBack" "NoStep" false, .exm "NothingBack" "NoPlain" false, .exm "NothingBack" "NoNumber" false, .exm "NothingBack" "NoWorth" false, .exm "NothingBack" "NoSeen" false, .exm "NothingBack" "NoKind" false, .exm "NothingBack" "NothingBack" true, .exm "NothingBack" "NoNote" false, .exm "NoNote" "NoBook" false, .exm "NoNote" "NoSkill" false, .exm "NoNote" "NoBuild" false, .exm "NoNote" "NoStep" false, .exm "NoNote" "NoPlain" false, .exm "NoNote" "NoNumber" false, .exm "NoNote" "NoWorth" false, .exm "NoNote" "NoSeen" false, .exm "NoNote" "NoKind" false, .exm "NoNote" "NothingBack" false, .exm "NoNote" "NoNote" true]
structure All (K : PySem.W.Frag) (mg : Str → Option Value) : Prop where
  s : He.SaysD fa fn K
  hp : ∃ h : Heap, K.In h ∧ h.Ns mainGlobals mg
section
variable {K : PySem.W.Frag} {mg : Str → Option Value}
theorem All.g_is_number (Z : All K mg) : mg "is_number" = some (.ref (He.ga K "is_number")) := let ⟨_, X, G⟩ := Z.hp; He.glo_ok X G (Z.s.fact 0 (f := .glo "is_number") rfl)
theorem All.g_is_number_in (Z : All K mg) : mg "is_number_in" = some (.ref (He.ga K "is_number_in")) := let ⟨_, X, G⟩ := Z.hp; He.glo_ok X G (Z.s.fact 1 (f := .glo "is_number_in") rfl)
theorem All.g_is_word (Z : All K mg) : mg "is_word" = some (.ref (He.ga K "is_word")) := let ⟨_, X, G⟩ := Z.hp; He.glo_ok X G (Z.s.fact 2 (f := .glo "is_word") rfl)
theorem All.g_is_one_of (Z : All K mg) : mg "is_one_of" = some (.ref (He.ga K "is_one_of")) := let ⟨_, X, G⟩ := Z.hp; He.glo_ok X G (Z.s.fact 3 (f := .glo "is_one_of") rfl)
theorem All.g_is_ordered (Z : All K mg) : mg "is_ordered" = some (.ref (He.ga K "is_ordered")) := let ⟨_, X, G⟩ := Z.hp; He.glo_ok X G (Z.s.fact 4 (f := .glo "is_ordered") rfl)
theorem All.g_are_unlike (Z : All K mg) : mg "are_unlike" = some (.ref (He.ga K "are_unlike")) := let ⟨_, X, G⟩ := Z.hp; He.glo_ok X G (Z.s.fact 5 (f := .glo "are_unlike") rfl)
theorem All.g_wrong_part (Z : All K mg) : mg "wrong_part" = some (.ref (He.ga K "wrong_part")) := let ⟨_, X, G⟩ := Z.hp; He.glo_ok X G (Z.s.fact 6 (f := .glo "wrong_part") rfl)
theorem All.g_are_rows (Z : All K mg) : mg "are_rows" = some (.ref (He.ga K "are_rows")) := let ⟨_, X, G⟩ := Z.hp; He.glo_ok X G (Z.s.fact 7 (f := .glo "are_rows") rfl)
theorem All.g_is_pair (Z : All K mg) : mg "is_pair" = some (.ref (He.ga K "is_pair")) := let ⟨_, X, G⟩ := Z.hp; He.glo_ok X G (Z.s.fact 8 (f := .glo "is_pair") rfl)
theorem All.g_are_skills (Z : All K mg) : mg "are_skills" = some (.ref (He.ga K "are_skills")) := let ⟨_, X, G⟩ := Z.hp; He.glo_ok X G (Z.s.fact 9 (f := .glo "are_skills") rfl)
theorem All.g_are_needs (Z : All K mg) : mg "are_needs" = some (.ref (He.ga K "are_needs")) := let ⟨_, X, G⟩ := Z.hp; He.glo_ok X G (Z.s.fact 10 (f := .glo "are_needs") rfl)
theorem All.g_is_need (Z : All K mg) : mg "is_need" = some (.ref (He.ga K "is_need")) := let ⟨_, X, G⟩ := Z.hp; He.glo_ok X G (Z.s.fact 11 (f := .glo "is_need") rfl)
theorem All.g_are_wants (Z : All K mg) : mg "are_wants" = some (.ref (He.ga K "are_wants")) := let ⟨_, X, G⟩ := Z.hp; He.glo_ok X G (Z.s.fact 12 (f := .glo "are_wants") rfl)
theorem All.g_is_want (Z : All K mg) : mg "is_want" = some (.ref (He.ga K "is_want")) := let ⟨_, X, G⟩ := Z.hp; He.glo_ok X G (Z.s.fact 13 (f := .glo "is_want") rfl)
theorem All.g_are_others (Z : All K mg) : mg "are_others" = some (.ref (He.ga K "are_others")) := let ⟨_, X, G⟩ := Z.hp; He.glo_ok X G (Z.s.fact 14 (f := .glo "are_others") rfl)
theorem All.g_are_bars (Z : All K mg) : mg "are_bars" = some (.ref (He.ga K "are_bars")) := let ⟨_, X, G⟩ := Z.hp; He.glo_ok X G (Z.s.fact 15 (f := .glo "are_bars") rfl)
theorem All.g_are_told_once (Z : All K mg) : mg "are_told_once" = some (.ref (He.ga K "are_told_once")) := let ⟨_, X, G⟩ := Z.hp; He.glo_ok X G (Z.s.fact 16 (f := .glo "are_told_once") rfl)
theorem All.g_is_build (Z : All K mg) : mg "is_build" = some (.ref (He.ga K "is_build")) := let ⟨_, X, G⟩ := Z.hp; He.glo_ok X G (Z.s.fact 17 (f := .glo "is_build") rfl)
theorem All.g_write_build (Z : All K mg) : mg "write_build" = some (.ref (He.ga K "write_build")) := let ⟨_, X, G⟩ := Z.hp; He.glo_ok X G (Z.s.fact 18 (f := .glo "write_build") rfl)
theorem All.g_read_build (Z : All K mg) : mg "read_build" = some (.ref (He.ga K "read_build")) := let ⟨_, X, G⟩ := Z.hp; He.glo_ok X G (Z.s.fact 19 (f := .glo "read_build") rfl)
theorem All.g_law_pool (Z : All K mg) : mg "_law_pool" = some (.ref (He.ga K "_law_pool")) := let ⟨_, X, G⟩ := Z.hp; He.glo_ok X G (Z.s.fact 20 (f := .glo "_law_pool") rfl)
theorem All.g_law_take (Z : All K mg) : mg "_law_take" = some (.ref (He.ga K "_law_take")) := let ⟨_, X, G⟩ := Z.hp; He.glo_ok X G (Z.s.fact 21 (f := .glo "_law_take") rfl)
theorem All.g_law_one (Z : All K mg) : mg "_law_one" = some (.ref (He.ga K "_law_one")) := let ⟨_, X, G⟩ := Z.hp; He.glo_ok X G (Z.s.fact 22 (f := .glo "_law_one") rfl)
theorem All.g_law_turned (Z : All K mg) : mg "_law_turned" = some (.ref (He.ga K "_law_turned")) := let ⟨_, X, G⟩ := Z.hp; He.glo_ok X G (Z.s.fact 23 (f := .glo "_law_turned") rfl)
theorem All.g_law_tree (Z : All K mg) : mg "_law_tree" = some (.ref (He.ga K "_law_tree")) := let ⟨_, X, G⟩ := Z.hp; He.glo_ok X G (Z.s.fact 24 (f := .glo "_law_tree") rfl)
theorem All.g_law_rows (Z : All K mg) : mg "_law_rows" = some (.ref (He.ga K "_law_rows")) := let ⟨_, X, G⟩ := Z.hp; He.glo_ok X G (Z.s.fact 25 (f := .glo "_law_rows") rfl)
theorem All.g_law_book (Z : All K mg) : mg "_law_book" = some (.ref (He.ga K "_law_book")) := let ⟨_, X, G⟩ := Z.hp; He.glo_ok X G (Z.s.fact 26 (f := .glo "_law_book") rfl)
theorem All.g_law_made (Z : All K mg) : mg "_law_made" = some (.ref (He.ga K "_law_made")) := let ⟨_, X, G⟩ := Z.hp; He.glo_ok X G (Z.s.fact 27 (f := .glo "_law_made") rfl)
theorem All.g_law_names (Z : All K mg) : mg "_law_names" = some (.ref (He.ga K "_law_names")) := let ⟨_, X, G⟩ := Z.hp; He.glo_ok X G (Z.s.fact 28 (f := .glo "_law_names") rfl)
theorem All.g_law_subsets (Z : All K mg) : mg "_law_subsets" = some (.ref (He.ga K "_law_subsets")) := let ⟨_, X, G⟩ := Z.hp; He.glo_ok X G (Z.s.fact 29 (f := .glo "_law_subsets") rfl)
theorem All.g_law_caught (Z : All K mg) : mg "_law_caught" = some (.ref (He.ga K "_law_caught")) := let ⟨_, X, G⟩ := Z.hp; He.glo_ok X G (Z.s.fact 30 (f := .glo "_law_caught") rfl)
theorem All.g_law (Z : All K mg) : mg "law" = some (.ref (He.ga K "law")) := let ⟨_, X, G⟩ := Z.hp; He.glo_ok X G (Z.s.fact 31 (f := .glo "law") rfl)
theorem All.b_len (Z : All K mg) : mg "len" = none := let ⟨_, X, G⟩ := Z.hp; He.free_ok X G (Z.s.fact 32 (f := .free "len") rfl)
theorem All.b_isinstance (Z : All K mg) : mg "isinstance" = none := let ⟨_, X, G⟩ := Z.hp; He.free_ok X G (Z.s.fact 33 (f := .free "isinstance") rfl)
theorem All.b_int (Z : All K mg) : mg "int" = none := let ⟨_, X, G⟩ := Z.hp; He.free_ok X G (Z.s.fact 34 (f := .free "int") rfl)
theorem All.b_str (Z : All K mg) : mg "str" = none := let ⟨_, X, G⟩ := Z.hp; He.free_ok X G (Z.s.fact 35 (f := .free "str") rfl)
theorem All.b_bool (Z : All K mg) : mg "bool" = none := let ⟨_, X, G⟩ := Z.hp; He.free_ok X G (Z.s.fact 36 (f := .free "bool") rfl)
theorem All.b_list (Z : All K mg) : mg "list" = none := let ⟨_, X, G⟩ := Z.hp; He.free_ok X G (Z.s.fact 37 (f := .free "list") rfl)
theorem All.b_tuple (Z : All K mg) : mg "tuple" = none := let ⟨_, X, G⟩ := Z.hp; He.free_ok X G (Z.s.fact 38 (f := .free "tuple") rfl)
theorem All.b_dict (Z : All K mg) : mg "dict" = none := let ⟨_, X, G⟩ := Z.hp; He.free_ok X G (Z.s.fact 39 (f := .free "dict") rfl)
theorem All.b_set (Z : All K mg) : mg "set" = none := let ⟨_, X, G⟩ := Z.hp; He.free_ok X G (Z.s.fact 40 (f := .free "set") rfl)
theorem All.b_sorted (Z : All K mg) : mg "sorted" = none := let ⟨_, X, G⟩ := Z.hp; He.free_ok X G (Z.s.fact 41 (f := .free "sorted") rfl)
theorem All.b_all (Z : All K mg) : mg "all" = none := let ⟨_, X, G⟩ := Z.hp; He.free_ok X G (Z.s.fact 42 (f := .free "all") rfl)
theorem All.b_any (Z : All K mg) : mg "any" = none := let ⟨_, X, G⟩ := Z.hp; He.free_ok X G (Z.s.fact 43 (f := .free "any") rfl)
theorem All.b_sum (Z : All K mg) : mg "sum" = none := let ⟨_, X, G⟩ := Z.hp; He.free_ok X G (Z.s.fact 44 (f := .free "sum") rfl)
theorem All.b_min (Z : All K mg) : mg "min" = none := let ⟨_, X, G⟩ := Z.hp; He.free_ok X G (Z.s.fact 45 (f := .free "min") rfl)
theorem All.b_max (Z : All K mg) : mg "max" = none := let ⟨_, X, G⟩ := Z.hp; He.free_ok X G (Z.s.fact 46 (f := .free "max") rfl)
theorem All.b_range (Z : All K mg) : mg "range" = none := let ⟨_, X, G⟩ := Z.hp; He.free_ok X G (Z.s.fact 47 (f := .free "range") rfl)
theorem All.b_repr (Z : All K mg) : mg "repr" = none := let ⟨_, X, G⟩ := Z.hp; He.free_ok X G (Z.s.fact 48 (f := .free "repr") rfl)
theorem All.b_iter (Z : All K mg) : mg "iter" = none := let ⟨_, X, G⟩ := Z.hp; He.free_ok X G (Z.s.fact 49 (f := .free "iter") rfl)
theorem All.b_zip (Z : All K mg) : mg "zip" = none := let ⟨_, X, G⟩ := Z.hp; He.free_ok X G (Z.s.fact 50 (f := .free "zip") rfl)
theorem All.b_reversed (Z : All K mg) : mg "reversed" = none := let ⟨_, X, G⟩ := Z.hp; He.free_ok X G (Z.s.fact 51 (f := .free "reversed") rfl)
theorem All.b_enumerate (Z : All K mg) : mg "enumerate" = none := let ⟨_, X, G⟩ := Z.hp; He.free_ok X G (Z.s.fact 52 (f := .free "enumerate") rfl)
theorem All.LONGEST_WORD (Z : All K mg) : ∃ t, mg "LONGEST_WORD" = some (.int 8 t) := let ⟨_, X, G⟩ := Z.hp; He.int_ok X G (Z.s.fact 53 (f := .int "LONGEST_WORD" 8) rfl)
theorem All.MOST_SKILLS (Z : All K mg) : ∃ t, mg "MOST_SKILLS" = some (.int 12 t) := let ⟨_, X, G⟩ := Z.hp; He.int_ok X G (Z.s.fact 54 (f := .int "MOST_SKILLS" 12) rfl)
theorem All.LAST_TIER (Z : All K mg) : ∃ t, mg "LAST_TIER" = some (.int 4 t) := let ⟨_, X, G⟩ := Z.hp; He.int_ok X G (Z.s.fact 55 (f := .int "LAST_TIER" 4) rfl)
theorem All.MOST_POINTS (Z : All K mg) : ∃ t, mg "MOST_POINTS" = some (.int 12 t) := let ⟨_, X, G⟩ := Z.hp; He.int_ok X G (Z.s.fact 56 (f := .int "MOST_POINTS" 12) rfl)
theorem All.MOST_NEED (Z : All K mg) : ∃ t, mg "MOST_NEED" = some (.int 12 t) := let ⟨_, X, G⟩ := Z.hp; He.int_ok X G (Z.s.fact 57 (f := .int "MOST_NEED" 12) rfl)
theorem All.MOST_WANTS (Z : All K mg) : ∃ t, mg "MOST_WANTS" = some (.int 12 t) := let ⟨_, X, G⟩ := Z.hp; He.int_ok X G (Z.s.fact 58 (f := .int "MOST_WANTS" 12) rfl)
theorem All.MOST_BARS (Z : All K mg) : ∃ t, mg "MOST_BARS" = some (.int 6 t) := let ⟨_, X, G⟩ := Z.hp; He.int_ok X G (Z.s.fact 59 (f := .int "MOST_BARS" 6) rfl)
theorem All.MOST_GIVEN (Z : All K mg) : ∃ t, mg "MOST_GIVEN" = some (.int 3 t) := let ⟨_, X, G⟩ := Z.hp; He.int_ok X G (Z.s.fact 60 (f := .int "MOST_GIVEN" 3) rfl)
theorem All.MOST_PRICE (Z : All K mg) : ∃ t, mg "MOST_PRICE" = some (.int 99 t) := let ⟨_, X, G⟩ := Z.hp; He.int_ok X G (Z.s.fact 61 (f := .int "MOST_PRICE" 99) rfl)
theorem All.SMALL_LETTERS (Z : All K mg) : ∃ t, mg "SMALL_LETTERS" = some (.str "abcdefghijklmnopqrstuvwxyz" t) := let ⟨_, X, G⟩ := Z.hp; He.str_ok X G (Z.s.fact 62 (f := .str "SMALL_LETTERS" "abcdefghijklmnopqrstuvwxyz") rfl)
theorem All.f_is_number (Z : All K mg) : ∃ fd, FunD K "is_number" "is_number" (defArgs s_is_number) (defBody s_is_number) (defScope s_is_number) [] [] (He.ga K "is_number") fd := Z.s.def_ 0 (d := dG 17 "is_number") rfl
theorem All.f_is_number_in (Z : All K mg) : ∃ fd, FunD K "is_number_in" "is_number_in" (defArgs s_is_number_in) (defBody s_is_number_in) (defScope s_is_number_in) [] [] (He.ga K "is_number_in") fd := Z.s.def_ 1 (d := dG 18 "is_number_in") rfl
theorem All.f_is_word (Z : All K mg) : ∃ fd, FunD K "is_word" "is_word" (defArgs s_is_word) (defBody s_is_word) (defScope s_is_word) [] [] (He.ga K "is_word") fd := Z.s.def_ 2 (d := dG 19 "is_word") rfl
theorem All.f_is_one_of (Z : All K mg) : ∃ fd, FunD K "is_one_of" "is_one_of" (defArgs s_is_one_of) (defBody s_is_one_of) (defScope s_is_one_of) [] [] (He.ga K "is_one_of") fd := Z.s.def_ 3 (d := dG 20 "is_one_of") rfl
theorem All.f_is_ordered (Z : All K mg) : ∃ fd, FunD K "is_ordered" "is_ordered" (defArgs s_is_ordered) (defBody s_is_ordered) (defScope s_is_ordered) [] [] (He.ga K "is_ordered") fd := Z.s.def_ 4 (d := dG 21 "is_ordered") rfl
theorem All.f_are_unlike (Z : All K mg) : ∃ fd, FunD K "are_unlike" "are_unlike" (defArgs s_are_unlike) (defBody s_are_unlike) (defScope s_are_unlike) [] [] (He.ga K "are_unlike") fd := Z.s.def_ 5 (d := dG 22 "are_unlike") rfl
theorem All.f_wrong_part (Z : All K mg) : ∃ fd, FunD K "wrong_part" "wrong_part" (defArgs s_wrong_part) (defBody s_wrong_part) (defScope s_wrong_part) [] [] (He.ga K "wrong_part") fd := Z.s.def_ 6 (d := dG 32 "wrong_part") rfl
theorem All.f_are_rows (Z : All K mg) : ∃ fd, FunD K "are_rows" "are_rows" (defArgs s_are_rows) (defBody s_are_rows) (defScope s_are_rows) [] [] (He.ga K "are_rows") fd := Z.s.def_ 7 (d := dG 33 "are_rows") rfl
theorem All.f_is_pair (Z : All K mg) : ∃ fd, FunD K "is_pair" "is_pair" (defArgs s_is_pair) (defBody s_is_pair) (defScope s_is_pair) [] [] (He.ga K "is_pair") fd := Z.s.def_ 8 (d := dG 34 "is_pair") rfl
theorem All.f_are_skills (Z : All K mg) : ∃ fd, FunD K "are_skills" "are_skills" (defArgs s_are_skills) (defBody s_are_skills) (defScope s_are_skills) [] [] (He.ga K "are_skills") fd := Z.s.def_ 9 (d := dG 35 "are_skills") rfl
theorem All.f_are_needs (Z : All K mg) : ∃ fd, FunD K "are_needs" "are_needs" (defArgs s_are_needs) (defBody s_are_needs) (defScope s_are_needs) [] [] (He.ga K "are_needs") fd := Z.s.def_ 10 (d := dG 36 "are_needs") rfl
theorem All.f_is_need (Z : All K mg) : ∃ fd, FunD K "is_need" "is_need" (defArgs s_is_need) (defBody s_is_need) (defScope s_is_need) [] [] (He.ga K "is_need") fd := Z.s.def_ 11 (d := dG 37 "is_need") rfl
theorem All.f_are_wants (Z : All K mg) : ∃ fd, FunD K "are_wants" "are_wants" (defArgs s_are_wants) (defBody s_are_wants) (defScope s_are_wants) [] [] (He.ga K "are_wants") fd := Z.s.def_ 12 (d := dG 38 "are_wants") rfl
theorem All.f_is_want (Z : All K mg) : ∃ fd, FunD K "is_want" "is_want" (defArgs s_is_want) (defBody s_is_want) (defScope s_is_want) [] [] (He.ga K "is_want") fd := Z.s.def_ 13 (d := dG 39 "is_want") rfl
theorem All.f_are_others (Z : All K mg) : ∃ fd, FunD K "are_others" "are_others" (defArgs s_are_others) (defBody s_are_others) (defScope s_are_others) [] [] (He.ga K "are_others") fd := Z.s.def_ 14 (d := dG 40 "are_others") rfl
theorem All.f_are_bars (Z : All K mg) : ∃ fd, FunD K "are_bars" "are_bars" (defArgs s_are_bars) (defBody s_are_bars) (defScope s_are_bars) [] [] (He.ga K "are_bars") fd := Z.s.def_ 15 (d := dG 41 "are_bars") rfl
theorem All.f_are_told_once (Z : All K mg) : ∃ fd, FunD K "are_told_once" "are_told_once" (defArgs s_are_told_once) (defBody s_are_told_once) (defScope s_are_told_once) [] [] (He.ga K "are_told_once") fd := Z.s.def_ 16 (d := dG 42 "are_told_once") rfl
theorem All.f_is_build (Z : All K mg) : ∃ fd, FunD K "is_build" "is_build" (defArgs s_is_build) (defBody s_is_build) (defScope s_is_build) [] [] (He.ga K "is_build") fd := Z.s.def_ 17 (d := dG 46 "is_build") rfl
theorem All.f_write_build (Z : All K mg) : ∃ fd, FunD K "write_build" "write_build" (defArgs s_write_build) (defBody s_write_build) (defScope s_write_build) [] [] (He.ga K "write_build") fd := Z.s.def_ 18 (d := dG 48 "write_build") rfl
theorem All.f_read_build (Z : All K mg) : ∃ fd, FunD K "read_build" "read_build" (defArgs s_read_build) (defBody s_read_build) (defScope s_read_build) [] [] (He.ga K "read_build") fd := Z.s.def_ 19 (d := dG 49 "read_build") rfl
theorem All.f_law_pool (Z : All K mg) : ∃ fd, FunD K "_law_pool" "_law_pool" (defArgs s_law_pool) (defBody s_law_pool) (defScope s_law_pool) [] [] (He.ga K "_law_pool") fd := Z.s.def_ 20 (d := dG 51 "_law_pool") rfl
theorem All.f_law_take (Z : All K mg) : ∃ fd, FunD K "_law_take" "_law_take" (defArgs s_law_take) (defBody s_law_take) (defScope s_law_take) [] [] (He.ga K "_law_take") fd := Z.s.def_ 21 (d := dG 52 "_law_take") rfl
theorem All.f_law_one (Z : All K mg) : ∃ fd, FunD K "_law_one" "_law_one" (defArgs s_law_one) (defBody s_law_one) (defScope s_law_one) [] [] (He.ga K "_law_one") fd := Z.s.def_ 22 (d := dG 53 "_law_one") rfl
theorem All.f_law_turned (Z : All K mg) : ∃ fd, FunD K "_law_turned" "_law_turned" (defArgs s_law_turned) (defBody s_law_turned) (defScope s_law_turned) [] [] (He.ga K "_law_turned") fd := Z.s.def_ 23 (d := dG 54 "_law_turned") rfl
theorem All.f_law_tree (Z : All K mg) : ∃ fd, FunD K "_law_tree" "_law_tree" (defArgs s_law_tree) (defBody s_law_tree) (defScope s_law_tree) [] [] (He.ga K "_law_tree") fd := Z.s.def_ 24 (d := dG 55 "_law_tree") rfl
theorem All.f_law_rows (Z : All K mg) : ∃ fd, FunD K "_law_rows" "_law_rows" (defArgs s_law_rows) (defBody s_law_rows) (defScope s_law_rows) [] [] (He.ga K "_law_rows") fd := Z.s.def_ 25 (d := dG 56 "_law_rows") rfl
theorem All.f_law_book (Z : All K mg) : ∃ fd, FunD K "_law_book" "_law_book" (defArgs s_law_book) (defBody s_law_book) (defScope s_law_book) [] [] (He.ga K "_law_book") fd := Z.s.def_ 26 (d := dG 57 "_law_book") rfl
theorem All.f_law_made (Z : All K mg) : ∃ fd, FunD K "_law_made" "_law_made" (defArgs s_law_made) (defBody s_law_made) (defScope s_law_made) [] [] (He.ga K "_law_made") fd := Z.s.def_ 27 (d := dG 58 "_law_made") rfl
theorem All.f_law_names (Z : All K mg) : ∃ fd, FunD K "_law_names" "_law_names" (defArgs s_law_names) (defBody s_law_names) (defScope s_law_names) [] [] (He.ga K "_law_names") fd := Z.s.def_ 28 (d := dG 59 "_law_names") rfl
theorem All.f_law_subsets (Z : All K mg) : ∃ fd, FunD K "_law_subsets" "_law_subsets" (defArgs s_law_subsets) (defBody s_law_subsets) (defScope s_law_subsets) [] [] (He.ga K "_law_subsets") fd := Z.s.def_ 29 (d := dG 60 "_law_subsets") rfl
theorem All.f_law_caught (Z : All K mg) : ∃ fd, FunD K "_law_caught" "_law_caught" (defArgs s_law_caught) (defBody s_law_caught) (defScope s_law_caught) [] [] (He.ga K "_law_caught") fd := Z.s.def_ 30 (d := dG 61 "_law_caught") rfl
theorem All.f_law (Z : All K mg) : ∃ fd, FunD K "law" "law" (defArgs s_law) (defBody s_law) (defScope s_law) [] [] (He.ga K "law") fd := Z.s.def_ 31 (d := dG 62 "law") rfl
theorem All.g_Book (Z : All K mg) : mg "Book" = some (.ref (He.ga K "Book")) := let ⟨_, X, G⟩ := Z.hp; He.glo_ok X G (Z.s.fact 63 (f := .glo "Book") rfl)
theorem All.c_Book (Z : All K mg) : Cls K (He.ga K "Book") := He.cls_ok (Z.s.fact 64 (f := .cls "Book") rfl)
theorem All.k_Book (Z : All K mg) : Mk K (He.ga K "Book") (He.ma K (He.ga K "Book") "__init__") := He.mkr_ok (Z.s.fact 65 (f := .mkr "Book") rfl)
theorem All.n_parts (Z : All K mg) : NoAttr K (He.ga K "Book") "_parts" := He.noat_ok (Z.s.fact 67 (f := .noat "Book" "_parts") rfl)
theorem All.n_names (Z : All K mg) : NoAttr K (He.ga K "Book") "_names" := He.noat_ok (Z.s.fact 68 (f := .noat "Book" "_names") rfl)
theorem All.n_tiers (Z : All K mg) : NoAttr K (He.ga K "Book") "_tiers" := He.noat_ok (Z.s.fact 69 (f := .noat "Book" "_tiers") rfl)
theorem All.n_need_by_tier (Z : All K mg) : NoAttr K (He.ga K "Book") "_need_by_tier" := He.noat_ok (Z.s.fact 70 (f := .noat "Book" "_need_by_tier") rfl)
theorem All.n_given_by_skill (Z : All K mg) : NoAttr K (He.ga K "Book") "_given_by_skill" := He.noat_ok (Z.s.fact 71 (f := .noat "Book" "_given_by_skill") rfl)
theorem All.n_price_by_skill (Z : All K mg) : NoAttr K (He.ga K "Book") "_price_by_skill" := He.noat_ok (Z.s.fact 72 (f := .noat "Book" "_price_by_skill") rfl)
theorem All.m_skills (Z : All K mg) : Meth K (He.ga K "Book") "skills" (He.ma K (He.ga K "Book") "skills") := He.meth_ok (Z.s.fact 73 (f := .meth "Book" "skills") rfl)
theorem All.m_needs (Z : All K mg) : Meth K (He.ga K "Book") "needs" (He.ma K (He.ga K "Book") "needs") := He.meth_ok (Z.s.fact 74 (f := .meth "Book" "needs") rfl)
theorem All.m_wants (Z : All K mg) : Meth K (He.ga K "Book") "wants" (He.ma K (He.ga K "Book") "wants") := He.meth_ok (Z.s.fact 75 (f := .meth "Book" "wants") rfl)
theorem All.m_bars (Z : All K mg) : Meth K (He.ga K "Book") "bars" (He.ma K (He.ga K "Book") "bars") := He.meth_ok (Z.s.fact 76 (f := .meth "Book" "bars") rfl)
theorem All.m_gives (Z : All K mg) : Meth K (He.ga K "Book") "gives" (He.ma K (He.ga K "Book") "gives") := He.meth_ok (Z.s.fact 77 (f := .meth "Book" "gives") rfl)
theorem All.m_prices (Z : All K mg) : Meth K (He.ga K "Book") "prices" (He.ma K (He.ga K "Book") "prices") := He.meth_ok (Z.s.fact 78 (f := .meth "Book" "prices") rfl)
theorem All.m_names (Z : All K mg) : Meth K (He.ga K "Book") "names" (He.ma K (He.ga K "Book") "names") := He.meth_ok (Z.s.fact 79 (f := .meth "Book" "names") rfl)
theorem All.m_must_have (Z : All K mg) : Meth K (He.ga K "Book") "_must_have" (He.ma K (He.ga K "Book") "_must_have") := He.meth_ok (Z.s.fact 80 (f := .meth "Book" "_must_have") rfl)
theorem All.m_getitem (Z : All K mg) : Meth K (He.ga K "Book") "__getitem__" (He.ma K (He.ga K "Book") "__getitem__") := He.meth_ok (Z.s.fact 81 (f := .meth "Book" "__getitem__") rfl)
theorem All.m_contains (Z : All K mg) : Meth K (He.ga K "Book") "__contains__" (He.ma K (He.ga K "Book") "__contains__") := He.meth_ok (Z.s.fact 82 (f := .meth "Book" "__contains__") rfl)
theorem All.m_len (Z : All K mg) : Meth K (He.ga K "Book") "__len__" (He.ma K (He.ga K "Book") "__len__") := He.meth_ok (Z.s.fact 83 (f := .meth "Book" "__len__") rfl)
theorem All.m_iter (Z : All K mg) : Meth K (He.ga K "Book") "__iter__" (He.ma K (He.ga K "Book") "__iter__") := He.meth_ok (Z.s.fact 84 (f := .meth "Book" "__iter__") rfl)
theorem All.m_eq (Z : All K mg) : Meth K (He.ga K "Book") "__eq__" (He.ma K (He.ga K "Book") "__eq__") := He.meth_ok (Z.s.fact 85 (f := .meth "Book" "__eq__") rfl)
theorem All.f_Book_skills (Z : All K mg) : ∃ fd, FunD K "skills" "Book.skills" (defArgs s_Book_skills) (defBody s_Book_skills) (defScope s_Book_skills) [] [] (He.fAd K ("Book", some "skills")) fd := Z.s.def_ 43 (d := dM "Book" 44 1 "skills" "Book.skills") rfl
theorem All.f_Book_needs (Z : All K mg) : ∃ fd, FunD K "needs" "Book.needs" (defArgs s_Book_needs) (defBody s_Book_needs) (defScope s_Book_needs) [] [] (He.fAd K ("Book", some "needs")) fd := Z.s.def_ 44 (d := dM "Book" 44 2 "needs" "Book.needs") rfl
theorem All.f_Book_wants (Z : All K mg) : ∃ fd, FunD K "wants" "Book.wants" (defArgs s_Book_wants) (defBody s_Book_wants) (defScope s_Book_wants) [] [] (He.fAd K ("Book", some "wants")) fd := Z.s.def_ 45 (d := dM "Book" 44 3 "wants" "Book.wants") rfl
theorem All.f_Book_bars (Z : All K mg) : ∃ fd, FunD K "bars" "Book.bars" (defArgs s_Book_bars) (defBody s_Book_bars) (defScope s_Book_bars) [] [] (He.fAd K ("Book", some "bars")) fd := Z.s.def_ 46 (d := dM "Book" 44 4 "bars" "Book.bars") rfl
theorem All.f_Book_gives (Z : All K mg) : ∃ fd, FunD K "gives" "Book.gives" (defArgs s_Book_gives) (defBody s_Book_gives) (defScope s_Book_gives) [] [] (He.fAd K ("Book", some "gives")) fd := Z.s.def_ 47 (d := dM "Book" 44 5 "gives" "Book.gives") rfl
theorem All.f_Book_prices (Z : All K mg) : ∃ fd, FunD K "prices" "Book.prices" (defArgs s_Book_prices) (defBody s_Book_prices) (defScope s_Book_prices) [] [] (He.fAd K ("Book", some "prices")) fd := Z.s.def_ 48 (d := dM "Book" 44 6 "prices" "Book.prices") rfl
theorem All.f_Book_names (Z : All K mg) : ∃ fd, FunD K "names" "Book.names" (defArgs s_Book_names) (defBody s_Book_names) (defScope s_Book_names) [] [] (He.fAd K ("Book", some "names")) fd := Z.s.def_ 49 (d := dM "Book" 44 9 "names" "Book.names") rfl
theorem All.f_Book_must_have (Z : All K mg) : ∃ fd, FunD K "_must_have" "Book._must_have" (defArgs s_Book_must_have) (defBody s_Book_must_have) (defScope s_Book_must_have) [] [] (He.fAd K ("Book", some "_must_have")) fd := Z.s.def_ 50 (d := dM "Book" 44 16 "_must_have" "Book._must_have") rfl
theorem All.f_Book_getitem (Z : All K mg) : ∃ fd, FunD K "__getitem__" "Book.__getitem__" (defArgs s_Book_getitem) (defBody s_Book_getitem) (defScope s_Book_getitem) [] [] (He.fAd K ("Book", some "__getitem__")) fd := Z.s.def_ 51 (d := dM "Book" 44 17 "__getitem__" "Book.__getitem__") rfl
theorem All.f_Book_contains (Z : All K mg) : ∃ fd, FunD K "__contains__" "Book.__contains__" (defArgs s_Book_contains) (defBody s_Book_contains) (defScope s_Book_contains) [] [] (He.fAd K ("Book", some "__contains__")) fd := Z.s.def_ 52 (d := dM "Book" 44 18 "__contains__" "Book.__contains__") rfl
theorem All.f_Book_len (Z : All K mg) : ∃ fd, FunD K "__len__" "Book.__len__" (defArgs s_Book_len) (defBody s_Book_len) (defScope s_Book_len) [] [] (He.fAd K ("Book", some "__len__")) fd := Z.s.def_ 53 (d := dM "Book" 44 19 "__len__" "Book.__len__") rfl
theorem All.f_Book_iter (Z : All K mg) : ∃ fd, FunD K "__iter__" "Book.__iter__" (defArgs s_Book_iter) (defBody s_Book_iter) (defScope s_Book_iter) [] [] (He.fAd K ("Book", some "__iter__")) fd := Z.s.def_ 54 (d := dM "Book" 44 20 "__iter__" "Book.__iter__") rfl
theorem All.f_Book_eq (Z : All K mg) : ∃ fd, FunD K "__eq__" "Book.__eq__" (defArgs s_Book_eq) (defBody s_Book_eq) (defScope s_Book_eq) [] [] (He.fAd K ("Book", some "__eq__")) fd := Z.s.def_ 55 (d := dM "Book" 44 21 "__eq__" "Book.__eq__") rfl
theorem All.f_Book_init (Z : All K mg) : ∃ fd, FunD K "__init__" "Book.__init__" (defArgs s_Book_init) (defBody s_Book_init) (defScope s_Book_init) [] (dI.kws K) (He.fAd K ("Book", some "__init__")) fd := Z.s.def_ 56 (d := dI) rfl
theorem All.f_NoBook_init (Z : All K mg) : ∃ fd, FunD K "__init__" "NoBook.__init__" (defArgs s_NoBook_init) (defBody s_NoBook_init) (defScope s_NoBook_init) [] [] (He.fAd K ("NoBook", some "__init__")) fd := Z.s.def_ 32 (d := dM "NoBook" 3 0 "__init__" "NoBook.__init__") rfl
theorem All.g_NoBook (Z : All K mg) : mg "NoBook" = some (.ref (He.ga K "NoBook")) := let ⟨_, X, G⟩ := Z.hp; He.glo_ok X G (Z.s.fact 86 (f := .glo "NoBook") rfl)
theorem All.n_NoBook (Z : All K mg) : NoAttr K (He.ga K "NoBook") "part" := He.noat_ok (Z.s.fact 87 (f := .noat "NoBook" "part") rfl)
theorem All.x_NoBook_NoBook (Z : All K mg) : PySem.W.exmOne K (.ref (He.ga K "NoBook")) (.ref (He.ga K "NoBook")) = some true := He.exm_ok (Z.s.fact 108 (f := .exm "NoBook" "NoBook" true) rfl)
theorem All.x_NoBook_NoSkill (Z : All K mg) : PySem.W.exmOne K (.ref (He.ga K "NoBook")) (.ref (He.ga K "NoSkill")) = some false := He.exm_ok (Z.s.fact 109 (f := .exm "NoBook" "NoSkill" false) rfl)
theorem All.x_NoBook_NoBuild (Z : All K mg) : PySem.W.exmOne K (.ref (He.ga K "NoBook")) (.ref (He.ga K "NoBuild")) = some false := He.exm_ok (Z.s.fact 110 (f := .exm "NoBook" "NoBuild" false) rfl)
theorem All.x_NoBook_NoStep (Z : All K mg) : PySem.W.exmOne K (.ref (He.ga K "NoBook")) (.ref (He.ga K "NoStep")) = some false := He.exm_ok (Z.s.fact 111 (f := .exm "NoBook" "NoStep" false) rfl)
theorem All.x_NoBook_NoPlain (Z : All K mg) : PySem.W.exmOne K (.ref (He.ga K "NoBook")) (.ref (He.ga K "NoPlain")) = some false := He.exm_ok (Z.s.fact 112 (f := .exm "NoBook" "NoPlain" false) rfl)
theorem All.x_NoBook_NoNumber (Z : All K mg) : PySem.W.exmOne K (.ref (He.ga K "NoBook")) (.ref (He.ga K "NoNumber")) = some false := He.exm_ok (Z.s.fact 113 (f := .exm "NoBook" "NoNumber" false) rfl)
theorem All.x_NoBook_NoWorth (Z : All K mg) : PySem.W.exmOne K (.ref (He.ga K "NoBook")) (.ref (He.ga K "NoWorth")) = some false := He.exm_ok (Z.s.fact 114 (f := .exm "NoBook" "NoWorth" false) rfl)
theorem All.x_NoBook_NoSeen (Z : All K mg) : PySem.W.exmOne K (.ref (He.ga K "NoBook")) (.ref (He.ga K "NoSeen")) = some false := He.exm_ok (Z.s.fact 115 (f := .exm "NoBook" "NoSeen" false) rfl)
theorem All.x_NoBook_NoKind (Z : All K mg) : PySem.W.exmOne K (.ref (He.ga K "NoBook")) (.ref (He.ga K "NoKind")) = some false := He.exm_ok (Z.s.fact 116 (f := .exm "NoBook" "NoKind" false) rfl)
theorem All.x_NoBook_NothingBack (Z : All K mg) : PySem.W.exmOne K (.ref (He.ga K "NoBook")) (.ref (He.ga K "NothingBack")) = some false := He.exm_ok (Z.s.fact 117 (f := .exm "NoBook" "NothingBack" false) rfl)
theorem All.x_NoBook_NoNote (Z : All K mg) : PySem.W.exmOne K (.ref (He.ga K "NoBook")) (.ref (He.ga K "NoNote")) = some false := He.exm_ok (Z.s.fact 118 (f := .exm "NoBook" "NoNote" false) rfl)
theorem All.f_NoSkill_init (Z : All K mg) : ∃ fd, FunD K "__init__" "NoSkill.__init__" (defArgs s_NoSkill_init) (defBody s_NoSkill_init) (defScope s_NoSkill_init) [] [] (He.fAd K ("NoSkill", some "__init__")) fd := Z.s.def_ 33 (d := dM "NoSkill" 4 0 "__init__" "NoSkill.__init__") rfl
theorem All.g_NoSkill (Z : All K mg) : mg "NoSkill" = some (.ref (He.ga K "NoSkill")) := let ⟨_, X, G⟩ := Z.hp; He.glo_ok X G (Z.s.fact 88 (f := .glo "NoSkill") rfl)
theorem All.n_NoSkill (Z : All K mg) : NoAttr K (He.ga K "NoSkill") "skill" := He.noat_ok (Z.s.fact 89 (f := .noat "NoSkill" "skill") rfl)
theorem All.x_NoSkill_NoBook (Z : All K mg) : PySem.W.exmOne K (.ref (He.ga K "NoSkill")) (.ref (He.ga K "NoBook")) = some false := He.exm_ok (Z.s.fact 119 (f := .exm "NoSkill" "NoBook" false) rfl)
theorem All.x_NoSkill_NoSkill (Z : All K mg) : PySem.W.exmOne K (.ref (He.ga K "NoSkill")) (.ref (He.ga K "NoSkill")) = some true := He.exm_ok (Z.s.fact 120 (f := .exm "NoSkill" "NoSkill" true) rfl)
theorem All.x_NoSkill_NoBuild (Z : All K mg) : PySem.W.exmOne K (.ref (He.ga K "NoSkill")) (.ref (He.ga K "NoBuild")) = some false := He.exm_ok (Z.s.fact 121 (f := .exm "NoSkill" "NoBuild" false) rfl)
theorem All.x_NoSkill_NoStep (Z : All K mg) : PySem.W.exmOne K (.ref (He.ga K "NoSkill")) (.ref (He.ga K "NoStep")) = some false := He.exm_ok (Z.s.fact 122 (f := .exm "NoSkill" "NoStep" false) rfl)
theorem All.x_NoSkill_NoPlain (Z : All K mg) : PySem.W.exmOne K (.ref (He.ga K "NoSkill")) (.ref (He.ga K "NoPlain")) = some false := He.exm_ok (Z.s.fact 123 (f := .exm "NoSkill" "NoPlain" false) rfl)
theorem All.x_NoSkill_NoNumber (Z : All K mg) : PySem.W.exmOne K (.ref (He.ga K "NoSkill")) (.ref (He.ga K "NoNumber")) = some false := He.exm_ok (Z.s.fact 124 (f := .exm "NoSkill" "NoNumber" false) rfl)
theorem All.x_NoSkill_NoWorth (Z : All K mg) : PySem.W.exmOne K (.ref (He.ga K "NoSkill")) (.ref (He.ga K "NoWorth")) = some false := He.exm_ok (Z.s.fact 125 (f := .exm "NoSkill" "NoWorth" false) rfl)
theorem All.x_NoSkill_NoSeen (Z : All K mg) : PySem.W.exmOne K (.ref (He.ga K "NoSkill")) (.ref (He.ga K "NoSeen")) = some false := He.exm_ok (Z.s.fact 126 (f := .exm "NoSkill" "NoSeen" false) rfl)
theorem All.x_NoSkill_NoKind (Z : All K mg) : PySem.W.exmOne K (.ref (He.ga K "NoSkill")) (.ref (He.ga K "NoKind")) = some false := He.exm_ok (Z.s.fact 127 (f := .exm "NoSkill" "NoKind" false) rfl)
theorem All.x_NoSkill_NothingBack (Z : All K mg) : PySem.W.exmOne K (.ref (He.ga K "NoSkill")) (.ref (He.ga K "NothingBack")) = some false := He.exm_ok (Z.s.fact 128 (f := .exm "NoSkill" "NothingBack" false) rfl)
theorem All.x_NoSkill_NoNote (Z : All K mg) : PySem.W.exmOne K (.ref (He.ga K "NoSkill")) (.ref (He.ga K "NoNote")) = some false := He.exm_ok (Z.s.fact 129 (f := .exm "NoSkill" "NoNote" false) rfl)
theorem All.f_NoBuild_init (Z : All K mg) : ∃ fd, FunD K "__init__" "NoBuild.__init__" (defArgs s_NoBuild_init) (defBody s_NoBuild_init) (defScope s_NoBuild_init) [] [] (He.fAd K ("NoBuild", some "__init__")) fd := Z.s.def_ 34 (d := dM "NoBuild" 5 0 "__init__" "NoBuild.__init__") rfl
theorem All.g_NoBuild (Z : All K mg) : mg "NoBuild" = some (.ref (He.ga K "NoBuild")) := let ⟨_, X, G⟩ := Z.hp; He.glo_ok X G (Z.s.fact 90 (f := .glo "NoBuild") rfl)
theorem All.n_NoBuild (Z : All K mg) : NoAttr K (He.ga K "NoBuild") "build" := He.noat_ok (Z.s.fact 91 (f := .noat "NoBuild" "build") rfl)
theorem All.x_NoBuild_NoBook (Z : All K mg) : PySem.W.exmOne K (.ref (He.ga K "NoBuild")) (.ref (He.ga K "NoBook")) = some false := He.exm_ok (Z.s.fact 130 (f := .exm "NoBuild" "NoBook" false) rfl)
theorem All.x_NoBuild_NoSkill (Z : All K mg) : PySem.W.exmOne K (.ref (He.ga K "NoBuild")) (.ref (He.ga K "NoSkill")) = some false := He.exm_ok (Z.s.fact 131 (f := .exm "NoBuild" "NoSkill" false) rfl)
theorem All.x_NoBuild_NoBuild (Z : All K mg) : PySem.W.exmOne K (.ref (He.ga K "NoBuild")) (.ref (He.ga K "NoBuild")) = some true := He.exm_ok (Z.s.fact 132 (f := .exm "NoBuild" "NoBuild" true) rfl)
theorem All.x_NoBuild_NoStep (Z : All K mg) : PySem.W.exmOne K (.ref (He.ga K "NoBuild")) (.ref (He.ga K "NoStep")) = some false := He.exm_ok (Z.s.fact 133 (f := .exm "NoBuild" "NoStep" false) rfl)
theorem All.x_NoBuild_NoPlain (Z : All K mg) : PySem.W.exmOne K (.ref (He.ga K "NoBuild")) (.ref (He.ga K "NoPlain")) = some false := He.exm_ok (Z.s.fact 134 (f := .exm "NoBuild" "NoPlain" false) rfl)
theorem All.x_NoBuild_NoNumber (Z : All K mg) : PySem.W.exmOne K (.ref (He.ga K "NoBuild")) (.ref (He.ga K "NoNumber")) = some false := He.exm_ok (Z.s.fact 135 (f := .exm "NoBuild" "NoNumber" false) rfl)
theorem All.x_NoBuild_NoWorth (Z : All K mg) : PySem.W.exmOne K (.ref (He.ga K "NoBuild")) (.ref (He.ga K "NoWorth")) = some false := He.exm_ok (Z.s.fact 136 (f := .exm "NoBuild" "NoWorth" false) rfl)
theorem All.x_NoBuild_NoSeen (Z : All K mg) : PySem.W.exmOne K (.ref (He.ga K "NoBuild")) (.ref (He.ga K "NoSeen")) = some false := He.exm_ok (Z.s.fact 137 (f := .exm "NoBuild" "NoSeen" false) rfl)
theorem All.x_NoBuild_NoKind (Z : All K mg) : PySem.W.exmOne K (.ref (He.ga K "NoBuild")) (.ref (He.ga K "NoKind")) = some false := He.exm_ok (Z.s.fact 138 (f := .exm "NoBuild" "NoKind" false) rfl)
theorem All.x_NoBuild_NothingBack (Z : All K mg) : PySem.W.exmOne K (.ref (He.ga K "NoBuild")) (.ref (He.ga K "NothingBack")) = some false := He.exm_ok (Z.s.fact 139 (f := .exm "NoBuild" "NothingBack" false) rfl)
theorem All.x_NoBuild_NoNote (Z : All K mg) : PySem.W.exmOne K (.ref (He.ga K "NoBuild")) (.ref (He.ga K "NoNote")) = some false := He.exm_ok (Z.s.fact 140 (f := .exm "NoBuild" "NoNote" false) rfl)
theorem All.f_NoStep_init (Z : All K mg) : ∃ fd, FunD K "__init__" "NoStep.__init__" (defArgs s_NoStep_init) (defBody s_NoStep_init) (defScope s_NoStep_init) [] [] (He.fAd K ("NoStep", some "__init__")) fd := Z.s.def_ 35 (d := dM "NoStep" 6 0 "__init__" "NoStep.__init__") rfl
theorem All.g_NoStep (Z : All K mg) : mg "NoStep" = some (.ref (He.ga K "NoStep")) := let ⟨_, X, G⟩ := Z.hp; He.glo_ok X G (Z.s.fact 92 (f := .glo "NoStep") rfl)
theorem All.n_NoStep (Z : All K mg) : NoAttr K (He.ga K "NoStep") "step" := He.noat_ok (Z.s.fact 93 (f := .noat "NoStep" "step") rfl)
theorem All.x_NoStep_NoBook (Z : All K mg) : PySem.W.exmOne K (.ref (He.ga K "NoStep")) (.ref (He.ga K "NoBook")) = some false := He.exm_ok (Z.s.fact 141 (f := .exm "NoStep" "NoBook" false) rfl)
theorem All.x_NoStep_NoSkill (Z : All K mg) : PySem.W.exmOne K (.ref (He.ga K "NoStep")) (.ref (He.ga K "NoSkill")) = some false := He.exm_ok (Z.s.fact 142 (f := .exm "NoStep" "NoSkill" false) rfl)
theorem All.x_NoStep_NoBuild (Z : All K mg) : PySem.W.exmOne K (.ref (He.ga K "NoStep")) (.ref (He.ga K "NoBuild")) = some false := He.exm_ok (Z.s.fact 143 (f := .exm "NoStep" "NoBuild" false) rfl)
theorem All.x_NoStep_NoStep (Z : All K mg) : PySem.W.exmOne K (.ref (He.ga K "NoStep")) (.ref (He.ga K "NoStep")) = some true := He.exm_ok (Z.s.fact 144 (f := .exm "NoStep" "NoStep" true) rfl)
theorem All.x_NoStep_NoPlain (Z : All K mg) : PySem.W.exmOne K (.ref (He.ga K "NoStep")) (.ref (He.ga K "NoPlain")) = some false := He.exm_ok (Z.s.fact 145 (f := .exm "NoStep" "NoPlain" false) rfl)
theorem All.x_NoStep_NoNumber (Z : All K mg) : PySem.W.exmOne K (.ref (He.ga K "NoStep")) (.ref (He.ga K "NoNumber")) = some false := He.exm_ok (Z.s.fact 146 (f := .exm "NoStep" "NoNumber" false) rfl)
theorem All.x_NoStep_NoWorth (Z : All K mg) : PySem.W.exmOne K (.ref (He.ga K "NoStep")) (.ref (He.ga K "NoWorth")) = some false := He.exm_ok (Z.s.fact 147 (f := .exm "NoStep" "NoWorth" false) rfl)
theorem All.x_NoStep_NoSeen (Z : All K mg) : PySem.W.exmOne K (.ref (He.ga K "NoStep")) (.ref (He.ga K "NoSeen")) = some false := He.exm_ok (Z.s.fact 148 (f := .exm "NoStep" "NoSeen" false) rfl)
theorem All.x_NoStep_NoKind (Z : All K mg) : PySem.W.exmOne K (.ref (He.ga K "NoStep")) (.ref (He.ga K "NoKind")) = some false := He.exm_ok (Z.s.fact 149 (f := .exm "NoStep" "NoKind" false) rfl)
theorem All.x_NoStep_NothingBack (Z : All K mg) : PySem.W.exmOne K (.ref (He.ga K "NoStep")) (.ref (He.ga K "NothingBack")) = some false := He.exm_ok (Z.s.fact 150 (f := .exm "NoStep" "NothingBack" false) rfl)
theorem All.x_NoStep_NoNote (Z : All K mg) : PySem.W.exmOne K (.ref (He.ga K "NoStep")) (.ref (He.ga K "NoNote")) = some false := He.exm_ok (Z.s.fact 151 (f := .exm "NoStep" "NoNote" false) rfl)
theorem All.f_NoPlain_init (Z : All K mg) : ∃ fd, FunD K "__init__" "NoPlain.__init__" (defArgs s_NoPlain_init) (defBody s_NoPlain_init) (defScope s_NoPlain_init) [] [] (He.fAd K ("NoPlain", some "__init__")) fd := Z.s.def_ 36 (d := dM "NoPlain" 7 0 "__init__" "NoPlain.__init__") rfl
theorem All.g_NoPlain (Z : All K mg) : mg "NoPlain" = some (.ref (He.ga K "NoPlain")) := let ⟨_, X, G⟩ := Z.hp; He.glo_ok X G (Z.s.fact 94 (f := .glo "NoPlain") rfl)
theorem All.n_NoPlain (Z : All K mg) : NoAttr K (He.ga K "NoPlain") "book" := He.noat_ok (Z.s.fact 95 (f := .noat "NoPlain" "book") rfl)
theorem All.x_NoPlain_NoBook (Z : All K mg) : PySem.W.exmOne K (.ref (He.ga K "NoPlain")) (.ref (He.ga K "NoBook")) = some false := He.exm_ok (Z.s.fact 152 (f := .exm "NoPlain" "NoBook" false) rfl)
theorem All.x_NoPlain_NoSkill (Z : All K mg) : PySem.W.exmOne K (.ref (He.ga K "NoPlain")) (.ref (He.ga K "NoSkill")) = some false := He.exm_ok (Z.s.fact 153 (f := .exm "NoPlain" "NoSkill" false) rfl)
theorem All.x_NoPlain_NoBuild (Z : All K mg) : PySem.W.exmOne K (.ref (He.ga K "NoPlain")) (.ref (He.ga K "NoBuild")) = some false := He.exm_ok (Z.s.fact 154 (f := .exm "NoPlain" "NoBuild" false) rfl)
theorem All.x_NoPlain_NoStep (Z : All K mg) : PySem.W.exmOne K (.ref (He.ga K "NoPlain")) (.ref (He.ga K "NoStep")) = some false := He.exm_ok (Z.s.fact 155 (f := .exm "NoPlain" "NoStep" false) rfl)
theorem All.x_NoPlain_NoPlain (Z : All K mg) : PySem.W.exmOne K (.ref (He.ga K "NoPlain")) (.ref (He.ga K "NoPlain")) = some true := He.exm_ok (Z.s.fact 156 (f := .exm "NoPlain" "NoPlain" true) rfl)
theorem All.x_NoPlain_NoNumber (Z : All K mg) : PySem.W.exmOne K (.ref (He.ga K "NoPlain")) (.ref (He.ga K "NoNumber")) = some false := He.exm_ok (Z.s.fact 157 (f := .exm "NoPlain" "NoNumber" false) rfl)
theorem All.x_NoPlain_NoWorth (Z : All K mg) : PySem.W.exmOne K (.ref (He.ga K "NoPlain")) (.ref (He.ga K "NoWorth")) = some false := He.exm_ok (Z.s.fact 158 (f := .exm "NoPlain" "NoWorth" false) rfl)
theorem All.x_NoPlain_NoSeen (Z : All K mg) : PySem.W.exmOne K (.ref (He.ga K "NoPlain")) (.ref (He.ga K "NoSeen")) = some false := He.exm_ok (Z.s.fact 159 (f := .exm "NoPlain" "NoSeen" false) rfl)
theorem All.x_NoPlain_NoKind (Z : All K mg) : PySem.W.exmOne K (.ref (He.ga K "NoPlain")) (.ref (He.ga K "NoKind")) = some false := He.exm_ok (Z.s.fact 160 (f := .exm "NoPlain" "NoKind" false) rfl)
theorem All.x_NoPlain_NothingBack (Z : All K mg) : PySem.W.exmOne K (.ref (He.ga K "NoPlain")) (.ref (He.ga K "NothingBack")) = some false := He.exm_ok (Z.s.fact 161 (f := .exm "NoPlain" "NothingBack" false) rfl)
theorem All.x_NoPlain_NoNote (Z : All K mg) : PySem.W.exmOne K (.ref (He.ga K "NoPlain")) (.ref (He.ga K "NoNote")) = some false := He.exm_ok (Z.s.fact 162 (f := .exm "NoPlain" "NoNote" false) rfl)
theorem All.f_NoNumber_init (Z : All K mg) : ∃ fd, FunD K "__init__" "NoNumber.__init__" (defArgs s_NoNumber_init) (defBody s_NoNumber_init) (defScope s_NoNumber_init) [] [] (He.fAd K ("NoNumber", some "__init__")) fd := Z.s.def_ 37 (d := dM "NoNumber" 8 0 "__init__" "NoNumber.__init__") rfl
theorem All.g_NoNumber (Z : All K mg) : mg "NoNumber" = some (.ref (He.ga K "NoNumber")) := let ⟨_, X, G⟩ := Z.hp; He.glo_ok X G (Z.s.fact 96 (f := .glo "NoNumber") rfl)
theorem All.n_NoNumber (Z : All K mg) : NoAttr K (He.ga K "NoNumber") "value" := He.noat_ok (Z.s.fact 97 (f := .noat "NoNumber" "value") rfl)
theorem All.x_NoNumber_NoBook (Z : All K mg) : PySem.W.exmOne K (.ref (He.ga K "NoNumber")) (.ref (He.ga K "NoBook")) = some false := He.exm_ok (Z.s.fact 163 (f := .exm "NoNumber" "NoBook" false) rfl)
theorem All.x_NoNumber_NoSkill (Z : All K mg) : PySem.W.exmOne K (.ref (He.ga K "NoNumber")) (.ref (He.ga K "NoSkill")) = some false := He.exm_ok (Z.s.fact 164 (f := .exm "NoNumber" "NoSkill" false) rfl)
theorem All.x_NoNumber_NoBuild (Z : All K mg) : PySem.W.exmOne K (.ref (He.ga K "NoNumber")) (.ref (He.ga K "NoBuild")) = some false := He.exm_ok (Z.s.fact 165 (f := .exm "NoNumber" "NoBuild" false) rfl)
theorem All.x_NoNumber_NoStep (Z : All K mg) : PySem.W.exmOne K (.ref (He.ga K "NoNumber")) (.ref (He.ga K "NoStep")) = some false := He.exm_ok (Z.s.fact 166 (f := .exm "NoNumber" "NoStep" false) rfl)
theorem All.x_NoNumber_NoPlain (Z : All K mg) : PySem.W.exmOne K (.ref (He.ga K "NoNumber")) (.ref (He.ga K "NoPlain")) = some false := He.exm_ok (Z.s.fact 167 (f := .exm "NoNumber" "NoPlain" false) rfl)
theorem All.x_NoNumber_NoNumber (Z : All K mg) : PySem.W.exmOne K (.ref (He.ga K "NoNumber")) (.ref (He.ga K "NoNumber")) = some true := He.exm_ok (Z.s.fact 168 (f := .exm "NoNumber" "NoNumber" true) rfl)
theorem All.x_NoNumber_NoWorth (Z : All K mg) : PySem.W.exmOne K (.ref (He.ga K "NoNumber")) (.ref (He.ga K "NoWorth")) = some false := He.exm_ok (Z.s.fact 169 (f := .exm "NoNumber" "NoWorth" false) rfl)
theorem All.x_NoNumber_NoSeen (Z : All K mg) : PySem.W.exmOne K (.ref (He.ga K "NoNumber")) (.ref (He.ga K "NoSeen")) = some false := He.exm_ok (Z.s.fact 170 (f := .exm "NoNumber" "NoSeen" false) rfl)
theorem All.x_NoNumber_NoKind (Z : All K mg) : PySem.W.exmOne K (.ref (He.ga K "NoNumber")) (.ref (He.ga K "NoKind")) = some false := He.exm_ok (Z.s.fact 171 (f := .exm "NoNumber" "NoKind" false) rfl)
theorem All.x_NoNumber_NothingBack (Z : All K mg) : PySem.W.exmOne K (.ref (He.ga K "NoNumber")) (.ref (He.ga K "NothingBack")) = some false := He.exm_ok (Z.s.fact 172 (f := .exm "NoNumber" "NothingBack" false) rfl)
theorem All.x_NoNumber_NoNote (Z : All K mg) : PySem.W.exmOne K (.ref (He.ga K "NoNumber")) (.ref (He.ga K "NoNote")) = some false := He.exm_ok (Z.s.fact 173 (f := .exm "NoNumber" "NoNote" false) rfl)
theorem All.f_NoWorth_init (Z : All K mg) : ∃ fd, FunD K "__init__" "NoWorth.__init__" (defArgs s_NoWorth_init) (defBody s_NoWorth_init) (defScope s_NoWorth_init) [] [] (He.fAd K ("NoWorth", some "__init__")) fd := Z.s.def_ 38 (d := dM "NoWorth" 9 0 "__init__" "NoWorth.__init__") rfl
theorem All.g_NoWorth (Z : All K mg) : mg "NoWorth" = some (.ref (He.ga K "NoWorth")) := let ⟨_, X, G⟩ := Z.hp; He.glo_ok X G (Z.s.fact 98 (f := .glo "NoWorth") rfl)
theorem All.n_NoWorth (Z : All K mg) : NoAttr K (He.ga K "NoWorth") "worths" := He.noat_ok (Z.s.fact 99 (f := .noat "NoWorth" "worths") rfl)
theorem All.x_NoWorth_NoBook (Z : All K mg) : PySem.W.exmOne K (.ref (He.ga K "NoWorth")) (.ref (He.ga K "NoBook")) = some false := He.exm_ok (Z.s.fact 174 (f := .exm "NoWorth" "NoBook" false) rfl)
theorem All.x_NoWorth_NoSkill (Z : All K mg) : PySem.W.exmOne K (.ref (He.ga K "NoWorth")) (.ref (He.ga K "NoSkill")) = some false := He.exm_ok (Z.s.fact 175 (f := .exm "NoWorth" "NoSkill" false) rfl)
theorem All.x_NoWorth_NoBuild (Z : All K mg) : PySem.W.exmOne K (.ref (He.ga K "NoWorth")) (.ref (He.ga K "NoBuild")) = some false := He.exm_ok (Z.s.fact 176 (f := .exm "NoWorth" "NoBuild" false) rfl)
theorem All.x_NoWorth_NoStep (Z : All K mg) : PySem.W.exmOne K (.ref (He.ga K "NoWorth")) (.ref (He.ga K "NoStep")) = some false := He.exm_ok (Z.s.fact 177 (f := .exm "NoWorth" "NoStep" false) rfl)
theorem All.x_NoWorth_NoPlain (Z : All K mg) : PySem.W.exmOne K (.ref (He.ga K "NoWorth")) (.ref (He.ga K "NoPlain")) = some false := He.exm_ok (Z.s.fact 178 (f := .exm "NoWorth" "NoPlain" false) rfl)
theorem All.x_NoWorth_NoNumber (Z : All K mg) : PySem.W.exmOne K (.ref (He.ga K "NoWorth")) (.ref (He.ga K "NoNumber")) = some false := He.exm_ok (Z.s.fact 179 (f := .exm "NoWorth" "NoNumber" false) rfl)
theorem All.x_NoWorth_NoWorth (Z : All K mg) : PySem.W.exmOne K (.ref (He.ga K "NoWorth")) (.ref (He.ga K "NoWorth")) = some true := He.exm_ok (Z.s.fact 180 (f := .exm "NoWorth" "NoWorth" true) rfl)
theorem All.x_NoWorth_NoSeen (Z : All K mg) : PySem.W.exmOne K (.ref (He.ga K "NoWorth")) (.ref (He.ga K "NoSeen")) = some false := He.exm_ok (Z.s.fact 181 (f := .exm "NoWorth" "NoSeen" false) rfl)
theorem All.x_NoWorth_NoKind (Z : All K mg) : PySem.W.exmOne K (.ref (He.ga K "NoWorth")) (.ref (He.ga K "NoKind")) = some false := He.exm_ok (Z.s.fact 182 (f := .exm "NoWorth" "NoKind" false) rfl)
theorem All.x_NoWorth_NothingBack (Z : All K mg) : PySem.W.exmOne K (.ref (He.ga K "NoWorth")) (.ref (He.ga K "NothingBack")) = some false := He.exm_ok (Z.s.fact 183 (f := .exm "NoWorth" "NothingBack" false) rfl)
theorem All.x_NoWorth_NoNote (Z : All K mg) : PySem.W.exmOne K (.ref (He.ga K "NoWorth")) (.ref (He.ga K "NoNote")) = some false := He.exm_ok (Z.s.fact 184 (f := .exm "NoWorth" "NoNote" false) rfl)
theorem All.f_NoSeen_init (Z : All K mg) : ∃ fd, FunD K "__init__" "NoSeen.__init__" (defArgs s_NoSeen_init) (defBody s_NoSeen_init) (defScope s_NoSeen_init) [] [] (He.fAd K ("NoSeen", some "__init__")) fd := Z.s.def_ 39 (d := dM "NoSeen" 10 0 "__init__" "NoSeen.__init__") rfl
theorem All.g_NoSeen (Z : All K mg) : mg "NoSeen" = some (.ref (He.ga K "NoSeen")) := let ⟨_, X, G⟩ := Z.hp; He.glo_ok X G (Z.s.fact 100 (f := .glo "NoSeen") rfl)
theorem All.n_NoSeen (Z : All K mg) : NoAttr K (He.ga K "NoSeen") "seen" := He.noat_ok (Z.s.fact 101 (f := .noat "NoSeen" "seen") rfl)
theorem All.x_NoSeen_NoBook (Z : All K mg) : PySem.W.exmOne K (.ref (He.ga K "NoSeen")) (.ref (He.ga K "NoBook")) = some false := He.exm_ok (Z.s.fact 185 (f := .exm "NoSeen" "NoBook" false) rfl)
theorem All.x_NoSeen_NoSkill (Z : All K mg) : PySem.W.exmOne K (.ref (He.ga K "NoSeen")) (.ref (He.ga K "NoSkill")) = some false := He.exm_ok (Z.s.fact 186 (f := .exm "NoSeen" "NoSkill" false) rfl)
theorem All.x_NoSeen_NoBuild (Z : All K mg) : PySem.W.exmOne K (.ref (He.ga K "NoSeen")) (.ref (He.ga K "NoBuild")) = some false := He.exm_ok (Z.s.fact 187 (f := .exm "NoSeen" "NoBuild" false) rfl)
theorem All.x_NoSeen_NoStep (Z : All K mg) : PySem.W.exmOne K (.ref (He.ga K "NoSeen")) (.ref (He.ga K "NoStep")) = some false := He.exm_ok (Z.s.fact 188 (f := .exm "NoSeen" "NoStep" false) rfl)
theorem All.x_NoSeen_NoPlain (Z : All K mg) : PySem.W.exmOne K (.ref (He.ga K "NoSeen")) (.ref (He.ga K "NoPlain")) = some false := He.exm_ok (Z.s.fact 189 (f := .exm "NoSeen" "NoPlain" false) rfl)
theorem All.x_NoSeen_NoNumber (Z : All K mg) : PySem.W.exmOne K (.ref (He.ga K "NoSeen")) (.ref (He.ga K "NoNumber")) = some false := He.exm_ok (Z.s.fact 190 (f := .exm "NoSeen" "NoNumber" false) rfl)
theorem All.x_NoSeen_NoWorth (Z : All K mg) : PySem.W.exmOne K (.ref (He.ga K "NoSeen")) (.ref (He.ga K "NoWorth")) = some false := He.exm_ok (Z.s.fact 191 (f := .exm "NoSeen" "NoWorth" false) rfl)
theorem All.x_NoSeen_NoSeen (Z : All K mg) : PySem.W.exmOne K (.ref (He.ga K "NoSeen")) (.ref (He.ga K "NoSeen")) = some true := He.exm_ok (Z.s.fact 192 (f := .exm "NoSeen" "NoSeen" true) rfl)
theorem All.x_NoSeen_NoKind (Z : All K mg) : PySem.W.exmOne K (.ref (He.ga K "NoSeen")) (.ref (He.ga K "NoKind")) = some false := He.exm_ok (Z.s.fact 193 (f := .exm "NoSeen" "NoKind" false) rfl)
theorem All.x_NoSeen_NothingBack (Z : All K mg) : PySem.W.exmOne K (.ref (He.ga K "NoSeen")) (.ref (He.ga K "NothingBack")) = some false := He.exm_ok (Z.s.fact 194 (f := .exm "NoSeen" "NothingBack" false) rfl)
theorem All.x_NoSeen_NoNote (Z : All K mg) : PySem.W.exmOne K (.ref (He.ga K "NoSeen")) (.ref (He.ga K "NoNote")) = some false := He.exm_ok (Z.s.fact 195 (f := .exm "NoSeen" "NoNote" false) rfl)
theorem All.f_NoKind_init (Z : All K mg) : ∃ fd, FunD K "__init__" "NoKind.__init__" (defArgs s_NoKind_init) (defBody s_NoKind_init) (defScope s_NoKind_init) [] [] (He.fAd K ("NoKind", some "__init__")) fd := Z.s.def_ 40 (d := dM "NoKind" 11 0 "__init__" "NoKind.__init__") rfl
theorem All.g_NoKind (Z : All K mg) : mg "NoKind" = some (.ref (He.ga K "NoKind")) := let ⟨_, X, G⟩ := Z.hp; He.glo_ok X G (Z.s.fact 102 (f := .glo "NoKind") rfl)
theorem All.n_NoKind (Z : All K mg) : NoAttr K (He.ga K "NoKind") "kind" := He.noat_ok (Z.s.fact 103 (f := .noat "NoKind" "kind") rfl)
theorem All.x_NoKind_NoBook (Z : All K mg) : PySem.W.exmOne K (.ref (He.ga K "NoKind")) (.ref (He.ga K "NoBook")) = some false := He.exm_ok (Z.s.fact 196 (f := .exm "NoKind" "NoBook" false) rfl)
theorem All.x_NoKind_NoSkill (Z : All K mg) : PySem.W.exmOne K (.ref (He.ga K "NoKind")) (.ref (He.ga K "NoSkill")) = some false := He.exm_ok (Z.s.fact 197 (f := .exm "NoKind" "NoSkill" false) rfl)
theorem All.x_NoKind_NoBuild (Z : All K mg) : PySem.W.exmOne K (.ref (He.ga K "NoKind")) (.ref (He.ga K "NoBuild")) = some false := He.exm_ok (Z.s.fact 198 (f := .exm "NoKind" "NoBuild" false) rfl)
theorem All.x_NoKind_NoStep (Z : All K mg) : PySem.W.exmOne K (.ref (He.ga K "NoKind")) (.ref (He.ga K "NoStep")) = some false := He.exm_ok (Z.s.fact 199 (f := .exm "NoKind" "NoStep" false) rfl)
theorem All.x_NoKind_NoPlain (Z : All K mg) : PySem.W.exmOne K (.ref (He.ga K "NoKind")) (.ref (He.ga K "NoPlain")) = some false := He.exm_ok (Z.s.fact 200 (f := .exm "NoKind" "NoPlain" false) rfl)
theorem All.x_NoKind_NoNumber (Z : All K mg) : PySem.W.exmOne K (.ref (He.ga K "NoKind")) (.ref (He.ga K "NoNumber")) = some false := He.exm_ok (Z.s.fact 201 (f := .exm "NoKind" "NoNumber" false) rfl)
theorem All.x_NoKind_NoWorth (Z : All K mg) : PySem.W.exmOne K (.ref (He.ga K "NoKind")) (.ref (He.ga K "NoWorth")) = some false := He.exm_ok (Z.s.fact 202 (f := .exm "NoKind" "NoWorth" false) rfl)
theorem All.x_NoKind_NoSeen (Z : All K mg) : PySem.W.exmOne K (.ref (He.ga K "NoKind")) (.ref (He.ga K "NoSeen")) = some false := He.exm_ok (Z.s.fact 203 (f := .exm "NoKind" "NoSeen" false) rfl)
theorem All.x_NoKind_NoKind (Z : All K mg) : PySem.W.exmOne K (.ref (He.ga K "NoKind")) (.ref (He.ga K "NoKind")) = some true := He.exm_ok (Z.s.fact 204 (f := .exm "NoKind" "NoKind" true) rfl)
theorem All.x_NoKind_NothingBack (Z : All K mg) : PySem.W.exmOne K (.ref (He.ga K "NoKind")) (.ref (He.ga K "NothingBack")) = some false := He.exm_ok (Z.s.fact 205 (f := .exm "NoKind" "NothingBack" false) rfl)
theorem All.x_NoKind_NoNote (Z : All K mg) : PySem.W.exmOne K (.ref (He.ga K "NoKind")) (.ref (He.ga K "NoNote")) = some false := He.exm_ok (Z.s.fact 206 (f := .exm "NoKind" "NoNote" false) rfl)
theorem All.f_NothingBack_init (Z : All K mg) : ∃ fd, FunD K "__init__" "NothingBack.__init__" (defArgs s_NothingBack_init) (defBody s_NothingBack_init) (defScope s_NothingBack_init) [] [] (He.fAd K ("NothingBack", some "__init__")) fd := Z.s.def_ 41 (d := dM "NothingBack" 12 0 "__init__" "NothingBack.__init__") rfl
theorem All.g_NothingBack (Z : All K mg) : mg "NothingBack" = some (.ref (He.ga K "NothingBack")) := let ⟨_, X, G⟩ := Z.hp; He.glo_ok X G (Z.s.fact 104 (f := .glo "NothingBack") rfl)
theorem All.n_NothingBack (Z : All K mg) : NoAttr K (He.ga K "NothingBack") "many" := He.noat_ok (Z.s.fact 105 (f := .noat "NothingBack" "many") rfl)
theorem All.x_NothingBack_NoBook (Z : All K mg) : PySem.W.exmOne K (.ref (He.ga K "NothingBack")) (.ref (He.ga K "NoBook")) = some false := He.exm_ok (Z.s.fact 207 (f := .exm "NothingBack" "NoBook" false) rfl)
theorem All.x_NothingBack_NoSkill (Z : All K mg) : PySem.W.exmOne K (.ref (He.ga K "NothingBack")) (.ref (He.ga K "NoSkill")) = some false := He.exm_ok (Z.s.fact 208 (f := .exm "NothingBack" "NoSkill" false) rfl)
theorem All.x_NothingBack_NoBuild (Z : All K mg) : PySem.W.exmOne K (.ref (He.ga K "NothingBack")) (.ref (He.ga K "NoBuild")) = some false := He.exm_ok (Z.s.fact 209 (f := .exm "NothingBack" "NoBuild" false) rfl)
theorem All.x_NothingBack_NoStep (Z : All K mg) : PySem.W.exmOne K (.ref (He.ga K "NothingBack")) (.ref (He.ga K "NoStep")) = some false := He.exm_ok (Z.s.fact 210 (f := .exm "NothingBack" "NoStep" false) rfl)
theorem All.x_NothingBack_NoPlain (Z : All K mg) : PySem.W.exmOne K (.ref (He.ga K "NothingBack")) (.ref (He.ga K "NoPlain")) = some false := He.exm_ok (Z.s.fact 211 (f := .exm "NothingBack" "NoPlain" false) rfl)
theorem All.x_NothingBack_NoNumber (Z : All K mg) : PySem.W.exmOne K (.ref (He.ga K "NothingBack")) (.ref (He.ga K "NoNumber")) = some false := He.exm_ok (Z.s.fact 212 (f := .exm "NothingBack" "NoNumber" false) rfl)
theorem All.x_NothingBack_NoWorth (Z : All K mg) : PySem.W.exmOne K (.ref (He.ga K "NothingBack")) (.ref (He.ga K "NoWorth")) = some false := He.exm_ok (Z.s.fact 213 (f := .exm "NothingBack" "NoWorth" false) rfl)
theorem All.x_NothingBack_NoSeen (Z : All K mg) : PySem.W.exmOne K (.ref (He.ga K "NothingBack")) (.ref (He.ga K "NoSeen")) = some false := He.exm_ok (Z.s.fact 214 (f := .exm "NothingBack" "NoSeen" false) rfl)
theorem All.x_NothingBack_NoKind (Z : All K mg) : PySem.W.exmOne K (.ref (He.ga K "NothingBack")) (.ref (He.ga K "NoKind")) = some false := He.exm_ok (Z.s.fact 215 (f := .exm "NothingBack" "NoKind" false) rfl)
theorem All.x_NothingBack_NothingBack (Z : All K mg) : PySem.W.exmOne K (.ref (He.ga K "NothingBack")) (.ref (He.ga K "NothingBack")) = some true := He.exm_ok (Z.s.fact 216 (f := .exm "NothingBack" "NothingBack" true) rfl)
theorem All.x_NothingBack_NoNote (Z : All K mg) : PySem.W.exmOne K (.ref (He.ga K "NothingBack")) (.ref (He.ga K "NoNote")) = some false := He.exm_ok (Z.s.fact 217 (f := .exm "NothingBack" "NoNote" false) rfl)
theorem All.f_NoNote_init (Z : All K mg) : ∃ fd, FunD K "__init__" "NoNote.__init__" (defArgs s_NoNote_init) (defBody s_NoNote_init) (defScope s_NoNote_init) [] [] (He.fAd K ("NoNote", some "__init__")) fd := Z.s.def_ 42 (d := dM "NoNote" 13 0 "__init__" "NoNote.__init__") rfl
theorem All.g_NoNote (Z : All K mg) : mg "NoNote" = some (.ref (He.ga K "NoNote")) := let ⟨_, X, G⟩ := Z.hp; He.glo_ok X G (Z.s.fact 106 (f := .glo "NoNote") rfl)
theorem All.n_NoNote (Z : All K mg) : NoAttr K (He.ga K "NoNote") "line" := He.noat_ok (Z.s.fact 107 (f := .noat "NoNote" "line") rfl)
theorem All.x_NoNote_NoBook (Z : All K mg) : PySem.W.exmOne K (.ref (He.ga K "NoNote")) (.ref (He.ga K "NoBook")) = some false := He.exm_ok (Z.s.fact 218 (f := .exm "NoNote" "NoBook" false) rfl)
theorem All.x_NoNote_NoSkill (Z : All K mg) : PySem.W.exmOne K (.ref (He.ga K "NoNote")) (.ref (He.ga K "NoSkill")) = some false := He.exm_ok (Z.s.fact 219 (f := .exm "NoNote" "NoSkill" false) rfl)
theorem All.x_NoNote_NoBuild (Z : All K mg) : PySem.W.exmOne K (.ref (He.ga K "NoNote")) (.ref (He.ga K "NoBuild")) = some false := He.exm_ok (Z.s.fact 220 (f := .exm "NoNote" "NoBuild" false) rfl)
theorem All.x_NoNote_NoStep (Z : All K mg) : PySem.W.exmOne K (.ref (He.ga K "NoNote")) (.ref (He.ga K "NoStep")) = some false := He.exm_ok (Z.s.fact 221 (f := .exm "NoNote" "NoStep" false) rfl)
theorem All.x_NoNote_NoPlain (Z : All K mg) : PySem.W.exmOne K (.ref (He.ga K "NoNote")) (.ref (He.ga K "NoPlain")) = some false := He.exm_ok (Z.s.fact 222 (f := .exm "NoNote" "NoPlain" false) rfl)
theorem All.x_NoNote_NoNumber (Z : All K mg) : PySem.W.exmOne K (.ref (He.ga K "NoNote")) (.ref (He.ga K "NoNumber")) = some false := He.exm_ok (Z.s.fact 223 (f := .exm "NoNote" "NoNumber" false) rfl)
theorem All.x_NoNote_NoWorth (Z : All K mg) : PySem.W.exmOne K (.ref (He.ga K "NoNote")) (.ref (He.ga K "NoWorth")) = some false := He.exm_ok (Z.s.fact 224 (f := .exm "NoNote" "NoWorth" false) rfl)
theorem All.x_NoNote_NoSeen (Z : All K mg) : PySem.W.exmOne K (.ref (He.ga K "NoNote")) (.ref (He.ga K "NoSeen")) = some false := He.exm_ok (Z.s.fact 225 (f := .exm "NoNote" "NoSeen" false) rfl)
theorem All.x_NoNote_NoKind (Z : All K mg) : PySem.W.exmOne K (.ref (He.ga K "NoNote")) (.ref (He.ga K "NoKind")) = some false := He.exm_ok (Z.s.fact 226 (f := .exm "NoNote" "NoKind" false) rfl)
theorem All.x_NoNote_NothingBack (Z : All K mg) : PySem.W.exmOne K (.ref (He.ga K "NoNote")) (.ref (He.ga K "NothingBack")) = some false := He.exm_ok (Z.s.fact 227 (f := .exm "NoNote" "NothingBack" false) rfl)
theorem All.x_NoNote_NoNote (Z : All K mg) : PySem.W.exmOne K (.ref (He.ga K "NoNote")) (.ref (He.ga K "NoNote")) = some true := He.exm_ok (Z.s.fact 228 (f := .exm "NoNote" "NoNote" true) rfl)
end
end Rt
end
section
set_option Elab.async false
set_option linter.all false
set_option maxRecDepth 100000
set_option maxHeartbeats 4000000
/-! words: is_number_in, is_word, is_one_of, are_unlike -/
namespace Rt
open PySem PySem.Spec PyProof.Rows L2
def isNum : V → Int → Int → Bool
  | .int i, lo, hi => decide (lo ≤ i) && decide (i ≤ hi)
  | _, _, _ => false
def spNum (K : PySem.W.Frag) : Sp := fun vs H Q _ => ∃ x lo hi T, vs = [x, .int lo, .int hi] ∧ Ts K H x T ∧ Q (.bl (isNum x lo hi)) H
section
variable {P : Program} {w : World} {K : PySem.W.Frag} {mg : Str → Option Value} {base : Heap}
def isInt : V → Bool
  | .int _ => true
  | _ => false
def spInt (K : PySem.W.Frag) : Sp := fun vs H Q _ => ∃ x T, vs = [x] ∧ Ts K H x T ∧ Q (.bl (isInt x)) H
theorem cal_is_number (Z : All K mg) : Cal P w K mg base CX0 1 "is_number" ["value"] (spInt K) := by
  obtain ⟨fd, F⟩ := Z.f_is_number
  refine .of ⟨fd, F, ok0 F sc_is_number (fun vs H Q E h => ?_) (fun cdv A outer s H vs Q E hr h => ?_)⟩ Z.g_is_number (fun _ _ _ _ _ _ us hl => match us, hl with | [_], _ => rfl)
  · obtain ⟨x, T, rfl, _⟩ := h
    rfl
  · obtain ⟨x, T, rfl, hT, k⟩ := h
    refine ⟨_, pss_one (ps_ret (pe_and (pe_callB (call_is (cn := "int") (by decide)) (by rfl) Z.b_isinstance boot_isinstance (pa_cons (pv 0) (pa_cons (pe_bltn (v := .ty "int") (by rfl) Z.b_int PyProof.Rows.boot_int rfl) pa_nil)))
      (pe_one (pe_not (pe_callB (call_is (cn := "bool") (by decide)) (by rfl) Z.b_isinstance boot_isinstance (pa_cons (pv 0) (pa_cons (pe_bltn (v := .ty "bool") (by rfl) Z.b_bool PyProof.Rows.boot_bool rfl) pa_nil))))))), ?_⟩
    refine ⟨_, rfl, x, T, rfl, hT, _, rfl, ?_⟩
    cases hT with
    | int i => exact ifT (by decide) ⟨_, rfl, .int i, "int", rfl, .int i, _, rfl, k⟩
    | bl b => exact ifT (by decide) ⟨_, rfl, .bl b, "bool", rfl, .bl b, _, rfl, k⟩
    | non => exact ifF (by decide) k
    | str x => exact ifF (by decide) k
    | tup h => exact ifF (by decide) k
    | lst h => exact ifF (by decide) k
    | dct h => exact ifF (by decide) k
theorem cal_is_number_in (Z : All K mg) : Cal P w K mg base CX0 2 "is_number_in" ["value", "low", "high"] (spNum K) := by
  obtain ⟨fd, F⟩ := Z.f_is_number_in
  have C_is_number : Cal P w K mg base CX0 1 "is_number" ["value"] (spInt K) := cal_is_number Z
  refine .of ⟨fd, F, ok0 F sc_is_number_in (fun vs H Q E h => ?_) (fun cdv A outer s H vs Q E hr h => ?_)⟩ Z.g_is_number_in (fun _ _ _ _ _ _ us hl => match us, hl with | [_, _, _], _ => rfl)
  · obtain ⟨x, lo, hi, T, rfl, _⟩ := h
    rfl
  · obtain ⟨x, lo, hi, T, rfl, hT, k⟩ := h
    refine ⟨_, pss_one (ps_ret (pe_and (pe_cal C_is_number (hr.mono (by decide)) (by rfl) pass0 (pa_cons (pv 0) pa_nil)) (pe_one (pe_chain op_le op_le (pv 1) (pv 0) (pv 2))))), ?_⟩
    refine ⟨_, rfl, x, T, rfl, hT, _, rfl, ?_⟩
    cases hT with
    | int i =>
      refine ifT rfl ?_
      refine ⟨_, rfl, _, rfl, _, _, rfl, rfl, _, rfl, ifB (fun e => ?_) (fun e => ?_)⟩
      · refine ⟨_, rfl, _, _, rfl, rfl, ?_⟩
        have : isNum (.int i) lo hi = decide (i ≤ hi) := by show (decide (lo ≤ i) && decide (i ≤ hi)) = _; rw [e, Bool.true_and]
        rw [this] at k
        exact k
      · have : isNum (.int i) lo hi = false := by show (decide (lo ≤ i) && decide (i ≤ hi)) = _; rw [e, Bool.false_and]
        rw [this] at k
        exact k
    | bl b => exact ifF rfl k
    | non => exact ifF rfl k
    | str x => exact ifF rfl k
    | tup h => exact ifF rfl k
    | lst h => exact ifF rfl k
    | dct h => exact ifF rfl k

def letters : Str := "abcdefghijklmnopqrstuvwxyz"
def signs (z : Str) : List Bool := z.cps.toList.map fun c => decide (c ∈ letters.cps.toList)
def isWord : V → Bool
  | .str z => (decide ((1 : Int) ≤ (z.length : Int)) && decide ((z.length : Int) ≤ 8)) && (signs z).all id
  | _ => false
def spWord (K : PySem.W.Frag) : Sp := fun vs H Q _ => ∃ x T, vs = [x] ∧ Ts K H x T ∧ (∀ z, x = .str z → z.length ≤ 1000) ∧ ∀ H', Same H H' → Q (.bl (isWord x)) H'
theorem cal_is_word (Z : All K mg) : Cal P w K mg base CX0 1 "is_word" ["value"] (spWord K) := by
  obtain ⟨fd, F⟩ := Z.f_is_word
  refine .of ⟨fd, F, ok0 F sc_is_word (fun vs H Q E h => ?_) (fun cdv A outer s H vs Q E hr h => ?_)⟩ Z.g_is_word (fun _ _ _ _ _ _ us hl => match us, hl with | [_], _ => rfl)
  · obtain ⟨x, T, rfl, _⟩ := h
    rfl
  · obtain ⟨x, T, rfl, hT, hz, k⟩ := h
    refine ⟨_, pss_cons (ps_if (PW.pt (pw_or (pt_not (pt_val (pe_callB (call_is (cn := "str") (by decide)) (by rfl) Z.b_isinstance boot_isinstance (pa_cons (pv 0) (pa_cons (pe_bltn (v := .ty "str") (by rfl) Z.b_str PyProof.Rows.boot_str rfl) pa_nil)))))
        (pw_or1 (pt_not (pt_chain op_le op_le pe_int (pe_callB call_len (by rfl) Z.b_len PySem.boot_len (pa_cons (pv 0) pa_nil)) (pe_gint (by rfl) Z.LONGEST_WORD)))))) (pss_one (ps_ret pe_bl)) pss_nil)
      (pss_one (ps_ret (pe_callB (cr_all rfl) (by rfl) Z.b_all boot_all (pa_cons (pe_lc (own := [("sign", 1)]) (g := gName 1) (by rfl) sc_is_word.nd (pi_str (pv 0)) (blkOk_by (own := [("sign", 1)]) (N := ["value", "sign"]) (sc := defScope s_is_word) (by decide +kernel))
        (fun _ _ _ _ _ => pg_name (i := 1) sc_is_word.nd rfl (Or.inl rfl)) (fun _ _ _ _ _ => pts_nil) (fun _ _ _ _ _ => pe_cmpR op_in_sign (pv 1) (pe_gstr (by rfl) Z.SMALL_LETTERS) rfl)) pa_nil)))), ?_⟩
    refine ⟨_, rfl, x, T, rfl, hT, _, rfl, ?_⟩
    cases hT with
    | str z =>
      refine ifF (by decide) ⟨_, rfl, _, z.length, rfl, ⟨Nat.le_of_lt (line_of (hz z rfl) (by decide)), rfl⟩, _, _, rfl, rfl, _, rfl, ifB (fun e1 => ?_) (fun e1 => ?_)⟩
      · refine ⟨_, _, rfl, rfl, _, rfl, ?_⟩
        show if (!decide ((z.length : Int) ≤ 8)) = true then _ else _
        refine ifB (fun e2 => ?_) (fun e2 => ?_)
        · have e : isWord (.str z) = false := by
            show ((decide ((1 : Int) ≤ (z.length : Int)) && decide ((z.length : Int) ≤ 8)) && _) = false
            rw [Bool.not_eq_true'] at e2
            rw [e2, Bool.and_false, Bool.false_and]
          rw [e] at k
          exact k H (Same.refl H)
        · have e3 : decide ((z.length : Int) ≤ 8) = true := by rw [Bool.not_eq_false'] at e2; exact e2
          refine ⟨_, rfl, z, rfl, fun D nD => lc_it (Qd := fun H' => _) walk_str (LcP H D fun i => (z.cps.toList.take i).map fun c => V.bl (decide (c ∈ letters.cps.toList))) (LcP.zero nD rfl) (fun _ _ _ _ => trivial) ?_ ?_⟩
          · rintro i v H2 H3 hi p ⟨rfl, c, hc, rfl⟩
            have hc' : z.cps.toList[i]? = some c := by rw [Array.getElem?_toList]; exact hc
            refine ⟨rfl, _, rfl, c, letters, rfl, rfl, ?_⟩
            refine p.put nD (map_one _ hc') (line_of (m := 1000) ?_ (by decide))
            rw [List.length_map]
            exact Nat.le_trans (List.length_take_le' _ _) (by rw [Array.length_toList]; exact hz z rfl)
          · intro H2 p
            have e4 : ((z.cps.toList.take z.cps.size).map fun c => V.bl (decide (c ∈ letters.cps.toList))) = (signs z).map V.bl := by
              rw [List.take_of_length_le (by rw [Array.length_toList]; exact Nat.le_refl _)]
              unfold signs
              rw [List.map_map]
              rfl
            refine ⟨D, signs z, rfl, SqL.of (by rw [p.at_, e4]), ?_⟩
            have e : isWord (.str z) = (signs z).all id := by
              show ((decide ((1 : Int) ≤ (z.length : Int)) && decide ((z.length : Int) ≤ 8)) && _) = _
              rw [e1, e3, Bool.and_true, Bool.true_and]
            rw [e] at k
            exact k H2 p.same
      · have e : isWord (.str z) = false := by
          show ((decide ((1 : Int) ≤ (z.length : Int)) && decide ((z.length : Int) ≤ 8)) && _) = false
          rw [e1, Bool.false_and, Bool.false_and]
        rw [e] at k
        exact ⟨_, rfl, ifT rfl (k H (Same.refl H))⟩
    | bl b => exact ifT (by decide) (k H (Same.refl H))
    | non => exact ifT (by decide) (k H (Same.refl H))
    | int x => exact ifT (by decide) (k H (Same.refl H))
    | tup h => exact ifT (by decide) (k H (Same.refl H))
    | lst h => exact ifT (by decide) (k H (Same.refl H))
    | dct h => exact ifT (by decide) (k H (Same.refl H))

/-! is_one_of, are_unlike -/
def strsL (K : PySem.W.Frag) (H : Hp) (a : Addr) (ns : List Str) : Prop := SqL K H a (ns.map V.str) ∨ SqT K H a (ns.map V.str)
def isOne (ns : List Str) : V → Bool
  | .str z => decide (z ∈ ns)
  | _ => false
theorem inV_strs (z : Str) : ∀ ns : List Str, inV (.str z) (ns.map V.str) = decide (z ∈ ns)
  | [] => rfl
  | n :: ns => by
    have ih := inV_strs z ns
    show (eqV (.str n) (.str z) || inV (.str z) (ns.map V.str)) = decide (z ∈ n :: ns)
    rw [ih]
    have e : eqV (.str n) (.str z) = decide (n = z) := by
      first | rfl | (show (n == z) = decide (n = z); rfl) | (simp [eqV])
    rw [e]
    by_cases h : n = z
    · subst h
      simp
    · have h' : ¬ z = n := fun q => h q.symm
      simp [h, h']
theorem flat_strsV (ys : List Str) : (ys.map V.str).all flatV = true := by
  rw [List.all_eq_true]
  intro x hx
  obtain ⟨y, _, rfl⟩ := List.mem_map.mp hx
  rfl
def spOne (K : PySem.W.Frag) : Sp := fun vs H Q _ => ∃ a ns x T, vs = [.ref a, x] ∧ strsL K H a ns ∧ Ts K H x T ∧ Q (.bl (isOne ns x)) H
theorem cal_is_one_of (Z : All K mg) : Cal P w K mg base CX0 1 "is_one_of" ["names", "value"] (spOne K) := by
  obtain ⟨fd, F⟩ := Z.f_is_one_of
  refine .of ⟨fd, F, ok0 F sc_is_one_of (fun vs H Q E h => ?_) (fun cdv A outer s H vs Q E hr h => ?_)⟩ Z.g_is_one_of (fun _ _ _ _ _ _ us hl => match us, hl with | [_, _], _ => rfl)
  · obtain ⟨a, ns, x, T, rfl, _⟩ := h
    rfl
  · obtain ⟨a, ns, x, T, rfl, hn, hT, k⟩ := h
    refine ⟨_, pss_one (ps_ret (pe_and (pe_callB (call_is (cn := "str") (by decide)) (by rfl) Z.b_isinstance boot_isinstance (pa_cons (pv 1) (pa_cons (pe_bltn (v := .ty "str") (by rfl) Z.b_str PyProof.Rows.boot_str rfl) pa_nil)))
      (pe_one (pe_cmpR op_in_seq (pv 1) (pv 0) rfl)))), ?_⟩
    refine ⟨_, rfl, x, T, rfl, hT, _, rfl, ?_⟩
    cases hT with
    | str z =>
      refine ifT (by decide) ⟨_, rfl, _, rfl, a, ns.map V.str, rfl, hn, rfl, flat_strsV ns, ?_⟩
      show Q (.bl (inV (.str z) (ns.map V.str))) H
      rw [inV_strs]
      exact k
    | bl b => exact ifF (by decide) k
    | non => exact ifF (by decide) k
    | int x => exact ifF (by decide) k
    | tup h => exact ifF (by decide) k
    | lst h => exact ifF (by decide) k
    | dct h => exact ifF (by decide) k
end
end Rt
end
section
set_option Elab.async false
set_option linter.all false
set_option maxRecDepth 100000
set_option maxHeartbeats 4000000
/-! words: are_unlike -/
namespace Rt
open PySem PySem.Spec PyProof.Rows L2
theorem Ts.same {K : PySem.W.Frag} {H H' : Hp} {x : V} {T : String} (h : Ts K H x T) (e : Same H H') : Ts K H' x T := by
  cases h with
  | non => exact .non
  | bl b => exact .bl b
  | int i => exact .int i
  | str x => exact .str x
  | tup h => exact .tup (sqT_same e h)
  | lst h => exact .lst (e _ _ h)
  | dct h => exact .dct (e _ _ h)
theorem lenV_sq {K : PySem.W.Frag} {H : Hp} {a : Addr} {xs : List V} (h : Sq K H a xs) : LenV K (.ref a) H xs.length := by
  rcases h with h | h
  · exact .inl ⟨xs, h, rfl⟩
  · exact .inr ⟨xs, h, rfl⟩
def strOf : V → Option Str
  | .str z => some z
  | _ => none
def unlike (ns : List Str) (xs : List V) : Bool := !decide ((ns.length : Int) < (xs.length : Int)) && (xs.all (isOne ns) && decide ((xs.filterMap strOf).Nodup))
theorem strs_back {ns : List Str} : ∀ {xs : List V}, xs.all (isOne ns) = true → xs = (xs.filterMap strOf).map V.str
  | [], _ => rfl
  | x :: xs, h => by
    rw [List.all_cons, Bool.and_eq_true] at h
    cases x with
    | str z => exact congrArg (V.str z :: ·) (strs_back h.2)
    | _ => exact absurd h.1 (by simp [isOne])
def spUnlike (K : PySem.W.Frag) : Sp := fun vs H Q _ => ∃ a ns b xs, vs = [.ref a, .ref b] ∧ Sq K H a (ns.map V.str) ∧ Sq K H b xs ∧ (∀ x ∈ xs, ∃ T, Ts K H x T) ∧ xs.length ≤ 60 ∧ ns.length ≤ 60 ∧ ∀ H', Same H H' → Q (.bl (unlike ns xs)) H'
section
variable {P : Program} {w : World} {K : PySem.W.Frag} {mg : Str → Option Value} {base : Heap}
theorem cal_are_unlike (Z : All K mg) : Cal P w K mg base CX0 2 "are_unlike" ["names", "values"] (spUnlike K) := by
  obtain ⟨fd, F⟩ := Z.f_are_unlike
  have C1 : Cal P w K mg base CX0 1 "is_one_of" ["names", "value"] (spOne K) := cal_is_one_of Z
  refine .of ⟨fd, F, ok0 F sc_are_unlike (fun vs H Q E h => ?_) (fun cdv A outer s H vs Q E hr h => ?_)⟩ Z.g_are_unlike (fun _ _ _ _ _ _ us hl => match us, hl with | [_, _], _ => rfl)
  · obtain ⟨a, ns, b, xs, rfl, _⟩ := h
    rfl
  · obtain ⟨a, ns, b, xs, rfl, ha, hb, ht, hx, hn, k⟩ := h
    refine ⟨_, pss_cons (ps_if (PW.pt (pw_or (pt_cmpR op_gt (pe_callB call_len (by rfl) Z.b_len PySem.boot_len (pa_cons (pv 1) pa_nil)) (pe_callB call_len (by rfl) Z.b_len PySem.boot_len (pa_cons (pv 0) pa_nil)) (nomark _))
        (pw_or1 (pt_not (pt_val (pe_callB (cr_all rfl) (by rfl) Z.b_all boot_all (pa_cons (pe_lc (own := [("value", 2)]) (g := gName 2) (by rfl) sc_are_unlike.nd (pi_seq (pv 1)) (blkOk_by (own := [("value", 2)]) (N := ["names", "values", "value"]) (sc := defScope s_are_unlike) (by decide +kernel))
          (fun _ _ _ _ _ => pg_name (i := 2) sc_are_unlike.nd rfl (Or.inl rfl)) (fun _ _ _ _ _ => pts_nil) (fun _ _ _ _ _ => pe_cal C1 hr (by rfl) pass0 (pa_cons (pv 0) (pa_cons (pv 2) pa_nil)))) pa_nil))))))) (pss_one (ps_ret pe_bl)) pss_nil)
      (pss_one (ps_ret (pe_cmpR op_eq (pe_callB call_lenN (by rfl) Z.b_len PySem.boot_len (pa_cons (pe_callTy (call_setK rfl) (by rfl) Z.b_set PyProof.Rows.boot_set (pa_cons (pv 1) pa_nil)) pa_nil)) (pe_callB call_len (by rfl) Z.b_len PySem.boot_len (pa_cons (pv 1) pa_nil)) (nomark _)))), ?_⟩
    refine ⟨_, rfl, _, xs.length, rfl, lenV_sq hb, _, rfl, _, (ns.map V.str).length, rfl, lenV_sq ha, _, _, rfl, rfl, _, rfl, ?_⟩
    rw [List.length_map]
    refine ifB (fun e => ?_) (fun e => ?_)
    · have z : unlike ns xs = false := by
        unfold unlike
        rw [e]
        rfl
      rw [z] at k
      exact k H (Same.refl H)
    · refine ⟨_, rfl, b, rfl, ?_⟩
      refine lc_seq (K := K) hb (fun i => (xs.take i).map fun x => V.bl (isOne ns x)) rfl (fun D nD i x H2 hi p => ?_) fun D H2 nD s2 at2 => ?_
      · obtain ⟨T, t⟩ := ht x (List.mem_of_getElem? hi)
        refine ⟨rfl, _, rfl, _, rfl, a, ns, x, T, rfl, ha.same p.same, t.same p.same, ?_⟩
        refine p.put nD (map_one _ hi) (line_of (m := 60) ?_ (by decide))
        rw [List.length_map]
        exact Nat.le_trans (List.length_take_le' _ _) hx
      · refine ⟨D, xs.map (isOne ns), rfl, SqL.of (by rw [at2, List.take_length, List.map_map]; rfl), _, rfl, ?_⟩
        have e1 : (xs.map (isOne ns)).all id = xs.all (isOne ns) := by simp [List.all_map]
        rw [e1]
        refine ifB (fun e2 => ?_) (fun e2 => ?_)
        · have z : unlike ns xs = false := by
            unfold unlike
            rw [Bool.not_eq_true'] at e2
            rw [e2, Bool.false_and, Bool.and_false]
          rw [z] at k
          exact k H2 s2
        · rw [Bool.not_eq_false'] at e2
          have back := strs_back e2
          have hb2 : Sq K H2 b (((xs.filterMap strOf).map Sum.inr).map kV) := by
            rw [List.map_map]
            show Sq K H2 b ((xs.filterMap strOf).map V.str)
            rw [← back]
            exact hb.same s2
          have hl : (xs.filterMap strOf).length = xs.length := by
            have q := congrArg List.length back
            rw [List.length_map] at q
            exact q.symm
          refine ⟨_, rfl, b, (xs.filterMap strOf).map Sum.inr, rfl, hb2, by rw [List.length_map, hl]; exact hx, fun p np => ?_⟩
          have le : cnt ((xs.filterMap strOf).map (Sum.inr : Str → Key)) ≤ 60 := by
            have q := cnt_le ((xs.filterMap strOf).map (Sum.inr : Str → Key))
            rw [List.length_map, hl] at q
            omega
          refine ⟨p, _, rfl, upd_same, by omega, _, rfl, _, xs.length, rfl, lenV_sq ((hb.same s2).same (Same.new np)), rfl, ?_⟩
          have z : unlike ns xs = decide (V.int ((cnt ((xs.filterMap strOf).map (Sum.inr : Str → Key)) : Nat) : Int) = V.int ((xs.length : Nat) : Int)) := by
            unfold unlike
            rw [e, e2, Bool.not_false, Bool.true_and, Bool.true_and]
            have q := cnt_nd ((xs.filterMap strOf).map (Sum.inr : Str → Key))
            rw [List.length_map, hl] at q
            have q2 : ((xs.filterMap strOf).map (Sum.inr : Str → Key)).Nodup ↔ (xs.filterMap strOf).Nodup := ⟨fun h => List.Pairwise.of_map Sum.inr (fun _ _ hne e => hne (congrArg _ e)) h, fun h => List.Pairwise.map Sum.inr (fun _ _ hne e => hne (Sum.inr.inj e)) h⟩
            have q3 : (V.int ((cnt ((xs.filterMap strOf).map (Sum.inr : Str → Key)) : Nat) : Int) = V.int ((xs.length : Nat) : Int)) ↔ (xs.filterMap strOf).Nodup := by
              rw [← q2, ← q]
              constructor
              · intro h
                injection h with h
                omega
              · intro h
                rw [h]
            by_cases d : (xs.filterMap strOf).Nodup
            · rw [decide_eq_true d, decide_eq_true (q3.mpr d)]
            · rw [decide_eq_false d, decide_eq_false fun h => d (q3.mp h)]
          rw [z] at k
          exact k _ (s2.trans (Same.new np))
end
end Rt
end
section
set_option Elab.async false
set_option linter.all false
set_option maxRecDepth 100000
set_option maxHeartbeats 4000000
/-! the draws: pool, take, one, turned -/
namespace Rt
open PySem PySem.Spec PyProof.Rows L2
/-- a pool of two numbers -/
def PoolAt (H : Hp) (p : Addr) : Prop := ∃ x y : Int, H p = some (.lst [.int x, .int y]) ∧ 0 ≤ x ∧ 0 ≤ y ∧ y < 2147483647
/-- the pool has turned, all else stands -/
structure Aft (p : Addr) (H H' : Hp) : Prop where
  pool : PoolAt H' p
  keep : ∀ b o, b ≠ p → H b = some o → H' b = some o
theorem Aft.trans {p : Addr} {H H1 H2 : Hp} (a : Aft p H H1) (b : Aft p H1 H2) : Aft p H H2 := ⟨b.pool, fun c o n h => b.keep c o n (a.keep c o n h)⟩
theorem Aft.refl {p : Addr} {H : Hp} (h : PoolAt H p) : Aft p H H := ⟨h, fun _ _ _ h => h⟩
theorem Aft.new {p q : Addr} {H H' : Hp} {o : HO} (a : Aft p H H') (n : H' q = none) : Aft p H (upd H' q o) := by
  obtain ⟨x, y, h, r⟩ := a.pool
  refine ⟨⟨x, y, Same.new n _ _ h, r⟩, fun b u nb hb => Same.new n _ _ (a.keep b u nb hb)⟩
theorem Aft.same {p : Addr} {H H1 H2 : Hp} (a : Aft p H H1) (s : Same H1 H2) : Aft p H H2 := by
  obtain ⟨x, y, h, r⟩ := a.pool
  exact ⟨⟨x, y, s _ _ h, r⟩, fun b u nb hb => s _ _ (a.keep b u nb hb)⟩
def spTake : Sp := fun vs H Q _ => ∃ (p : Addr) (n : Int), vs = [.ref p, .int n] ∧ PoolAt H p ∧ 0 < n ∧ n < 1073741824 ∧ ∀ (r : Int) H', 0 ≤ r → r < n → Aft p H H' → Q (.int r) H'
section
variable {P : Program} {w : World} {K : PySem.W.Frag} {mg : Str → Option Value} {base : Heap}
theorem cal_law_take (Z : All K mg) : Cal P w K mg base CX0 1 "_law_take" ["_law_pool_here", "_law_bound"] spTake := by
  obtain ⟨fd, F⟩ := Z.f_law_take
  refine .of ⟨fd, F, ok0 F sc_law_take (fun vs H Q E h => ?_) (fun cdv A outer s H vs Q E hr h => ?_)⟩ Z.g_law_take (fun _ _ _ _ _ _ us hl => match us, hl with | [_, _], _ => rfl)
  · obtain ⟨p, n, rfl, _⟩ := h
    rfl
  · obtain ⟨p, n, rfl, ⟨x, y, hp, x0, y0, y1⟩, n0, n1, k⟩ := h
    refine ⟨_, (pss_cons (ps_if (pt_cmpR op_gt (pe_ix ix_list (pv 0) pe_int (fun _ _ => rfl)) pe_int (nomark _)) (pss_cons (ps_set (i := 2) sc_law_take.nd rfl (Or.inl rfl) (pe_op op_mod (pe_callTy call_int1 (by rfl) Z.b_int PyProof.Rows.boot_int (pa_cons (pe_ix ix_list (pv 0) pe_int (fun _ _ => rfl)) pa_nil)) (pv 1)))
      (pss_cons (ps_asg (pe_op op_fdiv (pe_ix ix_list (pv 0) pe_int (fun _ _ => rfl)) (pv 1)) (pg_sub (pv 0) pe_int L2.set_list))
      (pss_one (ps_ret (pv 2))))) pss_nil)
      (pss_cons (ps_asg (pe_op op_mod (pe_callTy call_int1 (by rfl) Z.b_int PyProof.Rows.boot_int (pa_cons (pe_op op_add (pe_op op_mul (pe_ix ix_list (pv 0) pe_int (fun _ _ => rfl)) pe_int) pe_int) pa_nil)) pe_int) (pg_sub (pv 0) pe_int L2.set_list))
      (pss_one (ps_ret (pe_op op_mod (pe_callTy call_int1 (by rfl) Z.b_int PyProof.Rows.boot_int (pa_cons (pe_op op_fdiv (pe_op op_mod (pe_callTy call_int1 (by rfl) Z.b_int PyProof.Rows.boot_int (pa_cons (pe_op op_mul (pe_ix ix_list (pv 0) pe_int (fun _ _ => rfl)) (pe_ix ix_list (pv 0) pe_int (fun _ _ => rfl))) pa_nil)) pe_int) pe_int) pa_nil)) (pv 1)))))), ?_⟩
    refine ⟨_, rfl, p, _, _, _, rfl, rfl, SqL.of hp, rfl, _, _, rfl, rfl, _, rfl, ?_⟩
    refine ifB (fun e => ?_) (fun e => ?_)
    · refine ⟨_, rfl, p, _, _, _, rfl, rfl, SqL.of hp, rfl, .inl ⟨_, rfl, _, rfl, _, _, rfl, rfl, n0, ?_⟩⟩
      refine ⟨_, rfl, p, _, _, _, rfl, rfl, SqL.of hp, rfl, _, rfl, _, _, rfl, rfl, ⟨n0, n1⟩, _, rfl, p, _, _, 0, rfl, rfl, hp, rfl, _, rfl, ?_⟩
      refine k _ _ (Int.emod_nonneg _ (by omega)) (Int.emod_lt_of_pos _ n0) ⟨⟨x / n, y, upd_same, Int.ediv_nonneg x0 (by omega), y0, y1⟩, fun b o nb hb => ?_⟩
      rw [upd_ne nb]
      exact hb
    · refine ⟨_, rfl, p, _, _, _, rfl, rfl, SqL.of hp, rfl, _, _, rfl, rfl, .inl ⟨by omega, by omega⟩, _, _, rfl, rfl, .inl ⟨_, rfl, _, _, rfl, rfl, (by show (0 : Int) < 2147483647; decide), ?_⟩⟩
      refine ⟨_, rfl, p, _, _, 1, rfl, rfl, hp, rfl, ?_⟩
      have z0 : 0 ≤ (y * 39373 + 7) % 2147483647 := Int.emod_nonneg _ (by decide)
      have z1 : (y * 39373 + 7) % 2147483647 < 2147483647 := Int.emod_lt_of_pos _ (by decide)
      have hp2 : (upd H p (.lst ([V.int x, V.int y].set 1 (.int ((y * 39373 + 7) % 2147483647))))) p = some (.lst [.int x, .int ((y * 39373 + 7) % 2147483647)]) := upd_same
      refine ⟨_, rfl, p, _, _, _, rfl, rfl, SqL.of hp2, rfl, _, rfl, p, _, _, _, rfl, rfl, SqL.of hp2, rfl, _, _, rfl, rfl, .inl ⟨by omega, by omega⟩, .inl ⟨_, rfl, _, _, rfl, rfl, (by show (0 : Int) < 2147483629; decide), ?_⟩⟩
      refine ⟨_, _, rfl, rfl, ⟨by decide, by decide⟩, .inl ⟨_, rfl, _, rfl, _, _, rfl, rfl, n0, ?_⟩⟩
      refine k _ _ (Int.emod_nonneg _ (by omega)) (Int.emod_lt_of_pos _ n0) ⟨⟨x, _, hp2, x0, z0, z1⟩, fun b o nb hb => ?_⟩
      rw [upd_ne nb]
      exact hb
end
end Rt
end
section
set_option Elab.async false
set_option linter.all false
set_option maxRecDepth 100000
set_option maxHeartbeats 4000000
namespace Rt
open PySem PySem.Spec PyProof.Rows L2
theorem Aft.sqL {K : PySem.W.Frag} {p b : Addr} {H H' : Hp} {xs : List V} (a : Aft p H H') (h : SqL K H b xs) (n : b ≠ p) : SqL K H' b xs := by
  rcases h with (h | ⟨o, h⟩) | h
  · exact .inl (.inl (a.keep _ _ n h))
  · exact .inl (.inr ⟨o, a.keep _ _ n h⟩)
  · exact .inr h
theorem Aft.sqT {K : PySem.W.Frag} {p b : Addr} {H H' : Hp} {xs : List V} (a : Aft p H H') (h : SqT K H b xs) (n : b ≠ p) : SqT K H' b xs := by
  rcases h with (h | ⟨o, h⟩) | h
  · exact .inl (.inl (a.keep _ _ n h))
  · exact .inl (.inr ⟨o, a.keep _ _ n h⟩)
  · exact .inr h
theorem PoolAt.same {p : Addr} {H H' : Hp} (h : PoolAt H p) (s : Same H H') : PoolAt H' p := let ⟨x, y, e, r⟩ := h; ⟨x, y, s _ _ e, r⟩
theorem PoolAt.ne {p q : Addr} {H : Hp} (h : PoolAt H p) (n : H q = none) : q ≠ p := fun e => by
  obtain ⟨x, y, hp, _⟩ := h
  rw [e, hp] at n
  cases n
theorem atI_of {xs : List V} {r : Int} (h0 : 0 ≤ r) (h1 : r < xs.length) : ∃ i x, xs[i]? = some x ∧ atI xs r = some x ∧ r = (i : Nat) := by
  have l : r.toNat < xs.length := by omega
  have e : r = (r.toNat : Int) := by omega
  exact ⟨r.toNat, xs[r.toNat], List.getElem?_eq_getElem l, at_of e (List.getElem?_eq_getElem l), e⟩
def spPool (K : PySem.W.Frag) : Sp := fun vs H Q _ => ∃ (a : Addr) (ns : List Int) (k : Int), vs = [.ref a, .int k] ∧ SqL K H a (ns.map V.int) ∧ 0 ≤ k ∧ k ≤ 100 ∧ ∀ p H', H p = none → Same H H' → PoolAt H' p → Q (.ref p) H'
def spLone (K : PySem.W.Frag) : Sp := fun vs H Q _ => ∃ (p b : Addr) (xs : List V), vs = [.ref p, .ref b] ∧ PoolAt H p ∧ SqL K H b xs ∧ b ≠ p ∧ 0 < xs.length ∧ xs.length ≤ 1000 ∧ ∀ x H', x ∈ xs → Aft p H H' → Q x H'
def spTurned (K : PySem.W.Frag) : Sp := fun vs H Q _ => ∃ (p b : Addr) (zs : List Str), vs = [.ref p, .ref b] ∧ PoolAt H p ∧ SqL K H b (zs.map V.str) ∧ (∀ z ∈ zs, PyData.strOk z = true) ∧ b ≠ p ∧ zs.length ≤ 1000 ∧ ∀ (q : Addr) (ys : List Str) (H' : Hp), H q = none → Aft p H H' → H' q = some (.lst (ys.map V.str)) → ys.Perm zs → Q (.ref q) H'
section
variable {P : Program} {w : World} {K : PySem.W.Frag} {mg : Str → Option Value} {base : Heap}
theorem cal_law_one (Z : All K mg) : Cal P w K mg base CX0 2 "_law_one" ["_law_pool_here", "_law_things"] (spLone K) := by
  obtain ⟨fd, F⟩ := Z.f_law_one
  have C_law_take : Cal P w K mg base CX0 1 "_law_take" ["_law_pool_here", "_law_bound"] spTake := cal_law_take Z
  refine .of ⟨fd, F, ok0 F sc_law_one (fun vs H Q E h => ?_) (fun cdv A outer s H vs Q E hr h => ?_)⟩ Z.g_law_one (fun _ _ _ _ _ _ us hl => match us, hl with | [_, _], _ => rfl)
  · obtain ⟨p, b, xs, rfl, _⟩ := h
    rfl
  · obtain ⟨p, b, xs, rfl, hp, hb, nb, x0, x1, k⟩ := h
    refine ⟨_, (pss_one (ps_ret (pe_ix ix_list (pv 1) (pe_cal C_law_take (hr.mono (by decide)) (by rfl) pass0 (pa_cons (pv 0) (pa_cons (pe_callB call_len (by rfl) Z.b_len PySem.boot_len (pa_cons (pv 1) pa_nil)) pa_nil))) (fun _ _ => rfl)))), ?_⟩
    refine ⟨_, rfl, _, rfl, _, rfl, _, xs.length, rfl, .inl ⟨xs, hb, rfl⟩, p, _, rfl, hp, by omega, by omega, fun r H' r0 r1 a => ?_⟩
    obtain ⟨i, x, hx, e, _⟩ := atI_of r0 r1
    exact ⟨b, xs, r, x, rfl, rfl, a.sqL hb nb, e, k x H' (List.mem_of_getElem? hx) a⟩
theorem cal_law_pool (Z : All K mg) : Cal P w K mg base CX0 1 "_law_pool" ["_law_script", "_law_k"] (spPool K) := by
  obtain ⟨fd, F⟩ := Z.f_law_pool
  refine .of ⟨fd, F, ok0 F sc_law_pool (fun vs H Q E h => ?_) (fun cdv A outer s H vs Q E hr h => ?_)⟩ Z.g_law_pool (fun _ _ _ _ _ _ us hl => match us, hl with | [_, _], _ => rfl)
  · obtain ⟨a, ns, k, rfl, _⟩ := h
    rfl
  · obtain ⟨a, ns, i, rfl, ha, i0, i1, k⟩ := h
    refine ⟨_, (pss_cons (ps_set (i := 2) sc_law_pool.nd rfl (Or.inl rfl) pe_int)
      (pss_cons (ps_if (pt_cmpR op_lt (pv 1) (pe_callB call_len (by rfl) Z.b_len PySem.boot_len (pa_cons (pv 0) pa_nil)) (nomark _)) (pss_one (ps_set (i := 2) sc_law_pool.nd rfl (Or.inl rfl) (pe_ix ix_list (pv 0) (pv 1) (fun _ _ => rfl)))) pss_nil)
      (pss_cons (ps_set (i := 3) sc_law_pool.nd rfl (Or.inl rfl) (pe_callB (call_max2 rfl) (by rfl) Z.b_max PyProof.Rows.boot_max (pa_cons (pe_callTy call_int1 (by rfl) Z.b_int PyProof.Rows.boot_int (pa_cons (pv 2) pa_nil)) (pa_cons (pe_callTy call_int1 (by rfl) Z.b_int PyProof.Rows.boot_int (pa_cons (pe_op op_sub (pe_un un_neg pe_int) (pv 2)) pa_nil)) pa_nil))))
      (pss_cons (ps_set (i := 4) sc_law_pool.nd rfl (Or.inl rfl) (pe_op op_mod (pe_callTy call_int1 (by rfl) Z.b_int PyProof.Rows.boot_int (pa_cons (pe_op op_mul (pe_op op_add (pe_op op_add (pe_op op_add (pe_op op_mod (pe_callTy call_int1 (by rfl) Z.b_int PyProof.Rows.boot_int (pa_cons (pv 3) pa_nil)) pe_int) (pe_op op_mul (pe_op op_mul pe_int (pv 1)) (pv 1))) (pe_op op_mul pe_int (pv 1))) pe_int) pe_int) pa_nil)) pe_int))
      (pss_one (ps_ret (pe_lst (pa_cons (pe_op op_mul (pv 3) (pe_callTy call_int1 (by rfl) Z.b_int PyProof.Rows.boot_int (pa_cons (pe_cmpR op_ge (pv 3) (pe_op op_pow pe_int pe_int) (nomark _)) pa_nil))) (pa_cons (pv 4) pa_nil))))))))), ?_⟩
    have two64 : (2 : Int) ^ 64 = 18446744073709551616 := by decide
    have fin : ∀ (c : Int) (p : Addr), H p = none → ∀ z : Int, 0 ≤ z → z < 2147483647 → ∀ g : Bool, PoolAt (upd H p (.lst [.int ((if -1 - c > c then -1 - c else c) * (if g then 1 else 0)), .int z])) p := fun c p np z z0 z1 g => by
      refine ⟨_, _, upd_same, ?_, z0, z1⟩
      refine Int.mul_nonneg ?_ ?_
      · split <;> omega
      · split <;> decide
    have b2 : ∀ g : Bool, (-(2 ^ 64) : Int) < (if g = true then 1 else 0) ∧ (if g = true then (1 : Int) else 0) < 2 ^ 64 := fun g => by cases g <;> decide
    have md : ∀ x : Int, 0 ≤ x % 2147483647 ∧ x % 2147483647 < 2147483647 := fun x => ⟨Int.emod_nonneg _ (by decide), Int.emod_lt_of_pos _ (by decide)⟩
    refine ⟨_, rfl, _, rfl, _, (ns.map V.int).length, rfl, .inl ⟨_, ha, rfl⟩, _, _, rfl, rfl, _, rfl, ?_⟩
    refine ifB (fun e => ?_) (fun e => ?_)
    · have lt : i < ((ns.map V.int).length : Int) := of_decide_eq_true e
      obtain ⟨j, x, hx, at_, _⟩ := atI_of i0 lt
      obtain ⟨c, rfl⟩ : ∃ c, x = .int c := by
        obtain ⟨c, _, rfl⟩ := List.mem_map.mp (List.mem_of_getElem? hx)
        exact ⟨c, rfl⟩
      refine ⟨_, rfl, _, rfl, a, _, _, _, rfl, rfl, ha, at_, ?_⟩
      refine ⟨_, rfl, .inl ⟨_, rfl, _, rfl, _, rfl, _, _, rfl, rfl, .inl ⟨_, rfl, _, _, rfl, ?_⟩⟩⟩
      refine ⟨_, rfl, .inl ⟨_, rfl, _, _, rfl, rfl, (by show (0 : Int) < 2147483629; decide), _, rfl, _, _, rfl, rfl, .inl ⟨by decide, by decide⟩, _, rfl, _, _, rfl, rfl, .inr ⟨by rw [two64]; omega, by rw [two64]; omega⟩, _, _, rfl, rfl, ?_⟩⟩
      refine ⟨_, rfl, _, _, rfl, rfl, .inl ⟨by decide, by decide⟩, _, _, rfl, rfl, _, _, rfl, rfl, _, _, rfl, rfl, .inr ⟨by decide, by decide⟩, .inl ⟨_, rfl, _, _, rfl, rfl, (by show (0 : Int) < 2147483647; decide), ?_⟩⟩
      refine ⟨_, rfl, _, rfl, _, _, rfl, rfl, ⟨by decide, by decide, by decide⟩, _, _, rfl, rfl, .inr ⟨_, rfl, _, _, rfl, rfl, .inr (b2 _), _, rfl, (by show 2 ≤ sizeLine; decide), fun p np => ?_⟩⟩
      exact k p _ np (Same.new np) (fin c p np _ (md _).1 (md _).2 _)
    · refine ⟨_, rfl, .inl ⟨_, rfl, _, rfl, _, rfl, _, _, rfl, rfl, .inl ⟨_, rfl, _, _, rfl, ?_⟩⟩⟩
      refine ⟨_, rfl, .inl ⟨_, rfl, _, _, rfl, rfl, (by show (0 : Int) < 2147483629; decide), _, rfl, _, _, rfl, rfl, .inl ⟨by decide, by decide⟩, _, rfl, _, _, rfl, rfl, .inr ⟨by rw [two64]; omega, by rw [two64]; omega⟩, _, _, rfl, rfl, ?_⟩⟩
      refine ⟨_, rfl, _, _, rfl, rfl, .inl ⟨by decide, by decide⟩, _, _, rfl, rfl, _, _, rfl, rfl, _, _, rfl, rfl, .inr ⟨by decide, by decide⟩, .inl ⟨_, rfl, _, _, rfl, rfl, (by show (0 : Int) < 2147483647; decide), ?_⟩⟩
      refine ⟨_, rfl, _, rfl, _, _, rfl, rfl, ⟨by decide, by decide, by decide⟩, _, _, rfl, rfl, .inr ⟨_, rfl, _, _, rfl, rfl, .inr (b2 _), _, rfl, (by show 2 ≤ sizeLine; decide), fun p np => ?_⟩⟩
      exact k p _ np (Same.new np) (fin 0 p np _ (md _).1 (md _).2 _)

theorem six_of {r : Int} {n : Nat} (h0 : 0 ≤ r) (h1 : r < n) : seqIndex? r n = some r.toNat := by
  have h2 : ¬ r < 0 := by omega
  unfold seqIndex?
  simp [h2, h0, h1]
theorem erase_map {α β : Type} (f : α → β) : ∀ (l : List α) (i : Nat), (l.map f).eraseIdx i = (l.eraseIdx i).map f
  | [], _ => rfl
  | _ :: _, 0 => rfl
  | x :: l, i + 1 => congrArg (f x :: ·) (erase_map f l i)
theorem eqv_nil (zs : List Str) : PyData.eqv (.list (zs.map PyData.str)) (.list []) = zs.isEmpty := by
  cases zs with
  | nil => simp [PyData.eqv, PyData.eqvAll]
  | cons z zs => simp [PyData.eqv, PyData.eqvAll]
def Oks (zs : List Str) : Prop := ∀ z ∈ zs, PyData.strOk z = true
theorem lay_strs : ∀ {zs : List Str}, Oks zs → PyData.canLayAll0 (zs.map PyData.str) = true ∧ PyData.depthAll (zs.map PyData.str) ≤ 1
  | [], _ => ⟨by simp [PyData.canLayAll0], by simp [PyData.depthAll]⟩
  | z :: zs, h => by
    obtain ⟨h1, h2⟩ := lay_strs (zs := zs) fun y hy => h y (List.mem_cons_of_mem _ hy)
    have h3 := h z List.mem_cons_self
    refine ⟨by simp [PyData.canLayAll0, PyData.canLay0, h3, h1], ?_⟩
    simp only [List.map_cons, PyData.depthAll, PyData.depth]
    omega
theorem shaped_strs {zs : List Str} (h : Oks zs) : SeqAt.shaped (.list (zs.map PyData.str)) = true := by
  obtain ⟨h1, h2⟩ := lay_strs h
  show (PyData.canLay0 (.list (zs.map PyData.str)) && decide (PyData.depth (.list (zs.map PyData.str)) ≤ 64)) = true
  rw [Bool.and_eq_true]
  exact ⟨by simp only [PyData.canLay0]; exact h1, decide_eq_true (by simp only [PyData.depth]; omega)⟩
theorem dpAll_strs {K : PySem.W.Frag} {H : Hp} : ∀ zs : List Str, DpAll K H (zs.map V.str) (zs.map PyData.str)
  | [] => .nil
  | z :: zs => .cons (.str z) (dpAll_strs zs)
theorem dp_strs {K : PySem.W.Frag} {H : Hp} {a : Addr} {zs : List Str} (h : SqL K H a (zs.map V.str)) : Dp K H (.ref a) (.list (zs.map PyData.str)) := .lst h (dpAll_strs zs)

theorem cal_law_turned (Z : All K mg) : Cal P w K mg base CX0 2 "_law_turned" ["_law_pool_here", "_law_things"] (spTurned K) := by
  obtain ⟨fd, F⟩ := Z.f_law_turned
  have C_law_take : Cal P w K mg base CX0 1 "_law_take" ["_law_pool_here", "_law_bound"] spTake := cal_law_take Z
  refine .of ⟨fd, F, ok0 F sc_law_turned (fun vs H Q E h => ?_) (fun cdv A outer s H vs Q E hr h => ?_)⟩ Z.g_law_turned (fun _ _ _ _ _ _ us hl => match us, hl with | [_, _], _ => rfl)
  · obtain ⟨p, b, zs, rfl, _⟩ := h
    rfl
  · obtain ⟨p, b, zs, rfl, hp, hb, oks, nb, x1, k⟩ := h
    refine ⟨_, (pss_cons (ps_par (i := 2) (j := 3) (by rfl) sc_law_turned.nd rfl rfl (by decide) rfl rfl (pa_cons (pe_callTy call_list_of (by rfl) Z.b_list PyProof.Rows.boot_list (pa_cons (pv 1) pa_nil)) (pa_cons (pe_lst pa_nil) pa_nil)) (by rfl))
      (pss_cons (ps_while PassesOwn.never (pt_cmpR (op_neD hr.units) (pv 2) (pe_lst pa_nil) (nomark _)) (pss_one (ps_expr (pe_bm PySem.F.plainAttrs_list PySem.F.slot_list_append PySem.F.type_list_append mt_append (pv 3) (pa_cons (pe_bm PySem.F.plainAttrs_list PySem.F.slot_list_pop PySem.F.type_list_pop mt_popAt (pv 2) (pa_cons (pe_cal C_law_take (hr.mono (by decide)) (by rfl) pass0 (pa_cons (pv 0) (pa_cons (pe_callB call_len (by rfl) Z.b_len PySem.boot_len (pa_cons (pv 2) pa_nil)) pa_nil))) pa_nil)) pa_nil)))))
      (pss_one (ps_ret (pv 3))))), ?_⟩
    refine ⟨_, rfl, b, _, rfl, .inl hb, fun l nl => ?_⟩
    refine ⟨(by show 0 ≤ sizeLine; decide), fun f nf => ⟨_, _, rfl, ?_⟩⟩
    have s1 : Same H (upd H l (.lst (zs.map V.str))) := Same.new nl
    have nf0 : H f = none := s1.free nf
    have nlf : l ≠ f := fun e => by
      rw [e] at nf
      rw [upd_same] at nf
      cases nf
    have npl : l ≠ p := hp.ne nl
    have npf : f ≠ p := hp.ne nf0
    refine while_by (fun σ H2 => ∃ us ws, σ = [some (.ref p), some (.ref b), some (.ref l), some (.ref f)] ∧ Aft p H H2 ∧ H2 l = some (.lst (us.map V.str)) ∧ H2 f = some (.lst (ws.map V.str)) ∧ (ws ++ us).Perm zs)
      (fun σ H2 => match H2 l with | some (.lst xs) => xs.length | _ => 0) ⟨zs, [], rfl, ⟨(hp.same s1).same (Same.new nf), fun b o _ hb => Same.new nf _ _ (s1 _ _ hb)⟩, by rw [upd_ne nlf]; exact upd_same, upd_same, by simp⟩ ?_ ?_
    · rintro σ H2 ⟨us, ws, rfl, af, hl, hf, pm⟩
      have okU : Oks us := fun z hz => oks z (pm.mem_iff.mp (List.mem_append_right _ hz))
      have len : ws.length + us.length = zs.length := by
        have q := pm.length_eq
        rw [List.length_append] at q
        exact q
      refine ⟨_, rfl, (by show 0 ≤ sizeLine; decide), fun e ne => ⟨.list (us.map PyData.str), .list [], dp_strs (SqL.of (Same.new ne _ _ hl)), .lst (SqL.of upd_same) .nil, shaped_strs okU, by decide +kernel, _, rfl, ?_⟩⟩
      rw [eqv_nil]
      have af2 := af.new (o := .lst []) ne
      have hl2 : (upd H2 e (.lst [])) l = some (.lst (us.map V.str)) := Same.new ne _ _ hl
      have hf2 : (upd H2 e (.lst [])) f = some (.lst (ws.map V.str)) := Same.new ne _ _ hf
      cases us with
      | nil =>
        exact ⟨_, rfl, k f ws _ nf0 af2 hf2 (by rw [List.append_nil] at pm; exact pm)⟩
      | cons u us =>
        refine ⟨_, rfl, .inl ⟨rfl, _, SqL.of hf2⟩, _, rfl, .inl ⟨rfl, _, SqL.of hl2⟩, _, rfl, _, rfl, _, _, rfl, .inl ⟨_, SqL.of hl2, rfl⟩, ?_⟩
        refine ⟨p, _, rfl, af2.pool, by simp only [List.length_map, List.length_cons]; omega, by simp only [List.length_map, List.length_cons] at len ⊢; omega, fun r H3 r0 r1 af3 => ?_⟩
        have hl3 := af3.keep _ _ npl hl2
        have hf3 := af3.keep _ _ npf hf2
        obtain ⟨i, x, hx, _, er⟩ := atI_of (xs := (u :: us).map V.str) r0 r1
        have il : i < (u :: us).length := by
          have q := (List.getElem?_eq_some_iff.mp hx).1
          rw [List.length_map] at q
          exact q
        obtain ⟨z, rfl, hz⟩ : ∃ z, x = .str z ∧ (u :: us)[i]? = some z := by
          rw [List.getElem?_map] at hx
          cases q : (u :: us)[i]? with
          | none => rw [q] at hx; cases hx
          | some z =>
            rw [q] at hx
            exact ⟨z, (Option.some.inj hx).symm, rfl⟩
        have big : ((u :: us).length : Int) < 2 ^ 63 := by
          simp only [List.length_cons] at len ⊢
          omega
        have six : seqIndex? r ((u :: us).map V.str).length = some i := by
          rw [six_of r0 r1, er]
          rfl
        refine ⟨l, _, r, i, .str z, rfl, rfl, hl3, by omega, by rw [List.length_map] at r1; omega, six, hx, f, _, _, rfl, rfl, by rw [upd_ne (Ne.symm nlf)]; exact hf3, ?_, ?_⟩
        · rw [List.length_map]
          exact line_of (m := 1000) (by omega) (by decide)
        · have er2 : ((u :: us).map V.str).eraseIdx i = ((u :: us).eraseIdx i).map V.str := erase_map _ _ _
          have hl4 : (upd (upd H3 l (.lst (((u :: us).map V.str).eraseIdx i))) f (.lst (ws.map V.str ++ [.str z]))) l = some (.lst (((u :: us).eraseIdx i).map V.str)) := by
            rw [upd_ne nlf, upd_same, er2]
          refine ⟨⟨(u :: us).eraseIdx i, ws ++ [z], rfl, ?_, hl4, by rw [upd_same]; simp, ?_⟩, ?_⟩
          · have af4 := af2.trans af3
            obtain ⟨x', y', hp', r'⟩ := af4.pool
            refine ⟨⟨x', y', by rw [upd_ne (Ne.symm npf), upd_ne (Ne.symm npl)]; exact hp', r'⟩, fun c o nc hc => ?_⟩
            rw [upd_ne (ne_of_none hc nf0), upd_ne (ne_of_none hc nl)]
            exact af4.keep c o nc hc
          · have pe : (z :: (u :: us).eraseIdx i).Perm (u :: us) := L2.erase_perm _ _ _ hz
            have q : (ws ++ [z] ++ (u :: us).eraseIdx i).Perm (ws ++ (u :: us)) := by
              rw [List.append_assoc]
              exact List.Perm.append_left ws pe
            exact q.trans pm
          · show (match (upd (upd H3 l _) f _) l with | some (HO.lst xs) => xs.length | x => 0) < (match H2 l with | some (HO.lst xs) => xs.length | x => 0)
            rw [hl4, hl]
            show (((u :: us).eraseIdx i).map V.str).length < ((u :: us).map V.str).length
            rw [List.length_map, List.length_map, List.length_eraseIdx_of_lt il]
            omega
    · intro σ H2 Q1 Q2 hq hc
      obtain ⟨v, e1, z, hc⟩ := hc
      refine ⟨v, e1, z, fun e ne => ?_⟩
      obtain ⟨d1, d2, a1, a2, a3, a4, kk, e2, q⟩ := hc e ne
      exact ⟨d1, d2, a1, a2, a3, a4, kk, e2, hq _ _ q⟩
end
end Rt
end
section
set_option Elab.async false
set_option linter.all false
set_option maxRecDepth 100000
set_option maxHeartbeats 8000000
namespace Rt
open PySem PySem.Spec PyProof.Rows L2
/-! ### tuples stay -/
def Tk (H H' : Hp) : Prop := ∀ b xs, H b = some (.tup xs) → H' b = some (.tup xs)
theorem Tk.refl (H : Hp) : Tk H H := fun _ _ h => h
theorem Tk.trans {H H1 H2 : Hp} (a : Tk H H1) (b : Tk H1 H2) : Tk H H2 := fun c xs h => b c xs (a c xs h)
theorem Tk.of {H H' : Hp} (s : Same H H') : Tk H H' := fun b xs h => s b _ h
theorem Tk.new {H : Hp} {q : Addr} {o : HO} (n : H q = none) : Tk H (upd H q o) := .of (Same.new n)
theorem Tk.lst {H : Hp} {q : Addr} {xs : List V} {o : HO} (h : H q = some (.lst xs)) : Tk H (upd H q o) := fun b ys hb => by
  rw [upd_ne (ne_of hb h (by intro z; cases z))]
  exact hb
theorem Aft.tk {p : Addr} {H H' : Hp} (a : Aft p H H') (h : PoolAt H p) : Tk H H' := fun b xs hb => by
  obtain ⟨x, y, hp, _⟩ := h
  exact a.keep b _ (ne_of hb hp (by intro z; cases z)) hb
theorem Aft.free {p b : Addr} {H H' : Hp} (a : Aft p H H') (h : H' b = none) : b = p ∨ H b = none := by
  by_cases e : b = p
  · exact .inl e
  · refine .inr ?_
    cases q : H b with
    | none => rfl
    | some o =>
      rw [a.keep b o e q] at h
      cases h
theorem Aft.free' {p b : Addr} {H H' : Hp} (a : Aft p H H') (h : H' b = none) : H b = none := by
  rcases a.free h with e | e
  · obtain ⟨x, y, q, _⟩ := a.pool
    rw [e, q] at h
    cases h
  · exact e
theorem Aft.put {p q : Addr} {H H' : Hp} {o : HO} (a : Aft p H H') (f : H q = none) (n : q ≠ p) : Aft p H (upd H' q o) := by
  obtain ⟨x, y, h, r⟩ := a.pool
  refine ⟨⟨x, y, by rw [upd_ne n.symm]; exact h, r⟩, fun b u nb hb => ?_⟩
  rw [upd_ne (ne_of_none hb f)]
  exact a.keep b u nb hb
/-! ### rows -/
def Rw (H : Hp) (x : V) (vs : List V) : Prop := ∃ p, x = .ref p ∧ H p = some (.tup vs)
abbrev Rws (H : Hp) (xs : List V) (rows : List (List V)) : Prop := Paired (Rw H) xs rows
theorem Rw.tk {H H' : Hp} {x : V} {vs : List V} (h : Rw H x vs) (k : Tk H H') : Rw H' x vs := let ⟨p, e, a⟩ := h; ⟨p, e, k p _ a⟩
theorem Rws.tk {H H' : Hp} (k : Tk H H') : ∀ {xs : List V} {rows : List (List V)}, Rws H xs rows → Rws H' xs rows
  | _, _, .nil => .nil
  | _, _, .cons r t => .cons (r.tk k) (Rws.tk k t)
theorem Rws.snoc {H : Hp} {x : V} {vs : List V} (r : Rw H x vs) : ∀ {xs : List V} {rows : List (List V)}, Rws H xs rows → Rws H (xs ++ [x]) (rows ++ [vs])
  | _, _, .nil => .cons r .nil
  | _, _, .cons q t => .cons q (Rws.snoc r t)
theorem Rws.len {H : Hp} {xs : List V} {rows : List (List V)} (h : Rws H xs rows) : xs.length = rows.length := Paired.length h
theorem Rws.get {H : Hp} : ∀ {xs : List V} {rows : List (List V)} {i : Nat} {x : V}, Rws H xs rows → xs[i]? = some x → ∃ vs, rows[i]? = some vs ∧ Rw H x vs
  | _, _, _, _, .nil, e => by simp at e
  | _, _, 0, _, .cons r _, e => by
    simp at e
    subst e
    exact ⟨_, rfl, r⟩
  | _, _, i + 1, x, .cons _ t, e => by
    obtain ⟨vs, h1, h2⟩ := Rws.get (i := i) (x := x) t (by simpa using e)
    exact ⟨vs, by simpa using h1, h2⟩
abbrev rS (r : Str × Int) : List V := [.str r.1, .int r.2]
abbrev rI2 (r : Int × Int) : List V := [.int r.1, .int r.2]
/-! ### the skills, the needs -/
def N1 : List Str := ["a", "b", "c", "d", "e", "f", "g"]
def N2 : List Str := ["z", "ab", "abcdefgh", "a", "need", "skill", "all"]
structure Skills (sk : List (Str × Int)) : Prop where
  names : ∃ N n, (N = N1 ∨ N = N2) ∧ sk.map (·.1) = N.take n
  ne : 0 < sk.length
  le : sk.length ≤ 7
  asc : (sk.map (·.2)).Pairwise (· ≤ ·)
  bd : ∀ r ∈ sk, 1 ≤ r.2 ∧ r.2 ≤ 4
structure Needs (nd : List (Int × Int)) : Prop where
  asc : (nd.map (·.1)).Pairwise (· < ·)
  bd : ∀ r ∈ nd, (2 ≤ r.1 ∧ r.1 ≤ 4) ∧ 0 ≤ r.2 ∧ r.2 ≤ 12
theorem small_in {ds : List Int} {lo hi : Int} (h : ∀ d ∈ ds, lo ≤ d ∧ d ≤ hi) {x : V} (hx : x ∈ ds.map V.int) : ∃ d, x = .int d ∧ lo ≤ d ∧ d ≤ hi := by
  obtain ⟨d, hd, rfl⟩ := List.mem_map.mp hx
  exact ⟨d, rfl, h d hd⟩
theorem strs_get {zs : List Str} {i : Nat} {y : V} (h : (zs.map V.str)[i]? = some y) : ∃ z, y = .str z ∧ zs[i]? = some z := by
  rw [List.getElem?_map] at h
  cases q : zs[i]? with
  | none => rw [q] at h; cases h
  | some z =>
    rw [q] at h
    exact ⟨z, (Option.some.inj h).symm, rfl⟩
theorem asc_snoc {α : Type} {R : α → α → Prop} {xs : List α} {x : α} (h : xs.Pairwise R) (b : ∀ y ∈ xs, R y x) : (xs ++ [x]).Pairwise R := by
  rw [List.pairwise_append]
  refine ⟨h, List.pairwise_singleton _ _, fun a ha c hc => ?_⟩
  rw [List.mem_singleton.mp hc]
  exact b a ha
theorem cut_take (xs : List V) (k : Nat) : cutV xs none (some (k : Int)) = xs.take k := by
  unfold cutV
  rw [HT.sIx_none, HT.sIx_nat, List.drop_zero, Nat.sub_zero]
  by_cases h : k ≤ xs.length
  · rw [Nat.min_eq_left h]
  · rw [Nat.min_eq_right (by omega), List.take_length, List.take_of_length_le (by omega)]
/-- the drawn tree: rows and needs in two new lists -/
def spTree : Sp := fun vs H Q _ => ∃ (p : Addr) (n : Int), vs = [.ref p, .int n] ∧ PoolAt H p ∧ 0 < n ∧ n ≤ 7 ∧
  ∀ (q a b : Addr) (xs ys : List V) (sk : List (Str × Int)) (nd : List (Int × Int)) (H' : Hp), H q = none → H a = none → H b = none → Aft p H H' → H' q = some (.lst [.ref a, .ref b]) → H' a = some (.lst xs) → Rws H' xs (sk.map rS) → Skills sk → ((sk.length : Nat) : Int) ≤ n → H' b = some (.lst ys) → Rws H' ys (nd.map rI2) → Needs nd → a ≠ b → Q (.ref q) H'
section
variable {P : Program} {w : World} {K : PySem.W.Frag} {mg : Str → Option Value} {base : Heap}
theorem cal_law_tree (Z : All K mg) : Cal P w K mg base CX0 3 "_law_tree" ["_law_pool_here", "_law_top"] spTree := by
  obtain ⟨fd, F⟩ := Z.f_law_tree
  have C_law_take : Cal P w K mg base CX0 1 "_law_take" ["_law_pool_here", "_law_bound"] spTake := cal_law_take Z
  have C_law_one : Cal P w K mg base CX0 2 "_law_one" ["_law_pool_here", "_law_things"] (spLone K) := cal_law_one Z
  refine .of ⟨fd, F, ok0 F sc_law_tree (fun vs H Q E h => ?_) (fun cdv A outer s H vs Q E hr h => ?_)⟩ Z.g_law_tree (fun _ _ _ _ _ _ us hl => match us, hl with | [_, _], _ => rfl)
  · obtain ⟨p, n, rfl, _⟩ := h
    rfl
  · obtain ⟨p, n, rfl, hp, n0, n7, k⟩ := h
    refine ⟨_, (pss_cons (ps_set (i := 2) sc_law_tree.nd rfl (Or.inl rfl) (pe_cal C_law_one (hr.mono (by decide)) (by rfl) pass0 (pa_cons (pv 0) (pa_cons (pe_lst (pa_cons (pe_lst (pa_cons pe_str (pa_cons pe_str (pa_cons pe_str (pa_cons pe_str (pa_cons pe_str (pa_cons pe_str (pa_cons pe_str pa_nil)))))))) (pa_cons (pe_lst (pa_cons pe_str (pa_cons pe_str (pa_cons pe_str (pa_cons pe_str (pa_cons pe_str (pa_cons pe_str (pa_cons pe_str pa_nil)))))))) pa_nil))) pa_nil))))
      (pss_cons (ps_par (i := 3) (j := 4) (by rfl) sc_law_tree.nd rfl rfl (by decide) rfl rfl (pa_cons (pe_op op_add pe_int (pe_callTy call_int1 (by rfl) Z.b_int PyProof.Rows.boot_int (pa_cons (pe_cmpR op_eq (pe_cal C_law_take (hr.mono (by decide)) (by rfl) pass0 (pa_cons (pv 0) (pa_cons pe_int pa_nil))) pe_int (nomark _)) pa_nil))) (pa_cons (pe_lst pa_nil) pa_nil)) (by rfl))
      (pss_cons (ps_for PassesOwn.never rfl (pi_seq (pe_slice sl_list (pv 2) po_none (po_some (pe_op op_add pe_int (pe_cal C_law_take (hr.mono (by decide)) (by rfl) pass0 (pa_cons (pv 0) (pa_cons (pv 1) pa_nil))))))) (pg_name (i := 5) sc_law_tree.nd rfl (Or.inl rfl)) (pss_cons (ps_expr (pe_bm PySem.F.plainAttrs_list PySem.F.slot_list_append PySem.F.type_list_append mt_append (pv 4) (pa_cons (pe_tup (pa_cons (pv 5) (pa_cons (pv 3) pa_nil))) pa_nil)))
      (pss_one (ps_set (i := 3) sc_law_tree.nd rfl (Or.inl rfl) (pe_callB (call_min2 rfl) (by rfl) Z.b_min PyProof.Rows.boot_min (pa_cons pe_int (pa_cons (pe_op op_add (pe_callTy call_int1 (by rfl) Z.b_int PyProof.Rows.boot_int (pa_cons (pv 3) pa_nil)) (pe_cal C_law_one (hr.mono (by decide)) (by rfl) pass0 (pa_cons (pv 0) (pa_cons (pe_lst (pa_cons pe_int (pa_cons pe_int (pa_cons pe_int (pa_cons pe_int (pa_cons pe_int pa_nil)))))) pa_nil)))) pa_nil)))))))
      (pss_cons (ps_set (i := 6) sc_law_tree.nd rfl (Or.inl rfl) (pe_lst pa_nil))
      (pss_cons (ps_for PassesOwn.never rfl (pi_seq (pe_lst (pa_cons pe_int (pa_cons pe_int (pa_cons pe_int pa_nil))))) (pg_name (i := 3) sc_law_tree.nd rfl (Or.inl rfl)) (pss_one (ps_if (pt_cmpR op_gt (pe_cal C_law_take (hr.mono (by decide)) (by rfl) pass0 (pa_cons (pv 0) (pa_cons pe_int pa_nil))) pe_int (nomark _)) (pss_one (ps_expr (pe_bm PySem.F.plainAttrs_list PySem.F.slot_list_append PySem.F.type_list_append mt_append (pv 6) (pa_cons (pe_tup (pa_cons (pv 3) (pa_cons (pe_cal C_law_one (hr.mono (by decide)) (by rfl) pass0 (pa_cons (pv 0) (pa_cons (pe_lst (pa_cons pe_int (pa_cons pe_int (pa_cons pe_int (pa_cons pe_int (pa_cons pe_int (pa_cons pe_int (pa_cons pe_int pa_nil)))))))) pa_nil))) pa_nil))) pa_nil)))) pss_nil)))
      (pss_one (ps_ret (pe_lst (pa_cons (pv 4) (pa_cons (pv 6) pa_nil)))))))))), ?_⟩
    -- the names
    refine ⟨_, rfl, (by show 7 ≤ sizeLine; decide), fun l1 f1 => ⟨(by show 7 ≤ sizeLine; decide), fun l2 f2 => ⟨(by show 2 ≤ sizeLine; decide), fun l3 f3 => ?_⟩⟩⟩
    have S1 := Same.new (o := .lst (N1.map V.str)) f1
    have S2 := Same.new (o := .lst (N2.map V.str)) f2
    have S3 := Same.new (o := .lst [.ref l1, .ref l2]) f3
    have P3 : PoolAt _ p := ((hp.same S1).same S2).same S3
    have n3 : l3 ≠ p := ((hp.same S1).same S2).ne f3
    refine ⟨p, l3, [.ref l1, .ref l2], rfl, P3, SqL.of upd_same, n3, (by show 0 < 2; decide), (by show 2 ≤ 1000; decide), fun x H4 hx A4 => ?_⟩
    have A0 : Aft p H H4 := ⟨A4.pool, fun b o nb hb => A4.keep b o nb (S3 _ _ (S2 _ _ (S1 _ _ hb)))⟩
    have F4 : ∀ b, H4 b = none → H b = none := fun b hb => by
      by_cases e : b = p
      · subst e
        obtain ⟨x', y', q, _⟩ := A4.pool
        rw [q] at hb
        cases hb
      · cases q : H b with
        | none => rfl
        | some o =>
          rw [A0.keep b o e q] at hb
          cases hb
    have nl1 : l1 ≠ p := hp.ne f1
    have nl2 : l2 ≠ p := (hp.same S1).ne f2
    obtain ⟨l, N, rfl, hl, hN⟩ : ∃ l N, x = .ref l ∧ H4 l = some (.lst (N.map V.str)) ∧ (N = N1 ∨ N = N2) := by
      rcases List.mem_cons.mp hx with e | hx
      · exact ⟨l1, N1, e, A4.keep _ _ nl1 (S3 _ _ (S2 _ _ upd_same)), .inl rfl⟩
      · exact ⟨l2, N2, List.mem_singleton.mp hx, A4.keep _ _ nl2 (S3 _ _ upd_same), .inr rfl⟩
    have lp : l ≠ p := fun e => by
      rw [e] at hl
      obtain ⟨x', y', q, _⟩ := A4.pool
      rw [q] at hl
      have h2 : ([V.int x', V.int y'] : List V) = N.map V.str := by
        injection hl with hl
        injection hl
      rcases hN with e | e <;> rw [e] at h2 <;> cases h2
    have N7 : N.length = 7 := by rcases hN with e | e <;> rw [e] <;> rfl
    -- the first tier, the empty rows
    refine ⟨_, rfl, p, _, rfl, A0.pool, by decide, by decide, fun r5 H5 r50 r51 A5 => ⟨rfl, .inr ⟨_, rfl, _, _, rfl, rfl, (by show 0 ≤ sizeLine; decide), fun rw frw => ⟨_, _, rfl, ?_⟩⟩⟩⟩
    have T0 : ∃ t : Int, (1 + if decide (V.int r5 = V.int 0) = true then (1 : Int) else 0) = t ∧ 1 ≤ t ∧ t ≤ 2 := ⟨_, rfl, by split <;> omega, by split <;> omega⟩
    -- the names that are taken
    refine ⟨_, rfl, _, rfl, _, rfl, p, _, rfl, (A5.new (o := .lst []) frw).pool, by omega, by omega, fun r6 H6 r60 r61 A6 => ⟨_, _, rfl, rfl, _, rfl, ?_⟩⟩
    have A06 : Aft p H H6 := (A0.trans (A5.new (o := .lst []) frw)).trans A6
    have hl6 : H6 l = some (.lst (N.map V.str)) := A6.keep _ _ lp (Same.new frw _ _ (A5.keep _ _ lp hl))
    have rwp : rw ≠ p := A5.pool.ne frw
    have hrw6 : H6 rw = some (.lst []) := A6.keep _ _ rwp upd_same
    refine ⟨l, _, rfl, SqL.of hl6, fun sl fsl => ⟨sl, rfl, .inl ⟨⟨_, SqL.of upd_same⟩, ?_⟩⟩⟩
    have e7 : cutV (N.map V.str) none (some (1 + r6)) = (N.take (1 + r6).toNat).map V.str := by
      have z : (1 + r6) = (((1 + r6).toNat : Nat) : Int) := by omega
      rw [z, cut_take, List.map_take]
      rfl
    rw [e7]
    have m1 : 1 ≤ (1 + r6).toNat ∧ (1 + r6).toNat ≤ 7 := by omega
    have mn7 : (((1 + r6).toNat : Nat) : Int) ≤ n := by omega
    generalize (1 + r6).toNat = m at m1 mn7 e7 ⊢
    have lm : (N.take m).length = m := by rw [List.length_take, N7]; omega
    have A7 : Aft p H (upd H6 sl (.lst ((N.take m).map V.str))) := A06.new fsl
    have slp : sl ≠ p := A06.pool.ne fsl
    have slrw : sl ≠ rw := (ne_of_none hrw6 fsl).symm
    have frw0 : H rw = none := (A0.trans A5).free' frw
    have fsl0 : H sl = none := A06.free' fsl
    refine for_list (K := K) (a := sl) (xs := (N.take m).map V.str) (fun i σ H2 => ∃ (t : Int) (xs : List V) (sk : List (Str × Int)) (nm : Option V), σ = [some (.ref p), some (.int n), some (.ref l), some (.int t), some (.ref rw), nm, none] ∧ Aft p H H2 ∧
        H2 sl = some (.lst ((N.take m).map V.str)) ∧ H2 rw = some (.lst xs) ∧ Rws H2 xs (sk.map rS) ∧ sk.map (·.1) = (N.take m).take i ∧ (sk.map (·.2)).Pairwise (· ≤ ·) ∧ (∀ r ∈ sk, 1 ≤ r.2 ∧ r.2 ≤ t) ∧ 1 ≤ t ∧ t ≤ 4)
      ⟨_, [], [], none, rfl, A7, upd_same, by rw [upd_ne slrw.symm]; exact hrw6, .nil, rfl, List.Pairwise.nil, fun r hr => (nomatch hr), by split <;> omega, by split <;> omega⟩ (fun i σ H2 _ ⟨_, _, _, _, _, _, q, _⟩ => SqL.of q) ?_ ?_
    · rintro i y σ H2 hi ⟨t, xs, sk, nm, rfl, a2, hsl, hrw, rows, en, asc, bd, t1, t4⟩
      obtain ⟨z, rfl, hz⟩ := strs_get hi
      have lsk : sk.length ≤ 7 := by
        have q := congrArg List.length en
        rw [List.length_map] at q
        have q2 : ((N.take m).take i).length ≤ (N.take m).length := List.length_take_le' _ _
        omega
      have lxs : xs.length ≤ 7 := by
        have q := rows.len
        rw [List.length_map] at q
        omega
      refine ⟨_, rfl, .inl ⟨rfl, _, SqL.of hrw⟩, _, rfl, _, rfl, (by show 2 ≤ sizeLine; decide), fun tp ntp => ⟨rw, xs, _, rfl, rfl, Same.new ntp _ _ hrw, line_of (m := 7) lxs (by decide), ?_⟩⟩
      have a3 : Aft p H (upd (upd H2 tp (.tup [.str z, .int t])) rw (.lst (xs ++ [.ref tp]))) := (a2.new ntp).put frw0 rwp
      have tprw : tp ≠ rw := (ne_of_none hrw ntp).symm
      have tpsl : sl ≠ tp := ne_of_none hsl ntp
      have k3 : Tk H2 (upd (upd H2 tp (.tup [.str z, .int t])) rw (.lst (xs ++ [.ref tp]))) := (Tk.new ntp).trans (Tk.lst (xs := xs) (Same.new ntp _ _ hrw))
      have rows3 : Rws (upd (upd H2 tp (.tup [.str z, .int t])) rw (.lst (xs ++ [.ref tp]))) (xs ++ [.ref tp]) ((sk ++ [(z, t)]).map rS) := by
        rw [List.map_append]
        exact Rws.snoc ⟨tp, rfl, by rw [upd_ne tprw]; exact upd_same⟩ (rows.tk k3)
      refine ⟨_, rfl, .inl ⟨_, rfl, _, rfl, (by show 5 ≤ sizeLine; decide), fun ls nls => ?_⟩⟩
      have lsp : ls ≠ p := a3.pool.ne nls
      refine ⟨p, ls, [0, 0, 1, 1, 2].map V.int, rfl, (a3.new nls).pool, SqL.of upd_same, lsp, (by show 0 < 5; decide), (by show 5 ≤ 1000; decide), fun x H4 hx a4 => ?_⟩
      obtain ⟨d, rfl, d0, d2⟩ := small_in (lo := 0) (hi := 2) (by decide) hx
      have a5 : Aft p H H4 := (a3.new nls).trans a4
      have slrw' : sl ≠ rw := slrw
      have mn : (if t + d < 4 then t + d else 4) = (if t + d < 4 then t + d else 4) := rfl
      refine ⟨_, _, rfl, rfl, _, _, rfl, _, xs ++ [.ref tp], sk ++ [(z, t)], _, rfl, a5, a4.keep _ _ slp (Same.new nls _ _ (by rw [upd_ne slrw, upd_ne tpsl]; exact hsl)), a4.keep _ _ rwp (Same.new nls _ _ upd_same), rows3.tk ((Tk.new nls).trans (a4.tk (a3.new nls).pool)), ?_, ?_, ?_, ?_, ?_⟩
      · rw [List.map_append, en]
        exact (take_one hz).symm
      · rw [List.map_append]
        refine asc_snoc asc fun y hy => ?_
        obtain ⟨r, hr, rfl⟩ := List.mem_map.mp hy
        exact (bd r hr).2
      · intro r hr
        rcases List.mem_append.mp hr with hr | hr
        · have q := bd r hr
          refine ⟨q.1, ?_⟩
          split <;> omega
        · rw [List.mem_singleton.mp hr]
          refine ⟨t1, ?_⟩
          show t ≤ _
          split <;> omega
      · split <;> omega
      · split <;> omega
    · rintro σ H2 ⟨t, xs, sk, nm, rfl, a2, hsl, hrw, rows, en, asc, bd, t1, t4⟩
      have skn : ((sk.length : Nat) : Int) ≤ n := by
        have q := congrArg List.length en
        rw [List.length_map, List.length_take, List.length_map, lm, Nat.min_self] at q
        omega
      have skills : Skills sk := by
        have q := congrArg List.length en
        rw [List.length_map, List.length_take, List.length_map, lm, Nat.min_self] at q
        refine ⟨⟨N, m, hN, ?_⟩, by omega, by omega, asc, fun r hr => ⟨(bd r hr).1, by have := (bd r hr).2; omega⟩⟩
        rw [en, List.take_of_length_le (by rw [List.length_map]; exact Nat.le_refl _)]
      refine ⟨(by show 0 ≤ sizeLine; decide), fun ak nak => ?_⟩
      have a3 := a2.new (o := .lst []) nak
      have fak0 : H ak = none := a2.free' nak
      have akp : ak ≠ p := a2.pool.ne nak
      have akrw : ak ≠ rw := (ne_of_none hrw nak).symm
      refine ⟨(by show 3 ≤ sizeLine; decide), fun tl ntl => ⟨tl, rfl, .inl ⟨⟨_, SqL.of upd_same⟩, ?_⟩⟩⟩
      have tlp : tl ≠ p := a3.pool.ne ntl
      have tlak : ak ≠ tl := ne_of_none upd_same ntl
      have rw3 : (upd H2 ak (.lst [])) rw = some (.lst xs) := Same.new nak _ _ hrw
      refine for_list (K := K) (a := tl) (xs := [.int 2, .int 3, .int 4]) (fun i σ H3 => ∃ (tv : Option V) (ys : List V) (nd : List (Int × Int)), σ = [some (.ref p), some (.int n), some (.ref l), tv, some (.ref rw), nm, some (.ref ak)] ∧ Aft p H H3 ∧
          H3 tl = some (.lst [.int 2, .int 3, .int 4]) ∧ H3 rw = some (.lst xs) ∧ Rws H3 xs (sk.map rS) ∧ H3 ak = some (.lst ys) ∧ Rws H3 ys (nd.map rI2) ∧ ys.length ≤ i ∧ (nd.map (·.1)).Pairwise (· < ·) ∧ ∀ r ∈ nd, (2 ≤ r.1 ∧ r.1 < 2 + (i : Int)) ∧ 0 ≤ r.2 ∧ r.2 ≤ 12)
        ⟨_, [], [], rfl, a3.new ntl, upd_same, Same.new ntl _ _ rw3, rows.tk ((Tk.new nak).trans (Tk.new ntl)), Same.new ntl _ _ upd_same, .nil, Nat.le_refl _, List.Pairwise.nil, fun r hr => (nomatch hr)⟩ (fun i σ H3 _ ⟨_, _, _, _, _, q, _⟩ => SqL.of q) ?_ ?_
      · rintro i y σ H3 hi ⟨tv, ys, nd, rfl, a4, htl, hrw, rows, hak, rowsN, ly, ascN, bdN⟩
        have i3 : i < 3 := (List.getElem?_eq_some_iff.mp hi).1
        have ey : y = .int (2 + (i : Int)) := by
          rcases i with _ | _ | _ | i
          · exact (Option.some.inj hi).symm
          · exact (Option.some.inj hi).symm
          · exact (Option.some.inj hi).symm
          · omega
        subst ey
        refine ⟨_, rfl, p, _, rfl, a4.pool, by decide, by decide, fun r H4 r0 r1 a5 => ⟨_, _, rfl, rfl, _, rfl, ifB (fun e => ?_) (fun e => ?_)⟩⟩
        · have hak4 := a5.keep _ _ akp hak
          refine ⟨_, rfl, .inl ⟨rfl, _, SqL.of hak4⟩, _, rfl, _, rfl, (by show 7 ≤ sizeLine; decide), fun ls nls => ?_⟩
          have lsp : ls ≠ p := a5.pool.ne nls
          refine ⟨p, ls, [0, 1, 1, 2, 2, 3, 5].map V.int, rfl, (a5.new nls).pool, SqL.of upd_same, lsp, (by show 0 < 7; decide), (by show 7 ≤ 1000; decide), fun x H5 hx a6 => ?_⟩
          obtain ⟨d, rfl, d0, d2⟩ := small_in (lo := 0) (hi := 5) (by decide) hx
          have a7 : Aft p H H5 := (a4.trans (a5.new nls)).trans a6
          have hak5 := a6.keep _ _ akp (Same.new nls _ _ hak4)
          refine ⟨(by show 2 ≤ sizeLine; decide), fun tp ntp => ⟨ak, ys, _, rfl, rfl, Same.new ntp _ _ hak5, line_of (m := 7) (by omega) (by decide), ?_⟩⟩
          have k5 : Tk H3 H5 := ((a5.tk a4.pool).trans (Tk.new nls)).trans (a6.tk (a5.new nls).pool)
          have k6 : Tk H5 (upd (upd H5 tp (.tup [.int (2 + (i : Int)), .int d])) ak (.lst (ys ++ [.ref tp]))) := (Tk.new ntp).trans (Tk.lst (xs := ys) (Same.new ntp _ _ hak5))
          have tpak : tp ≠ ak := (ne_of_none hak5 ntp).symm
          have htl5 := a6.keep _ _ tlp (Same.new nls _ _ (a5.keep _ _ tlp htl))
          have hrw5 := a6.keep _ _ rwp (Same.new nls _ _ (a5.keep _ _ rwp hrw))
          refine ⟨_, ys ++ [.ref tp], nd ++ [(2 + (i : Int), d)], rfl, (a7.new ntp).put fak0 akp, ?_, ?_, rows.tk (k5.trans k6), upd_same, ?_, ?_, ?_, ?_⟩
          · rw [upd_ne tlak.symm]
            exact Same.new ntp _ _ htl5
          · rw [upd_ne akrw.symm]
            exact Same.new ntp _ _ hrw5
          · rw [List.map_append]
            exact Rws.snoc ⟨tp, rfl, by rw [upd_ne tpak]; exact upd_same⟩ (rowsN.tk (k5.trans k6))
          · rw [List.length_append]
            show ys.length + 1 ≤ i + 1
            omega
          · rw [List.map_append]
            refine asc_snoc ascN fun y hy => ?_
            obtain ⟨r, hr, rfl⟩ := List.mem_map.mp hy
            exact (bdN r hr).1.2
          · intro r hr
            rcases List.mem_append.mp hr with hr | hr
            · have q := bdN r hr
              refine ⟨⟨q.1.1, ?_⟩, q.2⟩
              have q2 := q.1.2
              omega
            · rw [List.mem_singleton.mp hr]
              refine ⟨⟨?_, ?_⟩, ?_, ?_⟩
              · show (2 : Int) ≤ 2 + (i : Int)
                omega
              · show 2 + (i : Int) < 2 + ((i + 1 : Nat) : Int)
                omega
              · exact d0
              · show d ≤ 12
                omega
        · exact ⟨_, ys, nd, rfl, a4.trans a5, a5.keep _ _ tlp htl, a5.keep _ _ rwp hrw, rows.tk (a5.tk a4.pool), a5.keep _ _ akp hak, rowsN.tk (a5.tk a4.pool), by omega, ascN, fun r hr => ⟨⟨(bdN r hr).1.1, by have := (bdN r hr).1.2; omega⟩, (bdN r hr).2⟩⟩
      · rintro σ H3 ⟨tv, ys, nd, rfl, a4, htl, hrw, rows, hak, rowsN, ly, ascN, bdN⟩
        refine ⟨_, rfl, _, rfl, (by show 2 ≤ sizeLine; decide), fun q nq => ?_⟩
        refine k q rw ak xs ys sk nd _ (a4.free' nq) frw0 fak0 (a4.new nq) upd_same (Same.new nq _ _ hrw) (rows.tk (Tk.new nq)) skills skn (Same.new nq _ _ hak) (rowsN.tk (Tk.new nq)) ⟨ascN, fun r hr => ⟨⟨(bdN r hr).1.1, ?_⟩, (bdN r hr).2⟩⟩ akrw.symm
        have q2 : r.1 < 2 + ((3 : Nat) : Int) := (bdN r hr).1.2
        omega
end
end Rt
end
section
set_option Elab.async false
set_option linter.all false
set_option maxRecDepth 100000
set_option maxHeartbeats 8000000
namespace Rt
open PySem PySem.Spec PyProof.Rows L2
structure Want where
  kind : Str
  skill : Str
  names : List Str
  many : Option Int
def wRest (w : Want) : List V := match w.many with
  | none => []
  | some m => [.int m]
def Ww (H : Hp) (x : V) (w : Want) : Prop := ∃ p q, x = .ref p ∧ H p = some (.tup ([.str w.kind, .str w.skill, .ref q] ++ wRest w)) ∧ H q = some (.tup (w.names.map V.str))
abbrev Wws (H : Hp) (xs : List V) (ws : List Want) : Prop := Paired (Ww H) xs ws
theorem Ww.tk {H H' : Hp} {x : V} {w : Want} (h : Ww H x w) (k : Tk H H') : Ww H' x w := let ⟨p, q, e, a, b⟩ := h; ⟨p, q, e, k p _ a, k q _ b⟩
theorem Wws.tk {H H' : Hp} (k : Tk H H') : ∀ {xs : List V} {ws : List Want}, Wws H xs ws → Wws H' xs ws
  | _, _, .nil => .nil
  | _, _, .cons r t => .cons (r.tk k) (Wws.tk k t)
theorem Wws.snoc {H : Hp} {x : V} {w : Want} (r : Ww H x w) : ∀ {xs : List V} {ws : List Want}, Wws H xs ws → Wws H (xs ++ [x]) (ws ++ [w])
  | _, _, .nil => .cons r .nil
  | _, _, .cons q t => .cons q (Wws.snoc r t)
theorem Wws.len {H : Hp} {xs : List V} {ws : List Want} (h : Wws H xs ws) : xs.length = ws.length := Paired.length h
/-- a want that is right beside the skills, of one of some kinds -/
structure WantOk (ns ks : List Str) (down : Bool) (w : Want) : Prop where
  kind : w.kind ∈ ks
  many : (w.kind = "count" ∧ ∃ m, w.many = some m ∧ 1 ≤ m ∧ m ≤ (w.names.length : Int)) ∨ (w.kind ≠ "count" ∧ w.many = none)
  ne : w.names ≠ []
  nd : w.names.Nodup
  all : ∀ z ∈ w.names, z ∈ ns
  at_ : ∃ i, ns[i]? = some w.skill ∧ (down = true → ∀ z ∈ w.names, z ∈ ns.take i)
  out : w.skill ∉ w.names
def spRowsW (K : PySem.W.Frag) : Sp := fun vs H Q _ => ∃ (p b c : Addr) (ns ks : List Str) (top : Int) (down : Bool), vs = [.ref p, .ref b, .int top, .ref c, .bl down] ∧ PoolAt H p ∧ SqL K H b (ns.map V.str) ∧ b ≠ p ∧ SqL K H c (ks.map V.str) ∧ c ≠ p ∧
  0 ≤ top ∧ top ≤ 10 ∧ Oks ns ∧ ns.Nodup ∧ 0 < ns.length ∧ ns.length ≤ 20 ∧ 0 < ks.length ∧ ks.length ≤ 20 ∧
  ∀ (q : Addr) (xs : List V) (wl : List Want) (H' : Hp), H q = none → Aft p H H' → H' q = some (.lst xs) → Wws H' xs wl → (∀ w ∈ wl, WantOk ns ks down w) → (wl.length : Int) ≤ top → Q (.ref q) H'
theorem cut_drop (xs : List V) (k : Nat) : cutV xs (some (k : Int)) none = xs.drop k := by
  unfold cutV
  rw [HT.sIx_none, HT.sIx_nat]
  by_cases h : k ≤ xs.length
  · rw [Nat.min_eq_left h, List.take_of_length_le (by rw [List.length_drop]; exact Nat.le_refl _)]
  · rw [Nat.min_eq_right (by omega), List.drop_of_length_le (Nat.le_refl _), List.drop_of_length_le (by omega), List.take_nil]
section
variable {P : Program} {w : World} {K : PySem.W.Frag} {mg : Str → Option Value} {base : Heap}
theorem cal_law_rows (Z : All K mg) : Cal P w K mg base CX0 3 "_law_rows" ["_law_pool_here", "_law_names_here", "_law_top", "_law_words", "_law_is_down"] (spRowsW K) := by
  obtain ⟨fd, F⟩ := Z.f_law_rows
  have C_law_take : Cal P w K mg base CX0 1 "_law_take" ["_law_pool_here", "_law_bound"] spTake := cal_law_take Z
  have C_law_one : Cal P w K mg base CX0 2 "_law_one" ["_law_pool_here", "_law_things"] (spLone K) := cal_law_one Z
  have C_law_turned : Cal P w K mg base CX0 2 "_law_turned" ["_law_pool_here", "_law_things"] (spTurned K) := cal_law_turned Z
  refine .of ⟨fd, F, ok0 F sc_law_rows (fun vs H Q E h => ?_) (fun cdv A outer s H vs Q E hr h => ?_)⟩ Z.g_law_rows (fun _ _ _ _ _ _ us hl => match us, hl with | [_, _, _, _, _], _ => rfl)
  · obtain ⟨p, b, c, ns, ks, top, down, rfl, _⟩ := h
    rfl
  · obtain ⟨p, b, c, ns, ks, top, down, rfl, hp, hb, nb, hc, nc, t0, t1, oks, nd, n0, n1, k0, k1, k⟩ := h
    refine ⟨_, (pss_cons (ps_set (i := 5) sc_law_rows.nd rfl (Or.inl rfl) (pe_lst pa_nil))
      (pss_cons (ps_for PassesOwn.never rfl (pi_range1 (by rfl) Z.b_range (pa_cons (pe_cal C_law_take (hr.mono (by decide)) (by rfl) pass0 (pa_cons (pv 0) (pa_cons (pe_op op_add (pv 2) pe_int) pa_nil))) pa_nil)) (pg_name (i := 6) sc_law_rows.nd rfl (Or.inl rfl)) (pss_cons (ps_set (i := 7) sc_law_rows.nd rfl (Or.inl rfl) (pe_cal C_law_take (hr.mono (by decide)) (by rfl) pass0 (pa_cons (pv 0) (pa_cons (pe_callB call_len (by rfl) Z.b_len PySem.boot_len (pa_cons (pv 1) pa_nil)) pa_nil))))
      (pss_cons (ps_set (i := 8) sc_law_rows.nd rfl (Or.inl rfl) (pe_ifExp (pt_val (pv 4)) (pe_slice sl_list (pv 1) po_none (po_some (pv 7))) (pe_op op_cat (pe_slice sl_list (pv 1) po_none (po_some (pv 7))) (pe_slice sl_list (pv 1) (po_some (pe_op op_add (pv 7) pe_int)) po_none))))
      (pss_cons (ps_set (i := 9) sc_law_rows.nd rfl (Or.inl rfl) (pe_slice sl_list (pe_cal C_law_turned (hr.mono (by decide)) (by rfl) pass0 (pa_cons (pv 0) (pa_cons (pv 8) pa_nil))) po_none (po_some (pe_op op_add pe_int (pe_cal C_law_take (hr.mono (by decide)) (by rfl) pass0 (pa_cons (pv 0) (pa_cons pe_int pa_nil)))))))
      (pss_cons (ps_set (i := 10) sc_law_rows.nd rfl (Or.inl rfl) (pe_cal C_law_one (hr.mono (by decide)) (by rfl) pass0 (pa_cons (pv 0) (pa_cons (pv 3) pa_nil))))
      (pss_one (ps_if (PW.pt (pw_and (pt_cmpR (op_neD hr.units) (pv 9) (pe_lst pa_nil) (nomark _)) (pw_and1 (pt_cmpR op_eq (pv 10) pe_str (nomark _))))) (pss_one (ps_expr (pe_bm PySem.F.plainAttrs_list PySem.F.slot_list_append PySem.F.type_list_append mt_append (pv 5) (pa_cons (pe_tup (pa_cons (pv 10) (pa_cons (pe_ix ix_list (pv 1) (pv 7) (fun _ _ => rfl)) (pa_cons (pe_callTy call_tuple_of (by rfl) Z.b_tuple PyProof.Rows.boot_tuple (pa_cons (pv 9) pa_nil)) (pa_cons (pe_op op_add pe_int (pe_cal C_law_take (hr.mono (by decide)) (by rfl) pass0 (pa_cons (pv 0) (pa_cons (pe_callB call_len (by rfl) Z.b_len PySem.boot_len (pa_cons (pv 9) pa_nil)) pa_nil)))) pa_nil))))) pa_nil)))) (pss_one (ps_if (pt_cmpR (op_neD hr.units) (pv 9) (pe_lst pa_nil) (nomark _)) (pss_one (ps_expr (pe_bm PySem.F.plainAttrs_list PySem.F.slot_list_append PySem.F.type_list_append mt_append (pv 5) (pa_cons (pe_tup (pa_cons (pv 10) (pa_cons (pe_ix ix_list (pv 1) (pv 7) (fun _ _ => rfl)) (pa_cons (pe_callTy call_tuple_of (by rfl) Z.b_tuple PyProof.Rows.boot_tuple (pa_cons (pv 9) pa_nil)) pa_nil)))) pa_nil)))) pss_nil)))))))))
      (pss_one (ps_ret (pv 5))))), ?_⟩
    refine ⟨(by show 0 ≤ sizeLine; decide), fun fo nfo => ?_⟩
    have A1 : Aft p H (upd H fo (.lst [])) := (Aft.refl hp).new nfo
    have fop : fo ≠ p := hp.ne nfo
    refine ⟨_, rfl, _, rfl, _, _, rfl, rfl, p, _, rfl, A1.pool, by omega, by omega, fun r H2 r0 r1 A2 => ⟨r, rfl, by omega, by omega, ?_⟩⟩
    have A02 := A1.trans A2
    refine for_range (lo := 0) (n := r.toNat) (fun i σ H3 => ∃ (xs : List V) (wl : List Want) (s6 s7 s8 s9 s10 : Option V), σ = [some (.ref p), some (.ref b), some (.int top), some (.ref c), some (.bl down), some (.ref fo), s6, s7, s8, s9, s10] ∧ Aft p H H3 ∧
        H3 fo = some (.lst xs) ∧ Wws H3 xs wl ∧ (∀ w ∈ wl, WantOk ns ks down w) ∧ wl.length ≤ i)
      ⟨[], [], _, _, _, _, _, rfl, A02, A2.keep _ _ fop upd_same, .nil, fun w hw => (nomatch hw), Nat.le_refl _⟩ ?_ ?_
    · rintro i σ H3 hi ⟨xs, wl, s6, s7, s8, s9, s10, rfl, a3, hfo, rows, ok, lw⟩
      have hb3 := a3.sqL hb nb
      refine ⟨_, rfl, _, rfl, _, (ns.map V.str).length, rfl, .inl ⟨_, hb3, rfl⟩, p, _, rfl, a3.pool, by rw [List.length_map]; omega, by rw [List.length_map]; omega, fun sp H4 s0 s1 a4 => ?_⟩
      have hb4 := a4.sqL hb3 nb
      rw [List.length_map] at s1
      obtain ⟨j, skl, hj, esp⟩ : ∃ (j : Nat) (skl : Str), ns[j]? = some skl ∧ sp = (j : Int) := ⟨sp.toNat, ns[sp.toNat]'(by omega), List.getElem?_eq_getElem (by omega), by omega⟩
      subst esp
      have hj' : (ns.map V.str)[j]? = some (.str skl) := by rw [List.getElem?_map, hj]; rfl
      have jl : j < ns.length := (List.getElem?_eq_some_iff.mp hj).1
      have a34 := a3.trans a4
      have f4 : H4 fo = some (.lst xs) := a4.keep _ _ fop hfo
      have r4 : Wws H4 xs wl := rows.tk (a4.tk a3.pool)
      have split_ : ns = ns.take j ++ skl :: ns.drop (j + 1) := by
        have e1 := List.take_append_drop j ns
        have e2 : ns.drop j = skl :: ns.drop (j + 1) := by
          have e3 := List.drop_eq_getElem_cons jl
          rw [List.getElem?_eq_getElem jl] at hj
          rw [Option.some.inj hj] at e3
          exact e3
        rw [e2] at e1
        exact e1.symm
      have nsk : skl ∉ ns.take j ∧ skl ∉ ns.drop (j + 1) ∧ (ns.take j ++ ns.drop (j + 1)).Nodup := by
        have nd' := nd
        rw [split_] at nd'
        have q := (List.nodup_append.mp nd')
        have q2 := List.nodup_cons.mp q.2.1
        refine ⟨fun h => q.2.2 skl h skl List.mem_cons_self rfl, q2.1, List.nodup_append.mpr ⟨q.1, q2.2, fun a ha b hb' => q.2.2 a ha b (List.mem_cons_of_mem _ hb')⟩⟩
      refine ⟨_, rfl, down, rfl, ?_⟩
      refine ifB (fun e => ?_) (fun e => ?_)
      refine ⟨_, rfl, _, rfl, _, rfl, b, _, rfl, hb4, fun o no => ?_⟩
      rw [cut_take]
      have os : ∃ os : List Str, os = ns.take j := ⟨_, rfl⟩
      obtain ⟨os, eos⟩ := os
      have e2 : ((ns.map V.str).take j) = os.map V.str := by rw [eos, List.map_take]
      rw [e2]
      have oo : os.Nodup ∧ skl ∉ os ∧ (∀ z ∈ os, z ∈ ns) ∧ (down = true → ∀ z ∈ os, z ∈ ns.take j) ∧ os.length ≤ 20 := by
        rw [eos]
        exact ⟨(List.nodup_append.mp nsk.2.2).1, nsk.1, fun z hz => List.mem_of_mem_take hz, fun _ z hz => hz, Nat.le_trans (List.length_take_le' _ _) n1⟩
      have a5 : Aft p H4 (upd H4 o (.lst (os.map V.str))) := (Aft.refl a4.pool).new no
      have ho : (upd H4 o (.lst (os.map V.str))) o = some (.lst (os.map V.str)) := upd_same
      have op : o ≠ p := a4.pool.ne no
      obtain ⟨H5, eH5⟩ : ∃ H5, H5 = upd H4 o (.lst (os.map V.str)) := ⟨_, rfl⟩
      rw [← eH5] at a5 ho ⊢
      clear eH5 e2 eos no
      rotate_left
      refine ⟨_, rfl, _, rfl, _, rfl, b, _, rfl, hb4, fun o1 no1 => ?_⟩
      have hb5 : SqL K (upd H4 o1 (.lst (cutV (ns.map V.str) none (some (j : Int))))) b (ns.map V.str) := ((Aft.refl a4.pool).new no1).sqL hb4 nb
      refine ⟨_, rfl, _, rfl, _, _, rfl, rfl, _, rfl, b, _, rfl, hb5, fun o2 no2 => ?_⟩
      refine ⟨o1, o2, _, _, rfl, rfl, Same.new no2 _ _ upd_same, upd_same, ?_, fun o no => ?_⟩
      · have z1 : (j : Int) + 1 = ((j + 1 : Nat) : Int) := rfl
        rw [cut_take, z1, cut_drop]
        have q1 := List.length_take_le' j (ns.map V.str)
        have q2 : ((ns.map V.str).drop (j + 1)).length ≤ (ns.map V.str).length := by rw [List.length_drop]; omega
        rw [List.length_map] at q1 q2
        have q3 : (40 : Nat) ≤ sizeLine := by decide
        omega
      have z1 : (j : Int) + 1 = ((j + 1 : Nat) : Int) := rfl
      have os : ∃ os : List Str, os = ns.take j ++ ns.drop (j + 1) := ⟨_, rfl⟩
      obtain ⟨os, eos⟩ := os
      have e2 : cutV (ns.map V.str) none (some (j : Int)) ++ cutV (ns.map V.str) (some ((j : Int) + 1)) none = os.map V.str := by
        rw [cut_take, z1, cut_drop, ← List.map_take, ← List.map_drop, ← List.map_append, eos]
      rw [e2]
      have oo : os.Nodup ∧ skl ∉ os ∧ (∀ z ∈ os, z ∈ ns) ∧ (down = true → ∀ z ∈ os, z ∈ ns.take j) ∧ os.length ≤ 20 := by
        rw [eos]
        refine ⟨nsk.2.2, fun h => (List.mem_append.mp h).elim nsk.1 nsk.2.1, fun z hz => (List.mem_append.mp hz).elim List.mem_of_mem_take List.mem_of_mem_drop, fun d => ?_, ?_⟩
        · rw [e] at d
          cases d
        · rw [List.length_append, List.length_take, List.length_drop]
          omega
      have a5 : Aft p H4 (upd (upd (upd H4 o1 (.lst (cutV (ns.map V.str) none (some (j : Int))))) o2 (.lst (cutV (ns.map V.str) (some ((j : Int) + 1)) none))) o (.lst (os.map V.str))) := (((Aft.refl a4.pool).new no1).new no2).new no
      have ho : (upd (upd (upd H4 o1 (.lst (cutV (ns.map V.str) none (some (j : Int))))) o2 (.lst (cutV (ns.map V.str) (some ((j : Int) + 1)) none))) o (.lst (os.map V.str))) o = some (.lst (os.map V.str)) := upd_same
      have op : o ≠ p := (((Aft.refl a4.pool).new no1).new no2).pool.ne no
      obtain ⟨H5, eH5⟩ : ∃ H5, H5 = (upd (upd (upd H4 o1 (.lst (cutV (ns.map V.str) none (some (j : Int))))) o2 (.lst (cutV (ns.map V.str) (some ((j : Int) + 1)) none))) o (.lst (os.map V.str))) := ⟨_, rfl⟩
      rw [← eH5] at a5 ho ⊢
      clear eH5 e2 eos no
      all_goals
        have oks2 : ∀ z ∈ os, PyData.strOk z = true := fun z hz => oks z (oo.2.2.1 z hz)
        refine ⟨_, rfl, _, rfl, p, o, os, rfl, a5.pool, SqL.of ho, oks2, op, by omega, fun q ys H6 nq a6 hq pm => ?_⟩
        have qp : q ≠ p := a5.pool.ne nq
        have ly : ys.length ≤ 20 := by
          have e1 := pm.length_eq
          omega
        refine ⟨_, rfl, p, _, rfl, a6.pool, by decide, by decide, fun r H7 r0 r1 a7 => ⟨_, _, rfl, rfl, _, rfl, q, _, rfl, SqL.of (a7.keep _ _ qp hq), fun n nn => ?_⟩⟩
        have z1 : 1 + r = (((1 + r).toNat : Nat) : Int) := by omega
        have e3 : cutV (ys.map V.str) none (some (1 + r)) = (ys.take (1 + r).toNat).map V.str := by
          rw [z1, cut_take, ← List.map_take]
          rfl
        rw [e3]
        have zz : ∃ zs : List Str, zs = ys.take (1 + r).toNat ∧ (ys = [] → zs = []) ∧ zs.Nodup ∧ (∀ z ∈ zs, z ∈ os) ∧ zs.length ≤ 20 ∧ (zs = [] → ys = []) := by
          have nys : ys.Nodup := pm.nodup_iff.mpr oo.1
          refine ⟨_, rfl, fun h => by rw [h, List.take_nil], nys.sublist (List.take_sublist _ _), fun z hz => pm.mem_iff.mp (List.mem_of_mem_take hz), Nat.le_trans (List.length_take_le' _ _) ly, fun h => ?_⟩
          cases ys with
          | nil => rfl
          | cons y ys =>
            have m1 : (1 + r).toNat = r.toNat + 1 := by omega
            rw [m1, List.take_succ_cons] at h
            cases h
        obtain ⟨zs, ezs, _, znd, zin, zl, _⟩ := zz
        rw [← ezs]
        have a8 : Aft p H4 (upd H7 n (.lst (zs.map V.str))) := ((a5.trans a6).trans a7).new nn
        have hn8 : (upd H7 n (.lst (zs.map V.str))) n = some (.lst (zs.map V.str)) := upd_same
        have np : n ≠ p := a7.pool.ne nn
        obtain ⟨H8, eH8⟩ : ∃ H8, H8 = upd H7 n (.lst (zs.map V.str)) := ⟨_, rfl⟩
        rw [← eH8] at a8 hn8 ⊢
        have n8 : H4 n = none := by
          have q1 := ((a5.trans a6).trans a7).free' nn
          exact q1
        clear eH8 ezs e3 z1 a7 a6 a5 ho hq nn nq pm ly
        have hc4 : SqL K H4 c (ks.map V.str) := a34.sqL hc nc
        refine ⟨_, rfl, _, rfl, p, c, _, rfl, a8.pool, a8.sqL hc4 nc, nc, by rw [List.length_map]; omega, by rw [List.length_map]; omega, fun x H9 hx a9 => ?_⟩
        obtain ⟨kd, hk, rfl⟩ := List.mem_map.mp hx
        have a49 := a8.trans a9
        have hn9 : H9 n = some (.lst (zs.map V.str)) := a9.keep _ _ np hn8
        refine ⟨_, rfl, (by show 0 ≤ sizeLine; decide), fun em nem => ?_⟩
        have okZ : Oks zs := fun z hz => oks z (oo.2.2.1 z (zin z hz))
        refine ⟨.list (zs.map PyData.str), .list [], dp_strs (SqL.of (Same.new nem _ _ hn9)), .lst (SqL.of upd_same) .nil, shaped_strs okZ, by decide +kernel, _, rfl, ?_⟩
        rw [eqv_nil]
        have a10 : Aft p H4 (upd H9 em (.lst [])) := a49.new nem
        have hn10 : (upd H9 em (.lst [])) n = some (.lst (zs.map V.str)) := Same.new nem _ _ hn9
        obtain ⟨H10, eH10⟩ : ∃ H10, H10 = upd H9 em (.lst []) := ⟨_, rfl⟩
        rw [← eH10] at a10 hn10 ⊢
        have f10 : H10 fo = some (.lst xs) := a10.keep _ _ fop f4
        have r10 : Wws H10 xs wl := r4.tk (a10.tk a4.pool)
        have b10 : SqL K H10 b (ns.map V.str) := a10.sqL hb4 nb
        clear eH10 hn9 hn8
        have fo0 : H fo = none := nfo
        have at_j : atI (ns.map V.str) (j : Int) = some (.str skl) := at_of rfl hj'
        have lxs : xs.length ≤ i := by rw [rows.len]; exact lw
        have isz : i < 100 := by omega
        -- what is put
        cases zs with
        | nil =>
          refine ⟨_, rfl, (by show 0 ≤ sizeLine; decide), fun em2 nem2 => ⟨.list ([].map PyData.str), .list [], dp_strs (zs := []) (SqL.of (Same.new nem2 _ _ hn10)), .lst (SqL.of upd_same) .nil, by decide +kernel, by decide +kernel, _, rfl, ?_⟩⟩
          rw [eqv_nil]
          exact ⟨xs, wl, _, _, _, _, _, rfl, (a34.trans a10).new nem2, Same.new nem2 _ _ f10, r10.tk (Tk.new nem2), ok, by omega⟩
        | cons z0 zs =>
          have zsk : skl ∉ z0 :: zs := fun h => oo.2.1 (zin _ h)
          have zns : ∀ z ∈ z0 :: zs, z ∈ ns := fun z h => oo.2.2.1 z (zin z h)
          have zdn : ∃ t, ns[t]? = some skl ∧ (down = true → ∀ z ∈ z0 :: zs, z ∈ ns.take t) := ⟨j, hj, fun d z h => oo.2.2.2.1 d z (zin z h)⟩
          refine ⟨_, rfl, rfl, _, rfl, ifB (fun e => ?_) (fun e => ?_)⟩
          · have ek : kd = "count" := by
              have q := of_decide_eq_true e
              injection q
            refine ⟨_, rfl, .inl ⟨rfl, _, SqL.of f10⟩, _, rfl, _, rfl, _, rfl, b, _, _, _, rfl, rfl, b10, at_j, _, rfl, n, _, rfl, .inl ⟨SqL.of hn10, fun tl ntl => ?_⟩⟩
            have a11 : Aft p H4 (upd H10 tl (.tup ((z0 :: zs).map V.str))) := a10.new ntl
            have n11 : SqL K (upd H10 tl (.tup ((z0 :: zs).map V.str))) n ((z0 :: zs).map V.str) := SqL.of (Same.new ntl _ _ hn10)
            refine ⟨_, rfl, _, rfl, _, _, rfl, .inl ⟨_, n11, rfl⟩, p, _, rfl, a11.pool, by rw [List.length_map, List.length_cons]; omega, by rw [List.length_map]; omega, fun m H12 m0 m1 a12 => ⟨_, _, rfl, rfl, (by show 4 ≤ sizeLine; decide), fun tp ntp => ?_⟩⟩
            rw [List.length_map] at m1
            have tlp : tl ≠ p := a10.pool.ne ntl
            have f12 : H12 fo = some (.lst xs) := a12.keep _ _ fop (Same.new ntl _ _ f10)
            have r12 : Wws H12 xs wl := r10.tk ((Tk.new ntl).trans (a12.tk a11.pool))
            have t12 : H12 tl = some (.tup ((z0 :: zs).map V.str)) := a12.keep _ _ tlp upd_same
            have tpfo : tp ≠ fo := (ne_of_none f12 ntp).symm
            have tptl : tl ≠ tp := ne_of_none t12 ntp
            have tlfo : tl ≠ fo := fun e => by
              rw [e, f12] at t12
              cases t12
            refine ⟨fo, xs, _, rfl, rfl, Same.new ntp _ _ f12, line_of (m := 100) (by omega) (by decide), ?_⟩
            have k3 : Tk H12 (upd (upd H12 tp (.tup [.str kd, .str skl, .ref tl, .int (1 + m)])) fo (.lst (xs ++ [.ref tp]))) := (Tk.new ntp).trans (Tk.lst (xs := xs) (Same.new ntp _ _ f12))
            refine ⟨xs ++ [.ref tp], wl ++ [⟨kd, skl, z0 :: zs, some (1 + m)⟩], _, _, _, _, _, rfl, ((a34.trans (a11.trans a12)).new ntp).put fo0 fop, upd_same, Wws.snoc ⟨tp, tl, rfl, by rw [upd_ne tpfo]; exact upd_same, by rw [upd_ne tlfo]; exact Same.new ntp _ _ t12⟩ (r12.tk k3), fun w hw => ?_, ?_⟩
            · rcases List.mem_append.mp hw with hw | hw
              · exact ok w hw
              · rw [List.mem_singleton.mp hw]
                exact ⟨hk, .inl ⟨ek, _, rfl, by omega, by show 1 + m ≤ (((z0 :: zs).length : Nat) : Int); omega⟩, (fun h => nomatch h), znd, zns, zdn, zsk⟩
            · rw [List.length_append]
              show wl.length + 1 ≤ i + 1
              omega
          · have ek : kd ≠ "count" := fun h => by
              rw [h] at e
              exact absurd e (by decide)
            refine ⟨_, rfl, (by show 0 ≤ sizeLine; decide), fun em2 nem2 => ⟨.list ((z0 :: zs).map PyData.str), .list [], dp_strs (SqL.of (Same.new nem2 _ _ hn10)), .lst (SqL.of upd_same) .nil, shaped_strs okZ, by decide +kernel, _, rfl, ?_⟩⟩
            rw [eqv_nil]
            have a11 : Aft p H4 (upd H10 em2 (.lst [])) := a10.new nem2
            have f11 : (upd H10 em2 (.lst [])) fo = some (.lst xs) := Same.new nem2 _ _ f10
            have r11 : Wws (upd H10 em2 (.lst [])) xs wl := r10.tk (Tk.new nem2)
            have b11 : SqL K (upd H10 em2 (.lst [])) b (ns.map V.str) := ((Aft.refl a10.pool).new nem2).sqL b10 nb
            have n11 : (upd H10 em2 (.lst [])) n = some (.lst ((z0 :: zs).map V.str)) := Same.new nem2 _ _ hn10
            refine ⟨_, rfl, .inl ⟨rfl, _, SqL.of f11⟩, _, rfl, _, rfl, _, rfl, b, _, _, _, rfl, rfl, b11, at_j, _, rfl, n, _, rfl, .inl ⟨SqL.of n11, fun tl ntl => ⟨(by show 3 ≤ sizeLine; decide), fun tp ntp => ?_⟩⟩⟩
            have f12 : (upd (upd H10 em2 (.lst [])) tl (.tup ((z0 :: zs).map V.str))) fo = some (.lst xs) := Same.new ntl _ _ f11
            have r12 := r11.tk (Tk.new (o := .tup ((z0 :: zs).map V.str)) ntl)
            have a12 := a11.new (o := .tup ((z0 :: zs).map V.str)) ntl
            have t12 : (upd (upd H10 em2 (.lst [])) tl (.tup ((z0 :: zs).map V.str))) tl = some (.tup ((z0 :: zs).map V.str)) := upd_same
            obtain ⟨H12, eH12⟩ : ∃ H12, H12 = (upd (upd H10 em2 (.lst [])) tl (.tup ((z0 :: zs).map V.str))) := ⟨_, rfl⟩
            rw [← eH12] at f12 r12 a12 t12 ntp ⊢
            have tpfo : tp ≠ fo := (ne_of_none f12 ntp).symm
            have tptl : tl ≠ tp := ne_of_none t12 ntp
            have tlfo : tl ≠ fo := fun e => by
              rw [e, f12] at t12
              cases t12
            refine ⟨fo, xs, _, rfl, rfl, Same.new ntp _ _ f12, line_of (m := 100) (by omega) (by decide), ?_⟩
            have k3 : Tk H12 (upd (upd H12 tp (.tup [.str kd, .str skl, .ref tl])) fo (.lst (xs ++ [.ref tp]))) := (Tk.new ntp).trans (Tk.lst (xs := xs) (Same.new ntp _ _ f12))
            refine ⟨xs ++ [.ref tp], wl ++ [⟨kd, skl, z0 :: zs, none⟩], _, _, _, _, _, rfl, ((a34.trans a12).new ntp).put fo0 fop, upd_same, Wws.snoc ⟨tp, tl, rfl, by rw [upd_ne tpfo]; exact upd_same, by rw [upd_ne tlfo]; exact Same.new ntp _ _ t12⟩ (r12.tk k3), fun w hw => ?_, ?_⟩
            · rcases List.mem_append.mp hw with hw | hw
              · exact ok w hw
              · rw [List.mem_singleton.mp hw]
                exact ⟨hk, .inr ⟨ek, rfl⟩, (fun h => nomatch h), znd, zns, zdn, zsk⟩
            · rw [List.length_append]
              show wl.length + 1 ≤ i + 1
              omega
    · rintro σ H3 ⟨xs, wl, s6, s7, s8, s9, s10, rfl, a3, hfo, rows, ok, lw⟩
      exact ⟨_, rfl, k fo xs wl H3 nfo a3 hfo rows ok (by omega)⟩
end
end Rt
end
section
set_option Elab.async false
set_option linter.all false
set_option maxRecDepth 100000
set_option maxHeartbeats 4000000
/-! t[::-1] of a pair -/
namespace Rt
open PySem PySem.Spec PyProof.Rows L2 HT
section
variable {prog : Program} {w : World} {A : Around} {E : Value → Shared → Prop} {s : Shared}
theorem applied_rev {sl : Addr} {vs : Value} {Q : Int × Int × Nat → Shared → Prop} (hs : s.heap.IsSliceOf sl .none .none vs) (ps : IsPart vs (some (-1)))
    (h : Q (1, -1, 2) s) : wpAny (model prog w) A (Builtin.Slice.sliceApplied (.ref sl) (pure (2 : Int))) Q E s := by
  obtain ⟨os, hos, hcs, hds⟩ := id hs
  unfold Builtin.Slice.sliceApplied Builtin.Slice.sliceFields
  refine wpAny_bind (wpAny_bind (wpAny_field hos hds (x := .none) rfl (wpAny_bind (wpAny_field hos hds (x := .none) rfl (wpAny_bind (wpAny_field hos hds (x := vs) rfl (wpAny_pure ?_)))))))
  refine wpAny_bind (slicePart_ ps ?_)
  show wpAny _ _ (if ((-1 : Int) == 0) = true then _ else _) _ _ s
  rw [if_neg (by decide)]
  refine wpAny_bind (slicePart_none (wpAny_bind (slicePart_none (wpAny_bind (wpAny_pure ?_)))))
  exact wpAny_pure h
theorem getItem_pair_rev {t sl : Addr} {u1 u2 : Value} {vs : Value} {Q : Value → Shared → Prop} (ht : IsTup s.heap t #[u1, u2]) (hs : s.heap.IsSliceOf sl .none .none vs) (ps : IsPart vs (some (-1)))
    (h : Q (.ref s.heap.objs.size) { s with heap := s.heap.push { cls := .type "tuple", data := .seq #[u2, u1] } }) : wpAny (model prog w) A (getItem (.ref t) (.ref sl)) Q E s := by
  have htake : sizeOk (.seq #[u2, u1]) := by
    show 2 ≤ sizeLine
    decide
  obtain ⟨os, hos, hcs, hds⟩ := id hs
  have hTs : s.TypeIs (.ref sl) "slice" := ⟨os, hos, hcs⟩
  unfold getItem
  try with_reducible refine wpAny_holding ?_
  first | refine wpAny_bind (wpAny_pure ?_) | skip
  refine wpAny_bind (wpAny_sequenceKey ht.typeIs (by decide) ?_)
  refine wpAny_bind (wpAny_callSpecial?_slot (name := Str.ofString "__getitem__") ht.typeIs PyProof.Rows.slot_tuple_getitem
    (wpAny_call_entry PyProof.Rows.slot_tuple_getitem ht.typeIs entry_tuple_getitem ?_ (args_tuple_getitem _ _)))
  show wpAny _ _ (Builtin.Tuple.tupleItemsOf (.ref t) >>= _) _ _ s
  refine wpAny_bind (tupleItemsOf_ ht ?_)
  refine wpAny_bind (wpAny_typeOf hTs ?_)
  rw [if_pos (by decide)]
  refine wpAny_bind (applied_rev hs ps ?_)
  show wpAny _ _ (if (((1 : Int) == 0) && ((-1 : Int) == 1) && (2 == 2)) = true then _ else _) _ _ s
  rw [if_neg (by decide)]
  first
    | exact wpAny_bind (m := Builtin.Tuple.tupleExact _) (wpAny_newObj_type (wpAny_pure ⟨_, rfl, wpAny_pure h⟩) htake)
    | exact wpAny_bind (m := Builtin.Tuple.tupleExact _) (wpAny_newObj_type (wpAny_bind (wpAny_pure (wpAny_pure ⟨_, rfl, wpAny_pure h⟩))) htake)
    | exact wpAny_bind (wpAny_bind (m := Builtin.Tuple.tupleExact _) (wpAny_newObj_type (wpAny_pure (wpAny_pure ⟨_, rfl, wpAny_pure h⟩)) htake))
    | exact wpAny_bind (wpAny_bind (m := Builtin.Tuple.tupleExact _) (wpAny_newObj_type (wpAny_pure ⟨_, rfl, wpAny_pure h⟩) htake))
end
section
variable {X : Cx}
def tRevT (K : PySem.W.Frag) (te : TE) : TE := fun σ H Q => te σ H fun x H1 => ∃ a x1 x2, x = .ref a ∧ SqT K H1 a [x1, x2] ∧ ∀ p, H1 p = none → Q (.ref p) (upd H1 p (.tup [x2, x1]))
theorem pe_revT {e : Expr} {te : TE} {k : Nat} {p1 p2 p3 pos : Pos} (he : PE X e te) : PE X (.Subscript e (.Slice none none (some (.UnaryOp .USub (.Constant (.int 1) k p1) p2)) p3) pos) (tRevT X.K te) := by
  refine ⟨fun pins s σ H Q I h => ?_⟩
  refine Subscript_ (thn (he.run pins s σ H _ I h) fun v s1 ⟨x, H1, I1, r1, q1⟩ => ?_)
  obtain ⟨a, x1, x2, ex, hx, q⟩ := q1
  subst ex
  cases r1
  have hst : PO X (some (.UnaryOp .USub (.Constant (.int 1) k p1) p2)) (tPart (tUn (rU fun i => .int (-i)) (tC (.int 1)))) := po_some (pe_un un_neg pe_int)
  refine wpAny_Slice ?_
  rw [evalPart_none]
  refine wpAny_pure (wpAny_pure ?_)
  refine thn (hst.run pins s1 σ H1 (fun o H4 => o = some (-1) ∧ H4 = H1) I1 ⟨1, rfl, -1, rfl, rfl, rfl⟩) fun vs s4 ⟨o, H4, I4, ps, eo, e4⟩ => ?_
  subst eo e4
  have I5 : Inv X pins σ H4 { s4 with heap := s4.heap.push { cls := .type "slice", data := .fields #[.none, .none, vs] } } := I4.kept (t' := s4.toks) fun b ob q => Heap.get?_push_of_some _ q
  obtain ⟨its, r, ht, hz⟩ := I5.tuple hx
  obtain ⟨u1, u2, rfl, r1', r2'⟩ : ∃ u1 u2, its = [u1, u2] ∧ RelV x1 u1 ∧ RelV x2 u2 := by
    cases r with
    | cons p q =>
      cases q with
      | cons p' q' =>
        cases q'
        exact ⟨_, _, rfl, p, p'⟩
  show wpAny (model X.prog X.w) X.A (subscriptTail e (.Slice none none (some (.UnaryOp .USub (.Constant (.int 1) k p1) p2)) p3) (.ref a) (.ref s4.heap.objs.size)) (EP X pins σ Q) X.xe { s4 with heap := s4.heap.push { cls := .type "slice", data := .fields #[.none, .none, vs] } }
  refine tail_any (ops := [.ref a, .ref s4.heap.objs.size]) ht.typeIs (PyProof.Rows.slot_tuple_getitem.lookup) ?_ (by with_unfolding_all rfl)
  refine getItem_pair_rev ht (Heap.IsSliceOf.new _ .none .none vs) ps ?_
  refine ⟨.ref _, _, I5.laid (t' := s4.toks) (o := .tup [x2, x1]) (fun b ob q => Heap.get?_push_of_some _ q) (Nat.le_refl _) ?_, rfl, q _ (I5.hok.fresh (Nat.le_refl _))⟩
  exact ⟨(by show 2 ≤ sizeLine; decide), _, (.cons r2' (.cons r1' .nil)), IsTup.new _ _⟩
end
end Rt
end
section
set_option Elab.async false
set_option linter.all false
set_option maxRecDepth 100000
set_option maxHeartbeats 8000000
namespace Rt
open PySem PySem.Spec PyProof.Rows L2
/-- a drawn book -/
structure Bk where
  sk : List (Str × Int)
  points : Int
  nd : List (Int × Int)
  wl : List Want
  bars : List (Str × Str)
  gives : List (Str × Int)
  prices : List (Str × Int)
  reset : Option Int
abbrev Bk.ns (B : Bk) : List Str := B.sk.map (·.1)
abbrev rB (r : Str × Str) : List V := [.str r.1, .str r.2]
def oV : Option Int → V
  | none => .non
  | some i => .int i
def bkL (a1 : Addr) (pt : Int) (a3 a4 a5 a6 a7 : Addr) (r : V) : List (Key × V) :=
  [(.inr "skills", .ref a1), (.inr "points", .int pt), (.inr "needs", .ref a3), (.inr "wants", .ref a4), (.inr "bars", .ref a5), (.inr "gives", .ref a6), (.inr "prices", .ref a7), (.inr "reset", r)]
/-- bars that are right beside the names -/
structure BarsOk (ns : List Str) (bs : List (Str × Str)) : Prop where
  in_ : ∀ b ∈ bs, b.1 ∈ ns ∧ b.2 ∈ ns ∧ b.1 ≠ b.2
  un : bs.Pairwise fun b c => b ≠ c ∧ b ≠ (c.2, c.1)
structure ToldOk (ns : List Str) (lo hi : Int) (gs : List (Str × Int)) : Prop where
  in_ : ∀ g ∈ gs, g.1 ∈ ns ∧ lo ≤ g.2 ∧ g.2 ≤ hi
  nd : (gs.map (·.1)).Nodup
structure BkOk (sort : Int) (B : Bk) : Prop where
  sk : Skills B.sk
  pt : 0 ≤ B.points ∧ B.points ≤ 12
  nd : Needs B.nd
  w : ∀ w ∈ B.wl, WantOk B.ns ["all", "any", "any", "count"] (decide (sort < 3)) w
  w1 : sort = 1 → ∀ w ∈ B.wl, w.kind = "all"
  w0 : sort = 0 → B.wl = []
  wl : B.wl.length ≤ 4
  bars : BarsOk B.ns B.bars
  b2 : B.bars.length ≤ 2
  b0 : sort ≤ 1 → B.bars = []
  gives : ToldOk B.ns 1 3 B.gives
  g0 : sort ≠ 4 → B.gives = []
  prices : ToldOk B.ns 0 99 B.prices
  reset : ∀ r, B.reset = some r → 0 ≤ r ∧ r ≤ 99
/-- a list of rows, of wants -/
def LR (H : Hp) (a : Addr) (rows : List (List V)) : Prop := ∃ xs, H a = some (.lst xs) ∧ Rws H xs rows
def LW (H : Hp) (a : Addr) (ws : List Want) : Prop := ∃ xs, H a = some (.lst xs) ∧ Wws H xs ws
theorem LR.go {p a : Addr} {H H' : Hp} {rows : List (List V)} (h : LR H a rows) (k : Aft p H H') (hp : PoolAt H p) (n : a ≠ p) : LR H' a rows := let ⟨xs, e, r⟩ := h; ⟨xs, k.keep _ _ n e, r.tk (k.tk hp)⟩
theorem LW.go {p a : Addr} {H H' : Hp} {ws : List Want} (h : LW H a ws) (k : Aft p H H') (hp : PoolAt H p) (n : a ≠ p) : LW H' a ws := let ⟨xs, e, r⟩ := h; ⟨xs, k.keep _ _ n e, r.tk (k.tk hp)⟩
theorem Tk.dct {H : Hp} {q : Addr} {kvs : List (Key × V)} {o : HO} (h : H q = some (.dK kvs)) : Tk H (upd H q o) := fun b ys hb => by
  rw [upd_ne (ne_of hb h (by intro z; cases z))]
  exact hb
theorem LR.put {a d : Addr} {H : Hp} {rows : List (List V)} {kvs kvs' : List (Key × V)} (h : LR H a rows) (hd : H d = some (.dK kvs)) : LR (upd H d (.dK kvs')) a rows := by
  obtain ⟨xs, e, r⟩ := h
  refine ⟨xs, ?_, r.tk (Tk.dct hd)⟩
  rw [upd_ne (ne_of e hd (by intro z; cases z))]
  exact e
theorem LW.put {a d : Addr} {H : Hp} {ws : List Want} {kvs kvs' : List (Key × V)} (h : LW H a ws) (hd : H d = some (.dK kvs)) : LW (upd H d (.dK kvs')) a ws := by
  obtain ⟨xs, e, r⟩ := h
  refine ⟨xs, ?_, r.tk (Tk.dct hd)⟩
  rw [upd_ne (ne_of e hd (by intro z; cases z))]
  exact e
/-- the book's dict and its lists -/
structure BkAt (H : Hp) (d : Addr) (B : Bk) : Prop where
  at_ : ∃ a1 a3 a4 a5 a6 a7, H d = some (.dK (bkL a1 B.points a3 a4 a5 a6 a7 (oV B.reset))) ∧ LR H a1 (B.sk.map rS) ∧ LR H a3 (B.nd.map rI2) ∧ LW H a4 B.wl ∧
    LR H a5 (B.bars.map rB) ∧ LR H a6 (B.gives.map rS) ∧ LR H a7 (B.prices.map rS)
/-- a book that is being built -/
structure BSt (p d a1 a3 a4 D : Addr) (sk : List (Str × Int)) (nd : List (Int × Int)) (wl : List Want) (kvs : List (Key × V)) (H Hh : Hp) : Prop where
  aft : Aft p H Hh
  fd : H d = none
  dict : Hh d = some (.dK kvs)
  l1 : LR Hh a1 (sk.map rS)
  l3 : LR Hh a3 (nd.map rI2)
  l4 : LW Hh a4 wl
  names : Hh D = some (.lst ((sk.map (·.1)).map V.str))
  ne : d ≠ p ∧ a1 ≠ p ∧ a3 ≠ p ∧ a4 ≠ p ∧ D ≠ p
section
variable {p d a1 a3 a4 D : Addr} {sk : List (Str × Int)} {nd : List (Int × Int)} {wl : List Want} {kvs kvs' : List (Key × V)} {H Hh H2 : Hp}
theorem BSt.go (b : BSt p d a1 a3 a4 D sk nd wl kvs H Hh) (k : Aft p Hh H2) : BSt p d a1 a3 a4 D sk nd wl kvs H H2 :=
  ⟨b.aft.trans k, b.fd, k.keep _ _ b.ne.1 b.dict, b.l1.go k b.aft.pool b.ne.2.1, b.l3.go k b.aft.pool b.ne.2.2.1, b.l4.go k b.aft.pool b.ne.2.2.2.1, k.keep _ _ b.ne.2.2.2.2 b.names, b.ne⟩
theorem BSt.new {q : Addr} {o : HO} (b : BSt p d a1 a3 a4 D sk nd wl kvs H Hh) (n : Hh q = none) : BSt p d a1 a3 a4 D sk nd wl kvs H (upd Hh q o) := b.go ((Aft.refl b.aft.pool).new n)
theorem BSt.put (b : BSt p d a1 a3 a4 D sk nd wl kvs H Hh) : BSt p d a1 a3 a4 D sk nd wl kvs' H (upd Hh d (.dK kvs')) := by
  refine ⟨b.aft.put b.fd b.ne.1, b.fd, upd_same, b.l1.put b.dict, b.l3.put b.dict, b.l4.put b.dict, ?_, b.ne⟩
  rw [upd_ne (ne_of b.names b.dict (by intro z; cases z))]
  exact b.names
end
theorem by_ {te : TE} {σ : L2.St} {H : Hp} {Q : VK} (Pv : V → Hp → Prop) (h1 : ∀ Q : VK, (∀ x H', Pv x H' → Q x H') → te σ H Q) (h2 : ∀ x H', Pv x H' → Q x H') : te σ H Q := h1 Q h2
theorem ts_by {ts : TS} {D : Ends} {σ : L2.St} {H : Hp} (Pv : L2.St → Hp → Prop) (h1 : ∀ D : Ends, (∀ σ H, Pv σ H → D.nx σ H) → ts D σ H) (h2 : ∀ σ H, Pv σ H → D.nx σ H) : ts D σ H := h1 D h2
theorem for_rng_by {te : TE} {g : TG} {tb : TS} {D : Ends} {σ : L2.St} {H : Hp} (Pn : Int → Hp → Prop) (h1 : ∀ Q : VK, (∀ n H', Pn n H' → Q (.int n) H') → te σ H Q)
    (h2 : ∀ n H', Pn n H' → -(2 ^ 62) ≤ n ∧ n < 2 ^ 62 ∧ ∃ Pv : Nat → L2.St → Hp → Prop, Pv 0 σ H' ∧ (∀ i σ H, i < n.toNat → Pv i σ H → g (.int (0 + (i : Int))) σ H fun σ2 H2 => tb { D with nx := Pv (i + 1), ct := Pv (i + 1), bk := D.nx } σ2 H2) ∧ ∀ σ H, Pv n.toNat σ H → D.nx σ H) :
    tFor (iRng1 (tCons te tNil)) g tb D σ H := by
  show te σ H fun x H1 => _
  refine h1 _ fun n H' hn => ?_
  obtain ⟨b1, b2, Pv, p0, ps, pd⟩ := h2 n H' hn
  exact ⟨n, rfl, b1, b2, for_range Pv p0 ps pd⟩
def tB (r : Str × Str) : PyData := .tuple [.str r.1, .str r.2]
theorem dp_tB {K : PySem.W.Frag} {H : Hp} {a : Addr} {r : Str × Str} (h : H a = some (.tup (rB r))) : Dp K H (.ref a) (tB r) := .tup (SqT.of h) (.cons (.str _) (.cons (.str _) .nil))
theorem dp_bars {K : PySem.W.Frag} {H : Hp} : ∀ {xs : List V} {bars : List (Str × Str)}, Rws H xs (bars.map rB) → DpAll K H xs (bars.map tB)
  | _, [], h => by
    cases h
    exact .nil
  | _, b :: bars, h => by
    cases h with
    | cons r t =>
      obtain ⟨p, rfl, hp⟩ := r
      exact .cons (dp_tB hp) (dp_bars t)
def OkB (ns : List Str) (bars : List (Str × Str)) : Prop := ∀ b ∈ bars, b.1 ∈ ns ∧ b.2 ∈ ns
theorem lay_tB {r : Str × Str} (h1 : PyData.strOk r.1 = true) (h2 : PyData.strOk r.2 = true) : PyData.canLay0 (tB r) = true ∧ PyData.depth (tB r) ≤ 2 := by
  refine ⟨by simp [tB, PyData.canLay0, PyData.canLayAll0, h1, h2], ?_⟩
  simp only [tB, PyData.depth, PyData.depthAll]
  omega
theorem lay_bars {ns : List Str} (ok : Oks ns) : ∀ {bars : List (Str × Str)}, OkB ns bars → PyData.canLayAll0 (bars.map tB) = true ∧ PyData.depthAll (bars.map tB) ≤ 2
  | [], _ => ⟨by simp [PyData.canLayAll0], by simp [PyData.depthAll]⟩
  | b :: bars, h => by
    obtain ⟨h1, h2⟩ := lay_bars ok (bars := bars) fun y hy => h y (List.mem_cons_of_mem _ hy)
    have h3 := h b List.mem_cons_self
    obtain ⟨h4, h5⟩ := lay_tB (ok _ h3.1) (ok _ h3.2)
    refine ⟨by simp [PyData.canLayAll0, h4, h1], ?_⟩
    simp only [List.map_cons, PyData.depthAll]
    omega
theorem shaped_tB {r : Str × Str} (h1 : PyData.strOk r.1 = true) (h2 : PyData.strOk r.2 = true) : SeqAt.shaped (tB r) = true := by
  obtain ⟨h3, h4⟩ := lay_tB h1 h2
  show (PyData.canLay0 (tB r) && decide (PyData.depth (tB r) ≤ 64)) = true
  rw [Bool.and_eq_true]
  exact ⟨h3, decide_eq_true (by omega)⟩
theorem shaped_bars {ns : List Str} (ok : Oks ns) {bars : List (Str × Str)} (h : OkB ns bars) : SeqAt.shaped (.list (bars.map tB)) = true := by
  obtain ⟨h1, h2⟩ := lay_bars ok h
  show (PyData.canLay0 (.list (bars.map tB)) && decide (PyData.depth (.list (bars.map tB)) ≤ 64)) = true
  rw [Bool.and_eq_true]
  exact ⟨by simp only [PyData.canLay0]; exact h1, decide_eq_true (by simp only [PyData.depth]; omega)⟩
theorem eqv_tB (r : Str × Str) : PyData.eqv (tB r) (tB r) = true := by simp [tB, PyData.eqv, PyData.eqvAll]
theorem no_bar {bars : List (Str × Str)} {r : Str × Str} (h : (!(bars.map tB).any fun z => PyData.eqv z (tB r)) = true) : ∀ b ∈ bars, b ≠ r := fun b hb e => by
  have q : ((bars.map tB).any fun z => PyData.eqv z (tB r)) = true := List.any_eq_true.mpr ⟨tB b, List.mem_map_of_mem hb, by rw [e]; exact eqv_tB r⟩
  rw [q] at h
  exact absurd h (by decide)
def k3 (a1 : Addr) (pt : Int) (a3 : Addr) : List (Key × V) := [(.inr "skills", .ref a1), (.inr "points", .int pt), (.inr "needs", .ref a3)]
theorem merge3 (a1 : Addr) (pt : Int) (a3 : Addr) : mergeK [] (k3 a1 pt a3) = k3 a1 pt a3 := rfl
theorem put4 (a1 : Addr) (pt : Int) (a3 a4 : Addr) : putK (k3 a1 pt a3) (.inr "wants") (.ref a4) = k3 a1 pt a3 ++ [(.inr "wants", .ref a4)] := rfl
theorem put5 (a1 : Addr) (pt : Int) (a3 a4 a5 : Addr) : putK (k3 a1 pt a3 ++ [(.inr "wants", .ref a4)]) (.inr "bars") (.ref a5) = k3 a1 pt a3 ++ [(.inr "wants", .ref a4), (.inr "bars", .ref a5)] := rfl
def k6 (a1 : Addr) (pt : Int) (a3 a4 a5 a6 : Addr) : List (Key × V) := k3 a1 pt a3 ++ [(.inr "wants", .ref a4), (.inr "bars", .ref a5), (.inr "gives", .ref a6)]
theorem put6 (a1 : Addr) (pt : Int) (a3 a4 a5 a6 : Addr) : putK (k3 a1 pt a3 ++ [(.inr "wants", .ref a4), (.inr "bars", .ref a5)]) (.inr "gives") (.ref a6) = k6 a1 pt a3 a4 a5 a6 := rfl
theorem put5' (a1 : Addr) (pt : Int) (a3 a4 a5 a6 b5 : Addr) : putK (k6 a1 pt a3 a4 a5 a6) (.inr "bars") (.ref b5) = k6 a1 pt a3 a4 b5 a6 := rfl
theorem put6' (a1 : Addr) (pt : Int) (a3 a4 a5 a6 b6 : Addr) : putK (k6 a1 pt a3 a4 a5 a6) (.inr "gives") (.ref b6) = k6 a1 pt a3 a4 a5 b6 := rfl
theorem put7 (a1 : Addr) (pt : Int) (a3 a4 a5 a6 a7 : Addr) : putK (k6 a1 pt a3 a4 a5 a6) (.inr "prices") (.ref a7) = k6 a1 pt a3 a4 a5 a6 ++ [(.inr "prices", .ref a7)] := rfl
theorem put8 (a1 : Addr) (pt : Int) (a3 a4 a5 a6 a7 : Addr) (r : V) : putK (k6 a1 pt a3 a4 a5 a6 ++ [(.inr "prices", .ref a7)]) (.inr "reset") r = bkL a1 pt a3 a4 a5 a6 a7 r := rfl
theorem get5 (a1 : Addr) (pt : Int) (a3 a4 a5 a6 : Addr) : valV (k6 a1 pt a3 a4 a5 a6) (.inr "bars") = some (.ref a5) := rfl
/-- a comprehension over a list, its turns leaving the list -/
theorem lc_seqG {K : PySem.W.Frag} {H1 : Hp} {a : Addr} {xs : List V} {g : TG} {tt : TT} {te : TE} {vs : List Nat} {σ : L2.St} {Q : Addr → Hp → Prop} (h : SqL K H1 a xs) (P : Addr → Nat → Hp → Prop) (h0 : ∀ D, H1 D = none → P D 0 (upd H1 D (.lst [])))
    (hs : ∀ D i H, H1 D = none → P D i H → SqL K H a xs)
    (turn : ∀ D, H1 D = none → ∀ i x H, xs[i]? = some x → P D i H → g x (wipe σ vs) H fun σ2 H2 => wipe σ2 vs = wipe σ vs ∧ tt σ2 H2 fun b H3 =>
      if b = true then te σ2 H3 fun y H4 => ∃ acc, H4 D = some (.lst acc) ∧ acc.length < sizeLine ∧ P D (i + 1) (upd H4 D (.lst (acc ++ [y]))) else P D (i + 1) H3)
    (fin : ∀ D H, H1 D = none → P D xs.length H → Q D H) :
    ((∃ xs, SqL K H1 a xs) ∧ LcR g tt te vs σ Q (Itl K a) H1) ∨ ((∃ xs, SqT K H1 a xs) ∧ LcR g tt te vs σ Q (Itt K a) H1) := by
  refine .inl ⟨⟨xs, h⟩, fun D nD => ?_⟩
  refine lc_it walk_list (P D) (h0 D nD) (fun i H _ p => hs D i H nD p) ?_ (fun H p => fin D H nD p)
  rintro i x H2 H3 hi p ⟨rfl, hx⟩
  exact turn D nD i x H3 hx p
theorem n1_ok : N1.Nodup ∧ (N1.all PyData.strOk) = true := by decide +kernel
theorem n2_ok : N2.Nodup ∧ (N2.all PyData.strOk) = true := by decide +kernel
theorem Skills.nd {sk : List (Str × Int)} (h : Skills sk) : (sk.map (·.1)).Nodup := by
  obtain ⟨N, n, hN, e⟩ := h.names
  rw [e]
  rcases hN with rfl | rfl
  · exact n1_ok.1.sublist (List.take_sublist _ _)
  · exact n2_ok.1.sublist (List.take_sublist _ _)
theorem Skills.oks {sk : List (Str × Int)} (h : Skills sk) : Oks (sk.map (·.1)) := by
  obtain ⟨N, n, hN, e⟩ := h.names
  rw [e]
  intro z hz
  rcases hN with rfl | rfl
  · exact List.all_eq_true.mp n1_ok.2 z (List.mem_of_mem_take hz)
  · exact List.all_eq_true.mp n2_ok.2 z (List.mem_of_mem_take hz)
theorem units65 {k : Nat} {A : Around} (r : Room (k + 1) A) : A.units + 65 < cLine := by have := r.un; omega
def spBookT : Sp := fun vs H Q _ => ∃ (p : Addr) (top sort : Int), vs = [.ref p, .int top, .int sort] ∧ PoolAt H p ∧ 0 < top ∧ top ≤ 7 ∧ 0 ≤ sort ∧ sort ≤ 4 ∧
  ∀ (d : Addr) (B : Bk) (H' : Hp), H d = none → Aft p H H' → BkAt H' d B → BkOk sort B → ((B.sk.length : Nat) : Int) ≤ top → Q (.ref d) H'
def spBook : Sp := fun vs H Q _ => ∃ (p : Addr) (top sort : Int), vs = [.ref p, .int top, .int sort] ∧ PoolAt H p ∧ 0 < top ∧ top ≤ 7 ∧ 0 ≤ sort ∧ sort ≤ 4 ∧
  ∀ (d : Addr) (B : Bk) (H' : Hp), H d = none → Aft p H H' → BkAt H' d B → BkOk sort B → Q (.ref d) H'
section
variable {P : Program} {w : World} {K : PySem.W.Frag} {mg : Str → Option Value} {base : Heap}
theorem Cal.imp {CX : CXT} {k : Nat} {x : Str} {ps : List Str} {sp sp' : Sp} (C : Cal P w K mg base CX k x ps sp) (h : ∀ vs H Q E, sp' vs H Q E → sp vs H Q E) : Cal P w K mg base CX k x ps sp' :=
  let ⟨fd, b, F⟩ := C.ex
  ⟨⟨fd, b, F.imp h⟩, C.gm, C.kp⟩
theorem cal_law_bookT (Z : All K mg) : Cal P w K mg base CX0 4 "_law_book" ["_law_pool_here", "_law_top", "_law_sort"] spBookT := by
  obtain ⟨fd, F⟩ := Z.f_law_book
  have C_law_take : Cal P w K mg base CX0 1 "_law_take" ["_law_pool_here", "_law_bound"] spTake := cal_law_take Z
  have C_law_one : Cal P w K mg base CX0 2 "_law_one" ["_law_pool_here", "_law_things"] (spLone K) := cal_law_one Z
  have C_law_turned : Cal P w K mg base CX0 2 "_law_turned" ["_law_pool_here", "_law_things"] (spTurned K) := cal_law_turned Z
  have C_law_tree : Cal P w K mg base CX0 3 "_law_tree" ["_law_pool_here", "_law_top"] spTree := cal_law_tree Z
  have C_law_rows : Cal P w K mg base CX0 3 "_law_rows" ["_law_pool_here", "_law_names_here", "_law_top", "_law_words", "_law_is_down"] (spRowsW K) := cal_law_rows Z
  refine .of ⟨fd, F, ok0 F sc_law_book (fun vs H Q E h => ?_) (fun cdv A outer s H vs Q E hr h => ?_)⟩ Z.g_law_book (fun _ _ _ _ _ _ us hl => match us, hl with | [_, _, _], _ => rfl)
  · obtain ⟨p, top, sort, rfl, _⟩ := h
    rfl
  · obtain ⟨p, top, sort, rfl, hp, t0, t7, s0, s4, k⟩ := h
    refine ⟨_, (pss_cons (ps_asg (pe_cal C_law_tree (hr.mono (by decide)) (by rfl) pass0 (pa_cons (pv 0) (pa_cons (pv 1) pa_nil))) (pg_lst rfl (pgs_cons (pg_name (i := 3) sc_law_book.nd rfl (Or.inl rfl)) (pgs_cons (pg_name (i := 4) sc_law_book.nd rfl (Or.inl rfl)) pgs_nil))))
      (pss_cons (ps_setLc (i := 5) (own := [("_law_row", 10)]) (by rfl) sc_law_book.nd rfl rfl (sw_true rfl rfl rfl (by decide +kernel)) (pi_seq (pv 3)) (blkOk_by (own := [("_law_row", 10)]) (N := ["_law_pool_here", "_law_top", "_law_sort", "_law_rows_here", "_law_asked", "_law_names_here", "_law_words", "_law_book_here", "_law_turn", "_law_pair", "_law_row", "_law_name"]) (sc := defScope s_law_book) (by decide +kernel)) (fun _ _ _ _ _ => (pg_name (i := 10) sc_law_book.nd rfl (Or.inl rfl))) (fun _ _ _ _ _ => pts_nil) (fun _ _ _ _ _ => (pe_ix (show IxR _ (rIxT K) from ix_tup) (pv 10) pe_int (fun _ _ => rfl))))
      (pss_cons (ps_set (i := 6) sc_law_book.nd rfl (Or.inl rfl) (pe_ifExp (pt_cmpR op_eq (pv 2) pe_int (nomark _)) (pe_lst (pa_cons pe_str pa_nil)) (pe_lst (pa_cons pe_str (pa_cons pe_str (pa_cons pe_str (pa_cons pe_str pa_nil)))))))
      (pss_cons (ps_set (i := 7) sc_law_book.nd rfl (Or.inl rfl) (pe_disp (pps_cons pe_str (pv 3) (pps_cons pe_str (pe_cal C_law_one (hr.mono (by decide)) (by rfl) pass0 (pa_cons (pv 0) (pa_cons (pe_lst (pa_cons pe_int (pa_cons pe_int (pa_cons pe_int (pa_cons pe_int (pa_cons pe_int (pa_cons pe_int (pa_cons pe_int (pa_cons pe_int (pa_cons pe_int (pa_cons pe_int pa_nil))))))))))) pa_nil))) (pps_cons pe_str (pv 4) pps_nil))) (by rfl) (by rfl) (fun z => by cases z) (by decide)))
      (pss_cons (ps_asg (pe_ifExp (pt_cmpR op_eq (pv 2) pe_int (nomark _)) (pe_lst pa_nil) (pe_cal C_law_rows (hr.mono (by decide)) (by rfl) pass0 (pa_cons (pv 0) (pa_cons (pv 5) (pa_cons pe_int (pa_cons (pv 6) (pa_cons (pe_cmpR op_lt (pv 2) pe_int (nomark _)) pa_nil))))))) (pg_sub (pv 7) pe_str (L2.set_dict (hu_of hr))))
      (pss_cons (ps_asg (pe_tup (pa_cons (pe_lst pa_nil) (pa_cons (pe_lst pa_nil) pa_nil))) (pg_tup rfl (pgs_cons (pg_sub (pv 7) pe_str (L2.set_dict (hu_of hr))) (pgs_cons (pg_sub (pv 7) pe_str (L2.set_dict (hu_of hr))) pgs_nil))))
      (pss_cons (ps_for PassesOwn.never rfl (pi_range1 (by rfl) Z.b_range (pa_cons (pe_ifExp (PW.pt (pw_and (pt_cmpR op_gt (pv 2) pe_int (nomark _)) (pw_and1 (pt_cmpR op_gt (pe_callB call_len (by rfl) Z.b_len PySem.boot_len (pa_cons (pv 5) pa_nil)) pe_int (nomark _))))) (pe_cal C_law_take (hr.mono (by decide)) (by rfl) pass0 (pa_cons (pv 0) (pa_cons pe_int pa_nil))) pe_int) pa_nil)) (pg_name (i := 8) sc_law_book.nd rfl (Or.inl rfl)) (pss_cons (ps_set (i := 9) sc_law_book.nd rfl (Or.inl rfl) (pe_callTy call_tuple_of (by rfl) Z.b_tuple PyProof.Rows.boot_tuple (pa_cons (pe_slice sl_list (pe_cal C_law_turned (hr.mono (by decide)) (by rfl) pass0 (pa_cons (pv 0) (pa_cons (pv 5) pa_nil))) po_none (po_some pe_int)) pa_nil)))
      (pss_one (ps_if (PW.pt (pw_and (pt_cmpR (op_notInD (units65 hr)) (pv 9) (pe_dget (hu_of hr) (pv 7) pe_str (fun _ _ => rfl)) rfl) (pw_and1 (pt_cmpR (op_notInD (units65 hr)) (pe_revT (pv 9)) (pe_dget (hu_of hr) (pv 7) pe_str (fun _ _ => rfl)) rfl)))) (pss_one (ps_asg (pe_op op_cat (pe_dget (hu_of hr) (pv 7) pe_str (fun _ _ => rfl)) (pe_lst (pa_cons (pv 9) pa_nil))) (pg_sub (pv 7) pe_str (L2.set_dict (hu_of hr))))) pss_nil))))
      (pss_cons (ps_if (pt_cmpR op_eq (pv 2) pe_int (nomark _)) (pss_one (ps_asg (pe_lc (own := [("_law_name", 11)]) (by rfl) sc_law_book.nd (pi_seq (pe_slice sl_list (pe_cal C_law_turned (hr.mono (by decide)) (by rfl) pass0 (pa_cons (pv 0) (pa_cons (pv 5) pa_nil))) po_none (po_some (pe_op op_add pe_int (pe_cal C_law_take (hr.mono (by decide)) (by rfl) pass0 (pa_cons (pv 0) (pa_cons pe_int pa_nil))))))) (blkOk_by (own := [("_law_name", 11)]) (N := ["_law_pool_here", "_law_top", "_law_sort", "_law_rows_here", "_law_asked", "_law_names_here", "_law_words", "_law_book_here", "_law_turn", "_law_pair", "_law_row", "_law_name"]) (sc := defScope s_law_book) (by decide +kernel)) (fun _ _ _ _ _ => (pg_name (i := 11) sc_law_book.nd rfl (Or.inl rfl))) (fun _ _ _ _ _ => pts_nil) (fun _ _ _ _ _ => (pe_tup (pa_cons (pv 11) (pa_cons (pe_op op_add pe_int (pe_cal C_law_take (hr.mono (by decide)) (by rfl) pass0 (pa_cons (pv 0) (pa_cons pe_int pa_nil)))) pa_nil))))) (pg_sub (pv 7) pe_str (L2.set_dict (hu_of hr))))) pss_nil)
      (pss_cons (ps_asg (pe_lc (own := [("_law_name", 11)]) (by rfl) sc_law_book.nd (pi_seq (pv 5)) (blkOk_by (own := [("_law_name", 11)]) (N := ["_law_pool_here", "_law_top", "_law_sort", "_law_rows_here", "_law_asked", "_law_names_here", "_law_words", "_law_book_here", "_law_turn", "_law_pair", "_law_row", "_law_name"]) (sc := defScope s_law_book) (by decide +kernel)) (fun _ _ _ _ _ => (pg_name (i := 11) sc_law_book.nd rfl (Or.inl rfl))) (fun _ _ _ _ _ => (pts_one (pt_cmpR op_eq (pe_cal C_law_take (hr.mono (by decide)) (by rfl) pass0 (pa_cons (pv 0) (pa_cons pe_int pa_nil))) pe_int (nomark _)))) (fun _ _ _ _ _ => (pe_tup (pa_cons (pv 11) (pa_cons (pe_cal C_law_one (hr.mono (by decide)) (by rfl) pass0 (pa_cons (pv 0) (pa_cons (pe_lst (pa_cons pe_int (pa_cons pe_int (pa_cons pe_int (pa_cons pe_int (pa_cons pe_int (pa_cons pe_int pa_nil))))))) pa_nil))) pa_nil))))) (pg_sub (pv 7) pe_str (L2.set_dict (hu_of hr))))
      (pss_cons (ps_asg (pe_cal C_law_one (hr.mono (by decide)) (by rfl) pass0 (pa_cons (pv 0) (pa_cons (pe_lst (pa_cons pe_non (pa_cons pe_non (pa_cons pe_int (pa_cons pe_int (pa_cons pe_int (pa_cons pe_int (pa_cons pe_int (pa_cons pe_int pa_nil))))))))) pa_nil))) (pg_sub (pv 7) pe_str (L2.set_dict (hu_of hr))))
      (pss_one (ps_ret (pv 7))))))))))))), ?_⟩
    refine ⟨_, rfl, _, rfl, p, top, rfl, hp, t0, t7, fun q a1 a3 x1 x3 sk nd H1 fq fa1 fa3 A1 hq ha1 r1 S1 skt ha3 r3 N1' n13 => ?_⟩
    refine ⟨q, [.ref a1, .ref a3], rfl, SqL.of hq, rfl, .ref a1, [.ref a3], rfl, .ref a3, [], rfl, rfl, ?_⟩
    have a1p : a1 ≠ p := hp.ne fa1
    have a3p : a3 ≠ p := hp.ne fa3
    have lx1 : x1.length = sk.length := by rw [r1.len, List.length_map]
    -- the names
    refine ⟨_, rfl, a1, rfl, lc_seq (.inl (SqL.of ha1)) (fun i => (sk.take i).map fun r => .str r.1) rfl ?_ ?_⟩
    · rintro D nD i x Ha hi lp
      obtain ⟨vs, hv, tp, rfl, htp⟩ := r1.get hi
      obtain ⟨r, hr', rfl⟩ : ∃ r, sk[i]? = some r ∧ vs = rS r := by
        rw [List.getElem?_map] at hv
        cases e : sk[i]? with
        | none => rw [e] at hv; cases hv
        | some r =>
          rw [e] at hv
          exact ⟨r, rfl, (Option.some.inj hv).symm⟩
      refine ⟨rfl, ?_⟩
      refine ⟨_, rfl, tp, rS r, 0, _, rfl, rfl, SqT.of (lp.same _ _ htp), rfl, ?_⟩
      exact lp.put nD (map_one _ hr') (line_of (m := 7) (by
        have q1 : ((sk.take i).map fun r => V.str r.1).length ≤ sk.length := by
          rw [List.length_map]
          exact List.length_take_le' _ _
        have q2 := S1.le
        omega) (by decide))
    rintro D H2 nD s2 hD
    have hD' : H2 D = some (.lst ((sk.map (·.1)).map V.str)) := by
      rw [hD, lx1, List.take_length, List.map_map]
      rfl
    clear hD
    have A2 := A1.same s2
    have Dp : D ≠ p := A1.pool.ne nD
    have ha1' := s2 _ _ ha1
    have r1' := r1.tk (Tk.of s2)
    have ha3' := s2 _ _ ha3
    have r3' := r3.tk (Tk.of s2)
    clear s2
    -- the words
    dsimp only [gName, tSeq, tAsg]
    refine by_ (fun x H' => ∃ (c : Addr) (ks : List Str), x = .ref c ∧ H2 c = none ∧ H' = upd H2 c (.lst (ks.map V.str)) ∧ 0 < ks.length ∧ ks.length ≤ 4 ∧ (∀ z ∈ ks, z ∈ (["all", "any", "any", "count"] : List Str)) ∧ (sort = 1 → ks = (["all"] : List Str))) (fun Q kQ => ?_) ?_
    · refine ⟨_, rfl, rfl, _, rfl, ifB (fun e => ?_) (fun e => ?_)⟩
      · exact ⟨(by show 1 ≤ sizeLine; decide), fun c nc => kQ _ _ ⟨c, ["all"], rfl, nc, rfl, by decide, by decide, by decide, fun _ => rfl⟩⟩
      · refine ⟨(by show 4 ≤ sizeLine; decide), fun c nc => kQ _ _ ⟨c, ["all", "any", "any", "count"], rfl, nc, rfl, by decide, by decide, by decide, fun h => ?_⟩⟩
        rw [h] at e
        exact absurd e (by decide)
    rintro x H' ⟨c, ks, rfl, nc, rfl, k0, k4, kin, k1⟩
    -- the book of three
    intro d nd_
    refine ⟨_, rfl, _, rfl, (by show 10 ≤ sizeLine; decide), fun ls nls => ?_⟩
    have A3 : Aft p H (upd (upd H2 c (.lst (ks.map V.str))) d (.dK [])) := (A2.new nc).new nd_
    have fd : H d = none := (A2.new nc).free' nd_
    have dp : d ≠ p := hp.ne fd
    have cp : c ≠ p := A2.pool.ne nc
    have hD3 : (upd (upd H2 c (.lst (ks.map V.str))) d (.dK [])) D = _ := Same.new nd_ _ _ (Same.new nc _ _ hD')
    have hc3 : (upd (upd H2 c (.lst (ks.map V.str))) d (.dK [])) c = _ := Same.new nd_ _ _ upd_same
    have l1 : LR (upd (upd H2 c (.lst (ks.map V.str))) d (.dK [])) a1 (sk.map rS) := ⟨x1, Same.new nd_ _ _ (Same.new nc _ _ ha1'), r1'.tk ((Tk.new nc).trans (Tk.new nd_))⟩
    have l3 : LR (upd (upd H2 c (.lst (ks.map V.str))) d (.dK [])) a3 (nd.map rI2) := ⟨x3, Same.new nd_ _ _ (Same.new nc _ _ ha3'), r3'.tk ((Tk.new nc).trans (Tk.new nd_))⟩
    have hd3 : (upd (upd H2 c (.lst (ks.map V.str))) d (.dK [])) d = some (.dK []) := upd_same
    obtain ⟨H3, eH3⟩ : ∃ H3, H3 = upd (upd H2 c (.lst (ks.map V.str))) d (.dK []) := ⟨_, rfl⟩
    rw [← eH3] at A3 hD3 hc3 l1 l3 hd3 nls ⊢
    clear eH3 nd_ nc ha1' r1' ha3' r3' hD' A2 A1 hq ha1 r1 ha3 r3
    refine ⟨p, ls, [0, 1, 2, 2, 3, 3, 4, 5, 7, 12].map V.int, rfl, (A3.new nls).pool, SqL.of upd_same, A3.pool.ne nls, (by show 0 < 10; decide), (by show 10 ≤ 1000; decide), fun xp H4 hxp A4' => ?_⟩
    obtain ⟨pt, rfl, pt0, pt1⟩ := small_in (lo := 0) (hi := 12) (by decide) hxp
    have A34 : Aft p H3 H4 := ((Aft.refl A3.pool).new nls).trans A4'
    have A4 := A3.trans A34
    have hd4 := A34.keep _ _ dp hd3
    refine ⟨_, rfl, hd4, k3 a1 pt a3, rfl, (by show 3 ≤ 15; decide), ?_⟩
    rw [merge3]
    have A45 : Aft p H (upd H4 d (.dK (k3 a1 pt a3))) := A4.put fd dp
    have hd5 : (upd H4 d (.dK (k3 a1 pt a3))) d = some (.dK (k3 a1 pt a3)) := upd_same
    have hD5 : (upd H4 d (.dK (k3 a1 pt a3))) D = some (.lst ((sk.map (·.1)).map V.str)) := by
      have q1 := A34.keep _ _ Dp hD3
      rw [upd_ne (ne_of q1 hd4 (by intro z; cases z))]
      exact q1
    have hc5 : (upd H4 d (.dK (k3 a1 pt a3))) c = some (.lst (ks.map V.str)) := by
      have q1 := A34.keep _ _ cp hc3
      rw [upd_ne (ne_of q1 hd4 (by intro z; cases z))]
      exact q1
    have l1' : LR (upd H4 d (.dK (k3 a1 pt a3))) a1 (sk.map rS) := (l1.go A34 A3.pool a1p).put hd4
    have l3' : LR (upd H4 d (.dK (k3 a1 pt a3))) a3 (nd.map rI2) := (l3.go A34 A3.pool a3p).put hd4
    obtain ⟨H5, eH5⟩ : ∃ H5, H5 = upd H4 d (.dK (k3 a1 pt a3)) := ⟨_, rfl⟩
    rw [← eH5] at A45 hd5 hD5 hc5 l1' l3' ⊢
    clear eH5 hd4 A4 A34 A4' hxp l1 l3 hd3 hc3 hD3 nls A3
    obtain ⟨ns, ens⟩ : ∃ ns, ns = sk.map (·.1) := ⟨_, rfl⟩
    have nsl : ns.length = sk.length := by rw [ens, List.length_map]
    have nsk : ns.Nodup := by rw [ens]; exact S1.nd
    have nso : Oks ns := by rw [ens]; exact S1.oks
    have sk7 := S1.le
    have sk0 := S1.ne
    -- the wants
    dsimp only
    refine by_ (fun x H' => ∃ (a4 : Addr) (wl : List Want), x = .ref a4 ∧ a4 ≠ p ∧ Aft p H5 H' ∧ LW H' a4 wl ∧ (∀ w ∈ wl, WantOk ns ks (decide (sort < 3)) w) ∧ wl.length ≤ 4 ∧ (sort = 0 → wl = [])) (fun Q kQ => ?_) ?_
    · refine ⟨_, rfl, rfl, _, rfl, ifB (fun e => ?_) (fun e => ?_)⟩
      · exact ⟨(by show 0 ≤ sizeLine; decide), fun a n => kQ _ _ ⟨a, [], rfl, A45.pool.ne n, (Aft.refl A45.pool).new n, ⟨[], upd_same, .nil⟩, fun w hw => (nomatch hw), by decide, fun _ => rfl⟩⟩
      · refine ⟨_, rfl, _, rfl, _, rfl, _, rfl, _, _, rfl, rfl, ?_⟩
        refine ⟨p, D, c, ns, ks, 4, decide (sort < 3), rfl, A45.pool, SqL.of (by rw [ens]; exact hD5), Dp, SqL.of hc5, cp, by decide, by decide, nso, nsk, by omega, by omega, k0, by omega, fun a xs wl H6 na A6 ha rows okw lw => ?_⟩
        refine kQ _ _ ⟨a, wl, rfl, A45.pool.ne na, A6, ⟨xs, ha, rows⟩, okw, by omega, fun h => ?_⟩
        rw [h] at e
        exact absurd e (by decide)
    rintro x H6 ⟨a4, wl, rfl, a4p, A6, l4, okw, lw, w0⟩
    have hd6 := A6.keep _ _ dp hd5
    refine ⟨_, rfl, d, _, rfl, DPut.k (k := .inr "wants") hd6 (by show 3 < sizeLine; decide), ?_⟩
    rw [put4]
    have b4 : BSt p d a1 a3 a4 D sk nd wl (k3 a1 pt a3 ++ [(.inr "wants", .ref a4)]) H (upd H6 d (.dK (k3 a1 pt a3 ++ [(.inr "wants", .ref a4)]))) :=
      BSt.put (kvs := k3 a1 pt a3) ⟨A45.trans A6, fd, hd6, l1'.go A6 A45.pool a1p, l3'.go A6 A45.pool a3p, l4, A6.keep _ _ Dp hD5, dp, a1p, a3p, a4p, Dp⟩
    obtain ⟨H7, eH7⟩ : ∃ H7, H7 = upd H6 d (.dK (k3 a1 pt a3 ++ [(.inr "wants", .ref a4)])) := ⟨_, rfl⟩
    rw [← eH7] at b4 ⊢
    clear eH7 hd6 l4 A6 l1' l3' hc5 hD5 hd5 A45
    -- the bars, the gives
    refine ⟨(by show 0 ≤ sizeLine; decide), fun a5 n5 => ⟨(by show 0 ≤ sizeLine; decide), fun a6 n6 => ⟨(by show 2 ≤ sizeLine; decide), fun tp ntp => ?_⟩⟩⟩
    have b5 := ((b4.new (o := .lst []) n5).new (o := .lst []) n6).new (o := .tup [.ref a5, .ref a6]) ntp
    have h5 : LR (upd (upd (upd H7 a5 (.lst [])) a6 (.lst [])) tp (.tup [.ref a5, .ref a6])) a5 [] := ⟨[], Same.new ntp _ _ (Same.new n6 _ _ upd_same), .nil⟩
    have h6 : LR (upd (upd (upd H7 a5 (.lst [])) a6 (.lst [])) tp (.tup [.ref a5, .ref a6])) a6 [] := ⟨[], Same.new ntp _ _ upd_same, .nil⟩
    have a5p : a5 ≠ p := b4.aft.pool.ne n5
    have a6p : a6 ≠ p := (b4.new (o := .lst []) n5).aft.pool.ne n6
    refine ⟨tp, _, rfl, SqT.of upd_same, rfl, .ref a5, _, rfl, _, rfl, d, _, rfl, DPut.k (k := .inr "bars") b5.dict (by show 4 < sizeLine; decide), .ref a6, _, rfl, ?_⟩
    rw [put5]
    have b6 := b5.put (kvs' := k3 a1 pt a3 ++ [(.inr "wants", .ref a4), (.inr "bars", .ref a5)])
    refine ⟨_, rfl, d, _, rfl, DPut.k (k := .inr "gives") b6.dict (by show 5 < sizeLine; decide), rfl, ?_⟩
    rw [put6]
    have b7 := b6.put (kvs' := k6 a1 pt a3 a4 a5 a6)
    have h5' := (h5.put (kvs' := k3 a1 pt a3 ++ [(.inr "wants", .ref a4), (.inr "bars", .ref a5)]) b5.dict).put (kvs' := k6 a1 pt a3 a4 a5 a6) b6.dict
    have h6' := (h6.put (kvs' := k3 a1 pt a3 ++ [(.inr "wants", .ref a4), (.inr "bars", .ref a5)]) b5.dict).put (kvs' := k6 a1 pt a3 a4 a5 a6) b6.dict
    revert b7 h5' h6'
    generalize upd (upd (upd (upd (upd H7 a5 (.lst [])) a6 (.lst [])) tp (.tup [.ref a5, .ref a6])) d (.dK (k3 a1 pt a3 ++ [(.inr "wants", .ref a4), (.inr "bars", .ref a5)]))) d (.dK (k6 a1 pt a3 a4 a5 a6)) = H8
    intro b7 h5' h6'
    clear b6 h5 h6 b5 ntp n6 n5 b4
    -- the bars, turn by turn
    dsimp only [tSeq]
    refine for_rng_by (fun n H' => 0 ≤ n ∧ n ≤ 2 ∧ Aft p H8 H' ∧ (n ≠ 0 → 1 < sort ∧ 1 < ns.length)) (fun Q kQ => ?_) ?_
    · have hz : Q (.int 0) H8 := kQ _ _ ⟨by decide, by decide, Aft.refl b7.aft.pool, fun h => absurd rfl h⟩
      refine ⟨_, rfl, _, _, rfl, rfl, _, rfl, ifB (fun e => ?_) (fun e => hz)⟩
      refine ⟨_, rfl, _, _, rfl, .inl ⟨_, SqL.of b7.names, rfl⟩, _, _, rfl, rfl, _, rfl, ifB (fun e2 => ?_) (fun e2 => hz)⟩
      refine ⟨_, rfl, p, _, rfl, b7.aft.pool, by decide, by decide, fun r H' r0 r1 a => kQ _ _ ⟨r0, by omega, a, fun _ => ⟨of_decide_eq_true e, ?_⟩⟩⟩
      have q1 := of_decide_eq_true e2
      rw [List.length_map, ← ens] at q1
      omega
    rintro n H9 ⟨n0, n2, A9, hn⟩
    refine ⟨by omega, by omega, fun i σ Hh => ∃ (s8 s9 : Option V) (c5 : Addr) (bars : List (Str × Str)), σ = [some (.ref p), some (.int top), some (.int sort), some (.ref a1), some (.ref a3), some (.ref D), some (.ref c), some (.ref d), s8, s9, none, none] ∧
      BSt p d a1 a3 a4 D sk nd wl (k6 a1 pt a3 a4 c5 a6) H Hh ∧ LR Hh c5 (bars.map rB) ∧ c5 ≠ p ∧ LR Hh a6 [] ∧ BarsOk ns bars ∧ bars.length ≤ i, ⟨_, _, a5, [], rfl, b7.go A9, h5'.go A9 b7.aft.pool a5p, a5p, h6'.go A9 b7.aft.pool a6p, ⟨fun b hb => (nomatch hb), List.Pairwise.nil⟩, Nat.le_refl _⟩, ?_, ?_⟩
    · rintro i σ Hh hi ⟨s8, s9, c5, bars, rfl, b, l5, c5p, l6, bok, bl⟩
      have hsn := hn (by omega)
      refine ⟨_, rfl, _, rfl, p, D, ns, rfl, b.aft.pool, SqL.of (by rw [ens]; exact b.names), nso, Dp, by omega, fun q1 ys H6 nq a6 hq pm => ?_⟩
      have q1p : q1 ≠ p := b.aft.pool.ne nq
      have b6 := b.go a6
      have l56 := l5.go a6 b.aft.pool c5p
      have l66 := l6.go a6 b.aft.pool a6p
      obtain ⟨y1, y2, yr, rfl⟩ : ∃ y1 y2 yr, ys = y1 :: y2 :: yr := by
        have e1 := pm.length_eq
        match ys, e1 with
        | [], e1 => simp at e1; omega
        | [y], e1 => simp at e1; omega
        | y1 :: y2 :: yr, _ => exact ⟨y1, y2, yr, rfl⟩
      have ynd : y1 ≠ y2 := by
        have e1 := (List.nodup_cons.mp (pm.nodup_iff.mpr nsk)).1
        exact fun e => e1 (by rw [e]; exact List.mem_cons_self)
      have y1n : y1 ∈ ns := pm.mem_iff.mp List.mem_cons_self
      have y2n : y2 ∈ ns := pm.mem_iff.mp (List.mem_cons_of_mem _ List.mem_cons_self)
      refine ⟨_, rfl, q1, _, rfl, SqL.of hq, fun n nn => ?_⟩
      have e3 : cutV ((y1 :: y2 :: yr).map V.str) none (some 2) = [.str y1, .str y2] := cut_take _ 2
      rw [e3]
      refine ⟨n, _, rfl, .inl ⟨SqL.of upd_same, fun tp ntp => ?_⟩⟩
      have b7' := (b6.new (o := .lst [.str y1, .str y2]) nn).new (o := .tup [.str y1, .str y2]) ntp
      have l57 := (l56.go ((Aft.refl b6.aft.pool).new (o := .lst [.str y1, .str y2]) nn) b6.aft.pool c5p).go ((Aft.refl (b6.new (o := .lst [.str y1, .str y2]) nn).aft.pool).new (o := .tup [.str y1, .str y2]) ntp) (b6.new (o := .lst [.str y1, .str y2]) nn).aft.pool c5p
      have l67 := (l66.go ((Aft.refl b6.aft.pool).new (o := .lst [.str y1, .str y2]) nn) b6.aft.pool a6p).go ((Aft.refl (b6.new (o := .lst [.str y1, .str y2]) nn).aft.pool).new (o := .tup [.str y1, .str y2]) ntp) (b6.new (o := .lst [.str y1, .str y2]) nn).aft.pool a6p
      have htp : (upd (upd H6 n (.lst [.str y1, .str y2])) tp (.tup [.str y1, .str y2])) tp = some (.tup (rB (y1, y2))) := upd_same
      obtain ⟨H7, eH7⟩ : ∃ H7, H7 = upd (upd H6 n (.lst [.str y1, .str y2])) tp (.tup [.str y1, .str y2]) := ⟨_, rfl⟩
      rw [← eH7] at b7' l57 l67 htp ⊢
      clear eH7 ntp nn e3 l56 l66 b6 hq a6 nq l5 l6 b
      have okb : OkB ns bars := fun x hx => ⟨(bok.in_ x hx).1, (bok.in_ x hx).2.1⟩
      obtain ⟨xs, h5, rows⟩ := l57
      have lx : xs.length ≤ 1 := by
        have e1 := rows.len
        rw [List.length_map] at e1
        omega
      have again : ∃ (s8 s9 : Option V) (c5 : Addr) (bars : List (Str × Str)), ([some (.ref p), some (.int top), some (.int sort), some (.ref a1), some (.ref a3), some (.ref D), some (.ref c), some (.ref d), some (.int (0 + (i : Int))), some (.ref tp), none, none] : L2.St) = [some (.ref p), some (.int top), some (.int sort), some (.ref a1), some (.ref a3), some (.ref D), some (.ref c), some (.ref d), s8, s9, none, none] ∧
        BSt p d a1 a3 a4 D sk nd wl (k6 a1 pt a3 a4 c5 a6) H H7 ∧ LR H7 c5 (bars.map rB) ∧ c5 ≠ p ∧ LR H7 a6 [] ∧ BarsOk ns bars ∧ bars.length ≤ i + 1 := ⟨_, _, c5, bars, rfl, b7', ⟨xs, h5, rows⟩, c5p, l67, bok, by omega⟩
      refine ⟨_, rfl, _, rfl, d, _, rfl, DGet.k (k := .inr "bars") b7'.dict, tB (y1, y2), bars.map tB, dp_tB htp, .lst (SqL.of h5) (dp_bars rows), shaped_tB (nso _ y1n) (nso _ y2n), shaped_bars nso okb, _, rfl, ifB (fun e => ?_) (fun e => ?_)⟩
      · refine ⟨_, rfl, tp, _, _, rfl, SqT.of htp, fun rp nrp => ?_⟩
        have b8 := b7'.new (o := .tup [.str y2, .str y1]) nrp
        have h58 : (upd H7 rp (.tup [.str y2, .str y1])) c5 = some (.lst xs) := Same.new nrp _ _ h5
        have rows8 : Rws (upd H7 rp (.tup [.str y2, .str y1])) xs (bars.map rB) := rows.tk (Tk.new nrp)
        have htp8 : (upd H7 rp (.tup [.str y2, .str y1])) tp = some (.tup (rB (y1, y2))) := Same.new nrp _ _ htp
        have hrp8 : (upd H7 rp (.tup [.str y2, .str y1])) rp = some (.tup (rB (y2, y1))) := upd_same
        have l68 := l67.go ((Aft.refl b7'.aft.pool).new (o := .tup [.str y2, .str y1]) nrp) b7'.aft.pool a6p
        obtain ⟨H8', eH8⟩ : ∃ H8', H8' = upd H7 rp (.tup [.str y2, .str y1]) := ⟨_, rfl⟩
        rw [← eH8] at b8 h58 rows8 htp8 hrp8 l68 ⊢
        clear eH8
        have again8 : ∃ (s8 s9 : Option V) (c5 : Addr) (bars : List (Str × Str)), ([some (.ref p), some (.int top), some (.int sort), some (.ref a1), some (.ref a3), some (.ref D), some (.ref c), some (.ref d), some (.int (0 + (i : Int))), some (.ref tp), none, none] : L2.St) = [some (.ref p), some (.int top), some (.int sort), some (.ref a1), some (.ref a3), some (.ref D), some (.ref c), some (.ref d), s8, s9, none, none] ∧
          BSt p d a1 a3 a4 D sk nd wl (k6 a1 pt a3 a4 c5 a6) H H8' ∧ LR H8' c5 (bars.map rB) ∧ c5 ≠ p ∧ LR H8' a6 [] ∧ BarsOk ns bars ∧ bars.length ≤ i + 1 := ⟨_, _, c5, bars, rfl, b8, ⟨xs, h58, rows8⟩, c5p, l68, bok, by omega⟩
        refine ⟨_, rfl, d, _, rfl, DGet.k (k := .inr "bars") b8.dict, tB (y2, y1), bars.map tB, dp_tB hrp8, .lst (SqL.of h58) (dp_bars rows8), shaped_tB (nso _ y2n) (nso _ y1n), shaped_bars nso okb, _, rfl, ifB (fun e2 => ?_) (fun e2 => again8)⟩
        refine ⟨_, rfl, d, _, rfl, DGet.k (k := .inr "bars") b8.dict, _, rfl, (by show 1 ≤ sizeLine; decide), fun l1 nl1 => ?_⟩
        refine ⟨c5, l1, _, _, rfl, rfl, Same.new nl1 _ _ h58, upd_same, ?_, fun nb nnb => ?_⟩
        · have e1 : (2 : Nat) ≤ sizeLine := by decide
          show xs.length + 1 ≤ sizeLine
          omega
        have b9 := (b8.new (o := .lst [.ref tp]) nl1).new (o := .lst (xs ++ [.ref tp])) nnb
        refine ⟨_, rfl, d, _, rfl, DPut.k (k := .inr "bars") b9.dict (by show 6 < sizeLine; decide), ?_⟩
        rw [put5']
        have rows9 : Rws (upd (upd H8' l1 (.lst [.ref tp])) nb (.lst (xs ++ [.ref tp]))) (xs ++ [.ref tp]) ((bars ++ [(y1, y2)]).map rB) := by
          rw [List.map_append]
          exact Rws.snoc ⟨tp, rfl, Same.new nnb _ _ (Same.new nl1 _ _ htp8)⟩ (rows8.tk ((Tk.new nl1).trans (Tk.new nnb)))
        have l59 : LR (upd (upd H8' l1 (.lst [.ref tp])) nb (.lst (xs ++ [.ref tp]))) nb ((bars ++ [(y1, y2)]).map rB) := ⟨_, upd_same, rows9⟩
        have l69 := (l68.go ((Aft.refl b8.aft.pool).new (o := .lst [.ref tp]) nl1) b8.aft.pool a6p).go ((Aft.refl (b8.new (o := .lst [.ref tp]) nl1).aft.pool).new (o := .lst (xs ++ [.ref tp])) nnb) (b8.new (o := .lst [.ref tp]) nl1).aft.pool a6p
        refine ⟨_, _, nb, bars ++ [(y1, y2)], rfl, b9.put, l59.put b9.dict, (b8.new (o := .lst [.ref tp]) nl1).aft.pool.ne nnb, l69.put b9.dict, ⟨fun x hx => ?_, ?_⟩, ?_⟩
        · rcases List.mem_append.mp hx with hx | hx
          · exact bok.in_ x hx
          · rw [List.mem_singleton.mp hx]
            exact ⟨y1n, y2n, ynd⟩
        · exact asc_snoc bok.un fun y hy => ⟨no_bar e y hy, no_bar e2 y hy⟩
        · rw [List.length_append]
          show bars.length + 1 ≤ i + 1
          omega
      · exact again
    · rintro σ Hh ⟨s8, s9, c5, bars, rfl, b, l5, c5p, l6, bok, bl⟩
      have n2' : n.toNat ≤ 2 := by omega
      have bars2 : bars.length ≤ 2 := by omega
      have bars0 : sort ≤ 1 → bars = [] := fun h => by
        have e1 : n = 0 := by
          by_cases e : n = 0
          · exact e
          · have := (hn e).1
            omega
        rw [e1] at bl
        exact List.eq_nil_of_length_eq_zero (Nat.le_zero.mp bl)
      dsimp only [tSeq]
      -- the gives
      refine ts_by (fun σ' H' => σ' = [some (.ref p), some (.int top), some (.int sort), some (.ref a1), some (.ref a3), some (.ref D), some (.ref c), some (.ref d), s8, s9, none, none] ∧ ∃ (c6 : Addr) (gives : List (Str × Int)), BSt p d a1 a3 a4 D sk nd wl (k6 a1 pt a3 a4 c5 c6) H H' ∧ LR H' c5 (bars.map rB) ∧ c6 ≠ p ∧
        LR H' c6 (gives.map rS) ∧ ToldOk ns 1 3 gives ∧ (sort ≠ 4 → gives = [])) (fun D' kD => ?_) ?_
      · refine ⟨_, rfl, rfl, _, rfl, ifB (fun e => ?_) (fun e => kD _ _ ⟨rfl, a6, [], b, l5, a6p, l6, ⟨fun g hg => (nomatch hg), List.nodup_nil⟩, fun _ => rfl⟩)⟩
        refine ⟨_, rfl, _, rfl, p, D, ns, rfl, b.aft.pool, SqL.of (by rw [ens]; exact b.names), nso, Dp, by omega, fun q1 ys H6 nq a6' hq pm => ?_⟩
        have q1p : q1 ≠ p := b.aft.pool.ne nq
        refine ⟨_, rfl, p, _, rfl, a6'.pool, by decide, by decide, fun r H7 r0 r1 a7 => ⟨_, _, rfl, rfl, _, rfl, q1, _, rfl, SqL.of (a7.keep _ _ q1p hq), fun n' nn => ?_⟩⟩
        have z1 : 1 + r = (((1 + r).toNat : Nat) : Int) := by omega
        have e3 : cutV (ys.map V.str) none (some (1 + r)) = (ys.take (1 + r).toNat).map V.str := by
          rw [z1, cut_take, ← List.map_take]
          rfl
        rw [e3]
        obtain ⟨zs, ezs⟩ : ∃ zs, zs = ys.take (1 + r).toNat := ⟨_, rfl⟩
        have znd : zs.Nodup := by rw [ezs]; exact (pm.nodup_iff.mpr nsk).sublist (List.take_sublist _ _)
        have zin : ∀ z ∈ zs, z ∈ ns := fun z hz => by
          rw [ezs] at hz
          exact pm.mem_iff.mp (List.mem_of_mem_take hz)
        have zl : zs.length ≤ 7 := by
          have e1 := pm.length_eq
          have e2 : zs.length ≤ ys.length := by rw [ezs]; exact List.length_take_le' _ _
          omega
        rw [← ezs]
        have aS : Aft p Hh (upd H7 n' (.lst (zs.map V.str))) := (a6'.trans a7).new nn
        have hn' : (upd H7 n' (.lst (zs.map V.str))) n' = some (.lst (zs.map V.str)) := upd_same
        have n'p : n' ≠ p := a7.pool.ne nn
        obtain ⟨HS, eHS⟩ : ∃ HS, HS = upd H7 n' (.lst (zs.map V.str)) := ⟨_, rfl⟩
        rw [← eHS] at aS hn' ⊢
        clear eHS ezs e3 z1 nn a7 hq a6' nq pm
        refine ⟨n', rfl, lc_seqG (SqL.of hn') (fun C i Hx => Aft p HS Hx ∧ ∃ gs : List (Str × Int), LR Hx C (gs.map rS) ∧ gs.map (·.1) = zs.take i ∧ ∀ g ∈ gs, 1 ≤ g.2 ∧ g.2 ≤ 3)
          (fun C nC => ⟨(Aft.refl aS.pool).new nC, [], ⟨[], upd_same, .nil⟩, rfl, fun g hg => (nomatch hg)⟩) (fun C i Hx _ P => SqL.of (P.1.keep _ _ n'p hn')) ?_ ?_⟩
        · rintro C nC i x Hx hi' ⟨ax, gs, ⟨xs, hC, rows⟩, en, bd⟩
          have Cp : C ≠ p := aS.pool.ne nC
          obtain ⟨z, rfl, hz⟩ := strs_get hi'
          have lx : xs.length ≤ 7 := by
            have e1 := rows.len
            rw [List.length_map] at e1
            have e2 := congrArg List.length en
            rw [List.length_map] at e2
            have e3 := List.length_take_le' i zs
            omega
          refine ⟨rfl, _, rfl, _, rfl, p, _, rfl, ax.pool, by decide, by decide, fun r' H2 r0' r1' a2 => ⟨_, _, rfl, rfl, (by show 2 ≤ sizeLine; decide), fun tp ntp => ?_⟩⟩
          have hC2 := a2.keep _ _ Cp hC
          have rows2 := rows.tk (a2.tk ax.pool)
          have tpC : tp ≠ C := (ne_of_none hC2 ntp).symm
          refine ⟨xs, Same.new ntp _ _ hC2, line_of (m := 7) lx (by decide), ((ax.trans a2).new ntp).put nC Cp, gs ++ [(z, 1 + r')], ⟨_, upd_same, ?_⟩, ?_, ?_⟩
          · rw [List.map_append]
            exact Rws.snoc ⟨tp, rfl, by rw [upd_ne tpC]; exact upd_same⟩ (rows2.tk ((Tk.new ntp).trans (Tk.lst (xs := xs) (Same.new ntp _ _ hC2))))
          · rw [List.map_append, en]
            exact (take_one hz).symm
          · intro g hg
            rcases List.mem_append.mp hg with hg | hg
            · exact bd g hg
            · rw [List.mem_singleton.mp hg]
              exact ⟨by show 1 ≤ 1 + r'; omega, by show 1 + r' ≤ 3; omega⟩
        · rintro C Hx nC ⟨ax, gs, lC, en, bd⟩
          have bx := (b.go aS).go ax
          have l5x := (l5.go aS b.aft.pool c5p).go ax aS.pool c5p
          have en' : gs.map (·.1) = zs := by
            rw [en, List.length_map, List.take_length]
          refine ⟨_, rfl, d, _, rfl, DPut.k (k := .inr "gives") bx.dict (by show 6 < sizeLine; decide), ?_⟩
          rw [put6']
          refine kD _ _ ⟨rfl, C, gs, bx.put, l5x.put bx.dict, aS.pool.ne nC, lC.put bx.dict, ⟨fun g hg => ⟨zin _ ?_, bd g hg⟩, by rw [en']; exact znd⟩, fun h => ?_⟩
          · rw [← en']
            exact List.mem_map_of_mem hg
          · have e1 : sort = 4 := by
              have q := of_decide_eq_true e
              injection q
            exact absurd e1 h
      rintro σ' Hg ⟨rfl, c6, gives, b2, l52, c6p, l62, gok, g0⟩
      -- the prices
      have hDn : Hg D = some (.lst (ns.map V.str)) := by rw [ens]; exact b2.names
      refine ⟨_, rfl, D, rfl, lc_seqG (SqL.of hDn) (fun C i Hx => Aft p Hg Hx ∧ ∃ gs : List (Str × Int), LR Hx C (gs.map rS) ∧ (gs.map (·.1)).Sublist (ns.take i) ∧ gs.length ≤ i ∧ ∀ g ∈ gs, 0 ≤ g.2 ∧ g.2 ≤ 99)
        (fun C nC => ⟨(Aft.refl b2.aft.pool).new nC, [], ⟨[], upd_same, .nil⟩, List.nil_sublist _, Nat.le_refl _, fun g hg => (nomatch hg)⟩) (fun C i Hx _ P => SqL.of (P.1.keep _ _ Dp hDn)) ?_ ?_⟩
      · rintro C nC i x Hx hi' ⟨ax, gs, ⟨xs, hC, rows⟩, sub, gl, bd⟩
        have Cp : C ≠ p := b2.aft.pool.ne nC
        obtain ⟨z, rfl, hz⟩ := strs_get hi'
        have il : i < ns.length := (List.getElem?_eq_some_iff.mp hz).1
        have lx : xs.length ≤ 7 := by
          have e1 := rows.len
          rw [List.length_map] at e1
          omega
        have sub' : (ns.take i).Sublist (ns.take (i + 1)) := by
          rw [take_one hz]
          exact List.sublist_append_left _ _
        refine ⟨rfl, _, rfl, p, _, rfl, ax.pool, by decide, by decide, fun r' H2 r0' r1' a2 => ⟨rfl, _, rfl, ifB (fun e => ?_) (fun e => ?_)⟩⟩
        · refine ⟨_, rfl, _, rfl, (by show 6 ≤ sizeLine; decide), fun ls nls => ?_⟩
          refine ⟨p, ls, [0, 1, 2, 3, 7, 99].map V.int, rfl, (a2.new nls).pool, SqL.of upd_same, a2.pool.ne nls, (by show 0 < 6; decide), (by show 6 ≤ 1000; decide), fun xp H4 hxp a4' => ?_⟩
          obtain ⟨pr, rfl, pr0, pr1⟩ := small_in (lo := 0) (hi := 99) (by decide) hxp
          refine ⟨(by show 2 ≤ sizeLine; decide), fun tp ntp => ?_⟩
          have ax4 : Aft p Hx H4 := (a2.new nls).trans a4'
          have hC4 := ax4.keep _ _ Cp hC
          have rows4 := rows.tk (ax4.tk ax.pool)
          have tpC : tp ≠ C := (ne_of_none hC4 ntp).symm
          refine ⟨xs, Same.new ntp _ _ hC4, line_of (m := 7) lx (by decide), ((ax.trans ax4).new ntp).put nC Cp, gs ++ [(z, pr)], ⟨_, upd_same, ?_⟩, ?_, ?_, ?_⟩
          · rw [List.map_append]
            exact Rws.snoc ⟨tp, rfl, by rw [upd_ne tpC]; exact upd_same⟩ (rows4.tk ((Tk.new ntp).trans (Tk.lst (xs := xs) (Same.new ntp _ _ hC4))))
          · rw [List.map_append, take_one hz]
            exact sub.append (List.Sublist.refl _)
          · rw [List.length_append]
            show gs.length + 1 ≤ i + 1
            omega
          · intro g hg
            rcases List.mem_append.mp hg with hg | hg
            · exact bd g hg
            · rw [List.mem_singleton.mp hg]
              exact ⟨pr0, pr1⟩
        · exact ⟨ax.trans a2, gs, LR.go ⟨xs, hC, rows⟩ a2 ax.pool Cp, sub.trans sub', by omega, bd⟩
      rintro a7 Hx n7 ⟨ax, prices, l7, sub, _, bd⟩
      rw [List.length_map, List.take_length] at sub
      have a7p : a7 ≠ p := b2.aft.pool.ne n7
      have b3 := b2.go ax
      have l53 := l52.go ax b2.aft.pool c5p
      have l63 := l62.go ax b2.aft.pool c6p
      refine ⟨_, rfl, d, _, rfl, DPut.k (k := .inr "prices") b3.dict (by show 6 < sizeLine; decide), ?_⟩
      rw [put7]
      have b4 := b3.put (kvs' := k6 a1 pt a3 a4 c5 c6 ++ [(.inr "prices", .ref a7)])
      have l54 := l53.put (kvs' := k6 a1 pt a3 a4 c5 c6 ++ [(.inr "prices", .ref a7)]) b3.dict
      have l64 := l63.put (kvs' := k6 a1 pt a3 a4 c5 c6 ++ [(.inr "prices", .ref a7)]) b3.dict
      have l74 := l7.put (kvs' := k6 a1 pt a3 a4 c5 c6 ++ [(.inr "prices", .ref a7)]) b3.dict
      revert b4 l54 l64 l74
      generalize upd Hx d (.dK (k6 a1 pt a3 a4 c5 c6 ++ [(.inr "prices", .ref a7)])) = Hy
      intro b4 l54 l64 l74
      clear l53 l63 l7 b3 ax
      -- the reset
      refine ⟨_, rfl, (by show 8 ≤ sizeLine; decide), fun ls nls => ?_⟩
      refine ⟨p, ls, ([none, none, some 0, some 1, some 2, some 4, some 9, some 99] : List (Option Int)).map oV, rfl, (b4.aft.pool.same (Same.new nls)), SqL.of upd_same, b4.aft.pool.ne nls, (by show 0 < 8; decide), (by show 8 ≤ 1000; decide), fun xr Hz hxr az => ?_⟩
      obtain ⟨r, hr', rfl⟩ := List.mem_map.mp hxr
      have rb : ∀ i, r = some i → 0 ≤ i ∧ i ≤ 99 := fun i e => by
        subst e
        simp at hr'
        omega
      have ay : Aft p Hy Hz := ((Aft.refl b4.aft.pool).new nls).trans az
      have b5 := b4.go ay
      refine ⟨_, rfl, d, _, rfl, DPut.k (k := .inr "reset") b5.dict (by show 7 < sizeLine; decide), ?_⟩
      rw [put8]
      have b6 := b5.put (kvs' := bkL a1 pt a3 a4 c5 c6 a7 (oV r))
      refine ⟨_, rfl, k d ⟨sk, pt, nd, wl, bars, gives, prices, r⟩ _ fd b6.aft ⟨a1, a3, a4, c5, c6, a7, upd_same, b6.l1, b6.l3, b6.l4, (l54.go ay b4.aft.pool c5p).put b5.dict, (l64.go ay b4.aft.pool c6p).put b5.dict, (l74.go ay b4.aft.pool a7p).put b5.dict⟩
        ⟨S1, ⟨pt0, pt1⟩, N1', ?_, ?_, w0, lw, by rw [ens] at bok; exact bok, bars2, bars0, by rw [ens] at gok; exact gok, g0, ⟨fun g hg => ⟨?_, bd g hg⟩, ?_⟩, rb⟩ skt⟩
      · intro w hw
        have q := okw w hw
        rw [ens] at q
        exact ⟨kin _ q.kind, q.many, q.ne, q.nd, q.all, q.at_, q.out⟩
      · intro h w hw
        have q := (okw w hw).kind
        rw [k1 h] at q
        exact List.mem_singleton.mp q
      · show g.1 ∈ sk.map (·.1)
        rw [← ens]
        exact sub.subset (List.mem_map_of_mem hg)
      · exact nsk.sublist sub
theorem cal_law_book (Z : All K mg) : Cal P w K mg base CX0 4 "_law_book" ["_law_pool_here", "_law_top", "_law_sort"] spBook :=
  (cal_law_bookT Z).imp fun _ _ _ _ ⟨p, top, sort, e, h1, h2, h3, h4, h5, k⟩ => ⟨p, top, sort, e, h1, h2, h3, h4, h5, fun d B H' n a b o _ => k d B H' n a b o⟩
end
end Rt
end
section
set_option Elab.async false
set_option linter.all false
set_option maxRecDepth 100000
set_option maxHeartbeats 4000000
/-! set(xs) of a list of ints, as it is sorted after -/
namespace Rt
open PySem PySem.Spec PyProof.Rows L2
theorem asc_eq : ∀ {xs ys : List Int}, xs.Pairwise (· < ·) → ys.Pairwise (· < ·) → (∀ k, k ∈ xs ↔ k ∈ ys) → xs = ys
  | [], [], _, _, _ => rfl
  | [], y :: ys, _, _, h => absurd ((h y).mpr List.mem_cons_self) (by simp)
  | x :: xs, [], _, _, h => absurd ((h x).mp List.mem_cons_self) (by simp)
  | x :: xs, y :: ys, hx, hy, h => by
    obtain ⟨hx1, hx2⟩ := List.pairwise_cons.mp hx
    obtain ⟨hy1, hy2⟩ := List.pairwise_cons.mp hy
    have e : x = y := by
      rcases List.mem_cons.mp ((h x).mp List.mem_cons_self) with e | q1
      · exact e
      · rcases List.mem_cons.mp ((h y).mpr List.mem_cons_self) with e | q2
        · exact e.symm
        · have := hy1 x q1
          have := hx1 y q2
          omega
    subst e
    refine congrArg (x :: ·) (asc_eq hx2 hy2 fun k => ⟨fun hk => ?_, fun hk => ?_⟩)
    · rcases List.mem_cons.mp ((h k).mp (List.mem_cons_of_mem _ hk)) with e | q
      · have := hx1 k hk
        omega
      · exact q
    · rcases List.mem_cons.mp ((h k).mpr (List.mem_cons_of_mem _ hk)) with e | q
      · have := hy1 k hk
        omega
      · exact q
theorem le_eq : ∀ {xs ys : List Int}, xs.Pairwise (· ≤ ·) → ys.Pairwise (· ≤ ·) → xs.Perm ys → xs = ys
  | [], ys, _, _, h => by rw [List.nil_perm.mp h]
  | x :: xs, [], _, _, h => by simp at h
  | x :: xs, y :: ys, hx, hy, h => by
    obtain ⟨hx1, hx2⟩ := List.pairwise_cons.mp hx
    obtain ⟨hy1, hy2⟩ := List.pairwise_cons.mp hy
    have e : x = y := by
      rcases List.mem_cons.mp (h.mem_iff.mp List.mem_cons_self) with e | q1
      · exact e
      · rcases List.mem_cons.mp (h.mem_iff.mpr List.mem_cons_self) with e | q2
        · exact e.symm
        · have := hy1 x q1
          have := hx1 y q2
          omega
    subst e
    exact congrArg (x :: ·) (le_eq hx2 hy2 ((List.perm_cons x).mp h))
section
variable {X : Cx}
/-- set(xs), xs a list of ints -/
theorem call_setI (hc : X.calm = true) : CallR X (.type "set") (fun xs H Q => ∃ l, ∃ ks : List Int, xs = [V.ref l] ∧ SqL X.K H l (ks.map V.int) ∧ ks.length ≤ 60 ∧ ∀ p c, H p = none → c ≤ ks.length → Q (.ref p) (upd H p (SetO X.w p (fun j => decide (j ∈ ks)) c))) := by
  intro pins s σ H xs us Q I r h
  obtain ⟨l, ks, rfl, hl, hz, q⟩ := h
  rw [Vals.ref1 r]
  have key : ∀ {its : List Value}, Vals (ks.map V.int) its → ∀ (i : Nat) (v : Value), its.toArray[i]? = some v → ∃ k t, ks[i]? = some k ∧ v = .int k t := fun {its} rv i v hv => by
    have hv' : its[i]? = some v := by simpa using hv
    cases hx : ks[i]? with
    | none =>
      have : (ks.map V.int)[i]? = none := by rw [List.getElem?_map, hx]; rfl
      rw [rv.none_of this] at hv'
      cases hv'
    | some x =>
      obtain ⟨u, hu, ru⟩ := rv.get (i := i) (x := V.int x) (by rw [List.getElem?_map, hx]; rfl)
      rw [hv'] at hu
      cases hu
      obtain ⟨t, e⟩ := ru
      exact ⟨x, t, rfl, e⟩
  have fin : ∀ (h' : Heap) (tk : Nat), (∃ c, c ≤ ks.length ∧ SetR X.w h' s.heap.objs.size (fun j => decide (j ∈ ks)) c) → (∀ b o, s.heap.get? b = some o → h'.get? b = some o) → EP X pins σ Q (.ref s.heap.objs.size) { s with heap := h', toks := tk } := fun h' tk ⟨c, hc, S⟩ kp =>
    ⟨.ref s.heap.objs.size, _, I.laid (t' := tk) kp (Nat.le_refl _) (setO_new S), rfl, q _ c (I.hok.fresh (Nat.le_refl _)) hc⟩
  have two : ∀ led, (s.heap.push { cls := .type "set", dict := none, data := .set #[] 0 (.fresh 0 0 led) }).objs.size = s.heap.objs.size + 1 := fun led => Heap.size_push ..
  obtain ⟨its, rv, pl, hz'⟩ := I.list hl
  have lt : l < s.heap.objs.size := by
    obtain ⟨o, ho, _⟩ := pl.isList
    exact Heap.lt_size ho
  refine set_list (I.ok.hd hc) pl.isList (T := fun h' => ∃ c, c ≤ ks.length ∧ SetR X.w h' s.heap.objs.size (fun j => decide (j ∈ ks)) c) (fun led hled B R calm un k => ?_) fin
  have at0 : (setAhead X.w led s.heap "list_iterator" l).get? s.heap.objs.size = some { cls := .type "set", dict := none, data := .set #[] 0 (.fresh 0 0 led) } := Heap.get?_push_of_some _ (Heap.get?_push_size _ rfl)
  have at1 : (setAhead X.w led s.heap "list_iterator" l).get? (s.heap.objs.size + 1) = some { cls := .type "list_iterator", data := .fields #[.ref l, .int 0 0] } := by
    rw [← two led]
    exact Heap.get?_push_size _ rfl
  have ls : its.toArray.size = ks.length := by
    have := rv.length
    rw [List.length_map] at this
    simpa using this.symm
  rw [hled] at at0
  refine set_update_ints (Walks.list calm (s.heap.objs.size + 1) l (Nat.ne_of_lt (Nat.lt_succ_of_lt lt)) its.toArray).toS s.heap.objs.size (by
    simp only [List.mem_cons, List.not_mem_nil, or_false, not_or]
    exact ⟨Nat.ne_of_lt (Nat.lt_succ_self _), Nat.ne_of_gt lt⟩) ks ls (by unfold scanBound; omega) (key rv) its.toArray.size 0 _ (by omega) (by omega) ⟨⟨_, at1, rfl, rfl⟩, (pl.isList.push _).push _⟩ ⟨0, Nat.le_refl _, by rw [hled]; exact setR_new_at at0⟩ fun s' c mv hc S => k s' mv ⟨c, by rw [← ls]; exact hc, S⟩
end
end Rt
end
section
set_option Elab.async false
set_option linter.all false
set_option maxRecDepth 100000
set_option maxHeartbeats 8000000
/-! parts: rows, pairs, skills, needs -/
namespace Rt
open PySem PySem.Spec PyProof.Rows L2
/-- a list or a tuple, and isinstance sees which -/
structure Lt (K : PySem.W.Frag) (H : Hp) (a : Addr) (xs : List V) : Prop where
  sq : Sq K H a xs
  ty : ∃ T, Ts K H (.ref a) T ∧ (T = "list" ∨ T = "tuple")
theorem Lt.same {K : PySem.W.Frag} {H H' : Hp} {a : Addr} {xs : List V} (h : Lt K H a xs) (s : Same H H') : Lt K H' a xs := ⟨h.sq.same s, let ⟨T, t, e⟩ := h.ty; ⟨T, t.same s, e⟩⟩
theorem Lt.lst {K : PySem.W.Frag} {H : Hp} {a : Addr} {xs : List V} (h : H a = some (.lst xs)) : Lt K H a xs := ⟨.inl (SqL.of h), "list", .lst h, .inl rfl⟩
theorem Lt.tup {K : PySem.W.Frag} {H : Hp} {a : Addr} {xs : List V} (h : H a = some (.tup xs)) : Lt K H a xs := ⟨.inr (SqT.of h), "tuple", .tup (SqT.of h), .inr rfl⟩
theorem Lt.tupK {K : PySem.W.Frag} {H : Hp} {a : Addr} {xs : List V} (h : SqT K H a xs) : Lt K H a xs := ⟨.inr h, "tuple", .tup h, .inr rfl⟩
theorem Rws.same {H H' : Hp} {xs : List V} {rows : List (List V)} (h : Rws H xs rows) (s : Same H H') : Rws H' xs rows := h.tk (Tk.of s)
theorem dec_len {n m : Nat} : decide (V.int (n : Int) = V.int (m : Int)) = decide (n = m) := by
  by_cases h : n = m
  · subst h
    rw [decide_eq_true rfl, decide_eq_true rfl]
  · rw [decide_eq_false h, decide_eq_false fun e => h (by injection e with e; omega)]
theorem num_ok {i lo hi : Int} (h0 : lo ≤ i) (h1 : i ≤ hi) : isNum (.int i) lo hi = true := by
  show (decide (lo ≤ i) && decide (i ≤ hi)) = true
  rw [decide_eq_true h0, decide_eq_true h1]
  rfl
def spNeeds (K : PySem.W.Frag) : Sp := fun vs H Q _ => ∃ (a : Addr) (xs : List V) (nd : List (Int × Int)), vs = [.ref a] ∧ Lt K H a xs ∧ Rws H xs (nd.map rI2) ∧ (nd.map (·.1)).Pairwise (· < ·) ∧ (∀ r ∈ nd, (2 ≤ r.1 ∧ r.1 ≤ 4) ∧ 0 ≤ r.2 ∧ r.2 ≤ 12) ∧ nd.length ≤ 3 ∧ ∀ H', Same H H' → Q (.bl true) H'
theorem pg_tupK {X : Cx} {K : PySem.W.Frag} {es : List Expr} {k : Nat} {t : TGs} {n : Nat} {pos : Pos} (hK : X.K = K) (hc : X.calm = true) (h : PGs X es t)
    (hn : (assignEach es X.env).length = n := by rfl) (hst : (assignEach es X.env).findIdx? (·.1) = none := by rfl) : PG X (.Tuple es k pos) (gTup K n t) := by
  subst hK
  exact pg_tup hc h hn hst
theorem all_true : ∀ xs : List V, (xs.map fun _ => true).all id = true
  | [] => rfl
  | _ :: xs => all_true xs
theorem Rws.at_ {α : Type} {f : α → List V} {H : Hp} {xs : List V} {l : List α} {i : Nat} {x : V} (rows : Rws H xs (l.map f)) (h : xs[i]? = some x) : ∃ r p, l[i]? = some r ∧ x = .ref p ∧ H p = some (.tup (f r)) := by
  obtain ⟨vs, hv, p, rfl, hp⟩ := rows.get h
  rw [List.getElem?_map] at hv
  cases e : l[i]? with
  | none => rw [e] at hv; cases hv
  | some r =>
    rw [e] at hv
    cases hv
    exact ⟨r, p, rfl, rfl, hp⟩
theorem take_line {α β : Type} {f : α → β} {xs : List α} (i : Nat) {m : Nat} (h : xs.length ≤ m) (hm : m ≤ 100000) : ((xs.take i).map f).length < sizeLine := by
  refine line_of (m := m) ?_ hm
  rw [List.length_map]
  exact Nat.le_trans (List.length_take_le' _ _) h
theorem dpAll_ints {K : PySem.W.Frag} {H : Hp} : ∀ ns : List Int, DpAll K H (ns.map V.int) (ns.map PyData.int)
  | [] => .nil
  | z :: zs => .cons (.int z) (dpAll_ints zs)
theorem dp_ints {K : PySem.W.Frag} {H : Hp} {a : Addr} {ns : List Int} (h : SqL K H a (ns.map V.int)) : Dp K H (.ref a) (.list (ns.map PyData.int)) := .lst h (dpAll_ints ns)
theorem lay_ints : ∀ ns : List Int, PyData.canLayAll0 (ns.map PyData.int) = true ∧ PyData.depthAll (ns.map PyData.int) ≤ 1
  | [] => ⟨by simp [PyData.canLayAll0], by simp [PyData.depthAll]⟩
  | z :: zs => by
    obtain ⟨h1, h2⟩ := lay_ints zs
    refine ⟨by simp [PyData.canLayAll0, PyData.canLay0, h1], ?_⟩
    simp only [List.map_cons, PyData.depthAll, PyData.depth]
    omega
theorem shaped_ints (ns : List Int) : SeqAt.shaped (.list (ns.map PyData.int)) = true := by
  obtain ⟨h1, h2⟩ := lay_ints ns
  show (PyData.canLay0 (.list (ns.map PyData.int)) && decide (PyData.depth (.list (ns.map PyData.int)) ≤ 64)) = true
  rw [Bool.and_eq_true]
  exact ⟨by simp only [PyData.canLay0]; exact h1, decide_eq_true (by simp only [PyData.depth]; omega)⟩
theorem eqv_ints (ns : List Int) : PyData.eqv (.list (ns.map PyData.int)) (.list (ns.map PyData.int)) = true := by
  have h : PyData.eqvAll (ns.map PyData.int) (ns.map PyData.int) = true := by
    induction ns with
    | nil => simp [PyData.eqvAll]
    | cons z zs ih => simp [PyData.eqvAll, PyData.eqv, ih]
  simp [PyData.eqv, h]
def spRows (K : PySem.W.Frag) : Sp := fun vs H Q _ => ∃ (a : Addr) (xs : List V) (m : Int), vs = [.ref a, .int m] ∧ Lt K H a xs ∧ (xs.length : Int) ≤ m ∧ ∀ H', Same H H' → Q (.bl true) H'
def spPair : Sp := fun vs H Q _ => ∃ (a : Addr) (xs : List V), vs = [.ref a] ∧ H a = some (.tup xs) ∧ Q (.bl (decide (xs.length = 2))) H
def spNeed (K : PySem.W.Frag) : Sp := fun vs H Q _ => ∃ (a : Addr) (i j : Int), vs = [.ref a] ∧ H a = some (.tup [.int i, .int j]) ∧ 2 ≤ i ∧ i ≤ 4 ∧ 0 ≤ j ∧ j ≤ 12 ∧ Q (.bl true) H
section
variable {P : Program} {w : World} {K : PySem.W.Frag} {mg : Str → Option Value} {base : Heap}
theorem cal_are_rows (Z : All K mg) : Cal P w K mg base CX0 1 "are_rows" ["value", "most"] (spRows K) := by
  obtain ⟨fd, F⟩ := Z.f_are_rows
  refine .of ⟨fd, F, ok0 F sc_are_rows (fun vs H Q E h => ?_) (fun cdv A outer s H vs Q E hr h => ?_)⟩ Z.g_are_rows (fun _ _ _ _ _ _ us hl => match us, hl with | [_, _], _ => rfl)
  · obtain ⟨a, xs, m, rfl, _⟩ := h
    rfl
  · obtain ⟨a, xs, m, rfl, ha, hm, k⟩ := h
    refine ⟨_, (pss_one (ps_ret (pe_and (pe_callB call_isLT (by rfl) Z.b_isinstance boot_isinstance (pa_cons (pv 0) (pa_cons (pe_tup (pa_cons (pe_bltn (v := .ty "list") (by rfl) Z.b_list PyProof.Rows.boot_list rfl) (pa_cons (pe_bltn (v := .ty "tuple") (by rfl) Z.b_tuple PyProof.Rows.boot_tuple rfl) pa_nil))) pa_nil))) (pe_one (pe_cmpR op_le (pe_callB call_len (by rfl) Z.b_len PySem.boot_len (pa_cons (pv 0) pa_nil)) (pv 1) (nomark _)))))), ?_⟩
    refine ⟨_, rfl, (by show 2 ≤ sizeLine; decide), fun tp ntp => ?_⟩
    have ha2 := ha.same (Same.new (o := .tup [.ty "list", .ty "tuple"]) ntp)
    obtain ⟨T, t, eT⟩ := ha2.ty
    have e : (decide (T = "list") || decide (T = "tuple")) = true := by rcases eT with rfl | rfl <;> decide
    refine ⟨.ref a, T, tp, rfl, upd_same, t, ?_⟩
    rw [e]
    refine ⟨_, rfl, ?_⟩
    refine ⟨_, rfl, .ref a, xs.length, rfl, lenV_sq ha2.sq, _, rfl, _, _, rfl, rfl, ?_⟩
    show Q (.bl (decide ((xs.length : Int) ≤ m))) _
    rw [decide_eq_true hm]
    exact k _ (Same.new ntp)
theorem cal_is_pair (Z : All K mg) : Cal P w K mg base CX0 1 "is_pair" ["value"] spPair := by
  obtain ⟨fd, F⟩ := Z.f_is_pair
  refine .of ⟨fd, F, ok0 F sc_is_pair (fun vs H Q E h => ?_) (fun cdv A outer s H vs Q E hr h => ?_)⟩ Z.g_is_pair (fun _ _ _ _ _ _ us hl => match us, hl with | [_], _ => rfl)
  · obtain ⟨a, xs, rfl, _⟩ := h
    rfl
  · obtain ⟨a, xs, rfl, ha, k⟩ := h
    refine ⟨_, (pss_one (ps_ret (pe_and (pe_callB (call_is (cn := "tuple") (by decide)) (by rfl) Z.b_isinstance boot_isinstance (pa_cons (pv 0) (pa_cons (pe_bltn (v := .ty "tuple") (by rfl) Z.b_tuple PyProof.Rows.boot_tuple rfl) pa_nil))) (pe_one (pe_cmpR op_eq (pe_callB call_len (by rfl) Z.b_len PySem.boot_len (pa_cons (pv 0) pa_nil)) pe_int (nomark _)))))), ?_⟩
    refine ⟨_, rfl, .ref a, "tuple", rfl, .tup (SqT.of ha), _, rfl, ifT (by decide) ?_⟩
    refine ⟨_, rfl, .ref a, xs.length, rfl, .inr ⟨xs, SqT.of ha, rfl⟩, rfl, ?_⟩
    show Q (.bl (decide (V.int (xs.length : Int) = V.int 2))) H
    have e := dec_len (n := xs.length) (m := 2)
    rw [show ((2 : Nat) : Int) = 2 from rfl] at e
    rw [e]
    exact k
theorem cal_is_need (Z : All K mg) : Cal P w K mg base CX0 3 "is_need" ["row"] (spNeed K) := by
  obtain ⟨fd, F⟩ := Z.f_is_need
  have C_is_pair : Cal P w K mg base CX0 1 "is_pair" ["value"] spPair := cal_is_pair Z
  have C_is_number_in : Cal P w K mg base CX0 2 "is_number_in" ["value", "low", "high"] (spNum K) := cal_is_number_in Z
  refine .of ⟨fd, F, ok0 F sc_is_need (fun vs H Q E h => ?_) (fun cdv A outer s H vs Q E hr h => ?_)⟩ Z.g_is_need (fun _ _ _ _ _ _ us hl => match us, hl with | [_], _ => rfl)
  · obtain ⟨a, i, j, rfl, _⟩ := h
    rfl
  · obtain ⟨a, i, j, rfl, ha, i0, i1, j0, j1, k⟩ := h
    refine ⟨_, (pss_one (ps_ret (pe_and (pe_cal C_is_pair (hr.mono (by decide)) (by rfl) pass0 (pa_cons (pv 0) pa_nil)) (pe_and (pe_cal C_is_number_in (hr.mono (by decide)) (by rfl) pass0 (pa_cons (pe_ix ix_tup (pv 0) pe_int (fun _ _ => rfl)) (pa_cons pe_int (pa_cons (pe_gint (by rfl) Z.LAST_TIER) pa_nil)))) (pe_one (pe_cal C_is_number_in (hr.mono (by decide)) (by rfl) pass0 (pa_cons (pe_ix ix_tup (pv 0) pe_int (fun _ _ => rfl)) (pa_cons pe_int (pa_cons (pe_gint (by rfl) Z.MOST_NEED) pa_nil))))))))), ?_⟩
    refine ⟨_, rfl, a, _, rfl, ha, _, rfl, ?_⟩
    refine ⟨_, rfl, a, _, 0, _, rfl, rfl, SqT.of ha, rfl, .int i, 2, 4, "int", rfl, .int i, _, rfl, ?_⟩
    rw [num_ok i0 i1]
    refine ⟨_, rfl, a, _, 1, _, rfl, rfl, SqT.of ha, rfl, .int j, 0, 12, "int", rfl, .int j, ?_⟩
    rw [num_ok j0 j1]
    exact k
theorem cal_are_needs (Z : All K mg) : Cal P w K mg base CX0 4 "are_needs" ["value"] (spNeeds K) := by
  obtain ⟨fd, F⟩ := Z.f_are_needs
  have C_are_rows : Cal P w K mg base CX0 1 "are_rows" ["value", "most"] (spRows K) := cal_are_rows Z
  have C_is_need : Cal P w K mg base CX0 3 "is_need" ["row"] (spNeed K) := cal_is_need Z
  refine .of ⟨fd, F, ok0 F sc_are_needs (fun vs H Q E h => ?_) (fun cdv A outer s H vs Q E hr h => ?_)⟩ Z.g_are_needs (fun _ _ _ _ _ _ us hl => match us, hl with | [_], _ => rfl)
  · obtain ⟨a, xs, nd, rfl, _⟩ := h
    rfl
  · obtain ⟨a, xs, nd, rfl, ha, rows, asc, bd, len, k⟩ := h
    refine ⟨_, (pss_cons (ps_if (pt_not (pt_val (pe_cal C_are_rows (hr.mono (by decide)) (by rfl) pass0 (pa_cons (pv 0) (pa_cons (pe_op op_sub (pe_gint (by rfl) Z.LAST_TIER) pe_int) pa_nil))))) (pss_one (ps_ret pe_bl)) pss_nil)
      (pss_cons (ps_if (pt_not (pt_val (pe_callB (cr_all rfl) (by rfl) Z.b_all boot_all (pa_cons (pe_lc (own := [("row", 4)]) (by rfl) sc_are_needs.nd (pi_seq (pv 0)) (blkOk_by (own := [("row", 4)]) (N := ["value", "tiers", "tier", "_", "row"]) (sc := defScope s_are_needs) (by decide +kernel)) (fun _ _ _ _ _ => (pg_name (i := 4) sc_are_needs.nd rfl (Or.inl rfl))) (fun _ _ _ _ _ => pts_nil) (fun _ _ _ _ _ => (pe_cal C_is_need (hr.mono (by decide)) (by rfl) pass0 (pa_cons (pv 4) pa_nil)))) pa_nil)))) (pss_one (ps_ret pe_bl)) pss_nil)
      (pss_cons (ps_setLc (i := 1) (own := [("tier", 2), ("_", 3)]) (by rfl) sc_are_needs.nd rfl rfl (sw_true rfl rfl rfl (by decide +kernel)) (pi_seq (pv 0)) (blkOk_by (own := [("tier", 2), ("_", 3)]) (N := ["value", "tiers", "tier", "_", "row"]) (sc := defScope s_are_needs) (by decide +kernel)) (fun _ _ _ _ _ => (pg_tupK (K := K) (n := 2) rfl rfl (pgs_cons (pg_name (i := 2) sc_are_needs.nd rfl (Or.inl rfl)) (pgs_cons (pg_name (i := 3) sc_are_needs.nd rfl (Or.inl rfl)) pgs_nil)))) (fun _ _ _ _ _ => pts_nil) (fun _ _ _ _ _ => (pv 2)))
      (pss_one (ps_ret (pe_cmpR (op_eqD hr.units) (pv 1) (pe_callB (cr_sortedSet rfl) (by rfl) Z.b_sorted PyProof.Rows.boot_sorted (pa_cons (pe_callTy (call_setI rfl) (by rfl) Z.b_set PyProof.Rows.boot_set (pa_cons (pv 1) pa_nil)) pa_nil)) (nomark _))))))), ?_⟩
    have l3 : xs.length ≤ 3 := by
      have q := rows.len
      rw [List.length_map] at q
      omega
    refine ⟨_, rfl, _, _, rfl, rfl, a, xs, 3, rfl, ha, by omega, fun H1 s1 => ⟨_, rfl, ?_⟩⟩
    have ha1 := ha.same s1
    have rows1 := rows.same s1
    refine ⟨_, rfl, a, rfl, lc_seq ha1.sq (fun i => (xs.take i).map fun _ => V.bl true) rfl (fun D nD i x H2 hi p => ?_) fun D H2 nD s2 at2 => ?_⟩
    · obtain ⟨r, tp, hr', rfl, htp⟩ := rows1.at_ hi
      have b := bd r (List.mem_of_getElem? hr')
      refine ⟨rfl, _, rfl, tp, r.1, r.2, rfl, p.same _ _ htp, b.1.1, b.1.2, b.2.1, b.2.2, p.put nD (map_one _ hi) (take_line _ (m := 3) l3 (by decide))⟩
    refine ⟨D, xs.map fun _ => true, rfl, SqL.of (by rw [at2, List.take_length, List.map_map]; rfl), _, rfl, ?_⟩
    rw [all_true]
    have ha2 := ha1.same s2
    have rows2 := rows1.same s2
    refine ⟨_, rfl, a, rfl, lc_seq ha2.sq (fun i => (nd.take i).map fun r => V.int r.1) rfl (fun D nD i x H3 hi p => ?_) fun T H3 nT s3 at3 => ?_⟩
    · obtain ⟨r, tp, hr', rfl, htp⟩ := rows2.at_ hi
      refine ⟨tp, _, rfl, SqT.of (p.same _ _ htp), rfl, .int r.1, _, rfl, .int r.2, _, rfl, rfl, rfl, _, rfl, p.put nD (map_one _ hr') (take_line _ (m := 3) len (by decide))⟩
    have eT : H3 T = some (.lst ((nd.map (·.1)).map V.int)) := by
      rw [at3, rows.len, List.length_map, List.take_length, List.map_map]
      rfl
    refine ⟨_, rfl, _, rfl, T, nd.map (·.1), rfl, SqL.of eT, by rw [List.length_map]; omega, fun p c np hc => ?_⟩
    rw [List.length_map] at hc
    refine ⟨p, _, c, rfl, upd_same, by omega, fun ns q asc2 mem _ nq => ?_⟩
    have e : ns = nd.map (·.1) := asc_eq asc2 asc fun k => (mem k).trans (decide_eq_true_iff)
    subst e
    refine ⟨_, _, dp_ints (SqL.of (Same.new nq _ _ (Same.new np _ _ eT))), dp_ints (SqL.of upd_same), shaped_ints _, shaped_ints _, ?_⟩
    rw [eqv_ints]
    exact k _ (((s1.trans s2).trans s3).trans ((Same.new np).trans (Same.new nq)))
end
end Rt
end
section
set_option Elab.async false
set_option linter.all false
set_option maxRecDepth 100000
set_option maxHeartbeats 8000000
/-! parts: skills, what is told once, others -/
namespace Rt
open PySem PySem.Spec PyProof.Rows L2
structure SkillsR (sk : List (Str × Int)) : Prop where
  ne : 0 < sk.length
  le : sk.length ≤ 12
  word : ∀ r ∈ sk, isWord (.str r.1) = true
  bd : ∀ r ∈ sk, 1 ≤ r.2 ∧ r.2 ≤ 4
  nd : (sk.map (·.1)).Nodup
  asc : (sk.map (·.2)).Pairwise (· ≤ ·)
theorem n_words : (N1.all fun z => isWord (.str z)) = true ∧ (N2.all fun z => isWord (.str z)) = true := by decide +kernel
theorem Skills.r {sk : List (Str × Int)} (h : Skills sk) : SkillsR sk := by
  refine ⟨h.ne, by have := h.le; omega, fun r hr => ?_, h.bd, h.nd, h.asc⟩
  obtain ⟨N, n, hN, e⟩ := h.names
  have q : r.1 ∈ N.take n := by
    rw [← e]
    exact List.mem_map_of_mem hr
  have q2 := List.mem_of_mem_take q
  rcases hN with rfl | rfl
  · exact List.all_eq_true.mp n_words.1 _ q2
  · exact List.all_eq_true.mp n_words.2 _ q2
theorem word_len {z : Str} (h : isWord (.str z) = true) : z.length ≤ 8 := by
  have q : ((decide ((1 : Int) ≤ (z.length : Int)) && decide ((z.length : Int) ≤ 8)) && (signs z).all id) = true := h
  rw [Bool.and_eq_true, Bool.and_eq_true] at q
  have := of_decide_eq_true q.1.2
  omega
theorem sub_len : ∀ {zs ns : List Str}, zs.Nodup → (∀ z ∈ zs, z ∈ ns) → zs.length ≤ ns.length
  | [], _, _, _ => Nat.zero_le _
  | z :: zs, ns, h, i => by
    obtain ⟨h1, h2⟩ := List.nodup_cons.mp h
    have hz := i z List.mem_cons_self
    have q := sub_len (zs := zs) (ns := ns.erase z) h2 fun y hy => (List.mem_erase_of_ne (fun e => h1 (by rw [← e]; exact hy))).mpr (i y (List.mem_cons_of_mem _ hy))
    rw [List.length_erase_of_mem hz] at q
    have q2 : 0 < ns.length := List.length_pos_of_mem hz
    show zs.length + 1 ≤ ns.length
    omega
theorem fm_strs : ∀ zs : List Str, (zs.map V.str).filterMap strOf = zs
  | [] => rfl
  | z :: zs => congrArg (z :: ·) (fm_strs zs)
theorem unlike_ok {ns zs : List Str} (nd : zs.Nodup) (i : ∀ z ∈ zs, z ∈ ns) : unlike ns (zs.map V.str) = true := by
  have q := sub_len nd i
  unfold unlike
  rw [fm_strs, decide_eq_true nd, Bool.and_true, List.length_map]
  have e1 : decide ((ns.length : Int) < (zs.length : Int)) = false := decide_eq_false (by omega)
  rw [e1]
  show ((zs.map V.str).all (isOne ns)) = true
  rw [List.all_eq_true]
  intro x hx
  obtain ⟨z, hz, rfl⟩ := List.mem_map.mp hx
  exact decide_eq_true (i z hz)
theorem ts_strs {K : PySem.W.Frag} {H : Hp} {zs : List Str} : ∀ x ∈ zs.map V.str, ∃ T, Ts K H x T := fun x hx => by
  obtain ⟨z, hz, rfl⟩ := List.mem_map.mp hx
  exact ⟨_, .str z⟩
def spSkills (K : PySem.W.Frag) : Sp := fun vs H Q _ => ∃ (a : Addr) (xs : List V) (sk : List (Str × Int)), vs = [.ref a] ∧ Lt K H a xs ∧ Rws H xs (sk.map rS) ∧ SkillsR sk ∧ ∀ H', Same H H' → Q (.bl true) H'
def spTold (K : PySem.W.Frag) : Sp := fun vs H Q _ => ∃ (n : Addr) (ns : List Str) (a : Addr) (xs : List V) (gs : List (Str × Int)) (lo hi : Int), vs = [.ref n, .ref a, .int lo, .int hi] ∧ Sq K H n (ns.map V.str) ∧ ns.length ≤ 60 ∧ Lt K H a xs ∧ Rws H xs (gs.map rS) ∧ ToldOk ns lo hi gs ∧ ∀ H', Same H H' → Q (.bl true) H'
section
variable {P : Program} {w : World} {K : PySem.W.Frag} {mg : Str → Option Value} {base : Heap}
theorem cal_are_told_once (Z : All K mg) : Cal P w K mg base CX0 3 "are_told_once" ["names", "value", "low", "high"] (spTold K) := by
  obtain ⟨fd, F⟩ := Z.f_are_told_once
  have C_are_rows : Cal P w K mg base CX0 1 "are_rows" ["value", "most"] (spRows K) := cal_are_rows Z
  have C_is_pair : Cal P w K mg base CX0 1 "is_pair" ["value"] spPair := cal_is_pair Z
  have C_is_number_in : Cal P w K mg base CX0 2 "is_number_in" ["value", "low", "high"] (spNum K) := cal_is_number_in Z
  have C_are_unlike : Cal P w K mg base CX0 2 "are_unlike" ["names", "values"] (spUnlike K) := cal_are_unlike Z
  refine .of ⟨fd, F, ok0 F sc_are_told_once (fun vs H Q E h => ?_) (fun cdv A outer s H vs Q E hr h => ?_)⟩ Z.g_are_told_once (fun _ _ _ _ _ _ us hl => match us, hl with | [_, _, _, _], _ => rfl)
  · obtain ⟨n, ns, a, xs, gs, lo, hi, rfl, _⟩ := h
    rfl
  · obtain ⟨n, ns, a, xs, gs, lo, hi, rfl, hn, n60, ha, rows, ok, k⟩ := h
    have gl : gs.length ≤ ns.length := by
      have q := sub_len ok.nd (fun z hz => by
        obtain ⟨g, hg, rfl⟩ := List.mem_map.mp hz
        exact (ok.in_ g hg).1)
      rw [List.length_map] at q
      exact q
    have xl : xs.length = gs.length := by rw [rows.len, List.length_map]
    refine ⟨_, (pss_cons (ps_if (pt_not (pt_val (pe_cal C_are_rows (hr.mono (by decide)) (by rfl) pass0 (pa_cons (pv 1) (pa_cons (pe_callB call_len (by rfl) Z.b_len PySem.boot_len (pa_cons (pv 0) pa_nil)) pa_nil))))) (pss_one (ps_ret pe_bl)) pss_nil)
      (pss_cons (ps_if (pt_not (pt_val (pe_callB (cr_all rfl) (by rfl) Z.b_all boot_all (pa_cons (pe_lc (own := [("row", 6)]) (by rfl) sc_are_told_once.nd (pi_seq (pv 1)) (blkOk_by (own := [("row", 6)]) (N := ["names", "value", "low", "high", "skill", "_", "row"]) (sc := defScope s_are_told_once) (by decide +kernel)) (fun _ _ _ _ _ => (pg_name (i := 6) sc_are_told_once.nd rfl (Or.inl rfl))) (fun _ _ _ _ _ => pts_nil) (fun _ _ _ _ _ => (pe_and (pe_cal C_is_pair (hr.mono (by decide)) (by rfl) pass0 (pa_cons (pv 6) pa_nil)) (pe_one (pe_cal C_is_number_in (hr.mono (by decide)) (by rfl) pass0 (pa_cons (pe_ix (show IxR _ (rIxT K) from ix_tup) (pv 6) pe_int (fun _ _ => rfl)) (pa_cons (pv 2) (pa_cons (pv 3) pa_nil)))))))) pa_nil)))) (pss_one (ps_ret pe_bl)) pss_nil)
      (pss_one (ps_ret (pe_cal C_are_unlike (hr.mono (by decide)) (by rfl) pass0 (pa_cons (pv 0) (pa_cons (pe_lc (own := [("skill", 4), ("_", 5)]) (by rfl) sc_are_told_once.nd (pi_seq (pv 1)) (blkOk_by (own := [("skill", 4), ("_", 5)]) (N := ["names", "value", "low", "high", "skill", "_", "row"]) (sc := defScope s_are_told_once) (by decide +kernel)) (fun _ _ _ _ _ => (pg_tupK (K := K) (n := 2) rfl rfl (pgs_cons (pg_name (i := 4) sc_are_told_once.nd rfl (Or.inl rfl)) (pgs_cons (pg_name (i := 5) sc_are_told_once.nd rfl (Or.inl rfl)) pgs_nil)))) (fun _ _ _ _ _ => pts_nil) (fun _ _ _ _ _ => (pv 4))) pa_nil))))))), ?_⟩
    refine ⟨_, rfl, _, rfl, _, (ns.map V.str).length, rfl, lenV_sq hn, a, xs, _, rfl, ha, by rw [List.length_map]; omega, fun H1 s1 => ⟨_, rfl, ?_⟩⟩
    have hn1 := hn.same s1
    have ha1 := ha.same s1
    have rows1 := rows.same s1
    refine ⟨_, rfl, a, rfl, lc_seq ha1.sq (fun i => (xs.take i).map fun _ => V.bl true) rfl (fun D nD i x H2 hi' p => ?_) fun D H2 nD s2 at2 => ?_⟩
    · obtain ⟨r, tp, hr', rfl, htp⟩ := rows1.at_ hi'
      have b := ok.in_ r (List.mem_of_getElem? hr')
      refine ⟨rfl, _, rfl, tp, _, rfl, p.same _ _ htp, _, rfl, ?_⟩
      refine ⟨_, rfl, tp, _, 1, _, rfl, rfl, SqT.of (p.same _ _ htp), rfl, _, rfl, _, rfl, .int r.2, lo, hi, "int", rfl, .int r.2, ?_⟩
      rw [num_ok b.2.1 b.2.2]
      exact p.put nD (map_one _ hi') (take_line _ (m := 60) (by omega) (by decide))
    refine ⟨D, xs.map fun _ => true, rfl, SqL.of (by rw [at2, List.take_length, List.map_map]; rfl), _, rfl, ?_⟩
    rw [all_true]
    have hn2 := hn1.same s2
    have ha2 := ha1.same s2
    have rows2 := rows1.same s2
    refine ⟨_, rfl, _, rfl, a, rfl, lc_seq ha2.sq (fun i => (gs.take i).map fun r => V.str r.1) rfl (fun D nD i x H3 hi' p => ?_) fun T H3 nT s3 at3 => ?_⟩
    · obtain ⟨r, tp, hr', rfl, htp⟩ := rows2.at_ hi'
      refine ⟨tp, _, rfl, SqT.of (p.same _ _ htp), rfl, .str r.1, _, rfl, .int r.2, _, rfl, rfl, rfl, _, rfl, p.put nD (map_one _ hr') (take_line _ (m := 60) (by omega) (by decide))⟩
    have eT : H3 T = some (.lst ((gs.map (·.1)).map V.str)) := by
      rw [at3, xl, List.take_length, List.map_map]
      rfl
    refine ⟨n, ns, T, (gs.map (·.1)).map V.str, rfl, hn2.same s3, .inl (SqL.of eT), ts_strs, by rw [List.length_map, List.length_map]; omega, n60, fun H4 s4 => ?_⟩
    rw [unlike_ok ok.nd (fun z hz => by
      obtain ⟨g, hg, rfl⟩ := List.mem_map.mp hz
      exact (ok.in_ g hg).1)]
    exact k _ (((s1.trans s2).trans s3).trans s4)
theorem cal_are_skills (Z : All K mg) : Cal P w K mg base CX0 3 "are_skills" ["value"] (spSkills K) := by
  obtain ⟨fd, F⟩ := Z.f_are_skills
  have C_are_rows : Cal P w K mg base CX0 1 "are_rows" ["value", "most"] (spRows K) := cal_are_rows Z
  have C_is_pair : Cal P w K mg base CX0 1 "is_pair" ["value"] spPair := cal_is_pair Z
  have C_is_word : Cal P w K mg base CX0 1 "is_word" ["value"] (spWord K) := cal_is_word Z
  have C_is_number_in : Cal P w K mg base CX0 2 "is_number_in" ["value", "low", "high"] (spNum K) := cal_is_number_in Z
  have C_are_unlike : Cal P w K mg base CX0 2 "are_unlike" ["names", "values"] (spUnlike K) := cal_are_unlike Z
  refine .of ⟨fd, F, ok0 F sc_are_skills (fun vs H Q E h => ?_) (fun cdv A outer s H vs Q E hr h => ?_)⟩ Z.g_are_skills (fun _ _ _ _ _ _ us hl => match us, hl with | [_], _ => rfl)
  · obtain ⟨a, xs, sk, rfl, _⟩ := h
    rfl
  · obtain ⟨a, xs, sk, rfl, ha, rows, ok, k⟩ := h
    have xl : xs.length = sk.length := by rw [rows.len, List.length_map]
    have k0 := ok.ne
    have k12 := ok.le
    refine ⟨_, (pss_cons (ps_if (PW.pt (pw_or (pt_not (pt_val (pe_cal C_are_rows (hr.mono (by decide)) (by rfl) pass0 (pa_cons (pv 0) (pa_cons (pe_gint (by rfl) Z.MOST_SKILLS) pa_nil))))) (pw_or1 (pt_cmpR op_eq (pe_callB call_len (by rfl) Z.b_len PySem.boot_len (pa_cons (pv 0) pa_nil)) pe_int (nomark _))))) (pss_one (ps_ret pe_bl)) pss_nil)
      (pss_cons (ps_if (pt_not (pt_val (pe_callB (cr_all rfl) (by rfl) Z.b_all boot_all (pa_cons (pe_lc (own := [("row", 6)]) (by rfl) sc_are_skills.nd (pi_seq (pv 0)) (blkOk_by (own := [("row", 6)]) (N := ["value", "names", "tiers", "name", "_", "tier", "row"]) (sc := defScope s_are_skills) (by decide +kernel)) (fun _ _ _ _ _ => (pg_name (i := 6) sc_are_skills.nd rfl (Or.inl rfl))) (fun _ _ _ _ _ => pts_nil) (fun _ _ _ _ _ => (pe_and (pe_cal C_is_pair (hr.mono (by decide)) (by rfl) pass0 (pa_cons (pv 6) pa_nil)) (pe_and (pe_cal C_is_word (hr.mono (by decide)) (by rfl) pass0 (pa_cons (pe_ix (show IxR _ (rIxT K) from ix_tup) (pv 6) pe_int (fun _ _ => rfl)) pa_nil)) (pe_one (pe_cal C_is_number_in (hr.mono (by decide)) (by rfl) pass0 (pa_cons (pe_ix (show IxR _ (rIxT K) from ix_tup) (pv 6) pe_int (fun _ _ => rfl)) (pa_cons pe_int (pa_cons (pe_gint (by rfl) Z.LAST_TIER) pa_nil))))))))) pa_nil)))) (pss_one (ps_ret pe_bl)) pss_nil)
      (pss_cons (ps_setLc (i := 1) (own := [("name", 3), ("_", 4)]) (by rfl) sc_are_skills.nd rfl rfl (sw_true rfl rfl rfl (by decide +kernel)) (pi_seq (pv 0)) (blkOk_by (own := [("name", 3), ("_", 4)]) (N := ["value", "names", "tiers", "name", "_", "tier", "row"]) (sc := defScope s_are_skills) (by decide +kernel)) (fun _ _ _ _ _ => (pg_tupK (K := K) (n := 2) rfl rfl (pgs_cons (pg_name (i := 3) sc_are_skills.nd rfl (Or.inl rfl)) (pgs_cons (pg_name (i := 4) sc_are_skills.nd rfl (Or.inl rfl)) pgs_nil)))) (fun _ _ _ _ _ => pts_nil) (fun _ _ _ _ _ => (pv 3)))
      (pss_cons (ps_setLc (i := 2) (own := [("_", 4), ("tier", 5)]) (by rfl) sc_are_skills.nd rfl rfl (sw_true rfl rfl rfl (by decide +kernel)) (pi_seq (pv 0)) (blkOk_by (own := [("_", 4), ("tier", 5)]) (N := ["value", "names", "tiers", "name", "_", "tier", "row"]) (sc := defScope s_are_skills) (by decide +kernel)) (fun _ _ _ _ _ => (pg_tupK (K := K) (n := 2) rfl rfl (pgs_cons (pg_name (i := 4) sc_are_skills.nd rfl (Or.inl rfl)) (pgs_cons (pg_name (i := 5) sc_are_skills.nd rfl (Or.inl rfl)) pgs_nil)))) (fun _ _ _ _ _ => pts_nil) (fun _ _ _ _ _ => (pv 5)))
      (pss_one (ps_ret (pe_and (pe_cal C_are_unlike (hr.mono (by decide)) (by rfl) pass0 (pa_cons (pv 1) (pa_cons (pv 1) pa_nil))) (pe_one (pe_cmpR (op_eqD hr.units) (pv 2) (pe_callB cr_sorted (by rfl) Z.b_sorted PyProof.Rows.boot_sorted (pa_cons (pv 2) pa_nil)) (nomark _)))))))))), ?_⟩
    refine ⟨_, rfl, a, xs, 12, rfl, ha, by omega, fun H1 s1 => ⟨_, rfl, ?_⟩⟩
    have ha1 := ha.same s1
    have rows1 := rows.same s1
    refine ⟨_, rfl, _, xs.length, rfl, lenV_sq ha1.sq, rfl, _, rfl, ifB (fun e => ?_) (fun _ => ?_)⟩
    · have q := of_decide_eq_true e
      injection q with q
      omega
    refine ⟨_, rfl, a, rfl, lc_seq ha1.sq (fun i => (xs.take i).map fun _ => V.bl true) rfl (fun D nD i x H2 hi' p => ?_) fun D H2 nD s2 at2 => ?_⟩
    · obtain ⟨r, tp, hr', rfl, htp⟩ := rows1.at_ hi'
      have b := ok.bd r (List.mem_of_getElem? hr')
      have wd := ok.word r (List.mem_of_getElem? hr')
      refine ⟨rfl, _, rfl, tp, _, rfl, p.same _ _ htp, _, rfl, ?_⟩
      refine ⟨_, rfl, tp, _, 0, _, rfl, rfl, SqT.of (p.same _ _ htp), rfl, .str r.1, "str", rfl, .str r.1, fun z e => ?_, fun H3 s3 => ?_⟩
      · injection e with e
        rw [← e]
        exact Nat.le_trans (word_len wd) (by decide)
      rw [wd]
      have p3 := p.ext s3
      refine ⟨_, rfl, ?_⟩
      refine ⟨_, rfl, tp, _, 1, _, rfl, rfl, SqT.of (p3.same _ _ htp), rfl, .int r.2, 1, 4, "int", rfl, .int r.2, ?_⟩
      rw [num_ok b.1 b.2]
      exact p3.put nD (map_one _ hi') (take_line _ (m := 12) (by omega) (by decide))
    refine ⟨D, xs.map fun _ => true, rfl, SqL.of (by rw [at2, List.take_length, List.map_map]; rfl), _, rfl, ?_⟩
    rw [all_true]
    have ha2 := ha1.same s2
    have rows2 := rows1.same s2
    refine ⟨_, rfl, a, rfl, lc_seq ha2.sq (fun i => (sk.take i).map fun r => V.str r.1) rfl (fun D nD i x H3 hi' p => ?_) fun T H3 nT s3 at3 => ?_⟩
    · obtain ⟨r, tp, hr', rfl, htp⟩ := rows2.at_ hi'
      refine ⟨tp, _, rfl, SqT.of (p.same _ _ htp), rfl, .str r.1, _, rfl, .int r.2, _, rfl, rfl, rfl, _, rfl, p.put nD (map_one _ hr') (take_line _ (m := 12) (by omega) (by decide))⟩
    have eT : H3 T = some (.lst ((sk.map (·.1)).map V.str)) := by
      rw [at3, xl, List.take_length, List.map_map]
      rfl
    have ha3 := ha2.same s3
    have rows3 := rows2.same s3
    refine ⟨_, rfl, a, rfl, lc_seq ha3.sq (fun i => (sk.take i).map fun r => V.int r.2) rfl (fun D nD i x H4 hi' p => ?_) fun U H4 nU s4 at4 => ?_⟩
    · obtain ⟨r, tp, hr', rfl, htp⟩ := rows3.at_ hi'
      refine ⟨tp, _, rfl, SqT.of (p.same _ _ htp), rfl, .str r.1, _, rfl, .int r.2, _, rfl, rfl, rfl, _, rfl, p.put nD (map_one _ hr') (take_line _ (m := 12) (by omega) (by decide))⟩
    have eU : H4 U = some (.lst ((sk.map (·.2)).map V.int)) := by
      rw [at4, xl, List.take_length, List.map_map]
      rfl
    have eT4 := s4 _ _ eT
    refine ⟨_, rfl, _, rfl, T, sk.map (·.1), T, (sk.map (·.1)).map V.str, rfl, .inl (SqL.of eT4), .inl (SqL.of eT4), ts_strs, by rw [List.length_map, List.length_map]; omega, by rw [List.length_map]; omega, fun H5 s5 => ?_⟩
    rw [unlike_ok ok.nd (fun z hz => hz)]
    refine ⟨_, rfl, ?_⟩
    have eU5 := s5 _ _ eU
    refine ⟨_, rfl, _, rfl, U, sk.map (·.2), rfl, SqL.of eU5, by rw [List.length_map]; omega, fun ns' q pm asc2 nq => ?_⟩
    have e : ns' = sk.map (·.2) := le_eq asc2 ok.asc pm
    subst e
    refine ⟨_, _, dp_ints (SqL.of (Same.new nq _ _ eU5)), dp_ints (SqL.of upd_same), shaped_ints _, shaped_ints _, ?_⟩
    rw [eqv_ints]
    exact k _ ((((s1.trans s2).trans s3).trans s4).trans (s5.trans (Same.new nq)))
end
end Rt
end
section
set_option Elab.async false
set_option linter.all false
set_option maxRecDepth 100000
set_option maxHeartbeats 8000000
/-! parts: others, wants -/
namespace Rt
open PySem PySem.Spec PyProof.Rows L2
/-- a want that is right beside the names -/
structure WantR (ns : List Str) (w : Want) : Prop where
  kind : w.kind ∈ (["all", "any", "any", "count"] : List Str)
  many : (w.kind = "count" ∧ ∃ m, w.many = some m ∧ 1 ≤ m ∧ m ≤ (w.names.length : Int)) ∨ (w.kind ≠ "count" ∧ w.many = none)
  ne : w.names ≠ []
  nd : w.names.Nodup
  all : ∀ z ∈ w.names, z ∈ ns
  skill : w.skill ∈ ns
  out : w.skill ∉ w.names
theorem WantOk.r {ns ks : List Str} {d : Bool} {w : Want} (h : WantOk ns ks d w) (k : ∀ z ∈ ks, z ∈ (["all", "any", "any", "count"] : List Str)) : WantR ns w :=
  ⟨k _ h.kind, h.many, h.ne, h.nd, h.all, let ⟨i, e, _⟩ := h.at_; List.mem_of_getElem? e, h.out⟩
def spOthers (K : PySem.W.Frag) : Sp := fun vs H Q _ => ∃ (n : Addr) (ns : List Str) (z : Str) (q : Addr) (zs : List Str), vs = [.ref n, .str z, .ref q] ∧ Sq K H n (ns.map V.str) ∧ ns.length ≤ 60 ∧ H q = some (.tup (zs.map V.str)) ∧ zs ≠ [] ∧ zs.Nodup ∧ (∀ y ∈ zs, y ∈ ns) ∧ z ∉ zs ∧ ∀ H', Same H H' → Q (.bl true) H'
def spWant (K : PySem.W.Frag) : Sp := fun vs H Q _ => ∃ (n : Addr) (ns : List Str) (x : V) (w : Want), vs = [.ref n, x] ∧ Sq K H n (ns.map V.str) ∧ ns.length ≤ 60 ∧ Ww H x w ∧ WantR ns w ∧ ∀ H', Same H H' → Q (.bl true) H'
def spWants (K : PySem.W.Frag) : Sp := fun vs H Q _ => ∃ (n : Addr) (ns : List Str) (a : Addr) (xs : List V) (wl : List Want), vs = [.ref n, .ref a] ∧ Sq K H n (ns.map V.str) ∧ ns.length ≤ 60 ∧ Lt K H a xs ∧ Wws H xs wl ∧ (∀ w ∈ wl, WantR ns w) ∧ wl.length ≤ 12 ∧ ∀ H', Same H H' → Q (.bl true) H'
theorem Wws.at_ {H : Hp} : ∀ {xs : List V} {wl : List Want} {i : Nat} {x : V}, Wws H xs wl → xs[i]? = some x → ∃ w, wl[i]? = some w ∧ Ww H x w
  | _, _, _, _, .nil, e => by simp at e
  | _, _, 0, _, .cons r _, e => by
    simp at e
    subst e
    exact ⟨_, rfl, r⟩
  | _, _, i + 1, x, .cons _ t, e => by
    obtain ⟨w, h1, h2⟩ := Wws.at_ (i := i) (x := x) t (by simpa using e)
    exact ⟨w, by simpa using h1, h2⟩
section
variable {P : Program} {w : World} {K : PySem.W.Frag} {mg : Str → Option Value} {base : Heap}
theorem cal_are_others (Z : All K mg) : Cal P w K mg base CX0 3 "are_others" ["names", "skill", "value"] (spOthers K) := by
  obtain ⟨fd, F⟩ := Z.f_are_others
  have C_are_unlike : Cal P w K mg base CX0 2 "are_unlike" ["names", "values"] (spUnlike K) := cal_are_unlike Z
  refine .of ⟨fd, F, ok0 F sc_are_others (fun vs H Q E h => ?_) (fun cdv A outer s H vs Q E hr h => ?_)⟩ Z.g_are_others (fun _ _ _ _ _ _ us hl => match us, hl with | [_, _, _], _ => rfl)
  · obtain ⟨n, ns, z, q, zs, rfl, _⟩ := h
    rfl
  · obtain ⟨n, ns, z, q, zs, rfl, hn, n60, hq, ne, nd, sub, out, k⟩ := h
    refine ⟨_, (pss_one (ps_ret (pe_and (pe_callB (call_is (cn := "tuple") (by decide)) (by rfl) Z.b_isinstance boot_isinstance (pa_cons (pv 2) (pa_cons (pe_bltn (v := .ty "tuple") (by rfl) Z.b_tuple PyProof.Rows.boot_tuple rfl) pa_nil))) (pe_and (pe_cmpR op_gt (pe_callB call_len (by rfl) Z.b_len PySem.boot_len (pa_cons (pv 2) pa_nil)) pe_int (nomark _)) (pe_and (pe_cal C_are_unlike (hr.mono (by decide)) (by rfl) pass0 (pa_cons (pv 0) (pa_cons (pv 2) pa_nil))) (pe_one (pe_cmpR op_notIn_seq (pv 1) (pv 2) rfl))))))), ?_⟩
    have zl := sub_len nd sub
    have z0 : 0 < zs.length := List.length_pos_iff.mpr ne
    refine ⟨_, rfl, .ref q, "tuple", rfl, .tup (SqT.of hq), _, rfl, ifT (by decide) ?_⟩
    refine ⟨_, rfl, _, (zs.map V.str).length, rfl, lenV_sq (.inr (SqT.of hq)), _, _, rfl, rfl, _, rfl, ?_⟩
    show if decide ((0 : Int) < ((zs.map V.str).length : Nat)) = true then _ else _
    refine ifT (decide_eq_true (by rw [List.length_map]; omega)) ?_
    refine ⟨_, rfl, _, rfl, n, ns, q, zs.map V.str, rfl, hn, .inr (SqT.of hq), ts_strs, by rw [List.length_map]; omega, n60, fun H1 s1 => ?_⟩
    rw [unlike_ok nd sub]
    refine ⟨_, rfl, ?_⟩
    refine ⟨_, rfl, _, rfl, q, zs.map V.str, rfl, .inr (SqT.of (s1 _ _ hq)), rfl, flat_strsV zs, ?_⟩
    show Q (.bl (!(inV (.str z) (zs.map V.str)))) H1
    rw [inV_strs, decide_eq_false out]
    exact k H1 s1
theorem cal_is_want (Z : All K mg) : Cal P w K mg base CX0 4 "is_want" ["names", "row"] (spWant K) := by
  obtain ⟨fd, F⟩ := Z.f_is_want
  have C_is_one_of : Cal P w K mg base CX0 1 "is_one_of" ["names", "value"] (spOne K) := cal_is_one_of Z
  have C_is_number_in : Cal P w K mg base CX0 2 "is_number_in" ["value", "low", "high"] (spNum K) := cal_is_number_in Z
  have C_are_others : Cal P w K mg base CX0 3 "are_others" ["names", "skill", "value"] (spOthers K) := cal_are_others Z
  refine .of ⟨fd, F, ok0 F sc_is_want (fun vs H Q E h => ?_) (fun cdv A outer s H vs Q E hr h => ?_)⟩ Z.g_is_want (fun _ _ _ _ _ _ us hl => match us, hl with | [_, _], _ => rfl)
  · obtain ⟨n, ns, x, wt, rfl, _⟩ := h
    rfl
  · obtain ⟨n, ns, x, wt, rfl, hn, n60, ⟨p, q, rfl, hp, hq⟩, ok, k⟩ := h
    refine ⟨_, (pss_cons (ps_if (PW.pt (pw_or (pt_not (pt_val (pe_callB (call_is (cn := "tuple") (by decide)) (by rfl) Z.b_isinstance boot_isinstance (pa_cons (pv 1) (pa_cons (pe_bltn (v := .ty "tuple") (by rfl) Z.b_tuple PyProof.Rows.boot_tuple rfl) pa_nil))))) (pw_or (pt_cmpR op_lt (pe_callB call_len (by rfl) Z.b_len PySem.boot_len (pa_cons (pv 1) pa_nil)) pe_int (nomark _)) (pw_or1 (pt_not (pt_val (pe_callB (call_is (cn := "str") (by decide)) (by rfl) Z.b_isinstance boot_isinstance (pa_cons (pe_ix ix_tup (pv 1) pe_int (fun _ _ => rfl)) (pa_cons (pe_bltn (v := .ty "str") (by rfl) Z.b_str PyProof.Rows.boot_str rfl) pa_nil))))))))) (pss_one (ps_ret pe_bl)) pss_nil)
      (pss_cons (ps_if (PW.pt (pw_or (pt_not (pt_val (pe_cal C_is_one_of (hr.mono (by decide)) (by rfl) pass0 (pa_cons (pv 0) (pa_cons (pe_ix ix_tup (pv 1) pe_int (fun _ _ => rfl)) pa_nil))))) (pw_or1 (pt_not (pt_val (pe_cal C_are_others (hr.mono (by decide)) (by rfl) pass0 (pa_cons (pv 0) (pa_cons (pe_ix ix_tup (pv 1) pe_int (fun _ _ => rfl)) (pa_cons (pe_ix ix_tup (pv 1) pe_int (fun _ _ => rfl)) pa_nil))))))))) (pss_one (ps_ret pe_bl)) pss_nil)
      (pss_cons (ps_if (pt_cmpR op_eq (pe_ix ix_tup (pv 1) pe_int (fun _ _ => rfl)) pe_str (nomark _)) (pss_one (ps_ret (pe_and (pe_cmpR op_eq (pe_callB call_len (by rfl) Z.b_len PySem.boot_len (pa_cons (pv 1) pa_nil)) pe_int (nomark _)) (pe_one (pe_cal C_is_number_in (hr.mono (by decide)) (by rfl) pass0 (pa_cons (pe_ix ix_tup (pv 1) pe_int (fun _ _ => rfl)) (pa_cons pe_int (pa_cons (pe_callB call_len (by rfl) Z.b_len PySem.boot_len (pa_cons (pe_ix ix_tup (pv 1) pe_int (fun _ _ => rfl)) pa_nil)) pa_nil)))))))) pss_nil)
      (pss_one (ps_ret (pe_and (pe_cmpR op_in_seq (pe_ix ix_tup (pv 1) pe_int (fun _ _ => rfl)) (pe_tup (pa_cons pe_str (pa_cons pe_str pa_nil))) rfl) (pe_one (pe_cmpR op_eq (pe_callB call_len (by rfl) Z.b_len PySem.boot_len (pa_cons (pv 1) pa_nil)) pe_int (nomark _))))))))), ?_⟩
    obtain ⟨kd, skl, names, many⟩ := wt
    have one : isOne ns (.str skl) = true := decide_eq_true ok.skill
    rcases ok.many with ⟨ek, m, em, m1, m2⟩ | ⟨ek, em⟩
    · cases (show kd = "count" from ek)
      cases (show many = some m from em)
      have hp' : H p = some (.tup [.str "count", .str skl, .ref q, .int m]) := hp
      refine ⟨_, rfl, .ref p, "tuple", rfl, .tup (SqT.of hp), _, rfl, ifF (by decide) ?_⟩
      refine ⟨_, rfl, _, 4, rfl, .inr ⟨_, SqT.of hp', rfl⟩, _, _, rfl, rfl, _, rfl, ifF (by decide) ?_⟩
      refine ⟨_, rfl, p, _, 0, _, rfl, rfl, SqT.of hp', rfl, .str "count", "str", rfl, .str _, _, rfl, ifF (by decide) ?_⟩
      refine ⟨_, rfl, _, rfl, p, _, 1, _, rfl, rfl, SqT.of hp', rfl, n, ns, .str skl, "str", rfl, hn, .str _, _, rfl, ?_⟩
      rw [one]
      refine ⟨_, rfl, _, rfl, p, _, 1, _, rfl, rfl, SqT.of hp', rfl, _, rfl, p, _, 2, _, rfl, rfl, SqT.of hp', rfl, n, ns, skl, q, names, rfl, hn, n60, hq, ok.ne, ok.nd, ok.all, ok.out, fun H1 s1 => ⟨_, rfl, ?_⟩⟩
      have hp1 := s1 _ _ hp'
      refine ⟨_, rfl, p, _, 0, _, rfl, rfl, SqT.of hp1, rfl, rfl, _, rfl, ifT (by decide) ?_⟩
      refine ⟨_, rfl, _, 4, rfl, .inr ⟨_, SqT.of hp1, rfl⟩, rfl, _, rfl, ifT (by decide) ?_⟩
      refine ⟨_, rfl, p, _, 3, _, rfl, rfl, SqT.of hp1, rfl, _, rfl, p, _, 2, _, rfl, rfl, SqT.of hp1, rfl, _, (names.map V.str).length, rfl, .inr ⟨_, SqT.of (s1 _ _ hq), rfl⟩, .int m, 1, _, "int", rfl, .int m, ?_⟩
      rw [num_ok m1 (by rw [List.length_map]; exact m2)]
      exact k H1 s1
    · cases (show many = none from em)
      have hp' : H p = some (.tup [.str kd, .str skl, .ref q]) := hp
      refine ⟨_, rfl, .ref p, "tuple", rfl, .tup (SqT.of hp), _, rfl, ifF (by decide) ?_⟩
      refine ⟨_, rfl, _, 3, rfl, .inr ⟨_, SqT.of hp', rfl⟩, _, _, rfl, rfl, _, rfl, ifF (by decide) ?_⟩
      refine ⟨_, rfl, p, _, 0, _, rfl, rfl, SqT.of hp', rfl, .str kd, "str", rfl, .str _, _, rfl, ifF (by decide) ?_⟩
      refine ⟨_, rfl, _, rfl, p, _, 1, _, rfl, rfl, SqT.of hp', rfl, n, ns, .str skl, "str", rfl, hn, .str _, _, rfl, ?_⟩
      rw [one]
      refine ⟨_, rfl, _, rfl, p, _, 1, _, rfl, rfl, SqT.of hp', rfl, _, rfl, p, _, 2, _, rfl, rfl, SqT.of hp', rfl, n, ns, skl, q, names, rfl, hn, n60, hq, ok.ne, ok.nd, ok.all, ok.out, fun H1 s1 => ⟨_, rfl, ?_⟩⟩
      have hp1 := s1 _ _ hp'
      refine ⟨_, rfl, p, _, 0, _, rfl, rfl, SqT.of hp1, rfl, rfl, _, rfl, ifF (decide_eq_false fun e => ek (by injection e)) ?_⟩
      have two : decide (kd ∈ (["all", "any"] : List Str)) = true := by
        have q1 := ok.kind
        have q2 : kd = "all" ∨ kd = "any" := by
          rcases List.mem_cons.mp q1 with e | q1
          · exact .inl e
          · rcases List.mem_cons.mp q1 with e | q1
            · exact .inr e
            · rcases List.mem_cons.mp q1 with e | q1
              · exact .inr e
              · exact absurd (List.mem_singleton.mp q1) ek
        rcases q2 with e | e
        · exact decide_eq_true (by rw [e]; exact List.mem_cons_self)
        · exact decide_eq_true (by rw [e]; exact List.mem_cons_of_mem _ List.mem_cons_self)
      refine ⟨_, rfl, p, _, 0, _, rfl, rfl, SqT.of hp1, rfl, (by show 2 ≤ sizeLine; decide), fun tp ntp => ?_⟩
      refine ⟨tp, (["all", "any"] : List Str).map V.str, rfl, .inr (SqT.of upd_same), rfl, flat_strsV _, _, rfl, ?_⟩
      have e1 : inV (.str kd) ((["all", "any"] : List Str).map V.str) = true := by rw [inV_strs, two]
      refine ifT e1 ?_
      refine ⟨_, rfl, _, 3, rfl, .inr ⟨_, SqT.of (Same.new ntp _ _ hp1), rfl⟩, rfl, ?_⟩
      exact k _ (s1.trans (Same.new ntp))
theorem cal_are_wants (Z : All K mg) : Cal P w K mg base CX0 5 "are_wants" ["names", "value"] (spWants K) := by
  obtain ⟨fd, F⟩ := Z.f_are_wants
  have C_are_rows : Cal P w K mg base CX0 1 "are_rows" ["value", "most"] (spRows K) := cal_are_rows Z
  have C_is_want : Cal P w K mg base CX0 4 "is_want" ["names", "row"] (spWant K) := cal_is_want Z
  refine .of ⟨fd, F, ok0 F sc_are_wants (fun vs H Q E h => ?_) (fun cdv A outer s H vs Q E hr h => ?_)⟩ Z.g_are_wants (fun _ _ _ _ _ _ us hl => match us, hl with | [_, _], _ => rfl)
  · obtain ⟨n, ns, a, xs, wl, rfl, _⟩ := h
    rfl
  · obtain ⟨n, ns, a, xs, wl, rfl, hn, n60, ha, rows, ok, l12, k⟩ := h
    refine ⟨_, (pss_one (ps_ret (pe_and (pe_cal C_are_rows (hr.mono (by decide)) (by rfl) pass0 (pa_cons (pv 1) (pa_cons (pe_gint (by rfl) Z.MOST_WANTS) pa_nil))) (pe_one (pe_callB (cr_all rfl) (by rfl) Z.b_all boot_all (pa_cons (pe_lc (own := [("row", 2)]) (by rfl) sc_are_wants.nd (pi_seq (pv 1)) (blkOk_by (own := [("row", 2)]) (N := ["names", "value", "row"]) (sc := defScope s_are_wants) (by decide +kernel)) (fun _ _ _ _ _ => (pg_name (i := 2) sc_are_wants.nd rfl (Or.inl rfl))) (fun _ _ _ _ _ => pts_nil) (fun _ _ _ _ _ => (pe_cal C_is_want (hr.mono (by decide)) (by rfl) pass0 (pa_cons (pv 0) (pa_cons (pv 2) pa_nil))))) pa_nil)))))), ?_⟩
    have xl := rows.len
    refine ⟨_, rfl, a, xs, 12, rfl, ha, by omega, fun H1 s1 => ⟨_, rfl, ?_⟩⟩
    have hn1 := hn.same s1
    have ha1 := ha.same s1
    have rows1 := rows.tk (Tk.of s1)
    refine ⟨_, rfl, a, rfl, lc_seq ha1.sq (fun i => (xs.take i).map fun _ => V.bl true) rfl (fun D nD i x H2 hi' p => ?_) fun D H2 nD s2 at2 => ?_⟩
    · obtain ⟨wt, hw, hx⟩ := rows1.at_ hi'
      refine ⟨rfl, _, rfl, _, rfl, n, ns, x, wt, rfl, hn1.same p.same, n60, hx.tk (Tk.of p.same), ok wt (List.mem_of_getElem? hw), fun H3 s3 => ?_⟩
      exact (p.ext s3).put nD (map_one _ hi') (take_line _ (m := 12) (by omega) (by decide))
    refine ⟨D, xs.map fun _ => true, rfl, SqL.of (by rw [at2, List.take_length, List.map_map]; rfl), ?_⟩
    rw [all_true]
    exact k _ (s1.trans s2)
end
end Rt
end
section
set_option Elab.async false
set_option linter.all false
set_option maxRecDepth 100000
set_option maxHeartbeats 4000000
/-! sorted(t) of a tuple of texts -/
namespace Rt
open PySem PySem.Spec PyProof.Rows L2
section
variable {X : Cx}
theorem call_sortedTS : CallR X (.builtin "sorted") (fun xs H Q => ∃ (a : Addr) (ks : List Str), xs = [.ref a] ∧ SqT X.K H a (ks.map V.str) ∧ ks.length < 64 ∧ ∀ ys p, ys.Perm ks → sortedS ys = true → H p = none → Q (.ref p) (upd H p (.lst (ys.map V.str)))) := by
  intro pins s σ H xs us Q I r h
  obtain ⟨a, ks, rfl, hs, h64, q⟩ := h
  obtain ⟨its, rv, pl, hz⟩ := I.tuple hs
  rw [Vals.ref1 r]
  have hS := rv.strs
  have hal : its.length = ks.length := by
    have z := rv.length
    rw [List.length_map] at z
    exact z.symm
  obtain ⟨o, ho, hc, n, hd⟩ := id pl
  refine Calls.call_function_entry PyProof.Rows.kind_sorted PyProof.Rows.plain_sorted PyProof.Rows.entry_sorted (PyProof.Rows.args_sorted1 _) ?_
  unfold Builtin.«sorted»
  refine wpAny_bind (m := checkCount "sorted" 1 1 _) (wpAny_pure ?_)
  refine wpAny_bind (wpAny_collect_seq a (.inr rfl) ho hc hd ?_)
  intro h' hk
  have I1 : Inv X pins σ H { s with heap := h' } := I.kept (t' := s.toks) hk
  refine wpAny_bind (wpAny_newList ?_ (by rw [hal, sizeLine_eq]; omega))
  have hoL : (h'.push (seqObj "list" its.toArray.toList.toArray 0)).get? h'.objs.size = some (seqObj "list" its.toArray.toList.toArray 0) := Heap.get?_push_size _ rfl
  show wpAny _ _ _ _ _ { s with heap := h'.push (seqObj "list" its.toArray.toList.toArray 0) }
  refine wpAny_bind (wpAny_holding (wpAny_call_entry PyProof.Rows.slot_list_sort ⟨_, hoL, rfl⟩ PyProof.Rows.entry_list_sort
    (list_sort_treeK strKind_oneLt (s := { s with heap := h'.push (seqObj "list" its.toArray.toList.toArray 0) }) hoL hS.keysOf (fun v₁ v₂ rest e => keyKind_strs (by rw [← e]; exact hS)) (by rw [hal]; exact h64) fun st' hp hs => ⟨_, rfl, ?_⟩)
    (PyProof.Rows.args_list_sort _)))
  obtain ⟨ys, g1, g2, g3⟩ := sorted_out_str hS hp hs
  obtain ⟨e', he'⟩ := PyProof.Rows.sortedHeap_at (vs := its) (out := (arrOf st').map (·.2)) hoL
  have hlen : (ys.map V.str).length ≤ sizeLine := by
    rw [List.length_map, g2.length_eq]
    exact Nat.le_trans (Nat.le_of_lt h64) (by decide)
  refine wpAny_pure ⟨_, rfl, .ref h'.objs.size, upd H h'.objs.size (.lst (ys.map V.str)), I1.laid (t' := s.toks) (fun b u e => ?_) (Nat.le_refl _)
    (show ObjOk X.prog X.w _ _ _ (.lst (ys.map V.str)) from ⟨hlen, ((arrOf st').map (·.2)).toList, e', vals_of_strs g1, by rw [Array.toArray_toList]; exact he'⟩), rfl, q ys _ g2 g3 (I1.hok.fresh (Nat.le_refl _))⟩
  have hb : b < h'.objs.size := Heap.lt_size e
  rw [PyProof.Rows.sortedHeap_old (Nat.ne_of_lt hb) (by rw [size_push']; exact Nat.lt_succ_of_lt hb)]
  exact Heap.get?_push_of_some _ e
end
end Rt
end
section
set_option Elab.async false
set_option linter.all false
set_option maxRecDepth 100000
set_option maxHeartbeats 8000000
/-! parts: bars -/
namespace Rt
open PySem PySem.Spec PyProof.Rows L2
theorem lc_seqS {K : PySem.W.Frag} {H1 : Hp} {a : Addr} {xs : List V} {g : TG} {tt : TT} {te : TE} {vs : List Nat} {σ : L2.St} {Q : Addr → Hp → Prop} (h : Sq K H1 a xs) (P : Addr → Nat → Hp → Prop) (h0 : ∀ D, H1 D = none → P D 0 (upd H1 D (.lst [])))
    (hs : ∀ D i H, P D i H → Same H1 H)
    (turn : ∀ D, H1 D = none → ∀ i x H, xs[i]? = some x → P D i H → g x (wipe σ vs) H fun σ2 H2 => wipe σ2 vs = wipe σ vs ∧ tt σ2 H2 fun b H3 =>
      if b = true then te σ2 H3 fun y H4 => ∃ acc, H4 D = some (.lst acc) ∧ acc.length < sizeLine ∧ P D (i + 1) (upd H4 D (.lst (acc ++ [y]))) else P D (i + 1) H3)
    (fin : ∀ D H, H1 D = none → P D xs.length H → Q D H) :
    ((∃ xs, SqL K H1 a xs) ∧ LcR g tt te vs σ Q (Itl K a) H1) ∨ ((∃ xs, SqT K H1 a xs) ∧ LcR g tt te vs σ Q (Itt K a) H1) := by
  refine seq_by (R := LcR g tt te vs σ Q) h fun J G w g0 D nD => ?_
  refine lc_it w (P D) (h0 D nD) (fun i H _ p => g0 H (hs D i H p)) ?_ (fun H p => fin D H nD p)
  rintro i x H2 H3 hi p ⟨rfl, hx⟩
  exact turn D nD i x H3 hx p
def rSortTS (K : PySem.W.Frag) : List V → Hp → VK → Prop := fun xs H Q => ∃ (a : Addr) (ks : List Str), xs = [.ref a] ∧ SqT K H a (ks.map V.str) ∧ ks.length < 64 ∧ ∀ ys p, ys.Perm ks → sortedS ys = true → H p = none → Q (.ref p) (upd H p (.lst (ys.map V.str)))
theorem call_sortTS {X : Cx} : CallR X (.builtin "sorted") (rSortTS X.K) := call_sortedTS
def rTupOf (K : PySem.W.Frag) : List V → Hp → VK → Prop := fun xs H Q => ∃ p ys, xs = [V.ref p] ∧ ((SqL K H p ys ∧ ∀ (l : Addr), H l = none → Q (V.ref l) (upd H l (HO.tup ys))) ∨ SqT K H p ys ∧ Q (V.ref p) H)
theorem call_tupOf {X : Cx} : CallR X (.type "tuple") (rTupOf X.K) := call_tuple_of
/-- one side or the other -/
def SbOf (k : List Key) (b : Str × Str) : Prop := k = [.inr b.1, .inr b.2] ∨ k = [.inr b.2, .inr b.1]
theorem sb_un {k : List Key} {b c : Str × Str} (h : SbOf k b) (h' : SbOf k c) : b = c ∨ b = (c.2, c.1) := by
  obtain ⟨b1, b2⟩ := b
  obtain ⟨c1, c2⟩ := c
  rcases h with h | h <;> rcases h' with h' | h' <;> rw [h] at h' <;> injection h' with e1 e2 <;> injection e2 with e2 _ <;> injection e1 with e1 <;> injection e2 with e2 <;> subst e1 <;> subst e2
  · exact .inl rfl
  · exact .inr rfl
  · exact .inr rfl
  · exact .inl rfl
theorem sb_mem {k : List Key} : ∀ {l : List (List Key)} {bs : List (Str × Str)}, Paired SbOf l bs → k ∈ l → ∃ b ∈ bs, SbOf k b
  | _, _, .nil, h => by cases h
  | _, _, .cons r t, h => by
    rcases List.mem_cons.mp h with e | h
    · subst e
      exact ⟨_, List.mem_cons_self, r⟩
    · obtain ⟨b, hb, q⟩ := sb_mem t h
      exact ⟨b, List.mem_cons_of_mem _ hb, q⟩
theorem sb_nd : ∀ {l : List (List Key)} {bs : List (Str × Str)}, Paired SbOf l bs → (bs.Pairwise fun b c => b ≠ c ∧ b ≠ (c.2, c.1)) → l.Nodup
  | _, _, .nil, _ => List.nodup_nil
  | _, _, .cons r t, u => by
    obtain ⟨u1, u2⟩ := List.pairwise_cons.mp u
    refine List.nodup_cons.mpr ⟨fun h => ?_, sb_nd t u2⟩
    obtain ⟨c, hc, q⟩ := sb_mem t h
    have u3 := u1 c hc
    rcases sb_un r q with e | e
    · exact u3.1 e
    · exact u3.2 e
theorem sb_snoc {k : List Key} {b : Str × Str} (r : SbOf k b) : ∀ {l : List (List Key)} {bs : List (Str × Str)}, Paired SbOf l bs → Paired SbOf (l ++ [k]) (bs ++ [b])
  | _, _, .nil => .cons r .nil
  | _, _, .cons q t => .cons q (sb_snoc r t)
theorem perm_two {ys : List Str} {a b : Str} (h : ys.Perm [a, b]) : ys = [a, b] ∨ ys = [b, a] := by
  match ys, h.length_eq with
  | [x, y], _ =>
    have hx := h.mem_iff.mp (List.mem_cons_self (a := x) (l := [y]))
    rcases List.mem_cons.mp hx with e | hx
    · subst e
      have q := (List.perm_cons x).mp h
      have hy := q.mem_iff.mp List.mem_cons_self
      rw [List.mem_singleton.mp hy]
      exact .inl rfl
    · have e := List.mem_singleton.mp hx
      subst e
      have q := (List.perm_cons x).mp (h.trans (List.Perm.swap x a []))
      have hy := q.mem_iff.mp List.mem_cons_self
      rw [List.mem_singleton.mp hy]
      exact .inr rfl
def spBars (K : PySem.W.Frag) : Sp := fun vs H Q _ => ∃ (n : Addr) (ns : List Str) (a : Addr) (xs : List V) (bars : List (Str × Str)), vs = [.ref n, .ref a] ∧ Sq K H n (ns.map V.str) ∧ ns.length ≤ 60 ∧ Lt K H a xs ∧ Rws H xs (bars.map rB) ∧ BarsOk ns bars ∧ bars.length ≤ 4 ∧ ∀ H', Same H H' → Q (.bl true) H'
section
variable {P : Program} {w : World} {K : PySem.W.Frag} {mg : Str → Option Value} {base : Heap}
theorem cal_are_bars (Z : All K mg) : Cal P w K mg base CX0 3 "are_bars" ["names", "value"] (spBars K) := by
  obtain ⟨fd, F⟩ := Z.f_are_bars
  have C_are_rows : Cal P w K mg base CX0 1 "are_rows" ["value", "most"] (spRows K) := cal_are_rows Z
  have C_is_pair : Cal P w K mg base CX0 1 "is_pair" ["value"] spPair := cal_is_pair Z
  have C_are_unlike : Cal P w K mg base CX0 2 "are_unlike" ["names", "values"] (spUnlike K) := cal_are_unlike Z
  refine .of ⟨fd, F, ok0 F sc_are_bars (fun vs H Q E h => ?_) (fun cdv A outer s H vs Q E hr h => ?_)⟩ Z.g_are_bars (fun _ _ _ _ _ _ us hl => match us, hl with | [_, _], _ => rfl)
  · obtain ⟨n, ns, a, xs, bars, rfl, _⟩ := h
    rfl
  · obtain ⟨n, ns, a, xs, bars, rfl, hn, n60, ha, rows, ok, l4, k⟩ := h
    have xl : xs.length = bars.length := by rw [rows.len, List.length_map]
    refine ⟨_, (pss_cons (ps_if (pt_not (pt_val (pe_cal C_are_rows (hr.mono (by decide)) (by rfl) pass0 (pa_cons (pv 1) (pa_cons (pe_gint (by rfl) Z.MOST_BARS) pa_nil))))) (pss_one (ps_ret pe_bl)) pss_nil)
      (pss_cons (ps_if (pt_not (pt_val (pe_callB (cr_all rfl) (by rfl) Z.b_all boot_all (pa_cons (pe_lc (own := [("row", 3)]) (by rfl) sc_are_bars.nd (pi_seq (pv 1)) (blkOk_by (own := [("row", 3)]) (N := ["names", "value", "pairs", "row"]) (sc := defScope s_are_bars) (by decide +kernel)) (fun _ _ _ _ _ => (pg_name (i := 3) sc_are_bars.nd rfl (Or.inl rfl))) (fun _ _ _ _ _ => pts_nil) (fun _ _ _ _ _ => (pe_and (pe_cal C_is_pair (hr.mono (by decide)) (by rfl) pass0 (pa_cons (pv 3) pa_nil)) (pe_one (pe_cal C_are_unlike (hr.mono (by decide)) (by rfl) pass0 (pa_cons (pv 0) (pa_cons (pv 3) pa_nil))))))) pa_nil)))) (pss_one (ps_ret pe_bl)) pss_nil)
      (pss_cons (ps_setLc (i := 2) (own := [("row", 3)]) (by rfl) sc_are_bars.nd rfl rfl (sw_true rfl rfl rfl (by decide +kernel)) (pi_seq (pv 1)) (blkOk_by (own := [("row", 3)]) (N := ["names", "value", "pairs", "row"]) (sc := defScope s_are_bars) (by decide +kernel)) (fun _ _ _ _ _ => (pg_name (i := 3) sc_are_bars.nd rfl (Or.inl rfl))) (fun _ _ _ _ _ => pts_nil) (fun _ _ _ _ _ => (pe_callTy (show CallR _ _ (rTupOf K) from call_tupOf) (by rfl) Z.b_tuple PyProof.Rows.boot_tuple (pa_cons (pe_callB (show CallR _ _ (rSortTS K) from call_sortTS) (by rfl) Z.b_sorted PyProof.Rows.boot_sorted (pa_cons (pv 3) pa_nil)) pa_nil))))
      (pss_one (ps_ret (pe_cmpR op_eq (pe_callB call_lenN (by rfl) Z.b_len PySem.boot_len (pa_cons (pe_callTy (call_setT rfl hr.units) (by rfl) Z.b_set PyProof.Rows.boot_set (pa_cons (pv 2) pa_nil)) pa_nil)) (pe_callB call_len (by rfl) Z.b_len PySem.boot_len (pa_cons (pv 2) pa_nil)) (nomark _))))))), ?_⟩
    refine ⟨_, rfl, a, xs, 6, rfl, ha, by omega, fun H1 s1 => ⟨_, rfl, ?_⟩⟩
    have hn1 := hn.same s1
    have ha1 := ha.same s1
    have rows1 := rows.same s1
    refine ⟨_, rfl, a, rfl, lc_seq ha1.sq (fun i => (xs.take i).map fun _ => V.bl true) rfl (fun D nD i x H2 hi' p => ?_) fun D H2 nD s2 at2 => ?_⟩
    · obtain ⟨r, tp, hr', rfl, htp⟩ := rows1.at_ hi'
      have b := ok.in_ r (List.mem_of_getElem? hr')
      refine ⟨rfl, _, rfl, tp, _, rfl, p.same _ _ htp, _, rfl, ?_⟩
      have e2 : rB r = [r.1, r.2].map V.str := rfl
      have nd2 : [r.1, r.2].Nodup := by simp [b.2.2]
      have in2 : ∀ z ∈ [r.1, r.2], z ∈ ns := fun z hz => by
        rcases List.mem_cons.mp hz with e | hz
        · rw [e]; exact b.1
        · rw [List.mem_singleton.mp hz]; exact b.2.1
      refine ⟨_, rfl, _, rfl, n, ns, tp, [r.1, r.2].map V.str, rfl, hn1.same p.same, .inr (SqT.of (p.same _ _ htp)), ts_strs, by show 2 ≤ 60; decide, n60, fun H3 s3 => ?_⟩
      rw [unlike_ok nd2 in2]
      exact (p.ext s3).put nD (map_one _ hi') (take_line _ (m := 6) (by omega) (by decide))
    refine ⟨D, xs.map fun _ => true, rfl, SqL.of (by rw [at2, List.take_length, List.map_map]; rfl), _, rfl, ?_⟩
    rw [all_true]
    have ha2 := ha1.same s2
    have rows2 := rows1.same s2
    refine ⟨_, rfl, a, rfl, lc_seqS ha2.sq (fun D i Hx => Same H2 Hx ∧ ∃ ks : List (Addr × List Key), Hx D = some (.lst (ks.map fun p => V.ref p.1)) ∧ (∀ p ∈ ks, Hx p.1 = some (.tup (p.2.map kV))) ∧ ks.length ≤ i ∧ Paired SbOf (ks.map (·.2)) (bars.take i))
      (fun D nD => ⟨Same.new nD, [], upd_same, fun p hp => (nomatch hp), Nat.le_refl _, .nil⟩) (fun D i Hx P => P.1) (fun D nD i x Hx hi' ⟨sx, ks, hD, hk, kl, pr⟩ => ?_) fun T Hx nT ⟨sx, ks, hT, hk, kl, pr⟩ => ?_⟩
    · obtain ⟨r, tp, hr', rfl, htp⟩ := rows2.at_ hi'
      have i4 : i < 4 := by
        have := (List.getElem?_eq_some_iff.mp hi').1
        omega
      refine ⟨rfl, _, rfl, tp, [r.1, r.2], rfl, SqT.of (sx _ _ htp), by show 2 < 64; decide, fun ys p pm _ np => ?_⟩
      refine ⟨p, _, rfl, .inl ⟨SqL.of upd_same, fun q nq => ?_⟩⟩
      have sb : SbOf (ys.map Sum.inr) r := by
        rcases perm_two pm with e | e
        · exact .inl (by rw [e]; rfl)
        · exact .inr (by rw [e]; rfl)
      have e3 : ys.map V.str = (ys.map (Sum.inr : Str → Key)).map kV := by rw [List.map_map]; rfl
      have sp := (Same.new (o := .lst (ys.map V.str)) np).trans (Same.new (o := .tup (ys.map V.str)) nq)
      refine ⟨_, sp _ _ hD, line_of (m := 4) (by rw [List.length_map]; omega) (by decide), ?_⟩
      have hD2 := sp _ _ hD
      refine ⟨fun b o hb => ?_, ks ++ [(q, ys.map Sum.inr)], by rw [upd_same, List.map_append]; rfl, fun u hu => ?_, by rw [List.length_append]; show ks.length + 1 ≤ i + 1; omega, ?_⟩
      · rw [upd_ne (ne_of_none hb nD)]
        exact sp _ _ (sx _ _ hb)
      · rcases List.mem_append.mp hu with hu | hu
        · have h1 := sp _ _ (hk u hu)
          rw [upd_ne (ne_of h1 hD2 (by intro z; cases z))]
          exact h1
        · rw [List.mem_singleton.mp hu]
          show (upd _ D _) q = some (.tup ((ys.map (Sum.inr : Str → Key)).map kV))
          have h1 : (upd (upd Hx p (.lst (ys.map V.str))) q (.tup (ys.map V.str))) q = some (.tup (ys.map V.str)) := upd_same
          rw [upd_ne (ne_of h1 hD2 (by intro z; cases z)), h1, e3]
      · rw [List.map_append, take_one hr']
        exact sb_snoc sb pr
    rw [xl, List.take_length] at pr
    have kn := sb_nd pr ok.un
    have kl2 : ks.length = bars.length := by
      have q := Paired.length pr
      rw [List.length_map] at q
      exact q
    refine ⟨_, rfl, T, ks, rfl, SqL.of hT, fun p hp => SqT.of (hk p hp), by omega, fun S nS => ?_⟩
    have e4 : cnt (ks.map (·.2)) = ks.length := by
      rw [(cnt_nd _).mpr kn, List.length_map]
    rw [e4]
    refine ⟨S, _, rfl, upd_same, by omega, _, rfl, _, _, rfl, .inl ⟨_, SqL.of (Same.new nS _ _ hT), rfl⟩, rfl, ?_⟩
    rw [List.length_map]
    show Q (.bl (decide (V.int (ks.length : Int) = V.int (ks.length : Int)))) _
    rw [decide_eq_true rfl]
    exact k _ (((s1.trans s2).trans sx).trans (Same.new nS))
end
end Rt
end
section
set_option Elab.async false
set_option linter.all false
set_option maxRecDepth 100000
set_option maxHeartbeats 8000000
/-! parts: no part is wrong -/
namespace Rt
open PySem PySem.Spec PyProof.Rows L2
/-- the eight parts of a book that is right, as they are handed over -/
structure PartsAt (K : PySem.W.Frag) (H : Hp) (B : Bk) (a1 a3 a4 a5 a6 a7 : Addr) (x1 x3 x4 x5 x6 x7 : List V) : Prop where
  l1 : Lt K H a1 x1
  r1 : Rws H x1 (B.sk.map rS)
  l3 : Lt K H a3 x3
  r3 : Rws H x3 (B.nd.map rI2)
  l4 : Lt K H a4 x4
  r4 : Wws H x4 B.wl
  l5 : Lt K H a5 x5
  r5 : Rws H x5 (B.bars.map rB)
  l6 : Lt K H a6 x6
  r6 : Rws H x6 (B.gives.map rS)
  l7 : Lt K H a7 x7
  r7 : Rws H x7 (B.prices.map rS)
theorem PartsAt.same {K : PySem.W.Frag} {H H' : Hp} {B : Bk} {a1 a3 a4 a5 a6 a7 : Addr} {x1 x3 x4 x5 x6 x7 : List V} (h : PartsAt K H B a1 a3 a4 a5 a6 a7 x1 x3 x4 x5 x6 x7) (s : Same H H') : PartsAt K H' B a1 a3 a4 a5 a6 a7 x1 x3 x4 x5 x6 x7 :=
  ⟨h.l1.same s, h.r1.same s, h.l3.same s, h.r3.same s, h.l4.same s, h.r4.tk (Tk.of s), h.l5.same s, h.r5.same s, h.l6.same s, h.r6.same s, h.l7.same s, h.r7.same s⟩
/-- the parts are right -/
structure BkR (B : Bk) : Prop where
  sk : SkillsR B.sk
  pt : 0 ≤ B.points ∧ B.points ≤ 12
  na : (B.nd.map (·.1)).Pairwise (· < ·)
  nb : ∀ r ∈ B.nd, (2 ≤ r.1 ∧ r.1 ≤ 4) ∧ 0 ≤ r.2 ∧ r.2 ≤ 12
  w : ∀ w ∈ B.wl, WantR B.ns w
  wl : B.wl.length ≤ 12
  bars : BarsOk B.ns B.bars
  b4 : B.bars.length ≤ 4
  gives : ToldOk B.ns 1 3 B.gives
  prices : ToldOk B.ns 0 99 B.prices
  reset : ∀ r, B.reset = some r → 0 ≤ r ∧ r ≤ 99
theorem BkOk.r {sort : Int} {B : Bk} (h : BkOk sort B) : BkR B := ⟨h.sk.r, h.pt, h.nd.asc, h.nd.bd, fun w hw => (h.w w hw).r fun _ hz => hz, Nat.le_trans h.wl (by decide), h.bars, Nat.le_trans h.b2 (by decide), h.gives, h.prices, h.reset⟩
/-- tiers from 2 to 4, going up: at most three -/
theorem three {ns : List Int} (a : ns.Pairwise (· < ·)) (b : ∀ n ∈ ns, 2 ≤ n ∧ n ≤ 4) : ns.length ≤ 3 := by
  match ns, a, b with
  | [], _, _ => simp
  | [_], _, _ => simp
  | [_, _], _, _ => simp
  | [_, _, _], _, _ => simp
  | w :: x :: y :: z :: r, a, b =>
    obtain ⟨a1, a2⟩ := List.pairwise_cons.mp a
    obtain ⟨a3, a4⟩ := List.pairwise_cons.mp a2
    obtain ⟨a5, a6⟩ := List.pairwise_cons.mp a4
    have b1 := b w (by simp)
    have b2 := b z (by simp)
    have c1 := a1 x (by simp)
    have c2 := a3 y (by simp)
    have c3 := a5 z (by simp)
    omega
def spWrong (K : PySem.W.Frag) : Sp := fun vs H Q _ => ∃ (B : Bk) (a1 a3 a4 a5 a6 a7 : Addr) (x1 x3 x4 x5 x6 x7 : List V), vs = [.ref a1, .int B.points, .ref a3, .ref a4, .ref a5, .ref a6, .ref a7, oV B.reset] ∧ PartsAt K H B a1 a3 a4 a5 a6 a7 x1 x3 x4 x5 x6 x7 ∧ BkR B ∧ ∀ H', Same H H' → Q .non H'
section
variable {P : Program} {w : World} {K : PySem.W.Frag} {mg : Str → Option Value} {base : Heap}
theorem cal_wrong_part (Z : All K mg) : Cal P w K mg base CX0 6 "wrong_part" ["skills", "points", "needs", "wants", "bars", "gives", "prices", "reset"] (spWrong K) := by
  obtain ⟨fd, F⟩ := Z.f_wrong_part
  have C_are_skills : Cal P w K mg base CX0 3 "are_skills" ["value"] (spSkills K) := cal_are_skills Z
  have C_is_number_in : Cal P w K mg base CX0 2 "is_number_in" ["value", "low", "high"] (spNum K) := cal_is_number_in Z
  have C_are_needs : Cal P w K mg base CX0 4 "are_needs" ["value"] (spNeeds K) := cal_are_needs Z
  have C_are_wants : Cal P w K mg base CX0 5 "are_wants" ["names", "value"] (spWants K) := cal_are_wants Z
  have C_are_bars : Cal P w K mg base CX0 3 "are_bars" ["names", "value"] (spBars K) := cal_are_bars Z
  have C_are_told_once : Cal P w K mg base CX0 3 "are_told_once" ["names", "value", "low", "high"] (spTold K) := cal_are_told_once Z
  refine .of ⟨fd, F, ok0 F sc_wrong_part (fun vs H Q E h => ?_) (fun cdv A outer s H vs Q E hr h => ?_)⟩ Z.g_wrong_part (fun _ _ _ _ _ _ us hl => match us, hl with | [_, _, _, _, _, _, _, _], _ => rfl)
  · obtain ⟨B, a1, a3, a4, a5, a6, a7, x1, x3, x4, x5, x6, x7, rfl, _⟩ := h
    rfl
  · obtain ⟨B, a1, a3, a4, a5, a6, a7, x1, x3, x4, x5, x6, x7, rfl, pa, ok, k⟩ := h
    refine ⟨_, (pss_cons (ps_if (pt_not (pt_val (pe_cal C_are_skills (hr.mono (by decide)) (by rfl) pass0 (pa_cons (pv 0) pa_nil)))) (pss_one (ps_ret pe_str)) pss_nil)
      (pss_cons (ps_setLc (i := 8) (own := [("name", 11), ("_", 12)]) (by rfl) sc_wrong_part.nd rfl rfl (sw_true rfl rfl rfl (by decide +kernel)) (pi_seq (pv 0)) (blkOk_by (own := [("name", 11), ("_", 12)]) (N := ["skills", "points", "needs", "wants", "bars", "gives", "prices", "reset", "names", "answers", "wrong", "name", "_", "part", "right"]) (sc := defScope s_wrong_part) (by decide +kernel)) (fun _ _ _ _ _ => (pg_tupK (K := K) (n := 2) rfl rfl (pgs_cons (pg_name (i := 11) sc_wrong_part.nd rfl (Or.inl rfl)) (pgs_cons (pg_name (i := 12) sc_wrong_part.nd rfl (Or.inl rfl)) pgs_nil)))) (fun _ _ _ _ _ => pts_nil) (fun _ _ _ _ _ => (pv 11)))
      (pss_cons (ps_set (i := 9) sc_wrong_part.nd rfl (Or.inl rfl) (pe_lst (pa_cons (pe_tup (pa_cons pe_str (pa_cons (pe_cal C_is_number_in (hr.mono (by decide)) (by rfl) pass0 (pa_cons (pv 1) (pa_cons pe_int (pa_cons (pe_gint (by rfl) Z.MOST_POINTS) pa_nil)))) pa_nil))) (pa_cons (pe_tup (pa_cons pe_str (pa_cons (pe_cal C_are_needs (hr.mono (by decide)) (by rfl) pass0 (pa_cons (pv 2) pa_nil)) pa_nil))) (pa_cons (pe_tup (pa_cons pe_str (pa_cons (pe_cal C_are_wants (hr.mono (by decide)) (by rfl) pass0 (pa_cons (pv 8) (pa_cons (pv 3) pa_nil))) pa_nil))) (pa_cons (pe_tup (pa_cons pe_str (pa_cons (pe_cal C_are_bars (hr.mono (by decide)) (by rfl) pass0 (pa_cons (pv 8) (pa_cons (pv 4) pa_nil))) pa_nil))) (pa_cons (pe_tup (pa_cons pe_str (pa_cons (pe_cal C_are_told_once (hr.mono (by decide)) (by rfl) pass0 (pa_cons (pv 8) (pa_cons (pv 5) (pa_cons pe_int (pa_cons (pe_gint (by rfl) Z.MOST_GIVEN) pa_nil))))) pa_nil))) (pa_cons (pe_tup (pa_cons pe_str (pa_cons (pe_cal C_are_told_once (hr.mono (by decide)) (by rfl) pass0 (pa_cons (pv 8) (pa_cons (pv 6) (pa_cons pe_int (pa_cons (pe_gint (by rfl) Z.MOST_PRICE) pa_nil))))) pa_nil))) (pa_cons (pe_tup (pa_cons pe_str (pa_cons (pe_or (pe_cmpR op_isN (pv 7) pe_non (nomark _)) (pe_one (pe_cal C_is_number_in (hr.mono (by decide)) (by rfl) pass0 (pa_cons (pv 7) (pa_cons pe_int (pa_cons (pe_gint (by rfl) Z.MOST_PRICE) pa_nil)))))) pa_nil))) pa_nil)))))))))
      (pss_cons (ps_setLc (i := 10) (own := [("part", 13), ("right", 14)]) (by rfl) sc_wrong_part.nd rfl rfl (sw_true rfl rfl rfl (by decide +kernel)) (pi_seq (pv 9)) (blkOk_by (own := [("part", 13), ("right", 14)]) (N := ["skills", "points", "needs", "wants", "bars", "gives", "prices", "reset", "names", "answers", "wrong", "name", "_", "part", "right"]) (sc := defScope s_wrong_part) (by decide +kernel)) (fun _ _ _ _ _ => (pg_tupK (K := K) (n := 2) rfl rfl (pgs_cons (pg_name (i := 13) sc_wrong_part.nd rfl (Or.inl rfl)) (pgs_cons (pg_name (i := 14) sc_wrong_part.nd rfl (Or.inl rfl)) pgs_nil)))) (fun _ _ _ _ _ => (pts_one (pt_not (pt_val (pv 14))))) (fun _ _ _ _ _ => (pv 13)))
      (pss_one (ps_ret (pe_ifExp (pt_truth (pv 10) (by intro _; rfl)) (pe_ix ix_list (pv 10) pe_int (fun _ _ => rfl)) pe_non))))))), ?_⟩
    refine ⟨_, rfl, a1, x1, B.sk, rfl, pa.l1, pa.r1, ok.sk, fun H1 s1 => ⟨_, rfl, ?_⟩⟩
    have p1 := pa.same s1
    have xl : x1.length = B.sk.length := by rw [pa.r1.len, List.length_map]
    have k12 := ok.sk.le
    refine ⟨_, rfl, a1, rfl, lc_seq p1.l1.sq (fun i => (B.sk.take i).map fun r => V.str r.1) rfl (fun D nD i x H3 hi' p => ?_) fun T H2 nT s2 at2 => ?_⟩
    · obtain ⟨r, tp, hr', rfl, htp⟩ := p1.r1.at_ hi'
      refine ⟨tp, _, rfl, SqT.of (p.same _ _ htp), rfl, .str r.1, _, rfl, .int r.2, _, rfl, rfl, rfl, _, rfl, p.put nD (map_one _ hr') (take_line _ (m := 12) (by omega) (by decide))⟩
    have eT : H2 T = some (.lst (B.ns.map V.str)) := by
      rw [at2, xl, List.take_length, List.map_map]
      rfl
    have n60 : B.ns.length ≤ 60 := by rw [List.length_map]; omega
    have p2 := p1.same s2
    -- points
    refine ⟨_, rfl, .int B.points, 0, 12, "int", rfl, .int _, ?_⟩
    rw [num_ok ok.pt.1 ok.pt.2]
    have two : (2 : Nat) ≤ sizeLine := by decide
    refine ⟨two, fun t1 m1 => ?_⟩
    have sA := Same.new (o := .tup [.str "points", .bl true]) m1
    have hA : (upd H2 t1 (.tup [.str "points", .bl true])) t1 = some (.tup [.str "points", .bl true]) := upd_same
    generalize upd H2 t1 (.tup [.str "points", .bl true]) = HA at sA hA ⊢
    have pA := p2.same sA
    have nA := sA _ _ eT
    -- needs
    refine ⟨_, rfl, a3, x3, B.nd, rfl, pA.l3, pA.r3, ok.na, ok.nb, by
      have q := three ok.na (fun n hn => by
        obtain ⟨r, hr, rfl⟩ := List.mem_map.mp hn
        exact (ok.nb r hr).1)
      rw [List.length_map] at q
      exact q, fun H3 s3 => ⟨two, fun t2 m2 => ?_⟩⟩
    have sB := s3.trans (Same.new (o := .tup [.str "needs", .bl true]) m2)
    have hB : (upd H3 t2 (.tup [.str "needs", .bl true])) t2 = some (.tup [.str "needs", .bl true]) := upd_same
    generalize upd H3 t2 (.tup [.str "needs", .bl true]) = HB at sB hB ⊢
    have pB := pA.same sB
    have nB := sB _ _ nA
    -- wants
    refine ⟨_, rfl, _, rfl, T, B.ns, a4, x4, B.wl, rfl, .inl (SqL.of nB), n60, pB.l4, pB.r4, ok.w, ok.wl, fun H4 s4 => ⟨two, fun t3 m3 => ?_⟩⟩
    have sC := s4.trans (Same.new (o := .tup [.str "wants", .bl true]) m3)
    have hC : (upd H4 t3 (.tup [.str "wants", .bl true])) t3 = some (.tup [.str "wants", .bl true]) := upd_same
    generalize upd H4 t3 (.tup [.str "wants", .bl true]) = HC at sC hC ⊢
    have pC := pB.same sC
    have nC := sC _ _ nB
    -- bars
    refine ⟨_, rfl, _, rfl, T, B.ns, a5, x5, B.bars, rfl, .inl (SqL.of nC), n60, pC.l5, pC.r5, ok.bars, ok.b4, fun H5 s5 => ⟨two, fun t4 m4 => ?_⟩⟩
    have sD := s5.trans (Same.new (o := .tup [.str "bars", .bl true]) m4)
    have hD : (upd H5 t4 (.tup [.str "bars", .bl true])) t4 = some (.tup [.str "bars", .bl true]) := upd_same
    generalize upd H5 t4 (.tup [.str "bars", .bl true]) = HD at sD hD ⊢
    have pD := pC.same sD
    have nD := sD _ _ nC
    -- gives
    refine ⟨_, rfl, _, rfl, T, B.ns, a6, x6, B.gives, 1, 3, rfl, .inl (SqL.of nD), n60, pD.l6, pD.r6, ok.gives, fun H6 s6 => ⟨two, fun t5 m5 => ?_⟩⟩
    have sE := s6.trans (Same.new (o := .tup [.str "gives", .bl true]) m5)
    have hE : (upd H6 t5 (.tup [.str "gives", .bl true])) t5 = some (.tup [.str "gives", .bl true]) := upd_same
    generalize upd H6 t5 (.tup [.str "gives", .bl true]) = HE at sE hE ⊢
    have pE := pD.same sE
    have nE := sE _ _ nD
    -- prices
    refine ⟨_, rfl, _, rfl, T, B.ns, a7, x7, B.prices, 0, 99, rfl, .inl (SqL.of nE), n60, pE.l7, pE.r7, ok.prices, fun H7 s7 => ⟨two, fun t6 m6 => ?_⟩⟩
    have sF := s7.trans (Same.new (o := .tup [.str "prices", .bl true]) m6)
    have hF : (upd H7 t6 (.tup [.str "prices", .bl true])) t6 = some (.tup [.str "prices", .bl true]) := upd_same
    generalize upd H7 t6 (.tup [.str "prices", .bl true]) = HF at sF hF ⊢
    -- reset
    dsimp only [tCons, tTup, tC]
    refine by_ (fun x H' => x = .bl true ∧ H' = HF) (fun Q' kQ => ?_) ?_
    · cases e : B.reset with
      | none => exact ⟨_, rfl, rfl, _, rfl, ifT (by decide) (kQ _ _ ⟨rfl, rfl⟩)⟩
      | some r =>
        have b := ok.reset r e
        refine ⟨_, rfl, rfl, _, rfl, ifF (decide_eq_false fun e => nomatch e) ⟨_, rfl, .int r, 0, 99, "int", rfl, .int r, ?_⟩⟩
        rw [num_ok b.1 b.2]
        exact kQ _ _ ⟨rfl, rfl⟩
    rintro x H' ⟨rfl, rfl⟩
    refine ⟨two, fun t7 m7 => ?_⟩
    have sG := Same.new (o := .tup [.str "reset", .bl true]) m7
    have hG : (upd H' t7 (.tup [.str "reset", .bl true])) t7 = some (.tup [.str "reset", .bl true]) := upd_same
    generalize upd H' t7 (.tup [.str "reset", .bl true]) = HG at sG hG ⊢
    refine ⟨(by show 7 ≤ sizeLine; decide), fun L nL => ?_⟩
    have sL := Same.new (o := .lst [.ref t1, .ref t2, .ref t3, .ref t4, .ref t5, .ref t6, .ref t7]) nL
    have hL : (upd HG L (.lst [.ref t1, .ref t2, .ref t3, .ref t4, .ref t5, .ref t6, .ref t7])) L = some (.lst [.ref t1, .ref t2, .ref t3, .ref t4, .ref t5, .ref t6, .ref t7]) := upd_same
    have rows : Rws (upd HG L (.lst [.ref t1, .ref t2, .ref t3, .ref t4, .ref t5, .ref t6, .ref t7])) [.ref t1, .ref t2, .ref t3, .ref t4, .ref t5, .ref t6, .ref t7] ((["points", "needs", "wants", "bars", "gives", "prices", "reset"] : List Str).map fun z => [V.str z, V.bl true]) := by
      have q6 := sG.trans sL
      have q5 := sF.trans q6
      have q4 := sE.trans q5
      have q3 := sD.trans q4
      have q2 := sC.trans q3
      have q1 := sB.trans q2
      exact .cons ⟨t1, rfl, q1 _ _ hA⟩ (.cons ⟨t2, rfl, q2 _ _ hB⟩ (.cons ⟨t3, rfl, q3 _ _ hC⟩ (.cons ⟨t4, rfl, q4 _ _ hD⟩ (.cons ⟨t5, rfl, q5 _ _ hE⟩ (.cons ⟨t6, rfl, q6 _ _ hF⟩ (.cons ⟨t7, rfl, sL _ _ hG⟩ .nil))))))
    generalize upd HG L (.lst [.ref t1, .ref t2, .ref t3, .ref t4, .ref t5, .ref t6, .ref t7]) = HL at sL hL rows ⊢
    -- nothing is wrong
    refine ⟨_, rfl, L, rfl, lc_seq (.inl (SqL.of hL)) (fun _ => []) rfl (fun D nD i x H3 hi' p => ?_) fun W HW nW sW at9 => ?_⟩
    · obtain ⟨z, tp, hr', rfl, htp⟩ := rows.at_ hi'
      exact ⟨tp, _, rfl, SqT.of (p.same _ _ htp), rfl, .str z, _, rfl, .bl true, _, rfl, rfl, rfl, _, rfl, true, rfl, p.skip rfl⟩
    refine ⟨_, rfl, false, .inl ⟨[], SqL.of at9, rfl⟩, ?_⟩
    refine k _ ?_
    have e1 := (s1.trans s2).trans (sA.trans (sB.trans (sC.trans (sD.trans (sE.trans (sF.trans sG))))))
    exact e1.trans (sL.trans sW)
end
end Rt
end
section
set_option Elab.async false
set_option linter.all false
set_option maxRecDepth 100000
set_option maxHeartbeats 8000000
/-! the book: what its methods answer -/
namespace Rt
open PySem PySem.Spec PyProof.Rows L2
abbrev BC (K : PySem.W.Frag) : Addr := He.ga K "Book"
/-- a method of the book, packed -/
structure CalM (P : Program) (w : World) (K : PySem.W.Frag) (mg : Str → Option Value) (base : Heap) (CX : CXT) (k : Nat) (m : Str) (ps : List Str) (sp : Sp) : Prop where
  ex : ∃ fd, Binds K fd ps [] ∧ FnOk P w K mg base CX k (He.ma K (BC K) m) fd ps sp
  mt : Meth K (BC K) m (He.ma K (BC K) m)
  cl : Cls K (BC K)
section
variable {X : Cx} {CX : CXT} {k : Nat} {m : Str} {ps : List Str} {sp : Sp} {E : XK} {o e : Expr} {es : List Expr} {apos pos : Pos} {t : TA} {ta : TE} {pl : Sem Bool}
theorem pe_m0 (C : CalM X.prog X.w X.K X.mg X.base CX k m ps sp) (hr : Room k X.A) (hx : Passes CX X E) (he : PE X o ta)
    (ht : eval (.Call (.Attribute o m apos) [] [] pos) X.env = (do
      let ov ← eval o X.env
      standAt apos.atName
      let (f, first) ← holding [ov] (getMethod ov m pl)
      callWith pos f first (backTo pos (starEach [] X.env)) (backToKw pos (keywordEach [] X.env))) := by rfl) :
    PE X (.Call (.Attribute o m apos) [] [] pos) (tMeth (BC X.K) m sp [] E ta tNil) := by
  obtain ⟨fd, b, F⟩ := C.ex
  exact pe_meth0 (pl := pl) he C.cl C.mt F hr b .nil hx ht
theorem pe_m1 (C : CalM X.prog X.w X.K X.mg X.base CX k m ps sp) (hr : Room k X.A) (hx : Passes CX X E) (he : PE X o ta) (ha : PA X (e :: es) t)
    (hst : starEach (e :: es) X.env = (false, eval e X.env) :: starEach es X.env := by rfl) (hpl : (backTo pos (starEach es X.env)).any (·.1) = false := by rfl)
    (ht : eval (.Call (.Attribute o m apos) (e :: es) [] pos) X.env = (do
      let ov ← eval o X.env
      standAt apos.atName
      let (f, first) ← holding [ov] (getMethod ov m pl)
      callWith pos f first (backTo pos (starEach (e :: es) X.env)) (backToKw pos (keywordEach [] X.env))) := by rfl) :
    PE X (.Call (.Attribute o m apos) (e :: es) [] pos) (tMeth (BC X.K) m sp [] E ta t) := by
  obtain ⟨fd, b, F⟩ := C.ex
  exact pe_meth (pl := pl) he C.cl C.mt F hr b .nil hx ha hst hpl ht
end
section
variable {P : Program} {w : World} {K : PySem.W.Frag} {mg : Str → Option Value} {base : Heap} {m qual : Str} {params : Arguments} {body : List Stmt} {scope : Scope} {ps : List Str} {k : Nat} {sp : Sp}
theorem CalM.of (ex : ∃ fd, FunD K m qual params body scope [] [] (He.fAd K ("Book", some m)) fd ∧ FnOk P w K mg base CX0 k (He.fAd K ("Book", some m)) fd ps sp) (mt : Meth K (BC K) m (He.ma K (BC K) m)) (cl : Cls K (BC K))
    (h : ∀ (kV doc pm : Value) (an : Option Addr) (cdv ct : Value) (us : List Value), us.length = ps.length → bindArgs (PySem.W.fnOf m qual params body scope .none kV doc pm an cdv ct) ⟨us, []⟩ = pure (ps.zip us)) :
    CalM P w K mg base CX0 k m ps sp := by
  obtain ⟨fd, F, G⟩ := ex
  exact ⟨⟨fd, F.bindsN h, G⟩, mt, cl⟩
end
/-- where a book keeps what -/
structure BoA where
  (dx dp nm td nb gb pb t1 t3 t4 t5 t6 t7 : Addr)
  (x1 x3 x4 x5 x6 x7 : List V)
def bFs (a : BoA) : List (Str × V) := [("_parts", .ref a.dp), ("_names", .ref a.nm), ("_tiers", .ref a.td), ("_need_by_tier", .ref a.nb), ("_given_by_skill", .ref a.gb), ("_price_by_skill", .ref a.pb)]
abbrev kS (r : Str × Int) : Key × V := (.inr r.1, .int r.2)
abbrev kI (r : Int × Int) : Key × V := (.inl r.1, .int r.2)
/-- an empty tuple of the written part -/
def PlainE (K : PySem.W.Frag) (a : Addr) : Prop := ∃ o n, K.lookup a = some o ∧ o.cls = .type "tuple" ∧ o.dict = none ∧ o.data = .seq #[] n
theorem PlainE.sq {K : PySem.W.Frag} {a : Addr} (h : PlainE K a) (H : Hp) : SqT K H a [] := by
  obtain ⟨o, n, e1, e2, _, e4⟩ := h
  exact .inr ⟨o, #[], n, e1, e2, e4, Nat.zero_le _, .nil⟩
/-- a tuple of ours (it is of no dict), or an empty one of the written part -/
def TpAt (K : PySem.W.Frag) (H : Hp) (a : Addr) (xs : List V) : Prop := (∃ o, H a = some (.frz o (.tup xs)) ∧ o.dict = none) ∨ (xs = [] ∧ PlainE K a)
/-- the known tuples stand -/
def Tf (H H' : Hp) : Prop := ∀ b o xs, H b = some (.frz o (.tup xs)) → H' b = some (.frz o (.tup xs))
theorem Tf.of {H H' : Hp} (s : Same H H') : Tf H H' := fun b _ _ h => s b _ h
section
variable {K : PySem.W.Frag} {H H' : Hp} {a : Addr} {xs : List V}
theorem TpAt.tk (h : TpAt K H a xs) (k : Tf H H') : TpAt K H' a xs := h.elim (fun ⟨o, h, e⟩ => .inl ⟨o, k _ _ _ h, e⟩) .inr
theorem TpAt.same (h : TpAt K H a xs) (k : Same H H') : TpAt K H' a xs := h.tk (Tf.of k)
theorem TpAt.sq (h : TpAt K H a xs) : SqT K H a xs := h.elim (fun ⟨o, h, _⟩ => .inl (.inr ⟨o, h⟩)) fun ⟨e, h⟩ => by
  rw [e]
  exact h.sq H
end
structure BookAt (K : PySem.W.Frag) (H : Hp) (x : Addr) (B : Bk) (a : BoA) : Prop where
  at_ : H x = some (.ins (BC K) a.dx (bFs a))
  parts : H a.dp = some (.dK (bkL a.t1 B.points a.t3 a.t4 a.t5 a.t6 a.t7 (oV B.reset)))
  h1 : TpAt K H a.t1 a.x1
  h3 : TpAt K H a.t3 a.x3
  h4 : TpAt K H a.t4 a.x4
  h5 : TpAt K H a.t5 a.x5
  h6 : TpAt K H a.t6 a.x6
  h7 : TpAt K H a.t7 a.x7
  r1 : Rws H a.x1 (B.sk.map rS)
  r3 : Rws H a.x3 (B.nd.map rI2)
  r4 : Wws H a.x4 B.wl
  r5 : Rws H a.x5 (B.bars.map rB)
  r6 : Rws H a.x6 (B.gives.map rS)
  r7 : Rws H a.x7 (B.prices.map rS)
  names : H a.nm = some (.tup (B.ns.map V.str))
  tiers : H a.td = some (.dK (B.sk.map kS))
  needs : H a.nb = some (.dK (B.nd.map kI))
  given : H a.gb = some (.dK (B.gives.map kS))
  price : H a.pb = some (.dK (B.prices.map kS))
theorem BookAt.same {K : PySem.W.Frag} {H H' : Hp} {x : Addr} {B : Bk} {a : BoA} (h : BookAt K H x B a) (s : Same H H') : BookAt K H' x B a :=
  ⟨s _ _ h.at_, s _ _ h.parts, h.h1.same s, h.h3.same s, h.h4.same s, h.h5.same s, h.h6.same s, h.h7.same s, h.r1.same s, h.r3.same s, h.r4.tk (Tk.of s), h.r5.same s, h.r6.same s, h.r7.same s, s _ _ h.names, s _ _ h.tiers, s _ _ h.needs, s _ _ h.given, s _ _ h.price⟩
def spList (K : PySem.W.Frag) (f : Bk → BoA → List V) : Sp := fun vs H Q _ => ∃ (x : Addr) (B : Bk) (a : BoA), vs = [.ref x] ∧ BookAt K H x B a ∧ ∀ l, H l = none → Q (.ref l) (upd H l (.lst (f B a)))
def spLen (K : PySem.W.Frag) : Sp := fun vs H Q _ => ∃ (x : Addr) (B : Bk) (a : BoA), vs = [.ref x] ∧ BookAt K H x B a ∧ Q (.int (B.ns.length : Nat)) H
def spHas (K : PySem.W.Frag) : Sp := fun vs H Q _ => ∃ (x : Addr) (B : Bk) (a : BoA) (y : V) (T : String), vs = [.ref x, y] ∧ BookAt K H x B a ∧ Ts K H y T ∧ Q (.bl (isOne B.ns y)) H
section
variable {P : Program} {w : World} {K : PySem.W.Frag} {mg : Str → Option Value} {base : Heap}

theorem calm_skills (Z : All K mg) : CalM P w K mg base CX0 1 "skills" ["self"] (spList K fun _ a => a.x1) := by
  obtain ⟨fd, F⟩ := Z.f_Book_skills
  refine .of ⟨fd, F, ok0 F sc_Book_skills (fun vs H Q E h => ?_) (fun cdv A outer s H vs Q E hr h => ?_)⟩ Z.m_skills Z.c_Book (fun _ _ _ _ _ _ us hl => match us, hl with | [_], _ => rfl)
  · obtain ⟨x, B, a, rfl, _⟩ := h
    rfl
  · obtain ⟨x, B, a, rfl, b, k⟩ := h
    refine ⟨_, (pss_one (ps_ret (pe_callTy call_list_of (by rfl) Z.b_list PyProof.Rows.boot_list (pa_cons (pe_dget (hu_of hr) (pe_fld (pv 0) rfl) pe_str (fun _ _ => rfl)) pa_nil)))), ?_⟩
    refine ⟨_, rfl, x, _, a.dx, bFs a, .ref a.dp, rfl, b.at_, Z.c_Book, Z.n_parts, rfl, a.dp, .ref a.t1, rfl, DGet.k (k := .inr "skills") b.parts, a.t1, a.x1, rfl, .inr b.h1.sq, k⟩

theorem calm_needs (Z : All K mg) : CalM P w K mg base CX0 1 "needs" ["self"] (spList K fun _ a => a.x3) := by
  obtain ⟨fd, F⟩ := Z.f_Book_needs
  refine .of ⟨fd, F, ok0 F sc_Book_needs (fun vs H Q E h => ?_) (fun cdv A outer s H vs Q E hr h => ?_)⟩ Z.m_needs Z.c_Book (fun _ _ _ _ _ _ us hl => match us, hl with | [_], _ => rfl)
  · obtain ⟨x, B, a, rfl, _⟩ := h
    rfl
  · obtain ⟨x, B, a, rfl, b, k⟩ := h
    refine ⟨_, (pss_one (ps_ret (pe_callTy call_list_of (by rfl) Z.b_list PyProof.Rows.boot_list (pa_cons (pe_dget (hu_of hr) (pe_fld (pv 0) rfl) pe_str (fun _ _ => rfl)) pa_nil)))), ?_⟩
    refine ⟨_, rfl, x, _, a.dx, bFs a, .ref a.dp, rfl, b.at_, Z.c_Book, Z.n_parts, rfl, a.dp, .ref a.t3, rfl, DGet.k (k := .inr "needs") b.parts, a.t3, a.x3, rfl, .inr b.h3.sq, k⟩

theorem calm_wants (Z : All K mg) : CalM P w K mg base CX0 1 "wants" ["self"] (spList K fun _ a => a.x4) := by
  obtain ⟨fd, F⟩ := Z.f_Book_wants
  refine .of ⟨fd, F, ok0 F sc_Book_wants (fun vs H Q E h => ?_) (fun cdv A outer s H vs Q E hr h => ?_)⟩ Z.m_wants Z.c_Book (fun _ _ _ _ _ _ us hl => match us, hl with | [_], _ => rfl)
  · obtain ⟨x, B, a, rfl, _⟩ := h
    rfl
  · obtain ⟨x, B, a, rfl, b, k⟩ := h
    refine ⟨_, (pss_one (ps_ret (pe_callTy call_list_of (by rfl) Z.b_list PyProof.Rows.boot_list (pa_cons (pe_dget (hu_of hr) (pe_fld (pv 0) rfl) pe_str (fun _ _ => rfl)) pa_nil)))), ?_⟩
    refine ⟨_, rfl, x, _, a.dx, bFs a, .ref a.dp, rfl, b.at_, Z.c_Book, Z.n_parts, rfl, a.dp, .ref a.t4, rfl, DGet.k (k := .inr "wants") b.parts, a.t4, a.x4, rfl, .inr b.h4.sq, k⟩

theorem calm_bars (Z : All K mg) : CalM P w K mg base CX0 1 "bars" ["self"] (spList K fun _ a => a.x5) := by
  obtain ⟨fd, F⟩ := Z.f_Book_bars
  refine .of ⟨fd, F, ok0 F sc_Book_bars (fun vs H Q E h => ?_) (fun cdv A outer s H vs Q E hr h => ?_)⟩ Z.m_bars Z.c_Book (fun _ _ _ _ _ _ us hl => match us, hl with | [_], _ => rfl)
  · obtain ⟨x, B, a, rfl, _⟩ := h
    rfl
  · obtain ⟨x, B, a, rfl, b, k⟩ := h
    refine ⟨_, (pss_one (ps_ret (pe_callTy call_list_of (by rfl) Z.b_list PyProof.Rows.boot_list (pa_cons (pe_dget (hu_of hr) (pe_fld (pv 0) rfl) pe_str (fun _ _ => rfl)) pa_nil)))), ?_⟩
    refine ⟨_, rfl, x, _, a.dx, bFs a, .ref a.dp, rfl, b.at_, Z.c_Book, Z.n_parts, rfl, a.dp, .ref a.t5, rfl, DGet.k (k := .inr "bars") b.parts, a.t5, a.x5, rfl, .inr b.h5.sq, k⟩

theorem calm_gives (Z : All K mg) : CalM P w K mg base CX0 1 "gives" ["self"] (spList K fun _ a => a.x6) := by
  obtain ⟨fd, F⟩ := Z.f_Book_gives
  refine .of ⟨fd, F, ok0 F sc_Book_gives (fun vs H Q E h => ?_) (fun cdv A outer s H vs Q E hr h => ?_)⟩ Z.m_gives Z.c_Book (fun _ _ _ _ _ _ us hl => match us, hl with | [_], _ => rfl)
  · obtain ⟨x, B, a, rfl, _⟩ := h
    rfl
  · obtain ⟨x, B, a, rfl, b, k⟩ := h
    refine ⟨_, (pss_one (ps_ret (pe_callTy call_list_of (by rfl) Z.b_list PyProof.Rows.boot_list (pa_cons (pe_dget (hu_of hr) (pe_fld (pv 0) rfl) pe_str (fun _ _ => rfl)) pa_nil)))), ?_⟩
    refine ⟨_, rfl, x, _, a.dx, bFs a, .ref a.dp, rfl, b.at_, Z.c_Book, Z.n_parts, rfl, a.dp, .ref a.t6, rfl, DGet.k (k := .inr "gives") b.parts, a.t6, a.x6, rfl, .inr b.h6.sq, k⟩

theorem calm_prices (Z : All K mg) : CalM P w K mg base CX0 1 "prices" ["self"] (spList K fun _ a => a.x7) := by
  obtain ⟨fd, F⟩ := Z.f_Book_prices
  refine .of ⟨fd, F, ok0 F sc_Book_prices (fun vs H Q E h => ?_) (fun cdv A outer s H vs Q E hr h => ?_)⟩ Z.m_prices Z.c_Book (fun _ _ _ _ _ _ us hl => match us, hl with | [_], _ => rfl)
  · obtain ⟨x, B, a, rfl, _⟩ := h
    rfl
  · obtain ⟨x, B, a, rfl, b, k⟩ := h
    refine ⟨_, (pss_one (ps_ret (pe_callTy call_list_of (by rfl) Z.b_list PyProof.Rows.boot_list (pa_cons (pe_dget (hu_of hr) (pe_fld (pv 0) rfl) pe_str (fun _ _ => rfl)) pa_nil)))), ?_⟩
    refine ⟨_, rfl, x, _, a.dx, bFs a, .ref a.dp, rfl, b.at_, Z.c_Book, Z.n_parts, rfl, a.dp, .ref a.t7, rfl, DGet.k (k := .inr "prices") b.parts, a.t7, a.x7, rfl, .inr b.h7.sq, k⟩

theorem calm_names (Z : All K mg) : CalM P w K mg base CX0 1 "names" ["self"] (spList K fun B _ => B.ns.map V.str) := by
  obtain ⟨fd, F⟩ := Z.f_Book_names
  refine .of ⟨fd, F, ok0 F sc_Book_names (fun vs H Q E h => ?_) (fun cdv A outer s H vs Q E hr h => ?_)⟩ Z.m_names Z.c_Book (fun _ _ _ _ _ _ us hl => match us, hl with | [_], _ => rfl)
  · obtain ⟨x, B, a, rfl, _⟩ := h
    rfl
  · obtain ⟨x, B, a, rfl, b, k⟩ := h
    refine ⟨_, (pss_one (ps_ret (pe_callTy call_list_of (by rfl) Z.b_list PyProof.Rows.boot_list (pa_cons (pe_fld (pv 0) rfl) pa_nil)))), ?_⟩
    exact ⟨_, rfl, x, _, a.dx, bFs a, .ref a.nm, rfl, b.at_, Z.c_Book, Z.n_names, rfl, a.nm, _, rfl, .inr (SqT.of b.names), k⟩

theorem calm_len (Z : All K mg) : CalM P w K mg base CX0 1 "__len__" ["self"] (spLen K) := by
  obtain ⟨fd, F⟩ := Z.f_Book_len
  refine .of ⟨fd, F, ok0 F sc_Book_len (fun vs H Q E h => ?_) (fun cdv A outer s H vs Q E hr h => ?_)⟩ Z.m_len Z.c_Book (fun _ _ _ _ _ _ us hl => match us, hl with | [_], _ => rfl)
  · obtain ⟨x, B, a, rfl, _⟩ := h
    rfl
  · obtain ⟨x, B, a, rfl, b, k⟩ := h
    refine ⟨_, (pss_one (ps_ret (pe_callB call_len (by rfl) Z.b_len PySem.boot_len (pa_cons (pe_fld (pv 0) rfl) pa_nil)))), ?_⟩
    refine ⟨_, rfl, x, _, a.dx, bFs a, .ref a.nm, rfl, b.at_, Z.c_Book, Z.n_names, rfl, _, (B.ns.map V.str).length, rfl, .inr ⟨_, SqT.of b.names, rfl⟩, ?_⟩
    rw [List.length_map]
    exact k
theorem calm_contains (Z : All K mg) : CalM P w K mg base CX0 2 "__contains__" ["self", "x"] (spHas K) := by
  obtain ⟨fd, F⟩ := Z.f_Book_contains
  have C_is_one_of : Cal P w K mg base CX0 1 "is_one_of" ["names", "value"] (spOne K) := cal_is_one_of Z
  refine .of ⟨fd, F, ok0 F sc_Book_contains (fun vs H Q E h => ?_) (fun cdv A outer s H vs Q E hr h => ?_)⟩ Z.m_contains Z.c_Book (fun _ _ _ _ _ _ us hl => match us, hl with | [_, _], _ => rfl)
  · obtain ⟨x, B, a, y, T, rfl, _⟩ := h
    rfl
  · obtain ⟨x, B, a, y, T, rfl, b, t, k⟩ := h
    refine ⟨_, (pss_one (ps_ret (pe_cal C_is_one_of (hr.mono (by decide)) (by rfl) pass0 (pa_cons (pe_fld (pv 0) rfl) (pa_cons (pv 1) pa_nil))))), ?_⟩
    exact ⟨_, rfl, x, _, a.dx, bFs a, .ref a.nm, rfl, b.at_, Z.c_Book, Z.n_names, rfl, _, rfl, a.nm, B.ns, y, T, rfl, .inr (SqT.of b.names), t, k⟩

end
end Rt
end
section
set_option Elab.async false
set_option linter.all false
set_option maxRecDepth 100000
set_option maxHeartbeats 8000000
/-! the book is made -/
namespace Rt
open PySem PySem.Spec PyProof.Rows L2
theorem ps_dead {X : Cx} {st : Stmt} : PS X st (fun _ _ _ => False) := ⟨fun _ _ _ _ _ _ h => h.elim⟩
theorem putK_new {kvs : List (Key × V)} {k : Key} {v : V} (h : k ∉ kvs.map (·.1)) : putK kvs k v = kvs ++ [(k, v)] := by
  unfold putK
  rw [if_neg]
  intro q
  obtain ⟨p, hp, e⟩ := List.any_eq_true.mp q
  exact h (by rw [← of_decide_eq_true e]; exact List.mem_map_of_mem hp)
theorem merge_new : ∀ (more kvs : List (Key × V)), ((kvs ++ more).map (·.1)).Nodup → mergeK kvs more = kvs ++ more
  | [], kvs, _ => by rw [List.append_nil]; rfl
  | p :: more, kvs, h => by
    show mergeK (putK kvs p.1 p.2) more = _
    have h1 : p.1 ∉ kvs.map (·.1) := by
      rw [List.map_append, List.nodup_append] at h
      exact fun hm => h.2.2 _ hm _ List.mem_cons_self rfl
    rw [putK_new h1, merge_new more (kvs ++ [p]) (by rw [List.append_assoc]; exact h), List.append_assoc]
    rfl
theorem merge_nd {kvs : List (Key × V)} (h : (kvs.map (·.1)).Nodup) : mergeK [] kvs = kvs := merge_new kvs [] h
/-- rows of two as a dict's items -/
theorem pair_rows {α : Type} {K : PySem.W.Frag} {H : Hp} {f : α → List V} {g : α → Key × V} (e : ∀ r, f r = [kV (g r).1, (g r).2]) : ∀ {xs : List V} {l : List α}, Rws H xs (l.map f) → ∃ ps : List Addr, xs = ps.map V.ref ∧ Paired (fun p kv => SqT K H p [kV kv.1, kv.2]) ps (l.map g)
  | _, [], h => by
    cases h
    exact ⟨[], rfl, .nil⟩
  | _, r :: l, h => by
    cases h with
    | cons q t =>
      obtain ⟨p, rfl, hp⟩ := q
      obtain ⟨ps, e1, pr⟩ := pair_rows (K := K) e t
      rw [e r] at hp
      exact ⟨p :: ps, by rw [e1]; rfl, .cons (SqT.of hp) pr⟩
structure ListsAt (H : Hp) (B : Bk) (a1 a3 a4 a5 a6 a7 : Addr) (x1 x3 x4 x5 x6 x7 : List V) : Prop where
  l1 : H a1 = some (.lst x1)
  r1 : Rws H x1 (B.sk.map rS)
  l3 : H a3 = some (.lst x3)
  r3 : Rws H x3 (B.nd.map rI2)
  l4 : H a4 = some (.lst x4)
  r4 : Wws H x4 B.wl
  l5 : H a5 = some (.lst x5)
  r5 : Rws H x5 (B.bars.map rB)
  l6 : H a6 = some (.lst x6)
  r6 : Rws H x6 (B.gives.map rS)
  l7 : H a7 = some (.lst x7)
  r7 : Rws H x7 (B.prices.map rS)
theorem ListsAt.same {H H' : Hp} {B : Bk} {a1 a3 a4 a5 a6 a7 : Addr} {x1 x3 x4 x5 x6 x7 : List V} (h : ListsAt H B a1 a3 a4 a5 a6 a7 x1 x3 x4 x5 x6 x7) (s : Same H H') : ListsAt H' B a1 a3 a4 a5 a6 a7 x1 x3 x4 x5 x6 x7 :=
  ⟨s _ _ h.l1, h.r1.same s, s _ _ h.l3, h.r3.same s, s _ _ h.l4, h.r4.tk (Tk.of s), s _ _ h.l5, h.r5.same s, s _ _ h.l6, h.r6.same s, s _ _ h.l7, h.r7.same s⟩
/-- what is handed in: a list, or a tuple of no dict -/
def PtAt (K : PySem.W.Frag) (H : Hp) (a : Addr) (xs : List V) : Prop := H a = some (.lst xs) ∨ TpAt K H a xs
section
variable {K : PySem.W.Frag} {H H' : Hp} {a : Addr} {xs : List V}
theorem PtAt.go (h : PtAt K H a xs) (k : ∀ b ys, H b = some (.lst ys) → H' b = some (.lst ys)) (f : Tf H H') : PtAt K H' a xs := h.elim (fun h => .inl (k _ _ h)) fun h => .inr (h.tk f)
theorem PtAt.lt (h : PtAt K H a xs) : Lt K H a xs := h.elim (fun h => .lst h) fun h => .tupK h.sq
/-- tuple(x) -/
def rTupP (K : PySem.W.Frag) : List V → Hp → VK → Prop := fun zs H Q => ∃ a xs, zs = [.ref a] ∧ PtAt K H a xs ∧ ∀ t H', Same H H' → TpAt K H' t xs → Q (.ref t) H'
theorem call_tupP {X : Cx} : CallR X (.type "tuple") (rTupP X.K) := by
  intro pins s σ H zs us Q I r ⟨a, xs, ez, h, k⟩
  rcases h with h | h
  · subst ez
    obtain ⟨u, rfl, rx⟩ := vals1 r
    cases rx
    obtain ⟨its, r', pl, hz⟩ := I.list (SqL.of h)
    have hlen := r'.length
    refine call_tuple_list pl.isList (fun h' kp => ?_) (by simp only [List.size_toArray] <;> omega)
    have I1 : Inv X pins σ H { s with heap := h' } := I.kept (t' := s.toks) kp
    have I2 : Inv X pins σ (upd H h'.objs.size (.frz { cls := .type "tuple", data := .seq its.toArray } (.tup xs))) { s with heap := h'.push { cls := .type "tuple", data := .seq its.toArray } } :=
      I1.laid (t' := s.toks) (fun b o e => Heap.get?_push_of_some _ e) (Nat.le_refl _) (show ObjOk X.prog X.w _ _ _ (.frz _ (.tup xs)) from ⟨Heap.get?_push_size _ rfl, hz, its, r', IsTup.new _ _⟩)
    exact ⟨.ref h'.objs.size, _, I2, rfl, k _ _ (Same.new (I1.hok.fresh (Nat.le_refl _))) (.inl ⟨_, upd_same, rfl⟩)⟩
  · exact call_tupOf pins s σ H zs us Q I r ⟨a, xs, ez, .inr ⟨h.sq, k a H (Same.refl H) h⟩⟩
/-- dict(x) -/
def rDictQ (K : PySem.W.Frag) : List V → Hp → VK → Prop := fun zs H Q => ∃ (a : Addr) (ps : List Addr) (kvs : List (Key × V)), zs = [.ref a] ∧ PtAt K H a (ps.map V.ref) ∧ Paired (fun p kv => SqT K H p [kV kv.1, kv.2]) ps kvs ∧ ∀ p, H p = none → Q (.ref p) (upd H p (.dK (mergeK [] kvs)))
theorem call_dictE {X : Cx} (hc : X.calm = true) : CallR X (.type "dict") (fun zs H Q => ∃ a, zs = [.ref a] ∧ PlainE X.K a ∧ ∀ p, H p = none → Q (.ref p) (upd H p (.dK (mergeK [] [])))) := by
  intro pins s σ H zs us Q I r ⟨a, ez, ⟨o, n, e1, e2, e3, e4⟩, q⟩
  subst ez
  obtain ⟨u, rfl, ru⟩ := r.one
  cases ru
  have ho := I.kIn a o e1
  refine PySem.call_dict_pairs (knd := mixKind X.prog X.w) (kvs := []) (PySem.PairArg.tuple a #[] (fun _ => 0) []) (I.ok.hd hc) ⟨⟨o, n, ho, e2, e3, e4⟩, rfl, fun j k v e => nomatch e⟩ ⟨rfl, fun i key v z => ?_⟩ (Nat.zero_le _) fun h' tk hd k => ?_
  · simp [PySem.PairRel] at z
  · have big : (s.heap.objs.size == sysModules) = false := beq_eq_false_iff_ne.mpr (Nat.ne_of_gt I.big)
    exact ⟨.ref s.heap.objs.size, _, I.laid (t' := tk) (fun b o e => k b o (by simp) e) (Nat.le_refl _) (show ObjOk X.prog X.w _ _ _ (.dK (mergeK [] [])) from ⟨Nat.zero_le _, big, [], .nil, hd⟩), rfl, q _ (I.hok.fresh (Nat.le_refl _))⟩
theorem pairs_raw {X : Cx} {pins : List (Addr × Obj)} {σ : L2.St} {H : Hp} {s : Shared} (I : Inv X pins σ H s) : ∀ {ps : List Addr} {kvs : List (Key × V)}, Paired (fun p kv => SqT X.K H p [kV kv.1, kv.2]) ps kvs →
    ∃ prs : List (Key × Value × Value), KV kvs (prs.map fun q => (q.1, q.2.2)) ∧ prs.length = ps.length ∧ ∀ (j : Nat) (q : Key × Value × Value), prs[j]? = some q → ∃ b : Addr, ps[j]? = some b ∧ IsTup s.heap b #[q.2.1, q.2.2] ∧ (mixKind X.prog X.w).is q.1 q.2.1 = true
  | _, _, .nil => ⟨[], .nil, rfl, fun j q e => by simp at e⟩
  | _, _, .cons (a := p) (b := kv) h t => by
    obtain ⟨prs, r, hl, hp⟩ := pairs_raw I t
    obtain ⟨its, rv, ht, _⟩ := I.tuple h
    obtain ⟨u, y, ei, ru, ry⟩ := vals2 rv
    subst ei
    refine ⟨(kv.1, u, y) :: prs, .cons ⟨rfl, ry⟩ r, by rw [List.length_cons, List.length_cons, hl], fun j q e => ?_⟩
    cases j with
    | zero =>
      have e' : (kv.1, u, y) = q := Option.some.inj e
      subst e'
      exact ⟨p, rfl, ht, kV_is (P := X.prog) (w := X.w) ru⟩
    | succ j =>
      obtain ⟨b, e1, e2, e3⟩ := hp j q (by simpa using e)
      exact ⟨b, by simpa using e1, e2, e3⟩
/-- dict(t) of a tuple of pairs -/
theorem call_dictT {X : Cx} (hc : X.calm = true) : CallR X (.type "dict") (fun zs H Q => ∃ (a : Addr) (o : Obj) (ps : List Addr) (kvs : List (Key × V)), zs = [.ref a] ∧ H a = some (.frz o (.tup (ps.map V.ref))) ∧ o.dict = none ∧ Paired (fun p kv => SqT X.K H p [kV kv.1, kv.2]) ps kvs ∧ ∀ p, H p = none → Q (.ref p) (upd H p (.dK (mergeK [] kvs)))) := by
  intro pins s σ H zs us Q I r ⟨a, o, ps, kvs, ez, ha, hd, pr, q⟩
  subst ez
  obtain ⟨u, rfl, ru⟩ := r.one
  cases ru
  obtain ⟨e1, hz, its, rv, o', e2, e3, n, e4⟩ := (show ObjOk X.prog X.w H s.heap a (.frz o (.tup (ps.map V.ref))) from I.hok a _ ha)
  rw [e1] at e2
  have e2 := Option.some.inj e2
  subst e2
  have ei := L2.refs_at rv
  subst ei
  rw [List.length_map] at hz
  obtain ⟨prs, rel, hl, hpr⟩ := pairs_raw I pr
  have le : ps.length = kvs.length := Paired.length pr
  refine PySem.call_dict_pairs (knd := mixKind X.prog X.w) (kvs := prs.map fun q => (q.1, q.2.2)) (PySem.PairArg.tuple a (ps.map Value.ref).toArray (fun j => ps.getD j 0) (prs.map fun q => (q.2.1, q.2.2))) (I.ok.hd hc) ⟨⟨o, n, e1, e3, hd, e4⟩, by simp [hl], fun j k v e => ?_⟩ ⟨by simp, fun i key v z => ?_⟩ (by simp [hl]; exact hz) fun h' tk hd' kp => ?_
  · rw [List.getElem?_map] at e
    cases q0 : prs[j]? with
    | none => rw [q0] at e; cases e
    | some q1 =>
      rw [q0] at e
      have e := Option.some.inj e
      obtain ⟨b, f1, f2, f3⟩ := hpr j q1 q0
      have k1 : q1.2.1 = k := congrArg Prod.fst e
      have k2 : q1.2.2 = v := congrArg Prod.snd e
      refine ⟨by simp [f1], ?_⟩
      show PairAt s.heap (ps.getD j 0) k v
      rw [List.getD_eq_getElem?_getD, f1]
      rw [k1, k2] at f2
      obtain ⟨o1, g1, g2, n1, g3⟩ := f2
      exact .inl ⟨o1, g1, g2, n1, g3⟩
  · have z : (prs.map fun q => (q.2.1, q.2.2))[i]? = some (key, v) := z
    rw [List.getElem?_map] at z
    cases q0 : prs[i]? with
    | none => rw [q0] at z; cases z
    | some q1 =>
      rw [q0] at z
      have z := Option.some.inj z
      obtain ⟨b, f1, f2, f3⟩ := hpr i q1 q0
      have k1 : q1.2.1 = key := congrArg Prod.fst z
      have k2 : q1.2.2 = v := congrArg Prod.snd z
      refine ⟨q1.1, ?_, ?_⟩
      · rw [List.getElem?_map, q0, ← k2]
        rfl
      · rw [← k1]
        exact f3
  · have hm : (s.heap.objs.size == sysModules) = false := beq_eq_false_iff_ne.mpr (Nat.ne_of_gt I.big)
    have hlen : (mergeK [] kvs).length ≤ sizeLine := by
      refine Nat.le_trans (length_mergeK kvs []) ?_
      rw [List.length_nil, Nat.zero_add, ← le]
      exact hz
    exact ⟨.ref s.heap.objs.size, upd H s.heap.objs.size (.dK (mergeK [] kvs)), I.laid (t' := tk) (fun b o e => kp b o (by simp) e) (Nat.le_refl _) (show ObjOk X.prog X.w _ _ _ (.dK (mergeK [] kvs)) from ⟨hlen, hm, _, KV.merge rel .nil, hd'⟩), rfl, q _ (I.hok.fresh (Nat.le_refl _))⟩
theorem call_dictQ {X : Cx} (hc : X.calm = true) : CallR X (.type "dict") (rDictQ X.K) := by
  intro pins s σ H zs us Q I r ⟨a, ps, kvs, ez, h, pr, k⟩
  rcases h with h | ⟨o, h, e⟩ | ⟨e, h⟩
  · exact call_dictP hc pins s σ H zs us Q I r ⟨a, ps, kvs, ez, SqL.of h, pr, k⟩
  · exact call_dictT hc pins s σ H zs us Q I r ⟨a, o, ps, kvs, ez, h, e, pr, k⟩
  · cases ps with
    | cons p ps => cases e
    | nil =>
      cases pr
      exact call_dictE hc pins s σ H zs us Q I r ⟨a, ez, h, k⟩
end
/-- what is handed in for a book -/
structure ArgsAt (K : PySem.W.Frag) (H : Hp) (B : Bk) (a1 a3 a4 a5 a6 a7 : Addr) (x1 x3 x4 x5 x6 x7 : List V) : Prop where
  l1 : PtAt K H a1 x1
  r1 : Rws H x1 (B.sk.map rS)
  l3 : PtAt K H a3 x3
  r3 : Rws H x3 (B.nd.map rI2)
  l4 : PtAt K H a4 x4
  r4 : Wws H x4 B.wl
  l5 : PtAt K H a5 x5
  r5 : Rws H x5 (B.bars.map rB)
  l6 : PtAt K H a6 x6
  r6 : Rws H x6 (B.gives.map rS)
  l7 : PtAt K H a7 x7
  r7 : Rws H x7 (B.prices.map rS)
theorem ListsAt.args {K : PySem.W.Frag} {H : Hp} {B : Bk} {a1 a3 a4 a5 a6 a7 : Addr} {x1 x3 x4 x5 x6 x7 : List V} (h : ListsAt H B a1 a3 a4 a5 a6 a7 x1 x3 x4 x5 x6 x7) : ArgsAt K H B a1 a3 a4 a5 a6 a7 x1 x3 x4 x5 x6 x7 :=
  ⟨.inl h.l1, h.r1, .inl h.l3, h.r3, .inl h.l4, h.r4, .inl h.l5, h.r5, .inl h.l6, h.r6, .inl h.l7, h.r7⟩
theorem ArgsAt.parts {K : PySem.W.Frag} {H : Hp} {B : Bk} {a1 a3 a4 a5 a6 a7 : Addr} {x1 x3 x4 x5 x6 x7 : List V} (h : ArgsAt K H B a1 a3 a4 a5 a6 a7 x1 x3 x4 x5 x6 x7) : PartsAt K H B a1 a3 a4 a5 a6 a7 x1 x3 x4 x5 x6 x7 :=
  ⟨h.l1.lt, h.r1, h.l3.lt, h.r3, h.l4.lt, h.r4, h.l5.lt, h.r5, h.l6.lt, h.r6, h.l7.lt, h.r7⟩
theorem ArgsAt.go {K : PySem.W.Frag} {H H' : Hp} {B : Bk} {a1 a3 a4 a5 a6 a7 : Addr} {x1 x3 x4 x5 x6 x7 : List V} (h : ArgsAt K H B a1 a3 a4 a5 a6 a7 x1 x3 x4 x5 x6 x7) (k : ∀ b ys, H b = some (.lst ys) → H' b = some (.lst ys)) (t : Tk H H') (f : Tf H H') : ArgsAt K H' B a1 a3 a4 a5 a6 a7 x1 x3 x4 x5 x6 x7 :=
  ⟨h.l1.go k f, h.r1.tk t, h.l3.go k f, h.r3.tk t, h.l4.go k f, h.r4.tk t, h.l5.go k f, h.r5.tk t, h.l6.go k f, h.r6.tk t, h.l7.go k f, h.r7.tk t⟩
theorem ArgsAt.same {K : PySem.W.Frag} {H H' : Hp} {B : Bk} {a1 a3 a4 a5 a6 a7 : Addr} {x1 x3 x4 x5 x6 x7 : List V} (h : ArgsAt K H B a1 a3 a4 a5 a6 a7 x1 x3 x4 x5 x6 x7) (s : Same H H') : ArgsAt K H' B a1 a3 a4 a5 a6 a7 x1 x3 x4 x5 x6 x7 :=
  h.go (fun _ _ hb => s _ _ hb) (Tk.of s) (Tf.of s)
/-- all but x stands -/
def But (x : Addr) (H H' : Hp) : Prop := ∀ b o, b ≠ x → H b = some o → H' b = some o
def spInit (K : PySem.W.Frag) : Sp := fun vs H Q _ => ∃ (x dx : Addr) (B : Bk) (a1 a3 a4 a5 a6 a7 : Addr) (x1 x3 x4 x5 x6 x7 : List V), vs = [.ref x, .ref a1, .int B.points, .ref a3, .ref a4, .ref a5, .ref a6, .ref a7, oV B.reset] ∧ H x = some (.ins (BC K) dx []) ∧ ArgsAt K H B a1 a3 a4 a5 a6 a7 x1 x3 x4 x5 x6 x7 ∧ BkR B ∧
  ∀ (H' : Hp) (a : BoA), But x H H' → a.dx = dx → BookAt K H' x B a → Q .non H'
theorem put_keep {H : Hp} {x c : Addr} {C dx : Addr} {fs : List (Str × V)} {o o' : HO} (hx : H x = some (.ins C dx fs)) (h : H c = some o) (no : ∀ C dx fs, o ≠ .ins C dx fs) : (upd H x o') c = some o := by
  rw [upd_ne (ne_of h hx (no _ _ _))]
  exact h
theorem put_tk {H : Hp} {x : Addr} {C dx : Addr} {fs : List (Str × V)} {o' : HO} (hx : H x = some (.ins C dx fs)) : Tk H (upd H x o') := fun b xs hb => put_keep hx hb fun _ _ _ z => by cases z
theorem put_tf {H : Hp} {x : Addr} {C dx : Addr} {fs : List (Str × V)} {o' : HO} (hx : H x = some (.ins C dx fs)) : Tf H (upd H x o') := fun b o xs hb => put_keep hx hb fun _ _ _ z => by cases z
structure InSt (K : PySem.W.Frag) (x dx : Addr) (H : Hp) (B : Bk) (d t1 t3 t4 t5 t6 t7 a1 a3 a4 a5 a6 a7 : Addr) (x1 x3 x4 x5 x6 x7 : List V) (fs : List (Str × V)) (Hh : Hp) : Prop where
  at_ : Hh x = some (.ins (BC K) dx fs)
  but : But x H Hh
  ls : ArgsAt K Hh B a1 a3 a4 a5 a6 a7 x1 x3 x4 x5 x6 x7
  hd : Hh d = some (.dK (bkL t1 B.points t3 t4 t5 t6 t7 (oV B.reset)))
  h1 : TpAt K Hh t1 x1
  h3 : TpAt K Hh t3 x3
  h4 : TpAt K Hh t4 x4
  h5 : TpAt K Hh t5 x5
  h6 : TpAt K Hh t6 x6
  h7 : TpAt K Hh t7 x7
section
variable {K : PySem.W.Frag} {x dx : Addr} {H H' : Hp} {B : Bk} {d t1 t3 t4 t5 t6 t7 a1 a3 a4 a5 a6 a7 : Addr} {x1 x3 x4 x5 x6 x7 : List V} {fs fs' : List (Str × V)} {Hh : Hp}
theorem InSt.same (i : InSt K x dx H B d t1 t3 t4 t5 t6 t7 a1 a3 a4 a5 a6 a7 x1 x3 x4 x5 x6 x7 fs Hh) (s : Same Hh H') : InSt K x dx H B d t1 t3 t4 t5 t6 t7 a1 a3 a4 a5 a6 a7 x1 x3 x4 x5 x6 x7 fs H' :=
  ⟨s _ _ i.at_, fun b o nb hb => s _ _ (i.but b o nb hb), i.ls.same s, s _ _ i.hd, i.h1.same s, i.h3.same s, i.h4.same s, i.h5.same s, i.h6.same s, i.h7.same s⟩
theorem InSt.put (i : InSt K x dx H B d t1 t3 t4 t5 t6 t7 a1 a3 a4 a5 a6 a7 x1 x3 x4 x5 x6 x7 fs Hh) : InSt K x dx H B d t1 t3 t4 t5 t6 t7 a1 a3 a4 a5 a6 a7 x1 x3 x4 x5 x6 x7 fs' (upd Hh x (.ins (BC K) dx fs')) := by
  have p : ∀ {c : Addr} {o : HO}, Hh c = some o → (∀ C dx fs, o ≠ .ins C dx fs) → (upd Hh x (.ins (BC K) dx fs')) c = some o := fun h no => put_keep i.at_ h no
  have t := put_tk (o' := .ins (BC K) dx fs') i.at_
  have k := put_tf (o' := .ins (BC K) dx fs') i.at_
  refine ⟨upd_same, fun b o nb hb => by rw [upd_ne nb]; exact i.but b o nb hb, ?_, p i.hd (fun _ _ _ z => by cases z), i.h1.tk k, i.h3.tk k, i.h4.tk k, i.h5.tk k, i.h6.tk k, i.h7.tk k⟩
  exact i.ls.go (fun b ys hb => p hb fun _ _ _ z => by cases z) t k
end
theorem nodup_kS {l : List (Str × Int)} (h : (l.map (·.1)).Nodup) : ((l.map kS).map (·.1)).Nodup := by
  rw [List.map_map]
  have e : l.map ((fun x : Key × V => x.1) ∘ kS) = (l.map (·.1)).map (Sum.inr : Str → Key) := by rw [List.map_map]; rfl
  rw [e]
  exact List.Pairwise.map Sum.inr (fun _ _ hne e => hne (Sum.inr.inj e)) h
theorem nodup_kI {l : List (Int × Int)} (h : (l.map (·.1)).Pairwise (· < ·)) : ((l.map kI).map (·.1)).Nodup := by
  rw [List.map_map]
  have e : l.map ((fun x : Key × V => x.1) ∘ kI) = (l.map (·.1)).map (Sum.inl : Int → Key) := by rw [List.map_map]; rfl
  rw [e]
  exact List.Pairwise.map Sum.inl (fun a b hne e => by have := Sum.inl.inj e; omega) h
section
variable {P : Program} {w : World} {K : PySem.W.Frag} {mg : Str → Option Value} {base : Heap}
theorem ok_init (Z : All K mg) {kws : List (Str × V)} {fd : FuncData} {f : Addr} (F : FunD K "__init__" "Book.__init__" (defArgs s_Book_init) (defBody s_Book_init) (defScope s_Book_init) [] kws f fd) :
    FnOk P w K mg base CX0 7 f fd ["self", "skills", "points", "needs", "wants", "bars", "gives", "prices", "reset"] (spInit K) := by
  have C_wrong_part : Cal P w K mg base CX0 6 "wrong_part" ["skills", "points", "needs", "wants", "bars", "gives", "prices", "reset"] (spWrong K) := cal_wrong_part Z
  refine FunD.ok F sc_Book_init (fun vs H Q E h => ?_) (fun cdv A outer s H vs Q E hr h => ?_)
  · obtain ⟨x, dx, B, a1, a3, a4, a5, a6, a7, x1, x3, x4, x5, x6, x7, rfl, _⟩ := h
    rfl
  · obtain ⟨x, dx, B, a1, a3, a4, a5, a6, a7, x1, x3, x4, x5, x6, x7, rfl, hx, ls, ok, k⟩ := h
    refine ⟨_, PSs.nox ((pss_cons (ps_set (i := 9) sc_Book_init.nd rfl (Or.inl rfl) (pe_cal C_wrong_part (hr.mono (by decide)) (by rfl) pass0 (pa_cons (pv 1) (pa_cons (pv 2) (pa_cons (pv 3) (pa_cons (pv 4) (pa_cons (pv 5) (pa_cons (pv 6) (pa_cons (pv 7) (pa_cons (pv 8) pa_nil))))))))))
      (pss_cons (ps_if (pt_cmpR op_notN (pv 9) pe_non (nomark _)) (pss_one ps_dead) pss_nil)
      (pss_cons (ps_fld (pv 0) (pe_disp (pps_cons pe_str (pe_callTy call_tupP (by rfl) Z.b_tuple PyProof.Rows.boot_tuple (pa_cons (pv 1) pa_nil)) (pps_cons pe_str (pv 2) (pps_cons pe_str (pe_callTy call_tupP (by rfl) Z.b_tuple PyProof.Rows.boot_tuple (pa_cons (pv 3) pa_nil)) (pps_cons pe_str (pe_callTy call_tupP (by rfl) Z.b_tuple PyProof.Rows.boot_tuple (pa_cons (pv 4) pa_nil)) (pps_cons pe_str (pe_callTy call_tupP (by rfl) Z.b_tuple PyProof.Rows.boot_tuple (pa_cons (pv 5) pa_nil)) (pps_cons pe_str (pe_callTy call_tupP (by rfl) Z.b_tuple PyProof.Rows.boot_tuple (pa_cons (pv 6) pa_nil)) (pps_cons pe_str (pe_callTy call_tupP (by rfl) Z.b_tuple PyProof.Rows.boot_tuple (pa_cons (pv 7) pa_nil)) (pps_cons pe_str (pv 8) pps_nil)))))))) (by rfl) (by rfl) (fun z => by cases z) (by decide)) rfl)
      (pss_cons (ps_fld (pv 0) (pe_callTy call_tuple_of (by rfl) Z.b_tuple PyProof.Rows.boot_tuple (pa_cons (pe_lc (own := [("name", 10), ("_", 11)]) (by rfl) sc_Book_init.nd (pi_seq (pv 1)) (blkOk_by (own := [("name", 10), ("_", 11)]) (N := ["self", "skills", "points", "needs", "wants", "bars", "gives", "prices", "reset", "part", "name", "_"]) (sc := defScope s_Book_init) (by decide +kernel)) (fun _ _ _ _ _ => (pg_tupK (K := K) (n := 2) rfl rfl (pgs_cons (pg_name (i := 10) sc_Book_init.nd rfl (Or.inl rfl)) (pgs_cons (pg_name (i := 11) sc_Book_init.nd rfl (Or.inl rfl)) pgs_nil)))) (fun _ _ _ _ _ => pts_nil) (fun _ _ _ _ _ => (pv 10))) pa_nil)) rfl)
      (pss_cons (ps_fld (pv 0) (pe_callTy (call_dictQ rfl) (by rfl) Z.b_dict PyProof.Rows.boot_dict (pa_cons (pv 1) pa_nil)) rfl)
      (pss_cons (ps_fld (pv 0) (pe_callTy (call_dictQ rfl) (by rfl) Z.b_dict PyProof.Rows.boot_dict (pa_cons (pv 3) pa_nil)) rfl)
      (pss_cons (ps_fld (pv 0) (pe_callTy (call_dictQ rfl) (by rfl) Z.b_dict PyProof.Rows.boot_dict (pa_cons (pv 6) pa_nil)) rfl)
      (pss_one (ps_fld (pv 0) (pe_callTy (call_dictQ rfl) (by rfl) Z.b_dict PyProof.Rows.boot_dict (pa_cons (pv 7) pa_nil)) rfl)))))))))), ?_⟩
    refine ⟨_, rfl, _, rfl, _, rfl, _, rfl, _, rfl, _, rfl, _, rfl, _, rfl, B, a1, a3, a4, a5, a6, a7, x1, x3, x4, x5, x6, x7, rfl, ls.parts, ok, fun H1 s1 => ⟨_, rfl, rfl, _, rfl, ifF (by decide) ?_⟩⟩
    have ls1 := ls.same s1
    have hx1 := s1 _ _ hx
    intro d nd_
    have sD := Same.new (o := .dK []) nd_
    have hD : (upd H1 d (.dK [])) d = some (.dK []) := upd_same
    have lsD := ls1.same sD
    generalize upd H1 d (.dK []) = HD at sD hD lsD ⊢
    refine ⟨_, rfl, a1, x1, rfl, lsD.l1, fun t1 HA sA hA => ?_⟩
    have lsA := lsD.same sA
    refine ⟨_, rfl, _, rfl, a3, x3, rfl, lsA.l3, fun t3 HB sB hB => ?_⟩
    have lsB := lsA.same sB
    refine ⟨_, rfl, a4, x4, rfl, lsB.l4, fun t4 HC sC hC => ?_⟩
    have lsC := lsB.same sC
    refine ⟨_, rfl, a5, x5, rfl, lsC.l5, fun t5 HE sE hE => ?_⟩
    have lsE := lsC.same sE
    refine ⟨_, rfl, a6, x6, rfl, lsE.l6, fun t6 HF sF hF => ?_⟩
    have lsF := lsE.same sF
    refine ⟨_, rfl, a7, x7, rfl, lsF.l7, fun t7 HG sG hG => ?_⟩
    have lsG := lsF.same sG
    have q7 : Same HF HG := sG
    have q6 : Same HE HG := sF.trans q7
    have q5 : Same HC HG := sE.trans q6
    have q4 : Same HB HG := sC.trans q5
    have q3 : Same HA HG := sB.trans q4
    have qD : Same HD HG := sA.trans q3
    refine ⟨_, rfl, qD _ _ hD, bkL t1 B.points t3 t4 t5 t6 t7 (oV B.reset), rfl, (by show 8 ≤ 15; decide), ?_⟩
    have em : mergeK [] (bkL t1 B.points t3 t4 t5 t6 t7 (oV B.reset)) = bkL t1 B.points t3 t4 t5 t6 t7 (oV B.reset) := rfl
    rw [em]
    have i0 : InSt K x dx H B d t1 t3 t4 t5 t6 t7 a1 a3 a4 a5 a6 a7 x1 x3 x4 x5 x6 x7 [] (upd HG d (.dK (bkL t1 B.points t3 t4 t5 t6 t7 (oV B.reset)))) := by
      have hdG := qD _ _ hD
      have sAll : Same H HG := (s1.trans sD).trans qD
      have pl : ∀ {c : Addr} {zs : List V}, HG c = some (.lst zs) → (upd HG d (.dK (bkL t1 B.points t3 t4 t5 t6 t7 (oV B.reset)))) c = some (.lst zs) := fun h => by
        rw [upd_ne (ne_of h hdG (fun z => by cases z))]
        exact h
      have pt : Tk HG (upd HG d (.dK (bkL t1 B.points t3 t4 t5 t6 t7 (oV B.reset)))) := Tk.dct hdG
      have pf : Tf HG (upd HG d (.dK (bkL t1 B.points t3 t4 t5 t6 t7 (oV B.reset)))) := fun b o xs hb => (upd_ne (ne_of hb hdG fun z => by cases z)).trans hb
      have nd1 : H1 d = none := nd_
      refine ⟨?_, fun b o nb hb => ?_, lsG.go (fun _ _ hb => pl hb) pt pf, upd_same, (hA.same q3).tk pf, (hB.same q4).tk pf, (hC.same q5).tk pf, (hE.same q6).tk pf, (hF.same q7).tk pf, hG.tk pf⟩
      · rw [upd_ne (ne_of_none hx1 nd1)]
        exact sAll _ _ hx
      · rw [upd_ne (ne_of_none (s1 _ _ hb) nd1)]
        exact sAll _ _ hb
    generalize upd HG d (.dK (bkL t1 B.points t3 t4 t5 t6 t7 (oV B.reset))) = H2 at i0 ⊢
    clear q7 q6 q5 q4 q3 qD sG sF sE sC sB sA hA hB hC hE hF hG hD lsA lsB lsC lsE lsF lsG lsD sD nd_ ls1 hx1 s1
    refine ⟨_, rfl, x, BC K, dx, [], rfl, i0.at_, Z.c_Book, Z.n_parts, by decide, ?_⟩
    have i1 : InSt K x dx H B d t1 t3 t4 t5 t6 t7 a1 a3 a4 a5 a6 a7 x1 x3 x4 x5 x6 x7 [("_parts", .ref d)] _ := i0.put
    show tSeq _ _ _ _ (upd H2 x (.ins (BC K) dx [("_parts", .ref d)]))
    generalize upd H2 x (.ins (BC K) dx [("_parts", .ref d)]) = H3 at i1 ⊢
    clear i0
    -- the names
    have xl : x1.length = B.sk.length := by rw [i1.ls.r1.len, List.length_map]
    have k12 := ok.sk.le
    refine ⟨_, rfl, a1, rfl, lc_seq i1.ls.l1.lt.sq (fun i => (B.sk.take i).map fun r => V.str r.1) rfl (fun D nD i y Hy hi' p => ?_) fun T H4 nT s4 at4 => ?_⟩
    · obtain ⟨r, tp, hr', rfl, htp⟩ := i1.ls.r1.at_ hi'
      refine ⟨tp, _, rfl, SqT.of (p.same _ _ htp), rfl, .str r.1, _, rfl, .int r.2, _, rfl, rfl, rfl, _, rfl, p.put nD (map_one _ hr') (take_line _ (m := 12) (by omega) (by decide))⟩
    have eT : H4 T = some (.lst (B.ns.map V.str)) := by
      rw [at4, xl, List.take_length, List.map_map]
      rfl
    refine ⟨T, _, rfl, .inl ⟨SqL.of eT, fun nm nnm => ?_⟩⟩
    have i2 := (i1.same s4).same (Same.new (o := .tup (B.ns.map V.str)) nnm)
    have hnm : (upd H4 nm (.tup (B.ns.map V.str))) nm = some (.tup (B.ns.map V.str)) := upd_same
    generalize upd H4 nm (.tup (B.ns.map V.str)) = H5 at i2 hnm ⊢
    clear i1 eT at4 s4 nT nnm
    refine ⟨_, rfl, x, BC K, dx, _, rfl, i2.at_, Z.c_Book, Z.n_names, (by show 1 < 1000; decide), ?_⟩
    have i3 := i2.put (fs' := [("_parts", .ref d), ("_names", .ref nm)])
    have hnm3 := put_keep (o' := .ins (BC K) dx [("_parts", .ref d), ("_names", .ref nm)]) i2.at_ hnm (fun _ _ _ z => by cases z)
    show tSeq _ _ _ _ (upd H5 x (.ins (BC K) dx [("_parts", .ref d), ("_names", .ref nm)]))
    generalize upd H5 x (.ins (BC K) dx [("_parts", .ref d), ("_names", .ref nm)]) = H6 at i3 hnm3 ⊢
    clear i2 hnm
    -- td
    obtain ⟨pstd, etd, prtd⟩ := pair_rows (K := K) (g := kS) (fun _ => rfl) i3.ls.r1
    refine ⟨_, rfl, a1, pstd, B.sk.map kS, rfl, (by rw [← etd]; exact i3.ls.l1), prtd, fun td ntd => ?_⟩
    rw [merge_nd (nodup_kS ok.sk.nd)]
    have utd := Same.new (o := .dK (B.sk.map kS)) ntd
    have htd : (upd H6 td (.dK (B.sk.map kS))) td = some (.dK (B.sk.map kS)) := upd_same
    have ktd := i3.same utd
    have hnm3q := utd _ _ hnm3
    generalize upd H6 td (.dK (B.sk.map kS)) = J0 at ktd htd hnm3q ⊢
    clear prtd etd utd ntd
    refine ⟨_, rfl, x, BC K, dx, _, rfl, ktd.at_, Z.c_Book, Z.n_tiers, (by show 2 < 1000; decide), ?_⟩
    have mtd := ktd.put (fs' := [("_parts", .ref d), ("_names", .ref nm), ("_tiers", .ref td)])
    have hnm3qm := put_keep (o' := .ins (BC K) dx [("_parts", .ref d), ("_names", .ref nm), ("_tiers", .ref td)]) ktd.at_ hnm3q (fun _ _ _ z => by cases z)
    have htdm := put_keep (o' := .ins (BC K) dx [("_parts", .ref d), ("_names", .ref nm), ("_tiers", .ref td)]) ktd.at_ htd (fun _ _ _ z => by cases z)
    show tSeq _ _ _ _ (upd J0 x (.ins (BC K) dx [("_parts", .ref d), ("_names", .ref nm), ("_tiers", .ref td)]))
    generalize upd J0 x (.ins (BC K) dx [("_parts", .ref d), ("_names", .ref nm), ("_tiers", .ref td)]) = L0 at mtd hnm3qm htdm ⊢
    clear ktd hnm3 hnm3q
    -- nb
    obtain ⟨psnb, enb, prnb⟩ := pair_rows (K := K) (g := kI) (fun _ => rfl) mtd.ls.r3
    refine ⟨_, rfl, a3, psnb, B.nd.map kI, rfl, (by rw [← enb]; exact mtd.ls.l3), prnb, fun nb nnb => ?_⟩
    rw [merge_nd (nodup_kI ok.na)]
    have unb := Same.new (o := .dK (B.nd.map kI)) nnb
    have hnb : (upd L0 nb (.dK (B.nd.map kI))) nb = some (.dK (B.nd.map kI)) := upd_same
    have knb := mtd.same unb
    have hnm3qmq := unb _ _ hnm3qm
    have htdmq := unb _ _ htdm
    generalize upd L0 nb (.dK (B.nd.map kI)) = J1 at knb hnb hnm3qmq htdmq ⊢
    clear prnb enb unb nnb
    refine ⟨_, rfl, x, BC K, dx, _, rfl, knb.at_, Z.c_Book, Z.n_need_by_tier, (by show 3 < 1000; decide), ?_⟩
    have mnb := knb.put (fs' := [("_parts", .ref d), ("_names", .ref nm), ("_tiers", .ref td), ("_need_by_tier", .ref nb)])
    have hnm3qmqm := put_keep (o' := .ins (BC K) dx [("_parts", .ref d), ("_names", .ref nm), ("_tiers", .ref td), ("_need_by_tier", .ref nb)]) knb.at_ hnm3qmq (fun _ _ _ z => by cases z)
    have htdmqm := put_keep (o' := .ins (BC K) dx [("_parts", .ref d), ("_names", .ref nm), ("_tiers", .ref td), ("_need_by_tier", .ref nb)]) knb.at_ htdmq (fun _ _ _ z => by cases z)
    have hnbm := put_keep (o' := .ins (BC K) dx [("_parts", .ref d), ("_names", .ref nm), ("_tiers", .ref td), ("_need_by_tier", .ref nb)]) knb.at_ hnb (fun _ _ _ z => by cases z)
    show tSeq _ _ _ _ (upd J1 x (.ins (BC K) dx [("_parts", .ref d), ("_names", .ref nm), ("_tiers", .ref td), ("_need_by_tier", .ref nb)]))
    generalize upd J1 x (.ins (BC K) dx [("_parts", .ref d), ("_names", .ref nm), ("_tiers", .ref td), ("_need_by_tier", .ref nb)]) = L1 at mnb hnm3qmqm htdmqm hnbm ⊢
    clear knb hnm3qm htdm hnm3qmq htdmq
    -- gb
    obtain ⟨psgb, egb, prgb⟩ := pair_rows (K := K) (g := kS) (fun _ => rfl) mnb.ls.r6
    refine ⟨_, rfl, a6, psgb, B.gives.map kS, rfl, (by rw [← egb]; exact mnb.ls.l6), prgb, fun gb ngb => ?_⟩
    rw [merge_nd (nodup_kS ok.gives.nd)]
    have ugb := Same.new (o := .dK (B.gives.map kS)) ngb
    have hgb : (upd L1 gb (.dK (B.gives.map kS))) gb = some (.dK (B.gives.map kS)) := upd_same
    have kgb := mnb.same ugb
    have hnm3qmqmq := ugb _ _ hnm3qmqm
    have htdmqmq := ugb _ _ htdmqm
    have hnbmq := ugb _ _ hnbm
    generalize upd L1 gb (.dK (B.gives.map kS)) = J2 at kgb hgb hnm3qmqmq htdmqmq hnbmq ⊢
    clear prgb egb ugb ngb
    refine ⟨_, rfl, x, BC K, dx, _, rfl, kgb.at_, Z.c_Book, Z.n_given_by_skill, (by show 4 < 1000; decide), ?_⟩
    have mgb := kgb.put (fs' := [("_parts", .ref d), ("_names", .ref nm), ("_tiers", .ref td), ("_need_by_tier", .ref nb), ("_given_by_skill", .ref gb)])
    have hnm3qmqmqm := put_keep (o' := .ins (BC K) dx [("_parts", .ref d), ("_names", .ref nm), ("_tiers", .ref td), ("_need_by_tier", .ref nb), ("_given_by_skill", .ref gb)]) kgb.at_ hnm3qmqmq (fun _ _ _ z => by cases z)
    have htdmqmqm := put_keep (o' := .ins (BC K) dx [("_parts", .ref d), ("_names", .ref nm), ("_tiers", .ref td), ("_need_by_tier", .ref nb), ("_given_by_skill", .ref gb)]) kgb.at_ htdmqmq (fun _ _ _ z => by cases z)
    have hnbmqm := put_keep (o' := .ins (BC K) dx [("_parts", .ref d), ("_names", .ref nm), ("_tiers", .ref td), ("_need_by_tier", .ref nb), ("_given_by_skill", .ref gb)]) kgb.at_ hnbmq (fun _ _ _ z => by cases z)
    have hgbm := put_keep (o' := .ins (BC K) dx [("_parts", .ref d), ("_names", .ref nm), ("_tiers", .ref td), ("_need_by_tier", .ref nb), ("_given_by_skill", .ref gb)]) kgb.at_ hgb (fun _ _ _ z => by cases z)
    have eput : (putF "_given_by_skill" (.ref gb) [("_parts", .ref d), ("_names", .ref nm), ("_tiers", .ref td), ("_need_by_tier", .ref nb)] : List (Str × V)) = ([("_parts", .ref d), ("_names", .ref nm), ("_tiers", .ref td), ("_need_by_tier", .ref nb), ("_given_by_skill", .ref gb)] : List (Str × V)) := rfl
    rw [eput]
    generalize upd J2 x (.ins (BC K) dx [("_parts", .ref d), ("_names", .ref nm), ("_tiers", .ref td), ("_need_by_tier", .ref nb), ("_given_by_skill", .ref gb)]) = L2 at mgb hnm3qmqmqm htdmqmqm hnbmqm hgbm ⊢
    clear kgb hnm3qmqm htdmqm hnbm hnm3qmqmq htdmqmq hnbmq
    -- pb
    obtain ⟨pspb, epb, prpb⟩ := pair_rows (K := K) (g := kS) (fun _ => rfl) mgb.ls.r7
    refine ⟨_, rfl, a7, pspb, B.prices.map kS, rfl, (by rw [← epb]; exact mgb.ls.l7), prpb, fun pb npb => ?_⟩
    rw [merge_nd (nodup_kS ok.prices.nd)]
    have upb := Same.new (o := .dK (B.prices.map kS)) npb
    have hpb : (upd L2 pb (.dK (B.prices.map kS))) pb = some (.dK (B.prices.map kS)) := upd_same
    have kpb := mgb.same upb
    have hnm3qmqmqmq := upb _ _ hnm3qmqmqm
    have htdmqmqmq := upb _ _ htdmqmqm
    have hnbmqmq := upb _ _ hnbmqm
    have hgbmq := upb _ _ hgbm
    generalize upd L2 pb (.dK (B.prices.map kS)) = J3 at kpb hpb hnm3qmqmqmq htdmqmqmq hnbmqmq hgbmq ⊢
    clear prpb epb upb npb
    refine ⟨_, rfl, x, BC K, dx, _, rfl, kpb.at_, Z.c_Book, Z.n_price_by_skill, (by show 5 < 1000; decide), ?_⟩
    have mpb := kpb.put (fs' := [("_parts", .ref d), ("_names", .ref nm), ("_tiers", .ref td), ("_need_by_tier", .ref nb), ("_given_by_skill", .ref gb), ("_price_by_skill", .ref pb)])
    have hnm3qmqmqmqm := put_keep (o' := .ins (BC K) dx [("_parts", .ref d), ("_names", .ref nm), ("_tiers", .ref td), ("_need_by_tier", .ref nb), ("_given_by_skill", .ref gb), ("_price_by_skill", .ref pb)]) kpb.at_ hnm3qmqmqmq (fun _ _ _ z => by cases z)
    have htdmqmqmqm := put_keep (o' := .ins (BC K) dx [("_parts", .ref d), ("_names", .ref nm), ("_tiers", .ref td), ("_need_by_tier", .ref nb), ("_given_by_skill", .ref gb), ("_price_by_skill", .ref pb)]) kpb.at_ htdmqmqmq (fun _ _ _ z => by cases z)
    have hnbmqmqm := put_keep (o' := .ins (BC K) dx [("_parts", .ref d), ("_names", .ref nm), ("_tiers", .ref td), ("_need_by_tier", .ref nb), ("_given_by_skill", .ref gb), ("_price_by_skill", .ref pb)]) kpb.at_ hnbmqmq (fun _ _ _ z => by cases z)
    have hgbmqm := put_keep (o' := .ins (BC K) dx [("_parts", .ref d), ("_names", .ref nm), ("_tiers", .ref td), ("_need_by_tier", .ref nb), ("_given_by_skill", .ref gb), ("_price_by_skill", .ref pb)]) kpb.at_ hgbmq (fun _ _ _ z => by cases z)
    have hpbm := put_keep (o' := .ins (BC K) dx [("_parts", .ref d), ("_names", .ref nm), ("_tiers", .ref td), ("_need_by_tier", .ref nb), ("_given_by_skill", .ref gb), ("_price_by_skill", .ref pb)]) kpb.at_ hpb (fun _ _ _ z => by cases z)
    refine k _ ⟨dx, d, nm, td, nb, gb, pb, t1, t3, t4, t5, t6, t7, x1, x3, x4, x5, x6, x7⟩ mpb.but rfl ?_
    exact ⟨mpb.at_, mpb.hd, mpb.h1, mpb.h3, mpb.h4, mpb.h5, mpb.h6, mpb.h7, mpb.ls.r1, mpb.ls.r3, mpb.ls.r4, mpb.ls.r5, mpb.ls.r6, mpb.ls.r7, hnm3qmqmqmqm, htdmqmqmqm, hnbmqmqm, hgbmqm, hpbm⟩
end
end Rt
end
section
set_option Elab.async false
set_option linter.all false
set_option maxRecDepth 100000
set_option maxHeartbeats 8000000
/-! the laws make a book -/
namespace Rt
open PySem PySem.Spec PyProof.Rows L2
abbrev initPs : List Str := ["self", "skills", "points", "needs", "wants", "bars", "gives", "prices", "reset"]
abbrev initKs : List Str := ["needs", "wants", "bars", "gives", "prices", "reset"]
/-- all that is no list stands -/
def Fx (H H' : Hp) : Prop := ∀ b o, H b = some o → (∀ xs, o ≠ .lst xs) → H' b = some o
theorem BookAt.fx {K : PySem.W.Frag} {H H' : Hp} {x : Addr} {B : Bk} {a : BoA} (h : BookAt K H x B a) (s : Fx H H') : BookAt K H' x B a := by
  have t : Tk H H' := fun b xs hb => s b _ hb fun _ z => by cases z
  have f : Tf H H' := fun b o xs hb => s b _ hb fun _ z => by cases z
  exact ⟨s _ _ h.at_ (fun _ z => by cases z), s _ _ h.parts (fun _ z => by cases z), h.h1.tk f, h.h3.tk f, h.h4.tk f, h.h5.tk f, h.h6.tk f, h.h7.tk f, h.r1.tk t, h.r3.tk t, h.r4.tk t, h.r5.tk t, h.r6.tk t, h.r7.tk t, t _ _ h.names, s _ _ h.tiers (fun _ z => by cases z), s _ _ h.needs (fun _ z => by cases z), s _ _ h.given (fun _ z => by cases z), s _ _ h.price (fun _ z => by cases z)⟩
def rListOf (K : PySem.W.Frag) : List V → Hp → VK → Prop := fun xs H Q => ∃ p ys, xs = [.ref p] ∧ (SqL K H p ys ∨ SqT K H p ys) ∧ ∀ l, H l = none → Q (.ref l) (upd H l (.lst ys))
theorem call_listOf {X : Cx} : CallR X (.type "list") (rListOf X.K) := call_list_of
section
variable {P : Program} {w : World} {K : PySem.W.Frag} {mg : Str → Option Value} {base : Heap}
theorem mk_book (Z : All K mg) : ∃ fd, FnOk P w K mg base CX0 7 (He.ma K (BC K) "__init__") fd initPs (spInit K) ∧ KBn K fd initPs 3 initKs (fun us ws => us ++ ws) (fun vs zs => vs ++ zs) := by
  obtain ⟨fd, F⟩ := Z.f_Book_init
  obtain ⟨mv, kb⟩ := F.kbinds0 (ps := initPs) 3 initKs [] (fun us _ ws => us ++ ws) (by intro e; cases e) (fun q hq => nomatch hq) (fun r1 _ r3 => r1.append r3) (fun D doc pm an cdv ct us mv ws l1 l2 l3 => by
    match us, ws, l1, l3 with
    | [_, _, _], [_, _, _, _, _, _], _, _ => rfl)
  exact ⟨fd, ok_init Z F, kb⟩
theorem Same.made {H H' : Hp} {x dx : Addr} {C : Addr} (nx : H x = none) (nd : H dx = none) (ne : dx ≠ x) (b : But x (upd (upd H dx (.own x)) x (.ins C dx [])) H') : Same H H' := fun c o hc => by
  have n1 := ne_of_none hc nx
  refine b c o n1 ?_
  rw [upd_ne n1, upd_ne (ne_of_none hc nd)]
  exact hc
theorem ListsAt.made {H : Hp} {x dx : Addr} {C : Addr} (nx : H x = none) (nd : H dx = none) {B : Bk} {a1 a3 a4 a5 a6 a7 : Addr} {x1 x3 x4 x5 x6 x7 : List V} (h : ListsAt H B a1 a3 a4 a5 a6 a7 x1 x3 x4 x5 x6 x7) : ListsAt (upd (upd H dx (.own x)) x (.ins C dx [])) B a1 a3 a4 a5 a6 a7 x1 x3 x4 x5 x6 x7 :=
  h.same fun c o hc => by
    rw [upd_ne (ne_of_none hc nx), upd_ne (ne_of_none hc nd)]
    exact hc
theorem BkAt.lists {H : Hp} {d : Addr} {B : Bk} (h : BkAt H d B) : ∃ a1 a3 a4 a5 a6 a7 x1 x3 x4 x5 x6 x7, H d = some (.dK (bkL a1 B.points a3 a4 a5 a6 a7 (oV B.reset))) ∧ ListsAt H B a1 a3 a4 a5 a6 a7 x1 x3 x4 x5 x6 x7 := by
  obtain ⟨a1, a3, a4, a5, a6, a7, hd, ⟨x1, l1, r1⟩, ⟨x3, l3, r3⟩, ⟨x4, l4, r4⟩, ⟨x5, l5, r5⟩, ⟨x6, l6, r6⟩, ⟨x7, l7, r7⟩⟩ := h.at_
  exact ⟨a1, a3, a4, a5, a6, a7, x1, x3, x4, x5, x6, x7, hd, l1, r1, l3, r3, l4, r4, l5, r5, l6, r6, l7, r7⟩
/-- the book's dict, its keys in any order -/
structure BkW (H : Hp) (d : Addr) (B : Bk) : Prop where
  at_ : ∃ kvs a1 a3 a4 a5 a6 a7, H d = some (.dK kvs) ∧ (valV kvs (.inr "skills") = some (.ref a1) ∧ valV kvs (.inr "points") = some (.int B.points) ∧ valV kvs (.inr "needs") = some (.ref a3) ∧ valV kvs (.inr "wants") = some (.ref a4) ∧ valV kvs (.inr "bars") = some (.ref a5) ∧ valV kvs (.inr "gives") = some (.ref a6) ∧ valV kvs (.inr "prices") = some (.ref a7) ∧ valV kvs (.inr "reset") = some (oV B.reset)) ∧
    LR H a1 (B.sk.map rS) ∧ LR H a3 (B.nd.map rI2) ∧ LW H a4 B.wl ∧ LR H a5 (B.bars.map rB) ∧ LR H a6 (B.gives.map rS) ∧ LR H a7 (B.prices.map rS)
theorem BkAt.wk {H : Hp} {d : Addr} {B : Bk} (h : BkAt H d B) : BkW H d B := by
  obtain ⟨a1, a3, a4, a5, a6, a7, hd, r⟩ := h.at_
  exact ⟨_, a1, a3, a4, a5, a6, a7, hd, ⟨rfl, rfl, rfl, rfl, rfl, rfl, rfl, rfl⟩, r⟩
theorem BkW.lists {H : Hp} {d : Addr} {B : Bk} (h : BkW H d B) : ∃ kvs a1 a3 a4 a5 a6 a7 x1 x3 x4 x5 x6 x7, H d = some (.dK kvs) ∧ (valV kvs (.inr "skills") = some (.ref a1) ∧ valV kvs (.inr "points") = some (.int B.points) ∧ valV kvs (.inr "needs") = some (.ref a3) ∧ valV kvs (.inr "wants") = some (.ref a4) ∧ valV kvs (.inr "bars") = some (.ref a5) ∧ valV kvs (.inr "gives") = some (.ref a6) ∧ valV kvs (.inr "prices") = some (.ref a7) ∧ valV kvs (.inr "reset") = some (oV B.reset)) ∧ ListsAt H B a1 a3 a4 a5 a6 a7 x1 x3 x4 x5 x6 x7 := by
  obtain ⟨kvs, a1, a3, a4, a5, a6, a7, hd, vs, ⟨x1, l1, r1⟩, ⟨x3, l3, r3⟩, ⟨x4, l4, r4⟩, ⟨x5, l5, r5⟩, ⟨x6, l6, r6⟩, ⟨x7, l7, r7⟩⟩ := h.at_
  exact ⟨kvs, a1, a3, a4, a5, a6, a7, x1, x3, x4, x5, x6, x7, hd, vs, l1, r1, l3, r3, l4, r4, l5, r5, l6, r6, l7, r7⟩
theorem dget_of {H : Hp} {d : Addr} {kvs : List (Key × V)} {z : Str} {v : V} (hd : H d = some (.dK kvs)) (e : valV kvs (.inr z) = some v) : DGet H d (.str z) (some v) := e ▸ DGet.k (k := .inr z) hd
def spMadeW (K : PySem.W.Frag) : Sp := fun vs H Q _ => ∃ (d : Addr) (B : Bk), vs = [.ref d] ∧ BkW H d B ∧ BkR B ∧ ∀ (x : Addr) (a : BoA) (H' : Hp), H x = none → Same H H' → BookAt K H' x B a → Q (.ref x) H'
def spMade (K : PySem.W.Frag) : Sp := fun vs H Q _ => ∃ (d : Addr) (B : Bk), vs = [.ref d] ∧ BkAt H d B ∧ BkR B ∧ ∀ (x : Addr) (a : BoA) (H' : Hp), H x = none → Same H H' → BookAt K H' x B a → Q (.ref x) H'
theorem cal_law_madeW (Z : All K mg) : Cal P w K mg base CX0 9 "_law_made" ["_law_book_here"] (spMadeW K) := by
  obtain ⟨fd, F⟩ := Z.f_law_made
  obtain ⟨fi, FI, KI⟩ := mk_book (P := P) (w := w) (base := base) Z
  refine .of ⟨fd, F, ok0 F sc_law_made (fun vs H Q E h => ?_) (fun cdv A outer s H vs Q E hr h => ?_)⟩ Z.g_law_made (fun _ _ _ _ _ _ us hl => match us, hl with | [_], _ => rfl)
  · obtain ⟨d, B, rfl, _⟩ := h
    rfl
  · obtain ⟨d, B, rfl, bk, ok, k⟩ := h
    obtain ⟨kvs, a1, a3, a4, a5, a6, a7, x1, x3, x4, x5, x6, x7, hd, ⟨v1, v2, v3, v4, v5, v6, v7, v8⟩, ls⟩ := bk.lists
    refine ⟨_, (pss_one (ps_ret (pe_makeK Z.k_Book FI (hr.mono (by decide)) (by rfl) Z.g_Book KI pass0 (pa_cons (pe_dget (hu_of hr) (pv 0) pe_str (fun _ _ => rfl)) (pa_cons (pe_dget (hu_of hr) (pv 0) pe_str (fun _ _ => rfl)) pa_nil)) (pk_cons (pe_dget (hu_of hr) (pv 0) pe_str (fun _ _ => rfl)) (pk_cons (pe_dget (hu_of hr) (pv 0) pe_str (fun _ _ => rfl)) (pk_cons (pe_dget (hu_of hr) (pv 0) pe_str (fun _ _ => rfl)) (pk_cons (pe_dget (hu_of hr) (pv 0) pe_str (fun _ _ => rfl)) (pk_cons (pe_dget (hu_of hr) (pv 0) pe_str (fun _ _ => rfl)) (pk_cons (pe_dget (hu_of hr) (pv 0) pe_str (fun _ _ => rfl)) pk_nil))))))))), ?_⟩
    refine ⟨_, rfl, d, .ref a1, rfl, dget_of hd v1, _, rfl, d, .int B.points, rfl, dget_of hd v2, ?_⟩
    refine ⟨_, rfl, d, .ref a3, rfl, dget_of hd v3, _, rfl, d, .ref a4, rfl, dget_of hd v4, _, rfl, d, .ref a5, rfl, dget_of hd v5, _, rfl, d, .ref a6, rfl, dget_of hd v6, _, rfl, d, .ref a7, rfl, dget_of hd v7, _, rfl, d, oV B.reset, rfl, dget_of hd v8, ?_⟩
    refine ⟨rfl, rfl, fun x dx nx ndx ne => ?_⟩
    refine ⟨x, dx, B, a1, a3, a4, a5, a6, a7, x1, x3, x4, x5, x6, x7, rfl, upd_same, (ls.made nx ndx).args, ok, fun H' a but _ b => ⟨rfl, k x a H' nx (Same.made nx ndx ne but) b⟩⟩
theorem cal_law_made (Z : All K mg) : Cal P w K mg base CX0 9 "_law_made" ["_law_book_here"] (spMade K) :=
  (cal_law_madeW Z).imp fun _ _ _ _ ⟨d, B, e, bk, k⟩ => ⟨d, B, e, bk.wk, k⟩
end
end Rt
end
section
set_option Elab.async false
set_option linter.all false
set_option maxRecDepth 100000
set_option maxHeartbeats 8000000
/-! the laws' small questions -/
namespace Rt
open PySem PySem.Spec PyProof.Rows L2
def lookS (l : List (Str × Int)) (z : Str) (o : Int) : Int := match l.find? fun r => decide (r.1 = z) with
  | some r => r.2
  | none => o
def lookI (l : List (Int × Int)) (t o : Int) : Int := match l.find? fun r => decide (r.1 = t) with
  | some r => r.2
  | none => o
theorem val_kS : ∀ (l : List (Str × Int)) (z : Str) (o : Int), (valV (l.map kS) (.inr z)).getD (.int o) = .int (lookS l z o)
  | [], _, _ => rfl
  | r :: l, z, o => by
    by_cases h : r.1 = z
    · rw [List.map_cons, valV_pos (by show (Sum.inr r.1 : Key) = .inr z; rw [h])]
      unfold lookS
      rw [List.find?_cons_of_pos (by exact decide_eq_true h)]
      rfl
    · rw [List.map_cons, valV_neg (by intro e; exact h (Sum.inr.inj e)), val_kS l z o]
      unfold lookS
      rw [List.find?_cons_of_neg (by rw [decide_eq_false h]; decide)]
theorem val_kI : ∀ (l : List (Int × Int)) (t o : Int), (valV (l.map kI) (.inl t)).getD (.int o) = .int (lookI l t o)
  | [], _, _ => rfl
  | r :: l, t, o => by
    by_cases h : r.1 = t
    · rw [List.map_cons, valV_pos (by show (Sum.inl r.1 : Key) = .inl t; rw [h])]
      unfold lookI
      rw [List.find?_cons_of_pos (by exact decide_eq_true h)]
      rfl
    · rw [List.map_cons, valV_neg (by intro e; exact h (Sum.inl.inj e)), val_kI l t o]
      unfold lookI
      rw [List.find?_cons_of_neg (by rw [decide_eq_false h]; decide)]
def spNamesW : Sp := fun vs H Q _ => ∃ (d : Addr) (B : Bk), vs = [.ref d] ∧ BkW H d B ∧ B.sk.length ≤ 60 ∧ ∀ (l : Addr) (H' : Hp), H l = none → Same H H' → H' l = some (.lst (B.ns.map V.str)) → Q (.ref l) H'
def spNamesOf : Sp := fun vs H Q _ => ∃ (d : Addr) (B : Bk), vs = [.ref d] ∧ BkAt H d B ∧ B.sk.length ≤ 60 ∧ ∀ (l : Addr) (H' : Hp), H l = none → Same H H' → H' l = some (.lst (B.ns.map V.str)) → Q (.ref l) H'
def spNeedOf : Sp := fun vs H Q _ => ∃ (d : Addr) (B : Bk) (t : Int), vs = [.ref d, .int t] ∧ BkAt H d B ∧ (B.nd.map (·.1)).Pairwise (· < ·) ∧ ∀ H', Same H H' → Q (.int (lookI B.nd t 0)) H'
def spPriceOf : Sp := fun vs H Q _ => ∃ (d : Addr) (B : Bk) (z : Str), vs = [.ref d, .str z] ∧ BkAt H d B ∧ (B.prices.map (·.1)).Nodup ∧ ∀ H', Same H H' → Q (.int (lookS B.prices z 1)) H'
section
variable {P : Program} {w : World} {K : PySem.W.Frag} {mg : Str → Option Value} {base : Heap}
theorem cal_law_namesW (Z : All K mg) : Cal P w K mg base CX0 1 "_law_names" ["_law_book_here"] spNamesW := by
  obtain ⟨fd, F⟩ := Z.f_law_names
  refine .of ⟨fd, F, ok0 F sc_law_names (fun vs H Q E h => ?_) (fun cdv A outer s H vs Q E hr h => ?_)⟩ Z.g_law_names (fun _ _ _ _ _ _ us hl => match us, hl with | [_], _ => rfl)
  · obtain ⟨d, B, rfl, _⟩ := h
    rfl
  · obtain ⟨d, B, rfl, bk, l60, k⟩ := h
    obtain ⟨kvs, a1, a3, a4, a5, a6, a7, x1, x3, x4, x5, x6, x7, hd, ⟨v1, _⟩, ls⟩ := bk.lists
    have xl : x1.length = B.sk.length := by rw [ls.r1.len, List.length_map]
    refine ⟨_, (pss_one (ps_ret (pe_lc (own := [("_law_row", 1)]) (by rfl) sc_law_names.nd (pi_seq (pe_dget (hu_of hr) (pv 0) pe_str (fun _ _ => rfl))) (blkOk_by (own := [("_law_row", 1)]) (N := ["_law_book_here", "_law_row"]) (sc := defScope s_law_names) (by decide +kernel)) (fun _ _ _ _ _ => (pg_name (i := 1) sc_law_names.nd rfl (Or.inl rfl))) (fun _ _ _ _ _ => pts_nil) (fun _ _ _ _ _ => (pe_ix (show IxR _ (rIxT K) from ix_tup) (pv 1) pe_int (fun _ _ => rfl)))))), ?_⟩
    refine ⟨_, rfl, d, .ref a1, rfl, dget_of hd v1, a1, rfl, lc_seq (.inl (SqL.of ls.l1)) (fun i => (B.sk.take i).map fun r => V.str r.1) rfl (fun D nD i y Hy hi' p => ?_) fun T H4 nT s4 at4 => ?_⟩
    · obtain ⟨r, tp, hr', rfl, htp⟩ := ls.r1.at_ hi'
      refine ⟨rfl, _, rfl, tp, _, 0, _, rfl, rfl, SqT.of (p.same _ _ htp), rfl, p.put nD (map_one _ hr') (take_line _ (m := 60) l60 (by decide))⟩
    exact k T H4 nT s4 (by rw [at4, xl, List.take_length, List.map_map]; rfl)
theorem cal_law_names (Z : All K mg) : Cal P w K mg base CX0 1 "_law_names" ["_law_book_here"] spNamesOf :=
  (cal_law_namesW Z).imp fun _ _ _ _ ⟨d, B, e, bk, k⟩ => ⟨d, B, e, bk.wk, k⟩
end
end Rt
end
section
set_option Elab.async false
set_option linter.all false
set_option maxRecDepth 100000
set_option maxHeartbeats 8000000
/-! what the laws tell of a build by the document: tiers, wants, bars, points -/
namespace Rt
open PySem PySem.Spec PyProof.Rows L2
def inB (b : List Str) (z : Str) : Bool := decide (z ∈ b)
def tierOf (B : Bk) (z : Str) : Int := lookS B.sk z 0
def wantMany (w : Want) : Int := if w.kind = "all" then ((w.names.length : Nat) : Int) else if w.kind = "any" then 1 else w.many.getD 0
def rowMet (b : List Str) (w : Want) : Bool := decide (wantMany w ≤ (((w.names.filter (inB b)).length : Nat) : Int))
def belowN (B : Bk) (b : List Str) (z : Str) : Nat := (b.filter fun y => decide (tierOf B y < tierOf B z)).length
def tierMet (B : Bk) (b : List Str) (z : Str) : Bool := !decide (((belowN B b z : Nat) : Int) < lookI B.nd (tierOf B z) 0)
def wantsMet (B : Bk) (b : List Str) (z : Str) : Bool := B.wl.all fun w => !(decide (w.skill = z) && !rowMet b w)
def metB (B : Bk) (b : List Str) (z : Str) : Bool := tierMet B b z && wantsMet B b z
def givenB (B : Bk) (b : List Str) : List Int := (B.gives.filter fun g => inB b g.1).map (·.2)
def sizeLet (B : Bk) (b : List Str) : Int := B.points + (givenB B b).sum
def barOn (b : List Str) (r : Str × Str) : Bool := inB b r.1 && inB b r.2
def holdsB (B : Bk) (b : List Str) : Bool := !decide (sizeLet B b < ((b.length : Nat) : Int)) && (!(B.bars.any (barOn b)) && b.all (metB B b))
/-- what is asked of a build: its skills are of the book -/
structure BdOk (B : Bk) (b : List Str) : Prop where
  in_ : ∀ z ∈ b, z ∈ B.ns
  le : b.length ≤ 60
theorem find_filter {α : Type} (p : α → Bool) : ∀ l : List α, (l.filter p)[0]? = l.find? p
  | [] => rfl
  | x :: l => by
    by_cases h : p x = true
    · rw [List.filter_cons_of_pos h, List.find?_cons_of_pos h]
      rfl
    · rw [List.filter_cons_of_neg h, List.find?_cons_of_neg h, find_filter p l]
theorem look_first {l : List (Str × Int)} {z : Str} (h : z ∈ l.map (·.1)) : (((l.filter fun r => decide (r.1 = z)).map fun r => V.int r.2))[0]? = some (.int (lookS l z 0)) := by
  rw [List.getElem?_map, find_filter]
  unfold lookS
  cases e : l.find? fun r => decide (r.1 = z) with
  | some r => rfl
  | none =>
    obtain ⟨r, hr, rfl⟩ := List.mem_map.mp h
    exact absurd (List.find?_eq_none.mp e r hr) (by simp)
def spTierOf : Sp := fun vs H Q _ => ∃ (d : Addr) (B : Bk) (z : Str), vs = [.ref d, .str z] ∧ BkAt H d B ∧ B.sk.length ≤ 60 ∧ z ∈ B.ns ∧ ∀ H', Same H H' → Q (.int (tierOf B z)) H'
def spRowMet (K : PySem.W.Frag) : Sp := fun vs H Q _ => ∃ (x : V) (w : Want) (a : Addr) (b ns : List Str), vs = [x, .ref a] ∧ Ww H x w ∧ Sq K H a (b.map V.str) ∧ WantR ns w ∧ w.names.length ≤ 60 ∧ ∀ H', Same H H' → Q (.bl (rowMet b w)) H'
section
variable {P : Program} {w : World} {K : PySem.W.Frag} {mg : Str → Option Value} {base : Heap}
end
end Rt
end
section
set_option Elab.async false
set_option linter.all false
set_option maxRecDepth 100000
set_option maxHeartbeats 4000000
/-! small data: what == tells of lists and tuples of them -/
namespace Rt
open PySem PySem.Spec PyProof.Rows L2
def Sm (d : PyData) : Prop := PyData.canLay0 d = true ∧ PyData.depth d ≤ 20
def Dsm (K : PySem.W.Frag) (H : Hp) (x : V) : Prop := ∃ d, Dp K H x d ∧ Sm d
theorem sm_all : ∀ {ds : List PyData}, (∀ d ∈ ds, Sm d) → PyData.canLayAll0 ds = true ∧ PyData.depthAll ds ≤ 20
  | [], _ => ⟨by simp [PyData.canLayAll0], by simp [PyData.depthAll]⟩
  | d :: ds, h => by
    obtain ⟨h1, h2⟩ := sm_all (ds := ds) fun y hy => h y (List.mem_cons_of_mem _ hy)
    obtain ⟨h3, h4⟩ := h d List.mem_cons_self
    refine ⟨by simp [PyData.canLayAll0, h3, h1], ?_⟩
    simp only [PyData.depthAll]
    omega
theorem shaped_of {d : PyData} (h1 : PyData.canLay0 d = true) (h2 : PyData.depth d ≤ 64) : SeqAt.shaped d = true := by
  show (PyData.canLay0 d && decide (PyData.depth d ≤ 64)) = true
  rw [h1, decide_eq_true h2]
  rfl
theorem Sm.shaped {d : PyData} (h : Sm d) : SeqAt.shaped d = true := shaped_of h.1 (by have := h.2; omega)
theorem shaped_lst {ds : List PyData} (h : ∀ d ∈ ds, Sm d) : SeqAt.shaped (.list ds) = true := by
  obtain ⟨h1, h2⟩ := sm_all h
  refine shaped_of (by simp only [PyData.canLay0]; exact h1) ?_
  simp only [PyData.depth]
  omega
theorem shaped_tup {ds : List PyData} (h : ∀ d ∈ ds, Sm d) : SeqAt.shaped (.tuple ds) = true := by
  obtain ⟨h1, h2⟩ := sm_all h
  refine shaped_of (by simp only [PyData.canLay0]; exact h1) ?_
  simp only [PyData.depth]
  omega
theorem dpAll_sm {K : PySem.W.Frag} {H : Hp} : ∀ {xs : List V}, (∀ x ∈ xs, Dsm K H x) → ∃ ds, DpAll K H xs ds ∧ ds.length = xs.length ∧ ∀ d ∈ ds, Sm d
  | [], _ => ⟨[], .nil, rfl, fun _ h => absurd h (by simp)⟩
  | x :: xs, h => by
    obtain ⟨ds, h1, h2, h3⟩ := dpAll_sm (xs := xs) fun y hy => h y (List.mem_cons_of_mem _ hy)
    obtain ⟨d, h4, h5⟩ := h x List.mem_cons_self
    refine ⟨d :: ds, .cons h4 h1, by rw [List.length_cons, List.length_cons, h2], fun e he => ?_⟩
    rcases List.mem_cons.mp he with rfl | he
    · exact h5
    · exact h3 e he
theorem eqv_nilL : ∀ ds : List PyData, PyData.eqv (.list ds) (.list []) = ds.isEmpty
  | [] => by simp [PyData.eqv, PyData.eqvAll]
  | d :: ds => by simp [PyData.eqv, PyData.eqvAll]
mutual
theorem eqv_rfl : ∀ d : PyData, PyData.canLay0 d = true → PyData.eqv d d = true
  | .none, _ => by simp [PyData.eqv]
  | .bool b, _ => by simp [PyData.eqv]
  | .int i, _ => by simp [PyData.eqv]
  | .str x, _ => by simp [PyData.eqv]
  | .list xs, h => by
    simp only [PyData.eqv]
    exact eqv_rflAll xs (by simpa only [PyData.canLay0] using h)
  | .tuple xs, h => by
    simp only [PyData.eqv]
    exact eqv_rflAll xs (by simpa only [PyData.canLay0] using h)
  | .dict _, h => by simp [PyData.canLay0] at h
theorem eqv_rflAll : ∀ ds : List PyData, PyData.canLayAll0 ds = true → PyData.eqvAll ds ds = true
  | [], _ => by simp [PyData.eqvAll]
  | d :: ds, h => by
    have h' : PyData.canLay0 d = true ∧ PyData.canLayAll0 ds = true := by simpa [PyData.canLayAll0] using h
    simp [PyData.eqvAll, eqv_rfl d h'.1, eqv_rflAll ds h'.2]
end
theorem sm_str {z : Str} (h : PyData.strOk z = true) : Sm (.str z) := ⟨by simp [PyData.canLay0, h], by simp [PyData.depth]⟩
theorem sm_int (i : Int) : Sm (.int i) := ⟨by simp [PyData.canLay0], by simp [PyData.depth]⟩
def rEqE (K : PySem.W.Frag) : R2 := fun x y H Q => ∃ a xs b, x = .ref a ∧ y = .ref b ∧ SqL K H a xs ∧ SqL K H b [] ∧ (∀ x ∈ xs, Dsm K H x) ∧ Q (.bl xs.isEmpty) H
def rNeE (K : PySem.W.Frag) : R2 := fun x y H Q => ∃ a xs b, x = .ref a ∧ y = .ref b ∧ SqL K H a xs ∧ SqL K H b [] ∧ (∀ x ∈ xs, Dsm K H x) ∧ Q (.bl (!xs.isEmpty)) H
theorem emp_same {α β : Type} {xs : List α} {ds : List β} (h : ds.length = xs.length) : ds.isEmpty = xs.isEmpty := by
  cases ds <;> cases xs <;> simp_all
section
variable {X : Cx}
theorem op_eqE (hu : X.A.units + 64 < cLine) : OpR X (compareOp .Eq) (rEqE X.K) := by
  intro pins s σ H x y v u Q I rx ry h
  obtain ⟨a, xs, b, rfl, rfl, ha, hb, sm, q⟩ := h
  obtain ⟨ds, d1, d2, d3⟩ := dpAll_sm sm
  refine op_eqD hu pins s σ H _ _ v u Q I rx ry ⟨.list ds, .list [], .lst ha d1, .lst hb .nil, shaped_lst d3, by rfl, ?_⟩
  rw [eqv_nilL, emp_same d2]
  exact q
theorem op_neE (hu : X.A.units + 64 < cLine) : OpR X (compareOp .NotEq) (rNeE X.K) := by
  intro pins s σ H x y v u Q I rx ry h
  obtain ⟨a, xs, b, rfl, rfl, ha, hb, sm, q⟩ := h
  obtain ⟨ds, d1, d2, d3⟩ := dpAll_sm sm
  refine op_neD hu pins s σ H _ _ v u Q I rx ry ⟨.list ds, .list [], .lst ha d1, .lst hb .nil, shaped_lst d3, by rfl, ?_⟩
  rw [eqv_nilL, emp_same d2]
  exact q
end
end Rt
end
section
set_option Elab.async false
set_option linter.all false
set_option maxRecDepth 100000
set_option maxHeartbeats 8000000
/-! what the laws tell of a build by the document: met, points, holding -/
namespace Rt
open PySem PySem.Spec PyProof.Rows L2
theorem LR.ext {H H' : Hp} {a : Addr} {rows : List (List V)} (h : LR H a rows) (s : Same H H') : LR H' a rows := let ⟨xs, e, r⟩ := h; ⟨xs, s _ _ e, r.tk (Tk.of s)⟩
theorem LW.ext {H H' : Hp} {a : Addr} {ws : List Want} (h : LW H a ws) (s : Same H H') : LW H' a ws := let ⟨xs, e, r⟩ := h; ⟨xs, s _ _ e, r.tk (Tk.of s)⟩
theorem BkAt.ext {H H' : Hp} {d : Addr} {B : Bk} (h : BkAt H d B) (s : Same H H') : BkAt H' d B := by
  obtain ⟨b1, b3, b4, b5, b6, b7, e, p1, p3, p4, p5, p6, p7⟩ := h.at_
  exact ⟨b1, b3, b4, b5, b6, b7, s _ _ e, p1.ext s, p3.ext s, p4.ext s, p5.ext s, p6.ext s, p7.ext s⟩
theorem ww_at1 (w : Want) (q : Addr) : atI ([.str w.kind, .str w.skill, .ref q] ++ wRest w) 1 = some (.str w.skill) := by
  unfold wRest
  cases w.many <;> rfl
theorem Ww.same {H H' : Hp} {x : V} {w : Want} (h : Ww H x w) (s : Same H H') : Ww H' x w := h.tk (Tk.of s)
theorem dsm_strs {K : PySem.W.Frag} {H : Hp} {a : Addr} {zs : List Str} (h : SqT K H a (zs.map V.str)) (ok : ∀ z ∈ zs, PyData.strOk z = true) : Dp K H (.ref a) (.tuple (zs.map PyData.str)) ∧ PyData.canLayAll0 (zs.map PyData.str) = true ∧ PyData.depthAll (zs.map PyData.str) ≤ 1 := by
  refine ⟨.tup h ?_, ?_⟩
  · clear h ok
    induction zs with
    | nil => exact .nil
    | cons z zs ih => exact .cons (.str z) ih
  · clear h
    induction zs with
    | nil => exact ⟨by simp [PyData.canLayAll0], by simp [PyData.depthAll]⟩
    | cons z zs ih =>
      obtain ⟨h1, h2⟩ := ih fun y hy => ok y (List.mem_cons_of_mem _ hy)
      refine ⟨by simp [PyData.canLayAll0, PyData.canLay0, ok z List.mem_cons_self, h1], ?_⟩
      simp only [List.map_cons, PyData.depthAll, PyData.depth]
      omega
theorem kind_ok {k : Str} (h : k ∈ (["all", "any", "any", "count"] : List Str)) : PyData.strOk k = true := by
  have q : ((["all", "any", "any", "count"] : List Str).all PyData.strOk) = true := by decide +kernel
  exact List.all_eq_true.mp q k h
theorem dsm_want {K : PySem.W.Frag} {H : Hp} {x : V} {w : Want} {ns : List Str} (h : Ww H x w) (ok : WantR ns w) (oks : Oks ns) : Dsm K H x := by
  obtain ⟨p, q, rfl, hp, hq⟩ := h
  obtain ⟨d1, d2, d3⟩ := dsm_strs (SqT.of (K := K) hq) fun z hz => oks z (ok.all z hz)
  have k1 := kind_ok ok.kind
  have k2 := oks _ ok.skill
  unfold wRest at hp
  cases em : w.many with
  | none =>
    rw [em] at hp
    refine ⟨_, .tup (SqT.of hp) (.cons (.str _) (.cons (.str _) (.cons d1 .nil))), ?_, ?_⟩
    · simp [PyData.canLay0, PyData.canLayAll0, k1, k2, d2]
    · simp only [PyData.depth, PyData.depthAll]
      omega
  | some m =>
    rw [em] at hp
    refine ⟨_, .tup (SqT.of hp) (.cons (.str _) (.cons (.str _) (.cons d1 (.cons (.int m) .nil)))), ?_, ?_⟩
    · simp [PyData.canLay0, PyData.canLayAll0, k1, k2, d2]
    · simp only [PyData.depth, PyData.depthAll]
      omega
/-- the items of a list that a test of their meanings takes -/
def sel {α : Type} (p : α → Bool) : List V → List α → List V
  | x :: xs, w :: ws => if p w = true then x :: sel p xs ws else sel p xs ws
  | _, _ => []
theorem sel_snoc {α : Type} (p : α → Bool) (x : V) (w : α) : ∀ (xs : List V) (ws : List α), xs.length = ws.length → sel p (xs ++ [x]) (ws ++ [w]) = sel p xs ws ++ (if p w = true then [x] else [])
  | [], [], _ => by
    show (if p w = true then [x] else []) = [] ++ _
    rw [List.nil_append]
  | y :: xs, v :: ws, h => by
    have ih := sel_snoc p x w xs ws (by simpa using h)
    show (if p v = true then y :: sel p (xs ++ [x]) (ws ++ [w]) else sel p (xs ++ [x]) (ws ++ [w])) = (if p v = true then y :: sel p xs ws else sel p xs ws) ++ _
    by_cases e : p v = true
    · rw [if_pos e, if_pos e, ih, List.cons_append]
    · rw [if_neg e, if_neg e, ih]
  | [], _ :: _, h => by simp at h
  | _ :: _, [], h => by simp at h
theorem sel_one {α : Type} {p : α → Bool} {xs : List V} {ws : List α} {i : Nat} {x : V} {w : α} (hx : xs[i]? = some x) (hw : ws[i]? = some w) (h : xs.length = ws.length) :
    sel p (xs.take (i + 1)) (ws.take (i + 1)) = sel p (xs.take i) (ws.take i) ++ (if p w = true then [x] else []) := by
  rw [take_one hx, take_one hw, sel_snoc p x w _ _ (by rw [List.length_take, List.length_take, h])]
theorem sel_len {α : Type} (p : α → Bool) : ∀ (xs : List V) (ws : List α), (sel p xs ws).length ≤ xs.length
  | [], _ => by simp [sel]
  | _ :: _, [] => by simp [sel]
  | x :: xs, w :: ws => by
    have ih := sel_len p xs ws
    show (if p w = true then x :: sel p xs ws else sel p xs ws).length ≤ _
    by_cases e : p w = true
    · rw [if_pos e, List.length_cons, List.length_cons]
      omega
    · rw [if_neg e, List.length_cons]
      omega
theorem sel_mem {α : Type} {R : V → α → Prop} (p : α → Bool) : ∀ {xs : List V} {ws : List α}, Paired R xs ws → Paired R (sel p xs ws) (ws.filter p)
  | _, _, .nil => .nil
  | _, _, .cons (a := x) (b := w) (l₁ := xs) (l₂ := ws) r t => by
    have ih := sel_mem p t
    show Paired R (if p w = true then x :: sel p xs ws else sel p xs ws) _
    by_cases e : p w = true
    · rw [if_pos e, List.filter_cons_of_pos e]
      exact .cons r ih
    · rw [if_neg e, List.filter_cons_of_neg e]
      exact ih
theorem paired_mem {α : Type} {R : V → α → Prop} : ∀ {xs : List V} {ws : List α} {x : V}, Paired R xs ws → x ∈ xs → ∃ w ∈ ws, R x w
  | _, _, _, .nil, h => absurd h (by simp)
  | _, _, _, .cons r t, h => by
    rcases List.mem_cons.mp h with rfl | h
    · exact ⟨_, List.mem_cons_self, r⟩
    · obtain ⟨w, hw, q⟩ := paired_mem t h
      exact ⟨w, List.mem_cons_of_mem _ hw, q⟩
theorem filter_emp {α : Type} (p : α → Bool) : ∀ l : List α, (l.filter p).isEmpty = l.all fun w => !p w
  | [] => rfl
  | w :: l => by
    by_cases e : p w = true
    · rw [List.filter_cons_of_pos e, List.all_cons, e]
      rfl
    · rw [List.filter_cons_of_neg e, List.all_cons, filter_emp p l]
      rw [Bool.not_eq_true] at e
      rw [e]
      rfl
theorem wants_met_emp (B : Bk) (b : List Str) (z : Str) : (B.wl.filter fun w => decide (w.skill = z) && !rowMet b w).isEmpty = wantsMet B b z := filter_emp _ _
def spBelow (K : PySem.W.Frag) : Sp := fun vs H Q _ => ∃ (d a : Addr) (B : Bk) (b : List Str) (z : Str), vs = [.ref d, .ref a, .str z] ∧ BkAt H d B ∧ B.sk.length ≤ 60 ∧ Sq K H a (b.map V.str) ∧ BdOk B b ∧ z ∈ B.ns ∧ ∀ H', Same H H' → Q (.int ((belowN B b z : Nat) : Int)) H'
def spMetOf (K : PySem.W.Frag) : Sp := fun vs H Q _ => ∃ (d a : Addr) (B : Bk) (b : List Str) (z : Str), vs = [.ref d, .ref a, .str z] ∧ BkAt H d B ∧ BkR B ∧ Oks B.ns ∧ Sq K H a (b.map V.str) ∧ BdOk B b ∧ z ∈ B.ns ∧ ∀ H', Same H H' → Q (.bl (metB B b z)) H'
def spSizeLet (K : PySem.W.Frag) : Sp := fun vs H Q _ => ∃ (d a : Addr) (B : Bk) (b : List Str), vs = [.ref d, .ref a] ∧ BkAt H d B ∧ BkR B ∧ Sq K H a (b.map V.str) ∧ ∀ H', Same H H' → Q (.int (sizeLet B b)) H'
def spHolds (K : PySem.W.Frag) : Sp := fun vs H Q _ => ∃ (d a : Addr) (B : Bk) (b : List Str), vs = [.ref d, .ref a] ∧ BkAt H d B ∧ BkR B ∧ Oks B.ns ∧ Sq K H a (b.map V.str) ∧ BdOk B b ∧ ∀ H', Same H H' → Q (.bl (holdsB B b)) H'
theorem BkR.s60 {B : Bk} (h : BkR B) : B.sk.length ≤ 60 := Nat.le_trans h.sk.le (by decide)
theorem gives_len {B : Bk} (h : BkR B) : B.gives.length ≤ 12 := by
  have q := h.gives.nd
  have e : (B.gives.map (·.1)).length ≤ B.ns.length := q.length_le_of_subset fun z hz => by
    obtain ⟨g, hg, rfl⟩ := List.mem_map.mp hz
    exact (h.gives.in_ g hg).1
  rw [List.length_map, List.length_map] at e
  have := h.sk.le
  omega
theorem wnames_len {B : Bk} (h : BkR B) {w : Want} (hw : w ∈ B.wl) : w.names.length ≤ 60 := by
  have e := (h.w w hw).nd.length_le_of_subset (h.w w hw).all
  rw [List.length_map] at e
  have := h.sk.le
  omega
section
variable {P : Program} {w : World} {K : PySem.W.Frag} {mg : Str → Option Value} {base : Heap}
end
end Rt
end
section
set_option Elab.async false
set_option linter.all false
set_option maxRecDepth 100000
set_option maxHeartbeats 8000000
/-! what the laws tell of a build by the document: points, holding -/
namespace Rt
open PySem PySem.Spec PyProof.Rows L2
theorem dsm_bar {K : PySem.W.Frag} {H : Hp} {x : V} {ns : List Str} {r : Str × Str} (h : Rw H x (rB r)) (h1 : r.1 ∈ ns) (h2 : r.2 ∈ ns) (oks : Oks ns) : Dsm K H x := by
  obtain ⟨p, rfl, hp⟩ := h
  obtain ⟨l1, l2⟩ := lay_tB (oks _ h1) (oks _ h2)
  exact ⟨_, dp_tB hp, l1, by omega⟩
theorem paired_map {α : Type} {f : α → List V} {H : Hp} : ∀ {xs : List V} {l : List α}, Rws H xs (l.map f) → Paired (fun x r => Rw H x (f r)) xs l
  | _, [], h => by
    cases h
    exact .nil
  | _, r :: l, h => by
    cases h with
    | cons q t => exact .cons q (paired_map t)
theorem filter_nil_all {α : Type} (p : α → Bool) (l : List α) : (l.filter p).isEmpty = !(l.any p) := by
  rw [filter_emp]
  induction l with
  | nil => rfl
  | cons x l ih =>
    rw [List.all_cons, List.any_cons, ih]
    cases p x <;> rfl
section
variable {P : Program} {w : World} {K : PySem.W.Frag} {mg : Str → Option Value} {base : Heap}
end
end Rt
end
section
set_option Elab.async false
set_option linter.all false
/-! all builds of some names, by how many skills, then by places: the mathematics -/
namespace Rt
open PySem PySem.Spec PyProof.Rows L2
def kidsFrom (b : List Str) : Nat → List Str → List (List Str × Nat)
  | _, [] => []
  | low, z :: l => (b ++ [z], low + 1) :: kidsFrom b (low + 1) l
def kids (ns : List Str) (p : List Str × Nat) : List (List Str × Nat) := kidsFrom p.1 p.2 (ns.drop p.2)
def levelP (ns : List Str) : Nat → List (List Str × Nat)
  | 0 => [([], 0)]
  | k + 1 => (levelP ns k).flatMap (kids ns)
def foundP (ns : List Str) : Nat → List (List Str × Nat)
  | 0 => [([], 0)]
  | k + 1 => foundP ns k ++ levelP ns (k + 1)
def subsB (ns : List Str) : List (List Str) := (foundP ns ns.length).map (·.1)
theorem kidsFrom_fst (b : List Str) : ∀ (low : Nat) (l : List Str), (kidsFrom b low l).map (·.1) = l.map fun z => b ++ [z]
  | _, [] => rfl
  | low, z :: l => by
    show (b ++ [z]) :: (kidsFrom b (low + 1) l).map (·.1) = _
    rw [kidsFrom_fst b (low + 1) l]
    rfl
theorem kids_fst (ns : List Str) (p : List Str × Nat) : (kids ns p).map (·.1) = (ns.drop p.2).map fun z => p.1 ++ [z] := kidsFrom_fst _ _ _
theorem kidsFrom_mem {b : List Str} {q : List Str × Nat} : ∀ {low : Nat} {l : List Str}, q ∈ kidsFrom b low l → ∃ j z, l[j]? = some z ∧ q = (b ++ [z], low + j + 1)
  | _, [], h => absurd h (by simp [kidsFrom])
  | low, y :: l, h => by
    rcases List.mem_cons.mp h with rfl | h
    · exact ⟨0, y, rfl, rfl⟩
    · obtain ⟨j, z, h1, h2⟩ := kidsFrom_mem h
      exact ⟨j + 1, z, by simpa using h1, by rw [h2]; congr 1; omega⟩
theorem kids_mem {ns : List Str} {p q : List Str × Nat} (h : q ∈ kids ns p) : ∃ j z, p.2 ≤ j ∧ ns[j]? = some z ∧ q = (p.1 ++ [z], j + 1) := by
  obtain ⟨j, z, h1, h2⟩ := kidsFrom_mem h
  rw [List.getElem?_drop] at h1
  exact ⟨p.2 + j, z, by omega, h1, h2⟩
/-- what is true of a build and of the place behind its last skill -/
structure GoodP (ns : List Str) (p : List Str × Nat) : Prop where
  sub : p.1.Sublist (ns.take p.2)
  le : p.2 ≤ ns.length
  last : (p.1 = [] ∧ p.2 = 0) ∨ ∃ b0 z i, p.1 = b0 ++ [z] ∧ ns[i]? = some z ∧ p.2 = i + 1
theorem GoodP.zero (ns : List Str) : GoodP ns ([], 0) := ⟨List.nil_sublist _, Nat.zero_le _, .inl ⟨rfl, rfl⟩⟩
theorem GoodP.kid {ns : List Str} {p q : List Str × Nat} (g : GoodP ns p) (h : q ∈ kids ns p) : GoodP ns q := by
  obtain ⟨j, z, hj, hz, rfl⟩ := kids_mem h
  have lt : j < ns.length := (List.getElem?_eq_some_iff.mp hz).1
  refine ⟨?_, lt, .inr ⟨p.1, z, j, rfl, hz, rfl⟩⟩
  show (p.1 ++ [z]).Sublist (ns.take (j + 1))
  rw [List.take_succ, hz]
  refine List.Sublist.append (g.sub.trans ?_) (List.Sublist.refl _)
  exact (List.take_prefix_take_left (by omega)).sublist
theorem goodP_level {ns : List Str} : ∀ {k : Nat} {p : List Str × Nat}, p ∈ levelP ns k → GoodP ns p
  | 0, p, h => by
    obtain rfl := List.mem_singleton.mp h
    exact .zero ns
  | k + 1, p, h => by
    obtain ⟨q, hq, hp⟩ := List.mem_flatMap.mp h
    exact (goodP_level hq).kid hp
theorem goodP_found {ns : List Str} : ∀ {k : Nat} {p : List Str × Nat}, p ∈ foundP ns k → GoodP ns p
  | 0, p, h => by
    obtain rfl := List.mem_singleton.mp h
    exact .zero ns
  | k + 1, p, h => by
    rcases List.mem_append.mp h with h | h
    · exact goodP_found h
    · exact goodP_level h
theorem GoodP.all {ns : List Str} {p : List Str × Nat} (g : GoodP ns p) : p.1.Sublist ns := g.sub.trans (List.take_sublist _ _)
/-- how many there are at most -/
def wt (n : Nat) (p : List Str × Nat) : Nat := 2 ^ (n - p.2)
def wts (n : Nat) (L : List (List Str × Nat)) : Nat := (L.map (wt n)).sum
theorem wts_kidsFrom (n : Nat) (b : List Str) : ∀ (low : Nat) (l : List Str), l.length = n - low → low ≤ n → wts n (kidsFrom b low l) + 1 = 2 ^ (n - low)
  | low, [], h, hl => by
    have : n - low = 0 := by simpa using h.symm
    rw [this]
    rfl
  | low, z :: l, h, hl => by
    rw [List.length_cons] at h
    have ih := wts_kidsFrom n b (low + 1) l (by omega) (by omega)
    show 2 ^ (n - (low + 1)) + wts n (kidsFrom b (low + 1) l) + 1 = _
    rw [Nat.add_assoc, ih]
    have e : n - low = (n - (low + 1)) + 1 := by omega
    rw [e, Nat.pow_succ]
    omega
theorem wts_kids {ns : List Str} {p : List Str × Nat} (g : GoodP ns p) : wts ns.length (kids ns p) + 1 = wt ns.length p := wts_kidsFrom _ _ _ _ (by rw [List.length_drop]) g.le
theorem wts_next {ns : List Str} : ∀ {L : List (List Str × Nat)}, (∀ p ∈ L, GoodP ns p) → wts ns.length (L.flatMap (kids ns)) + L.length = wts ns.length L
  | [], _ => rfl
  | p :: L, h => by
    have ih := wts_next (L := L) fun q hq => h q (List.mem_cons_of_mem _ hq)
    have hp := wts_kids (h p List.mem_cons_self)
    have e : wts ns.length ((p :: L).flatMap (kids ns)) = wts ns.length (kids ns p) + wts ns.length (L.flatMap (kids ns)) := by
      unfold wts
      rw [List.flatMap_cons, List.map_append, List.sum_append_nat]
    have e2 : wts ns.length (p :: L) = wt ns.length p + wts ns.length L := rfl
    rw [e, e2, List.length_cons]
    omega
theorem found_wts (ns : List Str) : ∀ k, (foundP ns k).length + wts ns.length (levelP ns k) = 2 ^ ns.length + (levelP ns k).length
  | 0 => by
    show 1 + (2 ^ (ns.length - 0) + 0) = 2 ^ ns.length + 1
    rw [Nat.sub_zero]
    omega
  | k + 1 => by
    have ih := found_wts ns k
    have nx := wts_next (ns := ns) (L := levelP ns k) fun p hp => goodP_level hp
    show ((foundP ns k) ++ levelP ns (k + 1)).length + wts ns.length (levelP ns (k + 1)) = _
    rw [List.length_append]
    have e : levelP ns (k + 1) = (levelP ns k).flatMap (kids ns) := rfl
    rw [e] at *
    omega
theorem wts_ge {n : Nat} : ∀ L : List (List Str × Nat), L.length ≤ wts n L
  | [] => Nat.zero_le _
  | p :: L => by
    have ih := wts_ge (n := n) L
    have : 1 ≤ wt n p := Nat.one_le_two_pow
    show L.length + 1 ≤ wt n p + wts n L
    omega
theorem found_len (ns : List Str) (k : Nat) : (foundP ns k).length ≤ 2 ^ ns.length := by
  have h := found_wts ns k
  have := wts_ge (n := ns.length) (levelP ns k)
  omega
theorem level_len (ns : List Str) : ∀ k : Nat, (levelP ns k).length ≤ 2 ^ ns.length
  | 0 => Nat.one_le_two_pow
  | k + 1 => by
    have h := found_len ns (k + 1)
    have e : foundP ns (k + 1) = foundP ns k ++ levelP ns (k + 1) := rfl
    rw [e, List.length_append] at h
    omega
/-- a build that stands in the order of some unlike names is what they have of it -/
theorem filter_sub : ∀ {ns b : List Str}, b.Sublist ns → ns.Nodup → ns.filter (fun z => decide (z ∈ b)) = b
  | _, _, .slnil, _ => rfl
  | _, b, .cons (l₂ := ns) z h, nd => by
    have nd' := List.nodup_cons.mp nd
    have nz : z ∉ b := fun q => nd'.1 (h.subset q)
    rw [List.filter_cons_of_neg (by rw [decide_eq_false nz]; decide)]
    exact filter_sub h nd'.2
  | _, _, .cons₂ (l₁ := b) (l₂ := ns) z h, nd => by
    have nd' := List.nodup_cons.mp nd
    rw [List.filter_cons_of_pos (by rw [decide_eq_true List.mem_cons_self])]
    congr 1
    have ih := filter_sub h nd'.2
    have e : ns.filter (fun y => decide (y ∈ z :: b)) = ns.filter (fun y => decide (y ∈ b)) := by
      refine List.filter_congr fun y hy => ?_
      have ne : y ≠ z := fun q => nd'.1 (q ▸ hy)
      rw [decide_eq_decide, List.mem_cons]
      exact ⟨fun q => q.resolve_left ne, .inr⟩
    rw [e, ih]
end Rt
end
section
set_option Elab.async false
set_option linter.all false
set_option maxRecDepth 100000
set_option maxHeartbeats 4000000
/-! a comprehension whose turns make new things, each told by what it means -/
namespace Rt
open PySem PySem.Spec PyProof.Rows L2
def TkMono {α : Type} (R : Hp → V → α → Prop) : Prop := ∀ H H' x w, Tk H H' → R H x w → R H' x w
structure LcN {α : Type} (H1 : Hp) (D : Addr) (R : Hp → V → α → Prop) (L : Nat → List α) (i : Nat) (H : Hp) : Prop where
  same : Same H1 H
  at_ : ∃ ys, H D = some (.lst ys) ∧ Paired (R H) ys (L i)
theorem paired_mono {α : Type} {R S : V → α → Prop} (h : ∀ x w, R x w → S x w) : ∀ {xs : List V} {ws : List α}, Paired R xs ws → Paired S xs ws
  | _, _, .nil => .nil
  | _, _, .cons r t => .cons (h _ _ r) (paired_mono h t)
theorem paired_snoc {α : Type} {R : V → α → Prop} {x : V} {w : α} (r : R x w) : ∀ {xs : List V} {ws : List α}, Paired R xs ws → Paired R (xs ++ [x]) (ws ++ [w])
  | _, _, .nil => .cons r .nil
  | _, _, .cons q t => .cons q (paired_snoc r t)
theorem paired_app {α : Type} {R : V → α → Prop} {ys : List V} {vs : List α} (h : Paired R ys vs) : ∀ {xs : List V} {ws : List α}, Paired R xs ws → Paired R (xs ++ ys) (ws ++ vs)
  | _, _, .nil => h
  | _, _, .cons q t => .cons q (paired_app h t)
theorem paired_at {α : Type} {R : V → α → Prop} : ∀ {xs : List V} {ws : List α} {i : Nat} {x : V}, Paired R xs ws → xs[i]? = some x → ∃ w, ws[i]? = some w ∧ R x w
  | _, _, _, _, .nil, e => by simp at e
  | _, _, 0, _, .cons r _, e => by
    simp at e
    subst e
    exact ⟨_, rfl, r⟩
  | _, _, i + 1, x, .cons _ t, e => by
    obtain ⟨w, h1, h2⟩ := paired_at (i := i) (x := x) t (by simpa using e)
    exact ⟨w, by simpa using h1, h2⟩
section
variable {α : Type} {H1 H H' : Hp} {D : Addr} {R : Hp → V → α → Prop} {L : Nat → List α} {i : Nat}
theorem LcN.zero (nD : H1 D = none) (e : L 0 = []) : LcN H1 D R L 0 (upd H1 D (.lst [])) := ⟨Same.new nD, [], upd_same, by rw [e]; exact .nil⟩
theorem LcN.ext (m : TkMono R) (h : LcN H1 D R L i H) (s : Same H H') : LcN H1 D R L i H' := by
  obtain ⟨ys, e, p⟩ := h.at_
  exact ⟨h.same.trans s, ys, s _ _ e, paired_mono (fun x w r => m _ _ _ _ (Tk.of s) r) p⟩
theorem LcN.skip (h : LcN H1 D R L i H) (e : L (i + 1) = L i) : LcN H1 D R L (i + 1) H := ⟨h.same, by rw [e]; exact h.at_⟩
theorem LcN.put {y : V} {w : α} (m : TkMono R) (h : LcN H1 D R L i H) (nD : H1 D = none) (r : R H y w) (e : L (i + 1) = L i ++ [w]) (hl : (L i).length < sizeLine) :
    ∃ acc, H D = some (.lst acc) ∧ acc.length < sizeLine ∧ LcN H1 D R L (i + 1) (upd H D (.lst (acc ++ [y]))) := by
  obtain ⟨ys, e1, p⟩ := h.at_
  have tk : Tk H (upd H D (.lst (ys ++ [y]))) := Tk.lst e1
  refine ⟨ys, e1, by rw [Paired.length p]; exact hl, fun b o hb => ?_, ys ++ [y], upd_same, ?_⟩
  · rw [upd_ne (ne_of_none hb nD)]
    exact h.same b o hb
  · rw [e]
    exact paired_snoc (m _ _ _ _ tk r) (paired_mono (fun x w q => m _ _ _ _ tk q) p)
end
theorem lc_new {α : Type} {K : PySem.W.Frag} {H1 : Hp} {a : Addr} {xs : List V} {g : TG} {tt : TT} {te : TE} {vs : List Nat} {σ : L2.St} {Q : Addr → Hp → Prop} (h : Sq K H1 a xs) (R : Hp → V → α → Prop) (L : Nat → List α) (h0 : L 0 = [])
    (turn : ∀ D, H1 D = none → ∀ i x H, xs[i]? = some x → LcN H1 D R L i H → g x (wipe σ vs) H fun σ2 H2 => wipe σ2 vs = wipe σ vs ∧ tt σ2 H2 fun b H3 =>
      if b = true then te σ2 H3 fun y H4 => ∃ acc, H4 D = some (.lst acc) ∧ acc.length < sizeLine ∧ LcN H1 D R L (i + 1) (upd H4 D (.lst (acc ++ [y]))) else LcN H1 D R L (i + 1) H3)
    (fin : ∀ D H ys, H1 D = none → Same H1 H → H D = some (.lst ys) → Paired (R H) ys (L xs.length) → Q D H) :
    ((∃ xs, SqL K H1 a xs) ∧ LcR g tt te vs σ Q (Itl K a) H1) ∨ ((∃ xs, SqT K H1 a xs) ∧ LcR g tt te vs σ Q (Itt K a) H1) :=
  lc_seqS h (fun D i H => LcN H1 D R L i H) (fun D nD => .zero nD h0) (fun D i H p => p.same) turn fun D H nD p => let ⟨ys, e, q⟩ := p.at_; fin D H ys nD p.same e q
/-- a tuple of texts -/
def BT (H : Hp) (x : V) (b : List Str) : Prop := ∃ q, x = .ref q ∧ H q = some (.tup (b.map V.str))
theorem bt_mono : TkMono BT := fun H H' x w k ⟨q, e, h⟩ => ⟨q, e, k _ _ h⟩
end Rt
end
section
set_option Elab.async false
set_option linter.all false
set_option maxRecDepth 100000
set_option maxHeartbeats 8000000
/-! all builds of a book, by the laws -/
namespace Rt
open PySem PySem.Spec PyProof.Rows L2
def spSubsW : Sp := fun vs H Q _ => ∃ (d : Addr) (B : Bk), vs = [.ref d] ∧ BkW H d B ∧ BkR B ∧ Oks B.ns ∧ ∀ (l : Addr) (H' : Hp) (xs : List V), H l = none → Same H H' → H' l = some (.lst xs) → Paired (BT H') xs (subsB B.ns) → Q (.ref l) H'
def spSubs : Sp := fun vs H Q _ => ∃ (d : Addr) (B : Bk), vs = [.ref d] ∧ BkAt H d B ∧ BkR B ∧ Oks B.ns ∧ ∀ (l : Addr) (H' : Hp) (xs : List V), H l = none → Same H H' → H' l = some (.lst xs) → Paired (BT H') xs (subsB B.ns) → Q (.ref l) H'
theorem eqv_tup_nil (zs : List Str) : PyData.eqv (.tuple (zs.map PyData.str)) (.tuple []) = zs.isEmpty := by
  cases zs <;> simp [PyData.eqv, PyData.eqvAll]
theorem eqV_str (n z : Str) : eqV (.str n) (.str z) = decide (n = z) := by
  first | rfl | (show (n == z) = decide (n = z); rfl) | (simp [eqV])
theorem flat_drop {α β : Type} (f : α → List β) {l : List α} {i : Nat} {x : α} (h : l[i]? = some x) : (l.take (i + 1)).flatMap f = (l.take i).flatMap f ++ f x := by
  rw [take_one h, List.flatMap_append, List.flatMap_cons, List.flatMap_nil, List.append_nil]
theorem flat_le {ns : List Str} {l : List (List Str × Nat)} (i : Nat) : ((l.take i).flatMap (kids ns)).length ≤ (l.flatMap (kids ns)).length := by
  have e : l.flatMap (kids ns) = (l.take i).flatMap (kids ns) ++ (l.drop i).flatMap (kids ns) := by rw [← List.flatMap_append, List.take_append_drop]
  rw [e, List.length_append]
  omega
theorem ns_bound {B : Bk} (h : BkR B) : 2 ^ B.ns.length ≤ 4096 := by
  have l : B.ns.length ≤ 12 := by
    rw [List.length_map]
    exact h.sk.le
  exact Nat.pow_le_pow_right (n := 2) (by decide) l
section
variable {P : Program} {w : World} {K : PySem.W.Frag} {mg : Str → Option Value} {base : Heap}
theorem cal_law_subsetsW (Z : All K mg) : Cal P w K mg base CX0 2 "_law_subsets" ["_law_book_here"] spSubsW := by
  obtain ⟨fd, F⟩ := Z.f_law_subsets
  have C_law_names : Cal P w K mg base CX0 1 "_law_names" ["_law_book_here"] spNamesW := cal_law_namesW Z
  refine .of ⟨fd, F, ok0 F sc_law_subsets (fun vs H Q E h => ?_) (fun cdv A outer s H vs Q E hr h => ?_)⟩ Z.g_law_subsets (fun _ _ _ _ _ _ us hl => match us, hl with | [_], _ => rfl)
  · obtain ⟨d, B, rfl, _⟩ := h
    rfl
  · obtain ⟨d, B, rfl, bk, ok, oks, k⟩ := h
    refine ⟨_, (pss_cons (ps_set (i := 1) sc_law_subsets.nd rfl (Or.inl rfl) (pe_cal C_law_names (hr.mono (by decide)) (by rfl) pass0 (pa_cons (pv 0) pa_nil)))
      (pss_cons (ps_par (i := 2) (j := 3) (by rfl) sc_law_subsets.nd rfl rfl (by decide) rfl rfl (pa_cons (pe_lst (pa_cons (pe_tup pa_nil) pa_nil)) (pa_cons (pe_lst (pa_cons (pe_tup pa_nil) pa_nil)) pa_nil)) (by rfl))
      (pss_cons (ps_for PassesOwn.never rfl (pi_range1 (by rfl) Z.b_range (pa_cons (pe_callB call_len (by rfl) Z.b_len PySem.boot_len (pa_cons (pv 1) pa_nil)) pa_nil)) (pg_name (i := 4) sc_law_subsets.nd rfl (Or.inl rfl)) (pss_cons (ps_set (i := 5) sc_law_subsets.nd rfl (Or.inl rfl) (pe_lst pa_nil))
      (pss_cons (ps_for PassesOwn.never rfl (pi_seq (pv 3)) (pg_name (i := 6) sc_law_subsets.nd rfl (Or.inr rfl)) (pss_cons (ps_set (i := 7) sc_law_subsets.nd rfl (Or.inl rfl) (pe_ifExp (pt_cmpR (op_neD hr.units) (pv 6) (pe_tup pa_nil) (nomark _)) (pe_op op_add (pe_bm PySem.F.plainAttrs_list PySem.F.slot_list_index PySem.F.type_list_index mt_index (pv 1) (pa_cons (pe_ix ix_tup (pv 6) (pe_un un_neg pe_int) (fun _ _ => rfl)) pa_nil)) pe_int) pe_int))
      (pss_one (ps_set (i := 5) sc_law_subsets.nd rfl (Or.inl rfl) (pe_op op_cat (pv 5) (pe_lc (own := [("_law_name", 8)]) (by rfl) sc_law_subsets.nd (pi_seq (pe_slice sl_list (pv 1) (po_some (pv 7)) po_none)) (blkOk_by (own := [("_law_name", 8)]) (N := ["_law_book_here", "_law_names_here", "_law_found", "_law_level", "_law_turn", "_law_longer", "_law_build", "_law_low", "_law_name"]) (sc := defScope s_law_subsets) (by decide +kernel)) (fun _ _ _ _ _ => (pg_name (i := 8) sc_law_subsets.nd rfl (Or.inl rfl))) (fun _ _ _ _ _ => pts_nil) (fun _ _ _ _ _ => (pe_op (show OpR _ (binaryOp .Add) (rCatA K) from op_catA) (pv 6) (pe_tup (pa_cons (pv 8) pa_nil))))))))))
      (pss_one (ps_par (i := 2) (j := 3) (by rfl) sc_law_subsets.nd rfl rfl (by decide) rfl rfl (pa_cons (pe_op op_cat (pv 2) (pv 5)) (pa_cons (pv 5) pa_nil)) (by rfl))))))
      (pss_one (ps_ret (pv 2)))))), ?_⟩
    have b4 := ns_bound ok
    refine ⟨_, rfl, d, B, rfl, bk, ok.s60, fun nm H1 fnm s1 hnm => ?_⟩
    refine ⟨Nat.zero_le _, fun e1 ne1 => ⟨(by show 1 ≤ sizeLine; decide), fun fo nfo => ⟨Nat.zero_le _, fun e2 ne2 => ⟨(by show 1 ≤ sizeLine; decide), fun le nle => ⟨_, _, rfl, ?_⟩⟩⟩⟩⟩
    have n2 : H1 fo = none := (Same.new ne1).free nfo
    have s5 : Same H1 (upd (upd (upd (upd H1 e1 (.tup [])) fo (.lst [.ref e1])) e2 (.tup [])) le (.lst [.ref e2])) := (((Same.new ne1).trans (Same.new nfo)).trans (Same.new ne2)).trans (Same.new nle)
    have hfo : (upd (upd (upd (upd H1 e1 (.tup [])) fo (.lst [.ref e1])) e2 (.tup [])) le (.lst [.ref e2])) fo = some (.lst [.ref e1]) := Same.new nle _ _ (Same.new ne2 _ _ upd_same)
    have he1 : (upd (upd (upd (upd H1 e1 (.tup [])) fo (.lst [.ref e1])) e2 (.tup [])) le (.lst [.ref e2])) e1 = some (.tup []) := Same.new nle _ _ (Same.new ne2 _ _ (Same.new nfo _ _ upd_same))
    have he2 : (upd (upd (upd (upd H1 e1 (.tup [])) fo (.lst [.ref e1])) e2 (.tup [])) le (.lst [.ref e2])) e2 = some (.tup []) := Same.new nle _ _ upd_same
    have hle : (upd (upd (upd (upd H1 e1 (.tup [])) fo (.lst [.ref e1])) e2 (.tup [])) le (.lst [.ref e2])) le = some (.lst [.ref e2]) := upd_same
    obtain ⟨H5, eH5⟩ : ∃ H5, H5 = upd (upd (upd (upd H1 e1 (.tup [])) fo (.lst [.ref e1])) e2 (.tup [])) le (.lst [.ref e2]) := ⟨_, rfl⟩
    rw [← eH5] at s5 hfo he1 he2 hle ⊢
    clear eH5
    have fofree : H fo = none := s1.free n2
    have hnm5 := s5 _ _ hnm
    have nl : (B.ns.map V.str).length = B.ns.length := List.length_map _
    have n12 : B.ns.length ≤ 12 := by
      rw [List.length_map]
      exact ok.sk.le
    refine ⟨_, rfl, _, _, rfl, .inl ⟨_, SqL.of hnm5, rfl⟩, _, rfl, by omega, by omega, ?_⟩
    rw [nl, Int.toNat_natCast]
    have pf0 : Paired (BT H5) [.ref e1] ((foundP B.ns 0).map (·.1)) := .cons ⟨e1, rfl, he1⟩ .nil
    have pl0 : Paired (BT H5) [.ref e2] ((levelP B.ns 0).map (·.1)) := .cons ⟨e2, rfl, he2⟩ .nil
    refine for_range (lo := 0) (n := B.ns.length) (fun i σ H6 => ∃ (fo le : Addr) (xf xl : List V) (s4 s5 s6 s7 : Option V), σ = [some (.ref d), some (.ref nm), some (.ref fo), some (.ref le), s4, s5, s6, s7, none] ∧ Same H H6 ∧ H6 nm = some (.lst (B.ns.map V.str)) ∧ H fo = none ∧
        H6 fo = some (.lst xf) ∧ Paired (BT H6) xf ((foundP B.ns i).map (·.1)) ∧ H6 le = some (.lst xl) ∧ Paired (BT H6) xl ((levelP B.ns i).map (·.1)))
      ⟨fo, le, [.ref e1], [.ref e2], none, none, none, none, rfl, s1.trans s5, hnm5, fofree, hfo, pf0, hle, pl0⟩ ?_ ?_
    · clear hfo he1 he2 hle n2 nfo ne1 ne2 nle fofree
      rintro i σ H6 hi ⟨fo, le, xf, xl, s4, s5', s6, s7, rfl, sH, hn6, ffo, hf6, pf, hl6, pl⟩
      refine ⟨Nat.zero_le _, fun lo nlo => ?_⟩
      have hl7 : (upd H6 lo (.lst [])) le = some (.lst xl) := Same.new nlo _ _ hl6
      refine ⟨_, rfl, le, rfl, .inl ⟨⟨_, SqL.of hl7⟩, ?_⟩⟩
      refine for_list (K := K) (a := le) (xs := xl) (fun j σ H8 => ∃ (lo : Addr) (xo : List V) (s6 s7 : Option V), σ = [some (.ref d), some (.ref nm), some (.ref fo), some (.ref le), some (.int (0 + (i : Nat))), some (.ref lo), s6, s7, none] ∧ Same H6 H8 ∧ H8 lo = some (.lst xo) ∧
          Paired (BT H8) xo ((((levelP B.ns i).take j).flatMap (kids B.ns)).map (·.1)))
        ⟨lo, [], s6, s7, rfl, Same.new nlo, upd_same, .nil⟩ (fun j σ H8 _ ⟨_, _, _, _, _, q, _, _⟩ => SqL.of (q _ _ hl6)) ?_ ?_
      · clear hl7 nlo
        rintro j x σ H8 hj ⟨lo, xo, s6, s7, rfl, s8, ho8, po⟩
        obtain ⟨b, hb, q, rfl, hq⟩ := paired_at pl hj
        rw [List.getElem?_map] at hb
        cases ep : (levelP B.ns i)[j]? with
        | none => rw [ep] at hb; cases hb
        | some p =>
        rw [ep] at hb
        obtain rfl : p.1 = b := Option.some.inj hb
        have gp := goodP_level (List.mem_of_getElem? ep)
        have hq8 := s8 _ _ hq
        have hn8 := s8 _ _ hn6
        have oksb : ∀ z ∈ p.1, z ∈ B.ns := fun z hz => gp.all.subset hz
        dsimp only [gName, tSeq, tAsg]
        refine by_ (fun v H' => v = .int ((p.2 : Nat) : Int) ∧ Same H8 H') (fun Q kQ => ?_) ?_
        · refine ⟨_, rfl, Nat.zero_le _, fun em nem => ⟨_, _, (dsm_strs (SqT.of (Same.new nem _ _ hq8)) fun z hz => oks z (oksb z hz)).1, .tup (SqT.of upd_same) .nil, ?_, by rfl, ?_⟩⟩
          · obtain ⟨_, d2, d3⟩ := dsm_strs (K := K) (SqT.of hq8) fun z hz => oks z (oksb z hz)
            refine shaped_of (by simp only [PyData.canLay0]; exact d2) ?_
            simp only [PyData.depth]
            omega
          · rw [eqv_tup_nil]
            have sem := Same.new (H := H8) (o := .tup []) nem
            refine ⟨_, rfl, ifB (fun e => ?_) (fun e => ?_)⟩
            · rcases gp.last with ⟨z1, z2⟩ | ⟨b0, z, i0, eb, hz, el⟩
              · rw [z1] at e
                cases e
              · have hn9 := sem _ _ hn8
                have hq9 := sem _ _ hq8
                have nd := ok.sk.nd
                refine ⟨_, rfl, .inl ⟨rfl, _, SqL.of hn9⟩, _, rfl, 1, rfl, q, _, -1, .str z, rfl, rfl, SqT.of hq9, ?_, nm, B.ns.map V.str, .str z, i0, .str z, rfl, rfl, SqL.of hn9, rfl, flat_strsV _, ?_, ?_, ?_, ?_⟩
                · rw [eb, List.map_append]
                  exact atI_last _ _
                · rw [List.getElem?_map, hz]
                  rfl
                · rw [eqV_str, decide_eq_true rfl]
                · intro m z' hm hz'
                  obtain ⟨y, rfl, hy⟩ := strs_get hz'
                  rw [eqV_str]
                  refine decide_eq_false fun ey => ?_
                  subst ey
                  have := (List.getElem?_inj (List.getElem?_eq_some_iff.mp hy).1 nd).mp (hy.trans hz.symm)
                  omega
                · refine ⟨_, _, rfl, rfl, kQ _ _ ⟨?_, sem⟩⟩
                  rw [el]
                  rfl
            · rcases gp.last with ⟨z1, z2⟩ | ⟨b0, z, i0, eb, hz, el⟩
              · refine kQ _ _ ⟨?_, sem⟩
                rw [z2]
                rfl
              · rw [eb] at e
                simp at e
        · rintro v H9 ⟨rfl, s9⟩
          have hn9 := s9 _ _ hn8
          have hq9 := s9 _ _ hq8
          have ho9 := s9 _ _ ho8
          refine ⟨_, rfl, _, rfl, _, rfl, _, rfl, nm, B.ns.map V.str, rfl, SqL.of hn9, fun cl ncl => ?_⟩
          have hcl : (upd H9 cl (.lst (cutV (B.ns.map V.str) (some ((p.2 : Nat) : Int)) none))) cl = some (.lst ((B.ns.drop p.2).map V.str)) := by
            rw [upd_same, cut_drop, List.map_drop]
          have sA := Same.new (o := .lst (cutV (B.ns.map V.str) (some ((p.2 : Nat) : Int)) none)) ncl
          obtain ⟨HA, eHA⟩ : ∃ HA, HA = upd H9 cl (.lst (cutV (B.ns.map V.str) (some ((p.2 : Nat) : Int)) none)) := ⟨_, rfl⟩
          rw [← eHA] at hcl sA ⊢
          have hqA := sA _ _ hq9
          have hoA := sA _ _ ho9
          have kl : (B.ns.drop p.2).length ≤ 12 := by
            rw [List.length_drop]
            omega
          refine ⟨cl, rfl, lc_new (.inl (SqL.of hcl)) BT (fun i => ((B.ns.drop p.2).take i).map fun z => p.1 ++ [z]) rfl (fun D nD i y Hy hi' pp => ?_) fun T HT ys nT sT hT pT => ?_⟩
          · obtain ⟨z, rfl, hz⟩ := strs_get hi'
            have st : ((B.ns.drop p.2).take (i + 1)).map (fun z => p.1 ++ [z]) = ((B.ns.drop p.2).take i).map (fun z => p.1 ++ [z]) ++ [p.1 ++ [z]] := map_one _ hz
            have sl : (((B.ns.drop p.2).take i).map fun z => p.1 ++ [z]).length < sizeLine := by
              rw [List.length_map]
              exact line_of (m := 12) (Nat.le_trans (List.length_take_le' _ _) kl) (by decide)
            refine ⟨rfl, _, rfl, _, rfl, (by show 1 ≤ sizeLine; decide), fun t nt => ⟨q, t, p.1.map V.str, [.str z], rfl, rfl, SqT.of (Same.new nt _ _ (pp.same _ _ hqA)), SqT.of upd_same, ?_, fun e0 => ?_, fun _ e0 => (nomatch e0), fun _ _ u nu => ?_⟩⟩
            · rw [List.length_map]
              have := gp.all.length_le
              show p.1.length + 1 ≤ sizeLine
              rw [sizeLine_eq]
              omega
            · have e1 : p.1 = [] := List.map_eq_nil_iff.mp e0
              refine (pp.ext bt_mono (Same.new nt)).put bt_mono nD ⟨t, rfl, ?_⟩ st sl
              rw [upd_same, e1]
              rfl
            · refine ((pp.ext bt_mono (Same.new nt)).ext bt_mono (Same.new nu)).put bt_mono nD ⟨u, rfl, ?_⟩ st sl
              rw [upd_same, List.map_append]
              rfl
          · rw [List.length_map, List.take_length, ← kids_fst] at pT
            refine ⟨_, _, _, _, rfl, rfl, sT _ _ hoA, hT, ?_, fun u nu => ?_⟩
            · rw [Paired.length po, Paired.length pT, List.length_map, List.length_map]
              have e1 := flat_le (ns := B.ns) (l := levelP B.ns i) (j + 1)
              rw [flat_drop _ ep, List.length_append] at e1
              have e2 := level_len B.ns (i + 1)
              have e3 : levelP B.ns (i + 1) = (levelP B.ns i).flatMap (kids B.ns) := rfl
              rw [e3] at e2
              rw [sizeLine_eq]
              omega
            · have sU : Same H8 (upd HT u (.lst (xo ++ ys))) := ((s9.trans sA).trans sT).trans (Same.new nu)
              refine ⟨u, xo ++ ys, _, _, rfl, s8.trans sU, upd_same, ?_⟩
              rw [flat_drop _ ep, List.map_append]
              exact paired_app (paired_mono (fun x w r => bt_mono _ _ _ _ (Tk.new nu) r) pT) (paired_mono (fun x w r => bt_mono _ _ _ _ (Tk.of sU) r) po)
      · rintro σ H8 ⟨lo, xo, s6, s7, rfl, s8, ho8, po⟩
        have e0 : (levelP B.ns i).take xl.length = levelP B.ns i := by
          rw [Paired.length pl, List.length_map, List.take_length]
        rw [e0] at po
        have hf8 := s8 _ _ hf6
        refine ⟨_, rfl, _, rfl, _, _, _, _, rfl, rfl, hf8, ho8, ?_, fun u nu => ⟨_, rfl, _, _, rfl, ?_⟩⟩
        · rw [Paired.length pf, Paired.length po, List.length_map, List.length_map]
          have e1 := found_len B.ns (i + 1)
          have e2 : foundP B.ns (i + 1) = foundP B.ns i ++ (levelP B.ns i).flatMap (kids B.ns) := rfl
          rw [e2, List.length_append] at e1
          rw [sizeLine_eq]
          omega
        · have sU := s8.trans (Same.new (o := .lst (xf ++ xo)) nu)
          refine ⟨u, lo, xf ++ xo, xo, _, _, _, _, rfl, sH.trans sU, sU _ _ hn6, (sH.trans s8).free nu, upd_same, ?_, Same.new nu _ _ ho8, paired_mono (fun x w r => bt_mono _ _ _ _ (Tk.new nu) r) po⟩
          have e2 : foundP B.ns (i + 1) = foundP B.ns i ++ (levelP B.ns i).flatMap (kids B.ns) := rfl
          rw [e2, List.map_append]
          exact paired_app (paired_mono (fun x w r => bt_mono _ _ _ _ (Tk.new nu) r) po) (paired_mono (fun x w r => bt_mono _ _ _ _ (Tk.of sU) r) pf)
    · rintro σ H6 ⟨fo, le, xf, xl, s4, s5', s6, s7, rfl, sH, hn6, ffo, hf6, pf, hl6, pl⟩
      exact ⟨_, rfl, k fo H6 xf ffo sH hf6 pf⟩
theorem cal_law_subsets (Z : All K mg) : Cal P w K mg base CX0 2 "_law_subsets" ["_law_book_here"] spSubs :=
  (cal_law_subsetsW Z).imp fun _ _ _ _ ⟨d, B, e, bk, k⟩ => ⟨d, B, e, bk.wk, k⟩
end
end Rt
end
section
set_option Elab.async false
set_option linter.all false
set_option maxRecDepth 100000
set_option maxHeartbeats 8000000
/-! what is lacking in a build, by the laws -/
namespace Rt
open PySem PySem.Spec PyProof.Rows L2
inductive Lk where
  | word (p : Str × Str)
  | bar (r : Str × Str)
  | pts (m : Int)
def LkAt (H : Hp) (x : V) : Lk → Prop
  | .word p => Rw H x (rB p)
  | .bar r => ∃ q t, x = .ref q ∧ H q = some (.tup [.str "bar", .ref t]) ∧ H t = some (.tup (rB r))
  | .pts m => ∃ q, x = .ref q ∧ H q = some (.tup [.str "points", .int m])
theorem lk_mono : TkMono LkAt := fun H H' x w k h => match w, h with
  | .word _, h => Rw.tk h k
  | .bar _, ⟨q, t, e, h1, h2⟩ => ⟨q, t, e, k _ _ h1, k _ _ h2⟩
  | .pts _, ⟨q, e, h1⟩ => ⟨q, e, k _ _ h1⟩
def RB (H : Hp) (x : V) (p : Str × Str) : Prop := Rw H x (rB p)
theorem rb_mono : TkMono RB := fun H H' x w k h => Rw.tk h k
def tierW (B : Bk) (b : List Str) (z : Str) : List Str := if tierMet B b z = true then [] else ["tier"]
def wantW (B : Bk) (b : List Str) (z : Str) : List Str := (B.wl.filter fun w => decide (w.skill = z) && !rowMet b w).map (·.kind)
def wordsB (B : Bk) (b : List Str) (z : Str) : List Str := tierW B b z ++ wantW B b z
def addW (acc : List (Str × Str)) (p : Str × Str) : List (Str × Str) := if p ∈ acc then acc else acc ++ [p]
def addWs (acc : List (Str × Str)) (z : Str) (ws : List Str) : List (Str × Str) := (ws.map fun w => (z, w)).foldl addW acc
def pairsB (B : Bk) (b : List Str) (b' : List Str) : List (Str × Str) := b'.foldl (fun acc z => addWs acc z (wordsB B b z)) []
def manyB (B : Bk) (b : List Str) : Int := ((b.length : Nat) : Int) - sizeLet B b
def lacksB (B : Bk) (b : List Str) : List Lk := ((pairsB B b b).map Lk.word ++ (B.bars.filter (barOn b)).map Lk.bar) ++ (if 0 < manyB B b then [Lk.pts (manyB B b)] else [])
theorem eqv_str2 (x y : Str) : PyData.eqv (.str x) (.str y) = decide (x = y) := by
  simp only [PyData.eqv]
  rfl
theorem eqv_tB2 (p r : Str × Str) : PyData.eqv (tB p) (tB r) = decide (p = r) := by
  have e : PyData.eqv (tB p) (tB r) = (decide (p.1 = r.1) && (decide (p.2 = r.2) && true)) := by
    rw [← eqv_str2, ← eqv_str2]
    simp only [tB, PyData.eqv, PyData.eqvAll]
  rw [e, Bool.and_true, ← Bool.decide_and, decide_eq_decide]
  exact ⟨fun h => Prod.ext h.1 h.2, fun h => by rw [h]; exact ⟨rfl, rfl⟩⟩
/-- words that a pair may have -/
def lkOk (z : Str) : Bool := PyData.strOk z
theorem tier_ok : PyData.strOk "tier" = true := by decide +kernel
structure PairsOk (ns : List Str) (ps : List (Str × Str)) : Prop where
  all : ∀ p ∈ ps, p.1 ∈ ns ∧ PyData.strOk p.2 = true
theorem rb_dp {K : PySem.W.Frag} {H : Hp} : ∀ {xs : List V} {ps : List (Str × Str)}, Paired (RB H) xs ps → DpAll K H xs (ps.map tB)
  | _, _, .nil => .nil
  | _, _, .cons r t => by
    obtain ⟨p, rfl, hp⟩ := r
    exact .cons (dp_tB hp) (rb_dp t)
theorem words_ok {B : Bk} (ok : BkR B) (b : List Str) (z w : Str) (h : w ∈ wordsB B b z) : PyData.strOk w = true := by
  rcases List.mem_append.mp h with h | h
  · unfold tierW at h
    split at h
    · cases h
    · rw [List.mem_singleton.mp h]
      exact tier_ok
  · obtain ⟨v, hv, rfl⟩ := List.mem_map.mp h
    exact kind_ok (ok.w v (List.mem_filter.mp hv).1).kind
theorem addW_ok {ns : List Str} {acc : List (Str × Str)} {p : Str × Str} (h : PairsOk ns acc) (hp : p.1 ∈ ns ∧ PyData.strOk p.2 = true) : PairsOk ns (addW acc p) := by
  unfold addW
  split
  · exact h
  · refine ⟨fun q hq => ?_⟩
    rcases List.mem_append.mp hq with hq | hq
    · exact h.all q hq
    · rw [List.mem_singleton.mp hq]
      exact hp
theorem addWs_ok {ns : List Str} {z : Str} (hz : z ∈ ns) : ∀ {ws : List Str} {acc : List (Str × Str)}, PairsOk ns acc → (∀ w ∈ ws, PyData.strOk w = true) → PairsOk ns (addWs acc z ws)
  | [], _, h, _ => h
  | w :: ws, acc, h, hw => addWs_ok hz (ws := ws) (acc := addW acc (z, w)) (addW_ok h ⟨hz, hw w List.mem_cons_self⟩) fun v hv => hw v (List.mem_cons_of_mem _ hv)
theorem fold_ok {B : Bk} (ok : BkR B) (b : List Str) : ∀ {b' : List Str} {acc : List (Str × Str)}, (∀ z ∈ b', z ∈ B.ns) → PairsOk B.ns acc → PairsOk B.ns (b'.foldl (fun acc z => addWs acc z (wordsB B b z)) acc)
  | [], _, _, h => h
  | z :: b', acc, hb, h => fold_ok ok b (b' := b') (fun y hy => hb y (List.mem_cons_of_mem _ hy)) (addWs_ok (hb z List.mem_cons_self) h fun w hw => words_ok ok b z w hw)
theorem pairs_ok {B : Bk} (ok : BkR B) (b : List Str) {b' : List Str} (hb : ∀ z ∈ b', z ∈ B.ns) : PairsOk B.ns (pairsB B b b') := fold_ok ok b hb ⟨fun p hp => (nomatch hp)⟩
theorem shaped_pairs {ns : List Str} {ps : List (Str × Str)} (oks : Oks ns) (h : PairsOk ns ps) : SeqAt.shaped (.list (ps.map tB)) = true := by
  refine shaped_lst fun d hd => ?_
  obtain ⟨p, hp, rfl⟩ := List.mem_map.mp hd
  obtain ⟨h1, h2⟩ := lay_tB (oks _ (h.all p hp).1) (h.all p hp).2
  exact ⟨h1, by omega⟩
theorem any_pair (ps : List (Str × Str)) (p : Str × Str) : ((ps.map tB).any fun z => PyData.eqv z (tB p)) = decide (p ∈ ps) := by
  induction ps with
  | nil => rfl
  | cons q ps ih =>
    rw [List.map_cons, List.any_cons, ih, eqv_tB2]
    by_cases e : q = p
    · subst e
      rw [decide_eq_true rfl, Bool.true_or, decide_eq_true List.mem_cons_self]
    · rw [decide_eq_false e, Bool.false_or]
      rw [decide_eq_decide]
      exact ⟨fun h => List.mem_cons_of_mem _ h, fun h => (List.mem_cons.mp h).resolve_left fun q => e q.symm⟩
theorem addW_len (acc : List (Str × Str)) (p : Str × Str) : (addW acc p).length ≤ acc.length + 1 := by
  unfold addW
  split
  · omega
  · rw [List.length_append]
    exact Nat.le_refl _
theorem addWs_len (z : Str) : ∀ (ws : List Str) (acc : List (Str × Str)), (addWs acc z ws).length ≤ acc.length + ws.length
  | [], _ => Nat.le_refl _
  | w :: ws, acc => by
    have h1 := addWs_len z ws (addW acc (z, w))
    have h2 := addW_len acc (z, w)
    show (addWs (addW acc (z, w)) z ws).length ≤ _
    rw [List.length_cons]
    omega
theorem words_len {B : Bk} (ok : BkR B) (b : List Str) (z : Str) : (wordsB B b z).length ≤ 13 := by
  unfold wordsB tierW wantW
  rw [List.length_append, List.length_map]
  have h1 := List.length_filter_le (fun w : Want => decide (w.skill = z) && !rowMet b w) B.wl
  have h2 := ok.wl
  split
  · rw [List.length_nil]
    omega
  · rw [List.length_singleton]
    omega
theorem fold_len {B : Bk} (ok : BkR B) (b : List Str) : ∀ (b' : List Str) (acc : List (Str × Str)), (b'.foldl (fun acc z => addWs acc z (wordsB B b z)) acc).length ≤ acc.length + 13 * b'.length
  | [], _ => Nat.le_refl _
  | z :: b', acc => by
    have h1 := fold_len ok b b' (addWs acc z (wordsB B b z))
    have h2 := addWs_len z (wordsB B b z) acc
    have h3 := words_len ok b z
    show (b'.foldl _ (addWs acc z (wordsB B b z))).length ≤ _
    rw [List.length_cons]
    omega
theorem pairs_len {B : Bk} (ok : BkR B) (b b' : List Str) : (pairsB B b b').length ≤ 13 * b'.length := by
  have := fold_len ok b b' []
  unfold pairsB
  rw [List.length_nil] at this
  omega
theorem pairs_snoc (B : Bk) (b b' : List Str) (z : Str) : pairsB B b (b' ++ [z]) = addWs (pairsB B b b') z (wordsB B b z) := by
  unfold pairsB
  rw [List.foldl_append]
  rfl
end Rt
end
section
set_option Elab.async false
set_option linter.all false
set_option maxRecDepth 100000
set_option maxHeartbeats 8000000
/-! what is lacking in a build, by the laws: the walk -/
namespace Rt
open PySem PySem.Spec PyProof.Rows L2
def spLacksOf (K : PySem.W.Frag) : Sp := fun vs H Q _ => ∃ (d a : Addr) (B : Bk) (b : List Str), vs = [.ref d, .ref a] ∧ BkAt H d B ∧ BkR B ∧ Oks B.ns ∧ SqT K H a (b.map V.str) ∧ BdOk B b ∧
  ∀ (l : Addr) (H' : Hp) (xs : List V), H l = none → Same H H' → H' l = some (.lst xs) → Paired (LkAt H') xs (lacksB B b) → Q (.ref l) H'
theorem filt_if {α β : Type} (f : α → β) (p : α → Bool) {xs : List α} {i : Nat} {x : α} (h : xs[i]? = some x) : ((xs.take (i + 1)).filter p).map f = ((xs.take i).filter p).map f ++ (if p x = true then [f x] else []) := by
  by_cases e : p x = true
  · rw [if_pos e, filt_one f p h e]
  · rw [if_neg e, List.append_nil]
    rw [Bool.not_eq_true] at e
    exact filt_no f p h e
theorem rb_lk {H : Hp} : ∀ {xs : List V} {ps : List (Str × Str)}, Paired (RB H) xs ps → Paired (LkAt H) xs (ps.map Lk.word)
  | _, _, .nil => .nil
  | _, _, .cons r t => .cons r (rb_lk t)
theorem pts_pair {H : Hp} {t : Addr} (m : Int) (h : H t = some (.tup [.str "points", .int m])) : Paired (LkAt H) (List.replicate (if decide (0 < m) = true then (1 : Int) else 0).toNat [V.ref t]).flatten (if 0 < m then [Lk.pts m] else []) := by
  by_cases e : 0 < m
  · rw [if_pos e, decide_eq_true e]
    exact .cons ⟨t, rfl, h⟩ .nil
  · rw [if_neg e, decide_eq_false e]
    exact .nil
theorem rep_in {ps : List (Str × Str)} {p : Str × Str} {xs : List V} {x : V} {H : Hp} (h : Paired (RB H) xs ps) (hx : RB H x p) : Paired (RB H) (xs ++ (List.replicate (if (!decide (p ∈ ps)) = true then (1 : Int) else 0).toNat [x]).flatten) (addW ps p) := by
  unfold addW
  by_cases e : p ∈ ps
  · rw [if_pos e, decide_eq_true e]
    simpa using h
  · rw [if_neg e, decide_eq_false e]
    exact paired_snoc hx h
section
variable {P : Program} {w : World} {K : PySem.W.Frag} {mg : Str → Option Value} {base : Heap}
end
end Rt
end
section
set_option Elab.async false
set_option linter.all false
set_option maxRecDepth 100000
set_option maxHeartbeats 8000000
/-! dict(zip(x, y)), x and y lists or tuples of one length -/
namespace Rt
open PySem PySem.Spec PyProof.Rows L2
section
variable {P : Program} {w : World} {A : Around} {E : Value → Shared → Prop} {sh : Shared} {zp ti tu T ia ib : Addr} {fa fb : List Addr} {m i : Nat} {P1 P2 : Nat → Value → Prop} {S1 S2 : Nat → Heap → Prop}
/-- the next pair while the one ahead is still held -/
theorem dz_item {Q : Value → Shared → Prop} {f : Bool} {oT : Obj} (Z : ZipSep2 zp ti tu ia ib fa fb) (D1 : Draws P w A ia fa m P1 S1) (D2 : Draws P w A ib fb m P2 S2)
    (hZ : IsZipHeld sh.heap zp ti tu T f) (hT : sh.heap.get? T = some oT) (hI : IsTupOf2 sh.heap ti (.ref ia) (.ref ib)) (t1 : S1 i sh.heap) (t2 : S2 i sh.heap) (lt : i < m)
    (hQ : ∀ x1 x2 h' tk, P1 i x1 → P2 i x2 → IsZipHeld h' zp ti tu T true → S1 (i + 1) h' → S2 (i + 1) h' → IsTupOf2 h' sh.heap.objs.size x1 x2 → (∀ c o, c ≠ zp → c ≠ ia → c ≠ ib → sh.heap.get? c = some o → h'.get? c = some o) → Q (.ref sh.heap.objs.size) { sh with heap := h', toks := tk }) :
    wpAny (model P w) A (Builtin.«zip.__next__» ⟨[.ref zp], []⟩) (fun r s' => ∃ v, r = .done (.ret v) ∧ Q v s') E sh := by
  obtain ⟨h0, gs, dr, tk0, os⟩ := sh
  show wpAny _ _ (field (.ref zp) 2 >>= _) _ _ _
  refine wpAny_bind (wpAny_field hZ rfl (x := .bool false) rfl ?_)
  show wpAny _ _ (field (.ref zp) 3 >>= _) _ _ _
  refine wpAny_bind (wpAny_field hZ rfl (x := .ref ti) rfl (wpAny_bind (wpAny_seqItems hI rfl ?_)))
  show wpAny _ _ (Builtin.SmallTypes.ownedTupleIsFree (.ref zp) >>= _) _ _ _
  refine wpAny_bind (wpAny_tupleHeld_zip hZ hT fun h1 hZ1 e1 => ?_)
  replace e1 : Heap.SameBut zp h0 h1 := e1
  simp only [Bool.false_eq_true, if_false]
  refine wpAny_bind ?_
  rw [← Array.forIn_toList]
  simp only [List.forIn_cons, List.forIn_nil]
  refine wpAny_bind (wpAny_bind (wpAny_holding ?_))
  show wpAny _ _ (Builtin.SmallTypes.nextOf (.ref ia) >>= _) _ _ ⟨h1, gs, dr, tk0, os⟩
  refine wpAny_bind (D1.item i _ _ _ lt (D1.over t1 e1 Z.zf1) fun x1 h2 tk1 p1 n1 e2 => wpAny_pure (wpAny_pure ?_))
  replace e2 : Heap.SameBut ia h1 h2 := e2
  refine wpAny_bind (wpAny_bind (wpAny_holding ?_))
  show wpAny _ _ (Builtin.SmallTypes.nextOf (.ref ib) >>= _) _ _ ⟨h2, gs, dr, tk1, os⟩
  refine wpAny_bind (D2.item i _ _ _ lt (D2.over (D2.over t2 e1 Z.zf2) e2 Z.sep1_2) fun x2 h3 tk2 p2 n2 e3 => wpAny_pure (wpAny_pure (wpAny_pure ?_)))
  replace e3 : Heap.SameBut ib h2 h3 := e3
  show wpAny _ _ (newTuple [x1, x2] >>= _) _ _ ⟨h3, gs, dr, tk2, os⟩
  refine wpAny_bind (wpAny_newTuple ?_)
  have sz : h3.objs.size = h0.objs.size := by rw [e3.1, e2.1, e1.1]
  have hZ3 : IsZipHeld h3 zp ti tu T true := e3.extBut _ _ Z.zi2 (e2.extBut _ _ Z.zi1 hZ1)
  have kp : ∀ c o, c ≠ zp → c ≠ ia → c ≠ ib → h0.get? c = some o → h3.get? c = some o := fun c o c1 c2 c3 e => e3.extBut _ _ c3 (e2.extBut _ _ c2 (e1.extBut _ _ c1 e))
  have n1' : S1 (i + 1) h3 := D1.over n1 e3 Z.sep2_1
  refine wpAny_pure ⟨_, rfl, ?_⟩
  show Q (.ref h3.objs.size) ⟨h3.push { cls := .type "tuple", data := .seq #[x1, x2] }, gs, dr, tk2, os⟩
  have hp : IsTupOf2 (h3.push { cls := .type "tuple", data := .seq #[x1, x2] }) h3.objs.size x1 x2 := Heap.get?_push_size _ rfl
  rw [sz] at hp ⊢
  exact hQ x1 x2 _ tk2 p1 p2 (Heap.get?_push_of_some _ hZ3) (D1.frame _ _ _ n1' fun b _ o e => Heap.get?_push_of_some _ e) (D2.frame _ _ _ n2 fun b _ o e => Heap.get?_push_of_some _ e) hp fun c o c1 c2 c3 e => Heap.get?_push_of_some _ (kp c o c1 c2 c3 e)
/-- no next pair, while the last one is still held -/
theorem dz_end {Q : Fin → Shared → Prop} {f : Bool} {oT : Obj} (Z : ZipSep2 zp ti tu ia ib fa fb) (D1 : Draws P w A ia fa m P1 S1)
    (hZ : IsZipHeld sh.heap zp ti tu T f) (hT : sh.heap.get? T = some oT) (hI : IsTupOf2 sh.heap ti (.ref ia) (.ref ib)) (t1 : S1 m sh.heap)
    (hE : ∀ h' e, (∀ c o, c ≠ zp → c ≠ ia → c ≠ ib → sh.heap.get? c = some o → h'.get? c = some o) → (∃ o, h'.get? e = some o ∧ o.cls = .type "StopIteration") → E (.ref e) { sh with heap := h' }) :
    wpAny (model P w) A (Builtin.«zip.__next__» ⟨[.ref zp], []⟩) Q E sh := by
  obtain ⟨h0, gs, dr, tk0, os⟩ := sh
  show wpAny _ _ (field (.ref zp) 2 >>= _) _ _ _
  refine wpAny_bind (wpAny_field hZ rfl (x := .bool false) rfl ?_)
  show wpAny _ _ (field (.ref zp) 3 >>= _) _ _ _
  refine wpAny_bind (wpAny_field hZ rfl (x := .ref ti) rfl (wpAny_bind (wpAny_seqItems hI rfl ?_)))
  show wpAny _ _ (Builtin.SmallTypes.ownedTupleIsFree (.ref zp) >>= _) _ _ _
  refine wpAny_bind (wpAny_tupleHeld_zip hZ hT fun h1 hZ1 e1 => ?_)
  replace e1 : Heap.SameBut zp h0 h1 := e1
  simp only [Bool.false_eq_true, if_false]
  refine wpAny_bind ?_
  rw [← Array.forIn_toList]
  simp only [List.forIn_cons, List.forIn_nil]
  refine wpAny_bind (wpAny_bind (wpAny_holding ?_))
  show wpAny _ _ (Builtin.SmallTypes.nextOf (.ref ia) >>= _) _ _ ⟨h1, gs, dr, tk0, os⟩
  exact wpAny_bind (D1.done _ _ _ (D1.over t1 e1 Z.zf1) fun h2 e k he => hE h2 e (fun c o c1 c2 _ x => k _ _ c2 (e1.extBut _ _ c1 x)) he)
end
section
variable {P : Program} {w : World}
theorem dz_arg {zp ti tu ia ib : Addr} {fa fb : List Addr} {m : Nat} {P1 P2 : Nat → Value → Prop} {S1 S2 : Nat → Heap → Prop} (Z : ZipSep2 zp ti tu ia ib fa fb)
    (D1 : ∀ A : Around, A.handled = none → Draws P w A ia fa m P1 S1) (D2 : ∀ A : Around, A.handled = none → Draws P w A ib fb m P2 S2) :
    PairArg P w "zip" zp (zp :: ti :: tu :: (fa ++ fb)) [zp, tu, ia, ib] m (fun i k v => P1 i k ∧ P2 i v)
      (fun h => IsZip h zp ti tu .none ∧ IsTupOf2 h ti (.ref ia) (.ref ib) ∧ (∃ a b, IsTupOf2 h tu a b) ∧ S1 0 h ∧ S2 0 h ∧ ∀ b ∈ fa ++ fb, ∃ o, h.get? b = some o) where
  type := fun s ok => ⟨_, ok.1, rfl⟩
  notDict := by decide
  keep := fun h h' ok hk => by
    obtain ⟨hZ, hI, ⟨a, b, hU⟩, t1, t2, th⟩ := ok
    exact ⟨hk _ _ hZ, hk _ _ hI, ⟨a, b, hk _ _ hU⟩, (D1 { handled := none } rfl).frame _ _ _ t1 fun b _ o e => hk _ _ e, (D2 { handled := none } rfl).frame _ _ _ t2 fun b _ o e => hk _ _ e, fun b hb => let ⟨o, e⟩ := th b hb; ⟨o, hk _ _ e⟩⟩
  there := fun h ok b hb => by
    obtain ⟨hZ, hI, ⟨a, c, hU⟩, t1, t2, th⟩ := ok
    rcases List.mem_cons.mp hb with rfl | hb
    · exact ⟨_, hZ⟩
    rcases List.mem_cons.mp hb with rfl | hb
    · exact ⟨_, hI⟩
    rcases List.mem_cons.mp hb with rfl | hb
    · exact ⟨_, hU⟩
    · exact th b hb
  sub := fun b hb => by
    have m1 := Z.mem1
    have m2 := Z.mem2
    simp only [List.mem_cons, List.not_mem_nil, or_false, List.mem_append] at hb ⊢
    rcases hb with rfl | rfl | rfl | rfl
    · exact .inl rfl
    · exact .inr (.inr (.inl rfl))
    · exact .inr (.inr (.inr (.inl m1)))
    · exact .inr (.inr (.inr (.inr m2)))
  noKeys := fun A s Q E hA ok h => getAttrOr_miss_zip ok.1 rfl rfl rfl zip_no_keys (by decide +kernel) hA h
  iter := fun A s d Q E hA ok hd hdf h => by
    obtain ⟨hZ, hI, ⟨a, b, hU⟩, t1, t2, th⟩ := ok
    have dz : d ≠ zp := fun e => hdf (by rw [e]; simp)
    have di : d ≠ ti := fun e => hdf (by rw [e]; simp)
    have du : d ≠ tu := fun e => hdf (by rw [e]; simp)
    have dfa : ∀ b ∈ fa, b ≠ d := fun b hb e => hdf (by rw [← e]; simp [hb])
    have dfb : ∀ b ∈ fb, b ≠ d := fun b hb e => hdf (by rw [← e]; simp [hb])
    have E1 := D1 A hA
    have E2 := D2 A hA
    have I1 := D1 A.in1 hA
    have I2 := D2 A.in1 hA
    refine wpAny_pyIter_zip hZ (h zp [zp, tu, ia, ib] (fun i g => IsTupOf2 g ti (.ref ia) (.ref ib) ∧ S1 i g ∧ S2 i g ∧
      ((IsZip g zp ti tu .none ∧ ∃ a b, IsTupOf2 g tu a b) ∨ ∃ T f oT, IsZipHeld g zp ti tu T f ∧ g.get? T = some oT ∧ T ≠ zp ∧ T ≠ ia ∧ T ≠ ib ∧ T ≠ d)) s.heap s.toks ?_
      ⟨hI, t1, t2, .inl ⟨hZ, a, b, hU⟩⟩ (fun _ _ e => e) fun b hb => .inl hb)
    have off4 : ∀ {c : Addr}, c ∉ [zp, tu, ia, ib] → c ≠ zp ∧ c ≠ tu ∧ c ≠ ia ∧ c ≠ ib := fun {c} hc => ⟨fun x => hc (by simp [x]), fun x => hc (by simp [x]), fun x => hc (by simp [x]), fun x => hc (by simp [x])⟩
    refine ⟨fun hm => ?_, fun i g g' st hk => ?_, fun i s' Q' E' hi st hds hQ => ?_, fun s' Q' E' st hQ => ?_⟩
    · simp only [List.mem_cons, List.not_mem_nil, or_false] at hm
      rcases hm with e | e | e | e
      · exact dz e
      · exact du e
      · exact dfa _ Z.mem1 e.symm
      · exact dfb _ Z.mem2 e.symm
    · obtain ⟨q1, q2, q3, q4⟩ := st
      refine ⟨hk _ _ di.symm q1, E1.frame _ _ _ q2 fun b hb o e => hk _ _ (dfa b hb) e, E2.frame _ _ _ q3 fun b hb o e => hk _ _ (dfb b hb) e, ?_⟩
      rcases q4 with ⟨hz, a, b, hu⟩ | ⟨T, f, oT, hz, hT, r1, r2, r3, r4⟩
      · exact .inl ⟨hk _ _ dz.symm hz, a, b, hk _ _ du.symm hu⟩
      · exact .inr ⟨T, f, oT, hk _ _ dz.symm hz, hk _ _ r4 hT, r1, r2, r3, r4⟩
    · obtain ⟨q1, q2, q3, q4⟩ := st
      have ne : ∀ {c o}, s'.heap.get? c = some o → s'.heap.objs.size ≠ c := fun e => Nat.ne_of_gt (Heap.lt_size e)
      obtain ⟨oa, la⟩ := E1.live _ _ q2
      obtain ⟨ob, lb⟩ := E2.live _ _ q3
      rcases q4 with ⟨hz, a, b, hu⟩ | ⟨T, f, oT, hz, hT, r1, r2, r3, r4⟩
      · refine wpAny_pyNext_zipD2_item Z I1 I2 hz q1 hu q2 q3 hi hi fun x1 x2 h' tk p1 p2 b1 b2 n1 n2 b5 b6 hk => ?_
        exact hQ _ x1 x2 h' tk ⟨p1, p2⟩ (.inl ⟨_, b5, rfl, _, rfl⟩) ⟨hk _ _ Z.TIz Z.TITO Z.TIi1 Z.TIi2 q1, n1, n2, .inr ⟨_, false, _, b1, b5, ne hz, ne la, ne lb, Nat.ne_of_gt hds⟩⟩
          fun c o hc e => let ⟨c1, c2, c3, c4⟩ := off4 hc; hk c o c1 c2 c3 c4 e
      · have ty : s'.TypeIs (.ref zp) "zip" := ⟨_, hz, rfl⟩
        unfold pyNext
        refine wpAny_bind (wpAny_attempt (wpAny_callSpecial?_slot (name := Str.ofString "__next__") ty F.slot_zip_next (wpAny_call_entry F.slot_zip_next ty F.entry_zip_next (dz_item Z I1 I2 hz hT q1 q2 q3 hi fun x1 x2 h' tk p1 p2 b1 n1 n2 b5 hk => ?_) (F.args_zip_next_1 _))))
        exact wpAny_pure (hQ _ x1 x2 h' tk ⟨p1, p2⟩ (.inl ⟨_, b5, rfl, _, rfl⟩) ⟨hk _ _ Z.TIz Z.TIi1 Z.TIi2 q1, n1, n2, .inr ⟨T, true, oT, b1, hk _ _ r1 r2 r3 hT, r1, r2, r3, r4⟩⟩
          fun c o hc e => let ⟨c1, _, c3, c4⟩ := off4 hc; hk c o c1 c3 c4 e)
    · obtain ⟨q1, q2, q3, q4⟩ := st
      rcases q4 with ⟨hz, a, b, hu⟩ | ⟨T, f, oT, hz, hT, r1, r2, r3, r4⟩
      · exact wpAny_pyNext_zipD2_end Z I1 I2 hz q1 hu q2 q3 (Nat.le_refl _) (Nat.le_refl _) (.inl rfl) fun h' tk hk => hQ h' tk fun c o hc e => let ⟨c1, c2, c3, c4⟩ := off4 hc; hk c o c1 c2 c3 c4 e
      · have ty : s'.TypeIs (.ref zp) "zip" := ⟨_, hz, rfl⟩
        unfold pyNext
        refine wpAny_bind (wpAny_attempt (wpAny_callSpecial?_slot (name := Str.ofString "__next__") ty F.slot_zip_next (wpAny_call_entry F.slot_zip_next ty F.entry_zip_next (dz_end Z I1 hz hT q1 q2 fun h' e hk he => ?_) (F.args_zip_next_1 _))))
        obtain ⟨o, ho, hc⟩ := he
        refine wpAny_bind (wpAny_isInstance (T := "StopIteration") (b := true) ⟨o, ho, hc⟩ isSubtype_stop (wpAny_pure (hQ h' _ fun c o hc e => ?_)))
        obtain ⟨c1, _, c3, c4⟩ := off4 hc
        exact hk c o c1 c3 c4 e
end
end Rt
end
section
set_option Elab.async false
set_option linter.all false
set_option maxRecDepth 100000
set_option maxHeartbeats 8000000
/-! dict(zip(x, y)) in the hand layer -/
namespace Rt
open PySem PySem.Spec PyProof.Rows L2
theorem dz_src {X : Cx} {pins : List (Addr × Obj)} {σ : L2.St} {H : Hp} {s : Shared} (I : Inv X pins σ H s) {a : Addr} {xs : List V} (h : Sq X.K H a xs) :
    ∃ (its : List Value) (o : Obj) (Hs : Heap → Prop), Vals xs its ∧ Begins (.ref a) o Hs ∧ Hs s.heap ∧ (∃ ob, s.heap.get? a = some ob) ∧
      ∀ it, a ≠ it → ∃ St : Nat → Heap → Prop, (∀ A : Around, A.handled = none → Draws X.prog X.w A it [it, a] xs.length (fun i v => its[i]? = some v) St) ∧ ∀ g : Heap, g.get? it = some o → Hs g → St 0 g := by
  have eP : ∀ its : List Value, (fun (i : Nat) (v : Value) => its.toArray[i]? = some v) = fun i v => its[i]? = some v := fun its => by
    funext i v
    simp
  rcases h with h | h
  · obtain ⟨its, rv, pl, hz⟩ := I.list h
    have hl := pl.isList
    refine ⟨its, _, _, rv, begins_list a its.toArray, hl, let ⟨o, e, _⟩ := hl; ⟨o, e⟩, fun it ne => ⟨fun i g => g.IsListIter it a i ∧ g.IsList a its.toArray, fun A hh => ?_, fun g e hs => ⟨⟨_, e, rfl, rfl⟩, hs⟩⟩⟩
    have D := Draws.list (prog := X.prog) (w := X.w) hh it a ne its.toArray
    rw [List.size_toArray, ← rv.length, eP] at D
    exact D
  · obtain ⟨its, rv, pl, hz⟩ := I.tuple h
    have hl : s.heap.IsTuple a its.toArray := pl
    refine ⟨its, _, _, rv, begins_tuple a its.toArray, hl, let ⟨o, e, _⟩ := hl; ⟨o, e⟩, fun it ne => ⟨fun i g => g.IsTupleIter it a i ∧ g.IsTuple a its.toArray, fun A hh => ?_, fun g e hs => ⟨⟨_, e, rfl, rfl⟩, hs⟩⟩⟩
    have D := Draws.tuple (prog := X.prog) (w := X.w) hh it a ne its.toArray
    rw [List.size_toArray, ← rv.length, eP] at D
    exact D
theorem lt_four (N c : Nat) (h : c < N) : c ≠ N + 4 ∧ c ≠ N + 3 ∧ c ≠ N ∧ c ≠ N + 1 := by omega
theorem no_two {x p q : Nat} (h1 : x ≠ p) (h2 : x ≠ q) : (x : Addr) ∉ ([p, q] : List Addr) := fun h => by
  rcases List.mem_cons.mp h with h | h
  · exact h1 h
  · exact h2 (List.mem_singleton.mp h)
theorem dz_sep (N a b : Nat) (la : a < N) (lb : b < N) : ZipSep2 (N + 4) (N + 2) (N + 3) N (N + 1) [N, a] [N + 1, b] where
  TIz := show (N + 2 : Nat) ≠ N + 4 by omega
  TOz := show (N + 3 : Nat) ≠ N + 4 by omega
  TITO := show (N + 2 : Nat) ≠ N + 3 by omega
  TIi1 := show (N + 2 : Nat) ≠ N by omega
  mem1 := List.mem_cons_self
  zf1 := no_two (by omega) (by omega)
  Tf1 := no_two (by omega) (by omega)
  TIi2 := show (N + 2 : Nat) ≠ N + 1 by omega
  mem2 := List.mem_cons_self
  zf2 := no_two (by omega) (by omega)
  Tf2 := no_two (by omega) (by omega)
  sep1_2 := no_two (by omega) (by omega)
  sep2_1 := no_two (by omega) (by omega)
theorem kv_zip : ∀ {kvs : List (Key × V)} {its : List Value}, Vals (kvs.map (·.2)) its → KV kvs ((kvs.map (·.1)).zip its)
  | [], _, .nil => .nil
  | (k, v) :: kvs, _, .cons r t => .cons ⟨rfl, r⟩ (kv_zip t)
def tDZ (K : PySem.W.Frag) (ta : TA) : TE := fun σ H Q => ta σ H fun vs H1 => ∃ (a b : Addr) (kvs : List (Key × V)), vs = [.ref a, .ref b] ∧ Sq K H1 a (kvs.map fun p => kV p.1) ∧ Sq K H1 b (kvs.map (·.2)) ∧ kvs.length ≤ 60 ∧ ∀ p, H1 p = none → Q (.ref p) (upd H1 p (.dK (mergeK [] kvs)))
theorem pe_dictZip {X : Cx} {e e2 : Expr} {ta : TA} {p p2 q pos : Pos} (hg : Gl X "dict") (hm : X.mg "dict" = none) (hg2 : Gl X "zip") (hm2 : X.mg "zip" = none) (ha : PA X [e, e2] ta) (hc : X.calm = true := by rfl)
    (hs : starEach [e, e2] X.env = (false, eval e X.env) :: starEach [e2] X.env := by rfl) (hpl : (backTo q (starEach [e2] X.env)).any (·.1) = false := by rfl) :
    PE X (.Call (.Name "dict" p) [.Call (.Name "zip" p2) [e, e2] [] q] [] pos) (tDZ X.K ta) := by
  refine ⟨fun pins s σ H Q I h => ?_⟩
  refine Call_ (ld_blt I hg hm PyProof.Rows.boot_dict ?_)
  refine PyProof.Rows.callWith_type1 (PyProof.Rows.args_cons ?_ rfl) rfl rfl
  refine Call_ (ld_blt I hg2 hm2 PyProof.Rows.boot_zip (PyProof.Rows.callWith_type1 (thn (ha.run q pins s σ H _ I h) fun us s1 ⟨vs, H1, I1, r1, q1⟩ => ?_) hs hpl))
  obtain ⟨a, b, kvs, ex, ha1, hb1, l60, k⟩ := q1
  subst ex
  cases r1 with
  | cons ra rr =>
    cases rr with
    | cons rb rn =>
      cases rn
      cases ra
      cases rb
      obtain ⟨its, o1, Hs1, rv1, B1, g1, ⟨oa, ea⟩, src1⟩ := dz_src I1 ha1
      obtain ⟨jts, o2, Hs2, rv2, B2, g2, ⟨ob, eb⟩, src2⟩ := dz_src I1 hb1
      have la := Heap.lt_size ea
      have lb := Heap.lt_size eb
      obtain ⟨St1, D1, s1z⟩ := src1 s1.heap.objs.size (Nat.ne_of_lt la)
      obtain ⟨St2, D2, s2z⟩ := src2 (s1.heap.objs.size + 1) (Nat.ne_of_lt (Nat.lt_succ_of_lt lb))
      rw [List.length_map] at D1 D2
      refine zip_begins2 B1 B2 g1 g2 fun h' hz hI hU e1 e2 hsz hk => ?_
      refine PyProof.Rows.args_nil ?_
      have Z := dz_sep s1.heap.objs.size a b la lb
      refine PySem.call_dict_pairs (knd := mixKind X.prog X.w) (kvs := (kvs.map (·.1)).zip jts) (dz_arg Z D1 D2) (I1.ok.hd hc) ⟨hz, hI, ⟨_, _, hU⟩, s1z _ e1 (B1.keeps _ _ g1 hk), s2z _ e2 (B2.keeps _ _ g2 hk), fun c hcm => ?_⟩ ⟨?_, fun i key v hv => ?_⟩ ?_ fun h2 tk hd kp => ?_
      · simp only [List.mem_append, List.mem_cons, List.not_mem_nil, or_false] at hcm
        rcases hcm with (rfl | rfl) | rfl | rfl
        · exact ⟨_, e1⟩
        · exact ⟨_, hk _ _ ea⟩
        · exact ⟨_, e2⟩
        · exact ⟨_, hk _ _ eb⟩
      · have l2 := rv2.length
        rw [List.length_map] at l2
        rw [List.length_zip, List.length_map, ← l2, Nat.min_self]
      · obtain ⟨hv1, hv2⟩ := hv
        have li : i < kvs.length := by
          have l1 := rv1.length
          rw [List.length_map] at l1
          rw [l1]
          exact (List.getElem?_eq_some_iff.mp hv1).1
        obtain ⟨u, hu, ru⟩ := rv1.get (i := i) (x := kV kvs[i].1) (by rw [List.getElem?_map, List.getElem?_eq_getElem li]; rfl)
        rw [hv1] at hu
        cases hu
        refine ⟨kvs[i].1, ?_, kV_is ru⟩
        rw [List.getElem?_zip_eq_some]
        exact ⟨by rw [List.getElem?_map, List.getElem?_eq_getElem li]; rfl, hv2⟩
      · have := sizeLine_eq
        omega
      · have kp2 : ∀ c oc, s1.heap.get? c = some oc → h2.get? c = some oc := fun c oc ec => by
          have lc := Heap.lt_size ec
          refine kp c oc (fun z => ?_) (hk _ _ ec)
          simp only [List.mem_cons, List.not_mem_nil, or_false] at z
          obtain ⟨z1, z2, z3, z4⟩ := lt_four s1.heap.objs.size c lc
          rcases z with z | z | z | z
          · exact z1 z
          · exact z2 z
          · exact z3 z
          · exact z4 z
        have le : s1.heap.objs.size ≤ h'.objs.size := by
          rw [hsz]
          exact Nat.le_add_right _ _
        have big : (h'.objs.size == sysModules) = false := beq_eq_false_iff_ne.mpr (Nat.ne_of_gt (Nat.lt_of_lt_of_le I1.big le))
        have kz := kv_zip rv2
        have lm : (mergeK [] kvs).length ≤ sizeLine := by
          have := length_mergeK kvs []
          have := sizeLine_eq
          have e0 : ([] : List (Key × V)).length = 0 := rfl
          omega
        exact ⟨.ref h'.objs.size, _, I1.laid (t' := tk) kp2 le (show ObjOk X.prog X.w _ h2 _ (.dK (mergeK [] kvs)) from ⟨lm, big, _, KV.merge kz .nil, hd⟩), rfl, k _ (I1.hok.fresh le)⟩
end Rt
end
section
set_option Elab.async false
set_option linter.all false
set_option maxRecDepth 100000
set_option maxHeartbeats 4000000
/-! told: is_ordered -/
namespace Rt
open PySem PySem.Spec PyProof.Rows L2
/-- a value as far as is_ordered sees it: a tuple of things, or something else -/
def Ov (K : PySem.W.Frag) (H : Hp) (x : V) : Option (List V) → Prop
  | some xs => ∃ b, x = .ref b ∧ SqT K H b xs ∧ (∀ y ∈ xs, ∃ T, Ts K H y T) ∧ xs.length ≤ 60
  | none => ∃ T, Ts K H x T ∧ T ≠ "tuple"
theorem Ov.same {K : PySem.W.Frag} {H H' : Hp} {x : V} {o : Option (List V)} (h : Ov K H x o) (s : Same H H') : Ov K H' x o := by
  cases o with
  | some xs =>
    obtain ⟨b, e, hb, ht, hl⟩ := h
    exact ⟨b, e, sqT_same s hb, fun y hy => let ⟨T, t⟩ := ht y hy; ⟨T, t.same s⟩, hl⟩
  | none =>
    obtain ⟨T, t, ne⟩ := h
    exact ⟨T, t.same s, ne⟩
def strsOf (xs : List V) : List Str := xs.filterMap strOf
theorem strsOf_map (ys : List Str) : strsOf (ys.map V.str) = ys := by
  unfold strsOf
  rw [List.filterMap_map]
  show ys.filterMap (fun y => some y) = ys
  induction ys with
  | nil => rfl
  | cons y ys ih => rw [List.filterMap_cons]; exact congrArg (y :: ·) ih
def ordO (ns : List Str) : Option (List V) → Bool
  | none => false
  | some xs => unlike ns xs && decide (strsOf xs = ns.filter fun z => decide (z ∈ strsOf xs))
theorem eqv_strs : ∀ ys zs : List Str, PyData.eqvAll (ys.map PyData.str) (zs.map PyData.str) = decide (ys = zs)
  | [], [] => by simp [PyData.eqvAll]
  | [], z :: zs => by simp [PyData.eqvAll]
  | y :: ys, [] => by simp [PyData.eqvAll]
  | y :: ys, z :: zs => by
    have ih := eqv_strs ys zs
    simp only [List.map_cons, PyData.eqvAll, PyData.eqv, ih]
    by_cases h : y = z
    · subst h
      simp
    · simp [h]
theorem shaped_tupS {zs : List Str} (h : Oks zs) : SeqAt.shaped (.tuple (zs.map PyData.str)) = true := by
  obtain ⟨h1, h2⟩ := lay_strs h
  refine shaped_of (by simp only [PyData.canLay0]; exact h1) ?_
  simp only [PyData.depth]
  omega
theorem Oks.filter {zs : List Str} (h : Oks zs) (p : Str → Bool) : Oks (zs.filter p) := fun z hz => h z (List.mem_filter.mp hz).1
theorem isOne_mem {ns : List Str} {z : Str} (h : isOne ns (.str z) = true) : z ∈ ns := of_decide_eq_true h
theorem unlike_back {ns : List Str} {xs : List V} (h : unlike ns xs = true) : xs = (strsOf xs).map V.str ∧ (∀ z ∈ strsOf xs, z ∈ ns) ∧ (strsOf xs).Nodup ∧ xs.length ≤ ns.length := by
  unfold unlike at h
  rw [Bool.and_eq_true, Bool.and_eq_true, Bool.not_eq_true', decide_eq_false_iff_not] at h
  obtain ⟨h1, h2, h3⟩ := h
  have e := strs_back h2
  refine ⟨e, fun z hz => ?_, of_decide_eq_true h3, by omega⟩
  have : V.str z ∈ xs := by
    rw [e]
    exact List.mem_map_of_mem hz
  exact isOne_mem (List.all_eq_true.mp h2 _ this)
def spOrd (K : PySem.W.Frag) : Sp := fun vs H Q _ => ∃ (n : Addr) (ns : List Str) (x : V) (o : Option (List V)), vs = [.ref n, x] ∧ Sq K H n (ns.map V.str) ∧ ns.length ≤ 60 ∧ Oks ns ∧ Ov K H x o ∧ ∀ H', Same H H' → Q (.bl (ordO ns o)) H'
theorem unlike_of {ns b : List Str} (h : b.length ≤ ns.length) (inn : ∀ z ∈ b, z ∈ ns) (nd : b.Nodup) : unlike ns (b.map V.str) = true := by
  unfold unlike
  rw [Bool.and_eq_true, Bool.and_eq_true, Bool.not_eq_true', decide_eq_false_iff_not]
  refine ⟨by rw [List.length_map]; omega, ?_, ?_⟩
  · rw [List.all_eq_true]
    intro x hx
    obtain ⟨z, hz, rfl⟩ := List.mem_map.mp hx
    exact decide_eq_true (inn z hz)
  · have := strsOf_map b
    unfold strsOf at this
    rw [this]
    exact decide_eq_true nd
theorem ord_sub {ns b : List Str} (nd : ns.Nodup) (h : b.Sublist ns) : ordO ns (some (b.map V.str)) = true := by
  show (unlike ns (b.map V.str) && decide (strsOf (b.map V.str) = ns.filter fun z => decide (z ∈ strsOf (b.map V.str)))) = true
  rw [unlike_of h.length_le (fun z hz => h.subset hz) (nd.sublist h), strsOf_map, filter_sub h nd]
  simp
theorem ov_tup {K : PySem.W.Frag} {H : Hp} {r : Addr} {b : List Str} (h : H r = some (.tup (b.map V.str))) (l : b.length ≤ 60) : Ov K H (.ref r) (some (b.map V.str)) :=
  ⟨r, rfl, SqT.of h, fun y hy => let ⟨z, _, e⟩ := List.mem_map.mp hy; ⟨"str", e ▸ Ts.str z⟩, by rw [List.length_map]; exact l⟩
section
variable {P : Program} {w : World} {K : PySem.W.Frag} {mg : Str → Option Value} {base : Heap}
theorem cal_is_ordered (Z : All K mg) : Cal P w K mg base CX0 3 "is_ordered" ["names", "value"] (spOrd K) := by
  obtain ⟨fd, F⟩ := Z.f_is_ordered
  have C_are_unlike : Cal P w K mg base CX0 2 "are_unlike" ["names", "values"] (spUnlike K) := cal_are_unlike Z
  refine .of ⟨fd, F, ok0 F sc_is_ordered (fun vs H Q E h => ?_) (fun cdv A outer s H vs Q E hr h => ?_)⟩ Z.g_is_ordered (fun _ _ _ _ _ _ us hl => match us, hl with | [_, _], _ => rfl)
  · obtain ⟨n, ns, x, o, rfl, _⟩ := h
    rfl
  · obtain ⟨n, ns, x, o, rfl, hn, h60, oks, ho, k⟩ := h
    refine ⟨_, (pss_cons (ps_if (PW.pt (pw_or (pt_not (pt_val (pe_callB (call_is (cn := "tuple") (by decide)) (by rfl) Z.b_isinstance boot_isinstance (pa_cons (pv 1) (pa_cons (pe_bltn (v := .ty "tuple") (by rfl) Z.b_tuple PyProof.Rows.boot_tuple rfl) pa_nil))))) (pw_or1 (pt_not (pt_val (pe_cal C_are_unlike (hr.mono (by decide)) (by rfl) pass0 (pa_cons (pv 0) (pa_cons (pv 1) pa_nil)))))))) (pss_one (ps_ret pe_bl)) pss_nil)
      (pss_one (ps_ret (pe_cmpR (op_eqD hr.units) (pv 1) (pe_callTy call_tuple_of (by rfl) Z.b_tuple PyProof.Rows.boot_tuple (pa_cons (pe_lc (own := [("name", 2)]) (by rfl) sc_is_ordered.nd (pi_seq (pv 0)) (blkOk_by (own := [("name", 2)]) (N := ["names", "value", "name"]) (sc := defScope s_is_ordered) (by decide +kernel)) (fun _ _ _ _ _ => (pg_name (i := 2) sc_is_ordered.nd rfl (Or.inl rfl))) (fun _ _ _ _ _ => (pts_one (pt_cmpR (show OpR _ (compareOp .In) (rIn K false) from op_in_seq) (pv 2) (pv 1) rfl))) (fun _ _ _ _ _ => (pv 2))) pa_nil)) (nomark _))))), ?_⟩
    cases o with
    | none =>
      obtain ⟨T, t, ne⟩ := ho
      refine ⟨_, rfl, x, T, rfl, t, _, rfl, ifT (by simp [answ, ne]) (k H (Same.refl H))⟩
    | some xs =>
      obtain ⟨b, rfl, hb, ht, hl⟩ := ho
      refine ⟨_, rfl, .ref b, "tuple", rfl, .tup hb, _, rfl, ifF (by decide) ⟨_, rfl, _, rfl, n, ns, b, xs, rfl, hn, .inr hb, ht, hl, h60, fun H1 s1 => ?_⟩⟩
      refine ⟨_, rfl, ifB (fun e => ?_) (fun e => ?_)⟩
      · have z : ordO ns (some xs) = false := by
          rw [Bool.not_eq_true'] at e
          show (unlike ns xs && _) = false
          rw [e]
          rfl
        rw [z] at k
        exact k H1 s1
      · rw [Bool.not_eq_false'] at e
        obtain ⟨back, inn, nd, ll⟩ := unlike_back e
        have hb1 := sqT_same s1 hb
        have hn1 := hn.same s1
        have hbs : SqT K H1 b ((strsOf xs).map V.str) := by
          rw [← back]
          exact hb1
        refine ⟨_, rfl, _, rfl, n, rfl, lc_seq hn1 (fun i => ((ns.take i).filter fun z => decide (z ∈ strsOf xs)).map V.str) rfl (fun D nD i y Hy hi' p => ?_) fun D H2 nD s2 at2 => ?_⟩
        · obtain ⟨z, rfl, hz⟩ := strs_get hi'
          refine ⟨rfl, _, rfl, _, rfl, b, (strsOf xs).map V.str, rfl, .inr (sqT_same p.same hbs), rfl, flat_strsV _, _, rfl, ?_⟩
          rw [inV_strs]
          by_cases e : z ∈ strsOf xs
          · refine ifT (decide_eq_true e) ⟨_, rfl, p.put nD (filt_one V.str _ hz (decide_eq_true e)) (line_of (m := 60) ?_ (by decide))⟩
            rw [List.length_map]
            exact Nat.le_trans (List.length_filter_le _ _) (Nat.le_trans (List.length_take_le' _ _) h60)
          · exact ifF (decide_eq_false e) (p.skip (filt_no V.str _ hz (decide_eq_false e)))
        · rw [List.length_map, List.take_length] at at2
          refine ⟨D, _, rfl, .inl ⟨SqL.of at2, fun t nt => ?_⟩⟩
          refine ⟨.tuple ((strsOf xs).map PyData.str), .tuple ((ns.filter fun z => decide (z ∈ strsOf xs)).map PyData.str), .tup (sqT_same (s2.trans (Same.new nt)) hbs) (dpAll_strs _), .tup (SqT.of upd_same) (dpAll_strs _), shaped_tupS fun z hz => oks z (inn z hz), shaped_tupS (oks.filter _), ?_⟩
          have z : ordO ns (some xs) = PyData.eqv (.tuple ((strsOf xs).map PyData.str)) (.tuple ((ns.filter fun z => decide (z ∈ strsOf xs)).map PyData.str)) := by
            show (unlike ns xs && _) = _
            rw [e, Bool.true_and]
            simp only [PyData.eqv]
            rw [eqv_strs]
          rw [z] at k
          exact k _ ((s1.trans s2).trans (Same.new nt))
end
end Rt
end
section
set_option Elab.async false
set_option linter.all false
set_option maxRecDepth 100000
set_option maxHeartbeats 4000000
/-! what is told of a value is told of it later -/
namespace Rt
open PySem PySem.Spec PyProof.Rows L2
open LamX (ExtN)
theorem xn_sqT {K : PySem.W.Frag} {H H' : Hp} {b : Addr} {xs : List V} (e : ExtN H H') (h : SqT K H b xs) : SqT K H' b xs := by
  rcases h with (h | ⟨o, h⟩) | h
  · exact .inl (.inl (e _ _ h fun _ z => by cases z))
  · exact .inl (.inr ⟨o, e _ _ h fun _ z => by cases z⟩)
  · exact .inr h
theorem Ts.xn {K : PySem.W.Frag} {H H' : Hp} {x : V} {T : String} (h : Ts K H x T) (e : ExtN H H') : Ts K H' x T := by
  cases h with
  | non => exact .non
  | bl b => exact .bl b
  | int i => exact .int i
  | str x => exact .str x
  | tup h => exact .tup (xn_sqT e h)
  | lst h => exact .lst (e _ _ h fun _ z => by cases z)
  | dct h => exact .dct (e _ _ h fun _ z => by cases z)
theorem Ov.xn {K : PySem.W.Frag} {H H' : Hp} {x : V} {o : Option (List V)} (h : Ov K H x o) (s : ExtN H H') : Ov K H' x o := by
  cases o with
  | some xs =>
    obtain ⟨b, e, hb, ht, hl⟩ := h
    exact ⟨b, e, xn_sqT s hb, fun y hy => let ⟨T, t⟩ := ht y hy; ⟨T, t.xn s⟩, hl⟩
  | none =>
    obtain ⟨T, t, ne⟩ := h
    exact ⟨T, t.xn s, ne⟩
mutual
theorem Dp.same {K : PySem.W.Frag} {H H' : Hp} (e : Same H H') : ∀ {x : V} {d : PyData}, Dp K H x d → Dp K H' x d
  | _, _, .non => .non
  | _, _, .bl b => .bl b
  | _, _, .int i => .int i
  | _, _, .str x => .str x
  | _, _, .lst h1 h2 => .lst (sqL_xn (ExtN.of e) h1) (DpAll.same e h2)
  | _, _, .tup h1 h2 => .tup (sqT_same e h1) (DpAll.same e h2)
theorem DpAll.same {K : PySem.W.Frag} {H H' : Hp} (e : Same H H') : ∀ {xs : List V} {ds : List PyData}, DpAll K H xs ds → DpAll K H' xs ds
  | _, _, .nil => .nil
  | _, _, .cons h t => .cons (Dp.same e h) (DpAll.same e t)
end
theorem Rp.same {K : PySem.W.Frag} {H H' : Hp} {x : V} {t : Str} (h : Rp K H x t) (s : Same H H') : Rp K H' x t := by
  rcases h with ⟨d, dp, r⟩ | ⟨a, kvs, D, ea, h, r⟩
  · exact .inl ⟨d, Dp.same s dp, r⟩
  · exact .inr ⟨a, kvs, D, ea, s _ _ h, r⟩
mutual
theorem Dp.xn {K : PySem.W.Frag} {H H' : Hp} (e : ExtN H H') : ∀ {x : V} {d : PyData}, Dp K H x d → Dp K H' x d
  | _, _, .non => .non
  | _, _, .bl b => .bl b
  | _, _, .int i => .int i
  | _, _, .str x => .str x
  | _, _, .lst h1 h2 => .lst (sqL_xn e h1) (DpAll.xn e h2)
  | _, _, .tup h1 h2 => .tup (xn_sqT e h1) (DpAll.xn e h2)
theorem DpAll.xn {K : PySem.W.Frag} {H H' : Hp} (e : ExtN H H') : ∀ {xs : List V} {ds : List PyData}, DpAll K H xs ds → DpAll K H' xs ds
  | _, _, .nil => .nil
  | _, _, .cons h t => .cons (Dp.xn e h) (DpAll.xn e t)
end
theorem Rp.xn {K : PySem.W.Frag} {H H' : Hp} {x : V} {t : Str} (h : Rp K H x t) (s : ExtN H H') : Rp K H' x t := by
  rcases h with ⟨d, dp, r⟩ | ⟨a, kvs, D, ea, h, r⟩
  · exact .inl ⟨d, Dp.xn s dp, r⟩
  · exact .inr ⟨a, kvs, D, ea, s _ _ h (fun _ z => by cases z), r⟩
theorem Tl.xn {K : PySem.W.Frag} {H H' : Hp} {x : V} (h : Tl K H x) (s : ExtN H H') : Tl K H' x := let ⟨t, r, g⟩ := h; ⟨t, r.xn s, g⟩
theorem Tl.same {K : PySem.W.Frag} {H H' : Hp} {x : V} (h : Tl K H x) (s : Same H H') : Tl K H' x := let ⟨t, r, g⟩ := h; ⟨t, r.same s, g⟩
end Rt
end
section
set_option Elab.async false
set_option linter.all false
/-! masks: numbers with a bit for each of some names, the earlier the higher -/
namespace Rt
open PySem PySem.Spec PyProof.Rows L2
def maskF : List Str → (Str → Bool) → Nat
  | [], _ => 0
  | y :: l, f => (if f y = true then 2 ^ l.length else 0) + maskF l f
def bitN : List Str → Str → Nat
  | [], _ => 0
  | y :: l, z => if y = z then 2 ^ l.length else bitN l z
theorem maskF_lt : ∀ (l : List Str) (f : Str → Bool), maskF l f < 2 ^ l.length
  | [], _ => Nat.lt_succ_self 0
  | y :: l, f => by
    have ih := maskF_lt l f
    show (if f y = true then 2 ^ l.length else 0) + maskF l f < 2 ^ (l.length + 1)
    rw [Nat.pow_succ]
    split <;> omega
theorem maskF_bit (f : Str → Bool) : ∀ (l : List Str) (i : Nat), (maskF l f).testBit i = ((l.reverse[i]?).map f).getD false
  | [], i => by simp [maskF]
  | y :: l, i => by
    have ih := maskF_bit f l i
    have lt := maskF_lt l f
    have e : (y :: l).reverse = l.reverse ++ [y] := List.reverse_cons
    rw [e]
    show ((if f y = true then 2 ^ l.length else 0) + maskF l f).testBit i = _
    rcases Nat.lt_trichotomy i l.length with h | h | h
    · rw [List.getElem?_append_left (by rw [List.length_reverse]; exact h), ← ih]
      split
      · exact Nat.testBit_two_pow_add_gt h _
      · rw [Nat.zero_add]
    · subst h
      rw [List.getElem?_append_right (by rw [List.length_reverse]; exact Nat.le_refl _), List.length_reverse, Nat.sub_self]
      have q : (maskF l f).testBit l.length = false := Nat.testBit_lt_two_pow lt
      split
      · rename_i h
        rw [Nat.testBit_two_pow_add_eq, q]
        simp [h]
      · rename_i h
        rw [Nat.zero_add, q]
        simp [h]
    · rw [List.getElem?_eq_none (by rw [List.length_append, List.length_reverse]; exact h)]
      have q : (if f y = true then 2 ^ l.length else 0) + maskF l f < 2 ^ i := by
        have h1 := maskF_lt (y :: l) f
        have h2 : 2 ^ (l.length + 1) ≤ 2 ^ i := Nat.pow_le_pow_right (by decide) h
        exact Nat.lt_of_lt_of_le h1 h2
      rw [Nat.testBit_lt_two_pow q]
      rfl
theorem maskF_and (l : List Str) (f g : Str → Bool) : maskF l f &&& maskF l g = maskF l fun z => f z && g z := by
  refine Nat.eq_of_testBit_eq fun i => ?_
  rw [Nat.testBit_and, maskF_bit, maskF_bit, maskF_bit]
  cases l.reverse[i]? with
  | none => rfl
  | some z => rfl
theorem maskF_congr {l : List Str} {f g : Str → Bool} (h : ∀ z ∈ l, f z = g z) : maskF l f = maskF l g := by
  induction l with
  | nil => rfl
  | cons y l ih =>
    show (if f y = true then 2 ^ l.length else 0) + maskF l f = (if g y = true then 2 ^ l.length else 0) + maskF l g
    rw [h y List.mem_cons_self, ih fun z hz => h z (List.mem_cons_of_mem _ hz)]
theorem maskF_none (l : List Str) : maskF l (fun _ => false) = 0 := by
  induction l with
  | nil => rfl
  | cons y l ih =>
    show (if false = true then 2 ^ l.length else 0) + maskF l _ = 0
    rw [ih]
    rfl
theorem maskF_pos {l : List Str} {f : Str → Bool} : maskF l f ≠ 0 ↔ ∃ z ∈ l, f z = true := by
  induction l with
  | nil => simp [maskF]
  | cons y l ih =>
    have hp : 0 < 2 ^ l.length := Nat.two_pow_pos _
    show (if f y = true then 2 ^ l.length else 0) + maskF l f ≠ 0 ↔ _
    constructor
    · intro h
      by_cases e : f y = true
      · exact ⟨y, List.mem_cons_self, e⟩
      · rw [if_neg e, Nat.zero_add] at h
        obtain ⟨z, hz, q⟩ := ih.mp h
        exact ⟨z, List.mem_cons_of_mem _ hz, q⟩
    · rintro ⟨z, hz, q⟩
      rcases List.mem_cons.mp hz with rfl | hz
      · rw [if_pos q]
        omega
      · have := ih.mpr ⟨z, hz, q⟩
        omega
theorem bitN_mask {l : List Str} {z : Str} (nd : l.Nodup) : bitN l z = maskF l fun y => decide (y = z) := by
  induction l with
  | nil => rfl
  | cons y l ih =>
    have nd' := List.nodup_cons.mp nd
    show (if y = z then 2 ^ l.length else bitN l z) = (if decide (y = z) = true then 2 ^ l.length else 0) + maskF l _
    by_cases e : y = z
    · rw [if_pos e, if_pos (decide_eq_true e)]
      have q : maskF l (fun y => decide (y = z)) = maskF l fun _ => false := maskF_congr fun x hx => decide_eq_false fun h => nd'.1 (by rw [e, ← h]; exact hx)
      rw [q, maskF_none]
      omega
    · rw [if_neg e, if_neg (by rw [decide_eq_false e]; decide), Nat.zero_add, ih nd'.2]
theorem maskF_add {l : List Str} {f g : Str → Bool} (h : ∀ z ∈ l, (f z && g z) = false) : maskF l f + maskF l g = maskF l fun z => f z || g z := by
  induction l with
  | nil => rfl
  | cons y l ih =>
    have ih := ih fun z hz => h z (List.mem_cons_of_mem _ hz)
    have hy := h y List.mem_cons_self
    show ((if f y = true then 2 ^ l.length else 0) + maskF l f) + ((if g y = true then 2 ^ l.length else 0) + maskF l g) = (if (f y || g y) = true then 2 ^ l.length else 0) + maskF l _
    rw [← ih]
    cases e1 : f y <;> cases e2 : g y <;> simp_all <;> omega
/-- the sum of the bits of unlike names is their mask -/
theorem sum_bits {l : List Str} (nd : l.Nodup) : ∀ {b : List Str}, b.Nodup → (∀ z ∈ b, z ∈ l) → (b.map (bitN l)).sum = maskF l fun z => decide (z ∈ b)
  | [], _, _ => by
    rw [show (fun z => decide (z ∈ ([] : List Str))) = fun _ : Str => false from funext fun z => by simp]
    rw [maskF_none]
    rfl
  | z :: b, hb, hin => by
    have hb' := List.nodup_cons.mp hb
    have ih := sum_bits nd hb'.2 fun y hy => hin y (List.mem_cons_of_mem _ hy)
    rw [List.map_cons, List.sum_cons, ih, bitN_mask nd, maskF_add]
    · refine maskF_congr fun y _ => ?_
      by_cases e : y = z
      · subst e
        simp
      · simp [e]
    · intro y _
      by_cases e : y = z
      · subst e
        simp [hb'.1]
      · simp [e]
/-- how many bits a number has -/
def pop : Nat → Nat → Nat
  | 0, _ => 0
  | k + 1, n => (if n.testBit k = true then 1 else 0) + pop k n
theorem pop_mod : ∀ (k : Nat) {n m : Nat}, (∀ i, i < k → n.testBit i = m.testBit i) → pop k n = pop k m
  | 0, _, _, _ => rfl
  | k + 1, n, m, h => by
    show (if n.testBit k = true then 1 else 0) + pop k n = (if m.testBit k = true then 1 else 0) + pop k m
    rw [h k (Nat.lt_succ_self k), pop_mod k fun i hi => h i (Nat.lt_succ_of_lt hi)]
theorem pop_mask (f : Str → Bool) : ∀ l : List Str, pop l.length (maskF l f) = (l.filter f).length
  | [] => rfl
  | y :: l => by
    have lt := maskF_lt l f
    have ih := pop_mask f l
    show (if (maskF (y :: l) f).testBit l.length = true then 1 else 0) + pop l.length (maskF (y :: l) f) = _
    have e1 : (maskF (y :: l) f).testBit l.length = f y := by
      rw [maskF_bit, List.reverse_cons, List.getElem?_append_right (by rw [List.length_reverse]; exact Nat.le_refl _), List.length_reverse, Nat.sub_self]
      rfl
    have e2 : pop l.length (maskF (y :: l) f) = pop l.length (maskF l f) := pop_mod _ fun i hi => by
      rw [maskF_bit, maskF_bit, List.reverse_cons, List.getElem?_append_left (by rw [List.length_reverse]; exact hi)]
    rw [e1, e2, ih]
    cases e : f y with
    | true =>
      rw [List.filter_cons_of_pos e, List.length_cons]
      show 1 + _ = _
      omega
    | false =>
      rw [List.filter_cons_of_neg (by rw [e]; decide)]
      show 0 + _ = _
      omega
/-- the package's table -/
def bitsOf : List Nat := [0, 1, 1, 2, 1, 2, 2, 3, 1, 2, 2, 3, 2, 3, 3, 4]
def sizeN (m : Nat) : Nat := bitsOf.getD (m % 16) 0 + bitsOf.getD (m / 16 % 16) 0 + bitsOf.getD (m / 256) 0
theorem size_tab : ((List.range 16).all fun a => (List.range 16).all fun b => (List.range 16).all fun c => decide (sizeN (a + 16 * b + 256 * c) = pop 12 (a + 16 * b + 256 * c))) = true := by decide +kernel
theorem size_pop (m : Nat) (h : m < 4096) : sizeN m = pop 12 m := by
  have h1 := List.all_eq_true.mp size_tab (m % 16) (List.mem_range.mpr (Nat.mod_lt _ (by decide)))
  have h2 := List.all_eq_true.mp h1 (m / 16 % 16) (List.mem_range.mpr (Nat.mod_lt _ (by decide)))
  have h3 := List.all_eq_true.mp h2 (m / 256) (List.mem_range.mpr (by omega))
  have e : m % 16 + 16 * (m / 16 % 16) + 256 * (m / 256) = m := by omega
  rw [e] at h3
  exact of_decide_eq_true h3
theorem pop_more {k : Nat} : ∀ (j : Nat) {n : Nat}, n < 2 ^ k → pop (k + j) n = pop k n
  | 0, _, _ => rfl
  | j + 1, n, h => by
    show (if n.testBit (k + j) = true then 1 else 0) + pop (k + j) n = _
    rw [Nat.testBit_lt_two_pow (Nat.lt_of_lt_of_le h (Nat.pow_le_pow_right (by decide) (by omega))), pop_more j h]
    show 0 + _ = _
    omega
theorem size_mask {l : List Str} (h : l.length ≤ 12) (f : Str → Bool) : sizeN (maskF l f) = (l.filter f).length := by
  have lt := maskF_lt l f
  have l2 : maskF l f < 4096 := Nat.lt_of_lt_of_le lt (Nat.pow_le_pow_right (n := 2) (by decide) h)
  rw [size_pop _ l2, ← pop_mask f l]
  have e : 12 = l.length + (12 - l.length) := by omega
  rw [e]
  exact pop_more _ lt
end Rt
end
section
set_option Elab.async false
set_option linter.all false
set_option maxRecDepth 100000
/-! what the module's names reach, each address once: cheap for the kernel -/
namespace Rt
open PySem PySem.Spec PyProof.Rows L2
section
variable {α : Type}
def addsZ (k : Nat → List Addr → α) : List Addr → Nat → List Addr → α
  | [], m, new => k m new
  | a :: as, m, new => HandSHeadRun.frNat a fun a => match Nat.land (Nat.shiftRight m a) 1 with
    | 0 => HandSHeadRun.frNat (Nat.lor m (Nat.shiftLeft 1 a)) fun m' => addsZ k as m' (a :: new)
    | _ + 1 => addsZ k as m new
def lvlZ (g : Addr → Option Obj) (k : Nat → List Addr → α) : List Addr → Nat → List Addr → α
  | [], m, new => k m new
  | a :: fr, m, new => match g a with
    | none => lvlZ g k fr m new
    | some o => addsZ (fun m new => lvlZ g k fr m new) (He.refsD o) m new
def bfsZ (g : Addr → Option Obj) (k : List Addr → α) : Nat → Nat → List Addr → List Addr → α
  | 0, _, fr, acc => k (acc ++ fr)
  | n + 1, m, fr, acc => lvlZ g (fun m' new => bfsZ g k n m' new (acc ++ fr)) fr m []
end
def asZ (g : Addr → Option Obj) (n : Nat) : List Addr := bfsZ g id n (Nat.shiftLeft 1 mainGlobals) [mainGlobals] []
end Rt
end
section
set_option Elab.async false
set_option linter.all false
set_option maxRecDepth 100000
set_option maxHeartbeats 4000000
/-! an own Hook: the facts, and beside them a property and a tuple of the top -/
namespace Rt
open PySem PySem.Spec PyProof.Rows L2
/-! ### a property of the class: its object, its getter -/
def prA (K : PySem.W.Frag) (x f : Str) : Addr := He.ma K (He.ga K x) f
def prG (K : PySem.W.Frag) (x f : Str) : Addr := match PySem.W.recIn K (prA K x f) "property" with
  | some (.ref g :: _) => g
  | _ => 0
def prB (K : PySem.W.Frag) (x f q : Str) : Bool := He.eqO (PySem.W.findIn K (.ref (He.ga K x)) f) (some (some (.ref (prA K x f)))) && (He.eqO (PySem.W.specialIn K (.ref (prA K x f)) "__get__") (some (some (.builtin "property.__get__"))) &&
  (decide (PySem.W.takesIn K (.ref (prA K x f)) = some true) && ((match PySem.W.recIn K (prA K x f) "property" with
    | some (.ref g :: _) => true
    | _ => false) && (PySem.W.keepIn K (.ref (prG K x f)) && (match K.lookup (prG K x f) with
    | some ⟨_, _, .func fd, _⟩ => PySem.W.codeIn K fd.code q && (He.dflB K fd.defaults [] && He.kwdB K fd.kwdefaults [])
    | _ => false)))))
def fnA (K : PySem.W.Frag) (a : Addr) : He.FnW := match K.lookup a with
  | some ⟨_, _, .func fd, _⟩ => some (fd.name, fd.qualname, fd.params, fd.body, fd.scope, fd.globals, fd.closure, fd.builtins)
  | _ => none
theorem fun_at {K : PySem.W.Frag} {a : Addr} {name qual : Str} {params : Arguments} {body : List Stmt} {scope : Scope} (e : fnA K a = some (name, qual, params, .stmts body, scope, mainGlobals, [], builtinsNs)) (kp : PySem.W.keepIn K (.ref a) = true)
    (c2 : (match K.lookup a with
    | some ⟨_, _, .func fd, _⟩ => PySem.W.codeIn K fd.code qual && (He.dflB K fd.defaults [] && He.kwdB K fd.kwdefaults [])
    | _ => false) = true) : ∃ fd, FunD K name qual params body scope [] [] a fd := by
  unfold fnA at e
  cases q : K.lookup a with
  | none =>
    rw [q] at c2
    cases c2
  | some o =>
    obtain ⟨oc, od, dt, osl⟩ := o
    rw [q] at c2 e
    cases dt with
    | func fd =>
      obtain ⟨n1, n2, n3, n4, n5, n6, n7, n8, n9, n10, n11, n12, n13, n14, n15⟩ := fd
      have e2 : (some (n1, n2, n3, n4, n5, n6, n7, n15) : He.FnW) = some (name, qual, params, .stmts body, scope, mainGlobals, [], builtinsNs) := e
      simp only [Option.some.injEq, Prod.mk.injEq] at e2
      obtain ⟨h1, h2, h3, h4, h5, h6, h7, h8⟩ := e2
      subst h1 h2 h3 h4 h5 h6 h7 h8
      have c3 : (PySem.W.codeIn K n13 n2 && (He.dflB K n8 [] && He.kwdB K n9 [])) = true := c2
      obtain ⟨k1, k2⟩ := He.ba c3
      obtain ⟨k3, k4⟩ := He.ba k2
      exact ⟨_, ⟨oc, od, n8, n9, n10, n11, n12, n13, n14, osl, rfl, q, k1, He.dflB_ok k3, He.kwdB_ok k4⟩, kp⟩
    | _ => cases c2
theorem prop_of {K : PySem.W.Frag} {x f q name : Str} {params : Arguments} {body : List Stmt} {scope : Scope} (h : prB K x f q = true) (e : fnA K (prG K x f) = some (name, q, params, .stmts body, scope, mainGlobals, [], builtinsNs)) :
    PropOf K (He.ga K x) f (prA K x f) (prG K x f) ∧ ∃ fd, FunD K name q params body scope [] [] (prG K x f) fd := by
  unfold prB at h
  obtain ⟨h1, h⟩ := He.ba h
  obtain ⟨h2, h⟩ := He.ba h
  obtain ⟨h3, h⟩ := He.ba h
  obtain ⟨h4, h⟩ := He.ba h
  obtain ⟨h5, h6⟩ := He.ba h
  refine ⟨⟨He.eqO_ok h1, He.eqO_ok h2, of_decide_eq_true h3, ?_⟩, fun_at e h5 h6⟩
  unfold prG
  split at h4
  · rename_i g rest q1
    exact ⟨rest, by rw [q1]⟩
  · cases h4
/-! ### a tuple of the top, of small numbers -/
def intOf : Value → Option Int
  | .int i _ => some i
  | _ => none
theorem vals_intOf : ∀ {its : List Value} {ns : List Int}, its.map intOf = ns.map some → Vals (ns.map V.int) its
  | [], [], _ => .nil
  | [], _ :: _, h => by cases h
  | _ :: _, [], h => by cases h
  | v :: its, n :: ns, h => by
    rw [List.map_cons, List.map_cons] at h
    obtain ⟨h1, h2⟩ := List.cons.inj h
    refine .cons ?_ (vals_intOf h2)
    cases v with
    | int i t =>
      cases h1
      exact ⟨t, rfl⟩
    | _ => cases h1
def bitsI : List Int := bitsOf.map fun n => ((n : Nat) : Int)
def tupB (K : PySem.W.Frag) (x : Str) (ns : List Int) : Bool := match K.lookup (He.ga K x) with
  | some ⟨.type c, _, .seq its _, _⟩ => decide (c = "tuple") && (decide (its.toList.map intOf = ns.map some) && decide (its.size ≤ 1000))
  | _ => false
theorem tup_ok {K : PySem.W.Frag} {x : Str} {ns : List Int} (h : tupB K x ns = true) (H : Hp) : SqT K H (He.ga K x) (ns.map V.int) := by
  unfold tupB at h
  cases q : K.lookup (He.ga K x) with
  | none =>
    rw [q] at h
    cases h
  | some o =>
    obtain ⟨oc, od, dt, osl⟩ := o
    rw [q] at h
    cases oc with
    | type c =>
      cases dt with
      | seq its n =>
        obtain ⟨h1, h2⟩ := He.ba (show (decide (c = "tuple") && (decide (its.toList.map intOf = ns.map some) && decide (its.size ≤ 1000))) = true from h)
        obtain ⟨h3, h4⟩ := He.ba h2
        exact .inr ⟨_, its, n, q, congrArg Value.type (of_decide_eq_true h1), rfl, by have := of_decide_eq_true h4; rw [sizeLine_eq]; omega, vals_intOf (of_decide_eq_true h3)⟩
      | _ => cases h
    | _ => cases dt <;> cases h
/-! ### a tuple of the top, of texts -/
def txtOf : Value → Option Str
  | .str z _ => some z
  | _ => none
theorem vals_txtOf : ∀ {its : List Value} {zs : List Str}, its.map txtOf = zs.map some → Vals (zs.map V.str) its
  | [], [], _ => .nil
  | [], _ :: _, h => by cases h
  | _ :: _, [], h => by cases h
  | v :: its, z :: zs, h => by
    rw [List.map_cons, List.map_cons] at h
    obtain ⟨h1, h2⟩ := List.cons.inj h
    refine .cons ?_ (vals_txtOf h2)
    cases v with
    | str i t =>
      cases h1
      exact ⟨t, rfl⟩
    | _ => cases h1
def kindsL : List Str := ["fall", "grown", "keep"]
def tupSB (K : PySem.W.Frag) (x : Str) (zs : List Str) : Bool := match K.lookup (He.ga K x) with
  | some ⟨.type c, _, .seq its _, _⟩ => decide (c = "tuple") && (decide (its.toList.map txtOf = zs.map some) && decide (its.size ≤ 1000))
  | _ => false
theorem tupS_ok {K : PySem.W.Frag} {x : Str} {zs : List Str} (h : tupSB K x zs = true) (H : Hp) : SqT K H (He.ga K x) (zs.map V.str) := by
  unfold tupSB at h
  cases q : K.lookup (He.ga K x) with
  | none =>
    rw [q] at h
    cases h
  | some o =>
    obtain ⟨oc, od, dt, osl⟩ := o
    rw [q] at h
    cases oc with
    | type c =>
      cases dt with
      | seq its n =>
        obtain ⟨h1, h2⟩ := He.ba (show (decide (c = "tuple") && (decide (its.toList.map txtOf = zs.map some) && decide (its.size ≤ 1000))) = true from h)
        obtain ⟨h3, h4⟩ := He.ba h2
        exact .inr ⟨_, its, n, q, congrArg Value.type (of_decide_eq_true h1), rfl, by have := of_decide_eq_true h4; rw [sizeLine_eq]; omega, vals_txtOf (of_decide_eq_true h3)⟩
      | _ => cases h
    | _ => cases dt <;> cases h
/-! ### own errors: their makers -/
def oexB (K : PySem.W.Frag) (x : Str) : Bool := (match K.lookup (He.ga K x) with
  | some ⟨.type t, _, .cls cd, sl⟩ => decide (t = "type") && (match cd.mro, sl.toList with
    | .ref C :: bm, [_, _, _, _, some (.builtin n), _] => decide (C = He.ga K x) && (decide (n = "ValueError.__new__") && (cd.hasDict && (!cd.hasDel && PySem.HandSPX.refsVE bm)))
    | _, _ => false)
  | _ => false) && (He.eqO (PySem.W.findIn K (.ref (He.ga K x)) "__setattr__") (some (some (.builtin "object.__setattr__"))) && (decide (PySem.W.subIn K (.ref (He.ga K x)) (.type "BaseException") = some true) && (decide (PySem.W.typeIn K (.ref (He.ga K x)) = some (.type "type")) && PySem.W.keepIn K (.ref (He.ga K x)))))
theorem oex_ok {K : PySem.W.Frag} {x : Str} (h : oexB K x = true) : OexC K (He.ga K x) := by
  unfold oexB at h
  obtain ⟨h0, h⟩ := He.ba h
  obtain ⟨h1, h⟩ := He.ba h
  obtain ⟨h2, h⟩ := He.ba h
  obtain ⟨h3, h4⟩ := He.ba h
  refine ⟨?_, He.eqO_ok h1, of_decide_eq_true h2, of_decide_eq_true h3, h4⟩
  generalize hC : He.ga K x = C at h0 ⊢
  split at h0
  · rename_i t d cd sl q
    obtain ⟨e1, h0⟩ := He.ba h0
    have e1 := of_decide_eq_true e1
    subst e1
    split at h0
    · rename_i C' bm k0 k1 k2 k3 n k5 em es
      simp only [Bool.and_eq_true, decide_eq_true_eq, Bool.not_eq_true'] at h0
      obtain ⟨_, g1, g2, g3, g4, g5⟩ := h0
      subst g1 g2
      obtain ⟨nm, bs, mro, ns, qn, hd, sn, sub, ab, col, del⟩ := cd
      obtain ⟨sl⟩ := sl
      cases em
      cases es
      cases g3
      cases g4
      exact ⟨nm, qn, ns, bs, bm, sn, sub, ab, col, d, k0, k1, k2, k3, k5, q, g5⟩
    · cases h0
  · cases h0
/-- what isinstance asks of an own error's class -/
def excB (K : PySem.W.Frag) (D : Addr) : Bool := He.eqO (PySem.W.findIn K (.ref D) "__getattribute__") (some (some (.builtin "BaseException.__getattribute__"))) && (He.eqO (PySem.W.findIn K (.ref D) "__getattr__") (some none) && (decide (PySem.W.subIn K (.ref D) (.type "BaseException") = some true) && (PySem.W.hasDictIn K D && (He.eqO (PySem.W.findIn K (.ref D) "__class__") (some (some (.builtin "object.__class__"))) &&
  (He.eqO (PySem.W.specialIn K (.builtin "object.__class__") "__get__") (some (some (.builtin "getset_descriptor.__get__"))) && (decide (PySem.W.takesIn K (.builtin "object.__class__") = some true) && decide (PySem.W.mroIn K D (.type "object") = some true)))))))
theorem exc_ok {K : PySem.W.Frag} {D : Addr} (h : excB K D = true) : ExcC K D := by
  unfold excB at h
  obtain ⟨h1, h⟩ := He.ba h
  obtain ⟨h2, h⟩ := He.ba h
  obtain ⟨h3, h⟩ := He.ba h
  obtain ⟨h4, h⟩ := He.ba h
  obtain ⟨h5, h⟩ := He.ba h
  obtain ⟨h6, h⟩ := He.ba h
  obtain ⟨h7, h8⟩ := He.ba h
  exact ⟨He.eqO_ok h1, He.eqO_ok h2, of_decide_eq_true h3, h4, He.eqO_ok h5, He.eqO_ok h6, of_decide_eq_true h7, of_decide_eq_true h8⟩
def errsL : List Str := ["NoBuild", "NoNote"]
def erB (K : PySem.W.Frag) : Bool := errsL.all fun x => oexB K x && (He.eqO (PySem.W.findIn K (.ref (He.ga K x)) "__init__") (some (some (.ref (He.ma K (He.ga K x) "__init__")))) && (decide (PySem.W.typeIn K (.ref (He.ma K (He.ga K x) "__init__")) = some (.type "function")) && L2.xfB K (He.ga K x)))
/-! ### the Hook -/
abbrev AlY : Type := He.AlD × Bool × List He.FnW
def exB (K : PySem.W.Frag) : Bool := erB K && (prB K "Book" "points" "Book.points" && prB K "Book" "reset" "Book.reset")
def exF (K : PySem.W.Frag) : List He.FnW := [fnA K (prG K "Book" "points"), fnA K (prG K "Book" "reset")]
def exV : List He.FnW := [some ("points", "Book.points", defArgs s_Book_points, .stmts (defBody s_Book_points), defScope s_Book_points, mainGlobals, [], builtinsNs), some ("reset", "Book.reset", defArgs s_Book_reset, .stmts (defBody s_Book_reset), defScope s_Book_reset, mainGlobals, [], builtinsNs)]
structure SaysY (K : PySem.W.Frag) : Prop where
  d : He.SaysD fa fn K
  b : exB K = true
  f : exF K = exV
def obsY (g : Addr → Option Obj) : AlY := (He.obsD fa fn (He.frG g (asZ g 5)), exB (He.frG g (asZ g 5)), exF (He.frG g (asZ g 5)))
def hookY : PySem.W.Hook where
  α := AlY
  obs := fun s => obsY s.heap.get?
  val := fun _ => (He.valD fn, true, exV)
  says := fun _ h => ∃ K : PySem.W.Frag, K.In h ∧ SaysY K
  of := fun _ _ e => ⟨_, He.frG_in, ⟨congrArg (fun z : AlY => z.1) e, congrArg (fun z : AlY => z.2.1) e, congrArg (fun z : AlY => z.2.2) e⟩⟩
  keeps := fun _ _ _ ⟨K, hK, c⟩ k => ⟨K, PySem.W.Frag.In.keeps hK k, c⟩
theorem obsY_eq {g : Addr → Option Obj} {s : Shared} (h : ∀ a, g a = s.heap.get? a) : obsY g = hookY.obs s := by
  have e : g = s.heap.get? := funext h
  rw [e] <;> rfl
theorem SaysY.points {K : PySem.W.Frag} (c : SaysY K) : PropOf K (He.ga K "Book") "points" (prA K "Book" "points") (prG K "Book" "points") ∧ ∃ fd, FunD K "points" "Book.points" (defArgs s_Book_points) (defBody s_Book_points) (defScope s_Book_points) [] [] (prG K "Book" "points") fd :=
  prop_of (He.ba (He.ba c.b).2).1 (Option.some.inj (congrArg (fun l : List He.FnW => l[0]?) c.f))
theorem SaysY.reset {K : PySem.W.Frag} (c : SaysY K) : PropOf K (He.ga K "Book") "reset" (prA K "Book" "reset") (prG K "Book" "reset") ∧ ∃ fd, FunD K "reset" "Book.reset" (defArgs s_Book_reset) (defBody s_Book_reset) (defScope s_Book_reset) [] [] (prG K "Book" "reset") fd :=
  prop_of (He.ba (He.ba c.b).2).2 (Option.some.inj (congrArg (fun l : List He.FnW => l[1]?) c.f))
theorem SaysY.err {K : PySem.W.Frag} (c : SaysY K) {x : Str} (h : x ∈ errsL) : OexC K (He.ga K x) ∧ PySem.W.findIn K (.ref (He.ga K x)) "__init__" = some (some (.ref (He.ma K (He.ga K x) "__init__"))) ∧ PySem.W.typeIn K (.ref (He.ma K (He.ga K x) "__init__")) = some (.type "function") ∧ L2.XfC K (He.ga K x) := by
  obtain ⟨h1, h2⟩ := He.ba (List.all_eq_true.mp (He.ba c.b).1 x h)
  obtain ⟨h3, h4⟩ := He.ba h2
  obtain ⟨h5, h6⟩ := He.ba h4
  exact ⟨oex_ok h1, He.eqO_ok h3, of_decide_eq_true h5, L2.xfB_ok h6⟩
structure AllY (K : PySem.W.Frag) (mg : Str → Option Value) : Prop where
  z : All K mg
  y : SaysY K
end Rt
end
section
set_option Elab.async false
set_option linter.all false
set_option maxRecDepth 100000
set_option maxHeartbeats 8000000
/-! own errors, made and raised; builds and numbers of any values -/
namespace Rt
open PySem PySem.Spec PyProof.Rows L2
/-- an own error's maker: one field -/
def spEx (C : Addr) (f : Str) : Sp := fun vs H Q _ => ∃ (a : Addr) (y : V), vs = [.ref a, y] ∧ H a = some (exo a C none) ∧ ∀ dx, H dx = none → dx ≠ a → Q .non (upd (upd H dx (exd dx [(f, y)])) a (exo a C (some dx)))
/-- what is wished of an error of the class named c, its field f being y -/
def Err (K : PySem.W.Frag) (c f : Str) (y : V) (H : Hp) (E : XK) : Prop := ∀ d H', H d = none → Same H H' → H' d = some (.xd [(f, y)]) → E (.ref (He.ga K c)) (some d) H'
theorem err_made {K : PySem.W.Frag} {c f : Str} {y : V} {H : Hp} {E : XK} (k : Err K c f y H E) (a : Addr) (na : H a = none) : spEx (He.ga K c) f (.ref a :: ([y] ++ [])) (upd H a (exo a (He.ga K c) none))
    (fun v H2 => v = .non ∧ ∃ (d : Addr) (fs : List (Str × V)), H2 a = some (exo a (He.ga K c) (some d)) ∧ H2 d = some (exd d fs) ∧ H d = none ∧ E (.ref (He.ga K c)) (some d) (upd (del H2 a) d (.xd fs))) (fun _ _ _ => False) := by
  refine ⟨a, y, rfl, upd_same, fun dx nx ne => ⟨rfl, dx, _, upd_same, by rw [upd_ne ne, upd_same], ?_, ?_⟩⟩
  · rw [upd_ne ne] at nx
    exact nx
  · have nd : H dx = none := by
      rw [upd_ne ne] at nx
      exact nx
    refine k dx _ nd (fun b o hb => ?_) upd_same
    have b1 := ne_of_none hb nd
    have b2 := ne_of_none hb na
    rw [upd_ne b1, del_ne b2, upd_ne b2, upd_ne b1, upd_ne b2]
    exact hb
/-- the build that a value is -/
def bO : Option (List V) → List Str
  | some xs => strsOf xs
  | none => []
section
variable {P : Program} {w : World} {K : PySem.W.Frag} {mg : Str → Option Value} {base : Heap}
/-- what is let out of a def goes on as it is -/
theorem pass_up {X : Cx} {E : XK} (tk : Takes X fun cls d _ H => E cls d H) : Passes (L2.CX X.prog X.w) X E := passes_call tk fun _ _ _ _ h => h
/-- a def that lets something out -/
theorem okX {x qual : Str} {params : Arguments} {body : List Stmt} {scope : Scope} {f : Addr} {fd : FuncData} {N ps : List Str} {k : Nat} {sp : Sp} {dvs : List V} {kws : List (Str × V)} (F : FunD K x qual params body scope dvs kws f fd) (S : FnScope N ps scope) (len : ∀ vs H Q E, sp vs H Q E → vs.length = ps.length)
    (hbody : ∀ (cdv : Value) (A : Around) (outer : List Env) (s : Shared) (H : Hp) (vs : List V) (Q : VK) (E : XK), Room k (A.deeper (envOfC qual scope s.heap.objs.size f cdv)) → sp vs H Q E →
      ∃ t, PSs (cxOf (L2.CX P w) P w K mg base N qual scope f cdv A outer s H E) body t ∧ t { nx := fun _ H' => Q .non H', rt := Q } (start N vs) H) : FnOk P w K mg base (L2.CX P w) (k + 1) f fd ps sp :=
  F.ok S len hbody
theorem ok_nobuild (W : AllY K mg) : ∃ fd, Binds K fd ["self", "build"] [] ∧ FnOk P w K mg base CX0 1 (He.ma K (He.ga K "NoBuild") "__init__") fd ["self", "build"] (spEx (He.ga K "NoBuild") "build") := by
  have Z := W.z
  obtain ⟨fd, F⟩ := Z.f_NoBuild_init
  refine ⟨fd, F.bindsN (fun _ _ _ _ _ _ us hl => match us, hl with | [_, _], _ => rfl), ok0 F sc_NoBuild_init (fun vs H Q E h => ?_) (fun cdv A outer s H vs Q E hr h => ?_)⟩
  · obtain ⟨a, y, rfl, _⟩ := h
    rfl
  · obtain ⟨a, y, rfl, ha, k⟩ := h
    exact ⟨_, pss_one (ps_ost (pv 0) (pv 1)), _, rfl, _, rfl, a, He.ga K "NoBuild", rfl, (W.y.err (by simp [errsL])).1, Z.n_NoBuild, .inl ⟨ha, k⟩⟩
theorem ok_nonote (W : AllY K mg) : ∃ fd, Binds K fd ["self", "line"] [] ∧ FnOk P w K mg base CX0 1 (He.ma K (He.ga K "NoNote") "__init__") fd ["self", "line"] (spEx (He.ga K "NoNote") "line") := by
  have Z := W.z
  obtain ⟨fd, F⟩ := Z.f_NoNote_init
  refine ⟨fd, F.bindsN (fun _ _ _ _ _ _ us hl => match us, hl with | [_, _], _ => rfl), ok0 F sc_NoNote_init (fun vs H Q E h => ?_) (fun cdv A outer s H vs Q E hr h => ?_)⟩
  · obtain ⟨a, y, rfl, _⟩ := h
    rfl
  · obtain ⟨a, y, rfl, ha, k⟩ := h
    exact ⟨_, pss_one (ps_ost (pv 0) (pv 1)), _, rfl, _, rfl, a, He.ga K "NoNote", rfl, (W.y.err (by simp [errsL])).1, Z.n_NoNote, .inl ⟨ha, k⟩⟩
end
end Rt
end
section
set_option Elab.async false
set_option linter.all false
set_option maxRecDepth 100000
/-! sorted texts: as one list alone -/
namespace Rt
open PySem PySem.Spec PyProof.Rows L2
theorem perm_eq {α : Type} {R : α → α → Prop} (anti : ∀ a b, R a b → R b a → a = b) : ∀ {xs ys : List α}, xs.Pairwise R → ys.Pairwise R → xs.Perm ys → xs = ys
  | [], ys, _, _, p => (List.nil_perm.mp p).symm
  | x :: xs, [], _, _, p => absurd p.length_eq (by simp)
  | x :: xs, y :: ys, h, k, p => by
    obtain ⟨h1, h2⟩ := List.pairwise_cons.mp h
    obtain ⟨k1, k2⟩ := List.pairwise_cons.mp k
    have e : x = y := by
      rcases List.mem_cons.mp (p.mem_iff.mp List.mem_cons_self : x ∈ y :: ys) with e | mx
      · exact e
      · rcases List.mem_cons.mp (p.mem_iff.mpr List.mem_cons_self : y ∈ x :: xs) with e | my
        · exact e.symm
        · exact anti _ _ (h1 y my) (k1 x mx)
    subst e
    rw [perm_eq anti h2 k2 ((List.perm_cons x).mp p)]
/-- one text is not behind another -/
def LeS (a b : Str) : Prop := ltCps b.cps.toList a.cps.toList = false
theorem leS_iff {a b : Str} : LeS a b ↔ a.cps.toList ≤ b.cps.toList := by
  unfold LeS
  rw [ltCps_eq, decide_eq_false_iff_not]
  exact List.not_lt
theorem leS_anti (a b : Str) (h : LeS a b) (k : LeS b a) : a = b := by
  have e := List.le_antisymm (leS_iff.mp h) (leS_iff.mp k)
  obtain ⟨⟨a⟩⟩ := a
  obtain ⟨⟨b⟩⟩ := b
  have e : a = b := e
  rw [e]
theorem leS_trans {a b c : Str} (h : LeS a b) (k : LeS b c) : LeS a c := leS_iff.mpr (List.le_trans (leS_iff.mp h) (leS_iff.mp k))
theorem rising_pw : ∀ {l : List Str} {p : Str}, risingS p l = true → (p :: l).Pairwise LeS
  | [], p, _ => List.pairwise_singleton _ _
  | x :: r, p, h => by
    have h : (!ltCps x.cps.toList p.cps.toList && risingS x r) = true := h
    rw [Bool.and_eq_true, Bool.not_eq_true'] at h
    have ih := rising_pw h.2
    have px : LeS p x := h.1
    refine List.pairwise_cons.mpr ⟨fun y hy => ?_, ih⟩
    rcases List.mem_cons.mp hy with rfl | hy
    · exact px
    · exact leS_trans px ((List.pairwise_cons.mp ih).1 y hy)
theorem sorted_pw : ∀ {l : List Str}, sortedS l = true → l.Pairwise LeS
  | [], _ => .nil
  | x :: r, h => rising_pw h
theorem sorted_one {xs ys : List Str} (h : sortedS xs = true) (k : sortedS ys = true) (p : xs.Perm ys) : xs = ys := perm_eq leS_anti (sorted_pw h) (sorted_pw k) p
end Rt
end
section
set_option Elab.async false
set_option linter.all false
set_option maxRecDepth 100000
set_option maxHeartbeats 4000000
/-! names joined by a blank -/
namespace Rt
open PySem PySem.Spec PyProof.Rows L2
def rJoin (K : PySem.W.Frag) : V → List V → Hp → VK → Prop := fun x xs H Q => ∃ a p, ∃ ys : List Str, x = .str a ∧ xs = [.ref p] ∧ (SqL K H p (ys.map V.str) ∨ SqT K H p (ys.map V.str)) ∧ (ys.map (·.length)).sum + ys.length * a.length ≤ 16777216 ∧ Q (.str (Txt.join a ys)) H
theorem pe_joinK {X : Cx} {K : PySem.W.Frag} (hK : X.K = K) {o e : Expr} {to te : TE} {apos pos : Pos} (ho : PE X o to) (he : PE X e te) (hs : starEach [e] X.env = [(false, eval e X.env)] := by rfl) (hbase : attributeBase o "join" X.env (eval o X.env) = eval o X.env := by rfl) (hline : (apos.endLine == pos.line) = true := by rfl) :
    PE X (.Call (.Attribute o "join" apos) [e] [] pos) (tM1 (rJoin K) to te) := by
  subst hK
  exact pe_join ho he hs hbase hline
def blank : Str := " "
/-- words have no blank, and are something -/
theorem word_tl {z : Str} (h : isWord (.str z) = true) : 32 ∉ TL.tl z ∧ 1 ≤ z.length ∧ z.length ≤ 8 := by
  unfold isWord at h
  rw [Bool.and_eq_true, Bool.and_eq_true] at h
  obtain ⟨⟨h1, h2⟩, h3⟩ := h
  have h1 := of_decide_eq_true h1
  have h2 := of_decide_eq_true h2
  refine ⟨fun m => ?_, by omega, by omega⟩
  unfold Rt.signs at h3
  rw [List.all_map, List.all_eq_true] at h3
  have q : decide ((32 : Nat) ∈ letters.cps.toList) = true := h3 32 m
  rw [show decide ((32 : Nat) ∈ letters.cps.toList) = false by decide +kernel] at q
  cases q
theorem join_inj {xs ys : List Str} (hx : ∀ z ∈ xs, isWord (.str z) = true) (hy : ∀ z ∈ ys, isWord (.str z) = true) (e : Txt.join blank xs = Txt.join blank ys) : xs = ys := by
  have back : ∀ {zs : List Str}, zs ≠ [] → (∀ z ∈ zs, isWord (.str z) = true) → Txt.split (Txt.join blank zs) blank = zs := fun {zs} ne h => TL.split_join (y := blank) (s := 32) (S := []) (by decide +kernel) (by decide +kernel) ne fun p hp => (word_tl (h p hp)).1
  have nil : ∀ {zs : List Str}, (∀ z ∈ zs, isWord (.str z) = true) → Txt.join blank [] = Txt.join blank zs → zs = [] := fun {zs} h e => by
    cases zs with
    | nil => rfl
    | cons z zs =>
      have := back (zs := z :: zs) (by simp) h
      rw [← e] at this
      have e2 : Txt.split (Txt.join blank []) blank = [("" : Str)] := by decide +kernel
      rw [e2] at this
      have hz := h z List.mem_cons_self
      injection this with t1 t2
      rw [← t1] at hz
      exact absurd hz (by decide +kernel)
  cases xs with
  | nil => exact (nil hy e).symm
  | cons x xs =>
    cases ys with
    | nil => exact nil hx e.symm
    | cons y ys => rw [← back (zs := x :: xs) (by simp) hx, e, back (by simp) hy]
theorem words_sum : ∀ {zs : List Str}, (∀ z ∈ zs, isWord (.str z) = true) → (zs.map (·.length)).sum ≤ 8 * zs.length
  | [], _ => Nat.le_refl _
  | z :: zs, h => by
    have := words_sum (zs := zs) fun y hy => h y (List.mem_cons_of_mem _ hy)
    have h2 := (word_tl (h z List.mem_cons_self)).2.2
    rw [List.map_cons, List.sum_cons, List.length_cons]
    omega
end Rt
end
section
set_option Elab.async false
set_option linter.all false
set_option maxRecDepth 100000
set_option maxHeartbeats 4000000
/-! texts: joined by blanks, split at them -/
namespace Rt
open PySem PySem.Spec PyProof.Rows L2
theorem tj (x : Str) (zs : List Str) : Txt.join x zs = Str.join x zs := TL.join_eq x zs
theorem join_back (t : Str) : Txt.join blank (Txt.split t blank) = t := by rw [tj]; exact StrLaws.join_split t blank
theorem split_ne (t : Str) : Txt.split t blank ≠ [] := fun e => by
  have h := join_back t
  rw [e] at h
  have e0 : t = Txt.join blank [] := h.symm
  rw [e0] at e
  rw [show Txt.split (Txt.join blank []) blank = [("" : Str)] by decide +kernel] at e
  cases e
theorem split_words {zs : List Str} (ne : zs ≠ []) (h : ∀ z ∈ zs, isWord (.str z) = true) : Txt.split (Txt.join blank zs) blank = zs := TL.split_join (y := blank) (s := 32) (S := []) (by decide +kernel) (by decide +kernel) ne fun p hp => (word_tl (h p hp)).1
/-- the words of a build's text -/
def partsT (t : Str) : List Str := if t = "-" then [] else Txt.split t blank
def textB (b : List Str) : Str := if b = [] then "-" else Txt.join blank b
theorem parts_text {b : List Str} (h : ∀ z ∈ b, isWord (.str z) = true) : partsT (textB b) = b := by
  unfold partsT textB
  by_cases e : b = []
  · subst e
    rfl
  · rw [if_neg e]
    have sp := split_words e h
    by_cases q : Txt.join blank b = "-"
    · rw [q] at sp
      rw [show Txt.split ("-" : Str) blank = [("-" : Str)] by decide +kernel] at sp
      rw [← sp] at h
      have := h "-" List.mem_cons_self
      exact absurd this (by decide +kernel)
    · rw [if_neg q, sp]
theorem text_parts (t : Str) : textB (partsT t) = t := by
  unfold partsT
  by_cases e : t = "-"
  · rw [if_pos e, e]
    rfl
  · rw [if_neg e]
    unfold textB
    rw [if_neg (split_ne t), join_back]
/-- as many parts as signs, and one -/
theorem join_many : ∀ zs : List Str, zs.length ≤ (Str.join blank zs).length + 1
  | [] => Nat.zero_le _
  | [x] => by
    show 1 ≤ _
    omega
  | x :: y :: r => by
    have h := join_many (y :: r)
    show (y :: r).length + 1 ≤ (x ++ blank ++ Str.join blank (y :: r)).length + 1
    rw [Str.length_append, Str.length_append]
    have : blank.length = 1 := rfl
    omega
theorem parts_len (t : Str) : (partsT t).length ≤ t.length + 1 := by
  unfold partsT
  split
  · exact Nat.zero_le _
  · have h := join_many (Txt.split t blank)
    have e : Str.join blank (Txt.split t blank) = t := StrLaws.join_split t blank
    rw [e] at h
    exact h
theorem text_len {b : List Str} (h : ∀ z ∈ b, isWord (.str z) = true) : (textB b).length ≤ 9 * b.length + 1 := by
  unfold textB
  split
  · show 1 ≤ _
    omega
  · have l1 := StrLaws.join_length_le blank b
    have l2 := words_sum h
    have : blank.length = 1 := rfl
    rw [tj]
    rw [this] at l1
    omega
/-- all signs are small -/
def asc (t : Str) : Bool := t.cps.all (· < 128)
theorem asc_app (a b : Str) : asc (a ++ b) = (asc a && asc b) := by
  show (a.cps ++ b.cps).all _ = _
  rw [Array.all_append]
  rfl
theorem asc_join : ∀ zs : List Str, (∀ z ∈ zs, asc z = true) → asc (Str.join blank zs) = true
  | [], _ => by decide +kernel
  | [x], h => h x List.mem_cons_self
  | x :: y :: r, h => by
    show asc (x ++ blank ++ Str.join blank (y :: r)) = true
    rw [asc_app, asc_app, h x List.mem_cons_self, asc_join (y :: r) fun z hz => h z (List.mem_cons_of_mem _ hz)]
    decide +kernel
theorem asc_word {z : Str} (h : isWord (.str z) = true) : asc z = true := by
  unfold isWord at h
  rw [Bool.and_eq_true] at h
  have h3 := h.2
  unfold Rt.signs at h3
  rw [List.all_map, List.all_eq_true] at h3
  unfold asc
  rw [← Array.all_toList, List.all_eq_true]
  intro c hc
  have q : decide (c ∈ letters.cps.toList) = true := h3 c hc
  have m := of_decide_eq_true q
  have all : ∀ c ∈ letters.cps.toList, c < 128 := by decide +kernel
  exact decide_eq_true (all c m)
theorem repr_asc : ∀ q ∈ [34, 39], ∀ c, c < 128 → ∀ d ∈ Builtin.Str.reprChar q c, d < 0x110000 := by
  have h : ([34, 39].all fun q => (List.range 128).all fun c => (Builtin.Str.reprChar q c).all fun d => decide (d < 0x110000)) = true := by decide +kernel
  intro q hq c hc d hd
  have h1 := List.all_eq_true.mp h q hq
  have h2 := List.all_eq_true.mp h1 c (List.mem_range.mpr hc)
  exact of_decide_eq_true (List.all_eq_true.mp h2 d hd)
theorem fold_asc (q : Nat) (hq : q ∈ [34, 39]) : ∀ (l : List Nat) (acc : Array Nat), (∀ c ∈ l, c < 128) → (∀ d ∈ acc, d < 0x110000) → ∀ d ∈ l.foldl (fun out c => out ++ (Builtin.Str.reprChar q c).toArray) acc, d < 0x110000
  | [], acc, _, h => h
  | c :: l, acc, hl, h => by
    refine fold_asc q hq l _ (fun z hz => hl z (List.mem_cons_of_mem _ hz)) fun d hd => ?_
    rcases Array.mem_append.mp hd with hd | hd
    · exact h d hd
    · exact repr_asc q hq c (hl c List.mem_cons_self) d (by simpa using hd)
theorem fits_asc {t : Str} (h : asc t = true) (l : t.length ≤ 90) : fits (.str t) = true := by
  unfold asc at h
  rw [← Array.all_toList, List.all_eq_true] at h
  have hc : ∀ c ∈ t.cps.toList, c < 128 := fun c hc => of_decide_eq_true (h c hc)
  have hl := StrLaws.reprText_len t fun c hc' => Nat.lt_of_lt_of_le (hc c hc') (by decide)
  have ok : PyData.strOk (reprText t) = true := by
    unfold PyData.strOk reprText
    have hq : reprQuote t ∈ [34, 39] := by
      unfold reprQuote
      split <;> simp
    rw [← Array.all_toList, List.all_eq_true]
    intro d hd
    rw [Array.toList_push, List.mem_append, List.mem_singleton] at hd
    have q34 : ∀ q ∈ [34, 39], q < 0x110000 := by decide
    rcases hd with hd | rfl
    · rw [← Array.foldl_toList] at hd
      exact decide_eq_true (fold_asc _ hq t.cps.toList _ hc (fun d hd => by
        rw [Array.mem_singleton.mp hd]
        exact q34 _ hq) d (Array.mem_toList_iff.mp hd))
    · exact decide_eq_true (q34 _ hq)
  unfold fits
  rw [show (PyData.str t).showable = true by simp [PyData.showable], show (PyData.str t).hasDict = false by simp [PyData.hasDict], show (PyData.str t).depth = 0 by simp [PyData.depth]]
  show (true && !false && (decide (0 ≤ 60) && (decide ((reprText t).length ≤ 1000) && (PyData.strOk (reprText t) && true)))) = true
  rw [ok, decide_eq_true (show (reprText t).length ≤ 1000 by omega)]
  rfl
end Rt
end
section
set_option Elab.async false
set_option linter.all false
set_option maxRecDepth 100000
set_option maxHeartbeats 4000000
/-! the operators of an own class, by its own methods' promises -/
namespace Rt
open PySem PySem.Spec PyProof.Rows L2
theorem ref1 (a : Addr) : RelV (.ref a) (Value.ref a) := rfl
section
variable {X : Cx} {CX : CXT} {n : Nat} {C f : Addr} {fd : FuncData} {ps : List Str} {sp : Sp} {E : XK} {A : Around} {pins : List (Addr × Obj)} {s : Shared} {σ : L2.St} {H : Hp}
theorem own_call (sb : Sub X n A) (F : FnOk X.prog X.w X.K X.mg X.base CX n f fd ps sp) (hb : Binds X.K fd ps []) (hx : Passes CX X E) (I : Inv X pins σ H s) {vs : List V} {us : List Value} (r : Vals vs us) {Q : VK} (h : sp vs H Q E) :
    wpAny (model X.prog X.w) A (call (.ref f) us) (fun u s' => ∃ v H', Inv X pins σ H' s' ∧ RelV v u ∧ Q v H') X.xe s := by
  have e0 : Env0 X.prog X.w X.K X.mg X.base A X.stack s H := by
    have e := I.env0
    exact ⟨by rw [sb.fr]; exact e.frames, e.mod, e.bs, e.bsz, e.funs, e.frf, e.hok, e.bare⟩
  have hl := F.len _ _ _ _ h
  refine wpAny_call (codeAny_mono (F.run A X.stack s H ⟨us, []⟩ us vs Q E sb.room e0 (by
    have := hb s us I.kIn (by rw [r.length] at hl; simpa using hl)
    simpa using this) r h) fun r s' hq => ?_)
  cases r with
  | error e => exact hx pins σ H s e s' I hq
  | ok fl =>
    cases fl with
    | ret w =>
      obtain ⟨z, H', I', rz, q⟩ := I.after hq
      exact ⟨z, H', I', rz, q⟩
    | next => exact False.elim hq
    | brk => exact False.elim hq
    | cont => exact False.elim hq
/-- len(x) -/
def rLenO (C : Addr) (sp : Sp) (E : XK) : List V → Hp → VK → Prop := fun xs H Q => ∃ a dx fs, xs = [.ref a] ∧ H a = some (.ins C dx fs) ∧ sp [.ref a] H (fun v H' => ∃ k : Int, v = .int k ∧ 0 ≤ k ∧ k < 2 ^ 63 ∧ Q v H') E
theorem call_lenO (m : Meth X.K C "__len__" f) (F : FnOk X.prog X.w X.K X.mg X.base CX n f fd ps sp) (hb : Binds X.K fd ps []) (hx : Passes CX X E) (hr : Room (n + 1) X.A) : CallR X (.builtin "len") (rLenO C sp E) := by
  intro pins s σ H xs us Q I r h
  obtain ⟨a, dx, fs, rfl, ha, h⟩ := h
  obtain ⟨u, rfl, ru⟩ := r.one
  cases ru
  obtain ⟨mA, J, _⟩ := ins_get I.hok ha
  obtain ⟨od, J, _⟩ := J.look
  obtain ⟨m0, hF⟩ := I.fr
  refine PySem.W.len_K hF I.ok.mod.kin J m.at_ m.fn (wpAny_mono (own_call (Sub.in1 (⟨hr, rfl⟩ : Sub X (n + 1) X.A)) F hb hx I (.cons (ref1 a) .nil) h) (fun u s' hq => ?_) fun _ _ z => z)
  obtain ⟨v, H', I', rv, k, rfl, h0, h1, q⟩ := hq
  obtain ⟨t, rfl⟩ := rv
  exact ⟨⟨h0, h1⟩, .int k, H', I'.tok _, ⟨_, rfl⟩, q⟩
/-- x in o, x not in o -/
def rInO (C : Addr) (sp : Sp) (E : XK) (yes : Bool) : R2 := fun x y H Q => ∃ a dx fs, y = .ref a ∧ H a = some (.ins C dx fs) ∧ sp [.ref a, x] H (fun v H' => ∃ b, v = .bl b ∧ Q (.bl (if yes = true then b else !b)) H') E
theorem op_inO (m : Meth X.K C "__contains__" f) (F : FnOk X.prog X.w X.K X.mg X.base CX n f fd ps sp) (hb : Binds X.K fd ps []) (hx : Passes CX X E) (hr : Room n X.A) : OpR X (compareOp .In) (rInO C sp E true) := by
  intro pins s σ H x y v u Q I rx ry h
  obtain ⟨a, dx, fs, rfl, ha, h⟩ := h
  cases ry
  obtain ⟨mA, J, _⟩ := ins_get I.hok ha
  obtain ⟨od, J, _⟩ := J.look
  obtain ⟨m0, hF⟩ := I.fr
  refine PySem.W.in_K hF I.ok.mod.kin J m.at_ m.fn (wpAny_mono (own_call ⟨hr, rfl⟩ F hb hx I (.cons (ref1 a) (.cons rx .nil)) h) (fun u s' hq => ?_) fun _ _ z => z)
  obtain ⟨v, H', I', rv, b, rfl, q⟩ := hq
  cases rv
  exact wpAny_truthy_bool ⟨.bl b, H', I', rfl, q⟩
theorem op_notInO (m : Meth X.K C "__contains__" f) (F : FnOk X.prog X.w X.K X.mg X.base CX n f fd ps sp) (hb : Binds X.K fd ps []) (hx : Passes CX X E) (hr : Room n X.A) : OpR X (compareOp .NotIn) (rInO C sp E false) := by
  intro pins s σ H x y v u Q I rx ry h
  obtain ⟨a, dx, fs, rfl, ha, h⟩ := h
  cases ry
  obtain ⟨mA, J, _⟩ := ins_get I.hok ha
  obtain ⟨od, J, _⟩ := J.look
  obtain ⟨m0, hF⟩ := I.fr
  refine PySem.W.notIn_K hF I.ok.mod.kin J m.at_ m.fn (wpAny_mono (own_call ⟨hr, rfl⟩ F hb hx I (.cons (ref1 a) (.cons rx .nil)) h) (fun u s' hq => ?_) fun _ _ z => z)
  obtain ⟨v, H', I', rv, b, rfl, q⟩ := hq
  cases rv
  exact wpAny_truthy_bool ⟨.bl (!b), H', I', rfl, q⟩
/-- o[x] -/
def rSubO (C : Addr) (sp : Sp) (E : XK) : R2 := fun x y H Q => ∃ a dx fs, x = .ref a ∧ H a = some (.ins C dx fs) ∧ sp [.ref a, y] H Q E
def PlainIxO (b : Expr) : Prop := ∀ o i, subscripted b true o i = runValue (.builtin "lifetime.subscript" ⟨[o, i], []⟩)
theorem pe_subO {a b : Expr} {ta tb : TE} {pos : Pos} (m : Meth X.K C "__getitem__" f) (hf : PySem.W.fnIn X.K f = true) (F : FnOk X.prog X.w X.K X.mg X.base CX n f fd ps sp) (hb : Binds X.K fd ps []) (hx : Passes CX X E) (hr : Room (n + 1) X.A)
    (ha : PE X a ta) (hb' : PE X b tb) (hs : PlainIxO b) : PE X (.Subscript a b pos) (tOp (rSubO C sp E) ta tb) := by
  refine ⟨fun pins s σ H Q I h => ?_⟩
  refine Subscript_ (binT ha hb' I h fun v u s2 x y H2 I2 rx ry h => ?_)
  obtain ⟨a, dx, fs, rfl, ha, h⟩ := h
  cases rx
  obtain ⟨mA, J, _⟩ := ins_get I2.hok ha
  obtain ⟨od, J, _⟩ := J.look
  obtain ⟨m0, hF⟩ := I2.fr
  refine PySem.W.sub_K hF I2.ok.mod.kin J m.at_ hf m.fn (wpAny_mono (own_call (Sub.in1 (⟨hr, rfl⟩ : Sub X (n + 1) X.A)) F hb hx I2 (.cons (ref1 a) (.cons ry .nil)) h) (fun u s' hq => ?_) fun _ _ z => z) (hs _ _)
  obtain ⟨v, H', I', rv, q⟩ := hq
  exact ⟨v, H', I', rv, q⟩
theorem fnIn_of {K : PySem.W.Frag} {x qual : Str} {params : Arguments} {body : List Stmt} {scope : Scope} {dvs : List V} {kws : List (Str × V)} (F : FunD K x qual params body scope dvs kws f fd) : PySem.W.fnIn K f = true := by
  obtain ⟨oc, od, dV, kV, doc, pm, an, cdv, ct, osl, rfl, lk, _⟩ := F.ex
  unfold PySem.W.fnIn
  rw [lk] <;> rfl
/-- o == y: y an instance of the class or a dict -/
def tyO (K : PySem.W.Frag) (C : Addr) (H : Hp) (y : V) (tb : Value) : Prop := (∃ b dx fs, y = .ref b ∧ H b = some (.ins C dx fs) ∧ tb = .ref C) ∨ (∃ b kvs, y = .ref b ∧ H b = some (.dK kvs) ∧ tb = .type "dict" ∧ PySem.W.subIn K (.type "dict") (.ref C) = some false)
theorem tyO_looks {y : V} {u tb : Value} (I : Inv X pins σ H s) (ry : RelV y u) (h : tyO X.K C H y tb) : PySem.W.Looks (model X.prog X.w) s.heap (typeOf u) tb ∧ PySem.W.notFirst X.K C tb = true := by
  rcases h with ⟨b, dx, fs, rfl, hb, rfl⟩ | ⟨b, kvs, rfl, hb, rfl, hs⟩
  · cases ry
    obtain ⟨mB, J', _⟩ := ins_get I.hok hb
    obtain ⟨od', J', _⟩ := J'.look
    exact ⟨J'.type, by simp [PySem.W.notFirst]⟩
  · cases ry
    refine ⟨?_, by unfold PySem.W.notFirst; rw [hs]; rfl⟩
    obtain ⟨_, _, vs, _, o, es, ep, h1, h2, _⟩ := (show ObjOk X.prog X.w H s.heap b (.dK kvs) from I.hok b _ hb)
    exact fun A Q E s2 k q => wpAny_typeOf_ref (k _ _ h1) (by rw [h2.1]; exact q)
def rEqO (K : PySem.W.Frag) (C : Addr) (sp : Sp) (E : XK) : R2 := fun x y H Q => ∃ a dx fs tb, x = .ref a ∧ H a = some (.ins C dx fs) ∧ tyO K C H y tb ∧ sp [.ref a, y] H (fun v H' => ∃ b, v = .bl b ∧ Q (.bl b) H') E
theorem op_eqO (m : Meth X.K C "__eq__" f) (F : FnOk X.prog X.w X.K X.mg X.base CX n f fd ps sp) (hb : Binds X.K fd ps []) (hx : Passes CX X E) (hr : Room n X.A) : OpR X (compareOp .Eq) (rEqO X.K C sp E) := by
  intro pins s σ H x y v u Q I rx ry h
  obtain ⟨a, dx, fs, tb, rfl, ha, ty, h⟩ := h
  cases rx
  obtain ⟨mA, J, _⟩ := ins_get I.hok ha
  obtain ⟨od, J, _⟩ := J.look
  obtain ⟨m0, hF⟩ := I.fr
  obtain ⟨lb, nf⟩ := tyO_looks I ry ty
  show wpAny (model X.prog X.w) X.A (richCompare .Eq (.ref a) u) (EP X pins σ Q) X.xe s
  refine PySem.W.cmp_K (op := .Eq) hr.units0 hF I.ok.mod.kin J lb nf m.at_ m.fn (wpAny_mono (own_call ⟨hr, rfl⟩ F hb hx I (.cons (ref1 a) (.cons ry .nil)) h) (fun u s' hq => ?_) fun _ _ z => z)
  obtain ⟨v, H', I', rv, b, rfl, q⟩ := hq
  cases rv
  exact ⟨.bl b, H', I', rfl, q⟩
end
end Rt
end
section
set_option Elab.async false
set_option linter.all false
set_option maxRecDepth 100000
set_option maxHeartbeats 4000000
/-! list(o), where o's own __iter__ hands out an iterator of a tuple -/
namespace Rt
open PySem PySem.Spec PyProof.Rows L2
/-- the iterator of the tuple at t, i items given -/
def tiO (it t : Addr) (i : Nat) : HO := .ext fun h => h.IsTupleIter it t i
/-- some object -/
def anyO (b : Addr) : HO := .ext fun h => ∃ o, h.get? b = some o
theorem tiO_ok {P : Program} {w : World} {H : Hp} {h : Heap} {it t : Addr} {i : Nat} (e : h.IsTupleIter it t i) : ObjOk P w H h it (tiO it t i) :=
  ⟨e, let ⟨o, ho, _⟩ := e; ⟨o, ho⟩, fun _ _ ⟨o, ho, r⟩ k => ⟨o, k _ ho, r⟩⟩
theorem anyO_ok {P : Program} {w : World} {H : Hp} {h : Heap} {b : Addr} (e : ∃ o, h.get? b = some o) : ObjOk P w H h b (anyO b) :=
  ⟨e, e, fun _ _ ⟨o, ho⟩ k => ⟨o, k _ ho⟩⟩
theorem tiO_at {P : Program} {w : World} {H : Hp} {h : Heap} {it t : Addr} {i : Nat} (hok : HOk P w H h) (e : H it = some (tiO it t i)) : h.IsTupleIter it t i := by
  have z : ObjOk P w H h it (.ext fun h => h.IsTupleIter it t i) := hok it _ e
  exact z.1
theorem tiO_lst {it t : Addr} {i : Nat} {xs : List V} : tiO it t i ≠ .lst xs := fun z => by
  have y : HO.ext _ = HO.lst xs := z
  cases y
theorem tiO_tup {it t : Addr} {i : Nat} {xs : List V} : tiO it t i ≠ .tup xs := fun z => by
  have y : HO.ext _ = HO.tup xs := z
  cases y
section
variable {X : Cx}
/-- iter(t) -/
def rIterT : List V → Hp → VK → Prop := fun xs H Q => ∃ t ys, xs = [.ref t] ∧ H t = some (.tup ys) ∧ ∀ it, H it = none → Q (.ref it) (upd H it (tiO it t 0))
theorem call_iterT : CallR X (.builtin "iter") rIterT := by
  intro pins s σ H xs us Q I r ⟨t, ys, ex, ht, q⟩
  subst ex
  obtain ⟨u, rfl, ru⟩ := r.one
  cases ru
  obtain ⟨its, _, pt, _⟩ := I.tuple (SqT.of (K := X.K) ht)
  refine Calls.call_function_entry (by decide +kernel) (by decide +kernel) PySem.W.kdk_entry_iter (PySem.W.kdk_args_iter _) ?_
  unfold Builtin.«iter»
  refine wpAny_bind (m := someArgs "iter" 1 2 _) (wpAny_of_eq (a := [Value.ref t]) (by first | rfl | kernel_rfl!) ?_)
  show wpAny _ _ (pyIter (.ref t) >>= _) _ _ _
  have pt2 : s.heap.IsTuple t its.toArray := pt
  refine wpAny_bind (wpAny_pyIter_tuple pt2 (wpAny_pure ⟨_, rfl, ?_⟩))
  have is : (s.heap.push { cls := .type "tuple_iterator", data := .fields #[.ref t, .int 0 0] }).IsTupleIter s.heap.objs.size t 0 := ⟨_, Heap.get?_push_size _ rfl, rfl, rfl⟩
  exact ⟨.ref s.heap.objs.size, _, I.laid (t' := s.toks) (fun b o e => Heap.get?_push_of_some _ e) (Nat.le_refl _) (tiO_ok is), rfl, q _ (I.hok.fresh (Nat.le_refl _))⟩
end
section
variable {X : Cx} {n : Nat} {C f fL : Addr} {fd fdL : FuncData} {ps psL : List Str} {sp spL : Sp} {A : Around} {pins : List (Addr × Obj)} {s : Shared} {σ : L2.St} {H : Hp} {E : Value → Shared → Prop}
/-- the end of a tuple's iterator; its object stays -/
theorem tup_end {it t : Addr} {i : Nat} {items : Array Value} {Q : Option Value → Shared → Prop} {prog : Program} {w : World} (hh : A.handled = none) (hit : s.heap.IsTupleIter it t i) (ht : s.heap.IsTuple t items) (hx : items[i]? = none)
    (hQ : ∀ h', Heap.ExtBut it s.heap h' → (∃ o, h'.get? it = some o) → Q none { s with heap := h' }) : wpAny (model prog w) A (pyNext (.ref it)) Q E s := by
  obtain ⟨o, e1, e2, e3⟩ := id hit
  obtain ⟨o2, e4, _, k, e5⟩ := ht
  unfold pyNext
  refine wpAny_bind (wpAny_attempt (wpAny_callSpecial?_slot (name := Str.ofString "__next__") hit.typeIs PySem.F.slot_tuple_iterator_next
    (wpAny_call_entry PySem.F.slot_tuple_iterator_next hit.typeIs PySem.F.entry_tuple_iterator_next ?_ (PySem.F.args_tuple_iterator_next_1 _))))
  refine wpAny_bind (m := field (.ref it) 0) (wpAny_field e1 e3 (x := .ref t) rfl ?_)
  show wpAny _ _ (if (Value.ref t == Value.none) = true then _ else _) _ _ s
  rw [if_neg (show ¬ ((Value.ref t == Value.none) = true) from Bool.false_ne_true)]
  refine wpAny_bind (m := field (.ref it) 1) (wpAny_field e1 e3 (x := .int i 0) rfl ?_)
  refine wpAny_bind (m := seqItems? (.ref t)) (wpAny_seqItems e4 e5 ?_)
  simp only [Int.toNat_natCast, hx]
  refine wpAny_bind (wpAny_rule (wpAny_bind (wpAny_setField e1 e3 (by simp) ?_)))
  refine wpAny_bind (m := newExc (.type "StopIteration") []) ?_
  simp only [newExc, newTuple]
  refine wpAny_bind (wpAny_newObj_type ?_ (by size_fits))
  refine wpAny_bind (m := firstArgMember _ _) (wpAny_of_eq (a := Value.none) (by first | rfl | (simp only [firstArgMember]; rfl)) ?_)
  refine wpAny_newObj_type ?_ (by size_fits)
  simp only [raiseNew]
  refine wpAny_bind (wpAny_handled ?_)
  first | rw [show A.in1.handled = none from hh] | rw [hh]
  refine wpAny_bind (wpAny_pure (wpAny_throw ?_))
  refine wpAny_bind (wpAny_isInstance (T := "StopIteration") (b := true) ⟨_, Heap.get?_push_size _ rfl, rfl⟩ isSubtype_stop ?_)
  exact wpAny_pure (hQ _ (((Heap.SameBut.update ..).extBut.push _).push _) ⟨_, Heap.get?_push_of_some _ (Heap.get?_push_of_some _ (Heap.get?_update_self _ e1 (Obj.isFreed_of_fields (Obj.data_mapFields e3 _))))⟩)
/-- a call of a def that lets nothing out -/
theorem own_call0 (sb : Sub X n A) (F : FnOk X.prog X.w X.K X.mg X.base CX0 n f fd ps sp) (hb : Binds X.K fd ps []) (I : Inv X pins σ H s) {vs : List V} {us : List Value} (r : Vals vs us) {Q : VK} (h : sp vs H Q E0) :
    wpAny (model X.prog X.w) A (call (.ref f) us) (fun u s' => ∃ v H', Inv X pins σ H' s' ∧ RelV v u ∧ Q v H') E s := by
  have e0 : Env0 X.prog X.w X.K X.mg X.base A X.stack s H :=
    have e := I.env0
    ⟨sb.fr.trans e.frames, e.mod, e.bs, e.bsz, e.funs, e.frf, e.hok, e.bare⟩
  have hl := F.len _ _ _ _ h
  have bd : BindsTo s fd ⟨us, []⟩ (ps.zip us) := by
    have z := hb s us I.kIn (by rw [r.length] at hl; simpa using hl)
    simpa using z
  refine wpAny_call (codeAny_mono (F.run A X.stack s H ⟨us, []⟩ us vs Q E0 sb.room e0 bd r h) fun r s' hq => ?_)
  match r, hq with
  | .error e, hq => exact hq.elim
  | .ok (.ret w), hq =>
    obtain ⟨z, H', I', rz, q⟩ := I.after hq
    exact ⟨z, H', I', rz, q⟩
  | .ok .next, hq => exact False.elim hq
  | .ok .brk, hq => exact False.elim hq
  | .ok .cont, hq => exact False.elim hq
/-- the list at q is filled by the iterator -/
theorem tup_run {q it t : Addr} {xs : List V} {Rs : Result → Shared → Prop} {A1 : Around} (hh : A1.in1.handled = none) (nq : q ≠ it) (sz : xs.length < sizeLine)
    (done : ∀ G s', Inv X pins σ G s' → (∀ b o, b ≠ q → b ≠ it → H b = some o → G b = some o) → G q = some (.lst xs) → Rs (.ok (.ret .none)) s') :
    ∀ (m i : Nat) (G : Hp) (s : Shared), i + m = xs.length → Inv X pins σ G s → (∀ b o, b ≠ q → b ≠ it → H b = some o → G b = some o) → G q = some (.lst (xs.take i)) → G it = some (tiO it t i) → G t = some (.tup xs) →
      codeAny (model X.prog X.w) A1 (.builtin "list.extend.loop" ⟨[.ref q, .ref it, .none], []⟩) Rs s := by
  intro m
  induction m with
  | zero =>
    intro i G s hi I kp hq hit ht
    refine codeAny_builtin PySem.F.entry_extend_loop ?_
    rw [Around.under_plainId PySem.F.plain_extend_loop _]
    show wpAny _ A1.in1 (pyNext (.ref it) >>= _) _ _ s
    obtain ⟨its, rv, pt, _⟩ := I.tuple (SqT.of (K := X.K) ht)
    have pt2 : s.heap.IsTuple t its.toArray := pt
    have ll := rv.length
    refine wpAny_bind (tup_end hh (tiO_at I.hok hit) pt2 (by rw [List.getElem?_toArray, List.getElem?_eq_none]; omega) fun h' k there => wpAny_pure ?_)
    have I1 : Inv X pins σ (upd G it (anyO it)) { s with heap := h' } := I.write (t' := s.toks) (x := it) (e := it) (by rw [hit]; exact True.intro) (.inl rfl) (fun b v hb e => k b v hb e) there (anyO_ok there)
    refine done _ _ I1 (fun b v b1 b2 hb => by rw [upd_ne b2]; exact kp b v b1 b2 hb) ?_
    rw [upd_ne nq, hq, show xs.take i = xs from List.take_of_length_le (by omega)]
  | succ m ih =>
    intro i G s hi I kp hq hit ht
    refine codeAny_builtin PySem.F.entry_extend_loop ?_
    rw [Around.under_plainId PySem.F.plain_extend_loop _]
    show wpAny _ A1.in1 (pyNext (.ref it) >>= _) _ _ s
    obtain ⟨its, rv, pt, _⟩ := I.tuple (SqT.of (K := X.K) ht)
    have pt2 : s.heap.IsTuple t its.toArray := pt
    have ll := rv.length
    have lt : i < xs.length := by omega
    obtain ⟨u, hu, ru⟩ := rv.get (List.getElem?_eq_getElem lt)
    have nt : t ≠ it := ne_of ht hit (fun z => tiO_tup z.symm)
    refine wpAny_bind (wpAny_pyNext_tuple_item (x := u) (tiO_at I.hok hit) pt2 (by rw [List.getElem?_toArray]; exact hu) fun h' is sb => ?_)
    obtain ⟨o, ho, _⟩ := id is
    have I1 : Inv X pins σ (upd G it (tiO it t (i + 1))) { s with heap := h' } := I.write (t' := s.toks) (x := it) (e := it) (by rw [hit]; exact True.intro) (.inl rfl) (fun b v hb e => (sb.2 b hb).trans e) ⟨o, ho⟩ (tiO_ok is)
    have hq1 : (upd G it (tiO it t (i + 1))) q = some (.lst (xs.take i)) := by rw [upd_ne nq]; exact hq
    show wpAny _ A1.in1 (updateSeq q (·.push u) >>= _) _ _ _
    obtain ⟨z, js, k, r2, hl, e⟩ := I1.lstM hq1
    have tk : (xs.take i).length = i := by rw [List.length_take]; omega
    have jl := r2.length
    refine wpAny_bind (wpAny_updateSeq e rfl (wpAny_pure ⟨plainId_quiet PySem.F.plain_extend_loop _, ?_⟩) (by rw [List.size_toArray]; omega) (by show (js.toArray.push u).size ≤ sizeLine + 1; rw [Array.size_push, List.size_toArray]; omega))
    have I2 := I1.lset (f := (·.push u)) (its' := js ++ [u]) (ys := xs.take (i + 1)) (t' := s.toks) hq1 e (by simp) (by rw [take_one (List.getElem?_eq_getElem lt)]; exact r2.append (.cons ru .nil)) (by rw [List.length_take]; omega)
    refine ih (i + 1) _ _ (by omega) I2 (fun b v b1 b2 hb => ?_) upd_same ?_ ?_
    · rw [upd_ne b1, upd_ne b2]
      exact kp b v b1 b2 hb
    · rw [upd_ne (Ne.symm nq), upd_same]
    · rw [upd_ne (ne_of ht hq (fun z => by cases z)), upd_ne nt]
      exact ht
/-- how a built-in's body ends, and is gone on with -/
abbrev finR (P : Program) (w : World) (A1 : Around) (Rs : Result → Shared → Prop) : Fin → Shared → Prop := fun fin s' => match fin with
  | .done f => Rs (.ok f) s'
  | .again c => c.quiet = true ∧ codeAny (model P w) A1 c Rs s'
theorem own_fill {q a t dx : Addr} {fs : List (Str × V)} {xs : List V} {Rs : Result → Shared → Prop} {A1 : Around} (sb : Sub X (n + 1) A1.in1) (hh : A1.in1.handled = none) (mI : Meth X.K C "__iter__" f) (FI : FnOk X.prog X.w X.K X.mg X.base CX0 n f fd ps sp) (bI : Binds X.K fd ps [])
    (mL : Meth X.K C "__len__" fL) (FL : FnOk X.prog X.w X.K X.mg X.base CX0 n fL fdL psL spL) (bL : Binds X.K fdL psL []) (I : Inv X pins σ H s) (ha : H a = some (.ins C dx fs)) (hq : H q = some (.lst [])) (ht : H t = some (.tup xs)) (sz : xs.length < sizeLine)
    (hI : sp [.ref a] H (fun v H' => ∃ it, v = .ref it ∧ H it = none ∧ H' = upd H it (tiO it t 0)) E0)
    (hL : ∀ G, Same H G → spL [.ref a] G (fun v G' => G' = G ∧ ∃ k : Int, v = .int k ∧ 0 ≤ k ∧ k ≤ 1000) E0)
    (done : ∀ G s', Inv X pins σ G s' → (∀ b o, b ≠ q → H b = some o → G b = some o) → G q = some (.lst xs) → Rs (.ok (.ret .none)) s') :
    wpAny (model X.prog X.w) A1.in1 (Builtin.List.listExtendWith (.ref q) (.ref a) .none) (finR X.prog X.w A1 Rs) (fun e s' => Rs (.error e) s') s := by
  have qa : q ≠ a := ne_of hq ha (fun z => nomatch z)
  obtain ⟨_, J0, _⟩ := ins_get I.hok ha
  obtain ⟨_, J, _⟩ := J0.look
  obtain ⟨_, hF⟩ := I.fr
  have c1 : Builtin.List.listSameRef (.ref q) (.ref a) = false := by simp [Builtin.List.listSameRef, qa]
  have c2 : (Value.ref C == Value.type "list") = false := rfl
  have c3 : (Value.ref C == Value.type "tuple") = false := rfl
  unfold Builtin.List.listExtendWith
  refine wpAny_bind (J.type.here ?_)
  simp only [c1, c2, c3, Bool.or_false, Bool.false_eq_true, if_false]
  refine wpAny_bind (PySem.W.owit_iter hF I.ok.mod.kin J mI.at_ mI.fn (wpAny_mono (own_call0 (sb.mono (Nat.le_succ n)) FI bI I (.cons (ref1 a) .nil) hI) (fun u s1 h1 => ?_) fun _ _ z => z))
  obtain ⟨v, H1, I1, rv, it, rfl, nit, rfl⟩ := h1
  cases rv
  have hit : (upd H it (tiO it t 0)) it = some (tiO it t 0) := upd_same
  have isI := tiO_at I1.hok hit
  have kp : Same H (upd H it (tiO it t 0)) := Same.new nit
  unfold PySem.W.OwitIt
  refine wpAny_specialOf isI.typeIs PySem.F.slot_tuple_iterator_next.lookup ?_
  -- how long it is
  obtain ⟨_, K0, _⟩ := ins_get I1.hok (kp _ _ ha)
  obtain ⟨_, K1, _⟩ := K0.look
  obtain ⟨_, hF1⟩ := I1.fr
  have go : ∀ s2, Inv X pins σ (upd H it (tiO it t 0)) s2 → codeAny (model X.prog X.w) A1 (.builtin "list.extend.loop" ⟨[.ref q, .ref it, .none], []⟩) Rs s2 := fun s2 I2 =>
    tup_run (H := H) hh (ne_of_none hq nit) sz (fun G s' J g k => done G s' J (fun b o b1 hb => g b o b1 (ne_of_none hb nit) hb) k) xs.length 0 _ s2 (Nat.zero_add _) I2 (fun b o _ b2 hb => by rw [upd_ne b2]; exact hb) (kp _ _ hq) upd_same (kp _ _ ht)
  have hint : wpAny (model X.prog X.w) A1.in1 (Builtin.List.listLengthHint (.ref a)) (fun b s2 => Inv X pins σ (upd H it (tiO it t 0)) s2) (fun e s' => Rs (.error e) s') s1 := by
    unfold Builtin.List.listLengthHint
    refine wpAny_bind (wpAny_bind (K1.type.here ((PySem.W.looks_findIn I1.kIn mL.at_).here ?_)))
    refine PySem.W.KFB.if_not rfl ?_
    refine PySem.W.KFB.if_so rfl ?_
    refine wpAny_bind (wpAny_rule ?_)
    refine wpAny_bind (wpAny_attempt (PySem.W.len_K hF1 I1.ok.mod.kin K1 mL.at_ mL.fn (wpAny_mono (own_call0 sb.in1 FL bL I1 (.cons (ref1 a) .nil) (hL _ kp)) (fun u s2 h2 => ?_) fun _ _ z => z)))
    obtain ⟨v, H2, I2, rv, eH, k, rfl, k0, k1⟩ := h2
    obtain ⟨tt, rfl⟩ := rv
    subst eH
    refine ⟨⟨k0, by omega⟩, ?_⟩
    refine wpAny_bind (m := asInt? _) (wpAny_pure ?_)
    dsimp only
    have small : Builtin.List.listTooLong k.toNat = false := by
      have := sizeLine_eq
      unfold Builtin.List.listTooLong
      exact decide_eq_false (by omega)
    rw [if_neg (by rw [small]; decide)]
    exact wpAny_pure (I2.tok _)
  refine wpAny_bind (wpAny_holding (wpAny_mono hint (fun b s2 I2 => ?_) fun _ _ z => z))
  refine wpAny_ite_split (fun _ => ?_) (fun _ => wpAny_pure ⟨plainId_quiet PySem.F.plain_extend_loop _, go s2 I2⟩)
  refine wpAny_bind (wpAny_rule ?_)
  obtain ⟨_, js, k, r3, _, e3⟩ := I2.lstM (kp _ _ hq)
  cases r3
  refine wpAny_bind ?_
  show wpAny _ _ (updateSeq q (·.push .none) >>= fun _ => updateSeq q (·.pop)) _ _ _
  refine wpAny_bind (wpAny_updateSeq e3 rfl ?_)
  have I3 := I2.lset (f := (·.push Value.none)) (its' := [Value.none]) (ys := [.non]) (t' := s2.toks) (kp _ _ hq) e3 (by simp) (.cons rfl .nil) (by rw [List.length_singleton, sizeLine_eq]; decide)
  obtain ⟨_, ls, k4, r4, _, e4⟩ := I3.lstM upd_same
  obtain ⟨u4, rfl, _⟩ := r4.one
  refine wpAny_updateSeq e4 rfl ?_ (by show 1 ≤ sizeLine; rw [sizeLine_eq]; decide) (by show 0 ≤ sizeLine + 1; exact Nat.zero_le _)
  refine wpAny_pure ⟨plainId_quiet PySem.F.plain_extend_loop _, go _ ?_⟩
  have I4 := I3.lset (f := (·.pop)) (its := [u4]) (its' := []) (ys := []) (t' := s2.toks) upd_same e4 (by rfl) .nil (Nat.zero_le _)
  rw [upd_upd] at I4
  have back : upd (upd H it (tiO it t 0)) q (.lst []) = upd H it (tiO it t 0) := funext fun b => by
    by_cases z : b = q
    · rw [z, upd_same, kp _ _ hq]
    · rw [upd_ne z]
  rw [back] at I4
  exact I4
/-- list(o) -/
def rListO (C : Addr) (sp spL : Sp) : List V → Hp → VK → Prop := fun zs H Q => ∃ (a dx t : Addr) (fs : List (Str × V)) (xs : List V), zs = [.ref a] ∧ H a = some (.ins C dx fs) ∧ H t = some (.tup xs) ∧ xs.length < sizeLine ∧
  (∀ G, Same H G → sp [.ref a] G (fun v G' => ∃ it, v = .ref it ∧ G it = none ∧ G' = upd G it (tiO it t 0)) E0) ∧ (∀ G, Same H G → spL [.ref a] G (fun v G' => G' = G ∧ ∃ k : Int, v = .int k ∧ 0 ≤ k ∧ k ≤ 1000) E0) ∧
  ∀ q G, H q = none → Same H G → G q = some (.lst xs) → Q (.ref q) G
theorem call_listO (mI : Meth X.K C "__iter__" f) (FI : FnOk X.prog X.w X.K X.mg X.base CX0 n f fd ps sp) (bI : Binds X.K fd ps []) (mL : Meth X.K C "__len__" fL) (FL : FnOk X.prog X.w X.K X.mg X.base CX0 n fL fdL psL spL) (bL : Binds X.K fdL psL []) (hr : Room (n + 3) X.A) :
    CallR X (.type "list") (rListO C sp spL) := by
  intro pins s σ H zs us Q I r ⟨a, dx, t, fs, xs, ez, ha, ht, sz, hI, hL, fin⟩
  subst ez
  obtain ⟨u, rfl, ru⟩ := r.one
  cases ru
  have sb : Sub X (n + 1) X.A.in1.in1 := Sub.in1 (Sub.in1 (⟨hr, rfl⟩ : Sub X (n + 3) X.A))
  refine callType_codes (Q₁ := fun obj s₁ => obj = .ref s.heap.objs.size ∧ s₁ = { s with heap := s.heap.push { cls := .type "list", data := .seq #[] } }) PySem.F.called_list (PySem.F.typeCall_list_1 _) PySem.F.entry_list_init
    (code_list_new _ ⟨rfl, rfl⟩) fun obj s₁ ⟨e1, e2⟩ => ?_
  subst e1 e2
  have at_ : (s.heap.push { cls := .type "list", data := .seq #[] }).get? s.heap.objs.size = some { cls := .type "list", data := .seq #[] } := Heap.get?_push_size _ rfl
  have nq : H s.heap.objs.size = none := I.hok.fresh (Nat.le_refl _)
  have I1 : Inv X pins σ (upd H s.heap.objs.size (.lst [])) { s with heap := s.heap.push { cls := .type "list", data := .seq #[] } } := I.lnew (its := []) (t' := s.toks) .nil (Nat.zero_le _)
  refine ⟨⟨_, at_, rfl⟩, PySem.F.args_list_init_2 _ _, ?_⟩
  show wpAny _ _ (do let old ← Builtin.List.listItems (.ref s.heap.objs.size); Builtin.List.listUpdate (.ref s.heap.objs.size) (fun _ => #[]); letGo old.toList.reverse; Builtin.List.listExtendWith (.ref s.heap.objs.size) (.ref a) .none) _ _ _
  refine wpAny_bind ?_
  unfold Builtin.List.listItems
  refine wpAny_bind (wpAny_seqItems at_ rfl (wpAny_pure ?_))
  show wpAny _ _ (updateSeq s.heap.objs.size (fun _ => #[]) >>= fun _ => letGo (#[] : Array Value).toList.reverse >>= fun _ => Builtin.List.listExtendWith (.ref s.heap.objs.size) (.ref a) .none) _ _ _
  refine wpAny_bind (wpAny_updateSeq at_ rfl ?_)
  have I2 := I1.lset (f := fun _ => #[]) (its := []) (its' := []) (ys := []) (t' := s.toks) upd_same at_ rfl .nil (Nat.zero_le _)
  rw [upd_upd] at I2
  refine wpAny_bind (wpAny_letGo ?_)
  have kp : Same H (upd H s.heap.objs.size (.lst [])) := Same.new nq
  exact own_fill (A1 := X.A.in1) (Rs := wants (fun r s₂ => r = .none ∧ EP X pins σ Q (.ref s.heap.objs.size) s₂) X.xe) sb hr.hd mI FI bI mL FL bL I2 (kp _ _ ha) upd_same (kp _ _ ht) sz (hI _ kp) (fun G g => hL G (kp.trans g))
    (fun G s' J g k => ⟨rfl, .ref s.heap.objs.size, G, J, rfl, fin _ G nq (fun b o hb => g b o (ne_of_none hb nq) (kp _ _ hb)) k⟩)
end
end Rt
end
section
set_option Elab.async false
set_option linter.all false
set_option maxRecDepth 100000
set_option maxHeartbeats 8000000
/-! a comprehension over a book, by its own __iter__ -/
namespace Rt
open PySem PySem.Spec PyProof.Rows L2
abbrev SpN : Type := List V → Hp → VK → Prop
/-- a def that is called where at least M objects stand -/
structure FnN (M : Nat) (P : Program) (w : World) (K : PySem.W.Frag) (mg : Str → Option Value) (base : Heap) (k : Nat) (f : Addr) (fd : FuncData) (ps : List Str) (sp : SpN) : Prop where
  len : ∀ vs H Q, sp vs H Q → vs.length = ps.length
  run : ∀ (A : Around) (outer : List Env) (s : Shared) (H : Hp) (us : List Value) (vs : List V) (Q : VK), M ≤ s.heap.objs.size → Room k A → Env0 P w K mg base A outer s H → Vals vs us → sp vs H Q → codeAny (model P w) A (.call (.ref f) ⟨us, []⟩) (CR C8.CX0 outer P w H s Q C8.E0) s
section
variable {M : Nat} {P : Program} {w : World} {K : PySem.W.Frag} {mg : Str → Option Value} {base : Heap} {x qual : Str} {params : Arguments} {body : List Stmt} {scope : Scope} {f : Addr} {fd : FuncData} {N ps : List Str} {k : Nat} {sp : SpN}
theorem FnN.of (F : FunD K x qual params body scope [] [] f fd) (S : FnScope N ps scope) (hb : Binds K fd ps []) (len : ∀ vs H Q, sp vs H Q → vs.length = ps.length)
    (hbody : ∀ (cdv : Value) (A : Around) (outer : List Env) (s : Shared) (H : Hp) (vs : List V) (Q : VK), M ≤ s.heap.objs.size → Room k (A.deeper (envOfC qual scope s.heap.objs.size f cdv)) → sp vs H Q →
      ∃ t, PSs (cxOf C8.CX0 P w K mg base N qual scope f cdv A outer s H C8.E0) body t ∧ t { nx := fun _ H' => Q .non H', rt := Q } (start N vs) H) : FnN M P w K mg base (k + 1) f fd ps sp := by
  refine ⟨len, fun A outer s H us vs Q hM hr e0 r h => ?_⟩
  obtain ⟨oc, od, dV, kV, doc, pm, an, cdv, ct, osl, rfl, lk, hcd, _, _⟩ := F.ex
  have KX : K.In s.heap := e0.mod.kin.keeps fun b o e => (e0.bs b o e).1
  have ln := len _ _ _ h
  have bd := hb s us KX (by rw [r.length] at ln; simpa using ln)
  exact LamX.run_ofS lk hcd S hr e0 (by simpa using bd) r ln fun hr2 => hbody cdv A outer s H vs Q hM hr2 h
end
section
variable {X : Cx} {M : Nat}
/-- iter(t), whose object stands behind all that stood at the start -/
def rIterN (M : Nat) : List V → Hp → VK → Prop := fun xs H Q => ∃ t ys, xs = [.ref t] ∧ H t = some (.tup ys) ∧ ∀ it, H it = none → M ≤ it → Q (.ref it) (upd H it (tiO it t 0))
theorem call_iterN (hM : M ≤ X.s_0.heap.objs.size) : CallR X (.builtin "iter") (rIterN M) := by
  intro pins s σ H xs us Q I r ⟨t, ys, ex, ht, q⟩
  subst ex
  obtain ⟨u, rfl, ru⟩ := r.one
  cases ru
  obtain ⟨its, _, pt, _⟩ := I.tuple (SqT.of (K := X.K) ht)
  refine Calls.call_function_entry (by decide +kernel) (by decide +kernel) PySem.W.kdk_entry_iter (PySem.W.kdk_args_iter _) ?_
  unfold Builtin.«iter»
  refine wpAny_bind (m := someArgs "iter" 1 2 _) (wpAny_of_eq (a := [Value.ref t]) (by first | rfl | kernel_rfl!) ?_)
  show wpAny _ _ (pyIter (.ref t) >>= _) _ _ _
  have pt2 : s.heap.IsTuple t its.toArray := pt
  refine wpAny_bind (wpAny_pyIter_tuple pt2 (wpAny_pure ⟨_, rfl, ?_⟩))
  have is : (s.heap.push { cls := .type "tuple_iterator", data := .fields #[.ref t, .int 0 0] }).IsTupleIter s.heap.objs.size t 0 := ⟨_, Heap.get?_push_size _ rfl, rfl, rfl⟩
  exact ⟨.ref s.heap.objs.size, _, I.laid (t' := s.toks) (fun b o e => Heap.get?_push_of_some _ e) (Nat.le_refl _) (tiO_ok is), rfl, q _ (I.hok.fresh (Nat.le_refl _)) (Nat.le_trans hM I.sz)⟩
end
def spIterN (M : Nat) (K : PySem.W.Frag) : SpN := fun vs H Q => ∃ (x : Addr) (B : Bk) (a : BoA), vs = [.ref x] ∧ BookAt K H x B a ∧ ∀ it, H it = none → M ≤ it → Q (.ref it) (upd H it (tiO it a.nm 0))
/-- what is new is forgotten -/
theorem un_drop {fs : List Addr} {H : Hp} {h h' : Heap} {it : Addr} {o : HO} (u : Un fs [] H (upd H it o) h h') : Un fs [] H H h h' where
  keep := u.keep
  slot := u.slot
  free := fun _ _ _ n _ => n
  there := u.there
  tups := fun _ _ z => z
  frzs := fun _ _ _ z => z
  tbls := fun _ ps z => ⟨#[], by simpa using z⟩
theorem hok_drop {P : Program} {w : World} {H : Hp} {h : Heap} {it t : Addr} {i : Nat} (n : H it = none) (k : HOk P w (upd H it (tiO it t i)) h) : HOk P w H h := fun b o z => by
  have nb := ne_of_none z n
  have q := k b o (by rw [upd_ne nb]; exact z)
  refine q.stay (fun c v hc y => y) (fun c hc => ?_) (fun c xs hc => ?_)
  · by_cases e : c = it
    · rw [e, upd_same] at hc
      unfold tiO at hc
      cases hc
    · rw [upd_ne e] at hc
      exact hc
  · by_cases e : c = it
    · rw [e, upd_same] at hc
      unfold tiO at hc
      cases hc
    · rw [upd_ne e] at hc
      exact hc
section
variable {X : Cx} {k : Nat} {f : Addr} {tg o : Expr} {te : TE}
def iOwn (K : PySem.W.Frag) (te : TE) : TI := fun σ H R => te σ H fun x H1 => ∃ a B b, x = .ref a ∧ BookAt K H1 a B b ∧ R (Itt K b.nm) H1
theorem pi_own (m : Meth X.K (BC X.K) "__iter__" f) (F : ∀ M, ∃ fd, FnN M X.prog X.w X.K X.mg X.base k f fd ["self"] (spIterN M X.K)) (hr : Room k X.A) (ho : PE X o te) : PI X tg o (iOwn X.K te) := by
  refine ⟨fun pins s σ H R I h => thn (ho.run pins s σ H _ I h) fun u s1 ⟨x, H1, I1, rx, a, B, b, ex, bk, r⟩ => ?_⟩
  subst ex
  cases rx
  obtain ⟨_, J0, _⟩ := ins_get I1.hok bk.at_
  obtain ⟨_, J, _⟩ := J0.look
  obtain ⟨_, hF⟩ := I1.fr
  obtain ⟨fd, FM⟩ := F s1.heap.objs.size
  refine PySem.W.owit_iter hF I1.ok.mod.kin J m.at_ m.fn (wpAny_call (codeAny_mono (FM.run X.A X.stack s1 H1 [.ref a] [.ref a] (fun v H' => ∃ it, v = .ref it ∧ H1 it = none ∧ s1.heap.objs.size ≤ it ∧ H' = upd H1 it (tiO it b.nm 0)) (Nat.le_refl _) hr I1.env0 (.cons (ref1 a) .nil) ⟨a, B, b, rfl, bk, fun it ni le => ⟨it, rfl, ni, le, rfl⟩⟩) fun r' s2 hq => ?_))
  match r', hq with
  | .error e, hq => exact (show False from hq).elim
  | .ok .next, hq => exact False.elim hq
  | .ok .brk, hq => exact False.elim hq
  | .ok .cont, hq => exact False.elim hq
  | .ok (.ret u), hq =>
    obtain ⟨v, H2, os, bare, un, hok, rv, it, ev, ni, le, eH⟩ := hq
    subst ev eH
    cases rv
    have hit : (upd H1 it (tiO it b.nm 0)) it = some (tiO it b.nm 0) := upd_same
    have isI := tiO_at hok hit
    have I2 : Inv X pins σ H1 s2 := I1.call' (ch := []) os (un_drop un) (hok_drop ni hok) bare (fun b z => absurd z (by simp))
    unfold PySem.W.OwitIt
    refine wpAny_specialOf isI.typeIs PySem.F.slot_tuple_iterator_next.lookup ?_
    exact ⟨it, [it], fun i h => h.IsTupleIter it b.nm i, Itt X.K b.nm, H1, rfl, I2, turn_tuple b.nm it, isI, fun c hc => (by rw [List.mem_singleton.mp hc]; exact I1.fpOk le ni), r⟩
end
end Rt
end
section
set_option Elab.async false
set_option linter.all false
set_option maxRecDepth 100000
set_option maxHeartbeats 8000000
/-! a method of any class, packed with its promise -/
namespace Rt
open PySem PySem.Spec PyProof.Rows L2
theorem pe_fldK {X : Cx} {K : PySem.W.Frag} {e : Expr} {ta : TE} {f : Str} {pos : Pos} (hK : X.K = K) (he : PE X e ta) (hb : attributeBase e f X.env (eval e X.env) = eval e X.env) : PE X (.Attribute e f pos) (tFld K ta f) := by
  subst hK
  exact pe_fld he hb
structure CalC (C : Str) (P : Program) (w : World) (K : PySem.W.Frag) (mg : Str → Option Value) (base : Heap) (CX : CXT) (k : Nat) (m : Str) (ps : List Str) (sp : Sp) : Prop where
  ex : ∃ fd, Binds K fd ps [] ∧ FnOk P w K mg base CX k (He.ma K (He.ga K C) m) fd ps sp
  mt : Meth K (He.ga K C) m (He.ma K (He.ga K C) m)
  cl : Cls K (He.ga K C)
theorem CalM.c {P : Program} {w : World} {K : PySem.W.Frag} {mg : Str → Option Value} {base : Heap} {CX : CXT} {k : Nat} {m : Str} {ps : List Str} {sp : Sp} (h : CalM P w K mg base CX k m ps sp) : CalC "Book" P w K mg base CX k m ps sp := ⟨h.ex, h.mt, h.cl⟩
section
variable {P : Program} {w : World} {K : PySem.W.Frag} {mg : Str → Option Value} {base : Heap} {CX : CXT} {C m qual : Str} {params : Arguments} {body : List Stmt} {scope : Scope} {ps : List Str} {k : Nat} {sp : Sp}
theorem CalC.of (ex : ∃ fd, FunD K m qual params body scope [] [] (He.fAd K (C, some m)) fd ∧ FnOk P w K mg base CX k (He.fAd K (C, some m)) fd ps sp) (mt : Meth K (He.ga K C) m (He.ma K (He.ga K C) m)) (cl : Cls K (He.ga K C))
    (h : ∀ (kV doc pm : Value) (an : Option Addr) (cdv ct : Value) (us : List Value), us.length = ps.length → bindArgs (PySem.W.fnOf m qual params body scope .none kV doc pm an cdv ct) ⟨us, []⟩ = pure (ps.zip us)) :
    CalC C P w K mg base CX k m ps sp := by
  obtain ⟨fd, F, G⟩ := ex
  exact ⟨⟨fd, F.bindsN h, G⟩, mt, cl⟩
end
section
variable {X : Cx} {P : Program} {w : World} {K : PySem.W.Frag} {mg : Str → Option Value} {base : Heap} {CX : CXT} {k : Nat} {C m : Str} {ps : List Str} {sp : Sp} {E : XK} {o e : Expr} {es : List Expr} {apos pos : Pos} {t : TA} {ta tb : TE} {pl : Sem Bool}
theorem pe_c0 (c : CalC C P w K mg base CX k m ps sp) (same : X.prog = P ∧ X.w = w ∧ X.K = K ∧ X.mg = mg ∧ X.base = base) (hr : Room k X.A) (hx : Passes CX X E) (he : PE X o ta)
    (ht : eval (.Call (.Attribute o m apos) [] [] pos) X.env = (do
      let ov ← eval o X.env
      standAt apos.atName
      let (f, first) ← holding [ov] (getMethod ov m pl)
      callWith pos f first (backTo pos (starEach [] X.env)) (backToKw pos (keywordEach [] X.env))) := by rfl) :
    PE X (.Call (.Attribute o m apos) [] [] pos) (tMeth (He.ga K C) m sp [] E ta tNil) := by
  obtain ⟨rfl, rfl, rfl, rfl, rfl⟩ := same
  obtain ⟨fd, b, F⟩ := c.ex
  exact pe_meth0 (pl := pl) he c.cl c.mt F hr b .nil hx ht
theorem pe_c1 (c : CalC C P w K mg base CX k m ps sp) (same : X.prog = P ∧ X.w = w ∧ X.K = K ∧ X.mg = mg ∧ X.base = base) (hr : Room k X.A) (hx : Passes CX X E) (he : PE X o ta) (ha : PA X (e :: es) t)
    (hst : starEach (e :: es) X.env = (false, eval e X.env) :: starEach es X.env := by rfl) (hpl : (backTo pos (starEach es X.env)).any (·.1) = false := by rfl)
    (ht : eval (.Call (.Attribute o m apos) (e :: es) [] pos) X.env = (do
      let ov ← eval o X.env
      standAt apos.atName
      let (f, first) ← holding [ov] (getMethod ov m pl)
      callWith pos f first (backTo pos (starEach (e :: es) X.env)) (backToKw pos (keywordEach [] X.env))) := by rfl) :
    PE X (.Call (.Attribute o m apos) (e :: es) [] pos) (tMeth (He.ga K C) m sp [] E ta t) := by
  obtain ⟨rfl, rfl, rfl, rfl, rfl⟩ := same
  obtain ⟨fd, b, F⟩ := c.ex
  exact pe_meth (pl := pl) he c.cl c.mt F hr b .nil hx ha hst hpl ht
theorem pe_csub {a b : Expr} (c : CalC C P w K mg base CX k "__getitem__" ps sp) (same : X.prog = P ∧ X.w = w ∧ X.K = K ∧ X.mg = mg ∧ X.base = base) (hf : PySem.W.fnIn K (He.ma K (He.ga K C) "__getitem__") = true) (hr : Room (k + 1) X.A) (hx : Passes CX X E) (ha : PE X a ta) (hb : PE X b tb) (hs : PlainIxO b) :
    PE X (.Subscript a b pos) (tOp (rSubO (He.ga K C) sp E) ta tb) := by
  obtain ⟨rfl, rfl, rfl, rfl, rfl⟩ := same
  obtain ⟨fd, bd, F⟩ := c.ex
  exact pe_subO c.mt hf F bd hx hr ha hb hs
theorem op_cnotIn (c : CalC C X.prog X.w X.K X.mg X.base CX k "__contains__" ps sp) (hr : Room k X.A) (hx : Passes CX X E) : OpR X (compareOp .NotIn) (rInO (He.ga X.K C) sp E false) := by
  obtain ⟨fd, bd, F⟩ := c.ex
  exact op_notInO c.mt F bd hx hr
theorem call_clen (c : CalC C X.prog X.w X.K X.mg X.base CX k "__len__" ps sp) (hr : Room (k + 1) X.A) (hx : Passes CX X E) : CallR X (.builtin "len") (rLenO (He.ga X.K C) sp E) := by
  obtain ⟨fd, bd, F⟩ := c.ex
  exact call_lenO c.mt F bd hx hr
end
end Rt
end
section
set_option Elab.async false
set_option linter.all false
set_option maxRecDepth 100000
set_option maxHeartbeats 4000000
/-! what the rules of a book ask over masks, and what the laws tell by names: mathematics -/
namespace Rt
open PySem PySem.Spec PyProof.Rows L2
structure Ask where
  word : Str
  one : Nat
  whom : Nat
  many : Int
def tierAsk (B : Bk) (r : Int × Int) : Ask := ⟨"tier", maskF B.ns fun z => decide (tierOf B z = r.1), maskF B.ns fun z => decide (tierOf B z < r.1), r.2⟩
def wantAsk (B : Bk) (w : Want) : Ask := ⟨w.kind, bitN B.ns w.skill, maskF B.ns (inB w.names), wantMany w⟩
def asksB (B : Bk) : List Ask := B.nd.map (tierAsk B) ++ B.wl.map (wantAsk B)
def askOn (m who : Nat) (k : Ask) : Bool := decide (k.one &&& who ≠ 0) && decide (((sizeN (m &&& k.whom) : Nat) : Int) < k.many)
def unmetB (B : Bk) (m who : Nat) : List Str := ((asksB B).filter (askOn m who)).map (·.word)
def maskB (B : Bk) (b : List Str) : Nat := maskF B.ns (inB b)
def barM (B : Bk) (r : Str × Str) : Nat := maskF B.ns (inB [r.1, r.2])
def barredB (B : Bk) (m : Nat) : Nat := (((B.bars.map (barM B)).filter fun q => decide (m &&& q = q))[0]?).getD 0
def pointsM (B : Bk) (m : Nat) : Int := B.points + ((B.gives.filter fun g => decide (m &&& bitN B.ns g.1 ≠ 0)).map (·.2)).sum
def goodB (B : Bk) (m : Nat) : Bool := !decide (pointsM B m < ((sizeN m : Nat) : Int)) && (decide (barredB B m = 0) && (unmetB B m m).isEmpty)
/-- a build of a book: of its skills, in its order -/
structure Bd (B : Bk) (b : List Str) : Prop where
  r : BkR B
  sub : b.Sublist B.ns
section
variable {B : Bk} {b : List Str}
theorem BkR.nd' (h : BkR B) : B.ns.Nodup := h.sk.nd
theorem BkR.l12 (h : BkR B) : B.ns.length ≤ 12 := by
  have := h.sk.le
  rw [List.length_map]
  exact this
theorem and_some {l : List Str} (f g : Str → Bool) : maskF l f &&& maskF l g ≠ 0 ↔ ∃ z ∈ l, f z = true ∧ g z = true := by
  rw [maskF_and, maskF_pos]
  simp
theorem and_bit {l : List Str} {z : Str} (nd : l.Nodup) (hz : z ∈ l) (f : Str → Bool) : maskF l f &&& bitN l z ≠ 0 ↔ f z = true := by
  rw [bitN_mask nd, and_some]
  constructor
  · rintro ⟨y, _, h1, h2⟩
    rw [of_decide_eq_true h2] at h1
    exact h1
  · exact fun h => ⟨z, hz, h, decide_eq_true rfl⟩
theorem filter_two {ns : List Str} (nd : ns.Nodup) (s : b.Sublist ns) (g : Str → Bool) : (ns.filter fun z => inB b z && g z) = b.filter g := by
  have e := filter_sub s nd
  have e2 : (ns.filter fun z => inB b z && g z) = (ns.filter fun z => decide (z ∈ b)).filter g := by
    rw [List.filter_filter]
    refine List.filter_congr fun z _ => ?_
    show (decide (z ∈ b) && g z) = _
    rw [Bool.and_comm]
  rw [e2, e]
theorem size_two (h : Bd B b) (g : Str → Bool) : sizeN (maskB B b &&& maskF B.ns g) = (b.filter g).length := by
  unfold maskB
  rw [maskF_and, size_mask h.r.l12, filter_two h.r.nd' h.sub]
theorem size_one (h : Bd B b) : sizeN (maskB B b) = b.length := by
  unfold maskB
  rw [size_mask h.r.l12]
  exact congrArg List.length (filter_sub h.sub h.r.nd')
theorem inter_len {ws : List Str} (n1 : b.Nodup) (n2 : ws.Nodup) : (b.filter (inB ws)).length = (ws.filter (inB b)).length := by
  refine List.Perm.length_eq ((List.perm_ext_iff_of_nodup (n1.sublist List.filter_sublist) (n2.sublist List.filter_sublist)).mpr fun z => ?_)
  rw [List.mem_filter, List.mem_filter]
  unfold inB
  simp only [decide_eq_true_eq]
  exact And.comm
theorem look_words : ∀ {nd : List (Int × Int)} (t n : Int), (nd.map (·.1)).Nodup → 0 ≤ n → ((nd.filter fun r => decide (t = r.1) && decide (n < r.2)).map fun _ => ("tier" : Str)) = if decide (n < lookI nd t 0) = true then [("tier" : Str)] else []
  | [], t, n, _, h => by
    have e : decide (n < lookI [] t 0) = false := decide_eq_false (by show ¬ n < 0; omega)
    rw [e]
    rfl
  | r :: nd, t, n, hn, h => by
    rw [List.map_cons, List.nodup_cons] at hn
    by_cases e : t = r.1
    · have l : lookI (r :: nd) t 0 = r.2 := by
        unfold lookI
        rw [List.find?_cons_of_pos (by exact decide_eq_true e.symm)]
      have none : (nd.filter fun r => decide (t = r.1) && decide (n < r.2)) = [] := by
        rw [List.filter_eq_nil_iff]
        intro q hq c
        rw [Bool.and_eq_true] at c
        have := of_decide_eq_true c.1
        exact hn.1 (by rw [← e, this]; exact List.mem_map_of_mem hq)
      rw [l, List.filter_cons, none]
      by_cases c : n < r.2
      · rw [if_pos (by rw [decide_eq_true e, decide_eq_true c]; rfl), if_pos (decide_eq_true c)]
        rfl
      · rw [if_neg (by rw [decide_eq_false c, Bool.and_false]; decide), if_neg (by rw [decide_eq_false c]; decide)]
        rfl
    · have l : lookI (r :: nd) t 0 = lookI nd t 0 := by
        unfold lookI
        rw [List.find?_cons_of_neg (by rw [decide_eq_false (fun q => e q.symm)]; decide)]
      rw [l, List.filter_cons_of_neg (by rw [decide_eq_false e, Bool.false_and]; decide)]
      exact look_words t n hn.2 h
theorem tier_words (h : Bd B b) {z : Str} (hz : z ∈ B.ns) : ((B.nd.map (tierAsk B)).filter (askOn (maskB B b) (bitN B.ns z))).map (·.word) = tierW B b z := by
  rw [List.filter_map, List.map_map]
  have e : (B.nd.filter (askOn (maskB B b) (bitN B.ns z) ∘ tierAsk B)) = B.nd.filter fun r => decide (tierOf B z = r.1) && decide (((belowN B b z : Nat) : Int) < r.2) := by
    refine List.filter_congr fun r _ => ?_
    show (decide ((tierAsk B r).one &&& bitN B.ns z ≠ 0) && decide (((sizeN (maskB B b &&& (tierAsk B r).whom) : Nat) : Int) < r.2)) = _
    have a : decide ((tierAsk B r).one &&& bitN B.ns z ≠ 0) = decide (tierOf B z = r.1) := by
      rw [decide_eq_decide]
      exact (and_bit h.r.nd' hz _).trans decide_eq_true_iff
    rw [a]
    by_cases c : tierOf B z = r.1
    · have s : sizeN (maskB B b &&& (tierAsk B r).whom) = belowN B b z := by
        unfold belowN
        rw [c]
        exact size_two h _
      rw [s]
    · rw [decide_eq_false c, Bool.false_and, Bool.false_and]
  rw [e]
  have w : ((fun k : Ask => k.word) ∘ tierAsk B) = fun _ => ("tier" : Str) := rfl
  rw [w, look_words _ _ (h.r.na.imp fun q => Int.ne_of_lt q) (Int.natCast_nonneg _)]
  unfold tierW tierMet
  cases decide (((belowN B b z : Nat) : Int) < lookI B.nd (tierOf B z) 0) <;> rfl
theorem want_words (h : Bd B b) {z : Str} (hz : z ∈ B.ns) : ((B.wl.map (wantAsk B)).filter (askOn (maskB B b) (bitN B.ns z))).map (·.word) = wantW B b z := by
  rw [List.filter_map, List.map_map]
  have e : (B.wl.filter (askOn (maskB B b) (bitN B.ns z) ∘ wantAsk B)) = B.wl.filter fun w => decide (w.skill = z) && !rowMet b w := by
    refine List.filter_congr fun w hw => ?_
    have wr := h.r.w w hw
    show (decide (bitN B.ns w.skill &&& bitN B.ns z ≠ 0) && decide (((sizeN (maskB B b &&& maskF B.ns (inB w.names)) : Nat) : Int) < wantMany w)) = _
    have a : decide (bitN B.ns w.skill &&& bitN B.ns z ≠ 0) = decide (w.skill = z) := by
      rw [decide_eq_decide, bitN_mask h.r.nd' (z := w.skill), and_bit h.r.nd' hz]
      exact decide_eq_true_iff.trans eq_comm
    rw [a, size_two h, inter_len (h.r.nd'.sublist h.sub) wr.nd]
    unfold rowMet
    congr 1
    rw [Bool.eq_iff_iff, Bool.not_eq_true', decide_eq_true_iff, decide_eq_false_iff_not]
    omega
  rw [e]
  rfl
theorem unmet_words (h : Bd B b) {z : Str} (hz : z ∈ B.ns) : unmetB B (maskB B b) (bitN B.ns z) = wordsB B b z := by
  unfold unmetB asksB wordsB
  rw [List.filter_append, List.map_append, tier_words h hz, want_words h hz]
theorem ask_one (r : BkR B) {k : Ask} (h : k ∈ asksB B) : ∃ f, k.one = maskF B.ns f := by
  rcases List.mem_append.mp h with h | h
  · obtain ⟨q, _, rfl⟩ := List.mem_map.mp h
    exact ⟨_, rfl⟩
  · obtain ⟨q, _, rfl⟩ := List.mem_map.mp h
    exact ⟨_, bitN_mask r.nd'⟩
theorem words_met (z : Str) : wordsB B b z = [] ↔ metB B b z = true := by
  unfold wordsB metB
  rw [List.append_eq_nil_iff, Bool.and_eq_true]
  refine and_congr ?_ ?_
  · unfold tierW
    cases tierMet B b z <;> simp
  · unfold wantW wantsMet
    rw [List.map_eq_nil_iff, List.filter_eq_nil_iff, List.all_eq_true]
    refine forall_congr' fun w => imp_congr_right fun _ => ?_
    cases (decide (w.skill = z) && !rowMet b w) <;> simp
theorem unmet_all (h : Bd B b) : unmetB B (maskB B b) (maskB B b) = [] ↔ b.all (metB B b) = true := by
  rw [List.all_eq_true]
  unfold unmetB
  rw [List.map_eq_nil_iff, List.filter_eq_nil_iff]
  constructor
  · intro q z hz
    have hin := h.sub.subset hz
    rw [← words_met, ← unmet_words h hin]
    unfold unmetB
    rw [List.map_eq_nil_iff, List.filter_eq_nil_iff]
    intro k hk c
    refine q k hk ?_
    unfold askOn at c ⊢
    rw [Bool.and_eq_true] at c ⊢
    refine ⟨?_, c.2⟩
    have c1 := of_decide_eq_true c.1
    obtain ⟨f, ef⟩ := ask_one h.r hk
    rw [ef, and_bit h.r.nd' hin] at c1
    refine decide_eq_true ?_
    rw [ef]
    exact (and_some _ _).mpr ⟨z, hin, c1, decide_eq_true hz⟩
  · intro q k hk c
    unfold askOn at c
    rw [Bool.and_eq_true] at c
    have c1 := of_decide_eq_true c.1
    obtain ⟨f, ef⟩ := ask_one h.r hk
    rw [ef] at c1
    obtain ⟨z, hin, fz, bz⟩ := (and_some f (inB b)).mp c1
    have m := q z (of_decide_eq_true bz)
    rw [← words_met, ← unmet_words h hin] at m
    unfold unmetB at m
    rw [List.map_eq_nil_iff, List.filter_eq_nil_iff] at m
    refine m k hk ?_
    unfold askOn
    rw [Bool.and_eq_true]
    refine ⟨decide_eq_true ?_, c.2⟩
    rw [ef, and_bit h.r.nd' hin]
    exact fz
theorem maskF_inj : ∀ {l : List Str} {f g : Str → Bool}, maskF l f = maskF l g → ∀ z ∈ l, f z = g z
  | [], _, _, _, z, hz => nomatch hz
  | y :: l, f, g, h, z, hz => by
    have h1 : (if f y = true then 2 ^ l.length else 0) + maskF l f = (if g y = true then 2 ^ l.length else 0) + maskF l g := h
    have l1 := maskF_lt l f
    have l2 := maskF_lt l g
    have e : f y = g y ∧ maskF l f = maskF l g := by
      cases hf : f y <;> cases hg : g y <;> simp only [hf, hg, if_true, if_false, Bool.false_eq_true] at h1 <;> first
        | exact ⟨rfl, by omega⟩
        | (exfalso; omega)
    rcases List.mem_cons.mp hz with rfl | hz
    · exact e.1
    · exact maskF_inj e.2 z hz
theorem bar_on (h : Bd B b) {r : Str × Str} (hr : r ∈ B.bars) : (maskB B b &&& barM B r = barM B r) ↔ barOn b r = true := by
  obtain ⟨i1, i2, _⟩ := h.r.bars.in_ r hr
  unfold maskB barM barOn
  rw [maskF_and, Bool.and_eq_true]
  constructor
  · intro e
    have q := maskF_inj e
    have q1 := q r.1 i1
    have q2 := q r.2 i2
    have t1 : inB [r.1, r.2] r.1 = true := decide_eq_true (by simp)
    have t2 : inB [r.1, r.2] r.2 = true := decide_eq_true (by simp)
    rw [t1, Bool.and_true] at q1
    rw [t2, Bool.and_true] at q2
    exact ⟨q1, q2⟩
  · rintro ⟨h1, h2⟩
    refine maskF_congr fun z _ => ?_
    by_cases c : inB [r.1, r.2] z = true
    · rw [c, Bool.and_true]
      have c := of_decide_eq_true c
      simp only [List.mem_cons, List.not_mem_nil, or_false] at c
      rcases c with rfl | rfl
      · exact h1
      · exact h2
    · rw [Bool.not_eq_true] at c
      rw [c, Bool.and_false]
theorem barM_pos (h : BkR B) {r : Str × Str} (hr : r ∈ B.bars) : barM B r ≠ 0 := maskF_pos.mpr ⟨r.1, (h.bars.in_ r hr).1, decide_eq_true (by simp)⟩
theorem barred_no (h : Bd B b) : barredB B (maskB B b) = 0 ↔ B.bars.any (barOn b) = false := by
  unfold barredB
  cases e : (B.bars.map (barM B)).filter fun q => decide (maskB B b &&& q = q) with
  | nil =>
    rw [List.filter_eq_nil_iff] at e
    refine ⟨fun _ => ?_, fun _ => rfl⟩
    rw [List.any_eq_false]
    intro r hr c
    exact e _ (List.mem_map_of_mem hr) (decide_eq_true ((bar_on h hr).mpr c))
  | cons q qs =>
    have hq : q ∈ (B.bars.map (barM B)).filter fun q => decide (maskB B b &&& q = q) := by
      rw [e]
      exact List.mem_cons_self
    obtain ⟨h1, h2⟩ := List.mem_filter.mp hq
    obtain ⟨r, hr, rfl⟩ := List.mem_map.mp h1
    refine ⟨fun z => absurd z (barM_pos h.r hr), fun z => ?_⟩
    rw [List.any_eq_false] at z
    exact absurd ((bar_on h hr).mp (of_decide_eq_true h2)) (z r hr)
theorem points_eq (h : Bd B b) : pointsM B (maskB B b) = sizeLet B b := by
  unfold pointsM sizeLet givenB
  have e : (B.gives.filter fun g => decide (maskB B b &&& bitN B.ns g.1 ≠ 0)) = B.gives.filter fun g => inB b g.1 := by
    refine List.filter_congr fun g hg => ?_
    rw [Bool.eq_iff_iff, decide_eq_true_iff]
    exact and_bit h.r.nd' (h.r.gives.in_ g hg).1 _
  rw [e]
theorem good_holds (h : Bd B b) : goodB B (maskB B b) = holdsB B b := by
  unfold goodB holdsB
  rw [points_eq h, size_one h]
  congr 1
  congr 1
  · rw [Bool.eq_iff_iff, decide_eq_true_iff, barred_no h, Bool.not_eq_true']
  · rw [Bool.eq_iff_iff, ← unmet_all h, List.isEmpty_iff]
theorem addW_nil {acc : List (Str × Str)} {p : Str × Str} : addW acc p ≠ [] := by
  unfold addW
  split
  · rename_i h
    intro e
    rw [e] at h
    cases h
  · simp
theorem addWs_nil {acc : List (Str × Str)} {z : Str} {ws : List Str} : addWs acc z ws = [] ↔ acc = [] ∧ ws = [] := by
  unfold addWs
  have go : ∀ (l : List (Str × Str)) (acc : List (Str × Str)), l.foldl addW acc = [] ↔ acc = [] ∧ l = [] := by
    intro l
    induction l with
    | nil => intro acc; simp
    | cons p l ih =>
      intro acc
      rw [List.foldl_cons, ih]
      constructor
      · rintro ⟨h, _⟩
        exact absurd h addW_nil
      · rintro ⟨_, h⟩
        cases h
  rw [go, List.map_eq_nil_iff]
theorem pairs_nil (b b' : List Str) : pairsB B b b' = [] ↔ ∀ z ∈ b', wordsB B b z = [] := by
  unfold pairsB
  have go : ∀ (l : List Str) (acc : List (Str × Str)), l.foldl (fun acc z => addWs acc z (wordsB B b z)) acc = [] ↔ acc = [] ∧ ∀ z ∈ l, wordsB B b z = [] := by
    intro l
    induction l with
    | nil => intro acc; simp
    | cons p l ih =>
      intro acc
      rw [List.foldl_cons, ih, addWs_nil]
      simp [and_assoc]
  rw [go]
  simp
theorem lacks_holds (b : List Str) : lacksB B b = [] ↔ holdsB B b = true := by
  unfold lacksB holdsB
  rw [List.append_eq_nil_iff, List.append_eq_nil_iff, List.map_eq_nil_iff, List.map_eq_nil_iff, pairs_nil, Bool.and_eq_true, Bool.and_eq_true, List.all_eq_true, List.filter_eq_nil_iff]
  have e1 : (∀ z ∈ b, wordsB B b z = []) ↔ ∀ z ∈ b, metB B b z = true := forall_congr' fun z => imp_congr_right fun _ => words_met z
  have e2 : (∀ r ∈ B.bars, ¬ barOn b r = true) ↔ (!B.bars.any (barOn b)) = true := by
    rw [Bool.not_eq_true', List.any_eq_false]
  have e3 : (if 0 < manyB B b then [Lk.pts (manyB B b)] else []) = [] ↔ (!decide (sizeLet B b < ((b.length : Nat) : Int))) = true := by
    rw [Bool.not_eq_true', decide_eq_false_iff_not]
    unfold manyB
    split
    · rename_i c
      exact ⟨fun z => (nomatch z), fun z => absurd (by omega) z⟩
    · rename_i c
      exact ⟨fun _ z => c (by omega), fun _ => rfl⟩
  rw [e1, e2, e3]
  constructor
  · rintro ⟨⟨a, b⟩, c⟩
    exact ⟨c, b, a⟩
  · rintro ⟨c, b, a⟩
    exact ⟨⟨a, b⟩, c⟩
end
end Rt
end
section
set_option Elab.async false
set_option linter.all false
set_option maxRecDepth 100000
set_option maxHeartbeats 8000000
/-! the book's operators, without errors; sizes of masks -/
namespace Rt
open PySem PySem.Spec PyProof.Rows L2
def spPointsP (K : PySem.W.Frag) : Sp := fun vs H Q _ => ∃ (x : Addr) (B : Bk) (a : BoA), vs = [.ref x] ∧ BookAt K H x B a ∧ Q (.int B.points) H
def spItem (K : PySem.W.Frag) : Sp := fun vs H Q _ => ∃ (x : Addr) (B : Bk) (a : BoA) (z : Str), vs = [.ref x, .str z] ∧ BookAt K H x B a ∧ z ∈ B.ns ∧ Q (.int (tierOf B z)) H
def spHasOk (K : PySem.W.Frag) : Sp := fun vs H Q _ => ∃ (x : Addr) (B : Bk) (a : BoA) (z : Str), vs = [.ref x, .str z] ∧ BookAt K H x B a ∧ z ∈ B.ns ∧ Q .non H
def spSize : Sp := fun vs H Q _ => ∃ m : Nat, vs = [.int (m : Int)] ∧ m < 4096 ∧ Q (.int ((sizeN m : Nat) : Int)) H
def spMany : Sp := fun vs H Q _ => ∃ (x : V) (w : Want) (ns : List Str), vs = [x] ∧ Ww H x w ∧ WantR ns w ∧ w.names.length ≤ 60 ∧ Q (.int (wantMany w)) H
theorem band (m n : Nat) : Builtin.bitAnd (m : Int) (n : Int) = ((m &&& n : Nat) : Int) := by
  rw [bitAnd_pp (Int.natCast_nonneg _) (Int.natCast_nonneg _), Int.toNat_natCast, Int.toNat_natCast]
theorem bits_at (j : Nat) (h : j < 16) : atI (bitsI.map V.int) ((j : Nat) : Int) = some (.int ((bitsOf.getD j 0 : Nat) : Int)) := by
  refine at_of (j := j) rfl ?_
  unfold bitsI
  rw [List.getElem?_map, List.getElem?_map, List.getElem?_eq_getElem (show j < bitsOf.length from h), List.getD_eq_getElem?_getD, List.getElem?_eq_getElem (show j < bitsOf.length from h)]
  rfl
theorem look_at {sk : List (Str × Int)} {z : Str} (h : z ∈ sk.map (·.1)) : valV (sk.map kS) (.inr z) = some (.int (lookS sk z 0)) := by
  have q := val_kS sk z 0
  cases e : valV (sk.map kS) (.inr z) with
  | some v =>
    rw [e] at q
    exact congrArg some q
  | none =>
    exfalso
    have a := valV_any (.inr z) (sk.map kS)
    rw [e] at a
    obtain ⟨r, hr, e2⟩ := List.mem_map.mp h
    have : ((sk.map kS).any fun p => decide (p.1 = (.inr z : Key))) = true := List.any_eq_true.mpr ⟨kS r, List.mem_map_of_mem hr, decide_eq_true (by show (Sum.inr r.1 : Key) = .inr z; rw [e2])⟩
    rw [this] at a
    cases a
section
variable {P : Program} {w : World} {K : PySem.W.Frag} {mg : Str → Option Value} {base : Heap}
theorem ok_points (W : AllY K mg) : ∃ fd, Binds K fd ["self"] [] ∧ FnOk P w K mg base CX0 1 (prG K "Book" "points") fd ["self"] (spPointsP K) := by
  have Z := W.z
  obtain ⟨fd, F⟩ := W.y.points.2
  refine ⟨fd, F.bindsN (fun _ _ _ _ _ _ us hl => match us, hl with | [_], _ => rfl), ok0 F sc_Book_points (fun vs H Q E h => ?_) (fun cdv A outer s H vs Q E hr h => ?_)⟩
  · obtain ⟨x, B, a, rfl, _⟩ := h
    rfl
  · obtain ⟨x, B, a, rfl, b, k⟩ := h
    refine ⟨_, (pss_one (ps_ret (pe_dget (hu_of hr) (pe_fld (pv 0) rfl) pe_str (fun _ _ => rfl)))), ?_⟩
    exact ⟨_, rfl, x, _, a.dx, bFs a, .ref a.dp, rfl, b.at_, Z.c_Book, Z.n_parts, rfl, a.dp, .int B.points, rfl, DGet.k (k := .inr "points") b.parts, k⟩
theorem fn_iter (Z : All K mg) (M : Nat) : ∃ fd, FnN M P w K mg base 1 (He.ma K (BC K) "__iter__") fd ["self"] (spIterN M K) := by
  obtain ⟨fd, F⟩ := Z.f_Book_iter
  refine ⟨fd, FnN.of F sc_Book_iter (F.bindsN (fun _ _ _ _ _ _ us hl => match us, hl with | [_], _ => rfl)) (fun vs H Q h => ?_) (fun cdv A outer s H vs Q hM hr h => ?_)⟩
  · obtain ⟨x, B, a, rfl, _⟩ := h
    rfl
  · obtain ⟨x, B, a, rfl, b, k⟩ := h
    refine ⟨_, (pss_one (ps_ret (pe_callB (call_iterN (M := M) hM) (by rfl) Z.b_iter boot_iter (pa_cons (pe_fld (pv 0) rfl) pa_nil)))), ?_⟩
    exact ⟨_, rfl, x, _, a.dx, bFs a, .ref a.nm, rfl, b.at_, Z.c_Book, Z.n_names, rfl, a.nm, _, rfl, b.names, k⟩
theorem calc_must (Z : All K mg) : CalC "Book" P w K mg base CX0 2 "_must_have" ["self", "skill"] (spHasOk K) := by
  obtain ⟨fd, F⟩ := Z.f_Book_must_have
  have C_is_one_of : Cal P w K mg base CX0 1 "is_one_of" ["names", "value"] (spOne K) := cal_is_one_of Z
  refine .of ⟨fd, F, ok0 F sc_Book_must_have (fun vs H Q E h => ?_) (fun cdv A outer s H vs Q E hr h => ?_)⟩ Z.m_must_have Z.c_Book (fun _ _ _ _ _ _ us hl => match us, hl with | [_, _], _ => rfl)
  · obtain ⟨x, B, a, z, rfl, _⟩ := h
    rfl
  · obtain ⟨x, B, a, z, rfl, b, hz, k⟩ := h
    refine ⟨_, (pss_one (ps_if (pt_not (pt_val (pe_cal C_is_one_of (hr.mono (by decide)) (by rfl) pass0 (pa_cons (pe_fld (pv 0) rfl) (pa_cons (pv 1) pa_nil))))) (pss_one ps_dead) pss_nil)), ?_⟩
    refine ⟨_, rfl, x, _, a.dx, bFs a, .ref a.nm, rfl, b.at_, Z.c_Book, Z.n_names, rfl, _, rfl, a.nm, B.ns, .str z, "str", rfl, .inr (SqT.of b.names), .str z, ?_⟩
    have e : isOne B.ns (.str z) = true := decide_eq_true hz
    rw [e]
    exact ⟨_, rfl, ifF rfl k⟩
theorem calc_getitem (Z : All K mg) : CalC "Book" P w K mg base CX0 3 "__getitem__" ["self", "at"] (spItem K) := by
  obtain ⟨fd, F⟩ := Z.f_Book_getitem
  have M_must_have : CalC "Book" P w K mg base CX0 2 "_must_have" ["self", "skill"] (spHasOk K) := calc_must Z
  refine .of ⟨fd, F, ok0 F sc_Book_getitem (fun vs H Q E h => ?_) (fun cdv A outer s H vs Q E hr h => ?_)⟩ Z.m_getitem Z.c_Book (fun _ _ _ _ _ _ us hl => match us, hl with | [_, _], _ => rfl)
  · obtain ⟨x, B, a, z, rfl, _⟩ := h
    rfl
  · obtain ⟨x, B, a, z, rfl, b, hz, k⟩ := h
    refine ⟨_, (pss_cons (ps_expr (pe_c1 M_must_have ⟨rfl, rfl, rfl, rfl, rfl⟩ (hr.mono (by decide)) pass0 (pv 0) (pa_cons (pv 1) pa_nil)))
      (pss_one (ps_ret (pe_dget (hu_of hr) (pe_fld (pv 0) rfl) (pv 1) (fun _ _ => rfl))))), ?_⟩
    refine ⟨_, rfl, x, a.dx, bFs a, rfl, b.at_, rfl, _, rfl, x, B, a, z, rfl, b, hz, ?_⟩
    refine ⟨_, rfl, x, _, a.dx, bFs a, .ref a.td, rfl, b.at_, Z.c_Book, Z.n_tiers, rfl, _, rfl, a.td, .int (tierOf B z), rfl, ?_, k⟩
    rw [show some (V.int (tierOf B z)) = valV (B.sk.map kS) (.inr z) from (look_at hz).symm]
    exact DGet.k (k := .inr z) b.tiers
end
end Rt
end
section
set_option Elab.async false
set_option linter.all false
set_option maxRecDepth 100000
set_option maxHeartbeats 8000000
/-! the rules of a book: masks of skills, what is asked -/
namespace Rt
open PySem PySem.Spec PyProof.Rows L2
abbrev RC (K : PySem.W.Frag) : Addr := He.ga K "Rules"
abbrev bI (ns : List Str) (z : Str) : Int := ((bitN ns z : Nat) : Int)
def bitD (ns : List Str) : List (Key × V) := ns.map fun z => (.inr z, .int (bI ns z))
/-- what mask_of asks of the rules -/
def MaskAt (K : PySem.W.Frag) (H : Hp) (r : Addr) (ns : List Str) : Prop := ∃ dx fs d, H r = some (.ins (RC K) dx fs) ∧ fs.lookup ("_bit_by_name" : Str) = some (.ref d) ∧ fs.lookup ("mask_of" : Str) = none ∧ H d = some (.dK (bitD ns))
theorem MaskAt.same {K : PySem.W.Frag} {H H' : Hp} {r : Addr} {ns : List Str} (h : MaskAt K H r ns) (s : Same H H') : MaskAt K H' r ns := let ⟨dx, fs, d, a, b, n, c⟩ := h; ⟨dx, fs, d, s _ _ a, b, n, s _ _ c⟩
/-- what the rules know of their book -/
def PreAt (K : PySem.W.Frag) (H : Hp) (r : Addr) (B : Bk) : Prop := MaskAt K H r B.ns ∧ ∃ dx fs x a, H r = some (.ins (RC K) dx fs) ∧ fs.lookup ("book" : Str) = some (.ref x) ∧ BookAt K H x B a
theorem PreAt.same {K : PySem.W.Frag} {H H' : Hp} {r : Addr} {B : Bk} (h : PreAt K H r B) (s : Same H H') : PreAt K H' r B := ⟨h.1.same s, let ⟨dx, fs, x, a, h1, h2, h3⟩ := h.2; ⟨dx, fs, x, a, s _ _ h1, h2, h3.same s⟩⟩
theorem bit_val : ∀ {l : List Str} {f : Str → Int} {z : Str}, z ∈ l → valV (l.map fun y => ((.inr y : Key), V.int (f y))) (.inr z) = some (.int (f z))
  | [], _, _, h => nomatch h
  | y :: l, f, z, h => by
    by_cases e : y = z
    · subst e
      rw [List.map_cons, valV_pos rfl]
    · rw [List.map_cons, valV_neg (by intro q; exact e (Sum.inr.inj q))]
      exact bit_val (by rcases List.mem_cons.mp h with q | q; exact absurd q.symm e; exact q)
theorem sum_cast : ∀ (l : List Nat), (l.map fun n => ((n : Nat) : Int)).sum = ((l.sum : Nat) : Int)
  | [] => rfl
  | n :: l => by
    rw [List.map_cons, List.sum_cons, List.sum_cons, sum_cast l]
    omega
theorem take_line' {α β : Type} {f : α → β} {xs : List α} (i : Nat) {m : Nat} (h : xs.length ≤ m) (hm : m ≤ 100000) : ((xs.take i).map f).length < sizeLine := by
  refine line_of (m := m) ?_ hm
  rw [List.length_map]
  exact Nat.le_trans (List.length_take_le' _ _) h
theorem none_of' {H H' : Hp} {d : Addr} (s : Same H H') (n : H' d = none) : H d = none := by
  cases h : H d with
  | none => rfl
  | some o =>
    rw [s _ _ h] at n
    cases n
/-- a row of what is asked -/
def AskT (H : Hp) (x : V) (k : Ask) : Prop := ∃ q, x = .ref q ∧ H q = some (.tup [.str k.word, .int ((k.one : Nat) : Int), .int ((k.whom : Nat) : Int), .int k.many])
theorem ask_mono : TkMono AskT := fun H H' x w t ⟨q, e, h⟩ => ⟨q, e, t _ _ h⟩
def spMaskOf (K : PySem.W.Frag) : Sp := fun vs H Q _ => ∃ (r q : Addr) (ns b : List Str), vs = [.ref r, .ref q] ∧ MaskAt K H r ns ∧ ns.Nodup ∧ Sq K H q (b.map V.str) ∧ b.Nodup ∧ (∀ z ∈ b, z ∈ ns) ∧ b.length ≤ 60 ∧ ∀ H', Same H H' → Q (.int ((maskF ns (inB b) : Nat) : Int)) H'
def spAsks (K : PySem.W.Frag) (f : Bk → List Ask) : Sp := fun vs H Q _ => ∃ (r : Addr) (B : Bk), vs = [.ref r] ∧ PreAt K H r B ∧ BkR B ∧ ∀ l H' xs, Same H H' → H l = none → H' l = some (.lst xs) → Paired (AskT H') xs (f B) → Q (.ref l) H'
section
variable {P : Program} {w : World} {K : PySem.W.Frag} {mg : Str → Option Value} {base : Heap}
end
end Rt
end
section
set_option Elab.async false
set_option linter.all false
set_option maxRecDepth 100000
set_option maxHeartbeats 8000000
/-! the rules of a book: what tiers ask -/
namespace Rt
open PySem PySem.Spec PyProof.Rows L2
theorem pre_no {K : PySem.W.Frag} {H : Hp} {r dx C : Addr} {B : Bk} {fs : List (Str × V)} (h : PreAt K H r B) (e : H r = some (.ins C dx fs)) : fs.lookup ("mask_of" : Str) = none := by
  obtain ⟨⟨dx', fs', d, a, _, n, _⟩, _⟩ := h
  rw [e] at a
  injection a with a
  injection a with _ _ a
  rw [a]
  exact n
theorem lc_tup {K : PySem.W.Frag} {H1 : Hp} {a : Addr} {xs : List V} {g : TG} {tt : TT} {te : TE} {vs : List Nat} {σ : L2.St} {Q : Addr → Hp → Prop} (h : SqT K H1 a xs) (L : Nat → List V) (h0 : L 0 = [])
    (turn : ∀ D, H1 D = none → ∀ i x H, xs[i]? = some x → LcP H1 D L i H → g x (wipe σ vs) H fun σ2 H2 => wipe σ2 vs = wipe σ vs ∧ tt σ2 H2 fun b H3 =>
      if b = true then te σ2 H3 fun y H4 => ∃ acc, H4 D = some (.lst acc) ∧ acc.length < sizeLine ∧ LcP H1 D L (i + 1) (upd H4 D (.lst (acc ++ [y]))) else LcP H1 D L (i + 1) H3)
    (fin : ∀ D H, H1 D = none → Same H1 H → H D = some (.lst (L xs.length)) → Q D H) : LcR g tt te vs σ Q (Itt K a) H1 := fun D nD => by
  refine lc_it walk_tup (LcP H1 D L) (LcP.zero nD h0) (fun i H _ p => sqT_same p.same h) ?_ (fun H p => fin D H nD p.same p.at_)
  rintro i x H2 H3 hi p ⟨rfl, hx⟩
  exact turn D nD i x H3 hx p
theorem mask_filter (l : List Str) (f : Str → Bool) : maskF l (inB (l.filter f)) = maskF l f := maskF_congr fun z hz => by
  unfold inB
  rw [Bool.eq_iff_iff, decide_eq_true_iff, List.mem_filter]
  exact ⟨fun h => h.2, fun h => ⟨hz, h⟩⟩
theorem int_dec (i j : Int) : decide (V.int i = V.int j) = decide (i = j) := by
  rw [decide_eq_decide]
  exact ⟨fun e => by injection e, fun e => by rw [e]⟩
theorem filt_line {α β : Type} {f : α → β} {p : α → Bool} {l : List α} {i : Nat} (h : l.length ≤ 60) : (((l.take i).filter p).map f).length < sizeLine := by
  rw [List.length_map]
  exact line_of (m := 60) (Nat.le_trans (List.length_filter_le _ _) (Nat.le_trans (List.length_take_le' _ _) h)) (by decide)
theorem need_len {B : Bk} (h : BkR B) : B.nd.length ≤ 60 := by
  have n : (B.nd.map (·.1)).Nodup := h.na.imp fun q => Int.ne_of_lt q
  have s : ∀ t ∈ B.nd.map (·.1), t ∈ ([2, 3, 4] : List Int) := fun t ht => by
    obtain ⟨r, hr, rfl⟩ := List.mem_map.mp ht
    have := (h.nb r hr).1
    simp only [List.mem_cons, List.not_mem_nil, or_false]
    omega
  have := n.length_le_of_subset s
  rw [List.length_map] at this
  exact Nat.le_trans this (by decide)
section
variable {P : Program} {w : World} {K : PySem.W.Frag} {mg : Str → Option Value} {base : Heap}
end
end Rt
end
section
set_option Elab.async false
set_option linter.all false
set_option maxRecDepth 100000
set_option maxHeartbeats 8000000
/-! the rules of a book are made -/
namespace Rt
open PySem PySem.Spec PyProof.Rows L2
/-- where the rules keep what -/
structure RuA where
  (dx x bt bd nb wn ak br gv : Addr)
  (a : BoA)
def rFs (u : RuA) : List (Str × V) := [("book", .ref u.x), ("bits", .ref u.bt), ("_bit_by_name", .ref u.bd), ("_name_by_bit", .ref u.nb), ("_wanted", .ref u.wn), ("_asks", .ref u.ak), ("_bars", .ref u.br), ("_gives", .ref u.gv)]
def GvT (ns : List Str) (H : Hp) (x : V) (g : Str × Int) : Prop := ∃ q, x = .ref q ∧ H q = some (.tup [.int (bI ns g.1), .int g.2])
theorem gv_mono (ns : List Str) : TkMono (GvT ns) := fun H H' x w t ⟨q, e, h⟩ => ⟨q, e, t _ _ h⟩
def nameD (ns : List Str) : List (Key × V) := ns.map fun z => (.inl (bI ns z), V.str z)
structure RulesAt (K : PySem.W.Frag) (H : Hp) (r : Addr) (B : Bk) (u : RuA) : Prop where
  at_ : H r = some (.ins (RC K) u.dx (rFs u))
  book : BookAt K H u.x B u.a
  bit : H u.bd = some (.dK (bitD B.ns))
  asks : ∃ xs, H u.ak = some (.lst xs) ∧ Paired (AskT H) xs (asksB B)
  bars : H u.br = some (.lst (B.bars.map fun q => V.int ((barM B q : Nat) : Int)))
  gives : ∃ ys, H u.gv = some (.lst ys) ∧ Paired (GvT B.ns H) ys B.gives
  bits : H u.bt = some (.tup (B.ns.map fun z => V.int (bI B.ns z)))
  byBit : H u.nb = some (.dK (nameD B.ns))
  wants : ∃ xs, H u.wn = some (.lst xs) ∧ Paired (AskT H) xs (B.wl.map (wantAsk B))
theorem RulesAt.same {K : PySem.W.Frag} {H H' : Hp} {r : Addr} {B : Bk} {u : RuA} (h : RulesAt K H r B u) (s : Same H H') : RulesAt K H' r B u :=
  ⟨s _ _ h.at_, h.book.same s, s _ _ h.bit, let ⟨xs, e, p⟩ := h.asks; ⟨xs, s _ _ e, paired_mono (fun x w q => ask_mono _ _ _ _ (Tk.of s) q) p⟩, s _ _ h.bars, let ⟨ys, e, p⟩ := h.gives; ⟨ys, s _ _ e, paired_mono (fun x w q => gv_mono _ _ _ _ _ (Tk.of s) q) p⟩, s _ _ h.bits, s _ _ h.byBit, let ⟨xs, e, p⟩ := h.wants; ⟨xs, s _ _ e, paired_mono (fun x w q => ask_mono _ _ _ _ (Tk.of s) q) p⟩⟩
theorem RulesAt.mask {K : PySem.W.Frag} {H : Hp} {r : Addr} {B : Bk} {u : RuA} (h : RulesAt K H r B u) : MaskAt K H r B.ns := ⟨u.dx, rFs u, u.bd, h.at_, rfl, rfl, h.bit⟩
def spInitR (K : PySem.W.Frag) : Sp := fun vs H Q _ => ∃ (r dx x : Addr) (B : Bk) (a : BoA), vs = [.ref r, .ref x] ∧ H r = some (.ins (RC K) dx []) ∧ x ≠ r ∧ BookAt K H x B a ∧ BkR B ∧ ∀ H' u, But r H H' → u.dx = dx → RulesAt K H' r B u → Q .non H'
theorem BookAt.put {K : PySem.W.Frag} {H : Hp} {r x C dx : Addr} {B : Bk} {a : BoA} {fs : List (Str × V)} {o' : HO} (h : BookAt K H x B a) (hr : H r = some (.ins C dx fs)) (xr : x ≠ r) : BookAt K (upd H r o') x B a := by
  have t : Tk H (upd H r o') := put_tk hr
  have f : Tf H (upd H r o') := put_tf hr
  have d : ∀ {b : Addr} {kvs : List (Key × V)}, H b = some (.dK kvs) → (upd H r o') b = some (.dK kvs) := fun hb => put_keep hr hb fun _ _ _ z => by cases z
  exact ⟨(upd_ne xr).trans h.at_, d h.parts, h.h1.tk f, h.h3.tk f, h.h4.tk f, h.h5.tk f, h.h6.tk f, h.h7.tk f, h.r1.tk t, h.r3.tk t, h.r4.tk t, h.r5.tk t, h.r6.tk t, h.r7.tk t, t _ _ h.names, d h.tiers, d h.needs, d h.given, d h.price⟩
theorem keys_bitD (ns : List Str) : ((bitD ns).map fun p => kV p.1) = ns.map V.str := by
  unfold bitD
  rw [List.map_map]
  rfl
theorem vals_bitD (ns : List Str) : ((bitD ns).map (·.2)) = ns.map fun z => V.int (bI ns z) := by
  unfold bitD
  rw [List.map_map]
  rfl
theorem keys_nameD (ns : List Str) : ((nameD ns).map fun p => kV p.1) = ns.map fun z => V.int (bI ns z) := by
  unfold nameD
  rw [List.map_map]
  rfl
theorem vals_nameD (ns : List Str) : ((nameD ns).map (·.2)) = ns.map V.str := by
  unfold nameD
  rw [List.map_map]
  rfl
theorem bit_inj {ns : List Str} {z y : Str} (nd : ns.Nodup) (hz : z ∈ ns) (hy : y ∈ ns) (e : bitN ns z = bitN ns y) : z = y := by
  rw [bitN_mask nd, bitN_mask nd] at e
  have := maskF_inj e z hz
  rw [decide_eq_true rfl] at this
  exact of_decide_eq_true this.symm
theorem nodup_map_on {α β : Type} {f : α → β} : ∀ {l : List α}, l.Nodup → (∀ x ∈ l, ∀ y ∈ l, f x = f y → x = y) → (l.map f).Nodup
  | [], _, _ => List.nodup_nil
  | x :: l, nd, h => by
    have nd' := List.nodup_cons.mp nd
    refine List.nodup_cons.mpr ⟨fun q => ?_, nodup_map_on nd'.2 fun a ha b hb => h a (List.mem_cons_of_mem _ ha) b (List.mem_cons_of_mem _ hb)⟩
    obtain ⟨y, hy, e⟩ := List.mem_map.mp q
    rw [h y (List.mem_cons_of_mem _ hy) x List.mem_cons_self e] at hy
    exact nd'.1 hy
theorem nodup_nameD {ns : List Str} (h : ns.Nodup) : ((nameD ns).map (·.1)).Nodup := by
  unfold nameD
  rw [List.map_map]
  refine nodup_map_on h fun x hx y hy e => bit_inj h hx hy ?_
  have e : (Sum.inl (bI ns x) : Key) = .inl (bI ns y) := e
  injection e with e
  unfold bI at e
  omega
theorem nodup_bitD {ns : List Str} (h : ns.Nodup) : ((bitD ns).map (·.1)).Nodup := by
  unfold bitD
  rw [List.map_map]
  exact List.Pairwise.map _ (fun _ _ n e => n (Sum.inr.inj e)) h
theorem bit_pos : ∀ {l : List Str} {i : Nat} {z : Str}, l.Nodup → l[i]? = some z → bitN l z = 2 ^ (l.length - 1 - i)
  | [], _, _, _, h => by simp at h
  | y :: l, 0, z, _, h => by
    simp at h
    subst h
    show (if y = y then 2 ^ l.length else bitN l y) = _
    rw [if_pos rfl, List.length_cons]
    congr 1
  | y :: l, i + 1, z, nd, h => by
    rw [List.nodup_cons] at nd
    have h : l[i]? = some z := by simpa using h
    have ne : y ≠ z := fun e => nd.1 (by rw [e]; exact List.mem_of_getElem? h)
    show (if y = z then 2 ^ l.length else bitN l z) = _
    rw [if_neg ne, bit_pos nd.2 h, List.length_cons]
    congr 1
    omega
section
variable {P : Program} {w : World} {K : PySem.W.Frag} {mg : Str → Option Value} {base : Heap}
end
end Rt
end
section
set_option Elab.async false
set_option linter.all false
set_option maxRecDepth 100000
set_option maxHeartbeats 8000000
/-! the rules of a book: what they answer of a mask -/
namespace Rt
open PySem PySem.Spec PyProof.Rows L2
@[reducible] def tTr (K : PySem.W.Frag) (ta : TE) : TT := fun σ H Q => ta σ H fun x H' => ∃ k, TruV K x H' k ∧ Q k H'
theorem pt_truthK {X : Cx} {K : PySem.W.Frag} {a : Expr} {ta : TE} (hK : X.K = K) (ha : PE X a ta) (he : ∀ whole, isTrue a X.env whole = (do let v ← whole; standAt a.pos; holding [v] (truthy v))) : PT X a (tTr K ta) := by
  subst hK
  exact pt_truth ha he
def spUnmet (K : PySem.W.Frag) : Sp := fun vs H Q _ => ∃ (r : Addr) (B : Bk) (u : RuA) (m who : Nat), vs = [.ref r, .int (m : Int), .int (who : Int)] ∧ RulesAt K H r B u ∧ BkR B ∧ m < 4096 ∧ ∀ l H', Same H H' → H l = none → H' l = some (.lst ((unmetB B m who).map V.str)) → Q (.ref l) H'
def spBarred (K : PySem.W.Frag) : Sp := fun vs H Q _ => ∃ (r : Addr) (B : Bk) (u : RuA) (m : Nat), vs = [.ref r, .int (m : Int)] ∧ RulesAt K H r B u ∧ BkR B ∧ ∀ H', Same H H' → Q (.int ((barredB B m : Nat) : Int)) H'
def spPts (K : PySem.W.Frag) : Sp := fun vs H Q _ => ∃ (r : Addr) (B : Bk) (u : RuA) (m : Nat), vs = [.ref r, .int (m : Int)] ∧ RulesAt K H r B u ∧ BkR B ∧ ∀ H', Same H H' → Q (.int (pointsM B m)) H'
def spGood (K : PySem.W.Frag) : Sp := fun vs H Q _ => ∃ (r : Addr) (B : Bk) (u : RuA) (m : Nat), vs = [.ref r, .int (m : Int)] ∧ RulesAt K H r B u ∧ BkR B ∧ m < 4096 ∧ ∀ H', Same H H' → Q (.bl (goodB B m)) H'
theorem truth_band (m n : Nat) : decide (m &&& n ≠ 0) = (Builtin.bitAnd (m : Int) (n : Int) != 0) := by
  rw [band, Bool.eq_iff_iff, decide_eq_true_iff, bne_iff_ne]
  omega
theorem eq_band (m q : Nat) : decide (V.int (Builtin.bitAnd (m : Int) (q : Int)) = V.int ((q : Nat) : Int)) = decide (m &&& q = q) := by
  rw [band, decide_eq_decide]
  exact ⟨fun e => by injection e with e; omega, fun e => by rw [e]⟩
theorem asks_len {B : Bk} (h : BkR B) : (asksB B).length ≤ 60 := by
  unfold asksB
  have n : B.nd.length ≤ 12 := by
    have n : (B.nd.map (·.1)).Nodup := h.na.imp fun q => Int.ne_of_lt q
    have s : ∀ t ∈ B.nd.map (·.1), t ∈ ([2, 3, 4] : List Int) := fun t ht => by
      obtain ⟨r, hr, rfl⟩ := List.mem_map.mp ht
      have := (h.nb r hr).1
      simp only [List.mem_cons, List.not_mem_nil, or_false]
      omega
    have := n.length_le_of_subset s
    rw [List.length_map] at this
    exact Nat.le_trans this (by decide)
  have := h.wl
  rw [List.length_append, List.length_map, List.length_map]
  omega
section
variable {P : Program} {w : World} {K : PySem.W.Frag} {mg : Str → Option Value} {base : Heap}
end
end Rt
end
section
set_option Elab.async false
set_option linter.all false
set_option maxRecDepth 100000
set_option maxHeartbeats 8000000
/-! what a book answers of a build -/
namespace Rt
open PySem PySem.Spec PyProof.Rows L2
def spBuild (K : PySem.W.Frag) : Sp := fun vs H Q _ => ∃ (x : Addr) (v : V) (B : Bk) (a : BoA) (o : Option (List V)), vs = [.ref x, v] ∧ BookAt K H x B a ∧ BkR B ∧ Oks B.ns ∧ Ov K H v o ∧ ∀ H', Same H H' → Q (.bl (ordO B.ns o)) H'
def spMaskB (K : PySem.W.Frag) : Sp := fun vs H Q _ => ∃ (r q : Addr) (B : Bk) (u : RuA) (b : List Str), vs = [.ref r, .ref q] ∧ RulesAt K H r B u ∧ Bd B b ∧ Oks B.ns ∧ SqT K H q (b.map V.str) ∧ ∀ H', Same H H' → Q (.int ((maskB B b : Nat) : Int)) H'
/-- what a function of a book and a build asks -/
def spOfB (K : PySem.W.Frag) (f : Bk → List Str → V) : Sp := fun vs H Q _ => ∃ (x q : Addr) (B : Bk) (a : BoA) (b : List Str), vs = [.ref x, .ref q] ∧ BookAt K H x B a ∧ Bd B b ∧ Oks B.ns ∧ SqT K H q (b.map V.str) ∧ ∀ H', Same H H' → Q (f B b) H'
def spMet (K : PySem.W.Frag) : Sp := fun vs H Q _ => ∃ (x q : Addr) (z : Str) (B : Bk) (a : BoA) (b : List Str), vs = [.ref x, .ref q, .str z] ∧ BookAt K H x B a ∧ Bd B b ∧ Oks B.ns ∧ z ∈ B.ns ∧ SqT K H q (b.map V.str) ∧ ∀ H', Same H H' → Q (.bl (metB B b z)) H'
def spLacks (K : PySem.W.Frag) : Sp := fun vs H Q _ => ∃ (x q : Addr) (B : Bk) (a : BoA) (b : List Str), vs = [.ref x, .ref q] ∧ BookAt K H x B a ∧ Bd B b ∧ Oks B.ns ∧ SqT K H q (b.map V.str) ∧
  ∀ (l : Addr) (H' : Hp) (xs : List V), H l = none → Same H H' → H' l = some (.lst xs) → Paired (LkAt H') xs (lacksB B b) → Q (.ref l) H'
theorem maskB_lt {B : Bk} (h : BkR B) (b : List Str) : maskB B b < 4096 := by
  have := h.l12
  exact Nat.lt_of_lt_of_le (maskF_lt _ _) (Nat.pow_le_pow_right (by decide) this)
theorem mask_bit {B : Bk} (h : BkR B) {z : Str} (hz : z ∈ B.ns) : maskF B.ns (inB [z]) = bitN B.ns z := by
  rw [bitN_mask h.nd']
  refine congrArg _ (funext fun y => ?_)
  unfold inB
  rw [decide_eq_decide, List.mem_singleton]
theorem rules_made {K : PySem.W.Frag} {H : Hp} {x r dx : Addr} {B : Bk} {a : BoA} {Q : VK} {E : XK} (bk : BookAt K H x B a) (ok : BkR B) (nr : H r = none) (nd : H dx = none) (ne : dx ≠ r) (k : ∀ H' u, Same H H' → RulesAt K H' r B u → Q .non H') :
    spInitR K [.ref r, .ref x] (upd (upd H dx (.own r)) r (.ins (RC K) dx [])) Q E := by
  have xr : x ≠ r := ne_of_none bk.at_ nr
  have s : Same H (upd (upd H dx (.own r)) r (.ins (RC K) dx [])) := fun c o hc => by
    rw [upd_ne (ne_of_none hc nr), upd_ne (ne_of_none hc nd)]
    exact hc
  exact ⟨r, dx, x, B, a, rfl, upd_same, xr, bk.same s, ok, fun H' u b _ ru => k H' u (Same.made nr nd ne b) ru⟩
section
variable {P : Program} {w : World} {K : PySem.W.Frag} {mg : Str → Option Value} {base : Heap}
theorem cal_is_build (Z : All K mg) : Cal P w K mg base CX0 4 "is_build" ["book", "value"] (spBuild K) := by
  obtain ⟨fd, F⟩ := Z.f_is_build
  have C_is_ordered : Cal P w K mg base CX0 3 "is_ordered" ["names", "value"] (spOrd K) := cal_is_ordered Z
  have M_names : CalC "Book" P w K mg base CX0 1 "names" ["self"] (spList K fun B _ => B.ns.map V.str) := (calm_names Z).c
  refine .of ⟨fd, F, ok0 F sc_is_build (fun vs H Q E h => ?_) (fun cdv A outer s H vs Q E hr h => ?_)⟩ Z.g_is_build (fun _ _ _ _ _ _ us hl => match us, hl with | [_, _], _ => rfl)
  · obtain ⟨x, v, B, a, o, rfl, _⟩ := h
    rfl
  · obtain ⟨x, v, B, a, o, rfl, bk, ok, oks, ov, k⟩ := h
    refine ⟨_, (pss_one (ps_ret (pe_cal C_is_ordered (hr.mono (by decide)) (by rfl) pass0 (pa_cons (pe_c0 M_names ⟨rfl, rfl, rfl, rfl, rfl⟩ (hr.mono (by decide)) pass0 (pv 0)) (pa_cons (pv 1) pa_nil))))), ?_⟩
    refine ⟨_, rfl, x, a.dx, bFs a, rfl, bk.at_, rfl, x, B, a, rfl, bk, fun l nl => ⟨_, rfl, ?_⟩⟩
    have l12 := ok.l12
    exact ⟨l, B.ns, v, o, rfl, .inl (SqL.of upd_same), by omega, oks, ov.same (Same.new nl), fun H' s => k H' ((Same.new nl).trans s)⟩
end
end Rt
end
section
set_option Elab.async false
set_option linter.all false
set_option maxRecDepth 100000
set_option maxHeartbeats 8000000
/-! builds written and read -/
namespace Rt
open PySem PySem.Spec PyProof.Rows L2
open LamX (ExtN Tabs TabB TabS)
/-- words in a tuple -/
def wordsO : Option (List V) → Bool
  | none => false
  | some xs => xs.all isWord
theorem words_back {xs : List V} (h : xs.all isWord = true) : xs = (strsOf xs).map V.str ∧ ∀ z ∈ strsOf xs, isWord (.str z) = true := by
  induction xs with
  | nil => exact ⟨rfl, fun z hz => nomatch hz⟩
  | cons x xs ih =>
    rw [List.all_cons, Bool.and_eq_true] at h
    obtain ⟨e, f⟩ := ih h.2
    cases x with
    | str z =>
      refine ⟨congrArg (V.str z :: ·) e, fun y hy => ?_⟩
      rcases List.mem_cons.mp hy with rfl | hy
      · exact h.1
      · exact f y hy
    | _ => cases h.1
def spWriteE (K : PySem.W.Frag) : Sp := fun vs H Q E => ∃ (v : V) (o : Option (List V)), vs = [v] ∧ Ov K H v o ∧ (∀ xs, o = some xs → ∀ z, V.str z ∈ xs → z.length ≤ 1000) ∧
  (wordsO o = true → ∀ H', Same H H' → Q (.str (textB (bO o))) H') ∧ (wordsO o = false → ∀ H', Same H H' → Err K "NoBuild" "build" v H' E)
def spReadE (K : PySem.W.Frag) : Sp := fun vs H Q E => ∃ (x : Addr) (v : V) (T : String) (B : Bk) (a : BoA), vs = [.ref x, v] ∧ BookAt K H x B a ∧ BkR B ∧ Oks B.ns ∧ Ts K H v T ∧
  (∀ t, v = .str t → t.length ≤ 50 ∧ (ordO B.ns (some ((partsT t).map V.str)) = true → ∀ (q : Addr) (H' : Hp), Same H H' → H q = none → H' q = some (.tup ((partsT t).map V.str)) → Q (.ref q) H') ∧ (ordO B.ns (some ((partsT t).map V.str)) = false → ∀ H', Same H H' → Err K "NoNote" "line" v H' E)) ∧
  (T ≠ "str" → ∀ H', Same H H' → Err K "NoNote" "line" v H' E)
theorem ttP_by {tt : L2.TT} {σ : L2.St} {H : Hp} {Q : Bool → Hp → Prop} (Pv : Bool → Hp → Prop) (h1 : ∀ Q : Bool → Hp → Prop, (∀ b H', Pv b H' → Q b H') → tt σ H Q) (h2 : ∀ b H', Pv b H' → Q b H') : tt σ H Q := h1 Q h2
section
variable {P : Program} {w : World} {K : PySem.W.Frag} {mg : Str → Option Value} {base : Heap}
theorem cal_write_build (W : AllY K mg) : Cal P w K mg base (L2.CX P w) 3 "write_build" ["build"] (spWriteE K) := by
  have Z := W.z
  obtain ⟨fd, F⟩ := Z.f_write_build
  have C_is_word : Cal P w K mg base CX0 1 "is_word" ["value"] (spWord K) := cal_is_word Z
  obtain ⟨fe, be, Fe⟩ := ok_nobuild (P := P) (w := w) (base := base) W
  obtain ⟨T1, T2, T3, _⟩ := W.y.err (x := "NoBuild") (by simp [errsL])
  refine ⟨⟨fd, F.bindsN (fun _ _ _ _ _ _ us hl => match us, hl with | [_], _ => rfl), okX F sc_write_build (fun vs H Q E h => ?_) (fun cdv A outer s H vs Q E hr h => ?_)⟩, Z.g_write_build, F.kp⟩
  · obtain ⟨v, o, rfl, _⟩ := h
    rfl
  · obtain ⟨v, o, rfl, ov, len, k1, k2⟩ := h
    refine ⟨_, (pss_cons (ps_if (PW.pt (pw_or (pt_not (pt_val (pe_callB (call_is (cn := "tuple") (by decide)) (by rfl) Z.b_isinstance boot_isinstance (pa_cons (pv 0) (pa_cons (pe_bltn (v := .ty "tuple") (by rfl) Z.b_tuple PyProof.Rows.boot_tuple rfl) pa_nil))))) (pw_or1 (pt_not (pt_val (pe_callB (cr_all rfl) (by rfl) Z.b_all boot_all (pa_cons (pe_lc (own := [("skill", 1)]) (by rfl) sc_write_build.nd (pi_seq (pv 0)) (blkOk_by (own := [("skill", 1)]) (N := ["build", "skill"]) (sc := defScope s_write_build) (by decide +kernel)) (fun _ _ _ _ _ => (pg_name (i := 1) sc_write_build.nd rfl (Or.inl rfl))) (fun _ _ _ _ _ => pts_nil) (fun _ _ _ _ _ => (pe_cal C_is_word (hr.mono (by decide)) (by rfl) pass0 (pa_cons (pv 1) pa_nil)))) pa_nil))))))) (pss_one (ps_raise rfl (takes_of rfl rfl rfl rfl) (pmk_oex T1 T2 T3 Fe (hr.mono (by decide)) be .nil pass0 (by rfl) Z.g_NoBuild (pa_cons (pv 0) pa_nil)))) pss_nil)
      (pss_one (ps_ret (pe_ifExp (pt_truth (pv 0) (by intro _; rfl)) (pe_joinK (K := K) rfl pe_str (pv 0)) pe_str)))), ?_⟩
    have len1 : ∀ xs, o = some xs → ∀ y ∈ xs, ∀ z, y = .str z → z.length ≤ 1000 := fun xs e y hy z ez => len xs e z (by rw [← ez]; exact hy)
    dsimp only [tSeq, tIfS]
    refine ttP_by (fun t G => Same H G ∧ t = !wordsO o) (fun Q kQ => ?_) ?_
    · cases o with
      | none =>
        obtain ⟨T, t, ne⟩ := ov
        exact ⟨_, rfl, v, T, rfl, t, _, rfl, ifT (by simp [answ, ne]) (kQ _ _ ⟨Same.refl _, rfl⟩)⟩
      | some xs =>
        obtain ⟨b, rfl, hb, ht, hl⟩ := ov
        refine ⟨_, rfl, .ref b, "tuple", rfl, .tup hb, _, rfl, ifF (by decide) ?_⟩
        refine ⟨_, rfl, b, rfl, lc_seq (.inr hb) (fun i => ((xs.take i).map isWord).map V.bl) rfl (fun D nD i y Hy hi p => ?_) fun D G nD sG hD => ?_⟩
        · obtain ⟨T, ty⟩ := ht y (List.mem_of_getElem? hi)
          refine ⟨rfl, _, rfl, y, T, rfl, ty.same p.same, fun z e => len1 xs rfl y (List.mem_of_getElem? hi) z e, fun H5 s5 => ?_⟩
          refine (p.ext s5).put nD ?_ ?_
          · rw [take_one hi, List.map_append, List.map_append]
            rfl
          · have := List.length_take_le' i xs
            rw [List.length_map, List.length_map, sizeLine_eq]
            omega
        · rw [List.take_length] at hD
          refine ⟨D, xs.map isWord, rfl, SqL.of hD, _, rfl, kQ _ _ ⟨sG, ?_⟩⟩
          rw [List.all_map]
          rfl
    rintro t G ⟨sG, rfl⟩
    cases hw : wordsO o with
    | false => exact ifT rfl ⟨_, rfl, (by show 1 ≤ 1000; decide), fun ax na => err_made (k2 hw G sG) ax na⟩
    | true =>
      refine ifF rfl ?_
      cases o with
      | none => cases hw
      | some xs =>
        obtain ⟨b, rfl, hb, ht, hl⟩ := ov
        obtain ⟨back, isw⟩ := words_back hw
        have hbG := sqT_same sG hb
        have k1 := k1 hw
        dsimp only [tNext]
        have hbS : SqT K G b ((strsOf xs).map V.str) := by
          rw [← back]
          exact hbG
        have sl : (strsOf xs).length ≤ 60 := by
          have := congrArg List.length back
          rw [List.length_map] at this
          omega
        have ws := words_sum isw
        refine ⟨_, rfl, !xs.isEmpty, .inr (.inl ⟨_, hbG, rfl⟩), ?_⟩
        cases hx : xs with
        | nil =>
          refine ifF rfl ?_
          subst hx
          exact k1 G sG
        | cons y ys =>
          refine ifT rfl ?_
          refine ⟨⟨_, rfl⟩, _, rfl, " ", b, strsOf xs, rfl, rfl, .inr hbS, ?_, ?_⟩
          · show _ + _ * 1 ≤ _
            omega
          · have k := k1 G sG
            have ne : strsOf xs ≠ [] := fun z => by
              rw [z] at back
              rw [back] at hx
              cases hx
            unfold textB at k
            rw [show bO (some xs) = strsOf xs from rfl, if_neg ne] at k
            exact k
theorem cal_read_build (W : AllY K mg) : Cal P w K mg base (L2.CX P w) 6 "read_build" ["book", "text"] (spReadE K) := by
  have Z := W.z
  obtain ⟨fd, F⟩ := Z.f_read_build
  have C_is_build : Cal P w K mg base CX0 4 "is_build" ["book", "value"] (spBuild K) := cal_is_build Z
  obtain ⟨fe, be, Fe⟩ := ok_nonote (P := P) (w := w) (base := base) W
  obtain ⟨T1, T2, T3, _⟩ := W.y.err (x := "NoNote") (by simp [errsL])
  refine ⟨⟨fd, F.bindsN (fun _ _ _ _ _ _ us hl => match us, hl with | [_, _], _ => rfl), okX F sc_read_build (fun vs H Q E h => ?_) (fun cdv A outer s H vs Q E hr h => ?_)⟩, Z.g_read_build, F.kp⟩
  · obtain ⟨x, v, T, B, a, rfl, _⟩ := h
    rfl
  · obtain ⟨x, v, T, B, a, rfl, bk, ok, oks, tv, k1, k2⟩ := h
    refine ⟨_, (pss_cons (ps_if (pt_not (pt_val (pe_callB (call_is (cn := "str") (by decide)) (by rfl) Z.b_isinstance boot_isinstance (pa_cons (pv 1) (pa_cons (pe_bltn (v := .ty "str") (by rfl) Z.b_str PyProof.Rows.boot_str rfl) pa_nil))))) (pss_one (ps_raise rfl (takes_of rfl rfl rfl rfl) (pmk_oex T1 T2 T3 Fe (hr.mono (by decide)) be .nil pass0 (by rfl) Z.g_NoNote (pa_cons (pv 1) pa_nil)))) pss_nil)
      (pss_cons (ps_set (i := 2) sc_read_build.nd rfl (Or.inl rfl) (pe_ifExp (pt_cmpR op_eq (pv 1) pe_str (nomark _)) (pe_tup pa_nil) (pe_callTy call_tuple_of (by rfl) Z.b_tuple PyProof.Rows.boot_tuple (pa_cons (pe_split (pv 1) pe_str) pa_nil))))
      (pss_cons (ps_if (pt_not (pt_val (pe_cal C_is_build (hr.mono (by decide)) (by rfl) pass0 (pa_cons (pv 0) (pa_cons (pv 2) pa_nil))))) (pss_one (ps_raise rfl (takes_of rfl rfl rfl rfl) (pmk_oex T1 T2 T3 Fe (hr.mono (by decide)) be .nil pass0 (by rfl) Z.g_NoNote (pa_cons (pv 1) pa_nil)))) pss_nil)
      (pss_one (ps_ret (pv 2)))))), ?_⟩
    have notstr : (answ T "str") = decide (T = "str") := by simp [answ]
    refine ⟨_, rfl, v, T, rfl, tv, _, rfl, ?_⟩
    by_cases e : T = "str"
    · refine ifF (by rw [notstr, decide_eq_true e]; rfl) ?_
      obtain ⟨t, rfl⟩ : ∃ t, v = .str t := by
        cases tv with
        | str z => exact ⟨z, rfl⟩
        | _ => exact absurd e (by decide)
      obtain ⟨tl, k1, k3⟩ := k1 t rfl
      dsimp only [tNext, tSeq, tAsg]
      refine by_ (fun z G => ∃ q, z = .ref q ∧ Same H G ∧ H q = none ∧ G q = some (.tup ((partsT t).map V.str))) (fun Q kQ => ?_) ?_
      · refine ⟨_, rfl, rfl, _, rfl, ?_⟩
        by_cases e : t = "-"
        · refine ifT (decide_eq_true (by rw [e])) ⟨Nat.zero_le _, fun q nq => kQ _ _ ⟨q, rfl, Same.new nq, nq, ?_⟩⟩
          rw [show partsT t = [] from if_pos e]
          exact upd_same
        · refine ifF (decide_eq_false fun z => e (by injection z)) ?_
          refine ⟨_, rfl, ⟨_, rfl⟩, t, " ", rfl, rfl, by decide, by rw [sizeLine_eq]; omega, fun p np => ⟨p, _, rfl, .inl ⟨SqL.of upd_same, fun q nq => kQ _ _ ⟨q, rfl, (Same.new np).trans (Same.new nq), (Same.new np).free nq, ?_⟩⟩⟩⟩
          rw [show partsT t = Txt.split t blank from if_neg e]
          exact upd_same
      rintro z G ⟨q, rfl, sG, nq, hq⟩
      have pl := parts_len t
      have ovq : Ov K G (.ref q) (some ((partsT t).map V.str)) := ov_tup hq (by omega)
      refine ⟨_, rfl, _, rfl, x, .ref q, B, a, _, rfl, bk.same sG, ok, oks, ovq, fun G2 s2 => ⟨_, rfl, ?_⟩⟩
      have s02 := sG.trans s2
      cases ho : ordO B.ns (some ((partsT t).map V.str)) with
      | true => exact ifF rfl ⟨_, rfl, k1 ho q G2 s02 nq (s2 _ _ hq)⟩
      | false => exact ifT rfl ⟨_, rfl, (by show 1 ≤ 1000; decide), fun ax na => err_made (k3 ho G2 s02) ax na⟩
    · exact ifT (by rw [notstr, decide_eq_false e]; rfl) ⟨_, rfl, (by show 1 ≤ 1000; decide), fun ax na => err_made (k2 e H (Same.refl _)) ax na⟩
end
end Rt
end
section
set_option Elab.async false
set_option linter.all false
set_option maxRecDepth 100000
set_option maxHeartbeats 8000000
/-! what is called with a lambda and tells its error -/
namespace Rt
open PySem PySem.Spec PyProof.Rows L2
open LamX (ExtN Tabs TabB TabS GivesTo CodeO)
/-- the errors that are told -/
def KindC (c f w : Str) : Prop := (c = "NoBuild" ∧ f = "build" ∧ w = "build") ∨ (c = "NoNote" ∧ f = "line" ∧ w = "note")
def Tells (K : PySem.W.Frag) (Q : VK) : XK := fun cls d H' => ∃ (c f w : Str) (dd : Addr) (y : V) (t : Str), KindC c f w ∧ cls = .ref (He.ga K c) ∧ d = some dd ∧ H' dd = some (.xd [(f, y)]) ∧ Rp K H' y t ∧
  ∀ L, H' L = none → Q (.ref L) (upd H' L (.lst [.str w, .str t]))
abbrev TC (K : PySem.W.Frag) : (XK → Hp → VK → Prop) → Hp → VK → Prop := fun tl H Q => tl (Tells K Q) H (fun _ H' => 1 ≤ sizeLine ∧ ∀ L, H' L = none → Q (.ref L) (upd H' L (.lst [.str "none"])))
theorem caught_gives {X : Cx} {g : Addr} {cdg : Value} {q : Str} (W : AllY X.K X.mg) (gu : X.A.guards = some []) (room : X.A.units + 90 < cLine) :
    GivesTo X ["_law_call", "e"] "_law_caught" (defScope s_law_caught) g cdg (defBody s_law_caught) "_law_call" q (TC X.K) := by
  intro f c' s H Q tl act hc h
  have Z := W.z
  have rep : ∀ a pn, CallR ((cxOf C8.CX0 X.prog X.w X.K X.mg X.base ["_law_call", "e"] "_law_caught" (defScope s_law_caught) g cdg X.A X.stack s H C8.E0).nox.suite a pn) (.builtin "repr") (rRp X.K) := fun a pn =>
    call_rp (X := (cxOf C8.CX0 X.prog X.w X.K X.mg X.base ["_law_call", "e"] "_law_caught" (defScope s_law_caught) g cdg X.A X.stack s H C8.E0).nox.suite a pn) gu (by show X.A.units + 3 + 70 < cLine; omega)
  refine ⟨_, pss_cons (ps_try_row (i := 1) (n := "e") (Wout := fun _ _ _ _ => False) (l := [(.ref (He.ga X.K "NoBook"), fun _ _ _ _ _ _ => False), (.ref (He.ga X.K "NoSkill"), fun _ _ _ _ _ _ => False), (.ref (He.ga X.K "NoBuild"), _), (.ref (He.ga X.K "NoStep"), fun _ _ _ _ _ _ => False), (.ref (He.ga X.K "NoPlain"), fun _ _ _ _ _ _ => False), (.ref (He.ga X.K "NoNumber"), fun _ _ _ _ _ _ => False), (.ref (He.ga X.K "NoWorth"), fun _ _ _ _ _ _ => False), (.ref (He.ga X.K "NoSeen"), fun _ _ _ _ _ _ => False), (.ref (He.ga X.K "NoKind"), fun _ _ _ _ _ _ => False), (.ref (He.ga X.K "NothingBack"), fun _ _ _ _ _ _ => False), (.ref (He.ga X.K "NoNote"), _)])
    (tb := fun W D σ H => ∃ Ech : XK, (∀ cls d σ' H', Ech cls d H' → W cls d σ' H') ∧ σ[0]? = some (some (.ref f)) ∧ H c' = some (CodeO c' q) ∧ tl Ech H fun _ H' => D.nx σ H')
    rfl rfl sc_law_caught.nd rfl rfl L2.takes0 (fun W pn xe tk _ => ?_)
    (.cons ⟨by rfl, by decide, .inl Z.g_NoBook⟩ (fun a oe cls d pn hz hf => pss_one ps_dead) (.cons ⟨by rfl, by decide, .inl Z.g_NoSkill⟩ (fun a oe cls d pn hz hf => pss_one ps_dead) (.cons ⟨by rfl, by decide, .inl Z.g_NoBuild⟩ (fun a oe cls d pn hz hf => pss_one (ps_ret (pe_lst (pa_cons pe_str (pa_cons (pe_callB (rep a ((a, oe) :: pn)) (by rfl) Z.b_repr PyProof.Rows.boot_repr (pa_cons (pe_xf (W.y.err (x := "NoBuild") (by simp [errsL])).2.2.2 Z.n_NoBuild hz hf (pv 1)) pa_nil)) pa_nil))))) (.cons ⟨by rfl, by decide, .inl Z.g_NoStep⟩ (fun a oe cls d pn hz hf => pss_one ps_dead) (.cons ⟨by rfl, by decide, .inl Z.g_NoPlain⟩ (fun a oe cls d pn hz hf => pss_one ps_dead) (.cons ⟨by rfl, by decide, .inl Z.g_NoNumber⟩ (fun a oe cls d pn hz hf => pss_one ps_dead) (.cons ⟨by rfl, by decide, .inl Z.g_NoWorth⟩ (fun a oe cls d pn hz hf => pss_one ps_dead) (.cons ⟨by rfl, by decide, .inl Z.g_NoSeen⟩ (fun a oe cls d pn hz hf => pss_one ps_dead) (.cons ⟨by rfl, by decide, .inl Z.g_NoKind⟩ (fun a oe cls d pn hz hf => pss_one ps_dead) (.cons ⟨by rfl, by decide, .inl Z.g_NothingBack⟩ (fun a oe cls d pn hz hf => pss_one ps_dead) (.cons ⟨by rfl, by decide, .inl Z.g_NoNote⟩ (fun a oe cls d pn hz hf => pss_one (ps_ret (pe_lst (pa_cons pe_str (pa_cons (pe_callB (rep a ((a, oe) :: pn)) (by rfl) Z.b_repr PyProof.Rows.boot_repr (pa_cons (pe_xf (W.y.err (x := "NoNote") (by simp [errsL])).2.2.2 Z.n_NoNote hz hf (pv 1)) pa_nil)) pa_nil))))) .nil)))))))))))) (pss_one (ps_ret (pe_lst (pa_cons pe_str pa_nil)))), ?_⟩
  · refine ⟨fun pins s' σ H' D I ⟨Ech, hW, h1, h2, h3⟩ => ?_⟩
    exact (pss_one (ps_expr (act W pn xe Ech _ _ tk hW))).run pins s' σ H' D I ⟨h1, h2, h3⟩
  · refine ⟨Tells X.K Q, ?_, rfl, hc, h⟩
    rintro cls d σ H' ⟨c, f, w, dd, y, t, ht, rfl, rfl, hx, rp, k⟩
    rcases ht with ⟨rfl, rfl, rfl⟩ | ⟨rfl, rfl, rfl⟩
    · refine ⟨false, Z.x_NoBuild_NoBook, (fun z => nomatch z), fun _ => ⟨false, Z.x_NoBuild_NoSkill, (fun z => nomatch z), fun _ => ⟨true, Z.x_NoBuild_NoBuild, fun _ a na len => ?_, (fun z => nomatch z)⟩⟩⟩
      have at1 : (σ.set 1 (some (V.ref a)))[1]? = some (some (V.ref a)) := by
        rw [List.getElem?_set_self (by rw [len]; show 1 < 2; decide)]
      exact ⟨.ref a, at1, rfl, rfl, dd, _, y, rfl, hx, rfl, y, t, rfl, rp, (by show 2 ≤ sizeLine; decide), fun L nL => k L nL⟩
    · refine ⟨false, Z.x_NoNote_NoBook, (fun z => nomatch z), fun _ => ⟨false, Z.x_NoNote_NoSkill, (fun z => nomatch z), fun _ => ⟨false, Z.x_NoNote_NoBuild, (fun z => nomatch z), fun _ => ⟨false, Z.x_NoNote_NoStep, (fun z => nomatch z), fun _ => ⟨false, Z.x_NoNote_NoPlain, (fun z => nomatch z), fun _ => ⟨false, Z.x_NoNote_NoNumber, (fun z => nomatch z), fun _ => ⟨false, Z.x_NoNote_NoWorth, (fun z => nomatch z), fun _ => ⟨false, Z.x_NoNote_NoSeen, (fun z => nomatch z), fun _ => ⟨false, Z.x_NoNote_NoKind, (fun z => nomatch z), fun _ => ⟨false, Z.x_NoNote_NothingBack, (fun z => nomatch z), fun _ => ⟨true, Z.x_NoNote_NoNote, fun _ a na len => ?_, (fun z => nomatch z)⟩⟩⟩⟩⟩⟩⟩⟩⟩⟩⟩
      have at1 : (σ.set 1 (some (V.ref a)))[1]? = some (some (V.ref a)) := by
        rw [List.getElem?_set_self (by rw [len]; show 1 < 2; decide)]
      exact ⟨.ref a, at1, rfl, rfl, dd, _, y, rfl, hx, rfl, y, t, rfl, rp, (by show 2 ≤ sizeLine; decide), fun L nL => k L nL⟩

theorem told_made {K : PySem.W.Frag} {c f w : Str} {y : V} {t : Str} {G : Hp} {Q' : VK} (kd : KindC c f w) (rp : Rp K G y t) (k : ∀ L G', Same G G' → G' L = some (.lst [.str w, .str t]) → Q' (.ref L) G') : Err K c f y G (Tells K Q') := fun d G2 nd s2 hd =>
  ⟨c, f, w, d, y, t, kd, rfl, rfl, hd, rp.same s2, fun L nL => k L _ (s2.trans (Same.new nL)) upd_same⟩
theorem sh_told {w t : Str} (hw : PyData.strOk w = true) (ht : PyData.strOk t = true) : SeqAt.shaped (.list [.str w, .str t]) = true := shaped_lst fun d hd => by
  simp only [List.mem_cons, List.not_mem_nil, or_false] at hd
  rcases hd with rfl | rfl
  · exact sm_str hw
  · exact sm_str ht
end Rt
end
section
set_option Elab.async false
set_option linter.all false
set_option maxRecDepth 100000
set_option maxHeartbeats 8000000
namespace Rt
open PySem PySem.Spec PyProof.Rows L2
/-! ### the names drawn -/
def subL : List Str → List (List Str)
  | [] => [[]]
  | z :: zs => subL zs ++ (subL zs).map (z :: ·)
theorem mem_subL {b : List Str} : ∀ {zs : List Str}, b.Sublist zs → b ∈ subL zs
  | [], h => by
    rw [List.sublist_nil.mp h]
    exact List.mem_singleton.mpr rfl
  | z :: zs, h => by
    show b ∈ subL zs ++ (subL zs).map (z :: ·)
    cases h with
    | cons _ h => exact List.mem_append_left _ (mem_subL h)
    | cons_cons _ h => exact List.mem_append_right _ (List.mem_map_of_mem (mem_subL h))
def tupD (b : List Str) : PyData := .tuple (b.map PyData.str)
theorem subs_fit : ([N1, N2].all fun N => (subL N).all fun b => fits (tupD b)) = true := by decide +kernel
theorem one_fit : ([N1, N2].all fun N => N.all fun a => fits (.str a) && (fits (.list [.str a]) && (!decide (a = "nobody") && N.all fun b => fits (tupD [a, b])))) = true := by decide +kernel
def Drawn (ns : List Str) : Prop := ∃ N n, (N = N1 ∨ N = N2) ∧ ns = N.take n
theorem sub_fits {ns b : List Str} (h : Drawn ns) (s : b.Sublist ns) : fits (tupD b) = true := by
  obtain ⟨N, n, hN, rfl⟩ := h
  have q := List.all_eq_true.mp subs_fit N (by rcases hN with rfl | rfl <;> simp)
  exact List.all_eq_true.mp q b (mem_subL (s.trans (List.take_sublist _ _)))
theorem name_fits {ns : List Str} {a : Str} (h : Drawn ns) (m : a ∈ ns) : fits (.str a) = true ∧ fits (.list [.str a]) = true ∧ a ≠ "nobody" ∧ ∀ b ∈ ns, fits (tupD [a, b]) = true := by
  obtain ⟨N, n, hN, rfl⟩ := h
  have q := List.all_eq_true.mp one_fit N (by rcases hN with rfl | rfl <;> simp)
  have q := List.all_eq_true.mp q a (List.mem_of_mem_take m)
  obtain ⟨q1, q⟩ := He.ba q
  obtain ⟨q2, q⟩ := He.ba q
  obtain ⟨q3, q4⟩ := He.ba q
  exact ⟨q1, q2, by simpa using q3, fun b hb => List.all_eq_true.mp q4 b (List.mem_of_mem_take hb)⟩
theorem text_fit : ([N1, N2].all fun N => (subL N).all fun b => decide ((textB b).length ≤ 40)) = true := by decide +kernel
theorem text_40 {ns b : List Str} (h : Drawn ns) (s : b.Sublist ns) : (textB b).length ≤ 40 := by
  obtain ⟨N, n, hN, rfl⟩ := h
  have q := List.all_eq_true.mp text_fit N (by rcases hN with rfl | rfl <;> simp)
  exact of_decide_eq_true (List.all_eq_true.mp q b (mem_subL (s.trans (List.take_sublist _ _))))
theorem word_fit : ([N1, N2].all fun N => N.all fun z => isWord (.str z)) = true := by decide +kernel
theorem drawn_word {ns : List Str} (h : Drawn ns) : ∀ z ∈ ns, isWord (.str z) = true := fun z hz => by
  obtain ⟨N, n, hN, rfl⟩ := h
  have q := List.all_eq_true.mp word_fit N (by rcases hN with rfl | rfl <;> simp)
  exact List.all_eq_true.mp q z (List.mem_of_mem_take hz)
theorem sum_fit : ([N1, N2].all fun N => (List.range 8).all fun n => decide (((N.take n).map (·.length)).sum + (N.take n).length ≤ 40)) = true := by decide +kernel
theorem drawn_sum {ns : List Str} (h : Drawn ns) (l : ns.length ≤ 7) : (ns.map (·.length)).sum + ns.length ≤ 40 := by
  obtain ⟨N, n, hN, rfl⟩ := h
  have q := List.all_eq_true.mp sum_fit N (by rcases hN with rfl | rfl <;> simp)
  have e : N.take n = N.take (N.take n).length := by
    rw [List.length_take, ← List.take_take, List.take_length]
  have := of_decide_eq_true (List.all_eq_true.mp q (N.take n).length (List.mem_range.mpr (by omega)))
  rw [← e] at this
  exact this
theorem join_40 {ns ys : List Str} (h : Drawn ns) (l : ns.length ≤ 7) (p : ys.Perm ns) : (Txt.join blank ys).length ≤ 40 := by
  have h1 := drawn_sum h l
  have h2 := StrLaws.join_length_le blank ys
  have h3 : (ys.map (·.length)).sum = (ns.map (·.length)).sum := (p.map _).sum_nat
  have h4 := p.length_eq
  have : blank.length = 1 := rfl
  rw [tj]
  rw [this, h3] at h2
  omega
theorem ord_in {ns ys : List Str} (e : ordO ns (some (ys.map V.str)) = true) : ys.Sublist ns := by
  have e : (unlike ns (ys.map V.str) && decide (strsOf (ys.map V.str) = ns.filter fun z => decide (z ∈ strsOf (ys.map V.str)))) = true := e
  rw [Bool.and_eq_true, strsOf_map] at e
  rw [of_decide_eq_true e.2]
  exact List.filter_sublist
theorem nord {ns ys : List Str} (h : ¬ ys.Sublist ns) : ordO ns (some (ys.map V.str)) = false := by
  cases e : ordO ns (some (ys.map V.str)) with
  | false => rfl
  | true => exact absurd (ord_in e) h
end Rt
end
section
set_option Elab.async false
set_option linter.all false
set_option maxRecDepth 100000
set_option maxHeartbeats 4000000
/-! mathematics of steps: what a build of a book may come to, and back -/
namespace Rt
open PySem PySem.Spec PyProof.Rows L2
inductive Stp where
  | take (z : Str)
  | give (z : Str)
  | reset
deriving DecidableEq
def stW : Stp → List Str
  | .take z => ["take", z]
  | .give z => ["give", z]
  | .reset => ["reset"]
def addN (B : Bk) (b : List Str) (z : Str) : List Str := B.ns.filter fun y => inB b y || decide (y = z)
def delN (B : Bk) (b : List Str) (z : Str) : List Str := B.ns.filter fun y => inB b y && !decide (y = z)
def takesB (B : Bk) (b : List Str) : List Str := B.ns.filter fun z => !inB b z && holdsB B (addN B b z)
def givesB (B : Bk) (b : List Str) : List Str := B.ns.filter fun z => inB b z && holdsB B (delN B b z)
def canReset (B : Bk) (b : List Str) : Bool := !b.isEmpty && B.reset.isSome
def stepsB (B : Bk) (b : List Str) : List Stp := ((takesB B b).map Stp.take ++ (givesB B b).map Stp.give) ++ (if canReset B b = true then [Stp.reset] else [])
def behindB (B : Bk) (b : List Str) : Stp → List Str
  | .take z => addN B b z
  | .give z => delN B b z
  | .reset => []
def flipS : Stp → Stp
  | .take z => .give z
  | .give z => .take z
  | .reset => .reset
def bitS (ns : List Str) : Stp → Nat
  | .take z => bitN ns z
  | .give z => bitN ns z
  | .reset => 0
theorem stW_inj {s t : Stp} (h : stW s = stW t) : s = t := by
  have ne : ("take" : Str) ≠ "give" := by decide
  cases s <;> cases t <;> simp [stW] at h ⊢
  · exact h
  · exact ne h.1
  · exact ne h.1.symm
  · exact h
/-- what a build's filter tells -/
theorem inB_filter {ns : List Str} (f : Str → Bool) {z : Str} (hz : z ∈ ns) : inB (ns.filter f) z = f z := by
  unfold inB
  rw [Bool.eq_iff_iff, decide_eq_true_iff, List.mem_filter]
  exact ⟨fun h => h.2, fun h => ⟨hz, h⟩⟩
section
variable {B : Bk} {b : List Str}
theorem bd_filter (ok : BkR B) (f : Str → Bool) : Bd B (B.ns.filter f) := ⟨ok, List.filter_sublist⟩
theorem mask_filt (f : Str → Bool) : maskB B (B.ns.filter f) = maskF B.ns f := maskF_congr fun z hz => inB_filter f hz
theorem self_filter (h : Bd B b) : B.ns.filter (inB b) = b := filter_sub h.sub h.r.nd'
theorem good_filter (ok : BkR B) (f : Str → Bool) : goodB B (maskF B.ns f) = holdsB B (B.ns.filter f) := by
  rw [← mask_filt f]
  exact good_holds (bd_filter ok f)
theorem in_bit (h : Bd B b) {z : Str} (hz : z ∈ B.ns) : decide (maskB B b &&& bitN B.ns z ≠ 0) = inB b z := by
  rw [Bool.eq_iff_iff, decide_eq_true_iff]
  exact and_bit h.r.nd' hz (inB b)
theorem bit_pos' (h : BkR B) {z : Str} (hz : z ∈ B.ns) : bitN B.ns z ≠ 0 := by
  rw [bitN_mask h.nd']
  exact maskF_pos.mpr ⟨z, hz, decide_eq_true rfl⟩
theorem mask_zero (h : Bd B b) : maskB B b = 0 ↔ b = [] := by
  constructor
  · intro e
    cases b with
    | nil => rfl
    | cons z b => exact absurd e (maskF_pos.mpr ⟨z, h.sub.subset List.mem_cons_self, decide_eq_true List.mem_cons_self⟩)
  · rintro rfl
    have : maskB B [] = maskF B.ns fun _ => false := maskF_congr fun z _ => decide_eq_false (by simp)
    rw [this, maskF_none]
theorem and_no (h : Bd B b) {z : Str} (hz : z ∈ B.ns) (n : inB b z = false) : maskB B b &&& bitN B.ns z = 0 := by
  have := in_bit h hz
  rw [n] at this
  exact Decidable.not_not.mp (of_decide_eq_false this)
theorem and_yes (h : Bd B b) {z : Str} (hz : z ∈ B.ns) (n : inB b z = true) : maskB B b &&& bitN B.ns z = bitN B.ns z := by
  unfold maskB
  rw [bitN_mask h.r.nd', maskF_and]
  refine maskF_congr fun y _ => ?_
  by_cases e : y = z
  · rw [e, n, decide_eq_true rfl]
    rfl
  · rw [decide_eq_false e, Bool.and_false]
theorem add_mask (h : Bd B b) {z : Str} (n : inB b z = false) : maskB B b + bitN B.ns z = maskB B (addN B b z) := by
  unfold addN
  rw [mask_filt, bitN_mask h.r.nd']
  refine maskF_add fun y _ => ?_
  by_cases e : y = z
  · rw [e, n]
    rfl
  · rw [decide_eq_false e, Bool.and_false]
theorem del_mask (h : Bd B b) {z : Str} (n : inB b z = true) : maskB B (delN B b z) + bitN B.ns z = maskB B b := by
  unfold delN
  rw [mask_filt, bitN_mask h.r.nd', maskF_add (fun y _ => ?_)]
  · refine maskF_congr fun y _ => ?_
    by_cases e : y = z
    · rw [e, n, decide_eq_true rfl]
      rfl
    · rw [decide_eq_false e, Bool.not_false, Bool.and_true, Bool.or_false]
  · by_cases e : y = z
    · rw [decide_eq_true e, Bool.not_true, Bool.and_false, Bool.false_and]
    · rw [decide_eq_false e, Bool.and_false]
theorem bd_behind (h : Bd B b) (s : Stp) : Bd B (behindB B b s) := by
  cases s with
  | take z => exact bd_filter h.r _
  | give z => exact bd_filter h.r _
  | reset => exact ⟨h.r, List.nil_sublist _⟩
theorem add_mem (h : Bd B b) {z : Str} (hz : z ∈ B.ns) : inB (addN B b z) z = true := by
  unfold addN
  rw [inB_filter _ hz, decide_eq_true rfl, Bool.or_true]
theorem del_mem (h : Bd B b) {z : Str} (hz : z ∈ B.ns) : inB (delN B b z) z = false := by
  unfold delN
  rw [inB_filter _ hz, decide_eq_true rfl, Bool.not_true, Bool.and_false]
theorem del_add (h : Bd B b) {z : Str} (n : inB b z = false) : delN B (addN B b z) z = b := by
  unfold delN
  rw [← self_filter h]
  unfold addN
  refine (List.filter_congr fun y hy => ?_)
  rw [inB_filter _ hy, inB_filter _ hy]
  by_cases e : y = z
  · rw [e, n, decide_eq_true rfl]
    rfl
  · rw [decide_eq_false e, Bool.or_false, Bool.not_false, Bool.and_true]
theorem add_del (h : Bd B b) {z : Str} (n : inB b z = true) : addN B (delN B b z) z = b := by
  unfold addN
  rw [← self_filter h]
  unfold delN
  refine (List.filter_congr fun y hy => ?_)
  rw [inB_filter _ hy, inB_filter _ hy]
  by_cases e : y = z
  · rw [e, n, decide_eq_true rfl]
    rfl
  · rw [decide_eq_false e, Bool.or_false, Bool.not_false, Bool.and_true]
theorem holds_nil (ok : BkR B) : holdsB B [] = true := by
  unfold holdsB
  have g : sizeLet B [] = B.points := by
    unfold sizeLet givenB
    rw [List.filter_eq_nil_iff.mpr (fun g _ => by unfold inB; simp)]
    simp
  rw [g]
  have p := ok.pt.1
  have e1 : decide (B.points < (((([] : List Str).length : Nat)) : Int)) = false := decide_eq_false (by show ¬ B.points < 0; omega)
  have e2 : (B.bars.any (barOn [])) = false := by
    rw [List.any_eq_false]
    intro r _
    unfold barOn inB
    simp
  rw [e1, e2]
  rfl
theorem mem_take {z : Str} : Stp.take z ∈ stepsB B b ↔ z ∈ takesB B b := by
  unfold stepsB
  rw [List.mem_append, List.mem_append]
  constructor
  · rintro ((h | h) | h)
    · obtain ⟨y, hy, e⟩ := List.mem_map.mp h
      injection e with e
      exact e ▸ hy
    · obtain ⟨y, hy, e⟩ := List.mem_map.mp h
      cases e
    · split at h
      · cases List.mem_singleton.mp h
      · cases h
  · exact fun h => .inl (.inl (List.mem_map.mpr ⟨z, h, rfl⟩))
theorem mem_give {z : Str} : Stp.give z ∈ stepsB B b ↔ z ∈ givesB B b := by
  unfold stepsB
  rw [List.mem_append, List.mem_append]
  constructor
  · rintro ((h | h) | h)
    · obtain ⟨y, hy, e⟩ := List.mem_map.mp h
      cases e
    · obtain ⟨y, hy, e⟩ := List.mem_map.mp h
      injection e with e
      exact e ▸ hy
    · split at h
      · cases List.mem_singleton.mp h
      · cases h
  · exact fun h => .inl (.inr (List.mem_map.mpr ⟨z, h, rfl⟩))
theorem mem_reset : Stp.reset ∈ stepsB B b ↔ canReset B b = true := by
  unfold stepsB
  rw [List.mem_append, List.mem_append]
  constructor
  · rintro ((h | h) | h)
    · obtain ⟨y, hy, e⟩ := List.mem_map.mp h
      cases e
    · obtain ⟨y, hy, e⟩ := List.mem_map.mp h
      cases e
    · split at h
      · rename_i e
        exact e
      · cases h
  · intro h
    rw [if_pos h]
    exact .inr List.mem_cons_self
theorem take_in {z : Str} (h : z ∈ takesB B b) : z ∈ B.ns ∧ inB b z = false ∧ holdsB B (addN B b z) = true := by
  obtain ⟨h1, h2⟩ := List.mem_filter.mp h
  rw [Bool.and_eq_true, Bool.not_eq_true'] at h2
  exact ⟨h1, h2.1, h2.2⟩
theorem give_in {z : Str} (h : z ∈ givesB B b) : z ∈ B.ns ∧ inB b z = true ∧ holdsB B (delN B b z) = true := by
  obtain ⟨h1, h2⟩ := List.mem_filter.mp h
  rw [Bool.and_eq_true] at h2
  exact ⟨h1, h2.1, h2.2⟩
theorem holds_behind (h : Bd B b) {s : Stp} (hs : s ∈ stepsB B b) : holdsB B (behindB B b s) = true := by
  cases s with
  | take z => exact (take_in (mem_take.mp hs)).2.2
  | give z => exact (give_in (mem_give.mp hs)).2.2
  | reset => exact holds_nil h.r
/-- there and back -/
theorem flip_steps (h : Bd B b) (hb : holdsB B b = true) {s : Stp} (hs : s ∈ stepsB B b) (nr : s ≠ .reset) : flipS s ∈ stepsB B (behindB B b s) ∧ behindB B (behindB B b s) (flipS s) = b := by
  cases s with
  | take z =>
    obtain ⟨h1, h2, h3⟩ := take_in (mem_take.mp hs)
    have e := del_add h h2
    refine ⟨mem_give.mpr (List.mem_filter.mpr ⟨h1, ?_⟩), e⟩
    show (inB (addN B b z) z && holdsB B (delN B (addN B b z) z)) = true
    rw [e, hb, add_mem h h1]
    rfl
  | give z =>
    obtain ⟨h1, h2, h3⟩ := give_in (mem_give.mp hs)
    have e := add_del h h2
    refine ⟨mem_take.mpr (List.mem_filter.mpr ⟨h1, ?_⟩), e⟩
    show (!inB (delN B b z) z && holdsB B (addN B (delN B b z) z)) = true
    rw [e, hb, del_mem h h1]
    rfl
  | reset => exact absurd rfl nr
theorem steps_len (ok : BkR B) : (stepsB B b).length ≤ 60 := by
  unfold stepsB takesB givesB
  have l := ok.l12
  have h1 := List.length_filter_le (fun z => !inB b z && holdsB B (addN B b z)) B.ns
  have h2 := List.length_filter_le (fun z => inB b z && holdsB B (delN B b z)) B.ns
  rw [List.length_append, List.length_append, List.length_map, List.length_map]
  split
  · rw [List.length_singleton]
    omega
  · rw [List.length_nil]
    omega
theorem step_in (ok : BkR B) {s : Stp} (hs : s ∈ stepsB B b) : s = .reset ∨ ∃ z ∈ B.ns, s = .take z ∨ s = .give z := by
  cases s with
  | take z => exact .inr ⟨z, (take_in (mem_take.mp hs)).1, .inl rfl⟩
  | give z => exact .inr ⟨z, (give_in (mem_give.mp hs)).1, .inr rfl⟩
  | reset => exact .inl rfl
/-- the step of a bit -/
def stepOf (B : Bk) (b : List Str) (z : Str) : Stp := if inB b z = true then .give z else .take z
end
end Rt
end
section
set_option Elab.async false
set_option linter.all false
set_option maxRecDepth 100000
set_option maxHeartbeats 8000000
/-! what the rules tell of steps: bits -/
namespace Rt
open PySem PySem.Spec PyProof.Rows L2
def spReset (K : PySem.W.Frag) : Sp := fun vs H Q _ => ∃ (x : Addr) (B : Bk) (a : BoA), vs = [.ref x] ∧ BookAt K H x B a ∧ Q (oV B.reset) H
def spBits (K : PySem.W.Frag) (f : Bk → List Str → List V) : Sp := fun vs H Q _ => ∃ (r : Addr) (B : Bk) (u : RuA) (b : List Str), vs = [.ref r, .int ((maskB B b : Nat) : Int)] ∧ RulesAt K H r B u ∧ Bd B b ∧ ∀ (l : Addr) (H' : Hp), Same H H' → H l = none → H' l = some (.lst (f B b)) → Q (.ref l) H'
def spStepOf (K : PySem.W.Frag) : Sp := fun vs H Q _ => ∃ (r : Addr) (B : Bk) (u : RuA) (b : List Str) (s : Stp), vs = [.ref r, .int ((maskB B b : Nat) : Int), .int ((bitS B.ns s : Nat) : Int)] ∧ RulesAt K H r B u ∧ Bd B b ∧ s ∈ stepsB B b ∧ ∀ (t : Addr) (H' : Hp), Same H H' → H t = none → H' t = some (.tup ((stW s).map V.str)) → Q (.ref t) H'
theorem bor_take {B : Bk} {b : List Str} (h : Bd B b) {z : Str} (hz : z ∈ B.ns) (n : inB b z = false) : Builtin.bitOr ((maskB B b : Nat) : Int) (bI B.ns z) = ((maskB B (addN B b z) : Nat) : Int) := by
  show Builtin.bitOr ((maskB B b : Nat) : Int) ((bitN B.ns z : Nat) : Int) = _
  rw [bitOr_and, band, and_no h hz n, ← add_mask h n]
  omega
theorem bxor_take {B : Bk} {b : List Str} (h : Bd B b) {z : Str} (hz : z ∈ B.ns) (n : inB b z = false) : Builtin.bitXor ((maskB B b : Nat) : Int) (bI B.ns z) = ((maskB B (addN B b z) : Nat) : Int) := by
  show Builtin.bitXor ((maskB B b : Nat) : Int) ((bitN B.ns z : Nat) : Int) = _
  rw [bitXor_and, band, and_no h hz n, ← add_mask h n]
  omega
theorem bxor_give {B : Bk} {b : List Str} (h : Bd B b) {z : Str} (hz : z ∈ B.ns) (n : inB b z = true) : Builtin.bitXor ((maskB B b : Nat) : Int) (bI B.ns z) = ((maskB B (delN B b z) : Nat) : Int) := by
  show Builtin.bitXor ((maskB B b : Nat) : Int) ((bitN B.ns z : Nat) : Int) = _
  rw [bitXor_and, band, and_yes h hz n]
  have := del_mask h n
  omega
theorem valV_mem {k : Key} {v : V} : ∀ {l : List (Key × V)}, (l.map (·.1)).Nodup → (k, v) ∈ l → valV l k = some v
  | [], _, h => nomatch h
  | p :: l, nd, h => by
    have nd' := List.nodup_cons.mp nd
    rcases List.mem_cons.mp h with e | h
    · rw [← e]
      exact valV_pos rfl
    · rw [valV_neg fun e => nd'.1 (by show p.1 ∈ _; rw [e]; exact List.mem_map_of_mem (f := fun q : Key × V => q.1) h)]
      exact valV_mem nd'.2 h
theorem map_get {α β : Type} {f : α → β} {l : List α} {i : Nat} {y : β} (h : (l.map f)[i]? = some y) : ∃ x, l[i]? = some x ∧ y = f x := by
  rw [List.getElem?_map] at h
  cases e : l[i]? with
  | none => rw [e] at h; cases h
  | some x =>
    rw [e] at h
    exact ⟨x, rfl, (Option.some.inj h).symm⟩
section
variable {P : Program} {w : World} {K : PySem.W.Frag} {mg : Str → Option Value} {base : Heap}
theorem ok_reset (W : AllY K mg) : ∃ fd, Binds K fd ["self"] [] ∧ FnOk P w K mg base CX0 1 (prG K "Book" "reset") fd ["self"] (spReset K) := by
  have Z := W.z
  obtain ⟨fd, F⟩ := W.y.reset.2
  refine ⟨fd, F.bindsN (fun _ _ _ _ _ _ us hl => match us, hl with | [_], _ => rfl), ok0 F sc_Book_reset (fun vs H Q E h => ?_) (fun cdv A outer s H vs Q E hr h => ?_)⟩
  · obtain ⟨x, B, a, rfl, _⟩ := h
    rfl
  · obtain ⟨x, B, a, rfl, b, k⟩ := h
    refine ⟨_, (pss_one (ps_ret (pe_dget (hu_of hr) (pe_fld (pv 0) rfl) pe_str (fun _ _ => rfl)))), ?_⟩
    exact ⟨_, rfl, x, _, a.dx, bFs a, .ref a.dp, rfl, b.at_, Z.c_Book, Z.n_parts, rfl, a.dp, oV B.reset, rfl, DGet.k (k := .inr "reset") b.parts, k⟩
end
end Rt
end
section
set_option Elab.async false
set_option linter.all false
set_option maxRecDepth 100000
set_option maxHeartbeats 8000000
/-! what the rules tell of steps: steps and builds -/
namespace Rt
open PySem PySem.Spec PyProof.Rows L2
theorem op_eqDK {X : Cx} {K : PySem.W.Frag} (hK : X.K = K) (hu : X.A.units + 64 < cLine) : OpR X (compareOp .Eq) (rEqD K) := by
  subst hK
  exact op_eqD hu
theorem call_isK {X : Cx} {K : PySem.W.Frag} {cn : String} (hK : X.K = K) (hc : cn ∈ asks) : CallR X (.builtin "isinstance") (fun xs H Q => ∃ x T, xs = [x, .ty cn] ∧ Ts K H x T ∧ Q (.bl (answ T cn)) H) := by
  subst hK
  exact call_is hc
def isStr (x : V) : Bool := (strOf x).isSome
/-- the step that a value is, if it is possible -/
def stepFor (B : Bk) (b : List Str) : Option (List V) → Option Stp
  | none => none
  | some xs => if xs.all isStr = true then (stepsB B b).find? fun s => decide (stW s = strsOf xs) else none
def bitV (ns : List Str) : Option Stp → V
  | none => .non
  | some s => .int ((bitS ns s : Nat) : Int)
def OvOk : Option (List V) → Prop
  | none => True
  | some xs => ∀ z ∈ strsOf xs, PyData.strOk z = true
def heldB (B : Bk) : Option (List V) → Bool
  | none => false
  | some xs => ordO B.ns (some xs) && holdsB B (strsOf xs)
def spBitOf (K : PySem.W.Frag) : Sp := fun vs H Q _ => ∃ (r : Addr) (B : Bk) (u : RuA) (b : List Str) (v : V) (o : Option (List V)), vs = [.ref r, .int ((maskB B b : Nat) : Int), v] ∧ RulesAt K H r B u ∧ Bd B b ∧ Oks B.ns ∧ Ov K H v o ∧ OvOk o ∧ ∀ H', Same H H' → Q (bitV B.ns (stepFor B b o)) H'
def spBehindBit (K : PySem.W.Frag) : Sp := fun vs H Q _ => ∃ (r : Addr) (B : Bk) (u : RuA) (b : List Str) (s : Stp), vs = [.ref r, .int ((maskB B b : Nat) : Int), .int ((bitS B.ns s : Nat) : Int)] ∧ RulesAt K H r B u ∧ Bd B b ∧ s ∈ stepsB B b ∧ Q (.int ((maskB B (behindB B b s) : Nat) : Int)) H
def spBuildOf (K : PySem.W.Frag) : Sp := fun vs H Q _ => ∃ (r : Addr) (B : Bk) (u : RuA) (b : List Str), vs = [.ref r, .int ((maskB B b : Nat) : Int)] ∧ RulesAt K H r B u ∧ Bd B b ∧ ∀ (t : Addr) (H' : Hp), Same H H' → H t = none → H' t = some (.tup (b.map V.str)) → Q (.ref t) H'
def spHeld (K : PySem.W.Frag) : Sp := fun vs H Q _ => ∃ (r : Addr) (v : V) (B : Bk) (u : RuA) (o : Option (List V)), vs = [.ref r, v] ∧ RulesAt K H r B u ∧ BkR B ∧ Oks B.ns ∧ Ov K H v o ∧ ∀ H', Same H H' → Q (.bl (heldB B o)) H'
def spMaskH (K : PySem.W.Frag) : Sp := fun vs H Q _ => ∃ (r q : Addr) (B : Bk) (u : RuA) (b : List Str), vs = [.ref r, .ref q] ∧ RulesAt K H r B u ∧ Bd B b ∧ Oks B.ns ∧ SqT K H q (b.map V.str) ∧ holdsB B b = true ∧ ∀ H', Same H H' → Q (.int ((maskB B b : Nat) : Int)) H'
theorem ts_isStr {K : PySem.W.Frag} {H : Hp} {x : V} {T : String} (t : Ts K H x T) : answ T "str" = isStr x := by
  cases t <;> rfl
theorem strs_all : ∀ {xs : List V}, xs.all isStr = true → xs = (strsOf xs).map V.str
  | [], _ => rfl
  | x :: xs, h => by
    rw [List.all_cons, Bool.and_eq_true] at h
    have ih := strs_all h.2
    cases x with
    | str z =>
      show V.str z :: xs = V.str z :: (strsOf xs).map V.str
      rw [← ih]
    | _ => exact absurd (show false = true from h.1) (by decide)
theorem words_stp : PyData.strOk "take" = true ∧ PyData.strOk "give" = true ∧ PyData.strOk "reset" = true := by decide +kernel
theorem stW_ok {B : Bk} {b : List Str} (oks : Oks B.ns) (ok : BkR B) {s : Stp} (hs : s ∈ stepsB B b) : ∀ z ∈ stW s, PyData.strOk z = true := fun y hy => by
  rcases step_in ok hs with rfl | ⟨z, hz, rfl | rfl⟩
  · rw [List.mem_singleton.mp hy]
    exact words_stp.2.2
  · rcases List.mem_cons.mp hy with rfl | hy
    · exact words_stp.1
    · rw [List.mem_singleton.mp hy]
      exact oks z hz
  · rcases List.mem_cons.mp hy with rfl | hy
    · exact words_stp.2.1
    · rw [List.mem_singleton.mp hy]
      exact oks z hz
section
variable {P : Program} {w : World} {K : PySem.W.Frag} {mg : Str → Option Value} {base : Heap}
end
end Rt
end
section
set_option Elab.async false
set_option linter.all false
set_option maxRecDepth 100000
set_option maxHeartbeats 4000000
/-! a for in a generator's body -/
namespace Rt
open PySem PySem.Spec PyProof.Rows L2 GenW
section
variable {M : Model} {A : Around} {R : GenEnd} {Y : Protocol} {n : Nat} {s₀ s : Shared} {c : Code} {fs : List Frame} {env : Env} {K : Flow → Sem PySem.Fin} {J : Value → Sem PySem.Fin} {gd : Bool → Bool} {lv : List Value → List Value}
theorem segF {target iter : Expr} {body orelse : List Stmt} {pos : Pos}
    (h : wpAny M (A.over c fs) (eval iter env) (fun x s1 => wpAny M (A.over c fs) (pyIter x) (fun it s2 => ∀ p, Seg M A R Y n s₀ (.forLoop target it body orelse env) (M.den (.forLoop target it body orelse env))
      (.ret (fun r => ((match r with | .ok f => (.pure f : Sem Flow) | .error e => .raise e).onRaise (cameBack env)).wrap K J gd lv) none (gd false) (lv []) c p [] :: fs) s2)
      (fun x s' => Seg M A R Y n s₀ c (J x) fs s') s1) (fun x s' => Seg M A R Y n s₀ c (J x) fs s') s)
    (hs : ∀ x, foldedSetIterable iter env x = pure x := by intro _; rfl) :
    Seg M A R Y n s₀ c ((exec (.For target iter body orelse pos) env).wrap K J gd lv) fs s := by
  rw [exec_For]
  refine seg_bind_wrap (wpAny_standAt ?_)
  refine seg_bind_wrap (wpAny_mono h (fun x s1 h1 => ?_) fun _ _ z => z)
  refine seg_bind_wrap (wpAny_of_eq (hs x) ?_)
  refine seg_bind_wrap (wpAny_standAt ?_)
  refine seg_bind_wrap (wpAny_holding (wpAny_mono h1 (fun it s2 h2 => ?_) fun _ _ z => z))
  exact seg_call h2
end
section
variable {prog : Program} {w : World} {A : Around} {R : GenEnd} {Y : Protocol} {n : Nat} {s₀ s : Shared} {fs : List Frame} {env : Env}
/-- an exception leaves a loop's code -/
def outX (env : Env) (e : Value) : Sem PySem.Fin := (do noteFrame e env; theTreesLotGoes e : Sem Unit).wrap (fun _ => .raise e) .raise id id
theorem segL {target : Expr} {it : Value} {body : List Stmt}
    (h : wpAny (model prog w) (A.over (.forLoop target it body [] env) fs) (pyNext it) (fun r s1 => match r with
      | none => Seg (model prog w) A R Y n s₀ (.forLoop target it body [] env) (.pure (.again (.block [] env))) fs s1
      | some v => wpAny (model prog w) (A.over (.forLoop target it body [] env) fs) (letOwnedTupleGo target it v) (fun _ s2 => wpAny (model prog w) (A.over (.forLoop target it body [] env) fs) (assign target env v) (fun _ s3 =>
          Seg (model prog w) A R Y n s₀ (.forLoop target it body [] env) ((execs body env).wrap (fun f => match f with
            | .next | .cont => .pure (.again (.forLoop target it body [] env))
            | .brk => .pure (.done .next)
            | .ret v => .pure (.done (.ret v))) (outX env) id id) fs s3)
          (fun x s' => Seg (model prog w) A R Y n s₀ (.forLoop target it body [] env) (outX env x) fs s') s2)
          (fun x s' => Seg (model prog w) A R Y n s₀ (.forLoop target it body [] env) (outX env x) fs s') s1)
      (fun x s' => Seg (model prog w) A R Y n s₀ (.forLoop target it body [] env) (outX env x) fs s') s) :
    Seg (model prog w) A R Y n s₀ (.forLoop target it body [] env) ((model prog w).den (.forLoop target it body [] env)) fs s := by
  show Seg _ A R Y n s₀ _ ((forTurn target it body [] env).onRaise (fun x => do noteFrame x env; theTreesLotGoes x)) fs s
  have eo : ∀ x : Value, ((do noteFrame x env; theTreesLotGoes x : Sem Unit) >>= fun _ => (.raise x : Sem PySem.Fin)) = outX env x := fun x => by
    unfold outX
    first
    | exact Sem.bind_eq_wrap _ _
    | (show (do noteFrame x env; theTreesLotGoes x : Sem Unit).bind (fun _ => .raise x) = _; rw [Sem.bind_eq_wrap])
  unfold forTurn
  rw [Sem.onRaise_eq_wrap]
  refine seg_bind_wrap (wpAny_standAt ?_)
  refine seg_bind_wrap (wpAny_onRaise (wpAny_mono h (fun r s1 h1 => ?_) fun x s' hx => wpAny_standAt ?_))
  · cases r with
    | none => exact h1
    | some v =>
      refine seg_bind_wrap (wpAny_mono h1 (fun _ s2 h2 => ?_) fun x s' hx => ?_)
      · refine seg_bind_wrap (wpAny_mono h2 (fun _ s3 h3 => ?_) fun x s' hx => ?_)
        · rw [Sem.bind_eq_wrap', Sem.wrap_wrap]
          refine Eq.mpr (congrArg (fun t => Seg (model prog w) A R Y n s₀ (.forLoop target it body [] env) t fs s3) (Sem.wrap_congr (execs body env) _ _ (K' := fun f => match f with
            | .next | .cont => .pure (.again (.forLoop target it body [] env))
            | .brk => .pure (.done .next)
            | .ret v => .pure (.done (.ret v))) (H' := outX env) (fun f => by cases f <;> rfl) (fun e => eo e))) ?_
          exact h3
        · exact (congrArg (fun t => Seg (model prog w) A R Y n s₀ (.forLoop target it body [] env) t fs s') (eo x)).mpr hx
      · exact (congrArg (fun t => Seg (model prog w) A R Y n s₀ (.forLoop target it body [] env) t fs s') (eo x)).mpr hx
  · exact (congrArg (fun t => Seg (model prog w) A R Y n s₀ (.forLoop target it body [] env) t fs s') (eo x)).mpr hx
end
section
variable {X : Cx} {tg iter : Expr} {body : List Stmt} {pos : Pos} {wi : TI} {g : TG} {tb : TGn}
def tGFor (wi : TI) (g : TG) (tb : TGn) : TGn := fun D ys σ H => wi σ H fun J H1 => ∃ W : Nat → Nat → List V → L2.St → Hp → Prop, (∃ m, W 0 m ys σ H1) ∧ ∀ i m ys σ H, W i m ys σ H →
  (J.stop i H ∧ D.nx ys σ H) ∨ (J.go i H ∧ ∃ N : List V → L2.St → Hp → Prop, (∀ ys' σ' H', N ys' σ' H' → ∃ m', m' < m ∧ W (i + 1) m' ys' σ' H') ∧ ∀ x H', J.yld i H x H' → g x σ H' fun σ2 H2 => tb { D with nx := N, ct := N, bk := D.nx } ys σ2 H2)
theorem gs_for (hp : PassesOwn (model X.prog X.w) X.A X.env X.xe) (hc : X.calm = true) (hi : PI X tg iter wi) (hg : PG X tg g) (hb : GSs X body tb)
    (hs : ∀ x, foldedSetIterable iter X.env x = pure x := by intro _; rfl) : GS X (.For tg iter body [] pos) (tGFor wi g tb) := by
  refine ⟨fun A S ip R n ys s₀ c fs K J gd lv s σ H D gc hn k hI ht => ?_⟩
  obtain ⟨acc0, cc0, r, I⟩ := hI
  refine segF ?_ hs
  rw [gc.over]
  refine wpAny_mono (hi.run _ s σ H _ I ht) (fun v s1 h1 => wpAny_mono h1 (fun itv s2 h2 => fun p => ?_) fun x s' hx => k.exc n s₀ x s' hx) fun x s' hx => k.exc n s₀ x s' hx
  obtain ⟨it, fp, tn, Ji, H2, e, I2, T, st2, f2, W, ⟨m0, w0⟩, turn⟩ := h2
  subst e
  have stat : ∀ {H' : Hp} {acc : Array Value} {c : Nat}, (∀ b ∈ fp, H' b = none) → ∀ b ∈ fp, FpOk X ((S, lstObj acc c) :: ip) H' b := fun {H' acc c} hn b hb => by
    obtain ⟨_, q1, q2, q3, q4, q5⟩ := f2 b hb
    refine ⟨hn b hb, q1, q2, q3, q4, fun p hp => ?_⟩
    rcases List.mem_append.mp hp with hp | hp
    · exact q5 p (List.mem_append_left _ hp)
    · rcases List.mem_cons.mp hp with hp | hp
      · subst hp
        exact q5 (S, lstObj acc0 cc0) (List.mem_append_right _ List.mem_cons_self)
      · exact q5 p (List.mem_append_right _ (List.mem_cons_of_mem _ hp))
  have fS : ∀ b ∈ fp, b ≠ S := fun b hb e => (f2 b hb).2.2.2.2.2 (S, lstObj acc0 cc0) (List.mem_append_right _ List.mem_cons_self) e.symm
  have gl := fun (kk : Result → Sem PySem.Fin) => gc_loop (k := kk) (c' := .forLoop tg (.ref it) body [] X.env) (l := lv []) (kp := []) (p := p) gc rfl rfl
  have loop : ∀ (m n i : Nat) (ys : List V) (s₀ s : Shared) (σ : L2.St) (H : Hp), n + ys.length = sizeLine → W i m ys σ H → tn i s.heap → (∀ b ∈ fp, H b = none) → GI X S ip ys σ H s →
      Seg (model X.prog X.w) A R (GY X S) n s₀ (.forLoop tg (.ref it) body [] X.env) ((model X.prog X.w).den (.forLoop tg (.ref it) body [] X.env))
        (.ret (fun r => ((match r with | .ok f => (.pure f : Sem Flow) | .error e => .raise e).onRaise (cameBack X.env)).wrap K J gd lv) none (gd false) (lv []) c p [] :: fs) s := by
    intro m
    induction m using Nat.strongRecOn with
    | ind m ih =>
      intro n i ys s₀ s σ H hn w3 st3 fr3 hI
      have ee : ∀ (n : Nat) (s₀ : Shared) (x : Value) (s' : Shared), X.xe x s' → Seg (model X.prog X.w) A R (GY X S) n s₀ (.forLoop tg (.ref it) body [] X.env) (outX X.env x)
          (.ret (fun r => ((match r with | .ok f => (.pure f : Sem Flow) | .error e => .raise e).onRaise (cameBack X.env)).wrap K J gd lv) none (gd false) (lv []) c p [] :: fs) s' := fun n s₀ x s' hx => by
        refine seg_wrap ?_
        rw [(gl _).over]
        refine wpAny_bind (wpAny_mono (hp x s' hx) (fun _ s'' hcb => wpAny_theTreesLotGoes ?_) fun y s'' hcb => ?_)
        · exact seg_leaf (.error x) (seg_cameBack gc k hcb)
        · exact seg_leaf (.error y) (seg_cameBack gc k hcb)
      obtain ⟨acc, cc, r, I3⟩ := hI
      refine segL ?_
      rw [(gl _).over]
      rcases turn i m ys σ H w3 with ⟨stop, qn⟩ | ⟨go, N, hN, step⟩
      · refine wpAny_mono (T.done X rfl rfl rfl hc i _ s σ H X.xe I3 (stat fr3) st3 stop) (fun r1 s4 ⟨hr, I4⟩ => ?_) fun x s' hx => ee n s₀ x s' hx
        subst hr
        refine seg_again rfl ?_
        exact seg_leaf (.ok .next) (k.ok n ys s₀ s4 .next hn ⟨σ, H, ⟨acc, cc, r, I4⟩, qn⟩)
      · refine wpAny_mono (T.item X rfl rfl rfl hc i _ s σ H X.xe I3 (stat fr3) st3 go) (fun r1 s4 ⟨u, hr, h4⟩ => ?_) fun x s' hx => ee n s₀ x s' hx
        subst hr
        refine wpAny_mono h4 (fun _ s5 ⟨x, H5, I5, r5, y5, st5, fr5⟩ => ?_) fun x s' hx => ee n s₀ x s' hx
        have I5' := I5.pinned (stat fr5) (T.obj _ _ st5)
        refine wpAny_mono (hg.run _ s5 σ H5 x u _ I5' r5 (step x H5 y5)) (fun _ s6 ⟨σ6, H6, I6, q6⟩ => ?_) fun x s' hx => ee n s₀ x s' hx
        have gcx : GC X S (ip ++ pinsAt fp s5.heap) A (.forLoop tg (.ref it) body [] X.env) (.ret (fun r => ((match r with | .ok f => (.pure f : Sem Flow) | .error e => .raise e).onRaise (cameBack X.env)).wrap K J gd lv) none (gd false) (lv []) c p [] :: fs) id :=
          ⟨gc.pn, fun q hq => (List.mem_append.mp hq).elim (fun z => gc.ip q z) fun z => fS q.1 (of_pinsAt z).1, gc.apart, (gl _).over, (gl _).split, (gl _).guard, rfl⟩
        have unp : ∀ {ys : List V} {σ : L2.St} {H : Hp} {s : Shared}, GI X S (ip ++ pinsAt fp s5.heap) ys σ H s → GI X S ip ys σ H s := fun ⟨acc, cc, r, I⟩ => ⟨acc, cc, r, I.unpinned (pl := pinsAt fp s5.heap)⟩
        refine hb.run A S (ip ++ pinsAt fp s5.heap) R n ys s₀ _ _ _ _ id id s6 σ6 H6 { D with nx := N, ct := N, bk := D.nx } gcx hn ⟨fun n' ys' s₀' s7 f hn' hs => ?_, fun n' s₀' x s7 hx => ee n' s₀' x s7 hx⟩ ⟨acc, cc, r, I6⟩ q6
        have again : ∀ {σ7 : L2.St} {H7 : Hp}, GI X S (ip ++ pinsAt fp s5.heap) ys' σ7 H7 s7 → N ys' σ7 H7 → Seg (model X.prog X.w) A R (GY X S) n' s₀' (.forLoop tg (.ref it) body [] X.env) (.pure (.again (.forLoop tg (.ref it) body [] X.env)))
            (.ret (fun r => ((match r with | .ok f => (.pure f : Sem Flow) | .error e => .raise e).onRaise (cameBack X.env)).wrap K J gd lv) none (gd false) (lv []) c p [] :: fs) s7 := fun {σ7 H7} I7 n7 => by
          obtain ⟨m', hm, w7⟩ := hN ys' σ7 H7 n7
          obtain ⟨acc7, c7, r7, J7⟩ := I7
          refine seg_again rfl (ih m' hm n' (i + 1) ys' s₀' s7 σ7 H7 hn' w7 (T.keep _ _ _ st5 fun b hb o e => (J7.pin (b, o) (List.mem_append_right _ (List.mem_cons_of_mem _ (List.mem_append_right _ (mem_pinsAt hb e))))).1) (fun b hb => ?_) (unp ⟨acc7, c7, r7, J7⟩))
          obtain ⟨o, e, d⟩ := T.obj _ _ st5 b hb
          exact (J7.pin (b, o) (List.mem_append_right _ (List.mem_cons_of_mem _ (List.mem_append_right _ (mem_pinsAt hb e))))).2.1
        cases f with
        | next =>
          obtain ⟨σ7, H7, I7, n7⟩ := hs
          exact again I7 n7
        | cont =>
          obtain ⟨σ7, H7, I7, n7⟩ := hs
          exact again I7 n7
        | brk =>
          obtain ⟨σ7, H7, I7, n7⟩ := hs
          exact seg_leaf (.ok .next) (k.ok n' ys' s₀' s7 .next hn' ⟨σ7, H7, unp I7, n7⟩)
        | ret v =>
          obtain ⟨x7, σ7, H7, I7, r7, n7⟩ := hs
          exact seg_leaf (.ok (.ret v)) (k.ok n' ys' s₀' s7 (.ret v) hn' ⟨x7, σ7, H7, unp I7, r7, n7⟩)
  exact loop m0 n 0 ys s₀ s2 σ H2 hn w0 st2 (fun b hb => (f2 b hb).1) ⟨acc0, cc0, r, I2⟩
/-- over a list that the body leaves as it is -/
theorem gfor_list {K : PySem.W.Frag} {a : Addr} {xs : List V} {g : TG} {tb : TGn} {D : GEnds} {ys : List V} {σ : L2.St} {H : Hp} (Pv : Nat → List V → L2.St → Hp → Prop) (h0 : Pv 0 ys σ H) (hl : ∀ i ys σ H, Pv i ys σ H → SqL K H a xs)
    (hs : ∀ i x ys σ H, xs[i]? = some x → Pv i ys σ H → g x σ H fun σ2 H2 => tb { D with nx := Pv (i + 1), ct := Pv (i + 1), bk := D.nx } ys σ2 H2) (hd : ∀ ys σ H, Pv xs.length ys σ H → D.nx ys σ H) :
    ∃ W : Nat → Nat → List V → L2.St → Hp → Prop, (∃ m, W 0 m ys σ H) ∧ ∀ i m ys σ H, W i m ys σ H →
      ((Itl K a).stop i H ∧ D.nx ys σ H) ∨ ((Itl K a).go i H ∧ ∃ N : List V → L2.St → Hp → Prop, (∀ ys' σ' H', N ys' σ' H' → ∃ m', m' < m ∧ W (i + 1) m' ys' σ' H') ∧ ∀ x H', (Itl K a).yld i H x H' → g x σ H' fun σ2 H2 => tb { D with nx := N, ct := N, bk := D.nx } ys σ2 H2) := by
  refine ⟨fun i m ys σ H => m + i = xs.length ∧ Pv i ys σ H, ⟨xs.length, rfl, h0⟩, fun i m ys σ H ⟨em, p⟩ => ?_⟩
  have q := hl i ys σ H p
  cases m with
  | zero =>
    have e : i = xs.length := by omega
    subst e
    exact .inl ⟨⟨xs, q, Nat.le_refl _⟩, hd ys σ H p⟩
  | succ m =>
    have lt : i < xs.length := by omega
    refine .inr ⟨⟨xs, xs[i], q, by simp [lt]⟩, Pv (i + 1), fun ys' σ' H' p' => ⟨m, Nat.lt_succ_self m, by omega, p'⟩, fun x H' y => ?_⟩
    obtain ⟨e, y⟩ := y
    subst e
    exact hs i x ys σ _ (y xs q) p
end
end Rt
end
section
set_option Elab.async false
set_option linter.all false
set_option maxRecDepth 100000
set_option maxHeartbeats 8000000
/-! steps, behind -/
namespace Rt
open PySem PySem.Spec PyProof.Rows L2
def StT (H : Hp) (x : V) (s : Stp) : Prop := ∃ t, x = .ref t ∧ H t = some (.tup ((stW s).map V.str))
theorem stt_mono : TkMono StT := fun H H' x w k ⟨q, e, h⟩ => ⟨q, e, k _ _ h⟩
theorem stepFor_self {B : Bk} {b : List Str} {s : Stp} (hs : s ∈ stepsB B b) : stepFor B b (some ((stW s).map V.str)) = some s := by
  have e : ((stW s).map V.str).all isStr = true := by
    rw [List.all_eq_true]
    intro x hx
    obtain ⟨z, _, rfl⟩ := List.mem_map.mp hx
    rfl
  show (if ((stW s).map V.str).all isStr = true then (stepsB B b).find? fun s' => decide (stW s' = strsOf ((stW s).map V.str)) else none) = some s
  rw [if_pos e, strsOf_map]
  generalize stepsB B b = l at hs
  induction l with
  | nil => cases hs
  | cons t l ih =>
    by_cases et : stW t = stW s
    · rw [List.find?_cons_of_pos (p := fun s' => decide (stW s' = stW s)) (decide_eq_true et), stW_inj et]
    · rw [List.find?_cons_of_neg (p := fun s' => decide (stW s' = stW s)) (by rw [decide_eq_false et]; decide)]
      rcases List.mem_cons.mp hs with rfl | hs
      · exact absurd rfl et
      · exact ih hs
def spPossible (K : PySem.W.Frag) : Sp := fun vs H Q _ => ∃ (r q : Addr) (B : Bk) (u : RuA) (b : List Str) (s : Stp), vs = [.ref r, .int ((maskB B b : Nat) : Int), .ref q] ∧ RulesAt K H r B u ∧ Bd B b ∧ Oks B.ns ∧ SqT K H q ((stW s).map V.str) ∧ s ∈ stepsB B b ∧ ∀ H', Same H H' → Q (.int ((bitS B.ns s : Nat) : Int)) H'
def spBehind (K : PySem.W.Frag) : Sp := fun vs H Q _ => ∃ (x q t : Addr) (B : Bk) (a : BoA) (b : List Str) (s : Stp), vs = [.ref x, .ref q, .ref t] ∧ BookAt K H x B a ∧ Bd B b ∧ Oks B.ns ∧ SqT K H q (b.map V.str) ∧ holdsB B b = true ∧ SqT K H t ((stW s).map V.str) ∧ s ∈ stepsB B b ∧
  ∀ (y : Addr) (H' : Hp), Same H H' → H y = none → H' y = some (.tup ((behindB B b s).map V.str)) → Q (.ref y) H'
def spSteps (K : PySem.W.Frag) : L2.SpG := fun vs H Q _ => ∃ (x q : Addr) (B : Bk) (a : BoA) (b : List Str), vs = [.ref x, .ref q] ∧ BookAt K H x B a ∧ Bd B b ∧ Oks B.ns ∧ SqT K H q (b.map V.str) ∧ holdsB B b = true ∧
  ∀ (ys : List V) (H' : Hp), Same H H' → Paired (StT H') ys (stepsB B b) → Q ys H'
section
variable {P : Program} {w : World} {K : PySem.W.Frag} {mg : Str → Option Value} {base : Heap}
end
end Rt
end
section
set_option Elab.async false
set_option linter.all false
set_option maxRecDepth 100000
set_option maxHeartbeats 4000000
/-! builds among all -/
namespace Rt
open PySem PySem.Spec PyProof.Rows L2
theorem subs_mem {ns b : List Str} (h : b ∈ subsB ns) : b.Sublist ns := by
  unfold subsB at h
  obtain ⟨p, hp, rfl⟩ := List.mem_map.mp h
  exact (goodP_found hp).all
theorem found_nil (ns : List Str) : ∀ k, ([], 0) ∈ foundP ns k
  | 0 => List.mem_cons_self
  | k + 1 => List.mem_append_left _ (found_nil ns k)
theorem subs_nil (ns : List Str) : [] ∈ subsB ns := List.mem_map.mpr ⟨([], 0), found_nil ns _, rfl⟩
theorem pool_same {H H' : Hp} {p : Addr} (s : Same H H') (h : PoolAt H p) : PoolAt H' p := by
  obtain ⟨x, y, e, r⟩ := h
  exact ⟨x, y, s _ _ e, r⟩
end Rt
end
section
set_option Elab.async false
set_option linter.all false
set_option maxRecDepth 100000
set_option maxHeartbeats 8000000
/-! the law's builds; what is right of what was undone -/
namespace Rt
open PySem PySem.Spec PyProof.Rows L2
theorem BookAt.aft {K : PySem.W.Frag} {H H' : Hp} {p x : Addr} {B : Bk} {a : BoA} (h : BookAt K H x B a) (hp : PoolAt H p) (g : Aft p H H') : BookAt K H' x B a := by
  have t : Tk H H' := g.tk hp
  obtain ⟨i, j, hpp, _⟩ := hp
  have d : ∀ {b : Addr} {kvs : List (Key × V)}, H b = some (.dK kvs) → H' b = some (.dK kvs) := fun hb => g.keep _ _ (ne_of hb hpp (by intro z; cases z)) hb
  have f : Tf H H' := fun b o xs hb => g.keep _ _ (ne_of hb hpp (by intro z; cases z)) hb
  exact ⟨g.keep _ _ (ne_of h.at_ hpp (by intro z; cases z)) h.at_, d h.parts, h.h1.tk f, h.h3.tk f, h.h4.tk f, h.h5.tk f, h.h6.tk f, h.h7.tk f, h.r1.tk t, h.r3.tk t, h.r4.tk t, h.r5.tk t, h.r6.tk t, h.r7.tk t, t _ _ h.names, d h.tiers, d h.needs, d h.given, d h.price⟩
theorem passX0 {P : Program} {w : World} {X : Cx} : Passes (L2.CX P w) X E0 := fun _ _ _ _ _ _ _ h => by
  obtain ⟨_, _, _, _, _, _, _, _, _, _, _, _, hw⟩ := h
  exact hw.elim
theorem noStop0 {K : PySem.W.Frag} : NoStop K E0 := fun _ _ _ h => h.elim
def spAll : Sp := fun vs H Q _ => ∃ (d : Addr) (B : Bk), vs = [.ref d] ∧ BkAt H d B ∧ BkR B ∧ Oks B.ns ∧ ∀ (l : Addr) (H' : Hp) (xs : List V), H l = none → Same H H' → H' l = some (.lst xs) → Paired (BT H') xs ((subsB B.ns).filter (holdsB B)) → Q (.ref l) H'
def spGoodOne : Sp := fun vs H Q _ => ∃ (p d : Addr) (sort : Int) (B : Bk), vs = [.ref p, .ref d] ∧ PoolAt H p ∧ BkAt H d B ∧ BkOk sort B ∧ ∀ (q : Addr) (b : List Str) (H' : Hp), Aft p H H' → H' q = some (.tup (b.map V.str)) → Bd B b → holdsB B b = true → Q (.ref q) H'
def spUndone (K : PySem.W.Frag) : Sp := fun vs H Q _ => ∃ (x q t l : Addr) (B : Bk) (a : BoA) (b : List Str) (s : Stp), vs = [.ref x, .ref q, .ref t, .ref l] ∧ BookAt K H x B a ∧ Bd B b ∧ Oks B.ns ∧ SqT K H q (b.map V.str) ∧ holdsB B b = true ∧ SqT K H t ((stW s).map V.str) ∧ s ∈ stepsB B b ∧ SqT K H l ((behindB B b s).map V.str) ∧
  ∀ H', Same H H' → Q (.bl true) H'
/-- a step as data -/
def stD (s : Stp) : PyData := .tuple ((stW s).map PyData.str)
theorem st_dp {K : PySem.W.Frag} {H : Hp} : ∀ {xs : List V} {l : List Stp}, Paired (StT H) xs l → DpAll K H xs (l.map stD)
  | _, _, .nil => .nil
  | _, _, .cons r t => by
    obtain ⟨q, rfl, hq⟩ := r
    exact .cons (.tup (SqT.of hq) (dpAll_strs _)) (st_dp t)
theorem sm_strs {zs : List Str} (h : ∀ z ∈ zs, PyData.strOk z = true) : Sm (.tuple (zs.map PyData.str)) := by
  obtain ⟨h1, h2⟩ := sm_all (ds := zs.map PyData.str) fun d hd => by
    obtain ⟨z, hz, rfl⟩ := List.mem_map.mp hd
    exact sm_str (h z hz)
  refine ⟨by simp only [PyData.canLay0]; exact h1, ?_⟩
  have h3 : PyData.depthAll (zs.map PyData.str) ≤ 1 := by
    clear h h1 h2
    induction zs with
    | nil => simp [PyData.depthAll]
    | cons z zs ih =>
      simp only [List.map_cons, PyData.depthAll, PyData.depth]
      omega
  simp only [PyData.depth]
  omega
theorem st_sm {B : Bk} {b : List Str} (oks : Oks B.ns) (ok : BkR B) : ∀ d ∈ (stepsB B b).map stD, Sm d := fun d hd => by
  obtain ⟨s, hs, rfl⟩ := List.mem_map.mp hd
  exact sm_strs (stW_ok oks ok hs)
theorem st_eqv (s t : Stp) : PyData.eqv (stD s) (stD t) = decide (s = t) := by
  unfold stD
  simp only [PyData.eqv]
  rw [eqv_strs, decide_eq_decide]
  exact ⟨stW_inj, fun e => by rw [e]⟩
theorem st_any {l : List Stp} {s : Stp} (h : s ∈ l) : ((l.map stD).any fun z => PyData.eqv z (stD s)) = true := by
  rw [List.any_eq_true]
  exact ⟨stD s, List.mem_map_of_mem h, by rw [st_eqv, decide_eq_true rfl]⟩
section
variable {P : Program} {w : World} {K : PySem.W.Frag} {mg : Str → Option Value} {base : Heap}
end
end Rt
end
section
set_option Elab.async false
set_option linter.all false
set_option maxRecDepth 100000
set_option maxHeartbeats 4000000
/-! mathematics: what ways lead to, the order of builds and of masks -/
namespace Rt
open PySem PySem.Spec PyProof.Rows L2
open SrtO (lexB lexB_iff lexB_no)
/-! ### masks and builds -/
theorem mask_inj {B : Bk} {b c : List Str} (hb : Bd B b) (hc : Bd B c) (e : maskB B b = maskB B c) : b = c := by
  rw [← self_filter hb, ← self_filter hc]
  exact List.filter_congr fun z hz => maskF_inj e z hz
theorem maskB_lt' {B : Bk} (ok : BkR B) (b : List Str) : maskB B b < 4096 := by
  have := maskF_lt B.ns (inB b)
  have l := ok.l12
  have : 2 ^ B.ns.length ≤ 2 ^ 12 := Nat.pow_le_pow_right (by decide) l
  unfold maskB
  omega
theorem masks_len {B : Bk} (ok : BkR B) {hs : List (List Str)} (nd : hs.Nodup) (bd : ∀ b ∈ hs, Bd B b) : hs.length ≤ 4096 := by
  have n : (hs.map (maskB B)).Nodup := by
    rw [List.Nodup, List.pairwise_map]
    exact nd.imp_of_mem fun {a b} ha hb h e => h (mask_inj (bd a ha) (bd b hb) e)
  have := n.length_le_of_subset (l₂ := List.range 4096) fun m hm => by
    obtain ⟨b, _, rfl⟩ := List.mem_map.mp hm
    exact List.mem_range.mpr (maskB_lt' ok b)
  rw [List.length_map, List.length_range] at this
  exact this
/-! ### beside one another -/
def moreB (B : Bk) (b : List Str) : List (List Str) := (B.ns.filter fun z => !inB b z).map (addN B b)
def lessB (B : Bk) (b : List Str) : List (List Str) := (B.ns.filter fun z => inB b z).map (delN B b)
def besideB (B : Bk) (b : List Str) : List (List Str) := moreB B b ++ lessB B b
inductive Come (B : Bk) (s : List Str) : List Str → Prop
  | refl : Come B s s
  | step {b b' : List Str} (h : Come B s b) (n : b' ∈ besideB B b) (g : holdsB B b' = true) : Come B s b'
section
variable {B : Bk} {s b b' : List Str}
theorem more_mem : b' ∈ moreB B b ↔ ∃ z ∈ B.ns, inB b z = false ∧ b' = addN B b z := by
  unfold moreB
  rw [List.mem_map]
  constructor
  · rintro ⟨z, hz, rfl⟩
    obtain ⟨h1, h2⟩ := List.mem_filter.mp hz
    exact ⟨z, h1, by simpa using h2, rfl⟩
  · rintro ⟨z, hz, n, rfl⟩
    exact ⟨z, List.mem_filter.mpr ⟨hz, by simpa using n⟩, rfl⟩
theorem less_mem : b' ∈ lessB B b ↔ ∃ z ∈ B.ns, inB b z = true ∧ b' = delN B b z := by
  unfold lessB
  rw [List.mem_map]
  constructor
  · rintro ⟨z, hz, rfl⟩
    obtain ⟨h1, h2⟩ := List.mem_filter.mp hz
    exact ⟨z, h1, h2, rfl⟩
  · rintro ⟨z, hz, n, rfl⟩
    exact ⟨z, List.mem_filter.mpr ⟨hz, n⟩, rfl⟩
theorem beside_bd (h : BkR B) (n : b' ∈ besideB B b) : Bd B b' := by
  rcases List.mem_append.mp n with n | n
  · obtain ⟨z, _, _, rfl⟩ := more_mem.mp n
    exact bd_filter h _
  · obtain ⟨z, _, _, rfl⟩ := less_mem.mp n
    exact bd_filter h _
theorem beside_symm (h : Bd B b) (n : b' ∈ besideB B b) : b ∈ besideB B b' := by
  rcases List.mem_append.mp n with n | n
  · obtain ⟨z, hz, i, rfl⟩ := more_mem.mp n
    exact List.mem_append_right _ (less_mem.mpr ⟨z, hz, add_mem h hz, (del_add h i).symm⟩)
  · obtain ⟨z, hz, i, rfl⟩ := less_mem.mp n
    exact List.mem_append_left _ (more_mem.mpr ⟨z, hz, del_mem h hz, (add_del h i).symm⟩)
theorem beside_len (h : BkR B) : (besideB B b).length ≤ 24 := by
  unfold besideB moreB lessB
  have l := h.l12
  have h1 := List.length_filter_le (fun z => !inB b z) B.ns
  have h2 := List.length_filter_le (fun z => inB b z) B.ns
  rw [List.length_append, List.length_map, List.length_map]
  omega
theorem Come.bd (h : Bd B s) (c : Come B s b) : Bd B b := by
  cases c with
  | refl => exact h
  | step _ n _ => exact beside_bd h.r n
theorem Come.holds (h : holdsB B s = true) (c : Come B s b) : holdsB B b = true := by
  cases c with
  | refl => exact h
  | step _ _ g => exact g
theorem Come.trans {t : List Str} (c : Come B s b) (d : Come B b t) : Come B s t := by
  induction d with
  | refl => exact c
  | step _ n g ih => exact .step ih n g
theorem Come.symm (h : Bd B s) (g : holdsB B s = true) (c : Come B s b) : Come B b s := by
  induction c with
  | refl => exact .refl
  | @step b b' c n gg ih => exact (Come.step .refl (beside_symm (c.bd h) n) (c.holds g)).trans ih
end
/-! ### the search -/
structure Srch (B : Bk) (s : List Str) (hs ws : List (List Str)) : Prop where
  nd : hs.Nodup
  bd : ∀ b ∈ hs, Bd B b
  st : s ∈ hs
  sub : ∀ b ∈ ws, b ∈ hs ∧ holdsB B b = true
  come : ∀ b ∈ hs, holdsB B b = true → Come B s b
  full : ∀ b ∈ hs, holdsB B b = true → b ∉ ws → ∀ b' ∈ besideB B b, b' ∈ hs
structure SrchI (B : Bk) (s b : List Str) (i : Nat) (hs ws : List (List Str)) : Prop where
  nd : hs.Nodup
  bd : ∀ b ∈ hs, Bd B b
  st : s ∈ hs
  at_ : b ∈ hs ∧ holdsB B b = true
  sub : ∀ b ∈ ws, b ∈ hs ∧ holdsB B b = true
  come : ∀ b ∈ hs, holdsB B b = true → Come B s b
  full : ∀ c ∈ hs, holdsB B c = true → c ∉ ws → c ≠ b → ∀ b' ∈ besideB B c, b' ∈ hs
  part : ∀ b' ∈ (besideB B b).take i, b' ∈ hs
section
variable {B : Bk} {s b c : List Str} {i : Nat} {hs ws : List (List Str)}
theorem Srch.start (h : Bd B s) (g : holdsB B s = true) : Srch B s [s] [s] :=
  ⟨List.nodup_cons.mpr ⟨by simp, List.nodup_nil⟩, fun b hb => by rw [List.mem_singleton.mp hb]; exact h, List.mem_cons_self, fun b hb => by rw [List.mem_singleton.mp hb]; exact ⟨List.mem_cons_self, g⟩, fun b hb _ => by rw [List.mem_singleton.mp hb]; exact .refl, fun b hb _ n => absurd hb n⟩
theorem Srch.pop (h : Srch B s hs (ws ++ [b])) : SrchI B s b 0 hs ws :=
  ⟨h.nd, h.bd, h.st, h.sub b (by simp), fun c hc => h.sub c (List.mem_append_left _ hc), h.come, fun c hc g n ne b' hb' => h.full c hc g (fun z => (List.mem_append.mp z).elim n fun z => ne (List.mem_singleton.mp z)) b' hb', fun b' hb' => by simp at hb'⟩
theorem SrchI.known (h : SrchI B s b i hs ws) (hc : (besideB B b)[i]? = some c) (k : c ∈ hs) : SrchI B s b (i + 1) hs ws :=
  ⟨h.nd, h.bd, h.st, h.at_, h.sub, h.come, h.full, fun b' hb' => by
      rw [take_one hc] at hb'
      rcases List.mem_append.mp hb' with z | z
      · exact h.part b' z
      · rw [List.mem_singleton.mp z]
        exact k⟩
theorem SrchI.bad (h : SrchI B s b i hs ws) (hc : (besideB B b)[i]? = some c) (k : c ∉ hs) (g : holdsB B c = false) : SrchI B s b (i + 1) (hs ++ [c]) ws := by
  have r := (h.bd b h.at_.1).r
  have nb : ∀ d ∈ hs ++ [c], holdsB B d = true → d ∈ hs := fun d hd e => by
    rcases List.mem_append.mp hd with z | z
    · exact z
    · rw [List.mem_singleton.mp z, g] at e
      cases e
  refine ⟨?_, fun d hd => ?_, List.mem_append_left _ h.st, ⟨List.mem_append_left _ h.at_.1, h.at_.2⟩, fun d hd => ⟨List.mem_append_left _ (h.sub d hd).1, (h.sub d hd).2⟩, fun d hd e => h.come d (nb d hd e) e, fun d hd e n ne b' hb' => List.mem_append_left _ (h.full d (nb d hd e) e n ne b' hb'), fun b' hb' => ?_⟩
  · rw [List.nodup_append]
    exact ⟨h.nd, List.nodup_cons.mpr ⟨by simp, List.nodup_nil⟩, fun a ha d hd e => k (by rw [← List.mem_singleton.mp hd, ← e]; exact ha)⟩
  · rcases List.mem_append.mp hd with z | z
    · exact h.bd d z
    · rw [List.mem_singleton.mp z]
      exact beside_bd r (List.mem_of_getElem? hc)
  · rw [take_one hc] at hb'
    rcases List.mem_append.mp hb' with z | z
    · exact List.mem_append_left _ (h.part b' z)
    · exact List.mem_append_right _ z
theorem SrchI.good (h : SrchI B s b i hs ws) (hc : (besideB B b)[i]? = some c) (k : c ∉ hs) (g : holdsB B c = true) : SrchI B s b (i + 1) (hs ++ [c]) (ws ++ [c]) := by
  have r := (h.bd b h.at_.1).r
  have hn := List.mem_of_getElem? hc
  refine ⟨?_, fun d hd => ?_, List.mem_append_left _ h.st, ⟨List.mem_append_left _ h.at_.1, h.at_.2⟩, fun d hd => ?_, fun d hd e => ?_, fun d hd e n ne b' hb' => ?_, fun b' hb' => ?_⟩
  · rw [List.nodup_append]
    exact ⟨h.nd, List.nodup_cons.mpr ⟨by simp, List.nodup_nil⟩, fun a ha d hd e => k (by rw [← List.mem_singleton.mp hd, ← e]; exact ha)⟩
  · rcases List.mem_append.mp hd with z | z
    · exact h.bd d z
    · rw [List.mem_singleton.mp z]
      exact beside_bd r hn
  · rcases List.mem_append.mp hd with z | z
    · exact ⟨List.mem_append_left _ (h.sub d z).1, (h.sub d z).2⟩
    · rw [List.mem_singleton.mp z]
      exact ⟨by simp, g⟩
  · rcases List.mem_append.mp hd with z | z
    · exact h.come d z e
    · rw [List.mem_singleton.mp z]
      exact .step (h.come b h.at_.1 h.at_.2) hn g
  · rcases List.mem_append.mp hd with z | z
    · exact List.mem_append_left _ (h.full d z e (fun y => n (List.mem_append_left _ y)) ne b' hb')
    · exact absurd (List.mem_append_right _ z) n
  · rw [take_one hc] at hb'
    rcases List.mem_append.mp hb' with z | z
    · exact List.mem_append_left _ (h.part b' z)
    · exact List.mem_append_right _ z
theorem SrchI.close (h : SrchI B s b (besideB B b).length hs ws) : Srch B s hs ws :=
  ⟨h.nd, h.bd, h.st, h.sub, h.come, fun c hc g n b' hb' => by
    by_cases e : c = b
    · subst e
      exact h.part b' (by rw [List.take_length]; exact hb')
    · exact h.full c hc g n e b' hb'⟩
theorem Srch.done (h : Srch B s hs []) (g : holdsB B s = true) : ∀ {b}, Come B s b → b ∈ hs := by
  intro b c
  induction c with
  | refl => exact h.st
  | @step b b' c n gg ih => exact h.full b ih (c.holds g) (by simp) b' n
/-- the builds that were found -/
theorem Srch.all (h : Srch B s hs []) (g : holdsB B s = true) (b : List Str) : b ∈ hs.filter (holdsB B) ↔ Come B s b := by
  rw [List.mem_filter]
  exact ⟨fun ⟨h1, h2⟩ => h.come b h1 h2, fun c => ⟨h.done g c, c.holds g⟩⟩
end
/-! ### the order of builds is that of the masks' keys -/
def kfM (n : Int) : Int × Int := (((sizeN n.toNat : Nat) : Int), -n)
theorem kfM_inj : ∀ x y, kfM x = kfM y → x = y := fun x y e => by
  have := congrArg Prod.snd e
  have : -x = -y := this
  omega
theorem bit_at : ∀ {ns : List Str} {j : Nat} {z : Str}, ns.Nodup → ns[j]? = some z → bitN ns z = 2 ^ (ns.length - 1 - j)
  | [], _, _, _, h => by cases h
  | y :: l, 0, z, nd, h => by
    cases h
    show (if y = y then 2 ^ l.length else bitN l y) = _
    rw [if_pos rfl]
    rfl
  | y :: l, j + 1, z, nd, h => by
    have h : l[j]? = some z := h
    obtain ⟨n1, n2⟩ := List.nodup_cons.mp nd
    have ne : y ≠ z := fun e => n1 (e ▸ List.mem_of_getElem? h)
    show (if y = z then 2 ^ l.length else bitN l z) = _
    rw [if_neg ne, bit_at n2 h]
    congr 1
    rw [List.length_cons]
    omega
def mN (ns : List Str) (b : List Str) : Nat := maskF ns (inB b)
theorem mN_snoc {ns b : List Str} {z : Str} (nd : ns.Nodup) (hz : z ∉ b) : mN ns (b ++ [z]) = mN ns b + bitN ns z := by
  unfold mN
  rw [bitN_mask nd, maskF_add (fun y _ => ?_)]
  · refine maskF_congr fun y _ => ?_
    unfold inB
    rw [Bool.eq_iff_iff]
    simp
  · unfold inB
    by_cases e : y = z
    · rw [e, decide_eq_false hz]
      rfl
    · rw [decide_eq_false e, Bool.and_false]
/-- p stands ahead of q: its mask is greater, with room for what q may still take -/
def Ahead (ns : List Str) (p q : List Str × Nat) : Prop := mN ns q.1 + 2 ^ (ns.length - q.2) ≤ mN ns p.1
theorem kid_fresh {ns : List Str} {p : List Str × Nat} {j : Nat} {z : Str} (nd : ns.Nodup) (g : GoodP ns p) (hj : p.2 ≤ j) (hz : ns[j]? = some z) : z ∉ p.1 := fun m => by
  have h := g.sub.subset m
  obtain ⟨i, hi⟩ := List.getElem?_of_mem h
  rw [List.getElem?_take] at hi
  split at hi
  · rename_i lt
    have e := (List.getElem?_inj (List.getElem?_eq_some_iff.mp hi).1 nd).mp (hi.trans hz.symm)
    omega
  · cases hi
theorem kid_mask {ns : List Str} {p : List Str × Nat} {j : Nat} {z : Str} (nd : ns.Nodup) (g : GoodP ns p) (hj : p.2 ≤ j) (hz : ns[j]? = some z) : mN ns (p.1 ++ [z]) = mN ns p.1 + 2 ^ (ns.length - 1 - j) := by
  rw [mN_snoc nd (kid_fresh nd g hj hz), bit_at nd hz]
theorem kidsFrom_ahead {ns b : List Str} (nd : ns.Nodup) : ∀ {low : Nat} {l : List Str}, l = ns.drop low → GoodP ns (b, low) ∨ (∃ lo, lo ≤ low ∧ GoodP ns (b, lo)) → (kidsFrom b low l).Pairwise (Ahead ns)
  | _, [], _, _ => List.Pairwise.nil
  | low, z :: l, e, g => by
    have g' : ∃ lo, lo ≤ low ∧ GoodP ns (b, lo) := g.elim (fun g => ⟨low, Nat.le_refl _, g⟩) id
    obtain ⟨lo, h1, gl⟩ := g'
    have hz : ns[low]? = some z := by
      have := congrArg (fun l : List Str => l[0]?) e
      rw [List.getElem?_drop] at this
      exact this.symm
    have lt := (List.getElem?_eq_some_iff.mp hz).1
    have e' : l = ns.drop (low + 1) := by
      have := congrArg List.tail e
      rw [List.tail_drop] at this
      exact this
    refine List.pairwise_cons.mpr ⟨fun q hq => ?_, kidsFrom_ahead nd e' (.inr ⟨lo, by omega, gl⟩)⟩
    obtain ⟨j, y, hy, rfl⟩ := kidsFrom_mem hq
    rw [e', List.getElem?_drop] at hy
    have lt2 := (List.getElem?_eq_some_iff.mp hy).1
    show mN ns (b ++ [y]) + 2 ^ (ns.length - (low + 1 + j + 1)) ≤ mN ns (b ++ [z])
    rw [kid_mask nd gl (by omega) hy, kid_mask nd gl (by omega) hz]
    have e1 : ns.length - (low + 1 + j + 1) = ns.length - 1 - (low + 1 + j) := by omega
    have e2 : 2 ^ (ns.length - 1 - (low + 1 + j)) + 2 ^ (ns.length - 1 - (low + 1 + j)) = 2 ^ (ns.length - 1 - (low + 1 + j) + 1) := by rw [Nat.pow_succ]; omega
    have e3 : 2 ^ (ns.length - 1 - (low + 1 + j) + 1) ≤ 2 ^ (ns.length - 1 - low) := Nat.pow_le_pow_right (by decide) (by omega)
    rw [e1]
    omega
theorem level_ahead {ns : List Str} (nd : ns.Nodup) : ∀ k : Nat, (levelP ns k).Pairwise (Ahead ns)
  | 0 => List.pairwise_singleton _ _
  | k + 1 => by
    show ((levelP ns k).flatMap (kids ns)).Pairwise (Ahead ns)
    rw [List.flatMap_def, List.pairwise_flatten]
    refine ⟨fun l hl => ?_, ?_⟩
    · obtain ⟨p, hp, rfl⟩ := List.mem_map.mp hl
      exact kidsFrom_ahead nd rfl (.inl (goodP_level hp))
    · rw [List.pairwise_map]
      refine (level_ahead nd k).imp_of_mem fun {p q} hp hq h x hx y hy => ?_
      obtain ⟨i, z, hi, hz, rfl⟩ := kids_mem hx
      obtain ⟨j, w, hj, hw, rfl⟩ := kids_mem hy
      have lt2 := (List.getElem?_eq_some_iff.mp hw).1
      show mN ns (q.1 ++ [w]) + 2 ^ (ns.length - (j + 1)) ≤ mN ns (p.1 ++ [z])
      rw [kid_mask nd (goodP_level hq) hj hw, kid_mask nd (goodP_level hp) hi hz]
      have h : mN ns q.1 + 2 ^ (ns.length - q.2) ≤ mN ns p.1 := h
      have e1 : ns.length - (j + 1) = ns.length - 1 - j := by omega
      have e2 : 2 ^ (ns.length - 1 - j) + 2 ^ (ns.length - 1 - j) = 2 ^ (ns.length - 1 - j + 1) := by rw [Nat.pow_succ]; omega
      have e3 : 2 ^ (ns.length - 1 - j + 1) ≤ 2 ^ (ns.length - q.2) := Nat.pow_le_pow_right (by decide) (by omega)
      have e4 : 0 < 2 ^ (ns.length - 1 - i) := Nat.two_pow_pos _
      rw [e1]
      omega
theorem level_size {ns : List Str} : ∀ {k : Nat} {p : List Str × Nat}, p ∈ levelP ns k → p.1.length = k
  | 0, p, h => by rw [List.mem_singleton.mp h]; rfl
  | k + 1, p, h => by
    obtain ⟨q, hq, hp⟩ := List.mem_flatMap.mp h
    obtain ⟨j, z, _, _, rfl⟩ := kids_mem hp
    show (q.1 ++ [z]).length = k + 1
    rw [List.length_append, level_size hq]
    rfl
theorem found_size {ns : List Str} : ∀ {k : Nat} {p : List Str × Nat}, p ∈ foundP ns k → p.1.length ≤ k
  | 0, p, h => by rw [List.mem_singleton.mp h]; exact Nat.le_refl _
  | k + 1, p, h => by
    rcases List.mem_append.mp h with h | h
    · exact Nat.le_succ_of_le (found_size h)
    · exact Nat.le_of_eq (level_size h)
def AheadS (ns : List Str) (b c : List Str) : Prop := b.length < c.length ∨ (b.length = c.length ∧ mN ns c < mN ns b)
theorem found_ahead {ns : List Str} (nd : ns.Nodup) : ∀ k : Nat, (foundP ns k).Pairwise fun p q => AheadS ns p.1 q.1
  | 0 => List.pairwise_singleton _ _
  | k + 1 => by
    refine List.pairwise_append.mpr ⟨found_ahead nd k, ?_, fun p hp q hq => .inl ?_⟩
    · refine (level_ahead nd (k + 1)).imp_of_mem fun {p q} hp hq h => .inr ⟨by rw [level_size hp, level_size hq], ?_⟩
      have h : mN ns q.1 + 2 ^ (ns.length - q.2) ≤ mN ns p.1 := h
      have := Nat.two_pow_pos (ns.length - q.2)
      omega
    · have := found_size hp
      have := level_size hq
      omega
theorem subs_ahead {ns : List Str} (nd : ns.Nodup) : (subsB ns).Pairwise (AheadS ns) := by
  unfold subsB
  rw [List.pairwise_map]
  exact found_ahead nd _
theorem subs_nodup {ns : List Str} (nd : ns.Nodup) : (subsB ns).Nodup := (subs_ahead nd).imp fun {a b} h e => by
  subst e
  rcases h with h | ⟨_, h⟩
  · exact Nat.lt_irrefl _ h
  · exact Nat.lt_irrefl _ h
theorem sub_level {ns : List Str} (nd : ns.Nodup) : ∀ (k : Nat) (b : List Str), b.length = k → b.Sublist ns → ∃ low, (b, low) ∈ levelP ns k
  | 0, b, e, _ => by
    rw [List.eq_nil_of_length_eq_zero e]
    exact ⟨0, List.mem_cons_self⟩
  | k + 1, b, e, s => by
    rcases List.eq_nil_or_concat b with rfl | ⟨c, z, rfl⟩
    · cases e
    · rw [List.concat_eq_append] at e s ⊢
      rw [List.length_append] at e
      have e : c.length = k := by simpa using e
      obtain ⟨low, hl⟩ := sub_level nd k c e ((List.sublist_append_left c [z]).trans s)
      have g := goodP_level hl
      obtain ⟨r1, r2, rfl, s1, s2⟩ := List.append_sublist_iff.mp s
      obtain ⟨j, hj⟩ := List.getElem?_of_mem (s2.subset List.mem_cons_self)
      have hz : (r1 ++ r2)[r1.length + j]? = some z := by
        rw [List.getElem?_append_right (by omega)]
        have : r1.length + j - r1.length = j := by omega
        rw [this]
        exact hj
      have low_le : low ≤ r1.length := by
        rcases g.last with ⟨_, h⟩ | ⟨b0, y, i, e1, e2, e3⟩
        · have h : low = 0 := h
          omega
        · have e1 : c = b0 ++ [y] := e1
          have e3 : low = i + 1 := e3
          have my : y ∈ r1 := s1.subset (by rw [e1]; simp)
          obtain ⟨i', hi'⟩ := List.getElem?_of_mem my
          have lt := (List.getElem?_eq_some_iff.mp hi').1
          have h2 : (r1 ++ r2)[i']? = some y := by
            rw [List.getElem?_append_left lt]
            exact hi'
          have := (List.getElem?_inj (List.getElem?_eq_some_iff.mp h2).1 nd).mp (h2.trans e2.symm)
          omega
      refine ⟨r1.length + j + 1, List.mem_flatMap.mpr ⟨(c, low), hl, ?_⟩⟩
      show (c ++ [z], r1.length + j + 1) ∈ kidsFrom c low ((r1 ++ r2).drop low)
      have mem : ∀ {low : Nat} {l : List Str} {i : Nat}, l[i]? = some z → (c ++ [z], low + i + 1) ∈ kidsFrom c low l := by
        intro low l
        induction l generalizing low with
        | nil => intro i h; cases h
        | cons y l ih =>
          intro i h
          cases i with
          | zero =>
            cases h
            exact List.mem_cons_self
          | succ i =>
            have := ih (low := low + 1) (i := i) h
            have e : low + 1 + i + 1 = low + (i + 1) + 1 := by omega
            rw [e] at this
            exact List.mem_cons_of_mem _ this
      have := mem (low := low) (l := (r1 ++ r2).drop low) (i := r1.length + j - low) (by
        rw [List.getElem?_drop]
        have : low + (r1.length + j - low) = r1.length + j := by omega
        rw [this]
        exact hz)
      have e : low + (r1.length + j - low) + 1 = r1.length + j + 1 := by omega
      rw [e] at this
      exact this
theorem found_level {ns : List Str} : ∀ {k j : Nat} {p : List Str × Nat}, j ≤ k → p ∈ levelP ns j → p ∈ foundP ns k
  | 0, j, p, h, hp => by
    obtain rfl := Nat.le_zero.mp h
    exact hp
  | k + 1, j, p, h, hp => by
    rcases Nat.lt_or_ge j (k + 1) with z | z
    · exact List.mem_append_left _ (found_level (by omega) hp)
    · obtain rfl : j = k + 1 := by omega
      exact List.mem_append_right _ hp
theorem mem_subs {ns b : List Str} (nd : ns.Nodup) : b ∈ subsB ns ↔ b.Sublist ns := by
  constructor
  · intro h
    obtain ⟨p, hp, rfl⟩ := List.mem_map.mp h
    exact (goodP_found hp).all
  · intro s
    obtain ⟨low, h⟩ := sub_level nd b.length b rfl s
    exact List.mem_map.mpr ⟨(b, low), found_level s.length_le h, rfl⟩
/-- the masks of builds, as they stand in the order of builds -/
theorem kord_subs {B : Bk} (ok : BkR B) (f : List Str → Bool) : Kord kfM (((subsB B.ns).filter f).map fun b => ((maskB B b : Nat) : Int)) := by
  unfold Kord
  rw [List.pairwise_map]
  refine List.Pairwise.filter _ ((subs_ahead ok.nd').imp_of_mem fun {b c} hb hc h => ?_)
  have hb : Bd B b := ⟨ok, (mem_subs ok.nd').mp hb⟩
  have hc : Bd B c := ⟨ok, (mem_subs ok.nd').mp hc⟩
  refine lexB_no.mpr ?_
  show ¬ (((sizeN (Int.toNat ((maskB B c : Nat) : Int)) : Nat) : Int) < ((sizeN (Int.toNat ((maskB B b : Nat) : Int)) : Nat) : Int) ∨ (((sizeN (Int.toNat ((maskB B c : Nat) : Int)) : Nat) : Int) = ((sizeN (Int.toNat ((maskB B b : Nat) : Int)) : Nat) : Int) ∧ -((maskB B c : Nat) : Int) < -((maskB B b : Nat) : Int)))
  rw [Int.toNat_natCast, Int.toNat_natCast, size_one hb, size_one hc]
  have e : ∀ b, maskB B b = mN B.ns b := fun _ => rfl
  rw [e, e]
  rcases h with h | ⟨h1, h2⟩ <;> omega
/-- a list of masks sorted by their keys: the builds in order -/
theorem sorted_subs {B : Bk} (ok : BkR B) {bs : List (List Str)} {l : List Int} (f : List Str → Bool) (nd : bs.Nodup) (bd : ∀ b ∈ bs, Bd B b) (hf : ∀ b, Bd B b → (b ∈ bs ↔ f b = true)) (p : l.Perm (bs.map fun b => ((maskB B b : Nat) : Int))) (k : Kord kfM l) :
    l = ((subsB B.ns).filter f).map fun b => ((maskB B b : Nat) : Int) := by
  refine kord_uniq kfM_inj (p.trans (List.Perm.map _ ?_)) k (kord_subs ok f)
  refine (List.perm_ext_iff_of_nodup nd ((subs_nodup ok.nd').filter _)).mpr fun b => ?_
  rw [List.mem_filter, mem_subs ok.nd']
  exact ⟨fun h => ⟨(bd b h).sub, (hf b (bd b h)).mp h⟩, fun ⟨h1, h2⟩ => (hf b ⟨ok, h1⟩).mpr h2⟩
end Rt
end
section
set_option Elab.async false
set_option linter.all false
set_option maxRecDepth 100000
set_option maxHeartbeats 4000000
/-! an own Hook: the facts of HY, and the tables of the defs that make lambdas (lamL: a list for each law) -/
namespace Rt
open PySem PySem.Spec PyProof.Rows L2
open LamX (ExtN Tabs TabB TabS)
/-- the code object and the table of the def that makes lambdas -/
def lamC (K : PySem.W.Frag) (x : Str) : Addr := match PySem.W.tabIn K x with
  | some p => p.1
  | none => 0
def lamP (K : PySem.W.Frag) (x : Str) : Addr := match PySem.W.tabIn K x with
  | some p => p.2
  | none => 0
def lamB (K : PySem.W.Frag) (x : Str) : Bool := PySem.W.codeHdIn K (lamC K x) (lamP K x) && (K.lookup (lamP K x)).isNone
theorem lam_ok {K : PySem.W.Frag} {h : Heap} {x : Str} (X : K.In h) (b : lamB K x = true) : PySem.W.CodeHd h (lamC K x) (lamP K x) ∧ K.lookup (lamP K x) = none := by
  obtain ⟨b1, b2⟩ := He.ba b
  refine ⟨PySem.W.codeHd_of_K X b1, ?_⟩
  cases q : K.lookup (lamP K x) with
  | none => rfl
  | some o =>
    rw [q] at b2
    cases b2
theorem code_tab {K : PySem.W.Frag} {x : Str} {c T : Addr} (h : PySem.W.tabIn K x = some (c, T)) : codeOf K (He.ga K x) = some (.ref c) := by
  unfold PySem.W.tabIn at h
  split at h
  · rename_i f hf
    have eg : He.ga K x = f := by unfold He.ga; rw [hf]
    rw [eg]
    split at h
    · rename_i fd _ hl
      unfold codeOf
      rw [hl]
      split at h
      · rename_i c2 hc
        split at h
        · split at h
          · cases h
            show some fd.code = some (.ref c)
            rw [hc]
          · cases h
        · cases h
      · cases h
    · cases h
  · cases h
theorem code_lam {K : PySem.W.Frag} {x : Str} {cdv : Value} (h : lamB K x = true) (e : codeOf K (He.ga K x) = some cdv) : cdv = .ref (lamC K x) := by
  cases q : PySem.W.tabIn K x with
  | some p =>
    obtain ⟨c, T⟩ := p
    have z := code_tab q
    rw [z] at e
    have y : lamC K x = c := by unfold lamC; rw [q]
    rw [y]
    exact (Option.some.inj e).symm
  | none =>
    obtain ⟨h1, _⟩ := He.ba h
    have c0 : lamC K x = 0 := by unfold lamC; rw [q]
    have p0 : lamP K x = 0 := by unfold lamP; rw [q]
    rw [c0, p0] at h1
    unfold PySem.W.codeHdIn at h1
    split at h1
    · simp at h1
    · cases h1
def qOf (x : Str) (sc : Scope) : Str := (envOfC x sc 0 0 .none).qual ++ "<lambda>"
/-- the defs that make lambdas -/
def lamL : List (Str × Scope) := [("law", defScope s_law)]
def lamD : List Str := lamL.map (·.1)
def TTb (K : PySem.W.Frag) : List (Addr × Str) := lamL.map fun p => (lamP K p.1, qOf p.1 p.2)
/-- no two defs have one table -/
def tabB (K : PySem.W.Frag) : Bool := lamL.all fun p => (TTb K).all fun r => !decide (r.1 = lamP K p.1) || decide (r.2 = qOf p.1 p.2)
def lamsB (K : PySem.W.Frag) : Bool := lamD.all (lamB K) && tabB K
structure SaysT (K : PySem.W.Frag) : Prop where
  y : SaysY K
  b : lamsB K = true
abbrev AlT : Type := AlY × Bool × List (Option Obj)
/-- what is reached, but the tables of the defs that make lambdas, which grow -/
def asT (g : Addr → Option Obj) : List Addr := (asZ g 5).filter fun a => !(lamD.any fun x => decide (a = lamP (He.frG g (asZ g 5)) x))
def obsT (g : Addr → Option Obj) : AlT := ((He.obsD fa fn (He.frG g (asT g)), exB (He.frG g (asT g)), exF (He.frG g (asT g))), lamsB (He.frG g (asT g)), lamD.map fun x => g (lamP (He.frG g (asT g)) x))
def emptyT : Obj := { cls := .none, data := .fields #[] }
structure SaysH (K : PySem.W.Frag) (h : Heap) : Prop where
  kin : K.In h
  x : SaysT K
  tabs : ∀ y ∈ lamD, h.get? (lamP K y) = some emptyT
theorem tabs_ok {K : PySem.W.Frag} {g : Addr → Option Obj} (h : (lamD.map fun x => g (lamP K x)) = lamD.map fun _ => some emptyT) : ∀ y ∈ lamD, g (lamP K y) = some emptyT := by
  intro y hy
  obtain ⟨i, hi⟩ := List.getElem?_of_mem hy
  have e := congrArg (fun l : List (Option Obj) => l[i]?) h
  simp only [List.getElem?_map, hi, Option.map_some] at e
  exact Option.some.inj e
def hookT : PySem.W.Hook where
  α := AlT
  obs := fun s => obsT s.heap.get?
  val := fun _ => ((He.valD fn, true, exV), true, lamD.map fun _ => some emptyT)
  says := fun _ h => ∃ K : PySem.W.Frag, SaysH K h
  of := fun _ _ e => ⟨_, He.frG_in, ⟨⟨congrArg (fun z : AlT => z.1.1) e, congrArg (fun z : AlT => z.1.2.1) e, congrArg (fun z : AlT => z.1.2.2) e⟩, congrArg (fun z : AlT => z.2.1) e⟩, tabs_ok (congrArg (fun z : AlT => z.2.2) e)⟩
  keeps := fun _ _ _ ⟨K, q⟩ k => ⟨K, PySem.W.Frag.In.keeps q.kin k, q.x, fun y hy => k _ _ (q.tabs y hy)⟩
theorem obsT_eq {g : Addr → Option Obj} {s : Shared} (h : ∀ a, g a = s.heap.get? a) : obsT g = hookT.obs s := by
  have e : g = s.heap.get? := funext h
  rw [e] <;> rfl
theorem SaysT.lam {K : PySem.W.Frag} (c : SaysT K) {y : Str} (h : y ∈ lamD) : lamB K y = true := List.all_eq_true.mp (He.ba c.b).1 y h
/-! ### the tables -/
theorem tt_memP {K : PySem.W.Frag} {p : Str × Scope} (h : p ∈ lamL) : (lamP K p.1, qOf p.1 p.2) ∈ TTb K := List.mem_map.mpr ⟨p, h, rfl⟩
theorem tt_uniqP {K : PySem.W.Frag} (c : tabB K = true) {p : Str × Scope} (h : p ∈ lamL) : ∀ r ∈ TTb K, r.1 = lamP K p.1 → r.2 = qOf p.1 p.2 := fun r hr e => by
  have q := List.all_eq_true.mp (List.all_eq_true.mp c p h) r hr
  rw [Bool.or_eq_true, Bool.not_eq_true'] at q
  rcases q with q | q
  · exact absurd e (of_decide_eq_false q)
  · exact of_decide_eq_true q
structure AllT (K : PySem.W.Frag) (mg : Str → Option Value) (base : Heap) : Prop where
  w : AllY K mg
  b : lamsB K = true
  tbs : ∀ y ∈ lamD, TabB base mg (lamC K y) (lamP K y)
theorem AllT.lamOf {K : PySem.W.Frag} {mg : Str → Option Value} {base : Heap} (W : AllT K mg base) {y : Str} (h : y ∈ lamD) : lamB K y = true := List.all_eq_true.mp (He.ba W.b).1 y h
theorem AllT.uq {K : PySem.W.Frag} {mg : Str → Option Value} {base : Heap} (W : AllT K mg base) {p : Str × Scope} (h : p ∈ lamL) : ∀ r ∈ TTb K, r.1 = lamP K p.1 → r.2 = qOf p.1 p.2 := tt_uniqP (He.ba W.b).2 h
end Rt
end
section
set_option Elab.async false
set_option linter.all false
set_option maxRecDepth 100000
set_option maxHeartbeats 4000000
/-! None asked of a dict of ints and texts -/
namespace Rt
open PySem PySem.Spec PyProof.Rows L2
def onIs : Option Key → Value → Bool
  | none, .none => true
  | none, _ => false
  | some x, v => keyIs x v
theorem onIs_none {v : Value} (h : onIs none v = true) : v = .none := by
  cases v <;> first | rfl | cases h
def onHash (w : World) : Option Key → Int
  | none => NestedKey.hash w .none
  | some x => keyH w x
def onKind (prog : Program) (w : World) : PySem.KeyKind prog w (Option Key) where
  is := onIs
  hash := onHash w
  inj := fun v a b ha hb => by
    cases a with
    | none =>
      cases onIs_none ha
      cases b with
      | none => rfl
      | some y => rcases keyIs_shape (show keyIs y .none = true from hb) with ⟨i, t, _, e⟩ | ⟨y, t, _, e⟩ <;> cases e
    | some x =>
      cases b with
      | none =>
        cases onIs_none hb
        rcases keyIs_shape (show keyIs x .none = true from ha) with ⟨i, t, _, e⟩ | ⟨y, t, _, e⟩ <;> cases e
      | some y => exact congrArg some ((mixKind prog w).inj v x y ha hb)
  byValue := fun k v h => by
    cases k with
    | none => cases onIs_none h; rfl
    | some x => exact (mixKind prog w).byValue x v h
  pyHash := fun {A E s k v Q} hv h => by
    cases k with
    | none =>
      cases onIs_none hv
      refine W.pyHash_slot (T := "NoneType") rfl F.slot_NoneType_hash F.entry_NoneType_hash (F.args_NoneType_hash_1 _)
        (by rfl) (.inl rfl) ?_
      refine wpAny_bind (wpAny_pure ?_)
      refine wpAny_bind (wpAny_mkInt ?_)
      exact wpAny_pure ⟨_, _, rfl, h⟩
    | some x => exact (mixKind prog w).pyHash (k := x) hv h
  eqBool := fun {A E s a b u v Q} hu hv h => by
    cases a with
    | none =>
      cases onIs_none hu
      cases b with
      | none =>
        cases onIs_none hv
        rw [decide_eq_true rfl] at h
        exact SeqAt.EqAt.same _ _ _ _ _ h
      | some y =>
        rw [decide_eq_false (by intro z; cases z)] at h
        rcases keyIs_shape (show keyIs y v = true from hv) with ⟨i, t, _, e⟩ | ⟨y, t, _, e⟩
        · subst e
          exact SeqAt.EqAt.none_int _ _ _ _ _ _ h
        · subst e
          exact SeqAt.EqAt.none_str _ _ _ _ _ _ h
    | some x =>
      cases b with
      | none =>
        cases onIs_none hv
        rw [decide_eq_false (by intro z; cases z)] at h
        rcases keyIs_shape (show keyIs x u = true from hu) with ⟨i, t, _, e⟩ | ⟨y, t, _, e⟩
        · subst e
          exact SeqAt.EqAt.int_none _ _ _ _ _ _ h
        · subst e
          exact SeqAt.EqAt.str_none _ _ _ _ _ _ h
      | some y =>
        have q : decide (some x = some y) = decide (x = y) := by simp
        rw [q] at h
        exact (mixKind prog w).eqBool (a := x) (b := y) hu hv h
  «strs» := fun k x t v h => by
    cases k with
    | none => cases onIs_none h
    | some y => exact (mixKind prog w).«strs» y x t v h
theorem map_on {prog : Program} {w : World} {h : Heap} {a : Addr} {f : Key → Option Value} (m : h.MapOf (mixKind prog w) a f) : h.MapOf (onKind prog w) a fun o => o.bind f := by
  obtain ⟨o, es, ep, h1, h2, h3, h4, h5⟩ := m
  refine ⟨o, es, ep, h1, h2, h3, fun e he => ?_, fun k => ?_⟩
  · obtain ⟨k, hk, hh⟩ := h4 e he
    exact ⟨some k, hk, hh⟩
  · cases k with
    | some k => exact h5 k
    | none =>
      show findBy (onKind prog w).is es none = none
      unfold findBy
      rw [Option.map_eq_none_iff]
      rw [Array.find?_eq_none]
      intro e he
      obtain ⟨k, hk, _⟩ := h4 e he
      rcases keyIs_shape (show keyIs k e.key = true from hk) with ⟨i, t, _, q⟩ | ⟨y, t, _, q⟩ <;> rw [q] <;> exact fun z => by cases z
section
variable {X : Cx} {i o : Expr} {ty td : TE}
/-- x not in d: x a key, or None -/
def tDNotInN (ty td : TE) : TE := fun σ H Q => ty σ H fun y H1 => td σ H1 fun x H2 => ∃ a kvs, x = .ref a ∧ H2 a = some (.dK kvs) ∧ ((∃ k : Key, y = kV k ∧ Q (.bl (!(valV kvs k).isSome)) H2) ∨ (y = .non ∧ Q (.bl true) H2))
theorem pc_dnotinN (hu : X.A.units + 1 < cLine) (hi : PE X i ty) (ho : PE X o td) : PC X .NotIn i o (tDNotInN ty td) := by
  refine ⟨fun pins s σ H Q I h => ?_⟩
  refine thn (hi.run pins s σ H _ I h) fun iv s1 ⟨y, H1, I1, ry, q1⟩ => thn (ho.run pins s1 σ H1 _ I1 q1) fun u s2 ⟨x, H2, I2, rx, a, kvs, ex, hd, q2⟩ => ?_
  subst ex
  obtain rfl : u = Value.ref a := rx
  rcases q2 with ⟨k, rfl, q⟩ | ⟨rfl, q⟩
  · exact d_notIn hu I2 (DGet.k (k := k) hd) ry fun s3 I3 => ⟨.bl (!(valV kvs k).isSome), H2, I3, rfl, q⟩
  · obtain rfl : iv = Value.none := ry
    obtain ⟨z, hm, vs, rel, dd⟩ := dk_rd I2.hok (.inl hd)
    refine wpAny_notIn_of (knd := onKind X.prog X.w) (k := none) rfl hm (map_on dd.mapOf) ?_
    exact ⟨.bl true, H2, I2.tok _, rfl, q⟩
end
end Rt
end
section
set_option Elab.async false
set_option linter.all false
set_option maxRecDepth 100000
set_option maxHeartbeats 8000000
/-! masks in the order of builds; what ways lead to -/
namespace Rt
open PySem PySem.Spec PyProof.Rows L2
open LamX (ExtN Tabs TabB TabS)
section
variable {X : Cx} {k : Nat} {x : Str} {ps : List Str} {e : Expr} {es : List Expr} {p pos : Pos} {t : TA}
/-- a def called where the context is that of a lambda -/
theorem pe_calK {P : Program} {w : World} {K : PySem.W.Frag} {mg : Str → Option Value} {base : Heap} {CX : CXT} {sp : Sp} {E : XK} (C : Cal P w K mg base CX k x ps sp) (same : X.prog = P ∧ X.w = w ∧ X.K = K ∧ X.mg = mg ∧ X.base = base) (hr : Room k X.A) (hg : Gl X x) (hx : Passes CX X E) (ha : PA X (e :: es) t)
    (hdb : (x == ("__debug__" : Str)) = false := by decide) (h1 : starEach (e :: es) X.env = (false, eval e X.env) :: starEach es X.env := by rfl)
    (h2 : (backTo pos (starEach es X.env)).any (·.1) = false := by rfl) : PE X (.Call (.Name x p) (e :: es) [] pos) (tCall sp [] E t) := by
  obtain ⟨rfl, rfl, rfl, rfl, rfl⟩ := same
  exact pe_cal C hr hg hx ha hdb h1 h2
end
def NewT (H : Hp) (L : Addr) : Prop := ∀ o, H L = some o → ∃ ps, o = .tbl ps
def mI (B : Bk) (b : List Str) : Int := ((maskB B b : Nat) : Int)
theorem bor_take' {B : Bk} {b : List Str} (h : Bd B b) {z : Str} (hz : z ∈ B.ns) (n : inB b z = false) : Builtin.bitOr (mI B b) (bI B.ns z) = mI B (addN B b z) := by
  show Builtin.bitOr ((maskB B b : Nat) : Int) ((bitN B.ns z : Nat) : Int) = ((maskB B (addN B b z) : Nat) : Int)
  rw [bitOr_and, band, and_no h hz n, ← add_mask h n]
  omega
theorem bxor_give' {B : Bk} {b : List Str} (h : Bd B b) {z : Str} (hz : z ∈ B.ns) (n : inB b z = true) : Builtin.bitXor (mI B b) (bI B.ns z) = mI B (delN B b z) := by
  show Builtin.bitXor ((maskB B b : Nat) : Int) ((bitN B.ns z : Nat) : Int) = ((maskB B (delN B b z) : Nat) : Int)
  rw [bitXor_and, band, and_yes h hz n]
  have := del_mask h n
  omega
def spSortM (K : PySem.W.Frag) : Sp := fun vs H Q _ => ∃ (a : Addr) (ns : List Int), vs = [.ref a] ∧ SqL K H a (ns.map V.int) ∧ Tabs (TTb K) H ∧ (∀ n ∈ ns, ∃ m : Nat, n = (m : Int) ∧ m < 4096) ∧
  ∀ (ns' : List Int) (L : Addr) (H' : Hp), ns'.Perm ns → Kord kfM ns' → NewT H L → ExtT (TTb K) H H' → H' L = some (.lst (ns'.map V.int)) → Q (.ref L) H'
def spBeside (K : PySem.W.Frag) : Sp := fun vs H Q _ => ∃ (r : Addr) (B : Bk) (u : RuA) (b : List Str), vs = [.ref r, .int (mI B b)] ∧ RulesAt K H r B u ∧ Bd B b ∧ ∀ (l : Addr) (H' : Hp), Same H H' → H l = none → H' l = some (.lst ((besideB B b).map fun c => .int (mI B c))) → Q (.ref l) H'
/-- stop: nothing, or the empty build -/
def spComeTo (K : PySem.W.Frag) : Sp := fun vs H Q _ => ∃ (r : Addr) (B : Bk) (u : RuA) (s : List Str) (st : V), vs = [.ref r, .int (mI B s), st] ∧ (st = .non ∨ st = .int 0) ∧ RulesAt K H r B u ∧ Bd B s ∧ holdsB B s = true ∧
  ∀ (l : Addr) (H' : Hp) (bs : List (List Str)), Same H H' → H l = none → H' l = some (.lst (bs.map fun c => .int (mI B c))) → bs.Nodup → (∀ b ∈ bs, Bd B b) → (st = .non → ∀ b, b ∈ bs ↔ Come B s b) → (st = .int 0 → ([] ∈ bs ↔ Come B s [])) → Q (.ref l) H'
def heldK (B : Bk) (hs : List (List Str)) : List (Key × V) := hs.map fun b => (.inl (mI B b), .bl (holdsB B b))
theorem held_val {B : Bk} {c : List Str} (hc : Bd B c) : ∀ {hs : List (List Str)}, (∀ b ∈ hs, Bd B b) → valV (heldK B hs) (.inl (mI B c)) = if c ∈ hs then some (.bl (holdsB B c)) else none
  | [], _ => rfl
  | b :: hs, h => by
    by_cases e : b = c
    · subst e
      rw [if_pos List.mem_cons_self]
      exact valV_pos rfl
    · have ne : (Sum.inl (mI B b) : Key) ≠ .inl (mI B c) := fun z => e (mask_inj (h b List.mem_cons_self) hc (by
        have z := Sum.inl.inj z
        unfold mI at z
        omega))
      show valV ((Sum.inl (mI B b), V.bl (holdsB B b)) :: heldK B hs) (.inl (mI B c)) = _
      rw [valV_neg ne, held_val hc fun b hb => h b (List.mem_cons_of_mem _ hb)]
      by_cases m : c ∈ hs
      · rw [if_pos m, if_pos (List.mem_cons_of_mem _ m)]
      · rw [if_neg m, if_neg fun z => (List.mem_cons.mp z).elim (fun z => e z.symm) m]
theorem held_app {B : Bk} {hs : List (List Str)} {c : List Str} : heldK B (hs ++ [c]) = heldK B hs ++ [(.inl (mI B c), .bl (holdsB B c))] := by
  unfold heldK
  rw [List.map_append]
  rfl
theorem come_list {B : Bk} {s : List Str} {hs : List (List Str)} (c : Srch B s hs []) (g : holdsB B s = true) (b : List Str) : b ∈ hs.filter (holdsB B) ↔ Come B s b := c.all g b
theorem lock_same {H H' : Hp} {d : Addr} {u o : HO} (hd : H d = some u) (s : Same (upd H d o) H') : Same H (upd H' d u) := fun b v hb => by
  by_cases e : b = d
  · subst e
    rw [hd] at hb
    rw [upd_same]
    exact hb
  · rw [upd_ne e]
    exact s _ _ (by rw [upd_ne e]; exact hb)
theorem mI_inj {B : Bk} {b c : List Str} (hb : Bd B b) (hc : Bd B c) (e : mI B b = mI B c) : b = c := mask_inj hb hc (by unfold mI at e; omega)
theorem held_new {B : Bk} {hs : List (List Str)} {c : List Str} (hc : Bd B c) (bd : ∀ b ∈ hs, Bd B b) (m : c ∉ hs) : (Sum.inl (mI B c) : Key) ∉ (heldK B hs).map (·.1) := fun z => by
  unfold heldK at z
  rw [List.map_map] at z
  obtain ⟨b, hb, e⟩ := List.mem_map.mp z
  have e : (Sum.inl (mI B b) : Key) = .inl (mI B c) := e
  exact m (mI_inj (bd b hb) hc (Sum.inl.inj e) ▸ hb)
theorem stop_or {B : Bk} {hs : List (List Str)} {st : V} {T N : Prop} (ok : BkR B) (bd : ∀ b ∈ hs, Bd B b) (hst : st = .non ∨ st = .int 0) (h1 : (st = .int 0 ∧ ([] : List Str) ∈ hs) → N) (h2 : T) :
    (∃ k : Key, st = kV k ∧ ∃ b : Bool, V.bl (!(valV (heldK B hs) k).isSome) = .bl b ∧ if b = true then T else N) ∨ (st = .non ∧ ∃ b : Bool, V.bl true = .bl b ∧ if b = true then T else N) := by
  rcases hst with rfl | rfl
  · exact .inr ⟨rfl, _, rfl, ifT rfl h2⟩
  · refine .inl ⟨.inl 0, rfl, _, rfl, ?_⟩
    have e0 : mI B [] = 0 := by
      unfold mI
      rw [(mask_zero (b := []) ⟨ok, List.nil_sublist _⟩).mpr rfl]
      rfl
    have hv := held_val (B := B) (c := []) ⟨ok, List.nil_sublist _⟩ bd
    rw [e0] at hv
    rw [hv]
    by_cases m : ([] : List Str) ∈ hs
    · rw [if_pos m]
      exact ifF rfl (h1 ⟨rfl, m⟩)
    · rw [if_neg m]
      exact ifT rfl h2
theorem cut_nx {c : TT} {σ : L2.St} {G : Hp} {T N : Hp → Prop} {en : Prop} (h1 : en → N G) (h2 : (en → N G) → c σ G fun b H1 => if b = true then T H1 else N H1) : c σ G fun b H1 => if b = true then T H1 else N H1 := h2 h1
theorem map_get' {α β : Type} {f : α → β} {l : List α} {i : Nat} {y : β} (h : (l.map f)[i]? = some y) : ∃ x, l[i]? = some x ∧ y = f x := map_get h
section
variable {P : Program} {w : World} {K : PySem.W.Frag} {mg : Str → Option Value} {base : Heap}
end
end Rt
end
section
set_option Elab.async false
set_option linter.all false
set_option maxRecDepth 100000
set_option maxHeartbeats 8000000
/-! builds of masks in order; what can be come to -/
namespace Rt
open PySem PySem.Spec PyProof.Rows L2
open LamX (ExtN Tabs TabB TabS)
theorem xtk {H H' : Hp} (e : ExtN H H') {a : Addr} {xs : List V} (h : H a = some (.tup xs)) : H' a = some (.tup xs) := e _ _ h fun _ z => by cases z
theorem xdk {H H' : Hp} (e : ExtN H H') {a : Addr} {kvs : List (Key × V)} (h : H a = some (.dK kvs)) : H' a = some (.dK kvs) := e _ _ h fun _ z => by cases z
theorem xls {H H' : Hp} (e : ExtN H H') {a : Addr} {xs : List V} (h : H a = some (.lst xs)) : H' a = some (.lst xs) := e _ _ h fun _ z => by cases z
theorem xis {H H' : Hp} (e : ExtN H H') {a C dx : Addr} {fs : List (Str × V)} (h : H a = some (.ins C dx fs)) : H' a = some (.ins C dx fs) := e _ _ h fun _ z => by cases z
theorem xtks {H H' : Hp} (e : ExtN H H') : Tk H H' := fun a xs h => xtk e h
theorem BookAt.xn {K : PySem.W.Frag} {H H' : Hp} {x : Addr} {B : Bk} {a : BoA} (h : BookAt K H x B a) (e : ExtN H H') : BookAt K H' x B a := by
  have t := xtks e
  have f : Tf H H' := fun b o xs hb => e _ _ hb fun _ z => by cases z
  exact ⟨xis e h.at_, xdk e h.parts, h.h1.tk f, h.h3.tk f, h.h4.tk f, h.h5.tk f, h.h6.tk f, h.h7.tk f, h.r1.tk t, h.r3.tk t, h.r4.tk t, h.r5.tk t, h.r6.tk t, h.r7.tk t, t _ _ h.names, xdk e h.tiers, xdk e h.needs, xdk e h.given, xdk e h.price⟩
theorem RulesAt.xn {K : PySem.W.Frag} {H H' : Hp} {r : Addr} {B : Bk} {u : RuA} (h : RulesAt K H r B u) (e : ExtN H H') : RulesAt K H' r B u :=
  ⟨xis e h.at_, h.book.xn e, xdk e h.bit, let ⟨xs, e1, p⟩ := h.asks; ⟨xs, xls e e1, paired_mono (fun x w q => ask_mono _ _ _ _ (xtks e) q) p⟩, xls e h.bars, let ⟨ys, e1, p⟩ := h.gives; ⟨ys, xls e e1, paired_mono (fun x w q => gv_mono _ _ _ _ _ (xtks e) q) p⟩, xtk e h.bits, xdk e h.byBit, let ⟨xs, e1, p⟩ := h.wants; ⟨xs, xls e e1, paired_mono (fun x w q => ask_mono _ _ _ _ (xtks e) q) p⟩⟩
theorem NewT.back {H H1 : Hp} {L : Addr} (e : ExtN H H1) (n : NewT H1 L) : NewT H L := fun o h => by
  cases o with
  | tbl ps => exact ⟨ps, rfl⟩
  | _ => exact n _ (e _ _ h fun _ z => by cases z)
theorem NewT.ne {H : Hp} {L a : Addr} {o : HO} (n : NewT H L) (h : H a = some o) (t : ∀ ps, o ≠ .tbl ps) : a ≠ L := fun z => by
  rw [z] at h
  obtain ⟨ps, e⟩ := n _ h
  exact t ps e
theorem NewT.of {H : Hp} {L : Addr} (n : H L = none) : NewT H L := fun o h => by
  rw [n] at h
  cases h
noncomputable def comeB (B : Bk) (s b : List Str) : Bool := @decide (Come B s b) (Classical.propDecidable _)
theorem comeB_iff {B : Bk} {s b : List Str} : comeB B s b = true ↔ Come B s b := @decide_eq_true_iff (Come B s b) (Classical.propDecidable _)
def spBuildsOf (K : PySem.W.Frag) : Sp := fun vs H Q _ => ∃ (r a : Addr) (B : Bk) (u : RuA) (bs : List (List Str)) (f : List Str → Bool), vs = [.ref r, .ref a] ∧ RulesAt K H r B u ∧ BkR B ∧ SqL K H a (bs.map fun c => .int (mI B c)) ∧ bs.Nodup ∧ (∀ b ∈ bs, Bd B b) ∧ (∀ b, Bd B b → (b ∈ bs ↔ f b = true)) ∧ Tabs (TTb K) H ∧
  ∀ (l : Addr) (H' : Hp) (xs : List V), ExtT (TTb K) H H' → NewT H l → H' l = some (.lst xs) → Paired (BT H') xs ((subsB B.ns).filter f) → Q (.ref l) H'
def spReached (K : PySem.W.Frag) : Sp := fun vs H Q _ => ∃ (x : Addr) (B : Bk) (a : BoA), vs = [.ref x] ∧ BookAt K H x B a ∧ BkR B ∧ Tabs (TTb K) H ∧
  ∀ (l : Addr) (H' : Hp) (xs : List V), ExtT (TTb K) H H' → NewT H l → H' l = some (.lst xs) → Paired (BT H') xs ((subsB B.ns).filter (comeB B [])) → Q (.ref l) H'
def spIsCome (K : PySem.W.Frag) : Sp := fun vs H Q _ => ∃ (r : Addr) (B : Bk) (u : RuA) (b : List Str), vs = [.ref r, .int (mI B b)] ∧ RulesAt K H r B u ∧ Bd B b ∧ ∀ H', Same H H' → Q (.bl (comeB B [] b)) H'
theorem inV_ints (i : Int) : ∀ ns : List Int, inV (.int i) (ns.map V.int) = decide (i ∈ ns)
  | [] => rfl
  | n :: ns => by
    have ih := inV_ints i ns
    show (eqV (.int n) (.int i) || inV (.int i) (ns.map V.int)) = decide (i ∈ n :: ns)
    rw [ih]
    show (decide (n = i) || decide (i ∈ ns)) = _
    by_cases e : n = i
    · subst e
      rw [decide_eq_true rfl]
      exact (decide_eq_true List.mem_cons_self).symm
    · rw [decide_eq_false e, Bool.false_or, decide_eq_decide]
      exact ⟨List.mem_cons_of_mem _, fun h => (List.mem_cons.mp h).resolve_left fun z => e z.symm⟩
theorem flat_ints (ns : List Int) : (ns.map V.int).all flatV = true := by
  rw [List.all_eq_true]
  intro x hx
  obtain ⟨n, _, rfl⟩ := List.mem_map.mp hx
  rfl
theorem subs_len {B : Bk} (ok : BkR B) : (subsB B.ns).length ≤ 4096 := by
  unfold subsB
  rw [List.length_map]
  exact Nat.le_trans (found_len B.ns B.ns.length) (ns_bound ok)
section
variable {P : Program} {w : World} {K : PySem.W.Frag} {mg : Str → Option Value} {base : Heap}
end
end Rt
end
section
set_option Elab.async false
set_option linter.all false
set_option maxRecDepth 100000
set_option maxHeartbeats 4000000
/-! mathematics: what takes alone lead to -/
namespace Rt
open PySem PySem.Spec PyProof.Rows L2
/-- zs: skills that are taken one behind the other, from b to g -/
def takesL (B : Bk) : List Str → List Str → List Str → Prop
  | b, [], g => b = g
  | b, z :: zs, g => z ∈ B.ns ∧ inB b z = false ∧ holdsB B (addN B b z) = true ∧ takesL B (addN B b z) zs g
/-- the least of the orders, by the places -/
def leastO (B : Bk) (g : List Str) : List Str → List Str → Prop
  | b, [] => b = g
  | b, z :: zs => b ≠ g ∧ inB b z = false ∧ holdsB B (addN B b z) = true ∧ (∃ i, B.ns[i]? = some z ∧ ∀ y ∈ B.ns.take i, ¬ ∃ ys, takesL B b (y :: ys) g) ∧ leastO B g (addN B b z) zs
def GrownB (B : Bk) (g : List Str) : Prop := ∃ zs, takesL B [] zs g
inductive Grow (B : Bk) : List Str → Prop
  | nil : Grow B []
  | step {b : List Str} {z : Str} (h : Grow B b) (hz : z ∈ B.ns) (n : inB b z = false) (g : holdsB B (addN B b z) = true) : Grow B (addN B b z)
section
variable {B : Bk} {b c g : List Str} {z : Str} {zs : List Str}
theorem least_takes : ∀ {zs b : List Str}, leastO B g b zs → takesL B b zs g
  | [], _, h => h
  | z :: zs, b, ⟨_, n, hh, ⟨i, hi, _⟩, t⟩ => ⟨List.mem_of_getElem? hi, n, hh, least_takes t⟩
theorem takes_app : ∀ {zs ys b c g : List Str}, takesL B b zs c → takesL B c ys g → takesL B b (zs ++ ys) g
  | [], ys, b, c, g, h, k => by
    have h : b = c := h
    subst h
    exact k
  | z :: zs, ys, b, c, g, ⟨h1, h2, h3, h4⟩, k => ⟨h1, h2, h3, takes_app h4 k⟩
theorem takes_sub : ∀ {zs b g : List Str}, takesL B b zs g → ∀ y ∈ B.ns, inB b y = true → inB g y = true
  | [], b, g, h, y, _, hy => by
    have h : b = g := h
    rw [← h]
    exact hy
  | z :: zs, b, g, ⟨_, _, _, t⟩, y, hn, hy => takes_sub t y hn (by
    unfold addN
    rw [inB_filter _ hn, hy]
    rfl)
theorem takes_in (bd : Bd B b) (h : takesL B b (z :: zs) g) : inB g z = true := takes_sub h.2.2.2 z h.1 (add_mem bd h.1)
theorem grown_iff : GrownB B g ↔ Grow B g := by
  constructor
  · rintro ⟨zs, h⟩
    have go : ∀ {zs b : List Str}, Grow B b → takesL B b zs g → Grow B g := by
      intro zs
      induction zs with
      | nil =>
        intro b hb h
        have h : b = g := h
        exact h ▸ hb
      | cons z zs ih =>
        intro b hb h
        exact ih (.step hb h.1 h.2.1 h.2.2.1) h.2.2.2
    exact go .nil h
  · intro h
    induction h with
    | nil => exact ⟨[], rfl⟩
    | @step b z h hz n g ih =>
      obtain ⟨zs, t⟩ := ih
      exact ⟨zs ++ [z], takes_app t ⟨hz, n, g, rfl⟩⟩
theorem Grow.holds (ok : BkR B) (h : Grow B g) : holdsB B g = true := by
  cases h with
  | nil => exact holds_nil ok
  | step _ _ _ g => exact g
theorem Grow.bd (ok : BkR B) (h : Grow B g) : Bd B g := by
  cases h with
  | nil => exact ⟨ok, List.nil_sublist _⟩
  | step _ _ _ _ => exact bd_filter ok _
theorem Grow.come (ok : BkR B) (h : Grow B g) : Come B [] g := by
  induction h with
  | nil => exact .refl
  | @step b z h hz n g ih => exact .step ih (List.mem_append_left _ (more_mem.mpr ⟨z, hz, n, rfl⟩)) g
/-- a grown build that is not empty has a skill that was taken last -/
theorem grow_last (ok : BkR B) (bd : Bd B b) (hb : holdsB B b = true) (ne : b ≠ []) : Grow B b ↔ ∃ z ∈ B.ns, inB b z = true ∧ Grow B (delN B b z) := by
  constructor
  · intro h
    cases h with
    | nil => exact absurd rfl ne
    | @step c z h hz n g => exact ⟨z, hz, add_mem (h.bd ok) hz, by rw [del_add (h.bd ok) n]; exact h⟩
  · rintro ⟨z, hz, i, h⟩
    have e := add_del bd i
    have : Grow B (addN B (delN B b z) z) := .step h hz (del_mem bd hz) (by rw [e]; exact hb)
    rw [e] at this
    exact this
theorem add_len (bd : Bd B b) (hz : z ∈ B.ns) (n : inB b z = false) : (addN B b z).length = b.length + 1 := by
  have h1 := size_one (bd_filter (B := B) bd.r fun y => inB b y || decide (y = z))
  have h2 := size_one bd
  have e : ((addN B b z).filter fun y => !decide (y = z)) = b := by
    have := del_add bd n
    unfold delN at this
    unfold addN at this ⊢
    rw [List.filter_filter]
    refine Eq.trans (List.filter_congr fun y hy => ?_) this
    rw [inB_filter _ hy, Bool.and_comm]
  have nd : (addN B b z).Nodup := bd.r.nd'.filter _
  have hm : z ∈ addN B b z := of_decide_eq_true (add_mem bd hz)
  have key : ∀ {l : List Str}, l.Nodup → z ∈ l → l.length = (l.filter fun y => !decide (y = z)).length + 1 := by
    intro l
    induction l with
    | nil => intro _ h; cases h
    | cons y l ih =>
      intro nd h
      obtain ⟨n1, n2⟩ := List.nodup_cons.mp nd
      by_cases e : y = z
      · subst e
        rw [List.filter_cons, decide_eq_true rfl]
        have : (l.filter fun x => !decide (x = y)) = l := List.filter_eq_self.mpr fun x hx => by
          have : x ≠ y := fun q => n1 (q ▸ hx)
          rw [decide_eq_false this]
          rfl
        rw [if_neg (by decide), this]
        rfl
      · rw [List.filter_cons, decide_eq_false e, if_pos (show (!false) = true from rfl), List.length_cons, List.length_cons]
        have := ih n2 ((List.mem_cons.mp h).resolve_left fun q => e q.symm)
        omega
  rw [key nd hm, e]
theorem sub_eq (hb : Bd B b) (hg : Bd B g) (s : ∀ y ∈ B.ns, inB b y = true → inB g y = true) : b.length ≤ g.length ∧ (b.length = g.length → b = g) := by
  have e : b = g.filter (inB b) := by
    rw [← self_filter hg, List.filter_filter]
    refine (self_filter hb).symm.trans (List.filter_congr fun y hy => ?_)
    cases q : inB b y with
    | true => rw [s y hy q]; rfl
    | false => rfl
  have sl : b.Sublist g := by
    rw [e]
    exact List.filter_sublist
  exact ⟨sl.length_le, fun h => sl.eq_of_length h⟩
theorem takes_len (ok : BkR B) : ∀ {zs b g : List Str}, Bd B b → takesL B b zs g → b.length + zs.length = g.length
  | [], b, g, _, h => by
    have h : b = g := h
    rw [h]
    rfl
  | z :: zs, b, g, bd, ⟨h1, h2, _, h4⟩ => by
    have := takes_len ok (bd_filter ok _) h4
    have l := add_len bd h1 h2
    rw [List.length_cons]
    unfold addN at l this
    omega
theorem Grow.len (ok : BkR B) (h : Bd B g) : g.length ≤ 12 := Nat.le_trans h.sub.length_le ok.l12
end
/-! ### each mask is a build's -/
theorem mask_surj : ∀ {l : List Str} {m : Nat}, l.Nodup → m < 2 ^ l.length → ∃ f, maskF l f = m
  | [], m, _, h => ⟨fun _ => false, by simp at h; rw [h]; rfl⟩
  | y :: l, m, nd, h => by
    obtain ⟨n1, n2⟩ := List.nodup_cons.mp nd
    rw [List.length_cons, Nat.pow_succ] at h
    by_cases hm : m < 2 ^ l.length
    · obtain ⟨f, e⟩ := mask_surj n2 hm
      refine ⟨fun z => if z = y then false else f z, ?_⟩
      show (if (if y = y then false else f y) = true then 2 ^ l.length else 0) + maskF l (fun z => if z = y then false else f z) = m
      rw [if_pos rfl, if_neg (by decide), Nat.zero_add, ← e]
      exact maskF_congr fun z hz => if_neg fun (q : z = y) => n1 (q ▸ hz)
    · obtain ⟨f, e⟩ := mask_surj (m := m - 2 ^ l.length) n2 (by omega)
      refine ⟨fun z => if z = y then true else f z, ?_⟩
      show (if (if y = y then true else f y) = true then 2 ^ l.length else 0) + maskF l (fun z => if z = y then true else f z) = m
      rw [if_pos rfl, if_pos rfl]
      have : maskF l (fun z => if z = y then true else f z) = m - 2 ^ l.length := by
        rw [← e]
        exact maskF_congr fun z hz => if_neg fun (q : z = y) => n1 (q ▸ hz)
      rw [this]
      omega
theorem build_of {B : Bk} (ok : BkR B) {m : Nat} (h : m < 2 ^ B.ns.length) : ∃ b, Bd B b ∧ maskB B b = m := by
  obtain ⟨f, e⟩ := mask_surj ok.nd' h
  exact ⟨B.ns.filter f, bd_filter ok f, by rw [mask_filt]; exact e⟩
/-- the masks whose builds hold, ascending -/
def goodsB (B : Bk) : List Nat := (List.range (2 ^ B.ns.length)).filter (goodB B)
theorem goods_sorted (B : Bk) : (goodsB B).Pairwise (· < ·) := List.Pairwise.filter _ List.pairwise_lt_range
theorem goods_take {B : Bk} {i m k : Nat} (h : (goodsB B)[i]? = some m) (hk : k ∈ goodsB B) (l : k < m) : k ∈ (goodsB B).take i := by
  obtain ⟨j, hj⟩ := List.getElem?_of_mem hk
  have hji : j < i := by
    rcases Nat.lt_or_ge j i with z | z
    · exact z
    · exfalso
      have p := goods_sorted B
      obtain ⟨h1, e1⟩ := List.getElem?_eq_some_iff.mp h
      obtain ⟨h2, e2⟩ := List.getElem?_eq_some_iff.mp hj
      rcases Nat.lt_or_ge i j with y | y
      · have := List.pairwise_iff_getElem.mp p i j h1 h2 y
        omega
      · have : i = j := by omega
        subst this
        omega
  refine List.mem_of_getElem? (i := j) ?_
  rw [List.getElem?_take, if_pos hji]
  exact hj
theorem goods_mem {B : Bk} {b : List Str} (bd : Bd B b) : maskB B b ∈ goodsB B ↔ holdsB B b = true := by
  unfold goodsB
  rw [List.mem_filter, List.mem_range, good_holds bd]
  exact ⟨fun h => h.2, fun h => ⟨maskF_lt _ _, h⟩⟩
theorem goods_build {B : Bk} (ok : BkR B) {m : Nat} (h : m ∈ goodsB B) : ∃ b, Bd B b ∧ maskB B b = m ∧ holdsB B b = true := by
  have := List.mem_filter.mp h
  obtain ⟨b, bd, e⟩ := build_of ok (List.mem_range.mp this.1)
  exact ⟨b, bd, e, (goods_mem bd).mp (by rw [e]; exact h)⟩
theorem del_less {B : Bk} {b : List Str} {z : Str} (bd : Bd B b) (hz : z ∈ B.ns) (i : inB b z = true) : maskB B (delN B b z) < maskB B b := by
  have := del_mask bd i
  have := bit_pos' bd.r hz
  omega
/-- what is grown, so far -/
def GrownAt (B : Bk) (i : Nat) (gs : List (List Str)) : Prop := gs.Nodup ∧ (∀ b ∈ gs, Bd B b) ∧ ∀ b, Bd B b → (b ∈ gs ↔ b = [] ∨ (Grow B b ∧ maskB B b ∈ (goodsB B).take i))
theorem GrownAt.start {B : Bk} (ok : BkR B) : GrownAt B 0 [[]] := ⟨List.nodup_cons.mpr ⟨by simp, List.nodup_nil⟩, fun b hb => by rw [List.mem_singleton.mp hb]; exact ⟨ok, List.nil_sublist _⟩, fun b _ => by simp⟩
theorem GrownAt.yes {B : Bk} {i : Nat} {gs : List (List Str)} {b : List Str} (h : GrownAt B i gs) (bd : Bd B b) (hm : (goodsB B)[i]? = some (maskB B b)) (ne : b ≠ []) (g : Grow B b) : b ∉ gs ∧ GrownAt B (i + 1) (gs ++ [b]) := by
  obtain ⟨h1, h2, h3⟩ := h
  have nb : b ∉ gs := fun z => by
    rcases (h3 b bd).mp z with e | ⟨_, e⟩
    · exact ne e
    · have nd : (goodsB B).Nodup := (goods_sorted B).imp fun {a b} l => Nat.ne_of_lt l
      obtain ⟨j, hj⟩ := List.getElem?_of_mem e
      rw [List.getElem?_take] at hj
      split at hj
      · rename_i lt
        have := (List.getElem?_inj (List.getElem?_eq_some_iff.mp hj).1 nd).mp (hj.trans hm.symm)
        omega
      · cases hj
  refine ⟨nb, ?_, fun c hc => ?_, fun c hc => ?_⟩
  · rw [List.nodup_append]
    exact ⟨h1, List.nodup_cons.mpr ⟨by simp, List.nodup_nil⟩, fun a ha d hd e => nb (by rw [← List.mem_singleton.mp hd, ← e]; exact ha)⟩
  · rcases List.mem_append.mp hc with z | z
    · exact h2 c z
    · rw [List.mem_singleton.mp z]
      exact bd
  · rw [List.mem_append, h3 c hc, take_one hm, List.mem_append, List.mem_singleton, List.mem_singleton]
    constructor
    · rintro ((z | ⟨z1, z2⟩) | z)
      · exact .inl z
      · exact .inr ⟨z1, .inl z2⟩
      · subst z
        exact .inr ⟨g, .inr rfl⟩
    · rintro (z | ⟨z1, z2 | z2⟩)
      · exact .inl (.inl z)
      · exact .inl (.inr ⟨z1, z2⟩)
      · exact .inr (mask_inj hc bd z2)
theorem GrownAt.no {B : Bk} {i : Nat} {gs : List (List Str)} {b : List Str} (h : GrownAt B i gs) (bd : Bd B b) (hm : (goodsB B)[i]? = some (maskB B b)) (g : b = [] ∨ ¬ Grow B b) : GrownAt B (i + 1) gs := by
  obtain ⟨h1, h2, h3⟩ := h
  refine ⟨h1, h2, fun c hc => ?_⟩
  rw [h3 c hc, take_one hm, List.mem_append, List.mem_singleton]
  constructor
  · rintro (z | ⟨z1, z2⟩)
    · exact .inl z
    · exact .inr ⟨z1, .inl z2⟩
  · rintro (z | ⟨z1, z2 | z2⟩)
    · exact .inl z
    · exact .inr ⟨z1, z2⟩
    · have := mask_inj hc bd z2
      subst this
      rcases g with g | g
      · exact .inl g
      · exact absurd z1 g
/-- what the turn asks -/
theorem GrownAt.asks {B : Bk} {i : Nat} {gs : List (List Str)} {b : List Str} (h : GrownAt B i gs) (ok : BkR B) (bd : Bd B b) (hb : holdsB B b = true) (hm : (goodsB B)[i]? = some (maskB B b)) : (∃ z ∈ B.ns, inB b z = true ∧ delN B b z ∈ gs) ↔ (b ≠ [] ∧ Grow B b) := by
  obtain ⟨h1, h2, h3⟩ := h
  constructor
  · rintro ⟨z, hz, i, m⟩
    have ne : b ≠ [] := fun e => by
      rw [e] at i
      cases (show inB [] z = false by unfold inB; simp).symm.trans i
    refine ⟨ne, (grow_last ok bd hb ne).mpr ⟨z, hz, i, ?_⟩⟩
    rcases (h3 _ (bd_filter ok _)).mp m with e | ⟨e, _⟩
    · have e : delN B b z = [] := e
      rw [e]
      exact .nil
    · exact e
  · rintro ⟨ne, g⟩
    obtain ⟨z, hz, i, gd⟩ := (grow_last ok bd hb ne).mp g
    refine ⟨z, hz, i, (h3 _ (bd_filter ok _)).mpr (.inr ⟨gd, goods_take hm ((goods_mem (bd_filter ok _)).mpr (gd.holds ok)) (del_less bd hz i)⟩)⟩
theorem GrownAt.done {B : Bk} {gs : List (List Str)} (h : GrownAt B (goodsB B).length gs) (ok : BkR B) {b : List Str} (bd : Bd B b) : b ∈ gs ↔ Grow B b := by
  obtain ⟨h1, h2, h3⟩ := h
  rw [h3 b bd, List.take_length]
  constructor
  · rintro (z | ⟨z, _⟩)
    · rw [z]
      exact .nil
    · exact z
  · intro g
    exact .inr ⟨g, (goods_mem bd).mpr (g.holds ok)⟩
end Rt
end
section
set_option Elab.async false
set_option linter.all false
set_option maxRecDepth 100000
set_option maxHeartbeats 4000000
/-! any of a list of ints and truths -/
namespace Rt
open PySem PySem.Spec PyProof.Rows L2
def TruB (x : V) (b : Bool) : Prop := x = .bl b ∨ ∃ i : Int, x = .int i ∧ b = (i != 0)
theorem truB_vals : ∀ {xs : List V} {bs : List Bool} {its : List Value}, Paired TruB xs bs → Vals xs its → ∀ (i : Nat) (v : Value), its[i]? = some v → ∃ b, bs[i]? = some b ∧ (v = .bool b ∨ ∃ (n : Int) (t : Tok), v = .int n t ∧ b = (n != 0))
  | [], [], [], _, _, i, v, h => by simp at h
  | x :: xs, b :: bs, it :: its, .cons r t, h, 0, v, e => by
    cases h with
    | cons rv _ =>
      cases e
      refine ⟨b, rfl, ?_⟩
      rcases r with rfl | ⟨n, rfl, e⟩
      · exact .inl rv
      · obtain ⟨t, e2⟩ := rv
        exact .inr ⟨n, t, e2, e⟩
  | x :: xs, b :: bs, it :: its, .cons r t, h, i + 1, v, e => by
    cases h with
    | cons _ h => exact truB_vals t h i v e
def rAnyT (K : PySem.W.Frag) : List V → Hp → VK → Prop := fun vs H Q => ∃ (a : Addr) (xs : List V) (bs : List Bool), vs = [V.ref a] ∧ SqL K H a xs ∧ Paired TruB xs bs ∧ Q (.bl (bs.any id)) H
theorem cr_anyT {X : Cx} (hc : X.calm = true) : CallR X (.builtin "any") (rAnyT X.K) := by
  intro pins s σ H vs us Q I r h
  obtain ⟨a, xs, bs, rfl, hs, pt, q⟩ := h
  obtain ⟨its, rv, hl, _⟩ := I.list hs
  rw [Vals.ref1 r]
  have tv := truB_vals pt rv
  have hlen : its.length = bs.length := by rw [← rv.length, Paired.length pt]
  refine call_any_walk (iter_any hl.isList fun s₂ e2 st hne => ?_)
  subst e2
  refine ⟨_, _, _, _, _, _, fun i => bs.getD i false, rfl, Walks.list (A := X.A.in1) (I.ok.hd hc) _ a hne its.toArray, st, fun i v s Q E hv hq => ?_, fun h' tk hk => ?_⟩
  · have hv' : its[i]? = some v := by simpa using hv
    obtain ⟨b, hb, c⟩ := tv i v hv'
    have hg : bs.getD i false = b := by rw [List.getD_eq_getElem?_getD, hb] <;> rfl
    have hq' : Q (bs.getD i false) s := hq
    rw [hg] at hq'
    rcases c with rfl | ⟨n, t, rfl, e⟩
    · exact wpAny_truthy_bool hq'
    · rw [e] at hq'
      exact PySem.P.truthy_int hq'
  · refine ⟨.bl _, H, I.kept fun b o eo => hk b o (fun hmem => ?_) (Heap.get?_push_of_some _ eo), ?_, q⟩
    · rcases List.mem_cons.mp hmem with e1 | hmem
      · exact absurd (e1 ▸ Heap.lt_size eo) (Nat.lt_irrefl _)
      · cases hmem
    · show Value.bool _ = Value.bool _
      rw [← L2.any_range, List.size_toArray, hlen]
end Rt
end
section
set_option Elab.async false
set_option linter.all false
set_option maxRecDepth 100000
set_option maxHeartbeats 8000000
/-! all masks that hold; those that takes alone lead to; knots -/
namespace Rt
open PySem PySem.Spec PyProof.Rows L2
open LamX (ExtN Tabs TabB TabS)
def spGoods (K : PySem.W.Frag) : Sp := fun vs H Q _ => ∃ (r : Addr) (B : Bk) (u : RuA), vs = [.ref r] ∧ RulesAt K H r B u ∧ BkR B ∧ ∀ (l : Addr) (H' : Hp), Same H H' → H l = none → H' l = some (.lst ((goodsB B).map fun m => .int ((m : Nat) : Int))) → Q (.ref l) H'
def trueK (B : Bk) (gs : List (List Str)) : List (Key × V) := gs.map fun b => (.inl (mI B b), .bl true)
def spGrownM (K : PySem.W.Frag) : Sp := fun vs H Q _ => ∃ (r : Addr) (B : Bk) (u : RuA), vs = [.ref r] ∧ RulesAt K H r B u ∧ BkR B ∧ ∀ (d : Addr) (H' : Hp) (gs : List (List Str)), Same H H' → H d = none → H' d = some (.dK (trueK B gs)) → gs.Nodup → (∀ b ∈ gs, Bd B b) → (∀ b, Bd B b → (b ∈ gs ↔ Grow B b)) → Q (.ref d) H'
theorem true_val {B : Bk} {c : List Str} (hc : Bd B c) : ∀ {hs : List (List Str)}, (∀ b ∈ hs, Bd B b) → valV (trueK B hs) (.inl (mI B c)) = if c ∈ hs then some (.bl true) else none
  | [], _ => rfl
  | b :: hs, h => by
    by_cases e : b = c
    · subst e
      rw [if_pos List.mem_cons_self]
      exact valV_pos rfl
    · have ne : (Sum.inl (mI B b) : Key) ≠ .inl (mI B c) := fun z => e (mI_inj (h b List.mem_cons_self) hc (Sum.inl.inj z))
      show valV ((Sum.inl (mI B b), V.bl true) :: trueK B hs) (.inl (mI B c)) = _
      rw [valV_neg ne, true_val hc fun b hb => h b (List.mem_cons_of_mem _ hb)]
      by_cases m : c ∈ hs
      · rw [if_pos m, if_pos (List.mem_cons_of_mem _ m)]
      · rw [if_neg m, if_neg fun z => (List.mem_cons.mp z).elim (fun z => e z.symm) m]
theorem true_app {B : Bk} {hs : List (List Str)} {c : List Str} : trueK B (hs ++ [c]) = trueK B hs ++ [(.inl (mI B c), .bl true)] := by
  unfold trueK
  rw [List.map_append]
  rfl
theorem true_new {B : Bk} {hs : List (List Str)} {c : List Str} (hc : Bd B c) (bd : ∀ b ∈ hs, Bd B b) (m : c ∉ hs) : (Sum.inl (mI B c) : Key) ∉ (trueK B hs).map (·.1) := fun z => by
  unfold trueK at z
  rw [List.map_map] at z
  obtain ⟨b, hb, e⟩ := List.mem_map.mp z
  have e : (Sum.inl (mI B b) : Key) = .inl (mI B c) := e
  exact m (mI_inj (bd b hb) hc (Sum.inl.inj e) ▸ hb)
theorem goods_len {B : Bk} (ok : BkR B) : (goodsB B).length ≤ 4096 := by
  unfold goodsB
  refine Nat.le_trans (List.length_filter_le _ _) ?_
  rw [List.length_range]
  have l := ok.l12
  exact Nat.le_trans (Nat.pow_le_pow_right (by decide) l) (by decide)
section
variable {X : Cx} {a b : Expr} {rest : List Expr} {pos : Pos} {ta tb : TE}
theorem pe_andTK {K : PySem.W.Frag} (hK : X.K = K) (ha : PE X a ta) (hb : PE X (.BoolOp .And (b :: rest) pos) tb) : PE X (.BoolOp .And (a :: b :: rest) pos) (tAndT K ta tb) := by
  subst hK
  exact pe_andT ha hb
end
section
variable {P : Program} {w : World} {K : PySem.W.Frag} {mg : Str → Option Value} {base : Heap}
end
end Rt
end
section
set_option Elab.async false
set_option linter.all false
set_option maxRecDepth 100000
set_option maxHeartbeats 8000000
/-! knots; in what order skills can be taken -/
namespace Rt
open PySem PySem.Spec PyProof.Rows L2
open LamX (ExtN Tabs TabB TabS)
noncomputable def growB (B : Bk) (b : List Str) : Bool := @decide (Grow B b) (Classical.propDecidable _)
theorem growB_iff {B : Bk} {b : List Str} : growB B b = true ↔ Grow B b := @decide_eq_true_iff (Grow B b) (Classical.propDecidable _)
noncomputable def knotB (B : Bk) (b : List Str) : Bool := comeB B [] b && !growB B b
def spKnots (K : PySem.W.Frag) : Sp := fun vs H Q _ => ∃ (x : Addr) (B : Bk) (a : BoA), vs = [.ref x] ∧ BookAt K H x B a ∧ BkR B ∧ Tabs (TTb K) H ∧
  ∀ (l : Addr) (H' : Hp) (xs : List V), ExtT (TTb K) H H' → NewT H l → H' l = some (.lst xs) → Paired (BT H') xs ((subsB B.ns).filter (knotB B)) → Q (.ref l) H'
/-- what is known of the masks that are stuck -/
structure Stuck (B : Bk) (g : List Str) (ss : List (List Str)) : Prop where
  nd : ss.Nodup
  bd : ∀ c ∈ ss, Bd B c
  no : ∀ c ∈ ss, ¬ ∃ zs, takesL B c zs g
def spGrownOn (K : PySem.W.Frag) : Nat → Sp
  | 0 => fun _ _ _ _ => False
  | n + 1 => fun vs H Q _ => ∃ (r st : Addr) (B : Bk) (u : RuA) (b g : List Str) (ss : List (List Str)) (H0 : Hp), vs = [.ref r, .int (mI B b), .int (mI B g), .ref st] ∧ RulesAt K H0 r B u ∧ H0 st = none ∧ Same H0 H ∧ H st = some (.dK (trueK B ss)) ∧ Stuck B g ss ∧
    Bd B b ∧ Bd B g ∧ (∀ y ∈ B.ns, inB b y = true → inB g y = true) ∧ g.length ≤ b.length + n ∧ b ∉ ss ∧
    ∀ (v : V) (H' : Hp) (ss' : List (List Str)), Same H0 H' → H' st = some (.dK (trueK B ss')) → Stuck B g ss' → (∀ c ∈ ss', c ∈ ss ∨ b.length ≤ c.length) →
      ((v = .non ∧ ¬ ∃ zs, takesL B b zs g) ∨ ∃ l zs, v = .ref l ∧ H0 l = none ∧ l ≠ st ∧ H' l = some (.lst (zs.map fun z => .int (bI B.ns z))) ∧ leastO B g b zs) → Q v H'
section
variable {P : Program} {w : World} {K : PySem.W.Frag} {mg : Str → Option Value} {base : Heap}
end
end Rt
end
section
set_option Elab.async false
set_option linter.all false
set_option maxRecDepth 100000
set_option maxHeartbeats 8000000
/-! growth, is_grown -/
namespace Rt
open PySem PySem.Spec PyProof.Rows L2
open LamX (ExtN Tabs TabB TabS)
def spGrowth (K : PySem.W.Frag) : Sp := fun vs H Q _ => ∃ (x q : Addr) (B : Bk) (a : BoA) (b : List Str), vs = [.ref x, .ref q] ∧ BookAt K H x B a ∧ Bd B b ∧ Oks B.ns ∧ SqT K H q (b.map V.str) ∧
  ∀ (v : V) (H' : Hp), Same H H' → ((v = .non ∧ ¬ Grow B b) ∨ ∃ l zs, v = .ref l ∧ H l = none ∧ H' l = some (.lst (zs.map V.str)) ∧ leastO B b [] zs ∧ Grow B b) → Q v H'
theorem mI_one {B : Bk} (ok : BkR B) (z : Str) : mI B [z] = bI B.ns z := by
  show ((maskB B [z] : Nat) : Int) = ((bitN B.ns z : Nat) : Int)
  rw [bitN_mask ok.nd']
  congr 1
  refine maskF_congr fun y _ => ?_
  unfold inB
  rw [decide_eq_decide, List.mem_singleton]
section
variable {P : Program} {w : World} {K : PySem.W.Frag} {mg : Str → Option Value} {base : Heap}
end
end Rt
end
section
set_option Elab.async false
set_option linter.all false
set_option maxRecDepth 100000
set_option maxHeartbeats 8000000
/-! what the laws' walks share: the pool has turned, a book beside it -/
namespace Rt
open PySem PySem.Spec PyProof.Rows L2
open LamX (ExtN Tabs TabB TabS)
theorem LR.ne_pool {H : Hp} {a p : Addr} {rows : List (List V)} (h : LR H a rows) (hp : PoolAt H p) : a ≠ p := fun e => by
  obtain ⟨xs, h1, h2⟩ := h
  obtain ⟨u, v, q, _⟩ := hp
  rw [e, q] at h1
  injection h1 with h1
  injection h1 with h1
  subst h1
  cases h2 with
  | cons r _ =>
    obtain ⟨_, e, _⟩ := r
    cases e
theorem LW.ne_pool {H : Hp} {a p : Addr} {ws : List Want} (h : LW H a ws) (hp : PoolAt H p) : a ≠ p := fun e => by
  obtain ⟨xs, h1, h2⟩ := h
  obtain ⟨u, v, q, _⟩ := hp
  rw [e, q] at h1
  injection h1 with h1
  injection h1 with h1
  subst h1
  cases h2 with
  | cons r _ =>
    obtain ⟨_, _, e, _⟩ := r
    cases e
theorem pmono {α β : Type} {R S : α → β → Prop} (h : ∀ x w, R x w → S x w) : ∀ {xs : List α} {ws : List β}, Paired R xs ws → Paired S xs ws
  | _, _, .nil => .nil
  | _, _, .cons r t => .cons (h _ _ r) (pmono h t)
theorem paired_app2 {α β : Type} {R : α → β → Prop} : ∀ {xs : List α} {ws : List β} {ys : List α} {us : List β}, Paired R xs ws → Paired R ys us → Paired R (xs ++ ys) (ws ++ us)
  | _, _, _, _, .nil, k => k
  | _, _, _, _, .cons r t, k => .cons r (paired_app2 t k)
theorem paired_take {α β : Type} {R : α → β → Prop} : ∀ (n : Nat) {xs : List α} {ws : List β}, Paired R xs ws → Paired R (xs.take n) (ws.take n)
  | 0, _, _, _ => .nil
  | _ + 1, _, _, .nil => .nil
  | n + 1, _, _, .cons r t => .cons r (paired_take n t)
theorem paired_drop {α β : Type} {R : α → β → Prop} : ∀ (n : Nat) {xs : List α} {ws : List β}, Paired R xs ws → Paired R (xs.drop n) (ws.drop n)
  | 0, _, _, h => h
  | _ + 1, _, _, .nil => .nil
  | n + 1, _, _, .cons _ t => paired_drop n t
theorem paired_cut {α β : Type} {R : α → β → Prop} (n : Nat) {xs : List α} {ws : List β} (h : Paired R xs ws) : Paired R (xs.take n ++ xs.drop (n + 1)) (ws.take n ++ ws.drop (n + 1)) := paired_app2 (paired_take n h) (paired_drop (n + 1) h)
/-- the lists of a book -/
def BkP (H : Hp) (a1 a3 a4 a5 a6 a7 : Addr) (B : Bk) : Prop := LR H a1 (B.sk.map rS) ∧ LR H a3 (B.nd.map rI2) ∧ LW H a4 B.wl ∧ LR H a5 (B.bars.map rB) ∧ LR H a6 (B.gives.map rS) ∧ LR H a7 (B.prices.map rS)
section
variable {H H' : Hp} {a1 a3 a4 a5 a6 a7 p d : Addr} {B : Bk}
theorem BkP.ext (h : BkP H a1 a3 a4 a5 a6 a7 B) (s : Same H H') : BkP H' a1 a3 a4 a5 a6 a7 B := let ⟨r1, r3, r4, r5, r6, r7⟩ := h; ⟨r1.ext s, r3.ext s, r4.ext s, r5.ext s, r6.ext s, r7.ext s⟩
theorem BkP.aft (h : BkP H a1 a3 a4 a5 a6 a7 B) (hp : PoolAt H p) (g : Aft p H H') : BkP H' a1 a3 a4 a5 a6 a7 B := let ⟨r1, r3, r4, r5, r6, r7⟩ := h; ⟨r1.go g hp (r1.ne_pool hp), r3.go g hp (r3.ne_pool hp), r4.go g hp (r4.ne_pool hp), r5.go g hp (r5.ne_pool hp), r6.go g hp (r6.ne_pool hp), r7.go g hp (r7.ne_pool hp)⟩
theorem BkP.put {kvs kvs' : List (Key × V)} (h : BkP H a1 a3 a4 a5 a6 a7 B) (hd : H d = some (.dK kvs)) : BkP (upd H d (.dK kvs')) a1 a3 a4 a5 a6 a7 B := let ⟨r1, r3, r4, r5, r6, r7⟩ := h; ⟨r1.put hd, r3.put hd, r4.put hd, r5.put hd, r6.put hd, r7.put hd⟩
end
theorem tabs_put {T : List (Addr × Str)} {G : Hp} {p : Addr} {xs ys : List V} (t : Tabs T G) (hp : G p = some (.lst xs)) : Tabs T (upd G p (.lst ys)) := fun r hr => by
  obtain ⟨ps, h1, h2, h3⟩ := t r hr
  have n1 : r.1 ≠ p := fun e => by
    rw [e, hp] at h1
    cases h1
  refine ⟨ps, (upd_ne n1).trans h1, h2, fun pos cv hc => ?_⟩
  obtain ⟨c, e1, e2⟩ := h3 pos cv hc
  have n2 : c ≠ p := fun e => by
    rw [e, hp] at e2
    unfold LamX.CodeO at e2
    cases e2
  exact ⟨c, e1, (upd_ne n2).trans e2⟩
/-- a new list is written -/
theorem ExtT.put {T : List (Addr × Str)} {H G : Hp} {l : Addr} {xs ys : List V} (e : ExtT T H G) (n : NewT H l) (hl : G l = some (.lst xs)) : ExtT T H (upd G l (.lst ys)) :=
  ⟨fun b o h t => by
    rw [upd_ne (n.ne h t)]
    exact e.xn b o h t, fun t => tabs_put (e.tab t) hl⟩
theorem tabs_putD {T : List (Addr × Str)} {G : Hp} {p : Addr} {kvs ls : List (Key × V)} (t : Tabs T G) (hp : G p = some (.dK kvs)) : Tabs T (upd G p (.dK ls)) := fun r hr => by
  obtain ⟨ps, h1, h2, h3⟩ := t r hr
  have n1 : r.1 ≠ p := fun e => by
    rw [e, hp] at h1
    cases h1
  refine ⟨ps, (upd_ne n1).trans h1, h2, fun pos cv hc => ?_⟩
  obtain ⟨c, e1, e2⟩ := h3 pos cv hc
  have n2 : c ≠ p := fun e => by
    rw [e, hp] at e2
    unfold LamX.CodeO at e2
    cases e2
  exact ⟨c, e1, (upd_ne n2).trans e2⟩
/-- a new dict is written -/
theorem ExtT.putD {T : List (Addr × Str)} {H G : Hp} {l : Addr} {kvs ls : List (Key × V)} (e : ExtT T H G) (n : NewT H l) (hl : G l = some (.dK kvs)) : ExtT T H (upd G l (.dK ls)) :=
  ⟨fun b o h t => by
    rw [upd_ne (n.ne h t)]
    exact e.xn b o h t, fun t => tabs_putD (e.tab t) hl⟩
theorem sqT_xn {K : PySem.W.Frag} {H H' : Hp} {a : Addr} {xs : List V} (e : ExtN H H') (h : SqT K H a xs) : SqT K H' a xs := by
  rcases h with (h | ⟨o, h⟩) | h
  · exact .inl (.inl (e _ _ h fun _ z => by cases z))
  · exact .inl (.inr ⟨o, e _ _ h fun _ z => by cases z⟩)
  · exact .inr h
theorem lr_xn {H H' : Hp} {a : Addr} {rows : List (List V)} (e : ExtN H H') (h : LR H a rows) : LR H' a rows := let ⟨xs, q, r⟩ := h; ⟨xs, xls e q, r.tk (xtks e)⟩
theorem lw_xn {H H' : Hp} {a : Addr} {ws : List Want} (e : ExtN H H') (h : LW H a ws) : LW H' a ws := let ⟨xs, q, r⟩ := h; ⟨xs, xls e q, r.tk (xtks e)⟩
theorem BkAt.xn {H H' : Hp} {d : Addr} {B : Bk} (h : BkAt H d B) (e : ExtN H H') : BkAt H' d B := by
  obtain ⟨a1, a3, a4, a5, a6, a7, hd, r1, r3, r4, r5, r6, r7⟩ := h.at_
  exact ⟨a1, a3, a4, a5, a6, a7, xdk e hd, lr_xn e r1, lr_xn e r3, lw_xn e r4, lr_xn e r5, lr_xn e r6, lr_xn e r7⟩
theorem tabs_aft {T : List (Addr × Str)} {G G' : Hp} {p : Addr} (t : Tabs T G) (hp : PoolAt G p) (a : Aft p G G') : Tabs T G' := fun r hr => by
  obtain ⟨ps, h1, h2, h3⟩ := t r hr
  obtain ⟨u, v, hp, _⟩ := hp
  have n1 : r.1 ≠ p := fun e => by
    rw [e, hp] at h1
    cases h1
  refine ⟨ps, a.keep _ _ n1 h1, h2, fun pos cv hc => ?_⟩
  obtain ⟨c, e1, e2⟩ := h3 pos cv hc
  have n2 : c ≠ p := fun e => by
    rw [e, hp] at e2
    unfold LamX.CodeO at e2
    cases e2
  exact ⟨c, e1, a.keep _ _ n2 e2⟩
/-- the pool has turned -/
theorem ExtT.aft {T : List (Addr × Str)} {H G G' : Hp} {p : Addr} (e : ExtT T H G) (n : H p = none) (hp : PoolAt G p) (a : Aft p G G') : ExtT T H G' :=
  ⟨fun b o h t => a.keep b o (ne_of_none h n) (e.xn b o h t), fun t => tabs_aft (e.tab t) hp a⟩
theorem BkAt.aft {H H' : Hp} {d p : Addr} {B : Bk} (h : BkAt H d B) (hp : PoolAt H p) (g : Aft p H H') : BkAt H' d B := by
  obtain ⟨a1, a3, a4, a5, a6, a7, hd, r1, r3, r4, r5, r6, r7⟩ := h.at_
  have nd : d ≠ p := fun e => by
    obtain ⟨u, v, q, _⟩ := hp
    rw [e, q] at hd
    cases hd
  exact ⟨a1, a3, a4, a5, a6, a7, g.keep _ _ nd hd, r1.go g hp (r1.ne_pool hp), r3.go g hp (r3.ne_pool hp), r4.go g hp (r4.ne_pool hp), r5.go g hp (r5.ne_pool hp), r6.go g hp (r6.ne_pool hp), r7.go g hp (r7.ne_pool hp)⟩
theorem by_tt {te : TT} {σ : L2.St} {H : Hp} {Q : Bool → Hp → Prop} (Pv : Bool → Hp → Prop) (h1 : ∀ Q : Bool → Hp → Prop, (∀ x H', Pv x H' → Q x H') → te σ H Q) (h2 : ∀ x H', Pv x H' → Q x H') : te σ H Q := h1 Q h2
end Rt
end
section
set_option Elab.async false
set_option linter.all false
set_option maxRecDepth 100000
set_option maxHeartbeats 4000000
/-! builds as data -/
namespace Rt
open PySem PySem.Spec PyProof.Rows L2
def btD (b : List Str) : PyData := .tuple (b.map PyData.str)
theorem bt_dp {K : PySem.W.Frag} {H : Hp} : ∀ {xs : List V} {ws : List (List Str)}, Paired (BT H) xs ws → DpAll K H xs (ws.map btD)
  | _, _, .nil => .nil
  | _, _, .cons r t => by
    obtain ⟨q, rfl, hq⟩ := r
    exact .cons (.tup (SqT.of hq) (dpAll_strs _)) (bt_dp t)
theorem bt_sm {ns : List Str} (oks : Oks ns) {ws : List (List Str)} (h : ∀ b ∈ ws, b.Sublist ns) : ∀ d ∈ ws.map btD, Sm d := fun d hd => by
  obtain ⟨b, hb, rfl⟩ := List.mem_map.mp hd
  exact sm_strs fun z hz => oks z ((h b hb).subset hz)
theorem bt_same {ns : List Str} (oks : Oks ns) {ws : List (List Str)} (h : ∀ b ∈ ws, b.Sublist ns) : PyData.eqv (.list (ws.map btD)) (.list (ws.map btD)) = true := by
  refine eqv_rfl _ ?_
  obtain ⟨h1, _⟩ := sm_all (bt_sm oks h)
  simp only [PyData.canLay0]
  exact h1
theorem bt_any {ws : List (List Str)} {b : List Str} : ((ws.map btD).any fun z => PyData.eqv z (btD b)) = decide (b ∈ ws) := by
  rw [Bool.eq_iff_iff, List.any_eq_true, decide_eq_true_eq]
  constructor
  · rintro ⟨d, hd, e⟩
    obtain ⟨c, hc, rfl⟩ := List.mem_map.mp hd
    unfold btD at e
    simp only [PyData.eqv] at e
    rw [eqv_strs, decide_eq_true_eq] at e
    exact e ▸ hc
  · intro h
    refine ⟨btD b, List.mem_map_of_mem h, ?_⟩
    unfold btD
    simp only [PyData.eqv]
    rw [eqv_strs, decide_eq_true rfl]
end Rt
end
section
set_option Elab.async false
set_option linter.all false
set_option maxRecDepth 100000
set_option maxHeartbeats 8000000
/-! the right texts: a dict from texts to builds -/
namespace Rt
open PySem PySem.Spec PyProof.Rows L2
open LamX (ExtN Tabs TabB TabS)
def RowR (H : Hp) (kv : Key × V) (b : List Str) : Prop := ∃ q, kv = (Sum.inr (textB b), V.ref q) ∧ H q = some (.tup (b.map V.str))
def RtAt (H : Hp) (r : Addr) (bs : List (List Str)) : Prop := ∃ kvs, H r = some (.dK kvs) ∧ Paired (RowR H) kvs bs
/-- all but the dict stays -/
def Kp (r : Addr) (H G : Hp) : Prop := ∀ c o, H c = some o → c ≠ r → G c = some o
theorem Kp.tk {r : Addr} {H G : Hp} (k : Kp r H G) {kvs : List (Key × V)} (h : H r = some (.dK kvs)) : Tk H G := fun b xs hb => k _ _ hb fun e => by
  rw [e, h] at hb
  cases hb
theorem Kp.trans {r : Addr} {H G J : Hp} (k : Kp r H G) (l : Kp r G J) : Kp r H J := fun c o h n => l _ _ (k _ _ h n) n
theorem Kp.of {r : Addr} {H G : Hp} (s : Same H G) : Kp r H G := fun c o h _ => s _ _ h
theorem paired_monoR {H G : Hp} (t : Tk H G) : ∀ {kvs : List (Key × V)} {bs : List (List Str)}, Paired (RowR H) kvs bs → Paired (RowR G) kvs bs
  | _, _, .nil => .nil
  | _, _, .cons ⟨q, e, h⟩ r => .cons ⟨q, e, t _ _ h⟩ (paired_monoR t r)
theorem paired_snocR {α β : Type} {R : α → β → Prop} : ∀ {xs : List α} {ws : List β} {x : α} {w : β}, Paired R xs ws → R x w → Paired R (xs ++ [x]) (ws ++ [w])
  | _, _, _, _, .nil, h => .cons h .nil
  | _, _, _, _, .cons r p, h => .cons r (paired_snocR p h)
theorem RtAt.same {H G : Hp} {r : Addr} {bs : List (List Str)} (h : RtAt H r bs) (s : Same H G) : RtAt G r bs := let ⟨kvs, h1, h2⟩ := h; ⟨kvs, s _ _ h1, paired_monoR (Tk.of s) h2⟩
theorem rt_keys {H : Hp} : ∀ {kvs : List (Key × V)} {bs : List (List Str)}, Paired (RowR H) kvs bs → kvs.map (·.1) = bs.map fun b => Sum.inr (textB b)
  | _, _, .nil => rfl
  | _, _, .cons ⟨q, e, _⟩ r => by
    rw [List.map_cons, List.map_cons, rt_keys r, e]
/-- what the dict tells of a text -/
theorem rt_val {H : Hp} : ∀ {kvs : List (Key × V)} {bs : List (List Str)}, Paired (RowR H) kvs bs → ∀ t : Str, (valV kvs (.inr t) = none ∧ ∀ b ∈ bs, textB b ≠ t) ∨ ∃ b ∈ bs, textB b = t ∧ ∃ q, valV kvs (.inr t) = some (.ref q) ∧ H q = some (.tup (b.map V.str))
  | _, _, .nil, t => .inl ⟨rfl, fun b hb => nomatch hb⟩
  | _, _, .cons (l₂ := bs) (b := b) ⟨q, e, hq⟩ r, t => by
    subst e
    by_cases z : textB b = t
    · exact .inr ⟨b, List.mem_cons_self, z, q, valV_pos (by rw [z]), hq⟩
    · have ev : ∀ kvs : List (Key × V), valV ((Sum.inr (textB b), V.ref q) :: kvs) (.inr t) = valV kvs (.inr t) := fun kvs => valV_neg fun h => z (Sum.inr.inj h)
      rcases rt_val r t with ⟨h1, h2⟩ | ⟨c, hc, h1, q2, h2, h3⟩
      · refine .inl ⟨by rw [ev, h1], fun c hc => ?_⟩
        rcases List.mem_cons.mp hc with rfl | hc
        · exact z
        · exact h2 c hc
      · exact .inr ⟨c, List.mem_cons_of_mem _ hc, h1, q2, by rw [ev, h2], h3⟩
/-- a text is a build's just if its parts are one -/
theorem text_of {ns : List Str} (dr : Drawn ns) (nd : ns.Nodup) (t : Str) : (ordO ns (some ((partsT t).map V.str)) = true → partsT t ∈ subsB ns) ∧ ∀ b ∈ subsB ns, textB b = t → ordO ns (some ((partsT t).map V.str)) = true ∧ partsT t = b := by
  refine ⟨fun h => (mem_subs nd).mpr (ord_in h), fun b hb e => ?_⟩
  have sub := (mem_subs nd).mp hb
  have ep : partsT t = b := by
    rw [← e]
    exact parts_text fun z hz => drawn_word dr z (sub.subset hz)
  rw [ep]
  exact ⟨ord_sub nd sub, rfl⟩
theorem asc_cut {t : Str} (h : asc t = true) (lo hi : Option Int) : asc (cutS t lo hi) = true := by
  unfold asc at h ⊢
  rw [← Array.all_toList, List.all_eq_true] at h ⊢
  intro c hc
  have hc : c ∈ (t.cps.toList.drop (HT.sIx t.length 0 lo)).take (HT.sIx t.length t.length hi - HT.sIx t.length 0 lo) := by
    simpa [cutS] using hc
  exact h c (List.mem_of_mem_drop (List.mem_of_mem_take hc))
/-- what is no build's text -/
def OddR (K : PySem.W.Frag) (B : Bk) (H : Hp) (v : V) : Prop := ∃ T, Ts K H v T ∧ (∀ t, v = .str t → t.length ≤ 50 ∧ ordO B.ns (some ((partsT t).map V.str)) = false) ∧ Tl K H v
def OddW (K : PySem.W.Frag) (H : Hp) (v : V) : Prop := ∃ o, Ov K H v o ∧ wordsO o = false ∧ (∀ xs, o = some xs → ∀ z, V.str z ∈ xs → z.length ≤ 1000) ∧ Tl K H v
end Rt
end
section
namespace Rt
open PySem PySem.Spec PyProof.Rows L2
theorem cut_lo {t : Str} {a : Int} (h0 : 0 ≤ a) (h1 : a ≤ ((t.length : Nat) : Int)) : (cutS t none (some a)).length ≤ a.toNat := by
  show (((t.cps.toList.drop (HT.sIx t.length 0 none)).take (HT.sIx t.length t.length (some a) - HT.sIx t.length 0 none)).toArray).size ≤ _
  rw [List.size_toArray, List.length_take, List.length_drop, Array.length_toList]
  have e1 : HT.sIx t.length 0 none = 0 := rfl
  have e2 : HT.sIx t.length t.length (some a) ≤ a.toNat := by
    show (if a < 0 then (a + (t.length : Int)).toNat else min a.toNat t.length) ≤ _
    rw [if_neg (by omega)]
    omega
  omega
theorem cut_hi {t : Str} {a : Int} (h0 : 0 ≤ a) : (cutS t (some a) none).length ≤ t.length - a.toNat := by
  show (((t.cps.toList.drop (HT.sIx t.length 0 (some a))).take (HT.sIx t.length t.length none - HT.sIx t.length 0 (some a))).toArray).size ≤ _
  rw [List.size_toArray, List.length_take, List.length_drop, Array.length_toList]
  have e2 : min a.toNat t.length ≤ HT.sIx t.length 0 (some a) := by
    show _ ≤ (if a < 0 then (a + (t.length : Int)).toNat else min a.toNat t.length)
    rw [if_neg (by omega)]
    omega
  have : t.length = t.cps.size := rfl
  omega
end Rt
end
section
set_option Elab.async false
set_option linter.all false
set_option maxRecDepth 100000
set_option maxHeartbeats 8000000
namespace Rt
open PySem PySem.Spec PyProof.Rows L2
theorem nord_word {ns : List Str} (dr : Drawn ns) {ys : List Str} {z : Str} (hz : z ∈ ys) (no : isWord (.str z) = false) : ordO ns (some (ys.map V.str)) = false := nord fun h => by
  have := drawn_word dr z (h.subset hz)
  rw [no] at this
  cases this
theorem parts_e : partsT "" = ([""] : List Str) := by decide +kernel
theorem parts_s : partsT " " = (["", ""] : List Str) := by decide +kernel
theorem parts_n : partsT "nobody" = (["nobody"] : List Str) := by decide +kernel
theorem parts_h : partsT "- -" = (["-", "-"] : List Str) := by decide +kernel
theorem parts_two {a : Str} (h : isWord (.str a) = true) : partsT (a ++ " " ++ a) = [a, a] := by
  have e : a ++ " " ++ a = textB [a, a] := by
    unfold textB
    rw [if_neg (by simp), tj]
    rfl
  rw [e]
  exact parts_text fun z hz => by
    simp only [List.mem_cons, List.not_mem_nil, or_false] at hz
    rcases hz with rfl | rfl <;> exact h
theorem row_fit : ([N1, N2].all fun N => N.all fun a => fits (.tuple [.str a, .int 1]) && fitsD [(.str a, .int 1)]) = true := by decide +kernel
theorem name_rows {ns : List Str} {a : Str} (h : Drawn ns) (m : a ∈ ns) : fits (.tuple [.str a, .int 1]) = true ∧ fitsD [(.str a, .int 1)] = true := by
  obtain ⟨N, n, hN, rfl⟩ := h
  have q := List.all_eq_true.mp row_fit N (by rcases hN with rfl | rfl <;> simp)
  have q := List.all_eq_true.mp q a (List.mem_of_mem_take m)
  exact He.ba q
theorem two_no {ns : List Str} (nd : ns.Nodup) {a : Str} : ordO ns (some ([a, a].map V.str)) = false := nord fun h => by
  have := nd.sublist h
  simp at this
theorem OddR.xn {K : PySem.W.Frag} {B : Bk} {H H' : Hp} {v : V} (h : OddR K B H v) (e : LamX.ExtN H H') : OddR K B H' v := let ⟨T, t, q, l⟩ := h; ⟨T, t.xn e, q, l.xn e⟩
theorem OddW.xn {K : PySem.W.Frag} {H H' : Hp} {v : V} (h : OddW K H v) (e : LamX.ExtN H H') : OddW K H' v := let ⟨o, t, q, r, l⟩ := h; ⟨o, t.xn e, q, r, l.xn e⟩
end Rt
end
section
set_option Elab.async false
set_option linter.all false
set_option maxRecDepth 100000
set_option maxHeartbeats 4000000
/-! the pool has turned, the tables may have grown, all else stands -/
namespace Rt
open PySem PySem.Spec PyProof.Rows L2
open LamX (ExtN Tabs TabB TabS)
structure AftT (T : List (Addr × Str)) (p : Addr) (H H' : Hp) : Prop where
  pool : PoolAt H' p
  keep : ∀ b o, b ≠ p → H b = some o → (∀ ps, o ≠ .tbl ps) → H' b = some o
  tab : Tabs T H → Tabs T H'
section
variable {T : List (Addr × Str)} {p : Addr} {H H1 H2 : Hp} {K : PySem.W.Frag}
theorem pool_xn (h : PoolAt H p) (e : ExtN H H1) : PoolAt H1 p := let ⟨x, y, h, r⟩ := h; ⟨x, y, xls e h, r⟩
theorem AftT.refl (h : PoolAt H p) : AftT T p H H := ⟨h, fun _ _ _ h _ => h, id⟩
theorem AftT.trans (a : AftT T p H H1) (b : AftT T p H1 H2) : AftT T p H H2 := ⟨b.pool, fun c o n h t => b.keep c o n (a.keep c o n h t) t, fun t => b.tab (a.tab t)⟩
theorem AftT.ext (h : PoolAt H p) (e : ExtT T H H1) : AftT T p H H1 := ⟨pool_xn h e.xn, fun c o _ h t => e.xn c o h t, e.tab⟩
theorem AftT.aft (h : PoolAt H p) (a : Aft p H H1) : AftT T p H H1 := ⟨a.pool, fun c o n h _ => a.keep c o n h, fun t => tabs_aft t h a⟩
theorem AftT.then (a : AftT T p H H1) (e : ExtT T H1 H2) : AftT T p H H2 := a.trans (.ext a.pool e)
theorem AftT.same (a : AftT T p H H1) (e : Same H1 H2) : AftT T p H H2 := a.trans (.ext a.pool (ExtT.of e))
theorem AftT.turn (a : AftT T p H H1) (e : Aft p H1 H2) : AftT T p H H2 := a.trans (.aft a.pool e)
/-- first the pool, then the rest -/
theorem AftT.mid (a : AftT T p H H1) : ∃ G, Aft p H G ∧ ExtN G H1 := by
  refine ⟨fun b => if b = p then H1 p else H b, ⟨?_, fun b o n h => ?_⟩, fun b o h t => ?_⟩
  · obtain ⟨x, y, h, r⟩ := a.pool
    exact ⟨x, y, (if_pos rfl).trans h, r⟩
  · exact (if_neg n).trans h
  · by_cases e : b = p
    · rw [e]
      exact (if_pos e).symm.trans h
    · exact a.keep b o e ((if_neg e).symm.trans h) t
theorem AftT.bk (a : AftT T p H H1) (hp : PoolAt H p) {d : Addr} {B : Bk} (h : BkAt H d B) : BkAt H1 d B := let ⟨_, g, e⟩ := a.mid; (h.aft hp g).xn e
theorem AftT.book (a : AftT T p H H1) (hp : PoolAt H p) {x : Addr} {B : Bk} {at_ : BoA} (h : BookAt K H x B at_) : BookAt K H1 x B at_ := let ⟨_, g, e⟩ := a.mid; (h.aft hp g).xn e
theorem AftT.tk (a : AftT T p H H1) (hp : PoolAt H p) : Tk H H1 := fun b xs h => by
  obtain ⟨_, g, e⟩ := a.mid
  exact xtk e (g.tk hp b xs h)
theorem AftT.ls (a : AftT T p H H1) {b : Addr} {xs : List V} (n : b ≠ p) (h : H b = some (.lst xs)) : H1 b = some (.lst xs) := a.keep _ _ n h fun _ z => by cases z
theorem ExtT.aftT {H' : Hp} (e : ExtT T H' H) (n : H' p = none) (a : AftT T p H H1) : ExtT T H' H1 := ⟨fun b o h t => a.keep b o (ne_of_none h n) (e.xn b o h t) t, fun t => a.tab (e.tab t)⟩
/-- what is no table and was not there is changed -/
theorem ExtT.putU {G : Hp} {l : Addr} {kvs : List (List Key × V)} {o : HO} (e : ExtT T H G) (n : NewT H l) (hl : G l = some (.dT kvs)) : ExtT T H (upd G l o) :=
  ⟨fun b u h t => (upd_ne (n.ne h t)).trans (e.xn b u h t), fun t r hr => by
    obtain ⟨ps, h1, h2, h3⟩ := e.tab t r hr
    refine ⟨ps, (upd_ne fun z => ?_).trans h1, h2, fun pos cv hc => ?_⟩
    · rw [z, hl] at h1
      cases h1
    · obtain ⟨c, e1, e2⟩ := h3 pos cv hc
      refine ⟨c, e1, (upd_ne fun z => ?_).trans e2⟩
      rw [z, hl] at e2
      unfold LamX.CodeO at e2
      cases e2⟩
end
end Rt
end
section
set_option Elab.async false
set_option linter.all false
set_option maxRecDepth 100000
set_option maxHeartbeats 8000000
/-! the law -/
namespace Rt
open PySem PySem.Spec PyProof.Rows L2
open LamX (ExtN Tabs TabB TabS)
def spLaw (K : PySem.W.Frag) : SpG := fun vs H Q => ∃ (a : Addr) (ns : List Int), vs = [.ref a] ∧ SqL K H a (ns.map V.int) ∧ Tabs (TTb K) H ∧ ∀ H', Q (.bl true) H'
section
variable {P : Program} {w : World} {K : PySem.W.Frag} {mg : Str → Option Value} {base : Heap}
theorem fn_law (W : AllT K mg base) : ∃ fd, FnG P w K mg base 22 (He.ga K "law") fd ["_law_script"] (spLaw K) ∧ Binds K fd ["_law_script"] [] := by
  have Z := W.w.z
  obtain ⟨fd, F⟩ := Z.f_law
  obtain ⟨fT, FT⟩ := Z.f_law_caught
  have C_law_pool : Cal P w K mg base CX0 1 "_law_pool" ["_law_script", "_law_k"] (spPool K) := cal_law_pool Z
  have C_law_take : Cal P w K mg base CX0 1 "_law_take" ["_law_pool_here", "_law_bound"] spTake := cal_law_take Z
  have C_law_one : Cal P w K mg base CX0 2 "_law_one" ["_law_pool_here", "_law_things"] (spLone K) := cal_law_one Z
  have C_law_turned : Cal P w K mg base CX0 2 "_law_turned" ["_law_pool_here", "_law_things"] (spTurned K) := cal_law_turned Z
  have C_law_book : Cal P w K mg base CX0 4 "_law_book" ["_law_pool_here", "_law_top", "_law_sort"] spBook := cal_law_book Z
  have C_law_made : Cal P w K mg base CX0 9 "_law_made" ["_law_book_here"] (spMade K) := cal_law_made Z
  have C_law_names : Cal P w K mg base CX0 1 "_law_names" ["_law_book_here"] spNamesOf := cal_law_names Z
  have C_law_subsets : Cal P w K mg base CX0 2 "_law_subsets" ["_law_book_here"] spSubs := cal_law_subsets Z
  have CWr : Cal P w K mg base (L2.CX P w) 3 "write_build" ["build"] (spWriteE K) := cal_write_build W.w
  have CR : Cal P w K mg base (L2.CX P w) 6 "read_build" ["book", "text"] (spReadE K) := cal_read_build W.w
  have bF : Binds K fd ["_law_script"] [] := F.bindsN (fun _ _ _ _ _ _ us hl => match us, hl with | [_], _ => rfl)
  have bT : Binds K fT ["_law_call"] [] := FT.bindsN (fun _ _ _ _ _ _ us hl => match us, hl with | [_], _ => rfl)
  obtain ⟨oc, od, dV, kV, doc, pm, an, cdT, ct, osl, rfl, lkT, cgT, _, _⟩ := FT.ex
  refine ⟨fd, FnG.of F sc_law bF (fun vs H Q h => ?_) (fun cdv A outer s H vs Q hcd gu0 hr h => ?_), bF⟩
  · obtain ⟨a, ns, rfl, _⟩ := h
    rfl
  · obtain ⟨a, ns, rfl, ha, hT, k⟩ := h
    have ecd := code_lam (W.lamOf (y := "law") (by simp [lamD, lamL])) hcd
    subst ecd
    have un := hr.un
    have gu : (A.deeper (envOfC "law" (defScope s_law) s.heap.objs.size (He.ga K "law") (.ref (lamC K "law")))).guards = some [] := gu0
    have room : (A.deeper (envOfC "law" (defScope s_law) s.heap.objs.size (He.ga K "law") (.ref (lamC K "law")))).units + 90 < cLine := by omega
    have hcode : (cxOf C8.CX0 P w K mg base ["_law_script", "_law_k", "_law_pool_here", "_law_book_here", "_law_names_here", "_law_right", "_law_build", "_law_text", "_law_turn", "_law_at", "_law_sign", "_law_bent", "_law_made_here", "_law_odd"] "law" (defScope s_law) (He.ga K "law") (.ref (lamC K "law")) A outer s H C8.E0).nox.env.code = .ref (lamC K "law") := rfl
    have TB := W.tbs "law" (by simp [lamD, lamL])
    have tm := tt_memP (K := K) (p := ("law", defScope s_law)) (by simp [lamL])
    have tu := W.uq (p := ("law", defScope s_law)) (by simp [lamL])
    refine ⟨_, (pss_cons (ps_for PassesOwn.never rfl (pi_range1 (by rfl) Z.b_range (pa_cons (pe_callB (call_max2 rfl) (by rfl) Z.b_max PyProof.Rows.boot_max (pa_cons pe_int (pa_cons (pe_callB (call_min2 rfl) (by rfl) Z.b_min PyProof.Rows.boot_min (pa_cons pe_int (pa_cons (pe_callB call_len (by rfl) Z.b_len PySem.boot_len (pa_cons (pv 0) pa_nil)) pa_nil))) pa_nil))) pa_nil)) (pg_name (i := 1) sc_law.nd rfl (Or.inl rfl)) (pss_cons (ps_set (i := 2) sc_law.nd rfl (Or.inl rfl) (pe_cal C_law_pool (hr.mono (by decide)) (by rfl) pass0 (pa_cons (pv 0) (pa_cons (pv 1) pa_nil))))
      (pss_cons (ps_set (i := 3) sc_law.nd rfl (Or.inl rfl) (pe_cal C_law_book (hr.mono (by decide)) (by rfl) pass0 (pa_cons (pv 2) (pa_cons pe_int (pa_cons (pe_cal C_law_take (hr.mono (by decide)) (by rfl) pass0 (pa_cons (pv 2) (pa_cons pe_int pa_nil))) pa_nil)))))
      (pss_cons (ps_asg (pe_tup (pa_cons (pe_cal C_law_made (hr.mono (by decide)) (by rfl) pass0 (pa_cons (pv 3) pa_nil)) (pa_cons (pe_cal C_law_names (hr.mono (by decide)) (by rfl) pass0 (pa_cons (pv 3) pa_nil)) (pa_cons pe_dnewK pa_nil)))) (pg_tup rfl (pgs_cons (pg_name (i := 12) sc_law.nd rfl (Or.inr rfl)) (pgs_cons (pg_name (i := 4) sc_law.nd rfl (Or.inl rfl)) (pgs_cons (pg_name (i := 5) sc_law.nd rfl (Or.inl rfl)) pgs_nil)))))
      (pss_cons (ps_for PassesOwn.never rfl (pi_seq (pe_cal C_law_subsets (hr.mono (by decide)) (by rfl) pass0 (pa_cons (pv 3) pa_nil))) (pg_name (i := 6) sc_law.nd rfl (Or.inl rfl)) (pss_cons (ps_set (i := 7) sc_law.nd rfl (Or.inl rfl) (pe_ifExp (pt_cmpR (op_neD hr.units) (pv 6) (pe_tup pa_nil) (nomark _)) (pe_joinK (K := K) rfl pe_str (pv 6)) pe_str))
      (pss_cons (ps_asg (pv 6) (pg_sub (pv 5) (pv 7) (L2.set_dict (hu_of hr))))
      (pss_one (ps_if (PW.pt (pw_or (pt_cmpR op_ne (pe_cal CWr (hr.mono (by decide)) (by rfl) passX0 (pa_cons (pv 6) pa_nil)) (pv 7) (nomark _)) (pw_or1 (pt_cmpR (op_neD hr.units) (pe_cal CR (hr.mono (by decide)) (by rfl) passX0 (pa_cons (pv 12) (pa_cons (pv 7) pa_nil))) (pv 6) (nomark _))))) (pss_one (ps_ret pe_bl)) pss_nil)))))
      (pss_cons (ps_for PassesOwn.never rfl (pi_range1 (by rfl) Z.b_range (pa_cons pe_int pa_nil)) (pg_name (i := 8) sc_law.nd rfl (Or.inl rfl)) (pss_cons (ps_set (i := 7) sc_law.nd rfl (Or.inl rfl) (pe_cal C_law_one (hr.mono (by decide)) (by rfl) pass0 (pa_cons (pv 2) (pa_cons (pe_callTy (call_listD rfl) (by rfl) Z.b_list PyProof.Rows.boot_list (pa_cons (pv 5) pa_nil)) pa_nil))))
      (pss_cons (ps_par (i := 9) (j := 10) (by rfl) sc_law.nd rfl rfl (by decide) rfl rfl (pa_cons (pe_cal C_law_take (hr.mono (by decide)) (by rfl) pass0 (pa_cons (pv 2) (pa_cons (pe_op op_add (pe_callB call_len (by rfl) Z.b_len PySem.boot_len (pa_cons (pv 7) pa_nil)) pe_int) pa_nil))) (pa_cons (pe_cal C_law_one (hr.mono (by decide)) (by rfl) pass0 (pa_cons (pv 2) (pa_cons (pe_lst (pa_cons pe_str (pa_cons pe_str (pa_cons pe_str (pa_cons pe_str (pa_cons pe_str (pa_cons pe_str pa_nil))))))) pa_nil))) pa_nil)) (by rfl))
      (pss_one (ps_for PassesOwn.never rfl (pi_seq (pe_lst (pa_cons (pe_op op_add_str (pe_op op_add_str (pe_slice sl_str (pv 7) po_none (po_some (pv 9))) (pv 10)) (pe_slice sl_str (pv 7) (po_some (pv 9)) po_none)) (pa_cons (pe_op op_add_str (pe_slice sl_str (pv 7) po_none (po_some (pv 9))) (pe_slice sl_str (pv 7) (po_some (pe_op op_add (pv 9) pe_int)) po_none)) (pa_cons (pe_joinK (K := K) rfl pe_str (pe_cal C_law_turned (hr.mono (by decide)) (by rfl) pass0 (pa_cons (pv 2) (pa_cons (pv 4) pa_nil)))) pa_nil))))) (pg_name (i := 11) sc_law.nd rfl (Or.inr rfl)) (pss_one (ps_if (pt_cmp (pc_din (hu_of hr) (pv 11) (pv 5))) (pss_one (ps_if (pt_cmpR (op_neD hr.units) (pe_cal CR (hr.mono (by decide)) (by rfl) passX0 (pa_cons (pv 12) (pa_cons (pv 11) pa_nil))) (pe_dget (hu_of hr) (pv 5) (pv 11) (fun _ _ => rfl)) (nomark _)) (pss_one (ps_ret pe_bl)) pss_nil)) (pss_one (ps_if (pt_cmpR (op_neD hr.units) (LamX.pe_lamcall (k := 10) (T := TTb K) (TT := TC K) (by rfl) Z.g_law_caught FT.kp lkT cgT bT sc_law_caught rfl (Or.inl rfl) (caught_gives W.w gu (by exact room)) TB hcode tm tu (hr.mono (by decide)) (show LamX.LamS (defScope s_law) _ from LamX.lamS_by (by decide +kernel)) rfl (fun _ _ _ _ _ => rfl) (fun A outer s H E f c2 hr2 => (pe_calK CR ⟨rfl, rfl, rfl, rfl, rfl⟩ (hr2.mono (by decide)) (by rfl) (pass_up (takes_of rfl rfl rfl rfl)) (pa_cons (pv 12) (pa_cons (pv 11) pa_nil))))) (pe_lst (pa_cons pe_str (pa_cons (pe_callB (show CallR _ _ (rRp K) from call_rp gu (room70 hr)) (by rfl) Z.b_repr PyProof.Rows.boot_repr (pa_cons (pv 11) pa_nil)) pa_nil))) (nomark _)) (pss_one (ps_ret pe_bl)) pss_nil)))))))))
      (pss_cons (ps_for PassesOwn.never rfl (pi_seq (pe_lst (pa_cons pe_non (pa_cons pe_int (pa_cons pe_str (pa_cons pe_str (pa_cons pe_str (pa_cons pe_str (pa_cons (pe_op op_add_str (pe_op op_add_str (pe_ix ix_list (pv 4) pe_int (fun _ _ => rfl)) pe_str) (pe_ix ix_list (pv 4) pe_int (fun _ _ => rfl))) (pa_cons (pe_tup (pa_cons (pe_ix ix_list (pv 4) pe_int (fun _ _ => rfl)) pa_nil)) (pa_cons (pe_lst (pa_cons (pe_ix ix_list (pv 4) pe_int (fun _ _ => rfl)) pa_nil)) pa_nil))))))))))) (pg_name (i := 13) sc_law.nd rfl (Or.inr rfl)) (pss_one (ps_if (pt_cmpR (op_neD hr.units) (LamX.pe_lamcall (k := 10) (T := TTb K) (TT := TC K) (by rfl) Z.g_law_caught FT.kp lkT cgT bT sc_law_caught rfl (Or.inl rfl) (caught_gives W.w gu (by exact room)) TB hcode tm tu (hr.mono (by decide)) (show LamX.LamS (defScope s_law) _ from LamX.lamS_by (by decide +kernel)) rfl (fun _ _ _ _ _ => rfl) (fun A outer s H E f c2 hr2 => (pe_calK CR ⟨rfl, rfl, rfl, rfl, rfl⟩ (hr2.mono (by decide)) (by rfl) (pass_up (takes_of rfl rfl rfl rfl)) (pa_cons (pv 12) (pa_cons (pv 13) pa_nil))))) (pe_lst (pa_cons pe_str (pa_cons (pe_callB (show CallR _ _ (rRp K) from call_rp gu (room70 hr)) (by rfl) Z.b_repr PyProof.Rows.boot_repr (pa_cons (pv 13) pa_nil)) pa_nil))) (nomark _)) (pss_one (ps_ret pe_bl)) pss_nil)))
      (pss_cons (ps_for PassesOwn.never rfl (pi_seq (pe_lst (pa_cons pe_non (pa_cons pe_int (pa_cons pe_str (pa_cons (pe_lst (pa_cons (pe_ix ix_list (pv 4) pe_int (fun _ _ => rfl)) pa_nil)) (pa_cons (pe_tup (pa_cons pe_non pa_nil)) (pa_cons (pe_tup (pa_cons pe_str pa_nil)) (pa_cons (pe_tup (pa_cons (pe_ix ix_list (pv 4) pe_int (fun _ _ => rfl)) (pa_cons pe_int pa_nil))) (pa_cons (pe_disp (pps_cons (pe_ix ix_list (pv 4) pe_int (fun _ _ => rfl)) pe_int pps_nil) (by rfl) (by rfl) (fun z => by cases z) (by decide)) pa_nil)))))))))) (pg_name (i := 13) sc_law.nd rfl (Or.inr rfl)) (pss_one (ps_if (pt_cmpR (op_neD hr.units) (LamX.pe_lamcall (k := 10) (T := TTb K) (TT := TC K) (by rfl) Z.g_law_caught FT.kp lkT cgT bT sc_law_caught rfl (Or.inl rfl) (caught_gives W.w gu (by exact room)) TB hcode tm tu (hr.mono (by decide)) (show LamX.LamS (defScope s_law) _ from LamX.lamS_by (by decide +kernel)) rfl (fun _ _ _ _ _ => rfl) (fun A outer s H E f c2 hr2 => (pe_calK CWr ⟨rfl, rfl, rfl, rfl, rfl⟩ (hr2.mono (by decide)) (by rfl) (pass_up (takes_of rfl rfl rfl rfl)) (pa_cons (pv 13) pa_nil)))) (pe_lst (pa_cons pe_str (pa_cons (pe_callB (show CallR _ _ (rRp K) from call_rp gu (room70 hr)) (by rfl) Z.b_repr PyProof.Rows.boot_repr (pa_cons (pv 13) pa_nil)) pa_nil))) (nomark _)) (pss_one (ps_ret pe_bl)) pss_nil)))
      (pss_one (ps_if (pt_cmpR op_ne (pe_cal CWr (hr.mono (by decide)) (by rfl) passX0 (pa_cons (pe_tup (pa_cons pe_str (pa_cons (pe_ix ix_list (pv 4) pe_int (fun _ _ => rfl)) pa_nil))) pa_nil)) (pe_op op_add_str pe_str (pe_ix ix_list (pv 4) pe_int (fun _ _ => rfl))) (nomark _)) (pss_one (ps_ret pe_bl)) pss_nil))))))))))
      (pss_one (ps_ret pe_bl))), ?_⟩
    refine for_rng_by (fun n H' => 0 ≤ n ∧ n ≤ 8 ∧ H' = H) (fun Q kQ => ?_) ?_
    · refine ⟨_, rfl, _, (ns.map V.int).length, rfl, .inl ⟨_, ha, rfl⟩, _, _, rfl, _, _, rfl, kQ _ _ ⟨?_, ?_, rfl⟩⟩
      · split <;> split <;> omega
      · split <;> split <;> omega
    rintro n H' ⟨n0, n1, rfl⟩
    refine ⟨by omega, by omega, fun i σ G => ∃ s1 s2 s3 s4 s5 s6 s7 s8 s9 s10 s11 s12 s13 : Option V, σ = [some (.ref a), s1, s2, s3, s4, s5, s6, s7, s8, s9, s10, s11, s12, s13] ∧ ExtT (TTb K) H' G, ⟨none, none, none, none, none, none, none, none, none, none, none, none, none, rfl, ExtT.refl _⟩, ?_, ?_⟩
    · rintro i σ G0 hi ⟨s1, s2, s3, s4, s5, s6, s7, s8, s9, s10, s11, s12, s13, rfl, e0⟩
      have ha0 := sqL_xn e0.xn ha
      have hT0 := e0.tab hT
      refine ⟨_, rfl, _, rfl, a, ns, _, rfl, ha0, by omega, by omega, fun p G1 np s01 pool1 => ?_⟩
      refine ⟨_, rfl, _, rfl, p, 5, rfl, pool1, by decide, by decide, fun srt G2 r0 r4 af2 => ?_⟩
      refine ⟨p, 6, srt, rfl, af2.pool, by decide, by decide, r0, by omega, fun d B G3 nd3 af3 bk3 okb => ?_⟩
      have ok := okb.r
      have oks : Oks B.ns := okb.sk.oks
      have dr : Drawn B.ns := okb.sk.names
      have A3 := af2.trans af3
      have l7 : B.ns.length ≤ 7 := by
        have := okb.sk.le
        rw [List.length_map]
        omega
      refine ⟨_, rfl, d, B, rfl, bk3, ok, fun x at4 G4 nx s34 b4 => ?_⟩
      refine ⟨_, rfl, d, B, rfl, bk3.ext s34, by have := okb.sk.le; omega, fun nm G5 nn s45 hnm => ?_⟩
      refine fun rd nrd => ⟨(by show 3 ≤ sizeLine; decide), fun tq ntq => ?_⟩
      have sr := Same.new (o := .dK []) nrd
      have hrd : (upd G5 rd (.dK [])) rd = some (.dK []) := upd_same
      generalize upd G5 rd (.dK []) = G6 at sr hrd ntq ⊢
      have st := Same.new (o := .tup [.ref x, .ref nm, .ref rd]) ntq
      have htq : (upd G6 tq (.tup [.ref x, .ref nm, .ref rd])) tq = some (.tup [.ref x, .ref nm, .ref rd]) := upd_same
      generalize upd G6 tq (.tup [.ref x, .ref nm, .ref rd]) = G7 at st htq ⊢
      refine ⟨tq, _, rfl, SqT.of htq, rfl, _, _, rfl, _, _, rfl, _, _, rfl, rfl, ?_⟩
      have s35 := s34.trans s45
      have A5 := A3.same s35
      have P5 := A5.pool
      have bk5 := bk3.ext s35
      have b5 := b4.same s45
      have s57 := sr.trans st
      have bk7 := bk5.ext s57
      have hrd7 := st _ _ hrd
      have rdp : rd ≠ p := P5.ne nrd
      have nmp : nm ≠ p := ((A3.same s34).pool.ne nn)
      have e05 : ExtT (TTb K) G0 G5 := (ExtT.of (T := TTb K) s01).aft np pool1 A5
      clear htq s34 s45 sr st hrd b4 bk3 A3 nx nn ntq s35
      have isw := drawn_word dr
      have okc : ∀ {e : List Str}, e.Sublist B.ns → ∀ z ∈ e, PyData.strOk z = true := fun {e} he z hz => oks z (he.subset hz)
      -- all builds, written and read
      dsimp only [gName, tSeq, tNext, tIfS, tAsg]
      refine ⟨_, rfl, d, B, rfl, bk7, ok, oks, fun ls G8 xs nls s78 hls pls => ?_⟩
      have sl : (subsB B.ns).length ≤ 128 := by
        unfold subsB
        rw [List.length_map]
        exact Nat.le_trans (found_len B.ns B.ns.length) (Nat.pow_le_pow_right (n := 2) (by decide) l7)
      have xl := Paired.length pls
      have s58 := s57.trans s78
      have hrd8 := s78 _ _ hrd7
      have ndS := subs_nodup ok.nd'
      refine ⟨ls, rfl, .inl ⟨⟨_, SqL.of hls⟩, ?_⟩⟩
      refine for_list (K := K) (a := ls) (xs := xs) (fun h σ G => ∃ s6 s7 : Option V, σ = [some (.ref a), some (.int (0 + (i : Nat))), some (.ref p), some (.ref d), some (.ref nm), some (.ref rd), s6, s7, s8, s9, s10, s11, some (.ref x), s13] ∧ Kp rd G8 G ∧ Same G5 G ∧ RtAt G rd ((subsB B.ns).take h)) ⟨_, _, rfl, Kp.of (Same.refl _), s58, [], hrd8, .nil⟩ (fun h σ G _ ⟨_, _, _, q, _, _⟩ => SqL.of (q _ _ hls (ne_of hls hrd8 (by intro z; cases z)))) ?_ ?_
      · rintro h v σ G hh ⟨s6', s7', rfl, kp, s5G, kvs, hk, pk⟩
        obtain ⟨b, hb, t, rfl, ht⟩ := paired_at pls hh
        have htG := kp.tk hrd8 _ _ ht
        have sub := (mem_subs ok.nd').mp (List.mem_of_getElem? hb)
        have wb : ∀ z ∈ b, isWord (.str z) = true := fun z hz => isw z (sub.subset hz)
        have b60 : b.length ≤ 60 := Nat.le_trans sub.length_le (by omega)
        have t40 := text_40 dr sub
        have smb : Sm (.tuple (b.map PyData.str)) := sm_strs (okc sub)
        dsimp only [gName, tSeq, tNext, tIfS, tAsg]
        refine by_ (fun v G' => v = .str (textB b) ∧ Same G G') (fun Q kQ => ?_) ?_
        · refine ⟨_, rfl, Nat.zero_le _, fun em nem => ?_⟩
          have se := Same.new (o := .tup []) nem
          refine ⟨.tuple (b.map PyData.str), .tuple [], .tup (SqT.of (se _ _ htG)) (dpAll_strs _), .tup (SqT.of upd_same) .nil, shaped_of smb.1 (Nat.le_trans smb.2 (by decide)), by rfl, ?_⟩
          generalize upd G em (.tup []) = G' at se ⊢
          have ee : PyData.eqv (.tuple (b.map PyData.str)) (.tuple []) = decide (b = []) := by
            have := eqv_strs b []
            simp only [PyData.eqv]
            exact this
          rw [ee]
          refine ⟨_, rfl, ?_⟩
          by_cases z : b = []
          · refine ifF (by rw [decide_eq_true z]; rfl) (kQ _ _ ⟨?_, se⟩)
            rw [show textB b = "-" from if_pos z]
          · refine ifT (by rw [decide_eq_false z]; rfl) ?_
            have ws := words_sum wb
            refine ⟨⟨_, rfl⟩, _, rfl, " ", t, b, rfl, rfl, .inr (SqT.of (se _ _ htG)), ?_, kQ _ _ ⟨?_, se⟩⟩
            · show _ + _ * 1 ≤ _
              omega
            · rw [show textB b = Txt.join blank b from if_neg z]
              rfl
        rintro v G1' ⟨rfl, s1'⟩
        have hk1 := s1' _ _ hk
        have pl := Paired.length pk
        have tl := List.length_take_le' h (subsB B.ns)
        have bdk : b ∉ (subsB B.ns).take h := fun m => by
          have nd := ndS
          rw [← List.take_append_drop (h + 1) (subsB B.ns), take_one hb, List.append_assoc, List.nodup_append] at nd
          exact nd.2.2 b m b (by simp) rfl
        have nk : (Sum.inr (textB b) : Key) ∉ kvs.map (·.1) := fun m => by
          rw [rt_keys pk] at m
          obtain ⟨c, hc, e⟩ := List.mem_map.mp m
          have e : textB c = textB b := Sum.inr.inj e
          have wc : ∀ z ∈ c, isWord (.str z) = true := fun z hz => isw z (((mem_subs ok.nd').mp (List.mem_of_mem_take hc)).subset hz)
          have := parts_text wc
          rw [e, parts_text wb] at this
          rw [this] at bdk
          exact bdk hc
        refine ⟨_, rfl, _, rfl, _, rfl, rd, _, rfl, DPut.k (k := .inr (textB b)) hk1 (by rw [sizeLine_eq]; omega), ?_⟩
        rw [putK_new nk]
        have hk2 : (upd G1' rd (.dK (kvs ++ [(.inr (textB b), .ref t)]))) rd = some (.dK (kvs ++ [(.inr (textB b), .ref t)])) := upd_same
        have kp2 : Kp rd G8 (upd G1' rd (.dK (kvs ++ [(.inr (textB b), .ref t)]))) := fun c o hc n => by
          rw [upd_ne n]
          exact s1' _ _ (kp _ _ hc n)
        have s52 : Same G5 (upd G1' rd (.dK (kvs ++ [(.inr (textB b), .ref t)]))) := fun c o hc => (upd_ne (ne_of_none hc nrd)).trans (s1' _ _ (s5G _ _ hc))
        have tk2 : Tk G (upd G1' rd (.dK (kvs ++ [(.inr (textB b), .ref t)]))) := (Tk.of s1').trans (Kp.tk (r := rd) (fun c o hc n => by rw [upd_ne n]; exact hc) hk1)
        have pk2 := paired_snocR (paired_monoR tk2 pk) ⟨t, rfl, tk2 _ _ htG⟩
        generalize upd G1' rd (.dK (kvs ++ [(.inr (textB b), .ref t)])) = G2' at hk2 kp2 s52 tk2 pk2 ⊢
        have ht2 := tk2 _ _ htG
        have b2 := b5.same s52
        dsimp only [gName, tSeq, tNext, tIfS, tAsg]
        have ovb : Ov K G2' (.ref t) (some (b.map V.str)) := ov_tup ht2 b60
        have wob : wordsO (some (b.map V.str)) = true := by
          show (b.map V.str).all isWord = true
          rw [List.all_map, List.all_eq_true]
          exact fun z hz => wb z hz
        refine ⟨_, rfl, .ref t, some (b.map V.str), rfl, ovb, fun xs e z hz => ?_, fun _ G3' s3' => ?_, fun e => ?_⟩
        · injection e with e
          subst e
          obtain ⟨y, hy, ey⟩ := List.mem_map.mp hz
          injection ey with ey
          subst ey
          have := (word_tl (wb y hy)).2.2
          omega
        · rw [show bO (some (b.map V.str)) = b from strsOf_map b]
          refine ⟨_, rfl, rfl, _, rfl, ifF (by rw [decide_eq_true rfl]; rfl) ?_⟩
          have ep := parts_text wb
          refine ⟨_, rfl, _, rfl, x, .str (textB b), "str", B, at4, rfl, b2.same s3', ok, oks, .str _, fun t' et => ?_, fun h => absurd rfl h⟩
          injection et with et
          subst et
          refine ⟨by omega, fun ho q G4' s4' nq hq => ?_, fun ho => ?_⟩
          · rw [ep] at hq
            refine ⟨_, rfl, .tuple (b.map .str), .tuple (b.map .str), .tup (SqT.of hq) (dpAll_strs _), .tup (SqT.of (s4' _ _ (s3' _ _ ht2))) (dpAll_strs _), shaped_of smb.1 (Nat.le_trans smb.2 (by decide)), shaped_of smb.1 (Nat.le_trans smb.2 (by decide)), ?_⟩
            rw [show PyData.eqv (.tuple (b.map PyData.str)) (.tuple (b.map PyData.str)) = true by simp only [PyData.eqv]; rw [eqv_strs, decide_eq_true rfl]]
            refine ⟨_, rfl, ifF rfl ?_⟩
            have s24 := s3'.trans s4'
            refine ⟨_, _, rfl, kp2.trans (Kp.of s24), s52.trans s24, ?_⟩
            rw [take_one hb]
            exact RtAt.same ⟨_, hk2, pk2⟩ s24
          · rw [ep, ord_sub ok.nd' sub] at ho
            cases ho
        · rw [wob] at e
          cases e
      · rintro σ G ⟨s6, s7, rfl, kp, s5G, rt⟩
        rw [xl, List.take_length] at rt
        obtain ⟨kvs, hk, pk⟩ := rt
        have bG := b5.same s5G
        have PG := P5.same s5G
        have hnmG := s5G _ _ hnm
        have eG : ExtT (TTb K) G0 G := e05.trans (ExtT.of s5G)
        have TG := eG.tab hT0
        have pl := Paired.length pk
        have kpos : 0 < kvs.length := by
          have := List.length_pos_of_mem (subs_nil B.ns)
          omega
        clear kp bk7 hrd7 hrd8 hls pls xl nls s78 s57 s58 bk5 b5 A5 P5 e05 hnm
        -- bent texts
        dsimp only [gName, tSeq, tNext, tIfS]
        refine ⟨6, rfl, by decide, by decide, ?_⟩
        refine for_range (lo := 0) (n := 6) (fun j σ J => ∃ s7 s8 s9 s10 s11 : Option V, σ = [some (.ref a), some (.int (0 + (i : Nat))), some (.ref p), some (.ref d), some (.ref nm), some (.ref rd), s6, s7, s8, s9, s10, s11, some (.ref x), s13] ∧ AftT (TTb K) p G J) ⟨_, _, _, _, _, rfl, .refl PG⟩ ?_ ?_
        · rintro j σ J hj ⟨s7', s8', s9', s10', s11', rfl, AJ⟩
          dsimp only [gName, tSeq, tNext, tIfS]
          have hkJ : J rd = some (.dK kvs) := AJ.keep _ _ rdp hk fun _ z => by cases z
          refine ⟨_, rfl, _, rfl, rd, kvs, rfl, .inl hkJ, fun lk nlk => ?_⟩
          have AK := AJ.same (Same.new (o := .lst (kvs.map fun kv => L2.kV kv.1)) nlk)
          have hlk : (upd J lk (.lst (kvs.map fun kv => L2.kV kv.1))) lk = some (.lst (kvs.map fun kv => L2.kV kv.1)) := upd_same
          have lkp : lk ≠ p := AJ.pool.ne nlk
          generalize upd J lk (.lst (kvs.map fun kv => L2.kV kv.1)) = J1 at AK hlk ⊢
          refine ⟨p, lk, _, rfl, AK.pool, SqL.of hlk, lkp, by rw [List.length_map]; exact kpos, by rw [List.length_map]; omega, fun v J2 hv af2' => ?_⟩
          have A2 := AK.turn af2'
          obtain ⟨kv, hkv, rfl⟩ := List.mem_map.mp hv
          obtain ⟨b, hb, ekv⟩ : ∃ b ∈ subsB B.ns, kv.1 = Sum.inr (textB b) := by
            have := List.mem_map_of_mem (f := (·.1)) hkv
            rw [rt_keys pk] at this
            obtain ⟨b, hb, e⟩ := List.mem_map.mp this
            exact ⟨b, hb, e.symm⟩
          have sub := (mem_subs ok.nd').mp hb
          have t40 := text_40 dr sub
          have wb : ∀ z ∈ b, isWord (.str z) = true := fun z hz => isw z (sub.subset hz)
          rw [ekv]
          obtain ⟨t, et⟩ : ∃ t, t = textB b := ⟨_, rfl⟩
          show gName 7 (.str (textB b)) _ _ _
          rw [← et] at t40 ⊢
          have at0 : asc t = true := by
            rw [et]
            unfold textB
            split
            · decide +kernel
            · rw [tj]
              exact asc_join b fun z hz => asc_word (wb z hz)
          dsimp only [gName]
          dsimp only [tSeq]
          refine ⟨_, rfl, _, rfl, .str t, t.length, rfl, ⟨by rw [sizeLine_eq]; omega, rfl⟩, _, _, rfl, rfl, p, _, rfl, A2.pool, by omega, by omega, fun at_ J3 a0 a1 af3 => ?_⟩
          have A3 := A2.turn af3
          refine ⟨_, rfl, (by show 6 ≤ sizeLine; decide), fun sl' nsl => ?_⟩
          have AS := A3.same (Same.new (o := .lst [.str " ", .str "a", .str "-", .str "A", .str "z", .str "\n"]) nsl)
          have hsl : (upd J3 sl' (.lst [.str " ", .str "a", .str "-", .str "A", .str "z", .str "\n"])) sl' = some (.lst [.str " ", .str "a", .str "-", .str "A", .str "z", .str "\n"]) := upd_same
          have slp : sl' ≠ p := A3.pool.ne nsl
          generalize upd J3 sl' (.lst [.str " ", .str "a", .str "-", .str "A", .str "z", .str "\n"]) = J3' at AS hsl ⊢
          refine ⟨p, sl', _, rfl, AS.pool, SqL.of hsl, slp, by show 0 < 6; decide, by show 6 ≤ 1000; decide, fun sg J4 hsg af4 => ⟨_, _, rfl, ?_⟩⟩
          have A4 := AS.turn af4
          obtain ⟨c, rfl, cl, ca⟩ : ∃ c : Str, sg = .str c ∧ c.length ≤ 1 ∧ asc c = true := by
            simp only [List.mem_cons, List.not_mem_nil, or_false] at hsg
            rcases hsg with e | e | e | e | e | e <;> exact ⟨_, e, by decide +kernel, by decide +kernel⟩
          have l1 := cut_lo (t := t) a0 (by omega)
          have l2 := cut_hi (t := t) a0
          have l3 := cut_hi (t := t) (a := at_ + 1) (by omega)
          have hnm4 := A4.ls nmp hnmG
          have zt : t.length ≤ sizeLine := by rw [sizeLine_eq]; omega
          dsimp only [gName, tSeq, tNext, tIfS]
          refine ⟨_, rfl, _, rfl, at_, rfl, t, rfl, zt, _, rfl, _, _, rfl, rfl, by rw [sizeLine_eq]; omega, ?_⟩
          refine ⟨_, rfl, _, rfl, at_, rfl, t, rfl, zt, _, _, rfl, rfl, by rw [Str.length_append, sizeLine_eq]; omega, ?_⟩
          refine ⟨_, rfl, _, rfl, at_, rfl, t, rfl, zt, ?_⟩
          refine ⟨_, rfl, _, rfl, _, _, rfl, rfl, _, rfl, t, rfl, zt, _, _, rfl, rfl, by rw [sizeLine_eq]; omega, ?_⟩
          refine ⟨⟨_, rfl⟩, _, rfl, _, rfl, p, nm, B.ns, rfl, A4.pool, SqL.of hnm4, oks, nmp, by omega, fun q ys J5 nq af5 hq pm => ⟨" ", q, ys, rfl, rfl, .inl (SqL.of hq), ?_, ?_⟩⟩
          · have h1 := drawn_sum dr l7
            have h3 : (ys.map (·.length)).sum = (B.ns.map (·.length)).sum := (pm.map _).sum_nat
            have h4 := pm.length_eq
            show _ + _ * 1 ≤ _
            omega
          have A5 := A4.turn af5
          have j40 := join_40 dr l7 pm
          have ja : asc (Txt.join " " ys) = true := by
            rw [tj]
            exact asc_join ys fun z hz => asc_word (isw z (pm.mem_iff.mp hz))
          have j40 : (Txt.join " " ys).length ≤ 40 := j40
          have all : ∀ v ∈ [V.str (cutS t none (some at_) ++ c ++ cutS t (some at_) none), .str (cutS t none (some at_) ++ cutS t (some (at_ + 1)) none), .str (Txt.join " " ys)], ∃ u, v = .str u ∧ asc u = true ∧ u.length ≤ 50 := fun v hv => by
            simp only [List.mem_cons, List.not_mem_nil, or_false] at hv
            rcases hv with rfl | rfl | rfl
            · refine ⟨_, rfl, by rw [asc_app, asc_app, asc_cut at0, asc_cut at0, ca]; rfl, ?_⟩
              rw [Str.length_append, Str.length_append]
              omega
            · refine ⟨_, rfl, by rw [asc_app, asc_cut at0, asc_cut at0]; rfl, ?_⟩
              rw [Str.length_append]
              omega
            · exact ⟨_, rfl, ja, by omega⟩
          refine ⟨(by show 3 ≤ sizeLine; decide), fun bl nbl => ?_⟩
          generalize [V.str (cutS t none (some at_) ++ c ++ cutS t (some at_) none), .str (cutS t none (some at_) ++ cutS t (some (at_ + 1)) none), .str (Txt.join " " ys)] = us at all ⊢
          have AB := A5.same (Same.new (o := .lst us) nbl)
          have hbl : (upd J5 bl (.lst us)) bl = some (.lst us) := upd_same
          generalize upd J5 bl (.lst us) = JB at AB hbl ⊢
          have bB := AB.book PG bG
          have TJ := AB.tab TG
          have hkB : JB rd = some (.dK kvs) := AB.keep _ _ rdp hk fun _ z => by cases z
          have pkB := paired_monoR (AB.tk PG) pk
          refine ⟨bl, rfl, .inl ⟨⟨_, SqL.of hbl⟩, ?_⟩⟩
          refine for_list (K := K) (a := bl) (xs := us) (fun h σ J => ∃ s11 : Option V, σ = [some (.ref a), some (.int (0 + (i : Nat))), some (.ref p), some (.ref d), some (.ref nm), some (.ref rd), s6, some (.str t), some (.int (0 + (j : Nat))), some (.int at_), some (.str c), s11, some (.ref x), s13] ∧ ExtT (TTb K) JB J) ⟨_, rfl, ExtT.refl _⟩ (fun h σ J _ ⟨_, _, e⟩ => SqL.of (xls e.xn hbl)) ?_ ?_
          · rintro h v σ Jh hh ⟨s11, rfl, eh⟩
            obtain ⟨u, rfl, ua, ul⟩ := all v (List.mem_of_getElem? hh)
            have hkh : Jh rd = some (.dK kvs) := xdk eh.xn hkB
            have bh := bB.xn eh.xn
            have hTh := eh.tab TJ
            have pkh := paired_monoR (xtks eh.xn) pkB
            obtain ⟨tx1, tx2⟩ := text_of dr ok.nd' u
            dsimp only [gName, tSeq, tIfS, tNext]
            refine ⟨_, rfl, _, rfl, rd, _, rfl, DGet.k (k := .inr u) hkh, _, rfl, ?_⟩
            rcases rt_val pkh u with ⟨h1, h2⟩ | ⟨b', hb', e1', q2, h1, h2⟩
            · rw [h1]
              refine ifF rfl ?_
              obtain ⟨t0, rp, tok⟩ : Tl K Jh (.str u) := Tl.of (.str u) (fits_asc ua (by omega))
              have sh := sh_told (w := "note") (by decide +kernel) tok
              refine by_tt (fun c G => c = false ∧ ExtT (TTb K) Jh G) (fun Q kQ => ?_) ?_
              · refine ⟨hTh, fun J1 e1 u1 => ?_⟩
                refine ⟨_, rfl, _, rfl, x, .str u, "str", B, at4, rfl, bh.xn e1, ok, oks, .str _, fun t' et' => ?_, fun h => absurd rfl h⟩
                injection et' with et'
                subst et'
                refine ⟨ul, fun ho => absurd (text_parts u) (h2 _ (tx1 ho)), fun _ G2 s2 => told_made (.inr ⟨rfl, rfl, rfl⟩) (rp.xn (e1.trans (ExtN.of s2))) fun L1 G3 s3 hL1 => ?_⟩
                have E3 : ExtT (TTb K) Jh G3 := ⟨(e1.trans (ExtN.of s2)).trans (ExtN.of s3), fun _ => (u1.ext s2).ext s3⟩
                refine ⟨_, rfl, .str u, t0, rfl, rp.xn E3.xn, (by show 2 ≤ sizeLine; decide), fun l1 nl1 => ?_⟩
                have r1 := Same.new (o := .lst [.str "note", .str t0]) nl1
                refine ⟨_, _, .lst (SqL.of (r1 _ _ hL1)) (.cons (.str _) (.cons (.str _) .nil)), .lst (SqL.of upd_same) (.cons (.str _) (.cons (.str _) .nil)), sh, sh, ?_⟩
                rw [SeqAt.eqv_refl _ (SeqAt.canLay_of_shaped sh)]
                exact ⟨_, rfl, kQ _ _ ⟨rfl, E3.trans (ExtT.of r1)⟩⟩
              rintro cc G1 ⟨rfl, eg⟩
              exact ifF rfl ⟨_, rfl, eh.trans eg⟩
            · rw [h1]
              obtain ⟨o1, o2⟩ := tx2 b' hb' e1'
              have sub' := (mem_subs ok.nd').mp hb'
              have smb' : Sm (.tuple (b'.map PyData.str)) := sm_strs (okc sub')
              refine ifT rfl ?_
              refine ⟨_, rfl, _, rfl, x, .str u, "str", B, at4, rfl, bh, ok, oks, .str _, fun t' et' => ?_, fun h => absurd rfl h⟩
              injection et' with et'
              subst et'
              refine ⟨ul, fun _ q J6 s6' nq hq => ?_, fun ho => by rw [o1] at ho; cases ho⟩
              rw [o2] at hq
              have hk6 := s6' _ _ hkh
              have dg : DGet J6 rd (.str u) (some (.ref q2)) := by
                have := DGet.k (k := .inr u) hk6
                rw [h1] at this
                exact this
              refine ⟨_, rfl, _, rfl, rd, .ref q2, rfl, dg, .tuple (b'.map .str), .tuple (b'.map .str), .tup (SqT.of hq) (dpAll_strs _), .tup (SqT.of (s6' _ _ h2)) (dpAll_strs _), shaped_of smb'.1 (Nat.le_trans smb'.2 (by decide)), shaped_of smb'.1 (Nat.le_trans smb'.2 (by decide)), ?_⟩
              rw [show PyData.eqv (.tuple (b'.map PyData.str)) (.tuple (b'.map PyData.str)) = true by simp only [PyData.eqv]; rw [eqv_strs, decide_eq_true rfl]]
              exact ⟨_, rfl, ifF rfl ⟨_, rfl, eh.trans (ExtT.of s6')⟩⟩
          · rintro σ Jh ⟨s11, rfl, eh⟩
            exact ⟨_, _, _, _, _, rfl, AB.then eh⟩
        · rintro σ J ⟨s7', s8', s9', s10', s11', rfl, AJ⟩
          -- texts of no build
          dsimp only [gName, tSeq, tNext, tIfS]
          have hnmJ := AJ.ls nmp hnmG
          have TJ := AJ.tab TG
          have bJ := AJ.book PG bG
          obtain ⟨n0, ns1, en⟩ : ∃ n0 ns1, B.ns = n0 :: ns1 := by
            cases e : B.ns with
            | cons a b => exact ⟨a, b, rfl⟩
            | nil =>
              have := ok.sk.ne
              have e : B.ns.length = 0 := by rw [e]; rfl
              rw [List.length_map] at e
              omega
          have n0in : n0 ∈ B.ns := by rw [en]; exact List.mem_cons_self
          have w0 := isw n0 n0in
          have l0 := (word_tl w0).2.2
          have at0 : atI (B.ns.map V.str) 0 = some (.str n0) := by rw [en]; exact at_of (j := 0) rfl rfl
          obtain ⟨z1, z2, z3, z4⟩ := name_fits dr n0in
          refine ⟨_, rfl, nm, _, 0, .str n0, rfl, rfl, SqL.of hnmJ, at0, _, _, rfl, rfl, by rw [sizeLine_eq]; have : (" " : Str).length = 1 := rfl; omega, _, rfl, nm, _, 0, .str n0, rfl, rfl, SqL.of hnmJ, at0, _, _, rfl, rfl, by rw [Str.length_append, sizeLine_eq]; have : (" " : Str).length = 1 := rfl; omega, _, rfl, nm, _, 0, .str n0, rfl, rfl, SqL.of hnmJ, at0, (by show 1 ≤ sizeLine; decide), fun tp ntp => ?_⟩
          have u1 := Same.new (o := .tup [.str n0]) ntp
          have htp : (upd J tp (.tup [.str n0])) tp = some (.tup [.str n0]) := upd_same
          generalize upd J tp (.tup [.str n0]) = J1 at u1 htp ⊢
          refine ⟨_, rfl, nm, _, 0, .str n0, rfl, rfl, SqL.of (u1 _ _ hnmJ), at0, (by show 1 ≤ sizeLine; decide), fun lq nlq => ?_⟩
          have u2 := Same.new (o := .lst [.str n0]) nlq
          have hlq : (upd J1 lq (.lst [.str n0])) lq = some (.lst [.str n0]) := upd_same
          generalize upd J1 lq (.lst [.str n0]) = J2 at u2 hlq ⊢
          refine ⟨(by show 9 ≤ sizeLine; decide), fun L nL => ?_⟩
          have u3 := Same.new (o := .lst [.non, .int 5, .str "", .str " ", .str "nobody", .str "- -", .str (n0 ++ " " ++ n0), .ref tp, .ref lq]) nL
          have hL : (upd J2 L (.lst [.non, .int 5, .str "", .str " ", .str "nobody", .str "- -", .str (n0 ++ " " ++ n0), .ref tp, .ref lq])) L = some (.lst [.non, .int 5, .str "", .str " ", .str "nobody", .str "- -", .str (n0 ++ " " ++ n0), .ref tp, .ref lq]) := upd_same
          generalize upd J2 L (.lst [.non, .int 5, .str "", .str " ", .str "nobody", .str "- -", .str (n0 ++ " " ++ n0), .ref tp, .ref lq]) = J3 at u3 hL ⊢
          have u13 := (u1.trans u2).trans u3
          have hS : ∀ {t : Str}, asc t = true → t.length ≤ 50 → ordO B.ns (some ((partsT t).map V.str)) = false → OddR K B J3 (.str t) := fun {t} h1 h2 h3 => ⟨_, .str t, fun t' e => by injection e with e; subst e; exact ⟨h2, h3⟩, Tl.of (.str t) (fits_asc h1 (by omega))⟩
          have all : ∀ v ∈ ([.non, .int 5, .str "", .str " ", .str "nobody", .str "- -", .str (n0 ++ " " ++ n0), .ref tp, .ref lq] : List V), OddR K B J3 v := fun v hv => by
            simp only [List.mem_cons, List.not_mem_nil, or_false] at hv
            rcases hv with rfl | rfl | rfl | rfl | rfl | rfl | rfl | rfl | rfl
            · exact ⟨_, .non, (fun t e => nomatch e), Tl.of .non (by decide +kernel)⟩
            · exact ⟨_, .int 5, (fun t e => nomatch e), Tl.of (.int 5) (by decide +kernel)⟩
            · exact hS (by decide +kernel) (by decide +kernel) (by rw [parts_e]; exact nord_word dr (z := "") (by simp) (by decide +kernel))
            · exact hS (by decide +kernel) (by decide +kernel) (by rw [parts_s]; exact nord_word dr (z := "") (by simp) (by decide +kernel))
            · exact hS (by decide +kernel) (by decide +kernel) (by rw [parts_n]; exact nord fun h => absurd rfl (name_fits (a := "nobody") dr (h.subset List.mem_cons_self)).2.2.1)
            · exact hS (by decide +kernel) (by decide +kernel) (by rw [parts_h]; exact nord_word dr (z := "-") (by simp) (by decide +kernel))
            · refine hS (by rw [asc_app, asc_app, asc_word w0]; decide +kernel) ?_ (by rw [parts_two w0]; exact two_no ok.nd')
              rw [Str.length_append, Str.length_append]
              have : (" " : Str).length = 1 := rfl
              omega
            · exact ⟨_, .tup (SqT.of ((u2.trans u3) _ _ htp)), (fun t e => nomatch e), Tl.of (.tup (SqT.of ((u2.trans u3) _ _ htp)) (dpAll_strs [n0])) (sub_fits dr (List.singleton_sublist.mpr n0in))⟩
            · exact ⟨_, .lst (u3 _ _ hlq), (fun t e => nomatch e), Tl.of (.lst (SqL.of (u3 _ _ hlq)) (dpAll_strs [n0])) z2⟩
          generalize ([.non, .int 5, .str "", .str " ", .str "nobody", .str "- -", .str (n0 ++ " " ++ n0), .ref tp, .ref lq] : List V) = ks at hL all ⊢
          have T3 := TJ.ext u13
          have b3 := bJ.same u13
          refine ⟨L, rfl, .inl ⟨⟨_, SqL.of hL⟩, ?_⟩⟩
          refine for_list (K := K) (a := L) (xs := ks) (fun h σ G => ∃ s13 : Option V, σ = [some (.ref a), some (.int (0 + (i : Nat))), some (.ref p), some (.ref d), some (.ref nm), some (.ref rd), s6, s7', s8', s9', s10', s11', some (.ref x), s13] ∧ ExtT (TTb K) J3 G) ⟨_, rfl, ExtT.refl _⟩ (fun h σ G _ ⟨_, _, e⟩ => SqL.of (xls e.xn hL)) ?_ ?_
          · rintro h v σ Jh hh ⟨s13', rfl, eh⟩
            obtain ⟨T, tv, hstr, t0, rp, tok⟩ := (all v (List.mem_of_getElem? hh)).xn eh.xn
            have bh := b3.xn eh.xn
            have hTh := eh.tab T3
            have sh := sh_told (w := "note") (by decide +kernel) tok
            dsimp only [gName, tSeq, tIfS, tNext]
            refine by_tt (fun c G => c = false ∧ ExtT (TTb K) Jh G) (fun Q kQ => ?_) ?_
            · refine ⟨hTh, fun J1' e1 uu => ?_⟩
              have fin : ∀ {Q'' : VK} G2, Same J1' G2 → True := fun _ _ => trivial
              refine ⟨_, rfl, _, rfl, x, v, T, B, at4, rfl, bh.xn e1, ok, oks, tv.xn e1, fun t' et' => ⟨(hstr t' et').1, fun ho => ?_, fun _ G2 s2 => told_made (.inr ⟨rfl, rfl, rfl⟩) (rp.xn (e1.trans (ExtN.of s2))) fun L1 G3 s3 hL1 => ?_⟩, fun _ G2 s2 => told_made (.inr ⟨rfl, rfl, rfl⟩) (rp.xn (e1.trans (ExtN.of s2))) fun L1 G3 s3 hL1 => ?_⟩
              · rw [(hstr t' et').2] at ho
                cases ho
              all_goals
                have E3 : ExtT (TTb K) Jh G3 := ⟨(e1.trans (ExtN.of s2)).trans (ExtN.of s3), fun _ => (uu.ext s2).ext s3⟩
                refine ⟨_, rfl, v, t0, rfl, rp.xn E3.xn, (by show 2 ≤ sizeLine; decide), fun l1 nl1 => ?_⟩
                have r1 := Same.new (o := .lst [.str "note", .str t0]) nl1
                refine ⟨_, _, .lst (SqL.of (r1 _ _ hL1)) (.cons (.str _) (.cons (.str _) .nil)), .lst (SqL.of upd_same) (.cons (.str _) (.cons (.str _) .nil)), sh, sh, ?_⟩
                rw [SeqAt.eqv_refl _ (SeqAt.canLay_of_shaped sh)]
                exact ⟨_, rfl, kQ _ _ ⟨rfl, E3.trans (ExtT.of r1)⟩⟩
            rintro cc G1 ⟨rfl, eg⟩
            exact ifF rfl ⟨_, rfl, eh.trans eg⟩
          rintro σ Jh ⟨s13', rfl, eh⟩
          have e13 := (ExtT.of (T := TTb K) u13).trans eh
          have hnmH := xls e13.xn hnmJ
          clear hL all T3 b3 hS
          dsimp only [gName, tSeq, tNext, tIfS]
          have TH := eh.tab (TJ.ext u13)
          obtain ⟨f1, f2⟩ := name_rows dr n0in
          refine ⟨_, rfl, nm, _, 0, .str n0, rfl, rfl, SqL.of hnmH, at0, (by show 1 ≤ sizeLine; decide), fun x1 nx1 => ?_⟩
          have v1 := Same.new (o := .lst [.str n0]) nx1
          have hx1 : (upd Jh x1 (.lst [.str n0])) x1 = some (.lst [.str n0]) := upd_same
          generalize upd Jh x1 (.lst [.str n0]) = M1 at v1 hx1 ⊢
          refine ⟨(by show 1 ≤ sizeLine; decide), fun x2 nx2 => ?_⟩
          have v2 := Same.new (o := .tup [.non]) nx2
          have hx2 : (upd M1 x2 (.tup [.non])) x2 = some (.tup [.non]) := upd_same
          generalize upd M1 x2 (.tup [.non]) = M2 at v2 hx2 ⊢
          refine ⟨(by show 1 ≤ sizeLine; decide), fun x3 nx3 => ?_⟩
          have v3 := Same.new (o := .tup [.str "A"]) nx3
          have hx3 : (upd M2 x3 (.tup [.str "A"])) x3 = some (.tup [.str "A"]) := upd_same
          generalize upd M2 x3 (.tup [.str "A"]) = M3 at v3 hx3 ⊢
          have v13 := (v1.trans v2).trans v3
          refine ⟨_, rfl, nm, _, 0, .str n0, rfl, rfl, SqL.of (v13 _ _ hnmH), at0, (by show 2 ≤ sizeLine; decide), fun x4 nx4 => ?_⟩
          have v4 := Same.new (o := .tup [.str n0, .int 1]) nx4
          have hx4 : (upd M3 x4 (.tup [.str n0, .int 1])) x4 = some (.tup [.str n0, .int 1]) := upd_same
          generalize upd M3 x4 (.tup [.str n0, .int 1]) = M4 at v4 hx4 ⊢
          have v14 := v13.trans v4
          refine fun x5 nx5 => ?_
          have v5 := Same.new (o := .dK []) nx5
          refine ⟨_, rfl, nm, _, 0, .str n0, rfl, rfl, SqL.of (v5 _ _ (v14 _ _ hnmH)), at0, upd_same, [(.inr n0, .int 1)], rfl, (by show 1 ≤ 15; decide), ?_⟩
          rw [upd_upd]
          have em : mergeK [] [((Sum.inr n0 : Key), V.int 1)] = [(.inr n0, .int 1)] := rfl
          rw [em]
          have v5 := Same.new (o := .dK [(.inr n0, .int 1)]) nx5
          have hx5 : (upd M4 x5 (.dK [(.inr n0, .int 1)])) x5 = some (.dK [(.inr n0, .int 1)]) := upd_same
          generalize upd M4 x5 (.dK [(.inr n0, .int 1)]) = M5 at v5 hx5 ⊢
          have v15 := v14.trans v5
          refine ⟨(by show 8 ≤ sizeLine; decide), fun L2 nL2 => ?_⟩
          have v6 := Same.new (o := .lst [.non, .int 5, .str "a", .ref x1, .ref x2, .ref x3, .ref x4, .ref x5]) nL2
          have hL2 : (upd M5 L2 (.lst [.non, .int 5, .str "a", .ref x1, .ref x2, .ref x3, .ref x4, .ref x5])) L2 = some (.lst [.non, .int 5, .str "a", .ref x1, .ref x2, .ref x3, .ref x4, .ref x5]) := upd_same
          generalize upd M5 L2 (.lst [.non, .int 5, .str "a", .ref x1, .ref x2, .ref x3, .ref x4, .ref x5]) = M6 at v6 hL2 ⊢
          have v16 := v15.trans v6
          have w16 : Same M1 M6 := v2.trans (v3.trans (v4.trans (v5.trans v6)))
          have w26 : Same M2 M6 := v3.trans (v4.trans (v5.trans v6))
          have w36 : Same M3 M6 := v4.trans (v5.trans v6)
          have w46 : Same M4 M6 := v5.trans v6
          have none' : ∀ {v : V} {T : String}, Ts K M6 v T → T ≠ "tuple" → Tl K M6 v → OddW K M6 v := fun t ne l => ⟨none, ⟨_, t, ne⟩, rfl, (fun xs e => nomatch e), l⟩
          have all2 : ∀ v ∈ ([.non, .int 5, .str "a", .ref x1, .ref x2, .ref x3, .ref x4, .ref x5] : List V), OddW K M6 v := fun v hv => by
            simp only [List.mem_cons, List.not_mem_nil, or_false] at hv
            rcases hv with rfl | rfl | rfl | rfl | rfl | rfl | rfl | rfl
            · exact none' .non (by decide) (Tl.of .non (by decide +kernel))
            · exact none' (.int 5) (by decide) (Tl.of (.int 5) (by decide +kernel))
            · exact none' (.str "a") (by decide) (Tl.of (.str "a") (by decide +kernel))
            · exact none' (.lst (w16 _ _ hx1)) (by decide) (Tl.of (.lst (SqL.of (w16 _ _ hx1)) (dpAll_strs [n0])) z2)
            · refine ⟨some [.non], ⟨x2, rfl, SqT.of (w26 _ _ hx2), fun y hy => ?_, by show 1 ≤ 60; decide⟩, rfl, fun xs e z hz => ?_, Tl.of (.tup (SqT.of (w26 _ _ hx2)) (.cons .non .nil)) (by decide +kernel)⟩
              · rw [List.mem_singleton.mp hy]
                exact ⟨_, .non⟩
              · injection e with e
                subst e
                have hz := List.mem_singleton.mp hz
                cases hz
            · refine ⟨some [.str "A"], ⟨x3, rfl, SqT.of (w36 _ _ hx3), fun y hy => ?_, by show 1 ≤ 60; decide⟩, by show ([V.str "A"].all isWord) = false; decide +kernel, fun xs e z hz => ?_, Tl.of (.tup (SqT.of (w36 _ _ hx3)) (.cons (.str _) .nil)) (by decide +kernel)⟩
              · rw [List.mem_singleton.mp hy]
                exact ⟨_, .str _⟩
              · injection e with e
                subst e
                have hz := List.mem_singleton.mp hz
                injection hz with hz
                subst hz
                decide +kernel
            · refine ⟨some [.str n0, .int 1], ⟨x4, rfl, SqT.of (w46 _ _ hx4), fun y hy => ?_, by show 2 ≤ 60; decide⟩, by show ([V.str n0, V.int 1].all isWord) = false; rw [List.all_cons, List.all_cons, w0]; rfl, fun xs e z hz => ?_, Tl.of (.tup (SqT.of (w46 _ _ hx4)) (.cons (.str _) (.cons (.int 1) .nil))) f1⟩
              · simp only [List.mem_cons, List.not_mem_nil, or_false] at hy
                rcases hy with rfl | rfl
                · exact ⟨_, .str _⟩
                · exact ⟨_, .int _⟩
              · injection e with e
                subst e
                simp only [List.mem_cons, List.not_mem_nil, or_false] at hz
                rcases hz with hz | hz
                · injection hz with hz
                  subst hz
                  omega
                · cases hz
            · refine none' (.dct (v6 _ _ hx5)) (by decide) ⟨_, .inr ⟨x5, _, [(.str n0, .int 1)], rfl, v6 _ _ hx5, rfl, f2, rfl⟩, ?_⟩
              have := f2
              unfold fitsD at this
              exact (He.ba (He.ba (He.ba this).2).2).2
          generalize ([.non, .int 5, .str "a", .ref x1, .ref x2, .ref x3, .ref x4, .ref x5] : List V) = ks2 at hL2 all2 ⊢
          have T6 := TH.ext v16
          refine ⟨L2, rfl, .inl ⟨⟨_, SqL.of hL2⟩, ?_⟩⟩
          refine for_list (K := K) (a := L2) (xs := ks2) (fun h σ G => ∃ s13 : Option V, σ = [some (.ref a), some (.int (0 + (i : Nat))), some (.ref p), some (.ref d), some (.ref nm), some (.ref rd), s6, s7', s8', s9', s10', s11', some (.ref x), s13] ∧ ExtT (TTb K) M6 G) ⟨_, rfl, ExtT.refl _⟩ (fun h σ G _ ⟨_, _, e⟩ => SqL.of (xls e.xn hL2)) ?_ ?_
          · rintro h v σ Jg hh ⟨s13'', rfl, eg'⟩
            obtain ⟨o, ov, now, len, t0, rp, tok⟩ := (all2 v (List.mem_of_getElem? hh)).xn eg'.xn
            have hTg := eg'.tab T6
            have sh := sh_told (w := "build") (by decide +kernel) tok
            dsimp only [gName, tSeq, tIfS, tNext]
            refine by_tt (fun c G => c = false ∧ ExtT (TTb K) Jg G) (fun Q kQ => ?_) ?_
            · refine ⟨hTg, fun J1' e1 uu => ?_⟩
              refine ⟨_, rfl, v, o, rfl, ov.xn e1, len, fun hw => ?_, fun _ G2 s2 => told_made (.inl ⟨rfl, rfl, rfl⟩) (rp.xn (e1.trans (ExtN.of s2))) fun L1 G3 s3 hL1 => ?_⟩
              · rw [now] at hw
                cases hw
              have E3 : ExtT (TTb K) Jg G3 := ⟨(e1.trans (ExtN.of s2)).trans (ExtN.of s3), fun _ => (uu.ext s2).ext s3⟩
              refine ⟨_, rfl, v, t0, rfl, rp.xn E3.xn, (by show 2 ≤ sizeLine; decide), fun l1 nl1 => ?_⟩
              have r1 := Same.new (o := .lst [.str "build", .str t0]) nl1
              refine ⟨_, _, .lst (SqL.of (r1 _ _ hL1)) (.cons (.str _) (.cons (.str _) .nil)), .lst (SqL.of upd_same) (.cons (.str _) (.cons (.str _) .nil)), sh, sh, ?_⟩
              rw [SeqAt.eqv_refl _ (SeqAt.canLay_of_shaped sh)]
              exact ⟨_, rfl, kQ _ _ ⟨rfl, E3.trans (ExtT.of r1)⟩⟩
            rintro cc G1 ⟨rfl, eg⟩
            exact ifF rfl ⟨_, rfl, eg'.trans eg⟩
          rintro σ Jg ⟨s13'', rfl, eg'⟩
          have e16 := (ExtT.of (T := TTb K) v16).trans eg'
          have hnmI := xls e16.xn hnmH
          dsimp only [tNext, tIfS]
          refine ⟨_, rfl, nm, _, 0, .str n0, rfl, rfl, SqL.of hnmI, at0, (by show 2 ≤ sizeLine; decide), fun tn ntn => ?_⟩
          have vn := Same.new (o := .tup [.str "nobody", .str n0]) ntn
          have htn : (upd Jg tn (.tup [.str "nobody", .str n0])) tn = some (.tup [.str "nobody", .str n0]) := upd_same
          generalize upd Jg tn (.tup [.str "nobody", .str n0]) = Jn at vn htn ⊢
          have wn : ∀ z ∈ (["nobody", n0] : List Str), isWord (.str z) = true := fun z hz => by
            simp only [List.mem_cons, List.not_mem_nil, or_false] at hz
            rcases hz with rfl | rfl
            · decide +kernel
            · exact w0
          refine ⟨.ref tn, some ((["nobody", n0] : List Str).map V.str), rfl, ov_tup htn (by show 2 ≤ 60; decide), fun xs e z hz => ?_, fun _ Jm sm => ?_, fun e => ?_⟩
          · injection e with e
            subst e
            obtain ⟨y, hy, ey⟩ := List.mem_map.mp hz
            injection ey with ey
            subst ey
            have := (word_tl (wn y hy)).2.2
            omega
          · have et : textB (bO (some ((["nobody", n0] : List Str).map V.str))) = ("nobody " : Str) ++ n0 := by
              rw [show bO (some (([("nobody" : Str), n0] : List Str).map V.str)) = ([("nobody" : Str), n0] : List Str) from strsOf_map _]
              unfold textB
              rw [if_neg (by simp), tj]
              show ("nobody" : Str) ++ blank ++ n0 = _
              rw [show ("nobody" : Str) ++ blank = "nobody " by decide +kernel]
            refine ⟨_, rfl, nm, _, 0, .str n0, rfl, rfl, SqL.of ((vn.trans sm) _ _ hnmI), at0, _, _, rfl, rfl, by rw [sizeLine_eq]; have : ("nobody " : Str).length = 7 := rfl; omega, rfl, _, rfl, ifF ?_ ?_⟩
            · rw [et, decide_eq_true rfl]
              rfl
            · exact ⟨_, _, _, _, _, _, _, _, _, _, _, _, _, rfl, e0.trans ((eG.aftT np AJ).trans (e13.trans (e16.trans (ExtT.of (vn.trans sm)))))⟩
          · rw [show wordsO (some ((["nobody", n0] : List Str).map V.str)) = true by
              show ((["nobody", n0] : List Str).map V.str).all isWord = true
              rw [List.all_map, List.all_eq_true]
              exact fun z hz => wn z hz] at e
            cases e
    · rintro σ G ⟨s1, s2, s3, s4, s5, s6, s7, s8, s9, s10, s11, s12, s13, rfl, e0⟩
      exact k G
end
end Rt
end
section
set_option Elab.async false
set_option linter.all false
set_option maxRecDepth 100000
set_option maxHeartbeats 4000000
/-! the end: a law whose promise is told where no repr is under way; any tables of code objects -/
namespace Rt
open PySem PySem.Spec PyProof.Rows L2
open LamX (ExtN Tabs TabB)
theorem law_end {P : Program} {w : World} {K : PySem.W.Frag} {mg mb : Str → Option Value} {k : Nat} {fa a : Addr} {TS : List (Addr × Addr)} {fd : FuncData} {x : Str} {sp : SpG} {s : Shared} {vs : List Value} {ns : List Int}
    (kin : K.In s.heap) (glob : s.heap.Ns mainGlobals mg) (bltn : s.heap.Ns builtinsNs mb) (boot : ∀ x : Str, x ≠ "__name__" → mb x = bootBuiltins x) (lim : s.heap.NoLimit) (gens : s.gens = #[])
    (tab : ∀ p ∈ TS, s.heap.get? p.2 = some { cls := .none, data := .fields #[] }) (tabK : ∀ p ∈ TS, K.lookup p.2 = none) (hd : ∀ p ∈ TS, PySem.W.CodeHd s.heap p.1 p.2)
    (bmod : ∃ (bm : Addr) (ob : Obj), mg "__builtins__" = some (.ref bm) ∧ bm ≠ builtinsNs ∧ s.heap.get? bm = some ob ∧ ob.cls = .type "module" ∧ ob.dict = some builtinsNs ∧ ob.data = .plain)
    (scr : s.heap.get? a = some { cls := .type "list", data := .seq vs.toArray }) (isI : IntsAre vs ns) (fits : ns.length ≤ sizeLine) (hr : Room k callerA)
    (F : ∀ base : Heap, K.In base → base.Ns mainGlobals mg → (∀ p ∈ TS, TabB base mg p.1 p.2) → FnG P w K mg base k fa fd [x] sp)
    (told : ∀ H : Hp, (∀ p ∈ TS, H p.2 = some (.tbl #[])) → SqL K H a (ns.map V.int) → sp [.ref a] H (fun v _ => v = .bl true)) :
    codeAny (model P w) callerA (.call (.ref fa) ⟨[.ref a], []⟩) (fun r s' => r = .ok (.ret (.bool true)) ∧ OldK s.heap s'.heap ∧ s'.os = s.os ∧ AllBare s'.gens) s := by
  have rv := vals_ints isI
  have vl := isI.length
  let isT : Addr → Prop := fun b => ∃ p ∈ TS, p.2 = b
  have tabT : ∀ {b}, isT b → s.heap.get? b = some { cls := .none, data := .fields #[] } := fun {b} ⟨p, hp, e⟩ => by
    rw [← e]
    exact tab p hp
  have tabN : ∀ {b}, isT b → K.lookup b = none := fun {b} ⟨p, hp, e⟩ => by
    rw [← e]
    exact tabK p hp
  have ne : ¬ isT a := fun z => by
    rw [tabT z] at scr
    cases scr
  obtain ⟨gO, gEs, gEp, gGet, gDat, gRest⟩ := id glob
  have nG : ¬ isT mainGlobals := fun z => by
    rw [tabT z] at gGet
    cases gGet
    cases gDat
  -- whatever is tracked: the table, and maybe the script
  have go : ∀ H : Hp, (∀ b, isT b → H b = some (.tbl #[])) → (∀ b, ¬ isT b → H b = none ∨ (b = a ∧ K.lookup a = none ∧ ∃ o ys, H b = some (.frz o (.lst ys)))) → SqL K H a (ns.map V.int) → HOk P w H s.heap →
      codeAny (model P w) callerA (.call (.ref fa) ⟨[.ref a], []⟩) (fun r s' => r = .ok (.ret (.bool true)) ∧ OldK s.heap s'.heap ∧ s'.os = s.os ∧ AllBare s'.gens) s := by
    intro H hT other sq hok
    have rest : ∀ {b : Addr} {o : Obj}, s.heap.get? b = some o → (∀ us n, o.data ≠ .seq us n) → o.data ≠ .fields #[] → (hidT s.heap H).get? b = some o := fun {b o} e n1 n2 => by
      refine hidT_get e ?_
      by_cases z : isT b
      · rw [tabT z] at e
        cases e
        exact (n2 rfl).elim
      · rcases other b z with q | ⟨q, _⟩
        · exact q
        · rw [q, scr] at e
          cases e
          exact (n1 _ _ rfl).elim
    have names : ∀ {b : Addr} {m : Str → Option Value}, s.heap.Ns b m → (hidT s.heap H).Ns b m := fun {b m} ⟨o, es, ep, e, d, r⟩ =>
      ⟨o, es, ep, rest e (fun _ _ z => by rw [d] at z; cases z) (fun z => by rw [d] at z; cases z), d, r⟩
    have bin : K.In (hidT s.heap H) := fun b o e => hidT_get (kin b o e) (by
      by_cases z : isT b
      · rw [tabN z] at e
        cases e
      · rcases other b z with q | ⟨q, q2, _⟩
        · exact q
        · rw [q, q2] at e
          cases e)
    have md : L2.Mod K mg (hidT s.heap H) := ⟨bin, names glob, ⟨mb, names bltn, boot⟩, let ⟨mc, h1, h2⟩ := lim; ⟨mc, names h1, h2⟩⟩
    have tb : ∀ p ∈ TS, TabB (hidT s.heap H) mg p.1 p.2 := by
      intro p hp
      refine ⟨?_, ?_, fun z => nG ⟨p, hp, z.symm⟩⟩
      · obtain ⟨o, us, file, tf, flags, tg, inF, text, tt, e1, r1, r2, r3, r⟩ := hd p hp
        refine ⟨o, us, file, tf, flags, tg, inF, text, tt, rest e1 (fun _ _ z => ?_) fun z => ?_, r1, r2, r3, r⟩
        · rw [r2] at z
          cases z
        · rw [r2] at z
          cases z
          simp at r3
      · obtain ⟨bm, ob, b1, b2, b3, b4, b5, b6⟩ := bmod
        refine ⟨bm, ob, b1, b2, fun q => ?_, fun q => ?_, rest b3 (fun _ _ z => ?_) fun z => ?_, b4, b5, b6⟩
        · rw [q, gGet] at b3
          cases b3
          rw [gDat] at b6
          cases b6
        · rw [q, tab p hp] at b3
          cases b3
          cases b6
        · rw [b6] at z
          cases z
        · rw [b6] at z
          cases z
    have e0 : Env0 P w K mg (hidT s.heap H) callerA [] s H := ⟨rfl, md, fun b o e => of_hidT e, Nat.le_of_eq (hidT_size _ _), trivial, fun b hb => absurd (show b ∈ ([] : List Addr) from hb) (by simp), hok, .of_eq gens⟩
    refine codeAny_mono ((F _ bin (names glob) tb).run callerA [] s H [.ref a] [.ref a] _ rfl hr e0 (.cons rfl .nil) (told H (fun p hp => hT p.2 ⟨p, hp, rfl⟩) sq)) fun r s' h => ?_
    match r, h with
    | .error e, h => exact (show False from h).elim
    | .ok .next, h => exact False.elim h
    | .ok .brk, h => exact False.elim h
    | .ok .cont, h => exact False.elim h
    | .ok (.ret u), h =>
      obtain ⟨v, H', os, bare, un, hok', rv', q⟩ := h
      have q : v = .bl true := q
      subst q
      obtain rfl : u = Value.bool true := rv'
      have stay : ∀ b o, ¬ isT b → s.heap.get? b = some o → s'.heap.get? b = some o := fun b o z e => by
        rcases other b z with q | ⟨_, _, o2, ys, q⟩
        · exact un.keep b o e q (fun z => nomatch (show b ∈ ([] : List Addr) from z)) (by simp)
        · obtain ⟨e1, _⟩ := hok b _ q
          obtain ⟨e2, _⟩ := hok' b _ (un.frzs b o2 _ q)
          rw [e] at e1
          cases e1
          exact e2
      have grow : ∀ b, isT b → ∃ more, s'.heap.get? b = some { cls := .none, data := .fields (#[] ++ more) } := fun b z => by
        obtain ⟨more, gr⟩ := un.tbls b #[] (hT b z)
        exact ⟨more, hok' b _ gr⟩
      refine ⟨rfl, ⟨fun b o e => ?_, fun b o e => ?_⟩, os, bare⟩
      · by_cases z : isT b
        · obtain ⟨more, grown⟩ := grow b z
          rw [tabT z] at e
          cases e
          obtain ⟨p, hp, rfl⟩ := z
          exact .inr (.inl ⟨((hd p hp).tab (tab p hp)).isCodeTable, rfl, #[], more, rfl, grown⟩)
        · exact .inl (stay b o z e)
      · by_cases z : isT b
        · obtain ⟨more, grown⟩ := grow b z
          exact ⟨_, grown⟩
        · exact ⟨o, stay b o z e⟩
  classical
  cases hk : K.lookup a with
  | some o =>
    have e := kin a o hk
    rw [scr] at e
    cases e
    refine go (fun b => if isT b then some (.tbl #[]) else none) (fun b z => if_pos z) (fun b z => .inl (if_neg z)) (.inr ⟨_, vs.toArray, _, hk, rfl, rfl, rfl, by rw [List.size_toArray, vl]; exact fits, by simpa using rv⟩) (fun b u z => ?_)
    by_cases hb : isT b
    · have z2 := (if_pos hb).symm.trans z
      cases z2
      exact tabT hb
    · have z2 := (if_neg hb).symm.trans z
      cases z2
  | none =>
    refine go (fun b => if isT b then some (.tbl #[]) else if b = a then some (.frz { cls := .type "list", data := .seq vs.toArray } (.lst (ns.map V.int))) else none) (fun b z => if_pos z) (fun b z => ?_) (.inl (.inr ⟨{ cls := .type "list", data := .seq vs.toArray }, (if_neg ne).trans (if_pos rfl)⟩)) (fun b u z => ?_)
    · by_cases hb : b = a
      · exact .inr ⟨hb, hk, _, _, (if_neg z).trans (if_pos hb)⟩
      · exact .inl ((if_neg z).trans (if_neg hb))
    · by_cases hb : isT b
      · have z2 := (if_pos hb).symm.trans z
        cases z2
        exact tabT hb
      · by_cases hb2 : b = a
        · have z2 := ((if_neg hb).trans (if_pos hb2)).symm.trans z
          cases z2
          rw [hb2]
          exact ⟨scr, by rw [List.length_map]; exact fits, vs, _, rv, scr⟩
        · have z2 := ((if_neg hb).trans (if_neg hb2)).symm.trans z
          cases z2
theorem walk_end {l : PySem.W.OpenLaw} {n k : Nat} {q : Program} {loose : List Str} {XP : (Str → Option Value) → Heap → Prop} {YP : World → Heap → Prop} {d : DefRec} {x : Str}
    (hn : l.most = some n) (hn2 : n ≤ sizeLine) (hdf : d.params.defaults = []) (hr : Room k callerA)
    (F : ∀ (w : World) (mg : Str → Option Value) (fa : Addr) (h : Heap), YP w h → h.Ns mainGlobals mg → mg d.name = some (.ref fa) → ∃ (K : PySem.W.Frag) (TS : List (Addr × Addr)) (fd : FuncData) (sp : SpG), K.In h ∧ (∀ p ∈ TS, h.get? p.2 = some { cls := .none, data := .fields #[] }) ∧ (∀ p ∈ TS, K.lookup p.2 = none) ∧ (∀ p ∈ TS, PySem.W.CodeHd h p.1 p.2) ∧
      (∀ (H : Hp) (a : Addr) (ns : List Int), ns.length ≤ n → (∀ p ∈ TS, H p.2 = some (.tbl #[])) → SqL K H a (ns.map V.int) → sp [.ref a] H (fun v _ => v = .bl true)) ∧
      ∀ base : Heap, K.In base → base.Ns mainGlobals mg → (∀ p ∈ TS, TabB base mg p.1 p.2) → FnG l.prog w K mg base k fa fd [x] sp) :
    PySem.W.WalkO q loose XP YP l.row.toRowW d [] (fun f vs => PySem.call f vs) := by
  refine Att.attach_callB hn hdf fun w s₀ s₁ mg mb fa o pm cd doc a vs ns G Y ho hd hcd hmg hobj hints hlen hbits hg => ?_
  obtain ⟨K, TS, fd, sp, KX, hT, nT, C, hsp, hF⟩ := F w mg fa _ Y G.T.g hmg
  exact law_end KX G.T.g G.T.b G.T.builtins G.T.nolimit hg hT nT C G.T.bmain hobj hints (Nat.le_trans hlen hn2) hr hF fun H h1 h2 => hsp H a ns hlen h1 h2
end Rt
end
section
set_option Elab.async false
set_option linter.all false
set_option maxRecDepth 100000
set_option maxHeartbeats 0
namespace Rt
open PySem PySem.Spec PyProof.Rows L2
abbrev R : PySem.W.OpenRow := PySem.W.OpenLaw.row PySem.Challenge.rw_refundtrees_k75_whole_builds_written
abbrev hk : PySem.W.Hook := hookT
def ob (s : PySem.W.SharedT) : AlT := obsT (HandSHeadRun.getT s)
theorem ob_eq (s : PySem.W.SharedT) : ob s = hk.obs s.abs := obsT_eq (HandSHeadRun.getT_eq s)
def names1 : List Str := ["_wall", "TreeError", "NoBook", "NoSkill", "NoBuild", "NoStep", "NoPlain", "NoNumber", "NoWorth", "NoSeen", "NoKind", "NothingBack", "NoNote", "SMALL_LETTERS", "LONGEST_WORD", "is_number", "is_number_in", "is_word", "is_one_of", "is_ordered", "are_unlike", "MOST_SKILLS", "LAST_TIER", "MOST_POINTS", "MOST_NEED", "MOST_WANTS", "MOST_BARS", "MOST_GIVEN", "MOST_PRICE", "wrong_part"]
def names2 : List Str := ["are_rows", "is_pair", "are_skills", "are_needs", "is_need", "are_wants", "is_want", "are_others", "are_bars", "are_told_once", "Book", "is_build", "write_build", "read_build", "_law_pool", "_law_take", "_law_one", "_law_turned", "_law_tree", "_law_rows", "_law_book", "_law_made", "_law_names", "_law_subsets", "_law_caught"]
def names : List Str := names1 ++ names2
theorem run (w : World) : HandSHeadRun.RunEq R (PySem.W.view R.prog [62]) hk ob 9000 names w := by
  intro os
  kernel_rfl
end Rt
end
section
set_option Elab.async false
set_option linter.all false
set_option maxRecDepth 100000
set_option maxHeartbeats 0
/-! the whole: the head by its facts, the law by its walk -/
open PySem PySem.W PySem.Calls PyProof.Rows
theorem PySem.Challenge.cw_refundtrees_k75_whole_builds_written_holds : PySem.Challenge.rw_refundtrees_k75_whole_builds_written.Holds := by
  w_on; o_law
  refine HandSHeadRun.head_any (r := OpenLaw.row PySem.Challenge.rw_refundtrees_k75_whole_builds_written) (q := view (OpenLaw.row PySem.Challenge.rw_refundtrees_k75_whole_builds_written).prog [62]) (H := Rt.hk) (ob := Rt.ob) (M := 9000) (loose := Rt.names) (d := HandSHeadRun.topDef (OpenLaw.row PySem.Challenge.rw_refundtrees_k75_whole_builds_written).prog 62) (kwd := []) Rt.ob_eq
    (by kernel_rfl) (fun s => by kernel_rfl) Rt.run (by kernel_rfl) (by kernel_rfl) (by kernel_rfl) (by rfl) (by first | assumption | decide +kernel) (by decide +kernel) ⟨rfl, rfl, rfl, rfl, rfl, by decide +kernel⟩ ?hw ?hc
  case hw => w_witness2
  case hc =>
    refine Rt.walk_end (l := PySem.Challenge.rw_refundtrees_k75_whole_builds_written) (n := 63) (k := 22) (x := "_law_script") rfl (by decide) (by kernel_rfl) ⟨rfl, by decide, by decide⟩ ?F
    intro w mg fa h Y G hmg0
    obtain ⟨K, q⟩ := Y
    have hmg : mg ("law" : PySem.Str) = some (.ref fa) := by
      have e : (HandSHeadRun.topDef (OpenLaw.row PySem.Challenge.rw_refundtrees_k75_whole_builds_written).prog 62).name = ("law" : PySem.Str) := by kernel_rfl
      rw [← e]
      exact hmg0
    have W : Rt.AllY K mg := ⟨⟨q.x.y.d, h, q.kin, G⟩, q.x.y⟩
    have e := hmg.symm.trans W.z.g_law
    cases e
    obtain ⟨fd, _⟩ := W.z.f_law
    have la : ∀ y ∈ Rt.lamD, CodeHd h (Rt.lamC K y) (Rt.lamP K y) ∧ K.lookup (Rt.lamP K y) = none := fun y hy => Rt.lam_ok q.kin (q.x.lam hy)
    refine ⟨K, Rt.lamD.map fun y => (Rt.lamC K y, Rt.lamP K y), fd, Rt.spLaw K, q.kin, fun p hp => ?_, fun p hp => ?_, fun p hp => ?_, fun H a ns _ hT hS => ⟨a, ns, rfl, hS, fun p hp => ?_, fun _ => rfl⟩, fun base _ _ tb => ?_⟩
    · obtain ⟨y, hy, rfl⟩ := List.mem_map.mp hp
      exact q.tabs y hy
    · obtain ⟨y, hy, rfl⟩ := List.mem_map.mp hp
      exact (la y hy).2
    · obtain ⟨y, hy, rfl⟩ := List.mem_map.mp hp
      exact (la y hy).1
    · obtain ⟨y, hy, rfl⟩ := List.mem_map.mp hp
      exact LamX.TabS.nil (hT (Rt.lamC K y.1, Rt.lamP K y.1) (List.mem_map.mpr ⟨y.1, List.mem_map_of_mem hy, rfl⟩))
    · obtain ⟨_, F, _⟩ := Rt.fn_law (P := (PySem.Challenge.rw_refundtrees_k75_whole_builds_written).prog) (w := w) (base := base) ⟨W, q.x.b, fun y hy => tb (Rt.lamC K y, Rt.lamP K y) (List.mem_map.mpr ⟨y, hy, rfl⟩)⟩
      exact ⟨F.len, F.run⟩
end
