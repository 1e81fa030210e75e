import PyProof.Rows.All
import Wide.All
import OpenK.AllK
import Wide.FinOn
import KE.KStateDown
import HandS.ForMost
import HandS.Exc
import HandS.WordsExc
import HandS.Defaults
import HandS.IsInst
import HandS.Walk
import HandS.HeadHook1
import HandS.HeadHook2
import HandS.Set
import HandS.SetKeys
import HandS.SetFor
import HandS.Strs
import HandS.TupSets
import HandS.Style
import HandS.Small
import HandS.Deep
import HandS.TryOnly
import HandS.More
import PyProof.TupleOfSeq
import KE.KDictPairs
import HandS.MakeKwOnly
import HandS.ExcInit
import HandS.ExcField
import KE.KNestM
import HandS.Property
import HandS.OwnEq
import HandS.DeepEq
import HandS.IterNext
import KE.KOwnIter
import PyProof.ReprRoads
import HandS.Lambda
import HandS.EndTab
import HandS.HeadWalk
import Lean
import HandS.Head0
import HandS.Head1
import HandS.Head2
import HandS.HeadEnd
import PySem.Challenge.RW_refundtrees_k01_books_told
section
set_option Elab.async false
set_option linter.all false
set_option maxRecDepth 100000
set_option maxHeartbeats 4000000
/-! Refundtrees: what every law's proof shares: callees packed, isinstance answered, module ints. -/
namespace Rt
open PySem PySem.Spec PyProof.Rows L2

/-! ### a def of the module, packed: where it stands, how it binds, what it promises -/
structure Cal (P : Program) (w : World) (K : PySem.W.Frag) (mg : Str → Option Value) (base : Heap) (CX : CXT) (k : Nat) (x : Str) (ps : List Str) (sp : Sp) : Prop where
  ex : ∃ fd, Binds K fd ps [] ∧ FnOk P w K mg base CX k (He.ga K x) fd ps sp
  gm : mg x = some (.ref (He.ga K x))
  kp : PySem.W.keepIn K (.ref (He.ga K x)) = true
section
variable {X : Cx} {CX : CXT} {k : Nat} {x : Str} {ps : List Str} {sp : Sp} {E : XK} {e : Expr} {es : List Expr} {p pos : Pos} {t : TA}
theorem pe_cal (C : Cal X.prog X.w X.K X.mg X.base CX k x ps sp) (hr : Room k X.A) (hg : Gl X x) (hx : Passes CX X E) (ha : PA X (e :: es) t)
    (hdb : (x == ("__debug__" : Str)) = false := by decide) (h1 : starEach (e :: es) X.env = (false, eval e X.env) :: starEach es X.env := by rfl)
    (h2 : (backTo pos (starEach es X.env)).any (·.1) = false := by rfl) : PE X (.Call (.Name x p) (e :: es) [] pos) (tCall sp [] E t) := by
  obtain ⟨fd, b, F⟩ := C.ex
  exact pe_call F hr hg C.gm C.kp b .nil hx ha hdb h1 h2
end

/-! ### module ints and texts -/
section
variable {X : Cx} {x : Str} {pos : Pos}
theorem pe_gint {i : Int} (hg : Gl X x) (hm : ∃ t, X.mg x = some (.int i t)) (hd : (x == ("__debug__" : Str)) = false := by decide) : PE X (.Name x pos) (tC (.int i)) := by
  obtain ⟨t, h⟩ := hm
  exact pe_glob hg h ⟨_, rfl⟩ hd
theorem pe_gstr {z : Str} (hg : Gl X x) (hm : ∃ t, X.mg x = some (.str z t)) (hd : (x == ("__debug__" : Str)) = false := by decide) : PE X (.Name x pos) (tC (.str z)) := by
  obtain ⟨t, h⟩ := hm
  exact pe_glob hg h ⟨_, rfl⟩ hd
end

/-! ### what a value is, for isinstance -/
def kinds : List String := ["NoneType", "bool", "int", "str", "tuple", "list", "dict"]
/-- the value's type by its name -/
inductive Ts (K : PySem.W.Frag) (H : Hp) : V → String → Prop where
  | non : Ts K H .non "NoneType"
  | bl (b : Bool) : Ts K H (.bl b) "bool"
  | int (i : Int) : Ts K H (.int i) "int"
  | str (x : Str) : Ts K H (.str x) "str"
  | tup {a : Addr} {xs : List V} (h : SqT K H a xs) : Ts K H (.ref a) "tuple"
  | lst {a : Addr} {xs : List V} (h : H a = some (.lst xs)) : Ts K H (.ref a) "list"
  | dct {a : Addr} {kvs : List (Key × V)} (h : H a = some (.dK kvs)) : Ts K H (.ref a) "dict"
theorem Ts.x {K : PySem.W.Frag} {H : Hp} {x : V} {T : String} (h : Ts K H x T) : TyX K H x (.type T) := by
  cases h with
  | non => exact .base .non
  | bl b => exact .base (.bl b)
  | int i => exact .base (.int i)
  | str x => exact .base (.str x)
  | tup h =>
    rcases h with (h | ⟨_, h⟩) | ⟨_, _, _, e, c, _⟩
    · exact .base (.tup h)
    · exact .fTuple h
    · exact .kTuple e c
  | lst h => exact .base (.lst h)
  | dct h => exact .base (.dK h)
theorem Ts.mem {K : PySem.W.Frag} {H : Hp} {x : V} {T : String} (h : Ts K H x T) : T ∈ kinds := by
  cases h <;> decide
def asks : List String := ["int", "bool", "str", "list", "tuple", "dict"]
def answ (T c : String) : Bool := decide (T = c) || (decide (T = "bool") && decide (c = "int"))
theorem answ_all : (kinds.all fun T => asks.all fun c => decide (kitB T c = some (answ T c))) = true := by decide +kernel
theorem answ_of {T c : String} (hT : T ∈ kinds) (hc : c ∈ asks) {K : PySem.W.Frag} : PySem.W.kitOne K (.type T) (.type c) = some (answ T c) := by
  have h := List.all_eq_true.mp (List.all_eq_true.mp answ_all T hT) c hc
  exact kit_ty (of_decide_eq_true h)

/-- isinstance(x, c), c one built-in class -/
def rIs (K : PySem.W.Frag) (cn : String) : List V → Hp → VK → Prop := fun xs H Q => ∃ x T, xs = [x, .ty cn] ∧ Ts K H x T ∧ Q (.bl (answ T cn)) H
theorem call_is {X : Cx} {cn : String} (hc : cn ∈ asks) : CallR X (.builtin "isinstance") (fun xs H Q => ∃ x T, xs = [x, .ty cn] ∧ Ts X.K H x T ∧ Q (.bl (answ T cn)) H) := by
  intro pins s σ H xs us Q I r h
  obtain ⟨x, T, rfl, t, q⟩ := h
  exact call_isi pins s σ H _ us Q I r ⟨x, .ty cn, .type T, .type cn, _, rfl, .ty cn, t.x, answ_of t.mem hc, q⟩
/-- isinstance(x, (list, tuple)) -/
theorem call_isLT {X : Cx} : CallR X (.builtin "isinstance") (fun xs H Q => ∃ x T tp, xs = [x, .ref tp] ∧ H tp = some (.tup [.ty "list", .ty "tuple"]) ∧ Ts X.K H x T ∧ Q (.bl (decide (T = "list") || decide (T = "tuple"))) H) := by
  intro pins s σ H xs us Q I r h
  obtain ⟨x, T, tp, rfl, ht, t, q⟩ := h
  have e1 : answ T "list" = decide (T = "list") := by
    have h1 : decide (("list" : String) = "int") = false := by decide
    unfold answ
    rw [h1, Bool.and_false, Bool.or_false]
  have e2 : answ T "tuple" = decide (T = "tuple") := by
    have h1 : decide (("tuple" : String) = "int") = false := by decide
    unfold answ
    rw [h1, Bool.and_false, Bool.or_false]
  have k1 : PySem.W.kitOne X.K (.type T) (.type "list") = some (decide (T = "list")) := e1 ▸ answ_of t.mem (by decide)
  have k2 : PySem.W.kitOne X.K (.type T) (.type "tuple") = some (decide (T = "tuple")) := e2 ▸ answ_of t.mem (by decide)
  refine call_isiT pins s σ H _ us Q I r ⟨x, tp, [.ty "list", .ty "tuple"], .type T, [.type "list", .type "tuple"], _, rfl, ht, .cons (.ty _) (.cons (.ty _) .nil), t.x, ?_, q⟩
  refine kitAny_cons k1 (fun hf => ?_) (fun ht => by rw [ht, Bool.true_or])
  rw [hf, Bool.false_or]
  exact kitAny_cons k2 (fun hf => by rw [hf]; exact kitAny_nil) (fun ht => ht)
end Rt
namespace Rt
open PySem PySem.Spec PyProof.Rows L2
section
variable {P : Program} {w : World} {K : PySem.W.Frag} {mg : Str → Option Value} {base : Heap} {x qual : Str} {params : Arguments} {body : List Stmt} {scope : Scope} {f : Addr} {fd : FuncData} {N ps : List Str} {k : Nat} {sp : Sp}
/-- a def that lets nothing out -/
theorem ok0 (F : FunD K x qual params body scope [] [] f fd) (S : FnScope N ps scope) (len : ∀ vs H Q E, sp vs H Q E → vs.length = ps.length)
    (hbody : ∀ (cdv : Value) (A : Around) (outer : List Env) (s : Shared) (H : Hp) (vs : List V) (Q : VK) (E : XK), Room k (A.deeper (envOfC qual scope s.heap.objs.size f cdv)) → sp vs H Q E →
      ∃ t, PSs (cxOf CX0 P w K mg base N qual scope f cdv A outer s H E).nox body t ∧ t { nx := fun _ H' => Q .non H', rt := Q } (start N vs) H) : FnOk P w K mg base CX0 (k + 1) f fd ps sp :=
  F.ok S len fun cdv A outer s H vs Q E hr h => by
    obtain ⟨t, h1, h2⟩ := hbody cdv A outer s H vs Q E hr h
    exact ⟨t, PSs.nox h1, h2⟩
theorem Cal.of (ex : ∃ fd, FunD K x qual params body scope [] [] (He.ga K x) fd ∧ FnOk P w K mg base CX0 k (He.ga K x) fd ps sp) (gm : mg x = some (.ref (He.ga K x)))
    (h : ∀ (kV doc pm : Value) (an : Option Addr) (cdv ct : Value) (us : List Value), us.length = ps.length → bindArgs (PySem.W.fnOf x qual params body scope .none kV doc pm an cdv ct) ⟨us, []⟩ = pure (ps.zip us)) :
    Cal P w K mg base CX0 k x ps sp := by
  obtain ⟨fd, F, G⟩ := ex
  exact ⟨⟨fd, F.bindsN h, G⟩, gm, F.kp⟩
end
end Rt
namespace Rt
theorem ifT {c : Bool} {A B : Prop} (e : c = true) (h : A) : if c = true then A else B := by rw [if_pos e]; exact h
theorem ifF {c : Bool} {A B : Prop} (e : c = false) (h : B) : if c = true then A else B := by rw [if_neg (by rw [e]; decide)]; exact h
theorem ifB {c : Bool} {A B : Prop} (h1 : c = true → A) (h2 : c = false → B) : if c = true then A else B := by
  cases e : c with
  | true => exact ifT rfl (h1 e)
  | false => exact ifF rfl (h2 e)
end Rt
namespace Rt
open PySem PySem.Spec PyProof.Rows L2
/-! ### a comprehension whose turns leave what was tracked as it was: its list at D by the turn -/
structure LcP (H1 : Hp) (D : Addr) (L : Nat → List V) (i : Nat) (H : Hp) : Prop where
  same : Same H1 H
  at_ : H D = some (.lst (L i))
section
variable {H1 H : Hp} {D : Addr} {L : Nat → List V} {i : Nat}
theorem LcP.zero (nD : H1 D = none) (e : L 0 = []) : LcP H1 D L 0 (upd H1 D (.lst [])) := by
  refine ⟨fun b o h => ?_, by rw [upd_same, e]⟩
  rw [upd_ne (ne_of_none h nD)]
  exact h
theorem LcP.put {y : V} (h : LcP H1 D L i H) (nD : H1 D = none) (e : L (i + 1) = L i ++ [y]) (hl : (L i).length < sizeLine) : ∃ acc, H D = some (.lst acc) ∧ acc.length < sizeLine ∧ LcP H1 D L (i + 1) (upd H D (.lst (acc ++ [y]))) := by
  refine ⟨L i, h.at_, hl, fun b o hb => ?_, by rw [upd_same, e]⟩
  rw [upd_ne (ne_of_none hb nD)]
  exact h.same b o hb
theorem LcP.skip (h : LcP H1 D L i H) (e : L (i + 1) = L i) : LcP H1 D L (i + 1) H := ⟨h.same, by rw [e]; exact h.at_⟩
theorem LcP.ext {H' : Hp} (h : LcP H1 D L i H) (s : Same H H') : LcP H1 D L i H' := ⟨h.same.trans s, s _ _ h.at_⟩
end
theorem Same.new {H : Hp} {p : Addr} {o : HO} (n : H p = none) : Same H (upd H p o) := fun b u h => by
  rw [upd_ne (ne_of_none h n)]
  exact h
theorem take_one {α : Type} {xs : List α} {i : Nat} {x : α} (h : xs[i]? = some x) : xs.take (i + 1) = xs.take i ++ [x] := by
  rw [List.take_succ, h]
  rfl
theorem map_one {α β : Type} (f : α → β) {xs : List α} {i : Nat} {x : α} (h : xs[i]? = some x) : (xs.take (i + 1)).map f = (xs.take i).map f ++ [f x] := by
  rw [take_one h, List.map_append]
  rfl
theorem filt_one {α β : Type} (f : α → β) (p : α → Bool) {xs : List α} {i : Nat} {x : α} (h : xs[i]? = some x) (hp : p x = true) : ((xs.take (i + 1)).filter p).map f = ((xs.take i).filter p).map f ++ [f x] := by
  rw [take_one h, List.filter_append, List.map_append, List.filter_cons, if_pos hp]
  rfl
theorem filt_no {α β : Type} (f : α → β) (p : α → Bool) {xs : List α} {i : Nat} {x : α} (h : xs[i]? = some x) (hp : p x = false) : ((xs.take (i + 1)).filter p).map f = ((xs.take i).filter p).map f := by
  rw [take_one h, List.filter_append, List.filter_cons, if_neg (by rw [hp]; decide), List.filter_nil, List.append_nil]
theorem line_of {n m : Nat} (h : n ≤ m) (hm : m ≤ 100000) : n < sizeLine := by
  rw [sizeLine_eq]
  omega
end Rt
namespace Rt
open PySem PySem.Spec PyProof.Rows L2
/-! ### a list or a tuple -/
def Sq (K : PySem.W.Frag) (H : Hp) (a : Addr) (xs : List V) : Prop := SqL K H a xs ∨ SqT K H a xs
theorem sqT_same {K : PySem.W.Frag} {H H' : Hp} {a : Addr} {xs : List V} (e : Same H H') (h : SqT K H a xs) : SqT K H' a xs := by
  rcases h with (h | ⟨o, h⟩) | h
  · exact .inl (.inl (e _ _ h))
  · exact .inl (.inr ⟨o, e _ _ h⟩)
  · exact .inr h
theorem Sq.same {K : PySem.W.Frag} {H H' : Hp} {a : Addr} {xs : List V} (h : Sq K H a xs) (e : Same H H') : Sq K H' a xs := h.elim (fun h => .inl (e.seq h)) fun h => .inr (sqT_same e h)
section
variable {X : Cx} {tg : Expr}
def iSeq (K : PySem.W.Frag) (tl : TE) : TI := fun σ H R => tl σ H fun x H1 => ∃ a, x = .ref a ∧ (((∃ xs, SqL K H1 a xs) ∧ R (Itl K a) H1) ∨ ((∃ xs, SqT K H1 a xs) ∧ R (Itt K a) H1))
/-- what is walked is a list or a tuple -/
theorem pi_seq {l : Expr} {tl : TE} (hl : PE X l tl) : PI X tg l (iSeq X.K tl) := by
  refine ⟨fun pins s σ H R I h => ?_⟩
  refine thn (hl.run pins s σ H _ I h) fun v s1 ⟨x, H1, I1, r1, a, e, q1⟩ => ?_
  subst e
  have he : PE X l (fun _ H Q => Q (.ref a) H) → True := fun _ => trivial
  cases r1
  have pushed : ∀ {o : Obj}, Inv X pins σ H1 { s1 with heap := s1.heap.push o } := fun {o} => I1.kept (t' := s1.toks) fun b u e => Heap.get?_push_of_some _ e
  have own : ∀ b ∈ [s1.heap.objs.size], FpOk X pins H1 b := fun b hb => by
    rw [List.mem_singleton.mp hb]
    exact I1.fpOk (Nat.le_refl _) I1.fresh
  rcases q1 with ⟨⟨xs, hq⟩, q⟩ | ⟨⟨xs, hq⟩, q⟩
  · obtain ⟨its, rv, pl, _⟩ := I1.list hq
    exact wpAny_pyIter_list pl.isList ⟨s1.heap.objs.size, [s1.heap.objs.size], _, _, H1, rfl, pushed, turn_list a _, ⟨_, Heap.get?_push_size _ rfl, rfl, rfl⟩, own, q⟩
  · obtain ⟨its, rv, pl, _⟩ := I1.tuple hq
    exact wpAny_pyIter_tuple (show s1.heap.IsTuple a its.toArray from pl) ⟨s1.heap.objs.size, [s1.heap.objs.size], _, _, H1, rfl, pushed, turn_tuple a _, ⟨_, Heap.get?_push_size _ rfl, rfl, rfl⟩, own, q⟩
theorem seq_by {K : PySem.W.Frag} {H : Hp} {a : Addr} {xs : List V} {R : It → Hp → Prop} (h : Sq K H a xs) (f : ∀ (J : It) (G : Hp → Prop), Walk J xs.length G (YAt xs) → (∀ H', Same H H' → G H') → R J H) :
    ((∃ xs, SqL K H a xs) ∧ R (Itl K a) H) ∨ ((∃ xs, SqT K H a xs) ∧ R (Itt K a) H) := by
  rcases h with h | h
  · exact .inl ⟨⟨xs, h⟩, f _ _ walk_list fun H' e => e.seq h⟩
  · exact .inr ⟨⟨xs, h⟩, f _ _ walk_tup fun H' e => sqT_same e h⟩
end
/-- what a comprehension asks of the thing that it walks -/
abbrev LcR (g : TG) (tt : TT) (te : TE) (vs : List Nat) (σ : L2.St) (Q : Addr → Hp → Prop) : It → Hp → Prop := fun J H1 => ∀ D, H1 D = none → ∃ W : Nat → Nat → Hp → Prop, (∃ m, W 0 m (upd H1 D (.lst []))) ∧ ∀ i m H, W i m H →
  (J.stop i H ∧ Q D H) ∨ (J.go i H ∧ ∃ Nx : Hp → Prop, (∀ H', Nx H' → ∃ m', m' < m ∧ W (i + 1) m' H') ∧ ∀ x H', J.yld i H x H' → g x (wipe σ vs) H' fun σ2 H2 => wipe σ2 vs = wipe σ vs ∧ tt σ2 H2 fun b H3 =>
    if b = true then te σ2 H3 fun y H4 => ∃ acc, H4 D = some (.lst acc) ∧ acc.length < sizeLine ∧ Nx (upd H4 D (.lst (acc ++ [y]))) else Nx H3)
/-- a comprehension over a list or a tuple, its turns leaving what was tracked -/
theorem lc_seq {K : PySem.W.Frag} {H1 : Hp} {a : Addr} {xs : List V} {g : TG} {tt : TT} {te : TE} {vs : List Nat} {σ : L2.St} {Q : Addr → Hp → Prop} (h : Sq K H1 a xs) (L : Nat → List V) (h0 : L 0 = [])
    (turn : ∀ D, H1 D = none → ∀ i x H, xs[i]? = some x → LcP H1 D L i H → g x (wipe σ vs) H fun σ2 H2 => wipe σ2 vs = wipe σ vs ∧ tt σ2 H2 fun b H3 =>
      if b = true then te σ2 H3 fun y H4 => ∃ acc, H4 D = some (.lst acc) ∧ acc.length < sizeLine ∧ LcP H1 D L (i + 1) (upd H4 D (.lst (acc ++ [y]))) else LcP H1 D L (i + 1) H3)
    (fin : ∀ D H, H1 D = none → Same H1 H → H D = some (.lst (L xs.length)) → Q D H) :
    ((∃ xs, SqL K H1 a xs) ∧ LcR g tt te vs σ Q (Itl K a) H1) ∨ ((∃ xs, SqT K H1 a xs) ∧ LcR g tt te vs σ Q (Itt K a) H1) := by
  refine seq_by (R := LcR g tt te vs σ Q) h fun J G w g0 D nD => ?_
  refine lc_it w (LcP H1 D L) (LcP.zero nD h0) (fun i H _ p => g0 H p.same) ?_ (fun H p => fin D H nD p.same p.at_)
  rintro i x H2 H3 hi p ⟨rfl, hx⟩
  exact turn D nD i x H3 hx p
end Rt
end
section
set_option Elab.async false
set_option linter.all false
set_option maxRecDepth 100000
set_option maxHeartbeats 4000000
namespace Rt
open PySem PySem.Spec PyProof.Rows L2
/-! ### the text by places -/
def top (i : Nat) : Stmt := PySem.Challenge.pw_refundtrees_k01_books_told.main.body.getD i (.Pass ⟨0, 0, 0, 0⟩)
abbrev s_NoBook_init : Stmt := inClass (top 2) 0
abbrev s_NoSkill_init : Stmt := inClass (top 3) 0
abbrev s_NoNumber_init : Stmt := inClass (top 4) 0
abbrev s_is_number : Stmt := top 8
abbrev s_is_number_in : Stmt := top 9
abbrev s_is_word : Stmt := top 10
abbrev s_is_one_of : Stmt := top 11
abbrev s_are_unlike : Stmt := top 12
abbrev s_wrong_part : Stmt := top 22
abbrev s_are_rows : Stmt := top 23
abbrev s_is_pair : Stmt := top 24
abbrev s_are_skills : Stmt := top 25
abbrev s_are_needs : Stmt := top 26
abbrev s_is_need : Stmt := top 27
abbrev s_are_wants : Stmt := top 28
abbrev s_is_want : Stmt := top 29
abbrev s_are_others : Stmt := top 30
abbrev s_are_bars : Stmt := top 31
abbrev s_are_told_once : Stmt := top 32
abbrev s_Book_init : Stmt := inClass (top 34) 0
abbrev s_Book_skills : Stmt := inClass (top 34) 1
abbrev s_Book_needs : Stmt := inClass (top 34) 2
abbrev s_Book_wants : Stmt := inClass (top 34) 3
abbrev s_Book_bars : Stmt := inClass (top 34) 4
abbrev s_Book_gives : Stmt := inClass (top 34) 5
abbrev s_Book_prices : Stmt := inClass (top 34) 6
abbrev s_Book_points : Stmt := inClass (top 34) 7
abbrev s_Book_reset : Stmt := inClass (top 34) 8
abbrev s_Book_names : Stmt := inClass (top 34) 9
abbrev s_Book_listed : Stmt := inClass (top 34) 10
abbrev s_Book_need_of : Stmt := inClass (top 34) 11
abbrev s_Book_price_of : Stmt := inClass (top 34) 12
abbrev s_Book_given_by : Stmt := inClass (top 34) 13
abbrev s_Book_wants_of : Stmt := inClass (top 34) 14
abbrev s_Book_changed : Stmt := inClass (top 34) 15
abbrev s_Book_must_have : Stmt := inClass (top 34) 16
abbrev s_Book_getitem : Stmt := inClass (top 34) 17
abbrev s_Book_contains : Stmt := inClass (top 34) 18
abbrev s_Book_len : Stmt := inClass (top 34) 19
abbrev s_Book_iter : Stmt := inClass (top 34) 20
abbrev s_Book_eq : Stmt := inClass (top 34) 21
abbrev s_law_pool : Stmt := top 36
abbrev s_law_take : Stmt := top 37
abbrev s_law_one : Stmt := top 38
abbrev s_law_turned : Stmt := top 39
abbrev s_law_tree : Stmt := top 40
abbrev s_law_rows : Stmt := top 41
abbrev s_law_book : Stmt := top 42
abbrev s_law_made : Stmt := top 43
abbrev s_law_names : Stmt := top 44
abbrev s_law_need : Stmt := top 45
abbrev s_law_price : Stmt := top 46
abbrev s_law_tried : Stmt := top 47
abbrev s_law_parts : Stmt := top 48
abbrev s_law_made_of_lists : Stmt := top 49
abbrev s_law_skills_right : Stmt := top 50
abbrev s_law_refused_right : Stmt := top 51
abbrev s_law : Stmt := top 52
theorem sc_NoBook_init : FnScope ["self", "part"] ["self", "part"] (defScope s_NoBook_init) := ⟨rfl, rfl, rfl, by decide +kernel, rfl, by decide +kernel, by decide +kernel⟩
theorem sc_NoSkill_init : FnScope ["self", "skill"] ["self", "skill"] (defScope s_NoSkill_init) := ⟨rfl, rfl, rfl, by decide +kernel, rfl, by decide +kernel, by decide +kernel⟩
theorem sc_NoNumber_init : FnScope ["self", "value"] ["self", "value"] (defScope s_NoNumber_init) := ⟨rfl, rfl, rfl, by decide +kernel, rfl, by decide +kernel, by decide +kernel⟩
theorem sc_is_number : FnScope ["value"] ["value"] (defScope s_is_number) := ⟨rfl, rfl, rfl, by decide +kernel, rfl, by decide +kernel, by decide +kernel⟩
theorem sc_is_number_in : FnScope ["value", "low", "high"] ["value", "low", "high"] (defScope s_is_number_in) := ⟨rfl, rfl, rfl, by decide +kernel, rfl, by decide +kernel, by decide +kernel⟩
theorem sc_is_word : FnScope ["value", "sign"] ["value"] (defScope s_is_word) := ⟨rfl, rfl, rfl, by decide +kernel, rfl, by decide +kernel, by decide +kernel⟩
theorem sc_is_one_of : FnScope ["names", "value"] ["names", "value"] (defScope s_is_one_of) := ⟨rfl, rfl, rfl, by decide +kernel, rfl, by decide +kernel, by decide +kernel⟩
theorem sc_are_unlike : FnScope ["names", "values", "value"] ["names", "values"] (defScope s_are_unlike) := ⟨rfl, rfl, rfl, by decide +kernel, rfl, by decide +kernel, by decide +kernel⟩
theorem sc_wrong_part : FnScope ["skills", "points", "needs", "wants", "bars", "gives", "prices", "reset", "names", "answers", "wrong", "name", "_", "part", "right"] ["skills", "points", "needs", "wants", "bars", "gives", "prices", "reset"] (defScope s_wrong_part) := ⟨rfl, rfl, rfl, by decide +kernel, rfl, by decide +kernel, by decide +kernel⟩
theorem sc_are_rows : FnScope ["value", "most"] ["value", "most"] (defScope s_are_rows) := ⟨rfl, rfl, rfl, by decide +kernel, rfl, by decide +kernel, by decide +kernel⟩
theorem sc_is_pair : FnScope ["value"] ["value"] (defScope s_is_pair) := ⟨rfl, rfl, rfl, by decide +kernel, rfl, by decide +kernel, by decide +kernel⟩
theorem sc_are_skills : FnScope ["value", "names", "tiers", "name", "_", "tier", "row"] ["value"] (defScope s_are_skills) := ⟨rfl, rfl, rfl, by decide +kernel, rfl, by decide +kernel, by decide +kernel⟩
theorem sc_are_needs : FnScope ["value", "tiers", "tier", "_", "row"] ["value"] (defScope s_are_needs) := ⟨rfl, rfl, rfl, by decide +kernel, rfl, by decide +kernel, by decide +kernel⟩
theorem sc_is_need : FnScope ["row"] ["row"] (defScope s_is_need) := ⟨rfl, rfl, rfl, by decide +kernel, rfl, by decide +kernel, by decide +kernel⟩
theorem sc_are_wants : FnScope ["names", "value", "row"] ["names", "value"] (defScope s_are_wants) := ⟨rfl, rfl, rfl, by decide +kernel, rfl, by decide +kernel, by decide +kernel⟩
theorem sc_is_want : FnScope ["names", "row"] ["names", "row"] (defScope s_is_want) := ⟨rfl, rfl, rfl, by decide +kernel, rfl, by decide +kernel, by decide +kernel⟩
theorem sc_are_others : FnScope ["names", "skill", "value"] ["names", "skill", "value"] (defScope s_are_others) := ⟨rfl, rfl, rfl, by decide +kernel, rfl, by decide +kernel, by decide +kernel⟩
theorem sc_are_bars : FnScope ["names", "value", "pairs", "row"] ["names", "value"] (defScope s_are_bars) := ⟨rfl, rfl, rfl, by decide +kernel, rfl, by decide +kernel, by decide +kernel⟩
theorem sc_are_told_once : FnScope ["names", "value", "low", "high", "skill", "_", "row"] ["names", "value", "low", "high"] (defScope s_are_told_once) := ⟨rfl, rfl, rfl, by decide +kernel, rfl, by decide +kernel, by decide +kernel⟩
theorem sc_Book_init : FnScope ["self", "skills", "points", "needs", "wants", "bars", "gives", "prices", "reset", "part", "name", "_"] ["self", "skills", "points", "needs", "wants", "bars", "gives", "prices", "reset"] (defScope s_Book_init) := ⟨rfl, rfl, rfl, by decide +kernel, rfl, by decide +kernel, by decide +kernel⟩
theorem sc_Book_skills : FnScope ["self"] ["self"] (defScope s_Book_skills) := ⟨rfl, rfl, rfl, by decide +kernel, rfl, by decide +kernel, by decide +kernel⟩
theorem sc_Book_needs : FnScope ["self"] ["self"] (defScope s_Book_needs) := ⟨rfl, rfl, rfl, by decide +kernel, rfl, by decide +kernel, by decide +kernel⟩
theorem sc_Book_wants : FnScope ["self"] ["self"] (defScope s_Book_wants) := ⟨rfl, rfl, rfl, by decide +kernel, rfl, by decide +kernel, by decide +kernel⟩
theorem sc_Book_bars : FnScope ["self"] ["self"] (defScope s_Book_bars) := ⟨rfl, rfl, rfl, by decide +kernel, rfl, by decide +kernel, by decide +kernel⟩
theorem sc_Book_gives : FnScope ["self"] ["self"] (defScope s_Book_gives) := ⟨rfl, rfl, rfl, by decide +kernel, rfl, by decide +kernel, by decide +kernel⟩
theorem sc_Book_prices : FnScope ["self"] ["self"] (defScope s_Book_prices) := ⟨rfl, rfl, rfl, by decide +kernel, rfl, by decide +kernel, by decide +kernel⟩
theorem sc_Book_points : FnScope ["self"] ["self"] (defScope s_Book_points) := ⟨rfl, rfl, rfl, by decide +kernel, rfl, by decide +kernel, by decide +kernel⟩
theorem sc_Book_reset : FnScope ["self"] ["self"] (defScope s_Book_reset) := ⟨rfl, rfl, rfl, by decide +kernel, rfl, by decide +kernel, by decide +kernel⟩
theorem sc_Book_names : FnScope ["self"] ["self"] (defScope s_Book_names) := ⟨rfl, rfl, rfl, by decide +kernel, rfl, by decide +kernel, by decide +kernel⟩
theorem sc_Book_listed : FnScope ["self"] ["self"] (defScope s_Book_listed) := ⟨rfl, rfl, rfl, by decide +kernel, rfl, by decide +kernel, by decide +kernel⟩
theorem sc_Book_need_of : FnScope ["self", "tier"] ["self", "tier"] (defScope s_Book_need_of) := ⟨rfl, rfl, rfl, by decide +kernel, rfl, by decide +kernel, by decide +kernel⟩
theorem sc_Book_price_of : FnScope ["self", "skill"] ["self", "skill"] (defScope s_Book_price_of) := ⟨rfl, rfl, rfl, by decide +kernel, rfl, by decide +kernel, by decide +kernel⟩
theorem sc_Book_given_by : FnScope ["self", "skill"] ["self", "skill"] (defScope s_Book_given_by) := ⟨rfl, rfl, rfl, by decide +kernel, rfl, by decide +kernel, by decide +kernel⟩
theorem sc_Book_wants_of : FnScope ["self", "skill", "want"] ["self", "skill"] (defScope s_Book_wants_of) := ⟨rfl, rfl, rfl, by decide +kernel, rfl, by decide +kernel, by decide +kernel⟩
theorem sc_Book_changed : FnScope ["self", "parts", "name", "told"] ["self", "parts"] (defScope s_Book_changed) := ⟨rfl, rfl, rfl, by decide +kernel, rfl, by decide +kernel, by decide +kernel⟩
theorem sc_Book_must_have : FnScope ["self", "skill"] ["self", "skill"] (defScope s_Book_must_have) := ⟨rfl, rfl, rfl, by decide +kernel, rfl, by decide +kernel, by decide +kernel⟩
theorem sc_Book_getitem : FnScope ["self", "at"] ["self", "at"] (defScope s_Book_getitem) := ⟨rfl, rfl, rfl, by decide +kernel, rfl, by decide +kernel, by decide +kernel⟩
theorem sc_Book_contains : FnScope ["self", "x"] ["self", "x"] (defScope s_Book_contains) := ⟨rfl, rfl, rfl, by decide +kernel, rfl, by decide +kernel, by decide +kernel⟩
theorem sc_Book_len : FnScope ["self"] ["self"] (defScope s_Book_len) := ⟨rfl, rfl, rfl, by decide +kernel, rfl, by decide +kernel, by decide +kernel⟩
theorem sc_Book_iter : FnScope ["self"] ["self"] (defScope s_Book_iter) := ⟨rfl, rfl, rfl, by decide +kernel, rfl, by decide +kernel, by decide +kernel⟩
theorem sc_Book_eq : FnScope ["self", "other"] ["self", "other"] (defScope s_Book_eq) := ⟨rfl, rfl, rfl, by decide +kernel, rfl, by decide +kernel, by decide +kernel⟩
theorem sc_law_pool : FnScope ["_law_script", "_law_k", "_law_cell", "_law_big", "_law_mixed"] ["_law_script", "_law_k"] (defScope s_law_pool) := ⟨rfl, rfl, rfl, by decide +kernel, rfl, by decide +kernel, by decide +kernel⟩
theorem sc_law_take : FnScope ["_law_pool_here", "_law_bound", "_law_result"] ["_law_pool_here", "_law_bound"] (defScope s_law_take) := ⟨rfl, rfl, rfl, by decide +kernel, rfl, by decide +kernel, by decide +kernel⟩
theorem sc_law_one : FnScope ["_law_pool_here", "_law_things"] ["_law_pool_here", "_law_things"] (defScope s_law_one) := ⟨rfl, rfl, rfl, by decide +kernel, rfl, by decide +kernel, by decide +kernel⟩
theorem sc_law_turned : FnScope ["_law_pool_here", "_law_things", "_law_left", "_law_found"] ["_law_pool_here", "_law_things"] (defScope s_law_turned) := ⟨rfl, rfl, rfl, by decide +kernel, rfl, by decide +kernel, by decide +kernel⟩
theorem sc_law_tree : FnScope ["_law_pool_here", "_law_top", "_law_names_here", "_law_tier", "_law_rows_here", "_law_name", "_law_asked"] ["_law_pool_here", "_law_top"] (defScope s_law_tree) := ⟨rfl, rfl, rfl, by decide +kernel, rfl, by decide +kernel, by decide +kernel⟩
theorem sc_law_rows : FnScope ["_law_pool_here", "_law_names_here", "_law_top", "_law_words", "_law_is_down", "_law_found", "_law_turn", "_law_spot", "_law_others", "_law_some", "_law_word"] ["_law_pool_here", "_law_names_here", "_law_top", "_law_words", "_law_is_down"] (defScope s_law_rows) := ⟨rfl, rfl, rfl, by decide +kernel, rfl, by decide +kernel, by decide +kernel⟩
theorem sc_law_book : FnScope ["_law_pool_here", "_law_top", "_law_sort", "_law_rows_here", "_law_asked", "_law_names_here", "_law_words", "_law_book_here", "_law_turn", "_law_pair", "_law_row", "_law_name"] ["_law_pool_here", "_law_top", "_law_sort"] (defScope s_law_book) := ⟨rfl, rfl, rfl, by decide +kernel, rfl, by decide +kernel, by decide +kernel⟩
theorem sc_law_made : FnScope ["_law_book_here"] ["_law_book_here"] (defScope s_law_made) := ⟨rfl, rfl, rfl, by decide +kernel, rfl, by decide +kernel, by decide +kernel⟩
theorem sc_law_names : FnScope ["_law_book_here", "_law_row"] ["_law_book_here"] (defScope s_law_names) := ⟨rfl, rfl, rfl, by decide +kernel, rfl, by decide +kernel, by decide +kernel⟩
theorem sc_law_need : FnScope ["_law_book_here", "_law_tier"] ["_law_book_here", "_law_tier"] (defScope s_law_need) := ⟨rfl, rfl, rfl, by decide +kernel, rfl, by decide +kernel, by decide +kernel⟩
theorem sc_law_price : FnScope ["_law_book_here", "_law_name"] ["_law_book_here", "_law_name"] (defScope s_law_price) := ⟨rfl, rfl, rfl, by decide +kernel, rfl, by decide +kernel, by decide +kernel⟩
theorem sc_law_tried : FnScope ["_law_function", "e"] ["_law_function"] (defScope s_law_tried) := ⟨rfl, rfl, rfl, by decide +kernel, rfl, by decide +kernel, by decide +kernel⟩
theorem sc_law_parts : FnScope ["_law_made_here", "_law_found"] ["_law_made_here"] (defScope s_law_parts) := ⟨rfl, rfl, rfl, by decide +kernel, rfl, by decide +kernel, by decide +kernel⟩
theorem sc_law_made_of_lists : FnScope ["_law_book_here", "_law_rows_here", "_law_made_here", "_law_row", "_law_part"] ["_law_book_here"] (defScope s_law_made_of_lists) := ⟨rfl, rfl, rfl, by decide +kernel, rfl, by decide +kernel, by decide +kernel⟩
theorem sc_law_skills_right : FnScope ["_law_book_here", "_law_made_here", "_law_name", "_law_tier", "_law_row"] ["_law_book_here", "_law_made_here"] (defScope s_law_skills_right) := ⟨rfl, rfl, rfl, by decide +kernel, rfl, by decide +kernel, by decide +kernel⟩
theorem sc_law_refused_right : FnScope ["_law_made_here", "_law_thing"] ["_law_made_here"] (defScope s_law_refused_right) := ⟨rfl, rfl, rfl, by decide +kernel, rfl, by decide +kernel, by decide +kernel⟩
theorem sc_law : FnScope ["_law_script", "_law_k", "_law_pool_here", "_law_book_here", "_law_made_here", "_law_parts_here", "_law_wanted", "_law_row", "_law_part"] ["_law_script"] (defScope s_law) := ⟨rfl, rfl, rfl, by decide +kernel, rfl, by decide +kernel, by decide +kernel⟩
/-! ### the facts of the top -/
def dG (i : Nat) (x : Str) : He.DefD := ⟨(x, none), x, x, defArgs (top i), defBody (top i), defScope (top i), [], []⟩
def dM (c : Str) (i j : Nat) (m q : Str) : He.DefD := ⟨(c, some m), m, q, defArgs (inClass (top i) j), defBody (inClass (top i) j), defScope (inClass (top i) j), [], []⟩
/-- the default of a keyword-only parameter, if it is an object -/
def kwdAt (f : Str × Option Str) (x : Str) (K : PySem.W.Frag) : Addr := match K.lookup (He.fAd K f) with
  | some ⟨_, _, .func fd, _⟩ => (match fd.kwdefaults with
    | .ref D => (match PySem.W.nsIn K D x with
      | some (some (.ref a)) => a
      | _ => 0)
    | _ => 0)
  | _ => 0
def dI : He.DefD := ⟨("Book", some "__init__"), "__init__", "Book.__init__", defArgs s_Book_init, defBody s_Book_init, defScope s_Book_init, [], [("needs", .adr (kwdAt ("Book", some "__init__") "needs")), ("wants", .adr (kwdAt ("Book", some "__init__") "wants")), ("bars", .adr (kwdAt ("Book", some "__init__") "bars")), ("gives", .adr (kwdAt ("Book", some "__init__") "gives")), ("prices", .adr (kwdAt ("Book", some "__init__") "prices")), ("reset", .non)]⟩
def fn : List He.DefD := [dG 8 "is_number", dG 9 "is_number_in", dG 10 "is_word", dG 11 "is_one_of", dG 12 "are_unlike", dG 22 "wrong_part", dG 23 "are_rows", dG 24 "is_pair", dG 25 "are_skills", dG 26 "are_needs", dG 27 "is_need", dG 28 "are_wants", dG 29 "is_want", dG 30 "are_others", dG 31 "are_bars", dG 32 "are_told_once", dG 36 "_law_pool", dG 37 "_law_take", dG 38 "_law_one", dG 39 "_law_turned", dG 40 "_law_tree", dG 41 "_law_rows", dG 42 "_law_book", dG 43 "_law_made", dG 44 "_law_names", dG 45 "_law_need", dG 46 "_law_price", dG 47 "_law_tried", dG 48 "_law_parts", dG 49 "_law_made_of_lists", dG 50 "_law_skills_right", dG 51 "_law_refused_right", dG 52 "law", dM "NoBook" 2 0 "__init__" "NoBook.__init__", dM "NoSkill" 3 0 "__init__" "NoSkill.__init__", dM "NoNumber" 4 0 "__init__" "NoNumber.__init__", dM "Book" 34 1 "skills" "Book.skills", dM "Book" 34 2 "needs" "Book.needs", dM "Book" 34 3 "wants" "Book.wants", dM "Book" 34 4 "bars" "Book.bars", dM "Book" 34 5 "gives" "Book.gives", dM "Book" 34 6 "prices" "Book.prices", dM "Book" 34 9 "names" "Book.names", dM "Book" 34 10 "listed" "Book.listed", dM "Book" 34 11 "need_of" "Book.need_of", dM "Book" 34 12 "price_of" "Book.price_of", dM "Book" 34 13 "given_by" "Book.given_by", dM "Book" 34 14 "wants_of" "Book.wants_of", dM "Book" 34 16 "_must_have" "Book._must_have", dM "Book" 34 17 "__getitem__" "Book.__getitem__", dM "Book" 34 18 "__contains__" "Book.__contains__", dM "Book" 34 19 "__len__" "Book.__len__", dM "Book" 34 20 "__iter__" "Book.__iter__", dM "Book" 34 21 "__eq__" "Book.__eq__", dI]
def fa : List He.Fa := [.glo "is_number", .glo "is_number_in", .glo "is_word", .glo "is_one_of", .glo "are_unlike", .glo "wrong_part", .glo "are_rows", .glo "is_pair", .glo "are_skills", .glo "are_needs", .glo "is_need", .glo "are_wants", .glo "is_want", .glo "are_others", .glo "are_bars", .glo "are_told_once", .glo "_law_pool", .glo "_law_take", .glo "_law_one", .glo "_law_turned", .glo "_law_tree", .glo "_law_rows", .glo "_law_book", .glo "_law_made", .glo "_law_names", .glo "_law_need", .glo "_law_price", .glo "_law_tried", .glo "_law_parts", .glo "_law_made_of_lists", .glo "_law_skills_right", .glo "_law_refused_right", .glo "law", .free "len", .free "isinstance", .free "int", .free "str", .free "bool", .free "list", .free "tuple", .free "dict", .free "set", .free "sorted", .free "all", .free "any", .free "sum", .free "min", .free "max", .free "range", .free "repr", .free "iter", .int "LONGEST_WORD" 8, .int "MOST_SKILLS" 12, .int "LAST_TIER" 4, .int "MOST_POINTS" 12, .int "MOST_NEED" 12, .int "MOST_WANTS" 12, .int "MOST_BARS" 6, .int "MOST_GIVEN" 3, .int "MOST_PRICE" 99, .str "SMALL_LETTERS" "abcdefghijklmnopqrstuvwxyz", .glo "Book", .cls "Book", .mkr "Book", .keep "Book", .noat "Book" "_parts", .noat "Book" "_names", .noat "Book" "_tiers", .noat "Book" "_need_by_tier", .noat "Book" "_given_by_skill", .noat "Book" "_price_by_skill", .meth "Book" "skills", .meth "Book" "needs", .meth "Book" "wants", .meth "Book" "bars", .meth "Book" "gives", .meth "Book" "prices", .meth "Book" "names", .meth "Book" "listed", .meth "Book" "need_of", .meth "Book" "price_of", .meth "Book" "given_by", .meth "Book" "wants_of", .meth "Book" "_must_have", .meth "Book" "__getitem__", .meth "Book" "__contains__", .meth "Book" "__len__", .meth "Book" "__iter__", .meth "Book" "__eq__", .glo "NoBook", .noat "NoBook" "part", .glo "NoSkill", .noat "NoSkill" "skill", .glo "NoNumber", .noat "NoNumber" "value", .exm "NoBook" "NoBook" true, .exm "NoBook" "NoSkill" false, .exm "NoBook" "NoNumber" false, .exm "NoSkill" "NoBook" false, .exm "NoSkill" "NoSkill" true, .exm "NoSkill" "NoNumber" false, .exm "NoNumber" "NoBook" false, .exm "NoNumber" "NoSkill" false, .exm "NoNumber" "NoNumber" true]
structure All (K : PySem.W.Frag) (mg : Str → Option Value) : Prop where
  s : He.SaysD fa fn K
  hp : ∃ h : Heap, K.In h ∧ h.Ns mainGlobals mg
section
variable {K : PySem.W.Frag} {mg : Str → Option Value}
theorem All.g_is_number (Z : All K mg) : mg "is_number" = some (.ref (He.ga K "is_number")) := let ⟨_, X, G⟩ := Z.hp; He.glo_ok X G (Z.s.fact 0 (f := .glo "is_number") rfl)
theorem All.g_is_number_in (Z : All K mg) : mg "is_number_in" = some (.ref (He.ga K "is_number_in")) := let ⟨_, X, G⟩ := Z.hp; He.glo_ok X G (Z.s.fact 1 (f := .glo "is_number_in") rfl)
theorem All.g_is_word (Z : All K mg) : mg "is_word" = some (.ref (He.ga K "is_word")) := let ⟨_, X, G⟩ := Z.hp; He.glo_ok X G (Z.s.fact 2 (f := .glo "is_word") rfl)
theorem All.g_is_one_of (Z : All K mg) : mg "is_one_of" = some (.ref (He.ga K "is_one_of")) := let ⟨_, X, G⟩ := Z.hp; He.glo_ok X G (Z.s.fact 3 (f := .glo "is_one_of") rfl)
theorem All.g_are_unlike (Z : All K mg) : mg "are_unlike" = some (.ref (He.ga K "are_unlike")) := let ⟨_, X, G⟩ := Z.hp; He.glo_ok X G (Z.s.fact 4 (f := .glo "are_unlike") rfl)
theorem All.g_wrong_part (Z : All K mg) : mg "wrong_part" = some (.ref (He.ga K "wrong_part")) := let ⟨_, X, G⟩ := Z.hp; He.glo_ok X G (Z.s.fact 5 (f := .glo "wrong_part") rfl)
theorem All.g_are_rows (Z : All K mg) : mg "are_rows" = some (.ref (He.ga K "are_rows")) := let ⟨_, X, G⟩ := Z.hp; He.glo_ok X G (Z.s.fact 6 (f := .glo "are_rows") rfl)
theorem All.g_is_pair (Z : All K mg) : mg "is_pair" = some (.ref (He.ga K "is_pair")) := let ⟨_, X, G⟩ := Z.hp; He.glo_ok X G (Z.s.fact 7 (f := .glo "is_pair") rfl)
theorem All.g_are_skills (Z : All K mg) : mg "are_skills" = some (.ref (He.ga K "are_skills")) := let ⟨_, X, G⟩ := Z.hp; He.glo_ok X G (Z.s.fact 8 (f := .glo "are_skills") rfl)
theorem All.g_are_needs (Z : All K mg) : mg "are_needs" = some (.ref (He.ga K "are_needs")) := let ⟨_, X, G⟩ := Z.hp; He.glo_ok X G (Z.s.fact 9 (f := .glo "are_needs") rfl)
theorem All.g_is_need (Z : All K mg) : mg "is_need" = some (.ref (He.ga K "is_need")) := let ⟨_, X, G⟩ := Z.hp; He.glo_ok X G (Z.s.fact 10 (f := .glo "is_need") rfl)
theorem All.g_are_wants (Z : All K mg) : mg "are_wants" = some (.ref (He.ga K "are_wants")) := let ⟨_, X, G⟩ := Z.hp; He.glo_ok X G (Z.s.fact 11 (f := .glo "are_wants") rfl)
theorem All.g_is_want (Z : All K mg) : mg "is_want" = some (.ref (He.ga K "is_want")) := let ⟨_, X, G⟩ := Z.hp; He.glo_ok X G (Z.s.fact 12 (f := .glo "is_want") rfl)
theorem All.g_are_others (Z : All K mg) : mg "are_others" = some (.ref (He.ga K "are_others")) := let ⟨_, X, G⟩ := Z.hp; He.glo_ok X G (Z.s.fact 13 (f := .glo "are_others") rfl)
theorem All.g_are_bars (Z : All K mg) : mg "are_bars" = some (.ref (He.ga K "are_bars")) := let ⟨_, X, G⟩ := Z.hp; He.glo_ok X G (Z.s.fact 14 (f := .glo "are_bars") rfl)
theorem All.g_are_told_once (Z : All K mg) : mg "are_told_once" = some (.ref (He.ga K "are_told_once")) := let ⟨_, X, G⟩ := Z.hp; He.glo_ok X G (Z.s.fact 15 (f := .glo "are_told_once") rfl)
theorem All.g_law_pool (Z : All K mg) : mg "_law_pool" = some (.ref (He.ga K "_law_pool")) := let ⟨_, X, G⟩ := Z.hp; He.glo_ok X G (Z.s.fact 16 (f := .glo "_law_pool") rfl)
theorem All.g_law_take (Z : All K mg) : mg "_law_take" = some (.ref (He.ga K "_law_take")) := let ⟨_, X, G⟩ := Z.hp; He.glo_ok X G (Z.s.fact 17 (f := .glo "_law_take") rfl)
theorem All.g_law_one (Z : All K mg) : mg "_law_one" = some (.ref (He.ga K "_law_one")) := let ⟨_, X, G⟩ := Z.hp; He.glo_ok X G (Z.s.fact 18 (f := .glo "_law_one") rfl)
theorem All.g_law_turned (Z : All K mg) : mg "_law_turned" = some (.ref (He.ga K "_law_turned")) := let ⟨_, X, G⟩ := Z.hp; He.glo_ok X G (Z.s.fact 19 (f := .glo "_law_turned") rfl)
theorem All.g_law_tree (Z : All K mg) : mg "_law_tree" = some (.ref (He.ga K "_law_tree")) := let ⟨_, X, G⟩ := Z.hp; He.glo_ok X G (Z.s.fact 20 (f := .glo "_law_tree") rfl)
theorem All.g_law_rows (Z : All K mg) : mg "_law_rows" = some (.ref (He.ga K "_law_rows")) := let ⟨_, X, G⟩ := Z.hp; He.glo_ok X G (Z.s.fact 21 (f := .glo "_law_rows") rfl)
theorem All.g_law_book (Z : All K mg) : mg "_law_book" = some (.ref (He.ga K "_law_book")) := let ⟨_, X, G⟩ := Z.hp; He.glo_ok X G (Z.s.fact 22 (f := .glo "_law_book") rfl)
theorem All.g_law_made (Z : All K mg) : mg "_law_made" = some (.ref (He.ga K "_law_made")) := let ⟨_, X, G⟩ := Z.hp; He.glo_ok X G (Z.s.fact 23 (f := .glo "_law_made") rfl)
theorem All.g_law_names (Z : All K mg) : mg "_law_names" = some (.ref (He.ga K "_law_names")) := let ⟨_, X, G⟩ := Z.hp; He.glo_ok X G (Z.s.fact 24 (f := .glo "_law_names") rfl)
theorem All.g_law_need (Z : All K mg) : mg "_law_need" = some (.ref (He.ga K "_law_need")) := let ⟨_, X, G⟩ := Z.hp; He.glo_ok X G (Z.s.fact 25 (f := .glo "_law_need") rfl)
theorem All.g_law_price (Z : All K mg) : mg "_law_price" = some (.ref (He.ga K "_law_price")) := let ⟨_, X, G⟩ := Z.hp; He.glo_ok X G (Z.s.fact 26 (f := .glo "_law_price") rfl)
theorem All.g_law_tried (Z : All K mg) : mg "_law_tried" = some (.ref (He.ga K "_law_tried")) := let ⟨_, X, G⟩ := Z.hp; He.glo_ok X G (Z.s.fact 27 (f := .glo "_law_tried") rfl)
theorem All.g_law_parts (Z : All K mg) : mg "_law_parts" = some (.ref (He.ga K "_law_parts")) := let ⟨_, X, G⟩ := Z.hp; He.glo_ok X G (Z.s.fact 28 (f := .glo "_law_parts") rfl)
theorem All.g_law_made_of_lists (Z : All K mg) : mg "_law_made_of_lists" = some (.ref (He.ga K "_law_made_of_lists")) := let ⟨_, X, G⟩ := Z.hp; He.glo_ok X G (Z.s.fact 29 (f := .glo "_law_made_of_lists") rfl)
theorem All.g_law_skills_right (Z : All K mg) : mg "_law_skills_right" = some (.ref (He.ga K "_law_skills_right")) := let ⟨_, X, G⟩ := Z.hp; He.glo_ok X G (Z.s.fact 30 (f := .glo "_law_skills_right") rfl)
theorem All.g_law_refused_right (Z : All K mg) : mg "_law_refused_right" = some (.ref (He.ga K "_law_refused_right")) := let ⟨_, X, G⟩ := Z.hp; He.glo_ok X G (Z.s.fact 31 (f := .glo "_law_refused_right") rfl)
theorem All.g_law (Z : All K mg) : mg "law" = some (.ref (He.ga K "law")) := let ⟨_, X, G⟩ := Z.hp; He.glo_ok X G (Z.s.fact 32 (f := .glo "law") rfl)
theorem All.b_len (Z : All K mg) : mg "len" = none := let ⟨_, X, G⟩ := Z.hp; He.free_ok X G (Z.s.fact 33 (f := .free "len") rfl)
theorem All.b_isinstance (Z : All K mg) : mg "isinstance" = none := let ⟨_, X, G⟩ := Z.hp; He.free_ok X G (Z.s.fact 34 (f := .free "isinstance") rfl)
theorem All.b_int (Z : All K mg) : mg "int" = none := let ⟨_, X, G⟩ := Z.hp; He.free_ok X G (Z.s.fact 35 (f := .free "int") rfl)
theorem All.b_str (Z : All K mg) : mg "str" = none := let ⟨_, X, G⟩ := Z.hp; He.free_ok X G (Z.s.fact 36 (f := .free "str") rfl)
theorem All.b_bool (Z : All K mg) : mg "bool" = none := let ⟨_, X, G⟩ := Z.hp; He.free_ok X G (Z.s.fact 37 (f := .free "bool") rfl)
theorem All.b_list (Z : All K mg) : mg "list" = none := let ⟨_, X, G⟩ := Z.hp; He.free_ok X G (Z.s.fact 38 (f := .free "list") rfl)
theorem All.b_tuple (Z : All K mg) : mg "tuple" = none := let ⟨_, X, G⟩ := Z.hp; He.free_ok X G (Z.s.fact 39 (f := .free "tuple") rfl)
theorem All.b_dict (Z : All K mg) : mg "dict" = none := let ⟨_, X, G⟩ := Z.hp; He.free_ok X G (Z.s.fact 40 (f := .free "dict") rfl)
theorem All.b_set (Z : All K mg) : mg "set" = none := let ⟨_, X, G⟩ := Z.hp; He.free_ok X G (Z.s.fact 41 (f := .free "set") rfl)
theorem All.b_sorted (Z : All K mg) : mg "sorted" = none := let ⟨_, X, G⟩ := Z.hp; He.free_ok X G (Z.s.fact 42 (f := .free "sorted") rfl)
theorem All.b_all (Z : All K mg) : mg "all" = none := let ⟨_, X, G⟩ := Z.hp; He.free_ok X G (Z.s.fact 43 (f := .free "all") rfl)
theorem All.b_any (Z : All K mg) : mg "any" = none := let ⟨_, X, G⟩ := Z.hp; He.free_ok X G (Z.s.fact 44 (f := .free "any") rfl)
theorem All.b_sum (Z : All K mg) : mg "sum" = none := let ⟨_, X, G⟩ := Z.hp; He.free_ok X G (Z.s.fact 45 (f := .free "sum") rfl)
theorem All.b_min (Z : All K mg) : mg "min" = none := let ⟨_, X, G⟩ := Z.hp; He.free_ok X G (Z.s.fact 46 (f := .free "min") rfl)
theorem All.b_max (Z : All K mg) : mg "max" = none := let ⟨_, X, G⟩ := Z.hp; He.free_ok X G (Z.s.fact 47 (f := .free "max") rfl)
theorem All.b_range (Z : All K mg) : mg "range" = none := let ⟨_, X, G⟩ := Z.hp; He.free_ok X G (Z.s.fact 48 (f := .free "range") rfl)
theorem All.b_repr (Z : All K mg) : mg "repr" = none := let ⟨_, X, G⟩ := Z.hp; He.free_ok X G (Z.s.fact 49 (f := .free "repr") rfl)
theorem All.b_iter (Z : All K mg) : mg "iter" = none := let ⟨_, X, G⟩ := Z.hp; He.free_ok X G (Z.s.fact 50 (f := .free "iter") rfl)
theorem All.LONGEST_WORD (Z : All K mg) : ∃ t, mg "LONGEST_WORD" = some (.int 8 t) := let ⟨_, X, G⟩ := Z.hp; He.int_ok X G (Z.s.fact 51 (f := .int "LONGEST_WORD" 8) rfl)
theorem All.MOST_SKILLS (Z : All K mg) : ∃ t, mg "MOST_SKILLS" = some (.int 12 t) := let ⟨_, X, G⟩ := Z.hp; He.int_ok X G (Z.s.fact 52 (f := .int "MOST_SKILLS" 12) rfl)
theorem All.LAST_TIER (Z : All K mg) : ∃ t, mg "LAST_TIER" = some (.int 4 t) := let ⟨_, X, G⟩ := Z.hp; He.int_ok X G (Z.s.fact 53 (f := .int "LAST_TIER" 4) rfl)
theorem All.MOST_POINTS (Z : All K mg) : ∃ t, mg "MOST_POINTS" = some (.int 12 t) := let ⟨_, X, G⟩ := Z.hp; He.int_ok X G (Z.s.fact 54 (f := .int "MOST_POINTS" 12) rfl)
theorem All.MOST_NEED (Z : All K mg) : ∃ t, mg "MOST_NEED" = some (.int 12 t) := let ⟨_, X, G⟩ := Z.hp; He.int_ok X G (Z.s.fact 55 (f := .int "MOST_NEED" 12) rfl)
theorem All.MOST_WANTS (Z : All K mg) : ∃ t, mg "MOST_WANTS" = some (.int 12 t) := let ⟨_, X, G⟩ := Z.hp; He.int_ok X G (Z.s.fact 56 (f := .int "MOST_WANTS" 12) rfl)
theorem All.MOST_BARS (Z : All K mg) : ∃ t, mg "MOST_BARS" = some (.int 6 t) := let ⟨_, X, G⟩ := Z.hp; He.int_ok X G (Z.s.fact 57 (f := .int "MOST_BARS" 6) rfl)
theorem All.MOST_GIVEN (Z : All K mg) : ∃ t, mg "MOST_GIVEN" = some (.int 3 t) := let ⟨_, X, G⟩ := Z.hp; He.int_ok X G (Z.s.fact 58 (f := .int "MOST_GIVEN" 3) rfl)
theorem All.MOST_PRICE (Z : All K mg) : ∃ t, mg "MOST_PRICE" = some (.int 99 t) := let ⟨_, X, G⟩ := Z.hp; He.int_ok X G (Z.s.fact 59 (f := .int "MOST_PRICE" 99) rfl)
theorem All.SMALL_LETTERS (Z : All K mg) : ∃ t, mg "SMALL_LETTERS" = some (.str "abcdefghijklmnopqrstuvwxyz" t) := let ⟨_, X, G⟩ := Z.hp; He.str_ok X G (Z.s.fact 60 (f := .str "SMALL_LETTERS" "abcdefghijklmnopqrstuvwxyz") rfl)
theorem All.f_is_number (Z : All K mg) : ∃ fd, FunD K "is_number" "is_number" (defArgs s_is_number) (defBody s_is_number) (defScope s_is_number) [] [] (He.ga K "is_number") fd := Z.s.def_ 0 (d := dG 8 "is_number") rfl
theorem All.f_is_number_in (Z : All K mg) : ∃ fd, FunD K "is_number_in" "is_number_in" (defArgs s_is_number_in) (defBody s_is_number_in) (defScope s_is_number_in) [] [] (He.ga K "is_number_in") fd := Z.s.def_ 1 (d := dG 9 "is_number_in") rfl
theorem All.f_is_word (Z : All K mg) : ∃ fd, FunD K "is_word" "is_word" (defArgs s_is_word) (defBody s_is_word) (defScope s_is_word) [] [] (He.ga K "is_word") fd := Z.s.def_ 2 (d := dG 10 "is_word") rfl
theorem All.f_is_one_of (Z : All K mg) : ∃ fd, FunD K "is_one_of" "is_one_of" (defArgs s_is_one_of) (defBody s_is_one_of) (defScope s_is_one_of) [] [] (He.ga K "is_one_of") fd := Z.s.def_ 3 (d := dG 11 "is_one_of") rfl
theorem All.f_are_unlike (Z : All K mg) : ∃ fd, FunD K "are_unlike" "are_unlike" (defArgs s_are_unlike) (defBody s_are_unlike) (defScope s_are_unlike) [] [] (He.ga K "are_unlike") fd := Z.s.def_ 4 (d := dG 12 "are_unlike") rfl
theorem All.f_wrong_part (Z : All K mg) : ∃ fd, FunD K "wrong_part" "wrong_part" (defArgs s_wrong_part) (defBody s_wrong_part) (defScope s_wrong_part) [] [] (He.ga K "wrong_part") fd := Z.s.def_ 5 (d := dG 22 "wrong_part") rfl
theorem All.f_are_rows (Z : All K mg) : ∃ fd, FunD K "are_rows" "are_rows" (defArgs s_are_rows) (defBody s_are_rows) (defScope s_are_rows) [] [] (He.ga K "are_rows") fd := Z.s.def_ 6 (d := dG 23 "are_rows") rfl
theorem All.f_is_pair (Z : All K mg) : ∃ fd, FunD K "is_pair" "is_pair" (defArgs s_is_pair) (defBody s_is_pair) (defScope s_is_pair) [] [] (He.ga K "is_pair") fd := Z.s.def_ 7 (d := dG 24 "is_pair") rfl
theorem All.f_are_skills (Z : All K mg) : ∃ fd, FunD K "are_skills" "are_skills" (defArgs s_are_skills) (defBody s_are_skills) (defScope s_are_skills) [] [] (He.ga K "are_skills") fd := Z.s.def_ 8 (d := dG 25 "are_skills") rfl
theorem All.f_are_needs (Z : All K mg) : ∃ fd, FunD K "are_needs" "are_needs" (defArgs s_are_needs) (defBody s_are_needs) (defScope s_are_needs) [] [] (He.ga K "are_needs") fd := Z.s.def_ 9 (d := dG 26 "are_needs") rfl
theorem All.f_is_need (Z : All K mg) : ∃ fd, FunD K "is_need" "is_need" (defArgs s_is_need) (defBody s_is_need) (defScope s_is_need) [] [] (He.ga K "is_need") fd := Z.s.def_ 10 (d := dG 27 "is_need") rfl
theorem All.f_are_wants (Z : All K mg) : ∃ fd, FunD K "are_wants" "are_wants" (defArgs s_are_wants) (defBody s_are_wants) (defScope s_are_wants) [] [] (He.ga K "are_wants") fd := Z.s.def_ 11 (d := dG 28 "are_wants") rfl
theorem All.f_is_want (Z : All K mg) : ∃ fd, FunD K "is_want" "is_want" (defArgs s_is_want) (defBody s_is_want) (defScope s_is_want) [] [] (He.ga K "is_want") fd := Z.s.def_ 12 (d := dG 29 "is_want") rfl
theorem All.f_are_others (Z : All K mg) : ∃ fd, FunD K "are_others" "are_others" (defArgs s_are_others) (defBody s_are_others) (defScope s_are_others) [] [] (He.ga K "are_others") fd := Z.s.def_ 13 (d := dG 30 "are_others") rfl
theorem All.f_are_bars (Z : All K mg) : ∃ fd, FunD K "are_bars" "are_bars" (defArgs s_are_bars) (defBody s_are_bars) (defScope s_are_bars) [] [] (He.ga K "are_bars") fd := Z.s.def_ 14 (d := dG 31 "are_bars") rfl
theorem All.f_are_told_once (Z : All K mg) : ∃ fd, FunD K "are_told_once" "are_told_once" (defArgs s_are_told_once) (defBody s_are_told_once) (defScope s_are_told_once) [] [] (He.ga K "are_told_once") fd := Z.s.def_ 15 (d := dG 32 "are_told_once") rfl
theorem All.f_law_pool (Z : All K mg) : ∃ fd, FunD K "_law_pool" "_law_pool" (defArgs s_law_pool) (defBody s_law_pool) (defScope s_law_pool) [] [] (He.ga K "_law_pool") fd := Z.s.def_ 16 (d := dG 36 "_law_pool") rfl
theorem All.f_law_take (Z : All K mg) : ∃ fd, FunD K "_law_take" "_law_take" (defArgs s_law_take) (defBody s_law_take) (defScope s_law_take) [] [] (He.ga K "_law_take") fd := Z.s.def_ 17 (d := dG 37 "_law_take") rfl
theorem All.f_law_one (Z : All K mg) : ∃ fd, FunD K "_law_one" "_law_one" (defArgs s_law_one) (defBody s_law_one) (defScope s_law_one) [] [] (He.ga K "_law_one") fd := Z.s.def_ 18 (d := dG 38 "_law_one") rfl
theorem All.f_law_turned (Z : All K mg) : ∃ fd, FunD K "_law_turned" "_law_turned" (defArgs s_law_turned) (defBody s_law_turned) (defScope s_law_turned) [] [] (He.ga K "_law_turned") fd := Z.s.def_ 19 (d := dG 39 "_law_turned") rfl
theorem All.f_law_tree (Z : All K mg) : ∃ fd, FunD K "_law_tree" "_law_tree" (defArgs s_law_tree) (defBody s_law_tree) (defScope s_law_tree) [] [] (He.ga K "_law_tree") fd := Z.s.def_ 20 (d := dG 40 "_law_tree") rfl
theorem All.f_law_rows (Z : All K mg) : ∃ fd, FunD K "_law_rows" "_law_rows" (defArgs s_law_rows) (defBody s_law_rows) (defScope s_law_rows) [] [] (He.ga K "_law_rows") fd := Z.s.def_ 21 (d := dG 41 "_law_rows") rfl
theorem All.f_law_book (Z : All K mg) : ∃ fd, FunD K "_law_book" "_law_book" (defArgs s_law_book) (defBody s_law_book) (defScope s_law_book) [] [] (He.ga K "_law_book") fd := Z.s.def_ 22 (d := dG 42 "_law_book") rfl
theorem All.f_law_made (Z : All K mg) : ∃ fd, FunD K "_law_made" "_law_made" (defArgs s_law_made) (defBody s_law_made) (defScope s_law_made) [] [] (He.ga K "_law_made") fd := Z.s.def_ 23 (d := dG 43 "_law_made") rfl
theorem All.f_law_names (Z : All K mg) : ∃ fd, FunD K "_law_names" "_law_names" (defArgs s_law_names) (defBody s_law_names) (defScope s_law_names) [] [] (He.ga K "_law_names") fd := Z.s.def_ 24 (d := dG 44 "_law_names") rfl
theorem All.f_law_need (Z : All K mg) : ∃ fd, FunD K "_law_need" "_law_need" (defArgs s_law_need) (defBody s_law_need) (defScope s_law_need) [] [] (He.ga K "_law_need") fd := Z.s.def_ 25 (d := dG 45 "_law_need") rfl
theorem All.f_law_price (Z : All K mg) : ∃ fd, FunD K "_law_price" "_law_price" (defArgs s_law_price) (defBody s_law_price) (defScope s_law_price) [] [] (He.ga K "_law_price") fd := Z.s.def_ 26 (d := dG 46 "_law_price") rfl
theorem All.f_law_tried (Z : All K mg) : ∃ fd, FunD K "_law_tried" "_law_tried" (defArgs s_law_tried) (defBody s_law_tried) (defScope s_law_tried) [] [] (He.ga K "_law_tried") fd := Z.s.def_ 27 (d := dG 47 "_law_tried") rfl
theorem All.f_law_parts (Z : All K mg) : ∃ fd, FunD K "_law_parts" "_law_parts" (defArgs s_law_parts) (defBody s_law_parts) (defScope s_law_parts) [] [] (He.ga K "_law_parts") fd := Z.s.def_ 28 (d := dG 48 "_law_parts") rfl
theorem All.f_law_made_of_lists (Z : All K mg) : ∃ fd, FunD K "_law_made_of_lists" "_law_made_of_lists" (defArgs s_law_made_of_lists) (defBody s_law_made_of_lists) (defScope s_law_made_of_lists) [] [] (He.ga K "_law_made_of_lists") fd := Z.s.def_ 29 (d := dG 49 "_law_made_of_lists") rfl
theorem All.f_law_skills_right (Z : All K mg) : ∃ fd, FunD K "_law_skills_right" "_law_skills_right" (defArgs s_law_skills_right) (defBody s_law_skills_right) (defScope s_law_skills_right) [] [] (He.ga K "_law_skills_right") fd := Z.s.def_ 30 (d := dG 50 "_law_skills_right") rfl
theorem All.f_law_refused_right (Z : All K mg) : ∃ fd, FunD K "_law_refused_right" "_law_refused_right" (defArgs s_law_refused_right) (defBody s_law_refused_right) (defScope s_law_refused_right) [] [] (He.ga K "_law_refused_right") fd := Z.s.def_ 31 (d := dG 51 "_law_refused_right") rfl
theorem All.f_law (Z : All K mg) : ∃ fd, FunD K "law" "law" (defArgs s_law) (defBody s_law) (defScope s_law) [] [] (He.ga K "law") fd := Z.s.def_ 32 (d := dG 52 "law") rfl
theorem All.g_Book (Z : All K mg) : mg "Book" = some (.ref (He.ga K "Book")) := let ⟨_, X, G⟩ := Z.hp; He.glo_ok X G (Z.s.fact 61 (f := .glo "Book") rfl)
theorem All.c_Book (Z : All K mg) : Cls K (He.ga K "Book") := He.cls_ok (Z.s.fact 62 (f := .cls "Book") rfl)
theorem All.k_Book (Z : All K mg) : Mk K (He.ga K "Book") (He.ma K (He.ga K "Book") "__init__") := He.mkr_ok (Z.s.fact 63 (f := .mkr "Book") rfl)
theorem All.n_parts (Z : All K mg) : NoAttr K (He.ga K "Book") "_parts" := He.noat_ok (Z.s.fact 65 (f := .noat "Book" "_parts") rfl)
theorem All.n_names (Z : All K mg) : NoAttr K (He.ga K "Book") "_names" := He.noat_ok (Z.s.fact 66 (f := .noat "Book" "_names") rfl)
theorem All.n_tiers (Z : All K mg) : NoAttr K (He.ga K "Book") "_tiers" := He.noat_ok (Z.s.fact 67 (f := .noat "Book" "_tiers") rfl)
theorem All.n_need_by_tier (Z : All K mg) : NoAttr K (He.ga K "Book") "_need_by_tier" := He.noat_ok (Z.s.fact 68 (f := .noat "Book" "_need_by_tier") rfl)
theorem All.n_given_by_skill (Z : All K mg) : NoAttr K (He.ga K "Book") "_given_by_skill" := He.noat_ok (Z.s.fact 69 (f := .noat "Book" "_given_by_skill") rfl)
theorem All.n_price_by_skill (Z : All K mg) : NoAttr K (He.ga K "Book") "_price_by_skill" := He.noat_ok (Z.s.fact 70 (f := .noat "Book" "_price_by_skill") rfl)
theorem All.m_skills (Z : All K mg) : Meth K (He.ga K "Book") "skills" (He.ma K (He.ga K "Book") "skills") := He.meth_ok (Z.s.fact 71 (f := .meth "Book" "skills") rfl)
theorem All.m_needs (Z : All K mg) : Meth K (He.ga K "Book") "needs" (He.ma K (He.ga K "Book") "needs") := He.meth_ok (Z.s.fact 72 (f := .meth "Book" "needs") rfl)
theorem All.m_wants (Z : All K mg) : Meth K (He.ga K "Book") "wants" (He.ma K (He.ga K "Book") "wants") := He.meth_ok (Z.s.fact 73 (f := .meth "Book" "wants") rfl)
theorem All.m_bars (Z : All K mg) : Meth K (He.ga K "Book") "bars" (He.ma K (He.ga K "Book") "bars") := He.meth_ok (Z.s.fact 74 (f := .meth "Book" "bars") rfl)
theorem All.m_gives (Z : All K mg) : Meth K (He.ga K "Book") "gives" (He.ma K (He.ga K "Book") "gives") := He.meth_ok (Z.s.fact 75 (f := .meth "Book" "gives") rfl)
theorem All.m_prices (Z : All K mg) : Meth K (He.ga K "Book") "prices" (He.ma K (He.ga K "Book") "prices") := He.meth_ok (Z.s.fact 76 (f := .meth "Book" "prices") rfl)
theorem All.m_names (Z : All K mg) : Meth K (He.ga K "Book") "names" (He.ma K (He.ga K "Book") "names") := He.meth_ok (Z.s.fact 77 (f := .meth "Book" "names") rfl)
theorem All.m_listed (Z : All K mg) : Meth K (He.ga K "Book") "listed" (He.ma K (He.ga K "Book") "listed") := He.meth_ok (Z.s.fact 78 (f := .meth "Book" "listed") rfl)
theorem All.m_need_of (Z : All K mg) : Meth K (He.ga K "Book") "need_of" (He.ma K (He.ga K "Book") "need_of") := He.meth_ok (Z.s.fact 79 (f := .meth "Book" "need_of") rfl)
theorem All.m_price_of (Z : All K mg) : Meth K (He.ga K "Book") "price_of" (He.ma K (He.ga K "Book") "price_of") := He.meth_ok (Z.s.fact 80 (f := .meth "Book" "price_of") rfl)
theorem All.m_given_by (Z : All K mg) : Meth K (He.ga K "Book") "given_by" (He.ma K (He.ga K "Book") "given_by") := He.meth_ok (Z.s.fact 81 (f := .meth "Book" "given_by") rfl)
theorem All.m_wants_of (Z : All K mg) : Meth K (He.ga K "Book") "wants_of" (He.ma K (He.ga K "Book") "wants_of") := He.meth_ok (Z.s.fact 82 (f := .meth "Book" "wants_of") rfl)
theorem All.m_must_have (Z : All K mg) : Meth K (He.ga K "Book") "_must_have" (He.ma K (He.ga K "Book") "_must_have") := He.meth_ok (Z.s.fact 83 (f := .meth "Book" "_must_have") rfl)
theorem All.m_getitem (Z : All K mg) : Meth K (He.ga K "Book") "__getitem__" (He.ma K (He.ga K "Book") "__getitem__") := He.meth_ok (Z.s.fact 84 (f := .meth "Book" "__getitem__") rfl)
theorem All.m_contains (Z : All K mg) : Meth K (He.ga K "Book") "__contains__" (He.ma K (He.ga K "Book") "__contains__") := He.meth_ok (Z.s.fact 85 (f := .meth "Book" "__contains__") rfl)
theorem All.m_len (Z : All K mg) : Meth K (He.ga K "Book") "__len__" (He.ma K (He.ga K "Book") "__len__") := He.meth_ok (Z.s.fact 86 (f := .meth "Book" "__len__") rfl)
theorem All.m_iter (Z : All K mg) : Meth K (He.ga K "Book") "__iter__" (He.ma K (He.ga K "Book") "__iter__") := He.meth_ok (Z.s.fact 87 (f := .meth "Book" "__iter__") rfl)
theorem All.m_eq (Z : All K mg) : Meth K (He.ga K "Book") "__eq__" (He.ma K (He.ga K "Book") "__eq__") := He.meth_ok (Z.s.fact 88 (f := .meth "Book" "__eq__") rfl)
theorem All.f_Book_skills (Z : All K mg) : ∃ fd, FunD K "skills" "Book.skills" (defArgs s_Book_skills) (defBody s_Book_skills) (defScope s_Book_skills) [] [] (He.fAd K ("Book", some "skills")) fd := Z.s.def_ 36 (d := dM "Book" 34 1 "skills" "Book.skills") rfl
theorem All.f_Book_needs (Z : All K mg) : ∃ fd, FunD K "needs" "Book.needs" (defArgs s_Book_needs) (defBody s_Book_needs) (defScope s_Book_needs) [] [] (He.fAd K ("Book", some "needs")) fd := Z.s.def_ 37 (d := dM "Book" 34 2 "needs" "Book.needs") rfl
theorem All.f_Book_wants (Z : All K mg) : ∃ fd, FunD K "wants" "Book.wants" (defArgs s_Book_wants) (defBody s_Book_wants) (defScope s_Book_wants) [] [] (He.fAd K ("Book", some "wants")) fd := Z.s.def_ 38 (d := dM "Book" 34 3 "wants" "Book.wants") rfl
theorem All.f_Book_bars (Z : All K mg) : ∃ fd, FunD K "bars" "Book.bars" (defArgs s_Book_bars) (defBody s_Book_bars) (defScope s_Book_bars) [] [] (He.fAd K ("Book", some "bars")) fd := Z.s.def_ 39 (d := dM "Book" 34 4 "bars" "Book.bars") rfl
theorem All.f_Book_gives (Z : All K mg) : ∃ fd, FunD K "gives" "Book.gives" (defArgs s_Book_gives) (defBody s_Book_gives) (defScope s_Book_gives) [] [] (He.fAd K ("Book", some "gives")) fd := Z.s.def_ 40 (d := dM "Book" 34 5 "gives" "Book.gives") rfl
theorem All.f_Book_prices (Z : All K mg) : ∃ fd, FunD K "prices" "Book.prices" (defArgs s_Book_prices) (defBody s_Book_prices) (defScope s_Book_prices) [] [] (He.fAd K ("Book", some "prices")) fd := Z.s.def_ 41 (d := dM "Book" 34 6 "prices" "Book.prices") rfl
theorem All.f_Book_names (Z : All K mg) : ∃ fd, FunD K "names" "Book.names" (defArgs s_Book_names) (defBody s_Book_names) (defScope s_Book_names) [] [] (He.fAd K ("Book", some "names")) fd := Z.s.def_ 42 (d := dM "Book" 34 9 "names" "Book.names") rfl
theorem All.f_Book_listed (Z : All K mg) : ∃ fd, FunD K "listed" "Book.listed" (defArgs s_Book_listed) (defBody s_Book_listed) (defScope s_Book_listed) [] [] (He.fAd K ("Book", some "listed")) fd := Z.s.def_ 43 (d := dM "Book" 34 10 "listed" "Book.listed") rfl
theorem All.f_Book_need_of (Z : All K mg) : ∃ fd, FunD K "need_of" "Book.need_of" (defArgs s_Book_need_of) (defBody s_Book_need_of) (defScope s_Book_need_of) [] [] (He.fAd K ("Book", some "need_of")) fd := Z.s.def_ 44 (d := dM "Book" 34 11 "need_of" "Book.need_of") rfl
theorem All.f_Book_price_of (Z : All K mg) : ∃ fd, FunD K "price_of" "Book.price_of" (defArgs s_Book_price_of) (defBody s_Book_price_of) (defScope s_Book_price_of) [] [] (He.fAd K ("Book", some "price_of")) fd := Z.s.def_ 45 (d := dM "Book" 34 12 "price_of" "Book.price_of") rfl
theorem All.f_Book_given_by (Z : All K mg) : ∃ fd, FunD K "given_by" "Book.given_by" (defArgs s_Book_given_by) (defBody s_Book_given_by) (defScope s_Book_given_by) [] [] (He.fAd K ("Book", some "given_by")) fd := Z.s.def_ 46 (d := dM "Book" 34 13 "given_by" "Book.given_by") rfl
theorem All.f_Book_wants_of (Z : All K mg) : ∃ fd, FunD K "wants_of" "Book.wants_of" (defArgs s_Book_wants_of) (defBody s_Book_wants_of) (defScope s_Book_wants_of) [] [] (He.fAd K ("Book", some "wants_of")) fd := Z.s.def_ 47 (d := dM "Book" 34 14 "wants_of" "Book.wants_of") rfl
theorem All.f_Book_must_have (Z : All K mg) : ∃ fd, FunD K "_must_have" "Book._must_have" (defArgs s_Book_must_have) (defBody s_Book_must_have) (defScope s_Book_must_have) [] [] (He.fAd K ("Book", some "_must_have")) fd := Z.s.def_ 48 (d := dM "Book" 34 16 "_must_have" "Book._must_have") rfl
theorem All.f_Book_getitem (Z : All K mg) : ∃ fd, FunD K "__getitem__" "Book.__getitem__" (defArgs s_Book_getitem) (defBody s_Book_getitem) (defScope s_Book_getitem) [] [] (He.fAd K ("Book", some "__getitem__")) fd := Z.s.def_ 49 (d := dM "Book" 34 17 "__getitem__" "Book.__getitem__") rfl
theorem All.f_Book_contains (Z : All K mg) : ∃ fd, FunD K "__contains__" "Book.__contains__" (defArgs s_Book_contains) (defBody s_Book_contains) (defScope s_Book_contains) [] [] (He.fAd K ("Book", some "__contains__")) fd := Z.s.def_ 50 (d := dM "Book" 34 18 "__contains__" "Book.__contains__") rfl
theorem All.f_Book_len (Z : All K mg) : ∃ fd, FunD K "__len__" "Book.__len__" (defArgs s_Book_len) (defBody s_Book_len) (defScope s_Book_len) [] [] (He.fAd K ("Book", some "__len__")) fd := Z.s.def_ 51 (d := dM "Book" 34 19 "__len__" "Book.__len__") rfl
theorem All.f_Book_iter (Z : All K mg) : ∃ fd, FunD K "__iter__" "Book.__iter__" (defArgs s_Book_iter) (defBody s_Book_iter) (defScope s_Book_iter) [] [] (He.fAd K ("Book", some "__iter__")) fd := Z.s.def_ 52 (d := dM "Book" 34 20 "__iter__" "Book.__iter__") rfl
theorem All.f_Book_eq (Z : All K mg) : ∃ fd, FunD K "__eq__" "Book.__eq__" (defArgs s_Book_eq) (defBody s_Book_eq) (defScope s_Book_eq) [] [] (He.fAd K ("Book", some "__eq__")) fd := Z.s.def_ 53 (d := dM "Book" 34 21 "__eq__" "Book.__eq__") rfl
theorem All.f_Book_init (Z : All K mg) : ∃ fd, FunD K "__init__" "Book.__init__" (defArgs s_Book_init) (defBody s_Book_init) (defScope s_Book_init) [] (dI.kws K) (He.fAd K ("Book", some "__init__")) fd := Z.s.def_ 54 (d := dI) rfl
theorem All.f_NoBook_init (Z : All K mg) : ∃ fd, FunD K "__init__" "NoBook.__init__" (defArgs s_NoBook_init) (defBody s_NoBook_init) (defScope s_NoBook_init) [] [] (He.fAd K ("NoBook", some "__init__")) fd := Z.s.def_ 33 (d := dM "NoBook" 2 0 "__init__" "NoBook.__init__") rfl
theorem All.g_NoBook (Z : All K mg) : mg "NoBook" = some (.ref (He.ga K "NoBook")) := let ⟨_, X, G⟩ := Z.hp; He.glo_ok X G (Z.s.fact 89 (f := .glo "NoBook") rfl)
theorem All.n_NoBook (Z : All K mg) : NoAttr K (He.ga K "NoBook") "part" := He.noat_ok (Z.s.fact 90 (f := .noat "NoBook" "part") rfl)
theorem All.x_NoBook_NoBook (Z : All K mg) : PySem.W.exmOne K (.ref (He.ga K "NoBook")) (.ref (He.ga K "NoBook")) = some true := He.exm_ok (Z.s.fact 95 (f := .exm "NoBook" "NoBook" true) rfl)
theorem All.x_NoBook_NoSkill (Z : All K mg) : PySem.W.exmOne K (.ref (He.ga K "NoBook")) (.ref (He.ga K "NoSkill")) = some false := He.exm_ok (Z.s.fact 96 (f := .exm "NoBook" "NoSkill" false) rfl)
theorem All.x_NoBook_NoNumber (Z : All K mg) : PySem.W.exmOne K (.ref (He.ga K "NoBook")) (.ref (He.ga K "NoNumber")) = some false := He.exm_ok (Z.s.fact 97 (f := .exm "NoBook" "NoNumber" false) rfl)
theorem All.f_NoSkill_init (Z : All K mg) : ∃ fd, FunD K "__init__" "NoSkill.__init__" (defArgs s_NoSkill_init) (defBody s_NoSkill_init) (defScope s_NoSkill_init) [] [] (He.fAd K ("NoSkill", some "__init__")) fd := Z.s.def_ 34 (d := dM "NoSkill" 3 0 "__init__" "NoSkill.__init__") rfl
theorem All.g_NoSkill (Z : All K mg) : mg "NoSkill" = some (.ref (He.ga K "NoSkill")) := let ⟨_, X, G⟩ := Z.hp; He.glo_ok X G (Z.s.fact 91 (f := .glo "NoSkill") rfl)
theorem All.n_NoSkill (Z : All K mg) : NoAttr K (He.ga K "NoSkill") "skill" := He.noat_ok (Z.s.fact 92 (f := .noat "NoSkill" "skill") rfl)
theorem All.x_NoSkill_NoBook (Z : All K mg) : PySem.W.exmOne K (.ref (He.ga K "NoSkill")) (.ref (He.ga K "NoBook")) = some false := He.exm_ok (Z.s.fact 98 (f := .exm "NoSkill" "NoBook" false) rfl)
theorem All.x_NoSkill_NoSkill (Z : All K mg) : PySem.W.exmOne K (.ref (He.ga K "NoSkill")) (.ref (He.ga K "NoSkill")) = some true := He.exm_ok (Z.s.fact 99 (f := .exm "NoSkill" "NoSkill" true) rfl)
theorem All.x_NoSkill_NoNumber (Z : All K mg) : PySem.W.exmOne K (.ref (He.ga K "NoSkill")) (.ref (He.ga K "NoNumber")) = some false := He.exm_ok (Z.s.fact 100 (f := .exm "NoSkill" "NoNumber" false) rfl)
theorem All.f_NoNumber_init (Z : All K mg) : ∃ fd, FunD K "__init__" "NoNumber.__init__" (defArgs s_NoNumber_init) (defBody s_NoNumber_init) (defScope s_NoNumber_init) [] [] (He.fAd K ("NoNumber", some "__init__")) fd := Z.s.def_ 35 (d := dM "NoNumber" 4 0 "__init__" "NoNumber.__init__") rfl
theorem All.g_NoNumber (Z : All K mg) : mg "NoNumber" = some (.ref (He.ga K "NoNumber")) := let ⟨_, X, G⟩ := Z.hp; He.glo_ok X G (Z.s.fact 93 (f := .glo "NoNumber") rfl)
theorem All.n_NoNumber (Z : All K mg) : NoAttr K (He.ga K "NoNumber") "value" := He.noat_ok (Z.s.fact 94 (f := .noat "NoNumber" "value") rfl)
theorem All.x_NoNumber_NoBook (Z : All K mg) : PySem.W.exmOne K (.ref (He.ga K "NoNumber")) (.ref (He.ga K "NoBook")) = some false := He.exm_ok (Z.s.fact 101 (f := .exm "NoNumber" "NoBook" false) rfl)
theorem All.x_NoNumber_NoSkill (Z : All K mg) : PySem.W.exmOne K (.ref (He.ga K "NoNumber")) (.ref (He.ga K "NoSkill")) = some false := He.exm_ok (Z.s.fact 102 (f := .exm "NoNumber" "NoSkill" false) rfl)
theorem All.x_NoNumber_NoNumber (Z : All K mg) : PySem.W.exmOne K (.ref (He.ga K "NoNumber")) (.ref (He.ga K "NoNumber")) = some true := He.exm_ok (Z.s.fact 103 (f := .exm "NoNumber" "NoNumber" true) rfl)
end
end Rt
end
section
set_option Elab.async false
set_option linter.all false
set_option maxRecDepth 100000
set_option maxHeartbeats 4000000
/-! words: is_number_in, is_word, is_one_of, are_unlike -/
namespace Rt
open PySem PySem.Spec PyProof.Rows L2
def isNum : V → Int → Int → Bool
  | .int i, lo, hi => decide (lo ≤ i) && decide (i ≤ hi)
  | _, _, _ => false
def spNum (K : PySem.W.Frag) : Sp := fun vs H Q _ => ∃ x lo hi T, vs = [x, .int lo, .int hi] ∧ Ts K H x T ∧ Q (.bl (isNum x lo hi)) H
section
variable {P : Program} {w : World} {K : PySem.W.Frag} {mg : Str → Option Value} {base : Heap}
def isInt : V → Bool
  | .int _ => true
  | _ => false
def spInt (K : PySem.W.Frag) : Sp := fun vs H Q _ => ∃ x T, vs = [x] ∧ Ts K H x T ∧ Q (.bl (isInt x)) H
theorem cal_is_number (Z : All K mg) : Cal P w K mg base CX0 1 "is_number" ["value"] (spInt K) := by
  obtain ⟨fd, F⟩ := Z.f_is_number
  refine .of ⟨fd, F, ok0 F sc_is_number (fun vs H Q E h => ?_) (fun cdv A outer s H vs Q E hr h => ?_)⟩ Z.g_is_number (fun _ _ _ _ _ _ us hl => match us, hl with | [_], _ => rfl)
  · obtain ⟨x, T, rfl, _⟩ := h
    rfl
  · obtain ⟨x, T, rfl, hT, k⟩ := h
    refine ⟨_, pss_one (ps_ret (pe_and (pe_callB (call_is (cn := "int") (by decide)) (by rfl) Z.b_isinstance boot_isinstance (pa_cons (pv 0) (pa_cons (pe_bltn (v := .ty "int") (by rfl) Z.b_int PyProof.Rows.boot_int rfl) pa_nil)))
      (pe_one (pe_not (pe_callB (call_is (cn := "bool") (by decide)) (by rfl) Z.b_isinstance boot_isinstance (pa_cons (pv 0) (pa_cons (pe_bltn (v := .ty "bool") (by rfl) Z.b_bool PyProof.Rows.boot_bool rfl) pa_nil))))))), ?_⟩
    refine ⟨_, rfl, x, T, rfl, hT, _, rfl, ?_⟩
    cases hT with
    | int i => exact ifT (by decide) ⟨_, rfl, .int i, "int", rfl, .int i, _, rfl, k⟩
    | bl b => exact ifT (by decide) ⟨_, rfl, .bl b, "bool", rfl, .bl b, _, rfl, k⟩
    | non => exact ifF (by decide) k
    | str x => exact ifF (by decide) k
    | tup h => exact ifF (by decide) k
    | lst h => exact ifF (by decide) k
    | dct h => exact ifF (by decide) k
theorem cal_is_number_in (Z : All K mg) : Cal P w K mg base CX0 2 "is_number_in" ["value", "low", "high"] (spNum K) := by
  obtain ⟨fd, F⟩ := Z.f_is_number_in
  have C_is_number : Cal P w K mg base CX0 1 "is_number" ["value"] (spInt K) := cal_is_number Z
  refine .of ⟨fd, F, ok0 F sc_is_number_in (fun vs H Q E h => ?_) (fun cdv A outer s H vs Q E hr h => ?_)⟩ Z.g_is_number_in (fun _ _ _ _ _ _ us hl => match us, hl with | [_, _, _], _ => rfl)
  · obtain ⟨x, lo, hi, T, rfl, _⟩ := h
    rfl
  · obtain ⟨x, lo, hi, T, rfl, hT, k⟩ := h
    refine ⟨_, pss_one (ps_ret (pe_and (pe_cal C_is_number (hr.mono (by decide)) (by rfl) pass0 (pa_cons (pv 0) pa_nil)) (pe_one (pe_chain op_le op_le (pv 1) (pv 0) (pv 2))))), ?_⟩
    refine ⟨_, rfl, x, T, rfl, hT, _, rfl, ?_⟩
    cases hT with
    | int i =>
      refine ifT rfl ?_
      refine ⟨_, rfl, _, rfl, _, _, rfl, rfl, _, rfl, ifB (fun e => ?_) (fun e => ?_)⟩
      · refine ⟨_, rfl, _, _, rfl, rfl, ?_⟩
        have : isNum (.int i) lo hi = decide (i ≤ hi) := by show (decide (lo ≤ i) && decide (i ≤ hi)) = _; rw [e, Bool.true_and]
        rw [this] at k
        exact k
      · have : isNum (.int i) lo hi = false := by show (decide (lo ≤ i) && decide (i ≤ hi)) = _; rw [e, Bool.false_and]
        rw [this] at k
        exact k
    | bl b => exact ifF rfl k
    | non => exact ifF rfl k
    | str x => exact ifF rfl k
    | tup h => exact ifF rfl k
    | lst h => exact ifF rfl k
    | dct h => exact ifF rfl k

def letters : Str := "abcdefghijklmnopqrstuvwxyz"
def signs (z : Str) : List Bool := z.cps.toList.map fun c => decide (c ∈ letters.cps.toList)
def isWord : V → Bool
  | .str z => (decide ((1 : Int) ≤ (z.length : Int)) && decide ((z.length : Int) ≤ 8)) && (signs z).all id
  | _ => false
def spWord (K : PySem.W.Frag) : Sp := fun vs H Q _ => ∃ x T, vs = [x] ∧ Ts K H x T ∧ (∀ z, x = .str z → z.length ≤ 1000) ∧ ∀ H', Same H H' → Q (.bl (isWord x)) H'
theorem cal_is_word (Z : All K mg) : Cal P w K mg base CX0 1 "is_word" ["value"] (spWord K) := by
  obtain ⟨fd, F⟩ := Z.f_is_word
  refine .of ⟨fd, F, ok0 F sc_is_word (fun vs H Q E h => ?_) (fun cdv A outer s H vs Q E hr h => ?_)⟩ Z.g_is_word (fun _ _ _ _ _ _ us hl => match us, hl with | [_], _ => rfl)
  · obtain ⟨x, T, rfl, _⟩ := h
    rfl
  · obtain ⟨x, T, rfl, hT, hz, k⟩ := h
    refine ⟨_, pss_cons (ps_if (PW.pt (pw_or (pt_not (pt_val (pe_callB (call_is (cn := "str") (by decide)) (by rfl) Z.b_isinstance boot_isinstance (pa_cons (pv 0) (pa_cons (pe_bltn (v := .ty "str") (by rfl) Z.b_str PyProof.Rows.boot_str rfl) pa_nil)))))
        (pw_or1 (pt_not (pt_chain op_le op_le pe_int (pe_callB call_len (by rfl) Z.b_len PySem.boot_len (pa_cons (pv 0) pa_nil)) (pe_gint (by rfl) Z.LONGEST_WORD)))))) (pss_one (ps_ret pe_bl)) pss_nil)
      (pss_one (ps_ret (pe_callB (cr_all rfl) (by rfl) Z.b_all boot_all (pa_cons (pe_lc (own := [("sign", 1)]) (g := gName 1) (by rfl) sc_is_word.nd (pi_str (pv 0)) (blkOk_by (own := [("sign", 1)]) (N := ["value", "sign"]) (sc := defScope s_is_word) (by decide +kernel))
        (fun _ _ _ _ _ => pg_name (i := 1) sc_is_word.nd rfl (Or.inl rfl)) (fun _ _ _ _ _ => pts_nil) (fun _ _ _ _ _ => pe_cmpR op_in_sign (pv 1) (pe_gstr (by rfl) Z.SMALL_LETTERS) rfl)) pa_nil)))), ?_⟩
    refine ⟨_, rfl, x, T, rfl, hT, _, rfl, ?_⟩
    cases hT with
    | str z =>
      refine ifF (by decide) ⟨_, rfl, _, z.length, rfl, ⟨Nat.le_of_lt (line_of (hz z rfl) (by decide)), rfl⟩, _, _, rfl, rfl, _, rfl, ifB (fun e1 => ?_) (fun e1 => ?_)⟩
      · refine ⟨_, _, rfl, rfl, _, rfl, ?_⟩
        show if (!decide ((z.length : Int) ≤ 8)) = true then _ else _
        refine ifB (fun e2 => ?_) (fun e2 => ?_)
        · have e : isWord (.str z) = false := by
            show ((decide ((1 : Int) ≤ (z.length : Int)) && decide ((z.length : Int) ≤ 8)) && _) = false
            rw [Bool.not_eq_true'] at e2
            rw [e2, Bool.and_false, Bool.false_and]
          rw [e] at k
          exact k H (Same.refl H)
        · have e3 : decide ((z.length : Int) ≤ 8) = true := by rw [Bool.not_eq_false'] at e2; exact e2
          refine ⟨_, rfl, z, rfl, fun D nD => lc_it (Qd := fun H' => _) walk_str (LcP H D fun i => (z.cps.toList.take i).map fun c => V.bl (decide (c ∈ letters.cps.toList))) (LcP.zero nD rfl) (fun _ _ _ _ => trivial) ?_ ?_⟩
          · rintro i v H2 H3 hi p ⟨rfl, c, hc, rfl⟩
            have hc' : z.cps.toList[i]? = some c := by rw [Array.getElem?_toList]; exact hc
            refine ⟨rfl, _, rfl, c, letters, rfl, rfl, ?_⟩
            refine p.put nD (map_one _ hc') (line_of (m := 1000) ?_ (by decide))
            rw [List.length_map]
            exact Nat.le_trans (List.length_take_le' _ _) (by rw [Array.length_toList]; exact hz z rfl)
          · intro H2 p
            have e4 : ((z.cps.toList.take z.cps.size).map fun c => V.bl (decide (c ∈ letters.cps.toList))) = (signs z).map V.bl := by
              rw [List.take_of_length_le (by rw [Array.length_toList]; exact Nat.le_refl _)]
              unfold signs
              rw [List.map_map]
              rfl
            refine ⟨D, signs z, rfl, SqL.of (by rw [p.at_, e4]), ?_⟩
            have e : isWord (.str z) = (signs z).all id := by
              show ((decide ((1 : Int) ≤ (z.length : Int)) && decide ((z.length : Int) ≤ 8)) && _) = _
              rw [e1, e3, Bool.and_true, Bool.true_and]
            rw [e] at k
            exact k H2 p.same
      · have e : isWord (.str z) = false := by
          show ((decide ((1 : Int) ≤ (z.length : Int)) && decide ((z.length : Int) ≤ 8)) && _) = false
          rw [e1, Bool.false_and, Bool.false_and]
        rw [e] at k
        exact ⟨_, rfl, ifT rfl (k H (Same.refl H))⟩
    | bl b => exact ifT (by decide) (k H (Same.refl H))
    | non => exact ifT (by decide) (k H (Same.refl H))
    | int x => exact ifT (by decide) (k H (Same.refl H))
    | tup h => exact ifT (by decide) (k H (Same.refl H))
    | lst h => exact ifT (by decide) (k H (Same.refl H))
    | dct h => exact ifT (by decide) (k H (Same.refl H))

/-! is_one_of, are_unlike -/
def strsL (K : PySem.W.Frag) (H : Hp) (a : Addr) (ns : List Str) : Prop := SqL K H a (ns.map V.str) ∨ SqT K H a (ns.map V.str)
def isOne (ns : List Str) : V → Bool
  | .str z => decide (z ∈ ns)
  | _ => false
theorem inV_strs (z : Str) : ∀ ns : List Str, inV (.str z) (ns.map V.str) = decide (z ∈ ns)
  | [] => rfl
  | n :: ns => by
    have ih := inV_strs z ns
    show (eqV (.str n) (.str z) || inV (.str z) (ns.map V.str)) = decide (z ∈ n :: ns)
    rw [ih]
    have e : eqV (.str n) (.str z) = decide (n = z) := by
      first | rfl | (show (n == z) = decide (n = z); rfl) | (simp [eqV])
    rw [e]
    by_cases h : n = z
    · subst h
      simp
    · have h' : ¬ z = n := fun q => h q.symm
      simp [h, h']
theorem flat_strsV (ys : List Str) : (ys.map V.str).all flatV = true := by
  rw [List.all_eq_true]
  intro x hx
  obtain ⟨y, _, rfl⟩ := List.mem_map.mp hx
  rfl
def spOne (K : PySem.W.Frag) : Sp := fun vs H Q _ => ∃ a ns x T, vs = [.ref a, x] ∧ strsL K H a ns ∧ Ts K H x T ∧ Q (.bl (isOne ns x)) H
theorem cal_is_one_of (Z : All K mg) : Cal P w K mg base CX0 1 "is_one_of" ["names", "value"] (spOne K) := by
  obtain ⟨fd, F⟩ := Z.f_is_one_of
  refine .of ⟨fd, F, ok0 F sc_is_one_of (fun vs H Q E h => ?_) (fun cdv A outer s H vs Q E hr h => ?_)⟩ Z.g_is_one_of (fun _ _ _ _ _ _ us hl => match us, hl with | [_, _], _ => rfl)
  · obtain ⟨a, ns, x, T, rfl, _⟩ := h
    rfl
  · obtain ⟨a, ns, x, T, rfl, hn, hT, k⟩ := h
    refine ⟨_, pss_one (ps_ret (pe_and (pe_callB (call_is (cn := "str") (by decide)) (by rfl) Z.b_isinstance boot_isinstance (pa_cons (pv 1) (pa_cons (pe_bltn (v := .ty "str") (by rfl) Z.b_str PyProof.Rows.boot_str rfl) pa_nil)))
      (pe_one (pe_cmpR op_in_seq (pv 1) (pv 0) rfl)))), ?_⟩
    refine ⟨_, rfl, x, T, rfl, hT, _, rfl, ?_⟩
    cases hT with
    | str z =>
      refine ifT (by decide) ⟨_, rfl, _, rfl, a, ns.map V.str, rfl, hn, rfl, flat_strsV ns, ?_⟩
      show Q (.bl (inV (.str z) (ns.map V.str))) H
      rw [inV_strs]
      exact k
    | bl b => exact ifF (by decide) k
    | non => exact ifF (by decide) k
    | int x => exact ifF (by decide) k
    | tup h => exact ifF (by decide) k
    | lst h => exact ifF (by decide) k
    | dct h => exact ifF (by decide) k
end
end Rt
end
section
set_option Elab.async false
set_option linter.all false
set_option maxRecDepth 100000
set_option maxHeartbeats 4000000
/-! sets made of a list or a tuple: the call taken apart from the loop that fills the set -/
namespace Rt
open PySem PySem.Spec PyProof.Rows
section
variable {prog : Program} {w : World} {A : Around} {E : Value → Shared → Prop} {s : Shared}
/-- the heap as the filling loop finds it: an empty set, behind it an iterator -/
def setAhead (w : World) (led : Bool) (h : Heap) (kind : String) (l : Addr) : Heap :=
  (h.push { cls := .type "set", dict := none, data := .set #[] 0 (.fresh 0 0 led) }).push { cls := .type kind, data := .fields #[.ref l, .int 0 0] }
abbrev eqG : Array GenState → Array GenState → Prop := fun a b => b = a
/-- what the loop has to do -/
def Fills (prog : Program) (w : World) (led : Bool) (s : Shared) (kind : String) (l : Addr) (T : Heap → Prop) (u : Nat) : Prop :=
  ∀ (B : Around) (R : Result → Shared → Prop), B.in1.handled = none → B.in1.units ≤ u →
    (∀ s', Moved [s.heap.objs.size, s.heap.objs.size + 1] eqG { s with heap := setAhead w led s.heap kind l } s' → T s'.heap → R (.ok (.ret .none)) s') →
    codeAny (model prog w) B (.builtin "set.update.loop" ⟨[.ref s.heap.objs.size, .ref (s.heap.objs.size + 1)], []⟩) R { s with heap := setAhead w led s.heap kind l }
theorem led_new (a : Value) {Z : Value → Shared → Prop} (k : ∀ led : Bool, led = (!w.params.followText "set-order") → Z (.ref s.heap.objs.size) { s with heap := s.heap.push { cls := .type "set", dict := none, data := .set #[] 0 (.fresh 0 0 led) } }) :
    codeAny (model prog w) A (.call (.builtin "set.__new__") ⟨[.type "set", a], []⟩) (wants Z E) s := L2.code_set_led1 a (k _ rfl)

set_option maxHeartbeats 3200000 in
theorem set_list {l : Addr} {items : Array Value} {T : Heap → Prop} {Q : Value → Shared → Prop} (hh : A.handled = none) (src : s.heap.IsList l items)
    (F0 : ∀ led : Bool, led = (!w.params.followText "set-order") → Fills prog w led s "list_iterator" l T (A.units + 3))
    (fin : ∀ (h' : Heap) (tk : Nat), T h' → (∀ b o, s.heap.get? b = some o → h'.get? b = some o) → Q (.ref s.heap.objs.size) { s with heap := h', toks := tk }) :
    wpAny (model prog w) A (call (.type "set") [.ref l]) Q E s := by
  have g1 := PySem.F.called_set.made
  have g2 := PySem.F.called_set.sub
  have g3 := PySem.F.called_set.notType
  have g4 := PySem.F.called_set.canCreate
  have g5 := PySem.F.typeCall_set_1 (.ref l)
  obtain ⟨g6, g7, g8⟩ := PySem.F.called_set.mro
  apply wpAny_call
  apply codeAny_of_tree
  show wpAny _ _ (callAny (.type "set") _) _ _ _
  apply wpAny_pure
  refine ⟨Code.quiet_builtin _ (by decide +kernel), ?_⟩
  apply codeAny_builtin PySem.F.entry_type_call
  rw [Around.under_plain (weight_type_call_type "set" [.ref l] []) rfl]
  repeat (any_goals (first | assumption | wp_step))

  apply codeAny_mono (led_new (.ref l) (E := E) (Z := fun x t => ∃ led : Bool, led = (!w.params.followText "set-order") ∧ x = .ref s.heap.objs.size ∧ t = { s with heap := s.heap.push { cls := .type "set", dict := none, data := .set #[] 0 (.fresh 0 0 led) } }) fun led e => ⟨led, e, rfl, rfl⟩)
  rintro r s₁ made
  rcases r with _ | fl
  · exact made
  rcases fl with _ | _ | _ | x
  any_goals (first | exact made.elim | skip)
  obtain ⟨led, eled, rfl, rfl⟩ := made
  generalize eO : ({ cls := .type "set", dict := none, data := .set #[] 0 (.fresh 0 0 led) } : Obj) = O at *
  have atS : (s.heap.push O).get? s.heap.objs.size = some O := Heap.get?_push_size _ (by subst eO; rfl)
  have tyS : Shared.TypeIs { s with heap := s.heap.push O } (.ref s.heap.objs.size) "set" := ⟨_, atS, by subst eO; rfl⟩
  have g9 := PySem.F.called_set.init.lookup
  have g10 := PySem.F.called_set.init.bind (.ref s.heap.objs.size)
  repeat (any_goals (first | assumption | wp_step))

  apply codeAny_mono (codeAny_call_builtin (R := wants (fun r t => r = .none ∧ ∃ h' tk, t = { s with heap := h', toks := tk } ∧ T h' ∧ (∀ b o, s.heap.get? b = some o → h'.get? b = some o)) E) PySem.F.called_set.init.plain PySem.F.entry_set_init (check_set_init_1 tyS ?_))
  · rintro r s₂ done
    rcases r with _ | fl
    · exact done
    rcases fl with _ | _ | _ | x
    any_goals (first | exact done.elim | skip)
    obtain ⟨rfl, h', tk, rfl, t1, t2⟩ := done
    repeat (any_goals (first | assumption | wp_step))
    exact fin _ _ t1 t2
  · obtain ⟨ob, ol, oc, cnt, od⟩ := src
    obtain ⟨c0, c1, c2, c3⟩ := ob
    simp only at oc od
    subst oc od
    have keep : (s.heap.push O).get? l = some { cls := .type "list", dict := c1, data := .seq items cnt, slots := c3 } := Heap.get?_push_of_some _ ol
    have k1 := PySem.F.sub_list_set
    have k2 := PySem.F.sub_list_frozenset
    have k3 : (Value.type "list" == Value.type "dict") = false := by decide
    have inner : (s.heap.push O).IsList l items := ⟨_, keep, rfl, cnt, rfl⟩
    subst eO
    unfold Builtin.«set.__init__» noKeywords Builtin.Frozenset.updateFrom
    generalize ePI : pyIter = PI
    wp_walk
    subst ePI
    apply wpAny_pyIter_list inner
    apply wpAny_bind
    apply wpAny_runValue
    have small : l < s.heap.objs.size := Heap.lt_size ol
    have calm : A.in1.in1.in1.handled = none := by simp [hh]
    have two : (s.heap.push { cls := .type "set", dict := none, data := .set #[] 0 (.fresh 0 0 led) }).objs.size = s.heap.objs.size + 1 := Heap.size_push ..
    have run := F0 led eled
    unfold Fills setAhead at run
    rw [two]
    apply run _ _ calm (Nat.le_refl _)
    intro s' mv tT
    obtain ⟨hp, gs, dr, tk, os⟩ := s'
    have e1 : gs = s.gens := mv.gens
    have e2 : dr = s.drawn := mv.drawn
    have e3 : os = s.os := mv.os
    subst e1 e2 e3
    show wpAny _ _ _ _ _ _
    apply wpAny_pure
    show wpAny _ _ (ret Value.none) _ _ _
    refine wpAny_pure ⟨rfl, hp, tk, rfl, tT, fun b o hb => mv.heap b o ?_ (Heap.get?_push_of_some _ (Heap.get?_push_of_some _ hb))⟩
    have lt := Heap.lt_size hb
    simp only [List.mem_cons, List.not_mem_nil, or_false, not_or]
    exact ⟨Nat.ne_of_lt lt, Nat.ne_of_lt (Nat.lt_succ_of_lt lt)⟩

set_option maxHeartbeats 3200000 in
theorem set_tuple {l : Addr} {items : Array Value} {T : Heap → Prop} {Q : Value → Shared → Prop} (hh : A.handled = none) (src : s.heap.IsTuple l items)
    (F0 : ∀ led : Bool, led = (!w.params.followText "set-order") → Fills prog w led s "tuple_iterator" l T (A.units + 3))
    (fin : ∀ (h' : Heap) (tk : Nat), T h' → (∀ b o, s.heap.get? b = some o → h'.get? b = some o) → Q (.ref s.heap.objs.size) { s with heap := h', toks := tk }) :
    wpAny (model prog w) A (call (.type "set") [.ref l]) Q E s := by
  have g1 := PySem.F.called_set.made
  have g2 := PySem.F.called_set.sub
  have g3 := PySem.F.called_set.notType
  have g4 := PySem.F.called_set.canCreate
  have g5 := PySem.F.typeCall_set_1 (.ref l)
  obtain ⟨g6, g7, g8⟩ := PySem.F.called_set.mro
  apply wpAny_call
  apply codeAny_of_tree
  show wpAny _ _ (callAny (.type "set") _) _ _ _
  apply wpAny_pure
  refine ⟨Code.quiet_builtin _ (by decide +kernel), ?_⟩
  apply codeAny_builtin PySem.F.entry_type_call
  rw [Around.under_plain (weight_type_call_type "set" [.ref l] []) rfl]
  repeat (any_goals (first | assumption | wp_step))

  apply codeAny_mono (led_new (.ref l) (E := E) (Z := fun x t => ∃ led : Bool, led = (!w.params.followText "set-order") ∧ x = .ref s.heap.objs.size ∧ t = { s with heap := s.heap.push { cls := .type "set", dict := none, data := .set #[] 0 (.fresh 0 0 led) } }) fun led e => ⟨led, e, rfl, rfl⟩)
  rintro r s₁ made
  rcases r with _ | fl
  · exact made
  rcases fl with _ | _ | _ | x
  any_goals (first | exact made.elim | skip)
  obtain ⟨led, eled, rfl, rfl⟩ := made
  generalize eO : ({ cls := .type "set", dict := none, data := .set #[] 0 (.fresh 0 0 led) } : Obj) = O at *
  have atS : (s.heap.push O).get? s.heap.objs.size = some O := Heap.get?_push_size _ (by subst eO; rfl)
  have tyS : Shared.TypeIs { s with heap := s.heap.push O } (.ref s.heap.objs.size) "set" := ⟨_, atS, by subst eO; rfl⟩
  have g9 := PySem.F.called_set.init.lookup
  have g10 := PySem.F.called_set.init.bind (.ref s.heap.objs.size)
  repeat (any_goals (first | assumption | wp_step))

  apply codeAny_mono (codeAny_call_builtin (R := wants (fun r t => r = .none ∧ ∃ h' tk, t = { s with heap := h', toks := tk } ∧ T h' ∧ (∀ b o, s.heap.get? b = some o → h'.get? b = some o)) E) PySem.F.called_set.init.plain PySem.F.entry_set_init (check_set_init_1 tyS ?_))
  · rintro r s₂ done
    rcases r with _ | fl
    · exact done
    rcases fl with _ | _ | _ | x
    any_goals (first | exact done.elim | skip)
    obtain ⟨rfl, h', tk, rfl, t1, t2⟩ := done
    repeat (any_goals (first | assumption | wp_step))
    exact fin _ _ t1 t2
  · obtain ⟨ob, ol, oc, cnt, od⟩ := src
    obtain ⟨c0, c1, c2, c3⟩ := ob
    simp only at oc od
    subst oc od
    have keep : (s.heap.push O).get? l = some { cls := .type "tuple", dict := c1, data := .seq items cnt, slots := c3 } := Heap.get?_push_of_some _ ol
    have k1 := PySem.F.sub_tuple_set
    have k2 := PySem.F.sub_tuple_frozenset
    have k3 : (Value.type "tuple" == Value.type "dict") = false := by decide
    have inner : (s.heap.push O).IsTuple l items := ⟨_, keep, rfl, cnt, rfl⟩
    subst eO
    unfold Builtin.«set.__init__» noKeywords Builtin.Frozenset.updateFrom
    generalize ePI : pyIter = PI
    wp_walk
    subst ePI
    apply wpAny_pyIter_tuple inner
    apply wpAny_bind
    apply wpAny_runValue
    have small : l < s.heap.objs.size := Heap.lt_size ol
    have calm : A.in1.in1.in1.handled = none := by simp [hh]
    have two : (s.heap.push { cls := .type "set", dict := none, data := .set #[] 0 (.fresh 0 0 led) }).objs.size = s.heap.objs.size + 1 := Heap.size_push ..
    have run := F0 led eled
    unfold Fills setAhead at run
    rw [two]
    apply run _ _ calm (Nat.le_refl _)
    intro s' mv tT
    obtain ⟨hp, gs, dr, tk, os⟩ := s'
    have e1 : gs = s.gens := mv.gens
    have e2 : dr = s.drawn := mv.drawn
    have e3 : os = s.os := mv.os
    subst e1 e2 e3
    show wpAny _ _ _ _ _ _
    apply wpAny_pure
    show wpAny _ _ (ret Value.none) _ _ _
    refine wpAny_pure ⟨rfl, hp, tk, rfl, tT, fun b o hb => mv.heap b o ?_ (Heap.get?_push_of_some _ (Heap.get?_push_of_some _ hb))⟩
    have lt := Heap.lt_size hb
    simp only [List.mem_cons, List.not_mem_nil, or_false, not_or]
    exact ⟨Nat.ne_of_lt lt, Nat.ne_of_lt (Nat.lt_succ_of_lt lt)⟩
end
end Rt
end
section
set_option Elab.async false
set_option linter.all false
set_option maxRecDepth 100000
set_option maxHeartbeats 4000000
/-! set(xs) of ints and texts: which are in, how many there are; sorted(set(xs)) of ints -/
namespace Rt
open PySem PySem.Spec PyProof.Rows
/-! ### how many unlike ones -/
section
variable {κ : Type} [DecidableEq κ]
/-- of the list turned about -/
def cntR : List κ → Nat
  | [] => 0
  | x :: r => if x ∈ r then cntR r else cntR r + 1
def cnt (l : List κ) : Nat := cntR l.reverse
theorem cnt_snoc (l : List κ) (x : κ) : cnt (l ++ [x]) = if x ∈ l then cnt l else cnt l + 1 := by
  unfold cnt
  rw [List.reverse_append]
  show (if x ∈ l.reverse then cntR l.reverse else cntR l.reverse + 1) = _
  simp only [List.mem_reverse]
theorem cntR_le : ∀ l : List κ, cntR l ≤ l.length
  | [] => Nat.le_refl _
  | x :: r => by
    have := cntR_le r
    show (if x ∈ r then cntR r else cntR r + 1) ≤ r.length + 1
    split <;> omega
theorem cnt_le (l : List κ) : cnt l ≤ l.length := by
  have := cntR_le l.reverse
  rw [List.length_reverse] at this
  exact this
theorem cntR_nd : ∀ l : List κ, cntR l = l.length ↔ l.Nodup
  | [] => by simp [cntR]
  | x :: r => by
    have ih := cntR_nd r
    have le := cntR_le r
    show (if x ∈ r then cntR r else cntR r + 1) = r.length + 1 ↔ _
    rw [List.nodup_cons, ← ih]
    by_cases h : x ∈ r
    · rw [if_pos h]
      constructor
      · intro e
        omega
      · intro e
        exact absurd h e.1
    · rw [if_neg h]
      constructor
      · intro e
        exact ⟨h, by omega⟩
      · intro e
        omega
theorem cnt_nd (l : List κ) : cnt l = l.length ↔ l.Nodup := by
  unfold cnt
  rw [← List.length_reverse, cntR_nd]
  exact (List.reverse_perm l).nodup_iff
end
/-! ### the filling loop, for any kind of key that is carried by its value -/
section
variable {prog : Program} {w : World} {A : Around} {R : Result → Shared → Prop} {I : Addr} {fp wr : List Addr} {G : Array GenState → Array GenState → Prop} {n : Nat} {P : Nat → Value → Prop} {St : Nat → Shared → Prop}
variable {κ : Type} [DecidableEq κ]
theorem setOf_same {knd : KeyKind prog w κ} {h h' : Heap} {a : Addr} {S : κ → Bool} {m : Nat} (x : h.SetOf knd a S m) (k : ∀ o, h.get? a = some o → h'.get? a = some o) : h'.SetOf knd a S m :=
  match x with
  | ⟨o, es, ep, t, ho, r⟩ => ⟨o, es, ep, t, k o ho, r⟩
theorem fill_keys (knd : KeyKind prog w κ) (walk : WalksS prog w A.in1 I fp wr G n P St) (S : Addr) (out : S ∉ fp) (xs : List κ) (hn : xs.length = n) (room : n + 1 < scanBound)
    (key : ∀ i v, P i v → ∃ x, xs[i]? = some x ∧ knd.is x v = true ∧ v.scannable = true) :
    ∀ (d i : Nat) (s : Shared), i + d = n → St i s → s.heap.SetOf knd S (fun j => decide (j ∈ xs.take i)) (cnt (xs.take i)) →
      (∀ s', Moved (S :: wr) G s s' → s'.heap.SetOf knd S (fun j => decide (j ∈ xs)) (cnt xs) → R (.ok (.ret .none)) s') →
      codeAny (model prog w) A (.builtin "set.update.loop" ⟨[.ref S, .ref I], []⟩) R s
  | 0, i, s, e, st, here, fin => by
    obtain rfl : i = n := by omega
    have full : xs.take i = xs := List.take_of_length_le (by omega)
    rw [full] at here
    apply codeAny_builtin PyProof.Rows.F.entry_set_update_loop
    rw [Around.under_plainId PyProof.Rows.F.plain_set_update_loop _]
    show wpAny _ A.in1 (pyNext (.ref I) >>= _) _ _ s
    apply wpAny_bind
    apply walk.done s _ _ st
    intro s' mv
    exact wpAny_pure (fin s' (mv.mono fun b hb => List.mem_cons_of_mem _ hb) (setOf_same here fun o ho => mv.heap S o (fun q => out (walk.sub _ q)) ho))
  | d + 1, i, s, e, st, here, fin => by
    apply codeAny_builtin PyProof.Rows.F.entry_set_update_loop
    rw [Around.under_plainId PyProof.Rows.F.plain_set_update_loop _]
    show wpAny _ A.in1 (pyNext (.ref I) >>= _) _ _ s
    apply wpAny_bind
    apply walk.item i s _ _ (by omega) st
    intro v s' pv st' mv
    obtain ⟨x, hx, isx, scx⟩ := key i v pv
    have here' := setOf_same (h' := s'.heap) here fun o ho => mv.heap S o (fun q => out (walk.sub _ q)) ho
    show wpAny _ A.in1 (holding [v] (setAdd S v) >>= _) _ _ s'
    apply wpAny_bind
    apply wpAny_holding
    unfold setAdd
    apply wpAny_holding
    apply wpAny_bind
    refine knd.pyHash isx ?_
    have few : cnt (xs.take i) + 1 < scanBound := by
      have h1 := cnt_le (xs.take i)
      have h2 : (xs.take i).length ≤ xs.length := List.length_take_le' _ _
      omega
    refine wpAny_setAddHashed_of (knd := knd) (s := { s' with toks := s'.toks + 1 }) isx scx here' few fun h' but now => ?_
    have step : xs.take (i + 1) = xs.take i ++ [x] := take_one hx
    have now' : h'.SetOf knd S (fun j => decide (j ∈ xs.take (i + 1))) (cnt (xs.take (i + 1))) := by
      have e1 : (fun j => decide (j ∈ xs.take i) || decide (j = x)) = fun j => decide (j ∈ xs.take (i + 1)) := by
        funext j
        rw [step]
        by_cases a : j ∈ xs.take i <;> by_cases b : j = x <;> simp [a, b]
      have e2 : (if decide (x ∈ xs.take i) = true then cnt (xs.take i) else cnt (xs.take i) + 1) = cnt (xs.take (i + 1)) := by
        rw [step, cnt_snoc]
        by_cases a : x ∈ xs.take i <;> simp [a]
      rw [← e1, ← e2]
      exact now
    refine wpAny_pure ⟨plainId_quiet PyProof.Rows.F.plain_set_update_loop _, fill_keys knd walk S out xs hn room key d (i + 1) _ (by omega) (walk.frame _ s' _ _ st' (Nat.le_succ _) fun b hb o ho => ?_) now' fun s'' mv2 last => fin s'' ?_ last⟩
    · rw [but.2 b (fun q : b = S => out (q ▸ hb))]
      exact ho
    · refine Moved.trans walk.gtrans ((mv.mono fun b hb => List.mem_cons_of_mem _ hb).then_heap (Nat.le_succ _) fun b o hb ho => ?_) mv2
      rw [but.2 b (fun q : b = S => hb (q ▸ List.mem_cons_self))]
      exact ho
end
end Rt
end
section
set_option Elab.async false
set_option linter.all false
set_option maxRecDepth 100000
set_option maxHeartbeats 4000000
/-! set(xs) of a few tuples of keys (ints, texts): how many unlike ones there are -/
namespace Rt
open PySem PySem.Spec PyProof.Rows
section
variable {P : Program} {w : World} {κ : Type} [DecidableEq κ]
/-- keys that the small questions of a search answer by themselves -/
structure Mild (knd : KeyKind P w κ) : Prop where
  cls : ∀ k v n, knd.is k v = true → ofAClassStatement n v = pure false
  val : ∀ k v n, knd.is k v = true → ∃ r, hashByValue n v = pure r
variable {knd : KeyKind P w κ}
theorem mixMild : Mild (L2.mixKind P w) where
  cls := fun k v n h => by
    rcases L2.keyIs_shape h with ⟨i, t, rfl, rfl⟩ | ⟨x, t, rfl, rfl⟩ <;> cases n <;> rfl
  val := fun k v n h => by
    rcases L2.keyIs_shape h with ⟨i, t, rfl, rfl⟩ | ⟨x, t, rfl, rfl⟩ <;> cases n <;> exact ⟨_, rfl⟩
theorem items_each {ks : List κ} {vs : List Value} (h : ItemsAre knd ks vs) : ∀ v ∈ vs, ∃ k, knd.is k v = true := by
  induction h with
  | nil => intro v hv; cases hv
  | @cons k0 u ks us one _ more =>
    intro v hv
    cases List.mem_cons.mp hv with
    | inl e => exact ⟨k0, e ▸ one⟩
    | inr m => exact more v m
variable {A : Around} {E : Value → Shared → Prop} {s : Shared}
/-- a loop over a tuple's items that asks each a question with a settled answer -/
theorem ask_each {α : Type} {items : Array Value} {f : Value → α → Sem (ForInStep α)} {z : α} {Q : α → Shared → Prop} (h : ∀ v ∈ items.toList, f v z = pure (.yield z)) (q : Q z s) : wpAny (model P w) A (forIn items z f) Q E s := by
  rw [← Array.forIn_toList]
  refine wpAny_forIn_list _ (fun left r t => r = z ∧ t = s ∧ ∀ v ∈ left, f v z = pure (.yield z)) _ ?_ ?_ _ _ ⟨rfl, rfl, h⟩
  · rintro v left r t ⟨rfl, rfl, all⟩
    rw [all v List.mem_cons_self]
    exact wpAny_pure ⟨rfl, rfl, fun u hu => all u (List.mem_cons_of_mem _ hu)⟩
  · rintro r t ⟨rfl, rfl, _⟩
    exact q
theorem ask_some {α : Type} {items : Array Value} {f : Value → α → Sem (ForInStep α)} {z : α} {D : α → Prop} {Q : α → Shared → Prop} (h : ∀ v ∈ items.toList, f v z = pure (.yield z) ∨ ∃ d, D d ∧ f v z = pure (.done d)) (q : Q z s) (qd : ∀ d, D d → Q d s) :
    wpAny (model P w) A (forIn items z f) Q E s := by
  rw [← Array.forIn_toList]
  refine wpAny_forIn_list _ (fun left r t => r = z ∧ t = s ∧ ∀ v ∈ left, f v z = pure (.yield z) ∨ ∃ d, D d ∧ f v z = pure (.done d)) _ ?_ ?_ _ _ ⟨rfl, rfl, h⟩
  · rintro v left r t ⟨rfl, rfl, all⟩
    rcases all v List.mem_cons_self with e | ⟨d, hd, e⟩
    · rw [e]
      exact wpAny_pure ⟨rfl, rfl, fun u hu => all u (List.mem_cons_of_mem _ hu)⟩
    · rw [e]
      exact wpAny_pure (qd d hd)
  · rintro r t ⟨rfl, rfl, _⟩
    exact q
theorem no_class (M : Mild knd) {k : List κ} {b : Addr} {Q : Bool → Shared → Prop} (t : IsTupleKey knd s.heap k b) (q : Q false s) : wpAny (model P w) A (ofAClassStatement 8 (.ref b)) Q E s := by
  have ty := t.typeIs
  obtain ⟨o, items, n, ho, _, hd, hi⟩ := t
  unfold ofAClassStatement
  apply wpAny_bind
  apply wpAny_typeOf ty
  have yes : (("tuple" : String) == "tuple") = true := by decide
  simp only [yes, if_true, Bool.not_true, Bool.false_eq_true, if_false]
  try (apply wpAny_bind; apply wpAny_pure)
  try simp only [Bool.not_true, Bool.false_eq_true, if_false]
  show wpAny _ _ (seqItems? (.ref b) >>= _) _ _ s
  apply wpAny_bind
  apply wpAny_seqItems ho hd
  dsimp only
  apply wpAny_bind
  refine ask_each (fun v hv => ?_) ?_
  · obtain ⟨k', hk'⟩ := items_each hi v hv
    simp only [M.cls k' v _ hk', pure_bind, Bool.false_eq_true, if_false]
  · exact wpAny_pure q
theorem by_value (M : Mild knd) {k : List κ} {b : Addr} {Q : Bool → Shared → Prop} (t : IsTupleKey knd s.heap k b) (q : ∀ r, Q r s) : wpAny (model P w) A (hashByValue 8 (.ref b)) Q E s := by
  have ty := t.typeIs
  obtain ⟨o, items, n, ho, _, hd, hi⟩ := t
  unfold hashByValue
  apply wpAny_bind
  apply wpAny_specialOf ty F.slot_tuple_hash.lookup
  show wpAny _ _ (seqItems? (.ref b) >>= _) _ _ s
  apply wpAny_bind
  apply wpAny_seqItems ho hd
  apply wpAny_bind
  refine ask_some (D := fun d => ∃ r, d.1 = some r) (fun v hv => ?_) ?_ (fun d hd => ?_)
  · obtain ⟨k', hk'⟩ := items_each hi v hv
    obtain ⟨r, e⟩ := M.val k' v 7 hk'
    rw [e]
    cases r with
    | true => exact .inl rfl
    | false => exact .inr ⟨_, ⟨false, rfl⟩, rfl⟩
  · exact wpAny_pure (q true)
  · obtain ⟨d1, d2⟩ := d
    obtain ⟨r, e⟩ := hd
    simp only at e
    subst e
    exact wpAny_pure (q r)

/-! ### the set -/
abbrev th (knd : KeyKind P w κ) (k : List κ) : Int := tupleKeyHash knd k
def rws (knd : KeyKind P w κ) (L : List (Addr × List κ)) : List (Int × Value) := L.map fun p => (th knd p.2, Value.ref p.1)
/-- up to four tuples in the least table -/
structure TSet (knd : KeyKind P w κ) (h : Heap) (a : Addr) (L : List (Addr × List κ)) (es : Array (Int × Value)) (ep : Nat) (t : SetTable) : Prop where
  ob : ∃ o, h.get? a = some o ∧ o.ExactSet ∧ o.data = .set es ep t
  rw_ : es.toList = rws knd L
  tb : L2.TabOk t (L.map fun p => th knd p.2)
  one : (L.map (·.2)).Nodup
  at_ : ∀ p ∈ L, IsTupleKey knd h p.2 p.1
  mask : t.mask = 7
  few : L.length ≤ 4
variable {a : Addr} {L : List (Addr × List κ)} {es : Array (Int × Value)} {ep : Nat} {t : SetTable}
theorem TSet.size {h : Heap} (R : TSet knd h a L es ep t) : es.size = L.length := by
  have q := congrArg List.length R.rw_
  simpa [rws] using q
theorem TSet.fits {h : Heap} (R : TSet knd h a L es ep t) : t.fits es.size = true := by
  have z := R.tb.sz
  have few := R.few
  have m := R.mask
  rw [List.length_map] at z
  unfold SetTable.fits SetTable.fill
  rw [R.tb.dm, Bool.and_eq_true, beq_iff_eq, decide_eq_true_eq, R.size]
  exact ⟨z, by rw [z, m]; simp; omega⟩
theorem TSet.row {h : Heap} (R : TSet knd h a L es ep t) {i : Nat} {p : Addr × List κ} (e : L[i]? = some p) : es[i]? = some (th knd p.2, Value.ref p.1) := by
  rw [← Array.getElem?_toList, R.rw_, rws, List.getElem?_map, e]
  rfl
/-- the way's places -/
abbrev stp (m : Nat) (h : Int) (c : Nat) : SetTable.Probe := L2.nth m (L2.runAt m (SetTable.bits h % (m + 1)) (SetTable.bits h)) c
theorem nth_clean (m : Nat) : ∀ (n : Nat) (p : SetTable.Probe), p.dummy = none → (L2.nth m p n).dummy = none
  | 0, p, e => e
  | n + 1, p, e => nth_clean m n (L2.adv m p) (by unfold L2.adv; split <;> exact e)
theorem stp_more (m : Nat) (h : Int) (c q : Nat) : L2.nth m (stp m h c) q = stp m h (c + q) := (L2.nth_add m c _ q).symm
theorem stp_j (m : Nat) (h : Int) (c q : Nat) : (L2.nth m (stp m h c) q).j = L2.way m h (c + q) := congrArg SetTable.Probe.j (stp_more m h c q)
/-- a search among them shows nothing of the table -/
theorem quiet_search (M : Mild knd) {k : List κ} {b : Addr} {Q : Bool → Shared → Prop} (hk : IsTupleKey knd s.heap k b) {ys : List Value} (hy : ∀ y ∈ ys, ∃ k' c, y = Value.ref c ∧ IsTupleKey knd s.heap k' c) (q : Q false s) :
    wpAny (model P w) A (searchCouldBeSeen (.ref b) ys) Q E s := by
  unfold searchCouldBeSeen
  apply wpAny_bind
  refine wpAny_forIn_list _ (fun left r t => r.1 = none ∧ t = s ∧ ∀ y ∈ left, ∃ k' c, y = Value.ref c ∧ IsTupleKey knd s.heap k' c) _ ?_ ?_ _ _ ⟨rfl, rfl, hy⟩
  · rintro v left r t ⟨none_, rfl, all⟩
    obtain ⟨k', c, rfl, hc⟩ := all v List.mem_cons_self
    have others : ∀ y ∈ left, ∃ k' c, y = Value.ref c ∧ IsTupleKey knd t.heap k' c := fun u hu => all u (List.mem_cons_of_mem _ hu)
    dsimp only
    rcases Classical.em ((b == c || (carriedByValue (.ref b) && carriedByValue (.ref c))) = true) with plain | other
    · exact L2.wp_if_pos plain (wpAny_pure ⟨rfl, rfl, others⟩)
    · apply L2.wp_if_neg other
      apply wpAny_bind
      apply wpAny_eqIsQuiet_tuple hk
      simp only [Bool.not_true, Bool.false_eq_true, if_false]
      apply wpAny_bind
      apply wpAny_eqIsQuiet_tuple hc
      simp only [Bool.not_true, Bool.false_eq_true, if_false]
      apply wpAny_bind
      apply no_class M hk
      simp only [Bool.false_eq_true, if_false]
      apply wpAny_bind
      apply no_class M hc
      simp only [Bool.false_eq_true, if_false]
      exact wpAny_pure ⟨rfl, rfl, others⟩
  · rintro ⟨r1, r2⟩ t ⟨none_, rfl, _⟩
    simp only at none_
    subst none_
    exact wpAny_pure q
end
end Rt
end
section
set_option Elab.async false
set_option linter.all false
set_option maxRecDepth 100000
set_option maxHeartbeats 4000000
/-! the search of a tuple in the set, and its adding -/
namespace Rt
open PySem PySem.Spec PyProof.Rows
section
variable {P : Program} {w : World} {κ : Type} [DecidableEq κ] {knd : KeyKind P w κ} {A : Around} {E : Value → Shared → Prop} {s : Shared}
variable {a : Addr} {L : List (Addr × List κ)} {es : Array (Int × Value)} {ep : Nat} {t : SetTable}
/-- f turns are left, the c-th place of the way is the next one; K is the first empty one -/
theorem find_from (M : Mild knd) (R : TSet knd s.heap a L es ep t) {x : Addr} {k : List κ} (hx : IsTupleKey knd s.heap k x) (hu : A.units < cLine) {K : Nat} (kf : K < 10 * SetTable.turns t.mask)
    (gap : L2.way t.mask (th knd k) K ∉ t.place.toList) (full : ∀ c, c < K → L2.way t.mask (th knd k) c ∈ t.place.toList) {Q : SetFound → Shared → Prop}
    (yes : k ∈ L.map (·.2) → Q (.there none) s) (no : k ∉ L.map (·.2) → Q (.free (L2.way t.mask (th knd k) K) false) s) :
    ∀ (f c : Nat) (stand : Option SetTable.Probe), stand.getD (t.probeStart (th knd k)) = stp t.mask (th knd k) c → c ≤ K → K - c < f →
      (∀ (i : Nat) p, L[i]? = some p → p.2 = k → ∃ d, c ≤ d ∧ d < K ∧ t.place.toList[i]? = some (L2.way t.mask (th knd k) d)) →
      wpAny (model P w) A (setSearchFrom a (.ref x) (th knd k) true f stand) Q E s := by
  obtain ⟨o, ho, hex, hd⟩ := R.ob
  have fit := R.fits
  intro f
  induction f with
  | zero => intro c stand _ _ hf _; omega
  | succ f ih =>
    intro c stand hst hc hf here
    have hashAt : ∀ (i : Nat) p, L[i]? = some p → ((es[i]?.map (·.1)).getD 0) = th knd p.2 := fun i p hp => by rw [R.row hp]; rfl
    have look := L2.go_spec t R.tb.ris R.tb.dm (fun i => (es[i]?.map (·.1)).getD 0) (th knd k) (10 * SetTable.turns t.mask) (K - c) (stp t.mask (th knd k) c) (nth_clean _ c _ rfl) (by omega)
      (fun q hq => by rw [stp_j]; exact full _ (by omega)) (by rw [stp_j, show c + (K - c) = K by omega]; exact gap)
    have start : t.probe (fun i => (es[i]?.map (·.1)).getD 0) (th knd k) (stand.getD (t.probeStart (th knd k))) = SetTable.probe.go t (fun i => (es[i]?.map (·.1)).getD 0) (th knd k) (10 * SetTable.turns t.mask) (stp t.mask (th knd k) c) := by
      rw [hst]
      rfl
    rw [L2.setSearchFrom_succ]
    apply wpAny_bind
    apply wpAny_setState_of ho hd fit
    dsimp only
    have steady : ¬ t.gaveWay = true := by
      unfold SetTable.gaveWay
      rw [R.mask]
      decide
    apply L2.wp_if_neg steady
    try (apply wpAny_bind; apply wpAny_pure)
    rcases look with ⟨q, i, hq, hi, same, before, found⟩ | ⟨none_, found⟩
    · rw [start, found, stp_j]
      rw [stp_j] at hi
      dsimp only
      have il : i < L.length := by
        have h1 : i < t.place.toList.length := (List.getElem?_eq_some_iff.mp hi).1
        have h2 := R.tb.sz
        rw [List.length_map] at h2
        rw [Array.length_toList] at h1
        omega
      obtain ⟨p, hp⟩ : ∃ p, L[i]? = some p := ⟨_, List.getElem?_eq_getElem il⟩
      have pL : p ∈ L := List.mem_of_getElem? hp
      have on : wpAny (model P w) A (L2.searchRest a (.ref x) (th knd k) true f es t (L2.way t.mask (th knd k) (c + q)) i (L2.nth t.mask (stp t.mask (th knd k) c) (q + 1))) Q E s := by
        unfold L2.searchRest
        rw [R.row hp]
        dsimp only
        apply wpAny_bind
        apply wpAny_holding
        apply wpAny_eqBool_tuple hu (R.at_ p pL) hx
        apply wpAny_bind
        apply wpAny_setState_of ho hd fit
        dsimp only
        by_cases eq : p.2 = k
        · apply L2.wp_if_pos (by simp [eq])
          exact wpAny_pure (yes (List.mem_map.mpr ⟨p, pL, eq⟩))
        · apply L2.wp_if_neg (by simp [eq])
          try (apply wpAny_bind; apply wpAny_pure)
          rw [L2.sameMem]
          dsimp only
          have live : t.slot (L2.way t.mask (th knd k) (c + q)) = .live i := L2.slot_live R.tb.ris hi
          simp only [if_true, live, R.row hp]
          apply wpAny_bind
          apply wpAny_isSame_ref_self
          apply wpAny_bind
          apply wpAny_pure
          simp only [if_true]
          apply L2.wp_if_neg (by simp [eq])
          refine ih (c + (q + 1)) _ (stp_more _ _ _ _) (by omega) (by omega) fun j r hr er => ?_
          obtain ⟨d, d1, d2, d3⟩ := here j r hr er
          refine ⟨d, ?_, d2, d3⟩
          have cmp := Nat.lt_trichotomy d (c + q)
          rcases cmp with lt | same_ | gt
          · exact absurd ((hashAt j r hr).trans (congrArg (th knd) er)) (before (d - c) j (by omega) (by rw [stp_j, show c + (d - c) = d by omega]; exact d3))
          · rw [same_] at d3
            have other := L2.slot_live R.tb.ris d3
            rw [live] at other
            injection other with ij
            rw [← ij, hp] at hr
            exact absurd ((congrArg Prod.snd (Option.some.inj hr)).trans er) eq
          · omega
      rcases Classical.em (t.led = true) with led | unled
      · apply L2.wp_if_neg (by simp [led])
        try (apply wpAny_bind; apply wpAny_pure)
        exact on
      · apply L2.wp_if_pos (by simp [unled])
        apply wpAny_bind
        refine quiet_search M hx (fun y hy => ?_) ?_
        · obtain ⟨e, he, ey⟩ := List.mem_map.mp hy
          have he' : e ∈ es ∧ e.1 = th knd k := by simpa using he
          have hl : e ∈ es.toList := by simpa using he'.1
          rw [R.rw_] at hl
          obtain ⟨r, hr, er⟩ := List.mem_map.mp hl
          exact ⟨r.2, r.1, by rw [← ey, ← er], R.at_ r hr⟩
        · apply L2.wp_if_neg (by decide)
          try (apply wpAny_bind; apply wpAny_pure)
          exact on
    · rw [start, found, stp_j, show c + (K - c) = K by omega]
      dsimp only
      refine wpAny_pure (no fun hm => ?_)
      obtain ⟨r, hr, er⟩ := List.mem_map.mp hm
      obtain ⟨j, hj, ej⟩ := List.getElem_of_mem hr
      have hr' : L[j]? = some r := by rw [List.getElem?_eq_getElem hj, ej]
      obtain ⟨d, d1, d2, d3⟩ := here j r hr' er
      exact none_ (d - c) j (by omega) (by rw [stp_j, show c + (d - c) = d by omega]; exact d3) ((hashAt j r hr').trans (congrArg (th knd) er))
theorem find_it (M : Mild knd) (R : TSet knd s.heap a L es ep t) {x : Addr} {k : List κ} (hx : IsTupleKey knd s.heap k x) (hu : A.units < cLine) {Q : SetFound → Shared → Prop} (yes : k ∈ L.map (·.2) → Q (.there none) s)
    (no : ∀ K, k ∉ L.map (·.2) → L2.way t.mask (th knd k) K ∉ t.place.toList → (∀ c, c < K → L2.way t.mask (th knd k) c ∈ t.place.toList) → Q (.free (L2.way t.mask (th knd k) K) false) s) :
    wpAny (model P w) A (setSearch a (.ref x) (th knd k) true) Q E s := by
  have few := R.few
  obtain ⟨K, kf, gap, full⟩ := R.tb.first (by rw [List.length_map, R.mask]; omega) (th knd k)
  have small : K < 100000 := by
    have m := R.mask
    unfold SetTable.turns at kf
    rw [m] at kf
    omega
  unfold setSearch
  refine find_from M R hx hu kf gap full yes (fun n => no K n gap full) 100000 0 none rfl (Nat.zero_le _) (by omega) fun i p hp ep => ?_
  have ih : (L.map fun p => th knd p.2)[i]? = some (th knd k) := by rw [List.getElem?_map, hp, ← ep]; rfl
  have il : i < t.place.toList.length := by
    have h1 : i < L.length := (List.getElem?_eq_some_iff.mp hp).1
    have h2 := R.tb.sz
    rw [List.length_map] at h2
    rw [Array.length_toList]
    omega
  obtain ⟨d, d1, d2⟩ := R.tb.before gap ih (List.getElem?_eq_getElem il)
  exact ⟨d, Nat.zero_le _, d1, by rw [List.getElem?_eq_getElem il, d2]⟩

theorem tup_stays {h h' : Heap} {k : List κ} {b : Addr} {o : Obj} (hb : IsTupleKey knd h k b) (ho : h.get? a = some o) (hd : o.data = .set es ep t) (sb : Heap.SameBut a h h') : IsTupleKey knd h' k b := by
  obtain ⟨u, items, n, hu, hc, hdu, hi⟩ := hb
  refine ⟨u, items, n, (sb.2 b fun e => ?_).trans hu, hc, hdu, hi⟩
  rw [e, ho] at hu
  rw [← Option.some.inj hu, hd] at hdu
  cases hdu
theorem mid_perm {α : Type} (L : List α) (p : Nat) (x : α) : (L.take p ++ x :: L.drop p).Perm (x :: L) := by
  refine List.perm_middle.trans ?_
  rw [List.take_append_drop]
/-- a tuple is added: it was there, or it is there now -/
theorem add_it (M : Mild knd) (R : TSet knd s.heap a L es ep t) {x : Addr} {k : List κ} (hx : IsTupleKey knd s.heap k x) (hu : A.units < cLine) (few : L.length + 1 ≤ 4) {Q : Bool → Shared → Prop}
    (fin : ∀ r h' L' es' ep' t', Heap.SameBut a s.heap h' → TSet knd h' a L' es' ep' t' → (k ∈ L.map (·.2) → L' = L) → (k ∉ L.map (·.2) → L'.Perm ((x, k) :: L)) → Q r { s with heap := h' }) :
    wpAny (model P w) A (setAddHashed a (.ref x) (th knd k)) Q E s := by
  obtain ⟨o, ho, hex, hd⟩ := R.ob
  have sz := R.size
  unfold setAddHashed
  apply wpAny_holding
  rw [show (100000 : Nat) = 99999 + 1 from rfl, L2.setAddHashedIn_succ]
  apply wpAny_bind
  apply wpAny_setState_of ho hd R.fits
  dsimp only
  apply L2.wp_if_neg (by simp [byScan, Value.scannable])
  try (apply wpAny_bind; apply wpAny_pure)
  apply wpAny_bind
  refine find_it M R hx hu (fun hm => ?_) fun K hm gap full => ?_
  · dsimp only
    exact wpAny_pure (fin false s.heap L es ep t (Heap.SameBut.refl a s.heap) R (fun _ => rfl) fun z => absurd hm z)
  · dsimp only
    apply wpAny_bind
    apply wpAny_setState_of ho hd R.fits
    dsimp only
    obtain ⟨q1, q2, q3, q4, q5, q6, q7, q8, q9⟩ := R.tb.put gap full
    generalize t.put (L2.way t.mask (th knd k) K) = pt at q1 q3 q4 q5 q6 q7 q8 q9 ⊢
    obtain ⟨t1, p⟩ := pt
    dsimp only at q1 q3 q4 q5 q6 q7 q8 q9 ⊢
    subst q1
    generalize SetTable.below t.place (L2.way t.mask (th knd k) K) = p at q2 q3 ⊢
    have mask1 : t1.mask = 7 := q4.trans R.mask
    have rows1 : (SetTable.insertAt es p (th knd k, Value.ref x)).toList = rws knd (L.take p ++ (x, k) :: L.drop p) := by
      rw [SetTable.toList_insertAt, R.rw_]
      simp [rws, List.map_take, List.map_drop]
    have pm := mid_perm L p (x, k)
    have hs1 : (L.take p ++ (x, k) :: L.drop p).map (fun p => th knd p.2) = (L.map fun p => th knd p.2).take p ++ th knd k :: (L.map fun p => th knd p.2).drop p := by simp [List.map_take, List.map_drop]
    rw [← hs1] at q3
    have one1 : ((L.take p ++ (x, k) :: L.drop p).map (·.2)).Nodup := (pm.map (·.2)).nodup_iff.mpr (List.nodup_cons.mpr ⟨hm, R.one⟩)
    have len1 : (L.take p ++ (x, k) :: L.drop p).length = L.length + 1 := pm.length_eq
    have es1 : (SetTable.insertAt es p (th knd k, Value.ref x)).size = L.length + 1 := by
      have q := congrArg List.length rows1
      rw [Array.length_toList] at q
      rw [q, rws, List.length_map, len1]
    generalize SetTable.insertAt es p (th knd k, Value.ref x) = E1 at rows1 es1 ⊢
    generalize L.take p ++ (x, k) :: L.drop p = L1 at pm len1 q3 one1 rows1
    -- what is stored in the end, for either answer of by-value
    have last : ∀ r : Bool, wpAny (model P w) A (do
        storeSet a E1 (if r = true then t1 else { t1 with plain := false })
        if (!false && (if r = true then t1 else { t1 with plain := false }).tooFull) = true then do { setRelay a (SetTable.grown (es.size + 1)); pure true } else pure true) Q E s := fun r => by
      have nf : (if r then t1 else { t1 with plain := false }).tooFull = false := by
        have z : (if r then t1 else { t1 with plain := false }).tooFull = t1.tooFull := by cases r <;> rfl
        rw [z]
        unfold SetTable.tooFull
        rw [q9, mask1, List.length_map]
        exact decide_eq_false (by omega)
      have tb1 : L2.TabOk (if r then t1 else { t1 with plain := false }) (L1.map fun p => th knd p.2) := by
        cases r with
        | true => exact q3
        | false => exact ⟨q3.ris, q3.dm, q3.sz, q3.mok, q3.bd, q3.reach⟩
      have mk1 : (if r then t1 else { t1 with plain := false }).mask = 7 := by cases r <;> exact mask1
      generalize (if r then t1 else { t1 with plain := false }) = t2 at nf tb1 mk1 ⊢
      apply wpAny_bind
      refine wpAny_storeSet_of ho hd ?_ (by rw [es1, sizeLine_eq]; omega)
      have sb : Heap.SameBut a s.heap (s.heap.update a (Obj.putSet E1 t2)) := Heap.SameBut.update ..
      have at1 := L2.store_at (es' := E1) (t' := t2) ho hd
      generalize s.heap.update a (Obj.putSet E1 t2) = h1 at sb at1 ⊢
      rw [nf]
      have tups : ∀ p ∈ L1, IsTupleKey knd h1 p.2 p.1 := fun r hr => by
        rcases List.mem_cons.mp (pm.mem_iff.mp hr) with e | hr
        · rw [e]
          exact tup_stays hx ho hd sb
        · exact tup_stays (R.at_ r hr) ho hd sb
      have done := fin true h1 L1 E1 (ep + 1) t2 sb ⟨⟨_, at1, ⟨hex.1, hex.2.1, hex.2.2⟩, rfl⟩, rows1, tb1, one1, tups, mk1, by rw [len1]; exact few⟩ (fun z => absurd z hm) fun _ => pm
      simp only [Bool.not_false, Bool.and_false, Bool.false_eq_true, if_false]
      try (apply wpAny_bind; apply wpAny_pure)
      exact wpAny_pure done
    rcases Classical.em (t1.plain = true) with pl | pl
    · first
        | exact L2.wp_if_pos pl (wpAny_bind (by_value M hx fun r => last r))
        | (apply wpAny_bind; apply L2.wp_if_pos pl; exact by_value M hx fun r => last r)
    · first
        | exact L2.wp_if_neg pl (by first | exact last true | exact wpAny_bind (wpAny_pure (last true)))
        | (apply wpAny_bind; apply L2.wp_if_neg pl; exact wpAny_pure (last true))
end
end Rt
end
section
set_option Elab.async false
set_option linter.all false
set_option maxRecDepth 100000
set_option maxHeartbeats 4000000
/-! set(xs) and len of it, as rules of the layer; sorted(set(xs)) of ints -/
namespace Rt
open PySem PySem.Spec PyProof.Rows
section
variable {P : Program} {w : World} {κ : Type} [DecidableEq κ] {knd : KeyKind P w κ}
structure TIn (knd : KeyKind P w κ) (S : Addr) (ks : List (Addr × List κ)) (i : Nat) (h : Heap) : Prop where
  ex : ∃ L es ep t, TSet knd h S L es ep t ∧ (∀ k, k ∈ L.map (·.2) ↔ k ∈ (ks.take i).map (·.2)) ∧ L.length = cnt ((ks.take i).map (·.2)) ∧ ∀ p ∈ L, p ∈ ks
abbrev Keeps (h h' : Heap) : Prop := ∀ b o, h.get? b = some o → h'.get? b = some o
theorem tup_keep {h h' : Heap} {k : List κ} {b : Addr} (hb : IsTupleKey knd h k b) (kp : Keeps h h') : IsTupleKey knd h' k b := by
  obtain ⟨u, items, n, hu, r⟩ := hb
  exact ⟨u, items, n, kp _ _ hu, r⟩
theorem TSet.over {h h' : Heap} {a : Addr} {L : List (Addr × List κ)} {es : Array (Int × Value)} {ep : Nat} {t : SetTable} (R : TSet knd h a L es ep t) (ha : ∀ o, h.get? a = some o → h'.get? a = some o) (ht : ∀ p ∈ L, IsTupleKey knd h' p.2 p.1) : TSet knd h' a L es ep t := by
  obtain ⟨o, ho, r⟩ := R.ob
  exact ⟨⟨o, ha o ho, r⟩, R.rw_, R.tb, R.one, ht, R.mask, R.few⟩
variable {A : Around} {R : Result → Shared → Prop} {I : Addr} {fp wr : List Addr} {G : Array GenState → Array GenState → Prop} {n : Nat} {Pv : Nat → Value → Prop} {St : Nat → Shared → Prop}
theorem fill_tups (M : Mild knd) (walk : WalksS P w A.in1 I fp wr G n Pv St) (S : Addr) (out : S ∉ fp) (ks : List (Addr × List κ)) (hn : ks.length = n) (few : n ≤ 4) (val : ∀ i v, Pv i v → ∃ p, ks[i]? = some p ∧ v = .ref p.1)
    (h0 : Heap) (hk : ∀ p ∈ ks, IsTupleKey knd h0 p.2 p.1) (S0 : h0.get? S = none) (w0 : ∀ b ∈ wr, h0.get? b = none) (hu : A.in1.units < cLine) :
    ∀ (d i : Nat) (s : Shared), i + d = n → St i s → Keeps h0 s.heap → TIn knd S ks i s.heap → (∀ s', Moved (S :: wr) G s s' → TIn knd S ks n s'.heap → R (.ok (.ret .none)) s') →
      codeAny (model P w) A (.builtin "set.update.loop" ⟨[.ref S, .ref I], []⟩) R s := by
  have mkeep : ∀ {s s' : Shared}, Moved wr G s s' → Keeps h0 s.heap → Keeps h0 s'.heap := fun mv kp b o e => mv.heap b o (fun hb => by rw [w0 b hb] at e; cases e) (kp b o e)
  have carry : ∀ {s s' : Shared} {i : Nat}, Moved wr G s s' → Keeps h0 s'.heap → TIn knd S ks i s.heap → TIn knd S ks i s'.heap := fun mv kp ⟨L, es, ep, t, T, z1, z2, z3⟩ =>
    ⟨L, es, ep, t, T.over (fun o ho => mv.heap S o (fun q => out (walk.sub _ q)) ho) fun p hp => tup_keep (hk p (z3 p hp)) kp, z1, z2, z3⟩
  intro d
  induction d with
  | zero =>
    intro i s e st kp here fin
    obtain rfl : i = n := by omega
    apply codeAny_builtin F.entry_set_update_loop
    rw [Around.under_plainId F.plain_set_update_loop _]
    show wpAny _ A.in1 (pyNext (.ref I) >>= _) _ _ s
    apply wpAny_bind
    apply walk.done s _ _ st
    intro s' mv
    exact wpAny_pure (fin s' (mv.mono fun b hb => List.mem_cons_of_mem _ hb) (carry mv (mkeep mv kp) here))
  | succ d ih =>
    intro i s e st kp here fin
    apply codeAny_builtin F.entry_set_update_loop
    rw [Around.under_plainId F.plain_set_update_loop _]
    show wpAny _ A.in1 (pyNext (.ref I) >>= _) _ _ s
    apply wpAny_bind
    apply walk.item i s _ _ (by omega) st
    intro v s' pv st' mv
    obtain ⟨p, hp, rfl⟩ := val i v pv
    have kp' := mkeep mv kp
    obtain ⟨L, es, ep, t, T, z1, z2, z3⟩ := carry mv kp' here
    have hx : IsTupleKey knd s'.heap p.2 p.1 := tup_keep (hk p (List.mem_of_getElem? hp)) kp'
    show wpAny _ A.in1 (holding [Value.ref p.1] (setAdd S (.ref p.1)) >>= _) _ _ s'
    apply wpAny_bind
    apply wpAny_holding
    unfold setAdd
    apply wpAny_holding
    apply wpAny_bind
    apply wpAny_pyHash_tuple hu hx
    have il : i < ks.length := (List.getElem?_eq_some_iff.mp hp).1
    have room : L.length + 1 ≤ 4 := by
      have q := cnt_le ((ks.take i).map (·.2))
      rw [List.length_map] at q
      have q2 : (ks.take i).length ≤ i := List.length_take_le _ _
      omega
    refine add_it (s := { s' with toks := s'.toks + (p.2.length + 1) }) M T hx hu room fun r h' L' es' ep' t' sb T' same more => ?_
    have kp2 : Keeps h0 h' := fun b o e => (sb.2 b fun z => by rw [z, S0] at e; cases e).trans (kp' b o e)
    have step : (ks.take (i + 1)).map (·.2) = (ks.take i).map (·.2) ++ [p.2] := map_one _ hp
    have here' : TIn knd S ks (i + 1) h' := by
      refine ⟨L', es', ep', t', T', ?_⟩
      rw [step, cnt_snoc]
      by_cases m : p.2 ∈ L.map (·.2)
      · rw [same m]
        have m' := (z1 _).mp m
        refine ⟨fun k => ?_, by rw [if_pos m']; exact z2, z3⟩
        rw [z1 k, List.mem_append, List.mem_singleton]
        constructor
        · exact .inl
        · rintro (q | q)
          · exact q
          · rw [q]; exact m'
      · have m' : p.2 ∉ (ks.take i).map (·.2) := fun q => m ((z1 _).mpr q)
        have pm := more m
        refine ⟨fun k => ?_, by rw [if_neg m', pm.length_eq, List.length_cons, z2], fun r hr => ?_⟩
        · rw [(pm.map (·.2)).mem_iff, List.map_cons, List.mem_cons, z1 k, List.mem_append, List.mem_singleton]
          exact Or.comm
        · rcases List.mem_cons.mp (pm.mem_iff.mp hr) with q | q
          · rw [q]; exact List.mem_of_getElem? hp
          · exact z3 r q
    refine wpAny_pure ⟨plainId_quiet F.plain_set_update_loop _, ih (i + 1) _ (by omega) (walk.frame _ s' _ _ st' (Nat.le_add_right _ _) fun b hb o ho => ?_) kp2 here' fun s'' mv2 last => fin s'' ?_ last⟩
    · rw [sb.2 b (fun q : b = S => out (q ▸ hb))]
      exact ho
    · refine Moved.trans walk.gtrans ((mv.mono fun b hb => List.mem_cons_of_mem _ hb).then_heap (Nat.le_add_right _ _) fun b o hb ho => ?_) mv2
      rw [sb.2 b (fun q : b = S => hb (q ▸ List.mem_cons_self))]
      exact ho
end
end Rt
namespace Rt
open PySem PySem.Spec PyProof.Rows L2
/-- a set of n members -/
def SetN (a : Addr) (n : Nat) : HO := .ext fun h => ∃ o es ep t, h.get? a = some o ∧ o.ExactSet ∧ o.data = .set es ep t ∧ t.fits es.size = true ∧ es.size = n
theorem setN_ok {P : Program} {w : World} {H : Hp} {h : Heap} {a : Addr} {n : Nat} (q : ∃ o es ep t, h.get? a = some o ∧ o.ExactSet ∧ o.data = .set es ep t ∧ t.fits es.size = true ∧ es.size = n) : ObjOk P w H h a (SetN a n) := by
  have ⟨o, es, ep, t, ho, r⟩ := q
  exact ⟨q, ⟨o, ho⟩, fun h1 h2 z k => let ⟨o', es', ep', t', ho', r'⟩ := z; ⟨o', es', ep', t', k o' ho', r'⟩⟩
section
variable {X : Cx}
theorem call_lenN : CallR X (.builtin "len") (fun xs H Q => ∃ a n, xs = [V.ref a] ∧ H a = some (SetN a n) ∧ n ≤ 1000 ∧ Q (.int (n : Nat)) H) := by
  intro pins s σ H xs us Q I r h
  obtain ⟨a, n, rfl, ha, hn, q⟩ := h
  rw [Vals.ref1 r]
  obtain ⟨o, es, ep, t, ho, hex, hd, hf, hz⟩ := (show ∃ o es ep t, s.heap.get? a = some o ∧ o.ExactSet ∧ o.data = .set es ep t ∧ t.fits es.size = true ∧ es.size = n from (I.hok a _ ha).1)
  refine call_len_set ho hex hd hf (by rw [hz]; omega) ⟨.int (n : Nat), H, I.tok _, ⟨_, by rw [hz]⟩, q⟩
theorem fresh_set {prog : Program} {w : World} {κ : Type} [DecidableEq κ] {knd : PySem.KeyKind prog w κ} {h : Heap} {a : Addr} {led : Bool} {xs : List κ} (ha : h.get? a = some { cls := .type "set", dict := none, data := .set #[] 0 (.fresh 0 0 led) }) :
    h.SetOf knd a (fun j => decide (j ∈ xs.take 0)) (cnt (xs.take 0)) := by
  have q := (PyProof.Rows.setObjOf_fresh (knd := knd) led).setOf ha (by unfold scanBound; omega)
  have e : (fun j => decide (j ∈ xs.take 0)) = fun _ : κ => false := by
    funext j
    simp
  rw [e]
  exact q
def memb {κ : Type} [DecidableEq κ] (ks : List κ) (j : κ) : Bool := decide (j ∈ ks)
/-- set(xs), xs a list or a tuple of ints and texts -/
theorem call_setK (hc : X.calm = true) : CallR X (.type "set") (fun xs H Q => ∃ l, ∃ ks : List Key, xs = [V.ref l] ∧ (SqL X.K H l (ks.map kV) ∨ SqT X.K H l (ks.map kV)) ∧ ks.length ≤ 60 ∧ ∀ p, H p = none → Q (.ref p) (upd H p (SetN p (cnt ks)))) := by
  intro pins s σ H xs us Q I r h
  obtain ⟨l, ks, rfl, hl, hz, q⟩ := h
  rw [Vals.ref1 r]
  have key : ∀ {its : List Value}, Vals (ks.map kV) its → ∀ (i : Nat) (v : Value), its.toArray[i]? = some v → ∃ x, ks[i]? = some x ∧ (mixKind X.prog X.w).is x v = true ∧ v.scannable = true := fun {its} rv i v hv => by
    have hv' : its[i]? = some v := by simpa using hv
    cases hx : ks[i]? with
    | none =>
      have : (ks.map kV)[i]? = none := by rw [List.getElem?_map, hx]; rfl
      rw [rv.none_of this] at hv'
      cases hv'
    | some x =>
      obtain ⟨u, hu, ru⟩ := rv.get (i := i) (x := kV x) (by rw [List.getElem?_map, hx]; rfl)
      rw [hv'] at hu
      cases hu
      exact ⟨x, rfl, kV_is ru, key_scan ru⟩
  have fin : ∀ (h' : Heap) (tk : Nat), h'.SetOf (mixKind X.prog X.w) s.heap.objs.size (memb ks) (cnt ks) → (∀ b o, s.heap.get? b = some o → h'.get? b = some o) → EP X pins σ Q (.ref s.heap.objs.size) { s with heap := h', toks := tk } := fun h' tk S kp => by
    obtain ⟨o, es, ep, t, ho, hex, hd, _, _, _, hf, hn⟩ := S
    exact ⟨.ref s.heap.objs.size, _, I.laid (t' := tk) kp (Nat.le_refl _) (setN_ok ⟨o, es, ep, t, ho, hex, hd, hf, hn⟩), rfl, q _ (I.hok.fresh (Nat.le_refl _))⟩
  have two : ∀ led, (s.heap.push { cls := .type "set", dict := none, data := .set #[] 0 (.fresh 0 0 led) }).objs.size = s.heap.objs.size + 1 := fun led => Heap.size_push ..
  rcases hl with hl | hl
  · obtain ⟨its, rv, pl, hz'⟩ := I.list hl
    have lt : l < s.heap.objs.size := by
      obtain ⟨o, ho, _⟩ := pl.isList
      exact Heap.lt_size ho
    refine set_list (I.ok.hd hc) pl.isList (T := fun h' => h'.SetOf (mixKind X.prog X.w) s.heap.objs.size (memb ks) (cnt ks)) (fun led _ B R calm un k => ?_) fin
    have at0 : (setAhead X.w led s.heap "list_iterator" l).get? s.heap.objs.size = some { cls := .type "set", dict := none, data := .set #[] 0 (.fresh 0 0 led) } := Heap.get?_push_of_some _ (Heap.get?_push_size _ rfl)
    have at1 : (setAhead X.w led s.heap "list_iterator" l).get? (s.heap.objs.size + 1) = some { cls := .type "list_iterator", data := .fields #[.ref l, .int 0 0] } := by
      rw [← two led]
      exact Heap.get?_push_size _ rfl
    have ls : ks.length = its.toArray.size := by
      have := rv.length
      rw [List.length_map] at this
      simpa using this
    refine fill_keys (mixKind X.prog X.w) (Walks.list calm (s.heap.objs.size + 1) l (Nat.ne_of_lt (Nat.lt_succ_of_lt lt)) its.toArray).toS s.heap.objs.size (by
      simp only [List.mem_cons, List.not_mem_nil, or_false, not_or]
      exact ⟨Nat.ne_of_lt (Nat.lt_succ_self _), Nat.ne_of_gt lt⟩) ks ls (by rw [← ls]; unfold scanBound; omega) (key rv) its.toArray.size 0 _ (by omega) ⟨⟨_, at1, rfl, rfl⟩, (pl.isList.push _).push _⟩ (fresh_set at0) fun s' mv S => k s' mv S
  · obtain ⟨its, rv, pl, hz'⟩ := I.tuple hl
    have lt : l < s.heap.objs.size := by
      obtain ⟨o, ho, _⟩ := pl
      exact Heap.lt_size ho
    refine set_tuple (I.ok.hd hc) pl (T := fun h' => h'.SetOf (mixKind X.prog X.w) s.heap.objs.size (memb ks) (cnt ks)) (fun led _ B R calm un k => ?_) fin
    have at0 : (setAhead X.w led s.heap "tuple_iterator" l).get? s.heap.objs.size = some { cls := .type "set", dict := none, data := .set #[] 0 (.fresh 0 0 led) } := Heap.get?_push_of_some _ (Heap.get?_push_size _ rfl)
    have at1 : (setAhead X.w led s.heap "tuple_iterator" l).get? (s.heap.objs.size + 1) = some { cls := .type "tuple_iterator", data := .fields #[.ref l, .int 0 0] } := by
      rw [← two led]
      exact Heap.get?_push_size _ rfl
    have ls : ks.length = its.toArray.size := by
      have := rv.length
      rw [List.length_map] at this
      simpa using this
    refine fill_keys (mixKind X.prog X.w) (Walks.tuple calm (s.heap.objs.size + 1) l (Nat.ne_of_lt (Nat.lt_succ_of_lt lt)) its.toArray).toS s.heap.objs.size (by
      simp only [List.mem_cons, List.not_mem_nil, or_false, not_or]
      exact ⟨Nat.ne_of_lt (Nat.lt_succ_self _), Nat.ne_of_gt lt⟩) ks ls (by rw [← ls]; unfold scanBound; omega) (key rv) its.toArray.size 0 _ (by omega) ⟨⟨_, at1, rfl, rfl⟩, (pl.push _).push _⟩ (fresh_set at0) fun s' mv S => k s' mv S
end
end Rt
namespace Rt
open PySem PySem.Spec PyProof.Rows L2
section
variable {X : Cx}
theorem items_keys {P : Program} {w : World} : ∀ {k : List Key} {us : List Value}, Vals (k.map kV) us → ItemsAre (mixKind P w) k us
  | [], _, .nil => .nil
  | n :: k, _, .cons r t => .cons (kV_is r) (items_keys t)
theorem refs_at : ∀ {ks : List (Addr × List Key)} {us : List Value}, Vals (ks.map fun p => V.ref p.1) us → us = ks.map fun p => Value.ref p.1
  | [], _, .nil => rfl
  | p :: ks, _, .cons r t => by
    cases r
    rw [refs_at t]
    rfl
/-- set(xs), xs a list of up to four tuples of ints and texts -/
theorem call_setT (hc : X.calm = true) (hu : X.A.units + 64 < cLine) : CallR X (.type "set") (fun xs H Q => ∃ l, ∃ ks : List (Addr × List Key), xs = [V.ref l] ∧ SqL X.K H l (ks.map fun p => V.ref p.1) ∧ (∀ p ∈ ks, SqT X.K H p.1 (p.2.map kV)) ∧ ks.length ≤ 4 ∧
    ∀ p, H p = none → Q (.ref p) (upd H p (SetN p (cnt (ks.map (·.2)))))) := by
  intro pins s σ H xs us Q I r h
  obtain ⟨l, ks, rfl, hl, hk, few, q⟩ := h
  rw [Vals.ref1 r]
  obtain ⟨its, rv, pl, hz'⟩ := I.list hl
  have tups : ∀ p ∈ ks, IsTupleKey (mixKind X.prog X.w) s.heap p.2 p.1 := fun p hp => by
    obtain ⟨us, ru, ⟨o, ho, hcl, n, hd⟩, _⟩ := I.tuple (hk p hp)
    exact ⟨o, us.toArray, n, ho, hcl, hd, by simpa using items_keys ru⟩
  have eits : its = ks.map fun p => Value.ref p.1 := refs_at rv
  have lt : l < s.heap.objs.size := by
    obtain ⟨o, ho, _⟩ := pl.isList
    exact Heap.lt_size ho
  have free : ∀ b, s.heap.objs.size ≤ b → s.heap.get? b = none := fun b hb => Heap.get?_none_of_le hb
  refine set_list (I.ok.hd hc) pl.isList (T := fun h' => TIn (mixKind X.prog X.w) s.heap.objs.size ks ks.length h') (fun led _ B R calm un k => ?_) (fun h' tk S kp => ?_)
  · have two : (s.heap.push { cls := .type "set", dict := none, data := .set #[] 0 (.fresh 0 0 led) }).objs.size = s.heap.objs.size + 1 := Heap.size_push ..
    have at0 : (setAhead X.w led s.heap "list_iterator" l).get? s.heap.objs.size = some { cls := .type "set", dict := none, data := .set #[] 0 (.fresh 0 0 led) } := Heap.get?_push_of_some _ (Heap.get?_push_size _ rfl)
    have at1 : (setAhead X.w led s.heap "list_iterator" l).get? (s.heap.objs.size + 1) = some { cls := .type "list_iterator", data := .fields #[.ref l, .int 0 0] } := by
      rw [← two]
      exact Heap.get?_push_size _ rfl
    have ls : ks.length = its.toArray.size := by
      rw [eits]
      simp
    have val : ∀ (i : Nat) (v : Value), its.toArray[i]? = some v → ∃ p, ks[i]? = some p ∧ v = .ref p.1 := fun i v hv => by
      have hv' : its[i]? = some v := by simpa using hv
      rw [eits, List.getElem?_map] at hv'
      cases hx : ks[i]? with
      | none => rw [hx] at hv'; cases hv'
      | some p =>
        rw [hx] at hv'
        exact ⟨p, rfl, (Option.some.inj hv').symm⟩
    have empty : TSet (mixKind X.prog X.w) (setAhead X.w led s.heap "list_iterator" l) s.heap.objs.size [] #[] 0 (.fresh 0 0 led) :=
      ⟨⟨_, at0, ⟨rfl, rfl, rfl⟩, rfl⟩, rfl, ⟨List.Pairwise.nil, rfl, rfl, .inl rfl, fun x hx => (nomatch hx), fun i h j hi _ => by simp at hi⟩, List.nodup_nil, fun p hp => (nomatch hp), rfl, Nat.zero_le _⟩
    refine fill_tups mixMild (Walks.list calm (s.heap.objs.size + 1) l (Nat.ne_of_lt (Nat.lt_succ_of_lt lt)) its.toArray).toS s.heap.objs.size (by
      simp only [List.mem_cons, List.not_mem_nil, or_false, not_or]
      exact ⟨Nat.ne_of_lt (Nat.lt_succ_self _), Nat.ne_of_gt lt⟩) ks ls (by rw [← ls]; exact few) val s.heap tups (free _ (Nat.le_refl _)) (fun b hb => free b (by
        rw [List.mem_singleton.mp hb]
        exact Nat.le_succ _)) (by omega) its.toArray.size 0 _ (by omega) ⟨⟨_, at1, rfl, rfl⟩, (pl.isList.push _).push _⟩ (fun b o e => Heap.get?_push_of_some _ (Heap.get?_push_of_some _ e)) ⟨[], #[], 0, _, empty, fun k => by simp, rfl, fun p hp => (nomatch hp)⟩ fun s' mv S => k s' mv (by rw [ls]; exact S)
  · obtain ⟨L, es, ep, t, T, z1, z2, z3⟩ := S
    obtain ⟨o, ho, hex, hd⟩ := T.ob
    rw [List.take_length] at z2
    exact ⟨.ref s.heap.objs.size, _, I.laid (t' := tk) kp (Nat.le_refl _) (setN_ok ⟨o, es, ep, t, ho, hex, hd, T.fits, T.size.trans z2⟩), rfl, q _ (I.hok.fresh (Nat.le_refl _))⟩
end
end Rt
end
section
set_option Elab.async false
set_option linter.all false
set_option maxRecDepth 100000
set_option maxHeartbeats 4000000
/-! words: are_unlike -/
namespace Rt
open PySem PySem.Spec PyProof.Rows L2
theorem Ts.same {K : PySem.W.Frag} {H H' : Hp} {x : V} {T : String} (h : Ts K H x T) (e : Same H H') : Ts K H' x T := by
  cases h with
  | non => exact .non
  | bl b => exact .bl b
  | int i => exact .int i
  | str x => exact .str x
  | tup h => exact .tup (sqT_same e h)
  | lst h => exact .lst (e _ _ h)
  | dct h => exact .dct (e _ _ h)
theorem lenV_sq {K : PySem.W.Frag} {H : Hp} {a : Addr} {xs : List V} (h : Sq K H a xs) : LenV K (.ref a) H xs.length := by
  rcases h with h | h
  · exact .inl ⟨xs, h, rfl⟩
  · exact .inr ⟨xs, h, rfl⟩
def strOf : V → Option Str
  | .str z => some z
  | _ => none
def unlike (ns : List Str) (xs : List V) : Bool := !decide ((ns.length : Int) < (xs.length : Int)) && (xs.all (isOne ns) && decide ((xs.filterMap strOf).Nodup))
theorem strs_back {ns : List Str} : ∀ {xs : List V}, xs.all (isOne ns) = true → xs = (xs.filterMap strOf).map V.str
  | [], _ => rfl
  | x :: xs, h => by
    rw [List.all_cons, Bool.and_eq_true] at h
    cases x with
    | str z => exact congrArg (V.str z :: ·) (strs_back h.2)
    | _ => exact absurd h.1 (by simp [isOne])
def spUnlike (K : PySem.W.Frag) : Sp := fun vs H Q _ => ∃ a ns b xs, vs = [.ref a, .ref b] ∧ Sq K H a (ns.map V.str) ∧ Sq K H b xs ∧ (∀ x ∈ xs, ∃ T, Ts K H x T) ∧ xs.length ≤ 60 ∧ ns.length ≤ 60 ∧ ∀ H', Same H H' → Q (.bl (unlike ns xs)) H'
section
variable {P : Program} {w : World} {K : PySem.W.Frag} {mg : Str → Option Value} {base : Heap}
theorem cal_are_unlike (Z : All K mg) : Cal P w K mg base CX0 2 "are_unlike" ["names", "values"] (spUnlike K) := by
  obtain ⟨fd, F⟩ := Z.f_are_unlike
  have C1 : Cal P w K mg base CX0 1 "is_one_of" ["names", "value"] (spOne K) := cal_is_one_of Z
  refine .of ⟨fd, F, ok0 F sc_are_unlike (fun vs H Q E h => ?_) (fun cdv A outer s H vs Q E hr h => ?_)⟩ Z.g_are_unlike (fun _ _ _ _ _ _ us hl => match us, hl with | [_, _], _ => rfl)
  · obtain ⟨a, ns, b, xs, rfl, _⟩ := h
    rfl
  · obtain ⟨a, ns, b, xs, rfl, ha, hb, ht, hx, hn, k⟩ := h
    refine ⟨_, pss_cons (ps_if (PW.pt (pw_or (pt_cmpR op_gt (pe_callB call_len (by rfl) Z.b_len PySem.boot_len (pa_cons (pv 1) pa_nil)) (pe_callB call_len (by rfl) Z.b_len PySem.boot_len (pa_cons (pv 0) pa_nil)) (nomark _))
        (pw_or1 (pt_not (pt_val (pe_callB (cr_all rfl) (by rfl) Z.b_all boot_all (pa_cons (pe_lc (own := [("value", 2)]) (g := gName 2) (by rfl) sc_are_unlike.nd (pi_seq (pv 1)) (blkOk_by (own := [("value", 2)]) (N := ["names", "values", "value"]) (sc := defScope s_are_unlike) (by decide +kernel))
          (fun _ _ _ _ _ => pg_name (i := 2) sc_are_unlike.nd rfl (Or.inl rfl)) (fun _ _ _ _ _ => pts_nil) (fun _ _ _ _ _ => pe_cal C1 hr (by rfl) pass0 (pa_cons (pv 0) (pa_cons (pv 2) pa_nil)))) pa_nil))))))) (pss_one (ps_ret pe_bl)) pss_nil)
      (pss_one (ps_ret (pe_cmpR op_eq (pe_callB call_lenN (by rfl) Z.b_len PySem.boot_len (pa_cons (pe_callTy (call_setK rfl) (by rfl) Z.b_set PyProof.Rows.boot_set (pa_cons (pv 1) pa_nil)) pa_nil)) (pe_callB call_len (by rfl) Z.b_len PySem.boot_len (pa_cons (pv 1) pa_nil)) (nomark _)))), ?_⟩
    refine ⟨_, rfl, _, xs.length, rfl, lenV_sq hb, _, rfl, _, (ns.map V.str).length, rfl, lenV_sq ha, _, _, rfl, rfl, _, rfl, ?_⟩
    rw [List.length_map]
    refine ifB (fun e => ?_) (fun e => ?_)
    · have z : unlike ns xs = false := by
        unfold unlike
        rw [e]
        rfl
      rw [z] at k
      exact k H (Same.refl H)
    · refine ⟨_, rfl, b, rfl, ?_⟩
      refine lc_seq (K := K) hb (fun i => (xs.take i).map fun x => V.bl (isOne ns x)) rfl (fun D nD i x H2 hi p => ?_) fun D H2 nD s2 at2 => ?_
      · obtain ⟨T, t⟩ := ht x (List.mem_of_getElem? hi)
        refine ⟨rfl, _, rfl, _, rfl, a, ns, x, T, rfl, ha.same p.same, t.same p.same, ?_⟩
        refine p.put nD (map_one _ hi) (line_of (m := 60) ?_ (by decide))
        rw [List.length_map]
        exact Nat.le_trans (List.length_take_le' _ _) hx
      · refine ⟨D, xs.map (isOne ns), rfl, SqL.of (by rw [at2, List.take_length, List.map_map]; rfl), _, rfl, ?_⟩
        have e1 : (xs.map (isOne ns)).all id = xs.all (isOne ns) := by simp [List.all_map]
        rw [e1]
        refine ifB (fun e2 => ?_) (fun e2 => ?_)
        · have z : unlike ns xs = false := by
            unfold unlike
            rw [Bool.not_eq_true'] at e2
            rw [e2, Bool.false_and, Bool.and_false]
          rw [z] at k
          exact k H2 s2
        · rw [Bool.not_eq_false'] at e2
          have back := strs_back e2
          have hb2 : Sq K H2 b (((xs.filterMap strOf).map Sum.inr).map kV) := by
            rw [List.map_map]
            show Sq K H2 b ((xs.filterMap strOf).map V.str)
            rw [← back]
            exact hb.same s2
          have hl : (xs.filterMap strOf).length = xs.length := by
            have q := congrArg List.length back
            rw [List.length_map] at q
            exact q.symm
          refine ⟨_, rfl, b, (xs.filterMap strOf).map Sum.inr, rfl, hb2, by rw [List.length_map, hl]; exact hx, fun p np => ?_⟩
          have le : cnt ((xs.filterMap strOf).map (Sum.inr : Str → Key)) ≤ 60 := by
            have q := cnt_le ((xs.filterMap strOf).map (Sum.inr : Str → Key))
            rw [List.length_map, hl] at q
            omega
          refine ⟨p, _, rfl, upd_same, by omega, _, rfl, _, xs.length, rfl, lenV_sq ((hb.same s2).same (Same.new np)), rfl, ?_⟩
          have z : unlike ns xs = decide (V.int ((cnt ((xs.filterMap strOf).map (Sum.inr : Str → Key)) : Nat) : Int) = V.int ((xs.length : Nat) : Int)) := by
            unfold unlike
            rw [e, e2, Bool.not_false, Bool.true_and, Bool.true_and]
            have q := cnt_nd ((xs.filterMap strOf).map (Sum.inr : Str → Key))
            rw [List.length_map, hl] at q
            have q2 : ((xs.filterMap strOf).map (Sum.inr : Str → Key)).Nodup ↔ (xs.filterMap strOf).Nodup := ⟨fun h => List.Pairwise.of_map Sum.inr (fun _ _ hne e => hne (congrArg _ e)) h, fun h => List.Pairwise.map Sum.inr (fun _ _ hne e => hne (Sum.inr.inj e)) h⟩
            have q3 : (V.int ((cnt ((xs.filterMap strOf).map (Sum.inr : Str → Key)) : Nat) : Int) = V.int ((xs.length : Nat) : Int)) ↔ (xs.filterMap strOf).Nodup := by
              rw [← q2, ← q]
              constructor
              · intro h
                injection h with h
                omega
              · intro h
                rw [h]
            by_cases d : (xs.filterMap strOf).Nodup
            · rw [decide_eq_true d, decide_eq_true (q3.mpr d)]
            · rw [decide_eq_false d, decide_eq_false fun h => d (q3.mp h)]
          rw [z] at k
          exact k _ (s2.trans (Same.new np))
end
end Rt
end
section
set_option Elab.async false
set_option linter.all false
set_option maxRecDepth 100000
set_option maxHeartbeats 4000000
/-! the draws: pool, take, one, turned -/
namespace Rt
open PySem PySem.Spec PyProof.Rows L2
/-- a pool of two numbers -/
def PoolAt (H : Hp) (p : Addr) : Prop := ∃ x y : Int, H p = some (.lst [.int x, .int y]) ∧ 0 ≤ x ∧ 0 ≤ y ∧ y < 2147483647
/-- the pool has turned, all else stands -/
structure Aft (p : Addr) (H H' : Hp) : Prop where
  pool : PoolAt H' p
  keep : ∀ b o, b ≠ p → H b = some o → H' b = some o
theorem Aft.trans {p : Addr} {H H1 H2 : Hp} (a : Aft p H H1) (b : Aft p H1 H2) : Aft p H H2 := ⟨b.pool, fun c o n h => b.keep c o n (a.keep c o n h)⟩
theorem Aft.refl {p : Addr} {H : Hp} (h : PoolAt H p) : Aft p H H := ⟨h, fun _ _ _ h => h⟩
theorem Aft.new {p q : Addr} {H H' : Hp} {o : HO} (a : Aft p H H') (n : H' q = none) : Aft p H (upd H' q o) := by
  obtain ⟨x, y, h, r⟩ := a.pool
  refine ⟨⟨x, y, Same.new n _ _ h, r⟩, fun b u nb hb => Same.new n _ _ (a.keep b u nb hb)⟩
theorem Aft.same {p : Addr} {H H1 H2 : Hp} (a : Aft p H H1) (s : Same H1 H2) : Aft p H H2 := by
  obtain ⟨x, y, h, r⟩ := a.pool
  exact ⟨⟨x, y, s _ _ h, r⟩, fun b u nb hb => s _ _ (a.keep b u nb hb)⟩
def spTake : Sp := fun vs H Q _ => ∃ (p : Addr) (n : Int), vs = [.ref p, .int n] ∧ PoolAt H p ∧ 0 < n ∧ n < 1073741824 ∧ ∀ (r : Int) H', 0 ≤ r → r < n → Aft p H H' → Q (.int r) H'
section
variable {P : Program} {w : World} {K : PySem.W.Frag} {mg : Str → Option Value} {base : Heap}
theorem cal_law_take (Z : All K mg) : Cal P w K mg base CX0 1 "_law_take" ["_law_pool_here", "_law_bound"] spTake := by
  obtain ⟨fd, F⟩ := Z.f_law_take
  refine .of ⟨fd, F, ok0 F sc_law_take (fun vs H Q E h => ?_) (fun cdv A outer s H vs Q E hr h => ?_)⟩ Z.g_law_take (fun _ _ _ _ _ _ us hl => match us, hl with | [_, _], _ => rfl)
  · obtain ⟨p, n, rfl, _⟩ := h
    rfl
  · obtain ⟨p, n, rfl, ⟨x, y, hp, x0, y0, y1⟩, n0, n1, k⟩ := h
    refine ⟨_, (pss_cons (ps_if (pt_cmpR op_gt (pe_ix ix_list (pv 0) pe_int (fun _ _ => rfl)) pe_int (nomark _)) (pss_cons (ps_set (i := 2) sc_law_take.nd rfl (Or.inl rfl) (pe_op op_mod (pe_callTy call_int1 (by rfl) Z.b_int PyProof.Rows.boot_int (pa_cons (pe_ix ix_list (pv 0) pe_int (fun _ _ => rfl)) pa_nil)) (pv 1)))
      (pss_cons (ps_asg (pe_op op_fdiv (pe_ix ix_list (pv 0) pe_int (fun _ _ => rfl)) (pv 1)) (pg_sub (pv 0) pe_int L2.set_list))
      (pss_one (ps_ret (pv 2))))) pss_nil)
      (pss_cons (ps_asg (pe_op op_mod (pe_callTy call_int1 (by rfl) Z.b_int PyProof.Rows.boot_int (pa_cons (pe_op op_add (pe_op op_mul (pe_ix ix_list (pv 0) pe_int (fun _ _ => rfl)) pe_int) pe_int) pa_nil)) pe_int) (pg_sub (pv 0) pe_int L2.set_list))
      (pss_one (ps_ret (pe_op op_mod (pe_callTy call_int1 (by rfl) Z.b_int PyProof.Rows.boot_int (pa_cons (pe_op op_fdiv (pe_op op_mod (pe_callTy call_int1 (by rfl) Z.b_int PyProof.Rows.boot_int (pa_cons (pe_op op_mul (pe_ix ix_list (pv 0) pe_int (fun _ _ => rfl)) (pe_ix ix_list (pv 0) pe_int (fun _ _ => rfl))) pa_nil)) pe_int) pe_int) pa_nil)) (pv 1)))))), ?_⟩
    refine ⟨_, rfl, p, _, _, _, rfl, rfl, SqL.of hp, rfl, _, _, rfl, rfl, _, rfl, ?_⟩
    refine ifB (fun e => ?_) (fun e => ?_)
    · refine ⟨_, rfl, p, _, _, _, rfl, rfl, SqL.of hp, rfl, .inl ⟨_, rfl, _, rfl, _, _, rfl, rfl, n0, ?_⟩⟩
      refine ⟨_, rfl, p, _, _, _, rfl, rfl, SqL.of hp, rfl, _, rfl, _, _, rfl, rfl, ⟨n0, n1⟩, _, rfl, p, _, _, 0, rfl, rfl, hp, rfl, _, rfl, ?_⟩
      refine k _ _ (Int.emod_nonneg _ (by omega)) (Int.emod_lt_of_pos _ n0) ⟨⟨x / n, y, upd_same, Int.ediv_nonneg x0 (by omega), y0, y1⟩, fun b o nb hb => ?_⟩
      rw [upd_ne nb]
      exact hb
    · refine ⟨_, rfl, p, _, _, _, rfl, rfl, SqL.of hp, rfl, _, _, rfl, rfl, .inl ⟨by omega, by omega⟩, _, _, rfl, rfl, .inl ⟨_, rfl, _, _, rfl, rfl, (by show (0 : Int) < 2147483647; decide), ?_⟩⟩
      refine ⟨_, rfl, p, _, _, 1, rfl, rfl, hp, rfl, ?_⟩
      have z0 : 0 ≤ (y * 39373 + 7) % 2147483647 := Int.emod_nonneg _ (by decide)
      have z1 : (y * 39373 + 7) % 2147483647 < 2147483647 := Int.emod_lt_of_pos _ (by decide)
      have hp2 : (upd H p (.lst ([V.int x, V.int y].set 1 (.int ((y * 39373 + 7) % 2147483647))))) p = some (.lst [.int x, .int ((y * 39373 + 7) % 2147483647)]) := upd_same
      refine ⟨_, rfl, p, _, _, _, rfl, rfl, SqL.of hp2, rfl, _, rfl, p, _, _, _, rfl, rfl, SqL.of hp2, rfl, _, _, rfl, rfl, .inl ⟨by omega, by omega⟩, .inl ⟨_, rfl, _, _, rfl, rfl, (by show (0 : Int) < 2147483629; decide), ?_⟩⟩
      refine ⟨_, _, rfl, rfl, ⟨by decide, by decide⟩, .inl ⟨_, rfl, _, rfl, _, _, rfl, rfl, n0, ?_⟩⟩
      refine k _ _ (Int.emod_nonneg _ (by omega)) (Int.emod_lt_of_pos _ n0) ⟨⟨x, _, hp2, x0, z0, z1⟩, fun b o nb hb => ?_⟩
      rw [upd_ne nb]
      exact hb
end
end Rt
end
section
set_option Elab.async false
set_option linter.all false
set_option maxRecDepth 100000
set_option maxHeartbeats 4000000
namespace Rt
open PySem PySem.Spec PyProof.Rows L2
theorem Aft.sqL {K : PySem.W.Frag} {p b : Addr} {H H' : Hp} {xs : List V} (a : Aft p H H') (h : SqL K H b xs) (n : b ≠ p) : SqL K H' b xs := by
  rcases h with (h | ⟨o, h⟩) | h
  · exact .inl (.inl (a.keep _ _ n h))
  · exact .inl (.inr ⟨o, a.keep _ _ n h⟩)
  · exact .inr h
theorem Aft.sqT {K : PySem.W.Frag} {p b : Addr} {H H' : Hp} {xs : List V} (a : Aft p H H') (h : SqT K H b xs) (n : b ≠ p) : SqT K H' b xs := by
  rcases h with (h | ⟨o, h⟩) | h
  · exact .inl (.inl (a.keep _ _ n h))
  · exact .inl (.inr ⟨o, a.keep _ _ n h⟩)
  · exact .inr h
theorem PoolAt.same {p : Addr} {H H' : Hp} (h : PoolAt H p) (s : Same H H') : PoolAt H' p := let ⟨x, y, e, r⟩ := h; ⟨x, y, s _ _ e, r⟩
theorem PoolAt.ne {p q : Addr} {H : Hp} (h : PoolAt H p) (n : H q = none) : q ≠ p := fun e => by
  obtain ⟨x, y, hp, _⟩ := h
  rw [e, hp] at n
  cases n
theorem atI_of {xs : List V} {r : Int} (h0 : 0 ≤ r) (h1 : r < xs.length) : ∃ i x, xs[i]? = some x ∧ atI xs r = some x ∧ r = (i : Nat) := by
  have l : r.toNat < xs.length := by omega
  have e : r = (r.toNat : Int) := by omega
  exact ⟨r.toNat, xs[r.toNat], List.getElem?_eq_getElem l, at_of e (List.getElem?_eq_getElem l), e⟩
def spPool (K : PySem.W.Frag) : Sp := fun vs H Q _ => ∃ (a : Addr) (ns : List Int) (k : Int), vs = [.ref a, .int k] ∧ SqL K H a (ns.map V.int) ∧ 0 ≤ k ∧ k ≤ 100 ∧ ∀ p H', H p = none → Same H H' → PoolAt H' p → Q (.ref p) H'
def spLone (K : PySem.W.Frag) : Sp := fun vs H Q _ => ∃ (p b : Addr) (xs : List V), vs = [.ref p, .ref b] ∧ PoolAt H p ∧ SqL K H b xs ∧ b ≠ p ∧ 0 < xs.length ∧ xs.length ≤ 1000 ∧ ∀ x H', x ∈ xs → Aft p H H' → Q x H'
def spTurned (K : PySem.W.Frag) : Sp := fun vs H Q _ => ∃ (p b : Addr) (zs : List Str), vs = [.ref p, .ref b] ∧ PoolAt H p ∧ SqL K H b (zs.map V.str) ∧ (∀ z ∈ zs, PyData.strOk z = true) ∧ b ≠ p ∧ zs.length ≤ 1000 ∧ ∀ (q : Addr) (ys : List Str) (H' : Hp), H q = none → Aft p H H' → H' q = some (.lst (ys.map V.str)) → ys.Perm zs → Q (.ref q) H'
section
variable {P : Program} {w : World} {K : PySem.W.Frag} {mg : Str → Option Value} {base : Heap}
theorem cal_law_one (Z : All K mg) : Cal P w K mg base CX0 2 "_law_one" ["_law_pool_here", "_law_things"] (spLone K) := by
  obtain ⟨fd, F⟩ := Z.f_law_one
  have C_law_take : Cal P w K mg base CX0 1 "_law_take" ["_law_pool_here", "_law_bound"] spTake := cal_law_take Z
  refine .of ⟨fd, F, ok0 F sc_law_one (fun vs H Q E h => ?_) (fun cdv A outer s H vs Q E hr h => ?_)⟩ Z.g_law_one (fun _ _ _ _ _ _ us hl => match us, hl with | [_, _], _ => rfl)
  · obtain ⟨p, b, xs, rfl, _⟩ := h
    rfl
  · obtain ⟨p, b, xs, rfl, hp, hb, nb, x0, x1, k⟩ := h
    refine ⟨_, (pss_one (ps_ret (pe_ix ix_list (pv 1) (pe_cal C_law_take (hr.mono (by decide)) (by rfl) pass0 (pa_cons (pv 0) (pa_cons (pe_callB call_len (by rfl) Z.b_len PySem.boot_len (pa_cons (pv 1) pa_nil)) pa_nil))) (fun _ _ => rfl)))), ?_⟩
    refine ⟨_, rfl, _, rfl, _, rfl, _, xs.length, rfl, .inl ⟨xs, hb, rfl⟩, p, _, rfl, hp, by omega, by omega, fun r H' r0 r1 a => ?_⟩
    obtain ⟨i, x, hx, e, _⟩ := atI_of r0 r1
    exact ⟨b, xs, r, x, rfl, rfl, a.sqL hb nb, e, k x H' (List.mem_of_getElem? hx) a⟩
theorem cal_law_pool (Z : All K mg) : Cal P w K mg base CX0 1 "_law_pool" ["_law_script", "_law_k"] (spPool K) := by
  obtain ⟨fd, F⟩ := Z.f_law_pool
  refine .of ⟨fd, F, ok0 F sc_law_pool (fun vs H Q E h => ?_) (fun cdv A outer s H vs Q E hr h => ?_)⟩ Z.g_law_pool (fun _ _ _ _ _ _ us hl => match us, hl with | [_, _], _ => rfl)
  · obtain ⟨a, ns, k, rfl, _⟩ := h
    rfl
  · obtain ⟨a, ns, i, rfl, ha, i0, i1, k⟩ := h
    refine ⟨_, (pss_cons (ps_set (i := 2) sc_law_pool.nd rfl (Or.inl rfl) pe_int)
      (pss_cons (ps_if (pt_cmpR op_lt (pv 1) (pe_callB call_len (by rfl) Z.b_len PySem.boot_len (pa_cons (pv 0) pa_nil)) (nomark _)) (pss_one (ps_set (i := 2) sc_law_pool.nd rfl (Or.inl rfl) (pe_ix ix_list (pv 0) (pv 1) (fun _ _ => rfl)))) pss_nil)
      (pss_cons (ps_set (i := 3) sc_law_pool.nd rfl (Or.inl rfl) (pe_callB (call_max2 rfl) (by rfl) Z.b_max PyProof.Rows.boot_max (pa_cons (pe_callTy call_int1 (by rfl) Z.b_int PyProof.Rows.boot_int (pa_cons (pv 2) pa_nil)) (pa_cons (pe_callTy call_int1 (by rfl) Z.b_int PyProof.Rows.boot_int (pa_cons (pe_op op_sub (pe_un un_neg pe_int) (pv 2)) pa_nil)) pa_nil))))
      (pss_cons (ps_set (i := 4) sc_law_pool.nd rfl (Or.inl rfl) (pe_op op_mod (pe_callTy call_int1 (by rfl) Z.b_int PyProof.Rows.boot_int (pa_cons (pe_op op_mul (pe_op op_add (pe_op op_add (pe_op op_add (pe_op op_mod (pe_callTy call_int1 (by rfl) Z.b_int PyProof.Rows.boot_int (pa_cons (pv 3) pa_nil)) pe_int) (pe_op op_mul (pe_op op_mul pe_int (pv 1)) (pv 1))) (pe_op op_mul pe_int (pv 1))) pe_int) pe_int) pa_nil)) pe_int))
      (pss_one (ps_ret (pe_lst (pa_cons (pe_op op_mul (pv 3) (pe_callTy call_int1 (by rfl) Z.b_int PyProof.Rows.boot_int (pa_cons (pe_cmpR op_ge (pv 3) (pe_op op_pow pe_int pe_int) (nomark _)) pa_nil))) (pa_cons (pv 4) pa_nil))))))))), ?_⟩
    have two64 : (2 : Int) ^ 64 = 18446744073709551616 := by decide
    have fin : ∀ (c : Int) (p : Addr), H p = none → ∀ z : Int, 0 ≤ z → z < 2147483647 → ∀ g : Bool, PoolAt (upd H p (.lst [.int ((if -1 - c > c then -1 - c else c) * (if g then 1 else 0)), .int z])) p := fun c p np z z0 z1 g => by
      refine ⟨_, _, upd_same, ?_, z0, z1⟩
      refine Int.mul_nonneg ?_ ?_
      · split <;> omega
      · split <;> decide
    have b2 : ∀ g : Bool, (-(2 ^ 64) : Int) < (if g = true then 1 else 0) ∧ (if g = true then (1 : Int) else 0) < 2 ^ 64 := fun g => by cases g <;> decide
    have md : ∀ x : Int, 0 ≤ x % 2147483647 ∧ x % 2147483647 < 2147483647 := fun x => ⟨Int.emod_nonneg _ (by decide), Int.emod_lt_of_pos _ (by decide)⟩
    refine ⟨_, rfl, _, rfl, _, (ns.map V.int).length, rfl, .inl ⟨_, ha, rfl⟩, _, _, rfl, rfl, _, rfl, ?_⟩
    refine ifB (fun e => ?_) (fun e => ?_)
    · have lt : i < ((ns.map V.int).length : Int) := of_decide_eq_true e
      obtain ⟨j, x, hx, at_, _⟩ := atI_of i0 lt
      obtain ⟨c, rfl⟩ : ∃ c, x = .int c := by
        obtain ⟨c, _, rfl⟩ := List.mem_map.mp (List.mem_of_getElem? hx)
        exact ⟨c, rfl⟩
      refine ⟨_, rfl, _, rfl, a, _, _, _, rfl, rfl, ha, at_, ?_⟩
      refine ⟨_, rfl, .inl ⟨_, rfl, _, rfl, _, rfl, _, _, rfl, rfl, .inl ⟨_, rfl, _, _, rfl, ?_⟩⟩⟩
      refine ⟨_, rfl, .inl ⟨_, rfl, _, _, rfl, rfl, (by show (0 : Int) < 2147483629; decide), _, rfl, _, _, rfl, rfl, .inl ⟨by decide, by decide⟩, _, rfl, _, _, rfl, rfl, .inr ⟨by rw [two64]; omega, by rw [two64]; omega⟩, _, _, rfl, rfl, ?_⟩⟩
      refine ⟨_, rfl, _, _, rfl, rfl, .inl ⟨by decide, by decide⟩, _, _, rfl, rfl, _, _, rfl, rfl, _, _, rfl, rfl, .inr ⟨by decide, by decide⟩, .inl ⟨_, rfl, _, _, rfl, rfl, (by show (0 : Int) < 2147483647; decide), ?_⟩⟩
      refine ⟨_, rfl, _, rfl, _, _, rfl, rfl, ⟨by decide, by decide, by decide⟩, _, _, rfl, rfl, .inr ⟨_, rfl, _, _, rfl, rfl, .inr (b2 _), _, rfl, (by show 2 ≤ sizeLine; decide), fun p np => ?_⟩⟩
      exact k p _ np (Same.new np) (fin c p np _ (md _).1 (md _).2 _)
    · refine ⟨_, rfl, .inl ⟨_, rfl, _, rfl, _, rfl, _, _, rfl, rfl, .inl ⟨_, rfl, _, _, rfl, ?_⟩⟩⟩
      refine ⟨_, rfl, .inl ⟨_, rfl, _, _, rfl, rfl, (by show (0 : Int) < 2147483629; decide), _, rfl, _, _, rfl, rfl, .inl ⟨by decide, by decide⟩, _, rfl, _, _, rfl, rfl, .inr ⟨by rw [two64]; omega, by rw [two64]; omega⟩, _, _, rfl, rfl, ?_⟩⟩
      refine ⟨_, rfl, _, _, rfl, rfl, .inl ⟨by decide, by decide⟩, _, _, rfl, rfl, _, _, rfl, rfl, _, _, rfl, rfl, .inr ⟨by decide, by decide⟩, .inl ⟨_, rfl, _, _, rfl, rfl, (by show (0 : Int) < 2147483647; decide), ?_⟩⟩
      refine ⟨_, rfl, _, rfl, _, _, rfl, rfl, ⟨by decide, by decide, by decide⟩, _, _, rfl, rfl, .inr ⟨_, rfl, _, _, rfl, rfl, .inr (b2 _), _, rfl, (by show 2 ≤ sizeLine; decide), fun p np => ?_⟩⟩
      exact k p _ np (Same.new np) (fin 0 p np _ (md _).1 (md _).2 _)

theorem six_of {r : Int} {n : Nat} (h0 : 0 ≤ r) (h1 : r < n) : seqIndex? r n = some r.toNat := by
  have h2 : ¬ r < 0 := by omega
  unfold seqIndex?
  simp [h2, h0, h1]
theorem erase_map {α β : Type} (f : α → β) : ∀ (l : List α) (i : Nat), (l.map f).eraseIdx i = (l.eraseIdx i).map f
  | [], _ => rfl
  | _ :: _, 0 => rfl
  | x :: l, i + 1 => congrArg (f x :: ·) (erase_map f l i)
theorem eqv_nil (zs : List Str) : PyData.eqv (.list (zs.map PyData.str)) (.list []) = zs.isEmpty := by
  cases zs with
  | nil => simp [PyData.eqv, PyData.eqvAll]
  | cons z zs => simp [PyData.eqv, PyData.eqvAll]
def Oks (zs : List Str) : Prop := ∀ z ∈ zs, PyData.strOk z = true
theorem lay_strs : ∀ {zs : List Str}, Oks zs → PyData.canLayAll0 (zs.map PyData.str) = true ∧ PyData.depthAll (zs.map PyData.str) ≤ 1
  | [], _ => ⟨by simp [PyData.canLayAll0], by simp [PyData.depthAll]⟩
  | z :: zs, h => by
    obtain ⟨h1, h2⟩ := lay_strs (zs := zs) fun y hy => h y (List.mem_cons_of_mem _ hy)
    have h3 := h z List.mem_cons_self
    refine ⟨by simp [PyData.canLayAll0, PyData.canLay0, h3, h1], ?_⟩
    simp only [List.map_cons, PyData.depthAll, PyData.depth]
    omega
theorem shaped_strs {zs : List Str} (h : Oks zs) : SeqAt.shaped (.list (zs.map PyData.str)) = true := by
  obtain ⟨h1, h2⟩ := lay_strs h
  show (PyData.canLay0 (.list (zs.map PyData.str)) && decide (PyData.depth (.list (zs.map PyData.str)) ≤ 64)) = true
  rw [Bool.and_eq_true]
  exact ⟨by simp only [PyData.canLay0]; exact h1, decide_eq_true (by simp only [PyData.depth]; omega)⟩
theorem dpAll_strs {K : PySem.W.Frag} {H : Hp} : ∀ zs : List Str, DpAll K H (zs.map V.str) (zs.map PyData.str)
  | [] => .nil
  | z :: zs => .cons (.str z) (dpAll_strs zs)
theorem dp_strs {K : PySem.W.Frag} {H : Hp} {a : Addr} {zs : List Str} (h : SqL K H a (zs.map V.str)) : Dp K H (.ref a) (.list (zs.map PyData.str)) := .lst h (dpAll_strs zs)

theorem cal_law_turned (Z : All K mg) : Cal P w K mg base CX0 2 "_law_turned" ["_law_pool_here", "_law_things"] (spTurned K) := by
  obtain ⟨fd, F⟩ := Z.f_law_turned
  have C_law_take : Cal P w K mg base CX0 1 "_law_take" ["_law_pool_here", "_law_bound"] spTake := cal_law_take Z
  refine .of ⟨fd, F, ok0 F sc_law_turned (fun vs H Q E h => ?_) (fun cdv A outer s H vs Q E hr h => ?_)⟩ Z.g_law_turned (fun _ _ _ _ _ _ us hl => match us, hl with | [_, _], _ => rfl)
  · obtain ⟨p, b, zs, rfl, _⟩ := h
    rfl
  · obtain ⟨p, b, zs, rfl, hp, hb, oks, nb, x1, k⟩ := h
    refine ⟨_, (pss_cons (ps_par (i := 2) (j := 3) (by rfl) sc_law_turned.nd rfl rfl (by decide) rfl rfl (pa_cons (pe_callTy call_list_of (by rfl) Z.b_list PyProof.Rows.boot_list (pa_cons (pv 1) pa_nil)) (pa_cons (pe_lst pa_nil) pa_nil)) (by rfl))
      (pss_cons (ps_while PassesOwn.never (pt_cmpR (op_neD hr.units) (pv 2) (pe_lst pa_nil) (nomark _)) (pss_one (ps_expr (pe_bm PySem.F.plainAttrs_list PySem.F.slot_list_append PySem.F.type_list_append mt_append (pv 3) (pa_cons (pe_bm PySem.F.plainAttrs_list PySem.F.slot_list_pop PySem.F.type_list_pop mt_popAt (pv 2) (pa_cons (pe_cal C_law_take (hr.mono (by decide)) (by rfl) pass0 (pa_cons (pv 0) (pa_cons (pe_callB call_len (by rfl) Z.b_len PySem.boot_len (pa_cons (pv 2) pa_nil)) pa_nil))) pa_nil)) pa_nil)))))
      (pss_one (ps_ret (pv 3))))), ?_⟩
    refine ⟨_, rfl, b, _, rfl, .inl hb, fun l nl => ?_⟩
    refine ⟨(by show 0 ≤ sizeLine; decide), fun f nf => ⟨_, _, rfl, ?_⟩⟩
    have s1 : Same H (upd H l (.lst (zs.map V.str))) := Same.new nl
    have nf0 : H f = none := s1.free nf
    have nlf : l ≠ f := fun e => by
      rw [e] at nf
      rw [upd_same] at nf
      cases nf
    have npl : l ≠ p := hp.ne nl
    have npf : f ≠ p := hp.ne nf0
    refine while_by (fun σ H2 => ∃ us ws, σ = [some (.ref p), some (.ref b), some (.ref l), some (.ref f)] ∧ Aft p H H2 ∧ H2 l = some (.lst (us.map V.str)) ∧ H2 f = some (.lst (ws.map V.str)) ∧ (ws ++ us).Perm zs)
      (fun σ H2 => match H2 l with | some (.lst xs) => xs.length | _ => 0) ⟨zs, [], rfl, ⟨(hp.same s1).same (Same.new nf), fun b o _ hb => Same.new nf _ _ (s1 _ _ hb)⟩, by rw [upd_ne nlf]; exact upd_same, upd_same, by simp⟩ ?_ ?_
    · rintro σ H2 ⟨us, ws, rfl, af, hl, hf, pm⟩
      have okU : Oks us := fun z hz => oks z (pm.mem_iff.mp (List.mem_append_right _ hz))
      have len : ws.length + us.length = zs.length := by
        have q := pm.length_eq
        rw [List.length_append] at q
        exact q
      refine ⟨_, rfl, (by show 0 ≤ sizeLine; decide), fun e ne => ⟨.list (us.map PyData.str), .list [], dp_strs (SqL.of (Same.new ne _ _ hl)), .lst (SqL.of upd_same) .nil, shaped_strs okU, by decide +kernel, _, rfl, ?_⟩⟩
      rw [eqv_nil]
      have af2 := af.new (o := .lst []) ne
      have hl2 : (upd H2 e (.lst [])) l = some (.lst (us.map V.str)) := Same.new ne _ _ hl
      have hf2 : (upd H2 e (.lst [])) f = some (.lst (ws.map V.str)) := Same.new ne _ _ hf
      cases us with
      | nil =>
        exact ⟨_, rfl, k f ws _ nf0 af2 hf2 (by rw [List.append_nil] at pm; exact pm)⟩
      | cons u us =>
        refine ⟨_, rfl, .inl ⟨rfl, _, SqL.of hf2⟩, _, rfl, .inl ⟨rfl, _, SqL.of hl2⟩, _, rfl, _, rfl, _, _, rfl, .inl ⟨_, SqL.of hl2, rfl⟩, ?_⟩
        refine ⟨p, _, rfl, af2.pool, by simp only [List.length_map, List.length_cons]; omega, by simp only [List.length_map, List.length_cons] at len ⊢; omega, fun r H3 r0 r1 af3 => ?_⟩
        have hl3 := af3.keep _ _ npl hl2
        have hf3 := af3.keep _ _ npf hf2
        obtain ⟨i, x, hx, _, er⟩ := atI_of (xs := (u :: us).map V.str) r0 r1
        have il : i < (u :: us).length := by
          have q := (List.getElem?_eq_some_iff.mp hx).1
          rw [List.length_map] at q
          exact q
        obtain ⟨z, rfl, hz⟩ : ∃ z, x = .str z ∧ (u :: us)[i]? = some z := by
          rw [List.getElem?_map] at hx
          cases q : (u :: us)[i]? with
          | none => rw [q] at hx; cases hx
          | some z =>
            rw [q] at hx
            exact ⟨z, (Option.some.inj hx).symm, rfl⟩
        have big : ((u :: us).length : Int) < 2 ^ 63 := by
          simp only [List.length_cons] at len ⊢
          omega
        have six : seqIndex? r ((u :: us).map V.str).length = some i := by
          rw [six_of r0 r1, er]
          rfl
        refine ⟨l, _, r, i, .str z, rfl, rfl, hl3, by omega, by rw [List.length_map] at r1; omega, six, hx, f, _, _, rfl, rfl, by rw [upd_ne (Ne.symm nlf)]; exact hf3, ?_, ?_⟩
        · rw [List.length_map]
          exact line_of (m := 1000) (by omega) (by decide)
        · have er2 : ((u :: us).map V.str).eraseIdx i = ((u :: us).eraseIdx i).map V.str := erase_map _ _ _
          have hl4 : (upd (upd H3 l (.lst (((u :: us).map V.str).eraseIdx i))) f (.lst (ws.map V.str ++ [.str z]))) l = some (.lst (((u :: us).eraseIdx i).map V.str)) := by
            rw [upd_ne nlf, upd_same, er2]
          refine ⟨⟨(u :: us).eraseIdx i, ws ++ [z], rfl, ?_, hl4, by rw [upd_same]; simp, ?_⟩, ?_⟩
          · have af4 := af2.trans af3
            obtain ⟨x', y', hp', r'⟩ := af4.pool
            refine ⟨⟨x', y', by rw [upd_ne (Ne.symm npf), upd_ne (Ne.symm npl)]; exact hp', r'⟩, fun c o nc hc => ?_⟩
            rw [upd_ne (ne_of_none hc nf0), upd_ne (ne_of_none hc nl)]
            exact af4.keep c o nc hc
          · have pe : (z :: (u :: us).eraseIdx i).Perm (u :: us) := L2.erase_perm _ _ _ hz
            have q : (ws ++ [z] ++ (u :: us).eraseIdx i).Perm (ws ++ (u :: us)) := by
              rw [List.append_assoc]
              exact List.Perm.append_left ws pe
            exact q.trans pm
          · show (match (upd (upd H3 l _) f _) l with | some (HO.lst xs) => xs.length | x => 0) < (match H2 l with | some (HO.lst xs) => xs.length | x => 0)
            rw [hl4, hl]
            show (((u :: us).eraseIdx i).map V.str).length < ((u :: us).map V.str).length
            rw [List.length_map, List.length_map, List.length_eraseIdx_of_lt il]
            omega
    · intro σ H2 Q1 Q2 hq hc
      obtain ⟨v, e1, z, hc⟩ := hc
      refine ⟨v, e1, z, fun e ne => ?_⟩
      obtain ⟨d1, d2, a1, a2, a3, a4, kk, e2, q⟩ := hc e ne
      exact ⟨d1, d2, a1, a2, a3, a4, kk, e2, hq _ _ q⟩
end
end Rt
end
section
set_option Elab.async false
set_option linter.all false
set_option maxRecDepth 100000
set_option maxHeartbeats 8000000
namespace Rt
open PySem PySem.Spec PyProof.Rows L2
/-! ### tuples stay -/
def Tk (H H' : Hp) : Prop := ∀ b xs, H b = some (.tup xs) → H' b = some (.tup xs)
theorem Tk.refl (H : Hp) : Tk H H := fun _ _ h => h
theorem Tk.trans {H H1 H2 : Hp} (a : Tk H H1) (b : Tk H1 H2) : Tk H H2 := fun c xs h => b c xs (a c xs h)
theorem Tk.of {H H' : Hp} (s : Same H H') : Tk H H' := fun b xs h => s b _ h
theorem Tk.new {H : Hp} {q : Addr} {o : HO} (n : H q = none) : Tk H (upd H q o) := .of (Same.new n)
theorem Tk.lst {H : Hp} {q : Addr} {xs : List V} {o : HO} (h : H q = some (.lst xs)) : Tk H (upd H q o) := fun b ys hb => by
  rw [upd_ne (ne_of hb h (by intro z; cases z))]
  exact hb
theorem Aft.tk {p : Addr} {H H' : Hp} (a : Aft p H H') (h : PoolAt H p) : Tk H H' := fun b xs hb => by
  obtain ⟨x, y, hp, _⟩ := h
  exact a.keep b _ (ne_of hb hp (by intro z; cases z)) hb
theorem Aft.free {p b : Addr} {H H' : Hp} (a : Aft p H H') (h : H' b = none) : b = p ∨ H b = none := by
  by_cases e : b = p
  · exact .inl e
  · refine .inr ?_
    cases q : H b with
    | none => rfl
    | some o =>
      rw [a.keep b o e q] at h
      cases h
theorem Aft.free' {p b : Addr} {H H' : Hp} (a : Aft p H H') (h : H' b = none) : H b = none := by
  rcases a.free h with e | e
  · obtain ⟨x, y, q, _⟩ := a.pool
    rw [e, q] at h
    cases h
  · exact e
theorem Aft.put {p q : Addr} {H H' : Hp} {o : HO} (a : Aft p H H') (f : H q = none) (n : q ≠ p) : Aft p H (upd H' q o) := by
  obtain ⟨x, y, h, r⟩ := a.pool
  refine ⟨⟨x, y, by rw [upd_ne n.symm]; exact h, r⟩, fun b u nb hb => ?_⟩
  rw [upd_ne (ne_of_none hb f)]
  exact a.keep b u nb hb
/-! ### rows -/
def Rw (H : Hp) (x : V) (vs : List V) : Prop := ∃ p, x = .ref p ∧ H p = some (.tup vs)
abbrev Rws (H : Hp) (xs : List V) (rows : List (List V)) : Prop := Paired (Rw H) xs rows
theorem Rw.tk {H H' : Hp} {x : V} {vs : List V} (h : Rw H x vs) (k : Tk H H') : Rw H' x vs := let ⟨p, e, a⟩ := h; ⟨p, e, k p _ a⟩
theorem Rws.tk {H H' : Hp} (k : Tk H H') : ∀ {xs : List V} {rows : List (List V)}, Rws H xs rows → Rws H' xs rows
  | _, _, .nil => .nil
  | _, _, .cons r t => .cons (r.tk k) (Rws.tk k t)
theorem Rws.snoc {H : Hp} {x : V} {vs : List V} (r : Rw H x vs) : ∀ {xs : List V} {rows : List (List V)}, Rws H xs rows → Rws H (xs ++ [x]) (rows ++ [vs])
  | _, _, .nil => .cons r .nil
  | _, _, .cons q t => .cons q (Rws.snoc r t)
theorem Rws.len {H : Hp} {xs : List V} {rows : List (List V)} (h : Rws H xs rows) : xs.length = rows.length := Paired.length h
theorem Rws.get {H : Hp} : ∀ {xs : List V} {rows : List (List V)} {i : Nat} {x : V}, Rws H xs rows → xs[i]? = some x → ∃ vs, rows[i]? = some vs ∧ Rw H x vs
  | _, _, _, _, .nil, e => by simp at e
  | _, _, 0, _, .cons r _, e => by
    simp at e
    subst e
    exact ⟨_, rfl, r⟩
  | _, _, i + 1, x, .cons _ t, e => by
    obtain ⟨vs, h1, h2⟩ := Rws.get (i := i) (x := x) t (by simpa using e)
    exact ⟨vs, by simpa using h1, h2⟩
abbrev rS (r : Str × Int) : List V := [.str r.1, .int r.2]
abbrev rI2 (r : Int × Int) : List V := [.int r.1, .int r.2]
/-! ### the skills, the needs -/
def N1 : List Str := ["a", "b", "c", "d", "e", "f", "g"]
def N2 : List Str := ["z", "ab", "abcdefgh", "a", "need", "skill", "all"]
structure Skills (sk : List (Str × Int)) : Prop where
  names : ∃ N n, (N = N1 ∨ N = N2) ∧ sk.map (·.1) = N.take n
  ne : 0 < sk.length
  le : sk.length ≤ 7
  asc : (sk.map (·.2)).Pairwise (· ≤ ·)
  bd : ∀ r ∈ sk, 1 ≤ r.2 ∧ r.2 ≤ 4
structure Needs (nd : List (Int × Int)) : Prop where
  asc : (nd.map (·.1)).Pairwise (· < ·)
  bd : ∀ r ∈ nd, (2 ≤ r.1 ∧ r.1 ≤ 4) ∧ 0 ≤ r.2 ∧ r.2 ≤ 12
theorem small_in {ds : List Int} {lo hi : Int} (h : ∀ d ∈ ds, lo ≤ d ∧ d ≤ hi) {x : V} (hx : x ∈ ds.map V.int) : ∃ d, x = .int d ∧ lo ≤ d ∧ d ≤ hi := by
  obtain ⟨d, hd, rfl⟩ := List.mem_map.mp hx
  exact ⟨d, rfl, h d hd⟩
theorem strs_get {zs : List Str} {i : Nat} {y : V} (h : (zs.map V.str)[i]? = some y) : ∃ z, y = .str z ∧ zs[i]? = some z := by
  rw [List.getElem?_map] at h
  cases q : zs[i]? with
  | none => rw [q] at h; cases h
  | some z =>
    rw [q] at h
    exact ⟨z, (Option.some.inj h).symm, rfl⟩
theorem asc_snoc {α : Type} {R : α → α → Prop} {xs : List α} {x : α} (h : xs.Pairwise R) (b : ∀ y ∈ xs, R y x) : (xs ++ [x]).Pairwise R := by
  rw [List.pairwise_append]
  refine ⟨h, List.pairwise_singleton _ _, fun a ha c hc => ?_⟩
  rw [List.mem_singleton.mp hc]
  exact b a ha
theorem cut_take (xs : List V) (k : Nat) : cutV xs none (some (k : Int)) = xs.take k := by
  unfold cutV
  rw [HT.sIx_none, HT.sIx_nat, List.drop_zero, Nat.sub_zero]
  by_cases h : k ≤ xs.length
  · rw [Nat.min_eq_left h]
  · rw [Nat.min_eq_right (by omega), List.take_length, List.take_of_length_le (by omega)]
/-- the drawn tree: rows and needs in two new lists -/
def spTree : Sp := fun vs H Q _ => ∃ (p : Addr) (n : Int), vs = [.ref p, .int n] ∧ PoolAt H p ∧ 0 < n ∧ n ≤ 7 ∧
  ∀ (q a b : Addr) (xs ys : List V) (sk : List (Str × Int)) (nd : List (Int × Int)) (H' : Hp), H q = none → H a = none → H b = none → Aft p H H' → H' q = some (.lst [.ref a, .ref b]) → H' a = some (.lst xs) → Rws H' xs (sk.map rS) → Skills sk → H' b = some (.lst ys) → Rws H' ys (nd.map rI2) → Needs nd → a ≠ b → Q (.ref q) H'
section
variable {P : Program} {w : World} {K : PySem.W.Frag} {mg : Str → Option Value} {base : Heap}
theorem cal_law_tree (Z : All K mg) : Cal P w K mg base CX0 3 "_law_tree" ["_law_pool_here", "_law_top"] spTree := by
  obtain ⟨fd, F⟩ := Z.f_law_tree
  have C_law_take : Cal P w K mg base CX0 1 "_law_take" ["_law_pool_here", "_law_bound"] spTake := cal_law_take Z
  have C_law_one : Cal P w K mg base CX0 2 "_law_one" ["_law_pool_here", "_law_things"] (spLone K) := cal_law_one Z
  refine .of ⟨fd, F, ok0 F sc_law_tree (fun vs H Q E h => ?_) (fun cdv A outer s H vs Q E hr h => ?_)⟩ Z.g_law_tree (fun _ _ _ _ _ _ us hl => match us, hl with | [_, _], _ => rfl)
  · obtain ⟨p, n, rfl, _⟩ := h
    rfl
  · obtain ⟨p, n, rfl, hp, n0, n7, k⟩ := h
    refine ⟨_, (pss_cons (ps_set (i := 2) sc_law_tree.nd rfl (Or.inl rfl) (pe_cal C_law_one (hr.mono (by decide)) (by rfl) pass0 (pa_cons (pv 0) (pa_cons (pe_lst (pa_cons (pe_lst (pa_cons pe_str (pa_cons pe_str (pa_cons pe_str (pa_cons pe_str (pa_cons pe_str (pa_cons pe_str (pa_cons pe_str pa_nil)))))))) (pa_cons (pe_lst (pa_cons pe_str (pa_cons pe_str (pa_cons pe_str (pa_cons pe_str (pa_cons pe_str (pa_cons pe_str (pa_cons pe_str pa_nil)))))))) pa_nil))) pa_nil))))
      (pss_cons (ps_par (i := 3) (j := 4) (by rfl) sc_law_tree.nd rfl rfl (by decide) rfl rfl (pa_cons (pe_op op_add pe_int (pe_callTy call_int1 (by rfl) Z.b_int PyProof.Rows.boot_int (pa_cons (pe_cmpR op_eq (pe_cal C_law_take (hr.mono (by decide)) (by rfl) pass0 (pa_cons (pv 0) (pa_cons pe_int pa_nil))) pe_int (nomark _)) pa_nil))) (pa_cons (pe_lst pa_nil) pa_nil)) (by rfl))
      (pss_cons (ps_for PassesOwn.never rfl (pi_seq (pe_slice sl_list (pv 2) po_none (po_some (pe_op op_add pe_int (pe_cal C_law_take (hr.mono (by decide)) (by rfl) pass0 (pa_cons (pv 0) (pa_cons (pv 1) pa_nil))))))) (pg_name (i := 5) sc_law_tree.nd rfl (Or.inl rfl)) (pss_cons (ps_expr (pe_bm PySem.F.plainAttrs_list PySem.F.slot_list_append PySem.F.type_list_append mt_append (pv 4) (pa_cons (pe_tup (pa_cons (pv 5) (pa_cons (pv 3) pa_nil))) pa_nil)))
      (pss_one (ps_set (i := 3) sc_law_tree.nd rfl (Or.inl rfl) (pe_callB (call_min2 rfl) (by rfl) Z.b_min PyProof.Rows.boot_min (pa_cons pe_int (pa_cons (pe_op op_add (pe_callTy call_int1 (by rfl) Z.b_int PyProof.Rows.boot_int (pa_cons (pv 3) pa_nil)) (pe_cal C_law_one (hr.mono (by decide)) (by rfl) pass0 (pa_cons (pv 0) (pa_cons (pe_lst (pa_cons pe_int (pa_cons pe_int (pa_cons pe_int (pa_cons pe_int (pa_cons pe_int pa_nil)))))) pa_nil)))) pa_nil)))))))
      (pss_cons (ps_set (i := 6) sc_law_tree.nd rfl (Or.inl rfl) (pe_lst pa_nil))
      (pss_cons (ps_for PassesOwn.never rfl (pi_seq (pe_lst (pa_cons pe_int (pa_cons pe_int (pa_cons pe_int pa_nil))))) (pg_name (i := 3) sc_law_tree.nd rfl (Or.inl rfl)) (pss_one (ps_if (pt_cmpR op_gt (pe_cal C_law_take (hr.mono (by decide)) (by rfl) pass0 (pa_cons (pv 0) (pa_cons pe_int pa_nil))) pe_int (nomark _)) (pss_one (ps_expr (pe_bm PySem.F.plainAttrs_list PySem.F.slot_list_append PySem.F.type_list_append mt_append (pv 6) (pa_cons (pe_tup (pa_cons (pv 3) (pa_cons (pe_cal C_law_one (hr.mono (by decide)) (by rfl) pass0 (pa_cons (pv 0) (pa_cons (pe_lst (pa_cons pe_int (pa_cons pe_int (pa_cons pe_int (pa_cons pe_int (pa_cons pe_int (pa_cons pe_int (pa_cons pe_int pa_nil)))))))) pa_nil))) pa_nil))) pa_nil)))) pss_nil)))
      (pss_one (ps_ret (pe_lst (pa_cons (pv 4) (pa_cons (pv 6) pa_nil)))))))))), ?_⟩
    -- the names
    refine ⟨_, rfl, (by show 7 ≤ sizeLine; decide), fun l1 f1 => ⟨(by show 7 ≤ sizeLine; decide), fun l2 f2 => ⟨(by show 2 ≤ sizeLine; decide), fun l3 f3 => ?_⟩⟩⟩
    have S1 := Same.new (o := .lst (N1.map V.str)) f1
    have S2 := Same.new (o := .lst (N2.map V.str)) f2
    have S3 := Same.new (o := .lst [.ref l1, .ref l2]) f3
    have P3 : PoolAt _ p := ((hp.same S1).same S2).same S3
    have n3 : l3 ≠ p := ((hp.same S1).same S2).ne f3
    refine ⟨p, l3, [.ref l1, .ref l2], rfl, P3, SqL.of upd_same, n3, (by show 0 < 2; decide), (by show 2 ≤ 1000; decide), fun x H4 hx A4 => ?_⟩
    have A0 : Aft p H H4 := ⟨A4.pool, fun b o nb hb => A4.keep b o nb (S3 _ _ (S2 _ _ (S1 _ _ hb)))⟩
    have F4 : ∀ b, H4 b = none → H b = none := fun b hb => by
      by_cases e : b = p
      · subst e
        obtain ⟨x', y', q, _⟩ := A4.pool
        rw [q] at hb
        cases hb
      · cases q : H b with
        | none => rfl
        | some o =>
          rw [A0.keep b o e q] at hb
          cases hb
    have nl1 : l1 ≠ p := hp.ne f1
    have nl2 : l2 ≠ p := (hp.same S1).ne f2
    obtain ⟨l, N, rfl, hl, hN⟩ : ∃ l N, x = .ref l ∧ H4 l = some (.lst (N.map V.str)) ∧ (N = N1 ∨ N = N2) := by
      rcases List.mem_cons.mp hx with e | hx
      · exact ⟨l1, N1, e, A4.keep _ _ nl1 (S3 _ _ (S2 _ _ upd_same)), .inl rfl⟩
      · exact ⟨l2, N2, List.mem_singleton.mp hx, A4.keep _ _ nl2 (S3 _ _ upd_same), .inr rfl⟩
    have lp : l ≠ p := fun e => by
      rw [e] at hl
      obtain ⟨x', y', q, _⟩ := A4.pool
      rw [q] at hl
      have h2 : ([V.int x', V.int y'] : List V) = N.map V.str := by
        injection hl with hl
        injection hl
      rcases hN with e | e <;> rw [e] at h2 <;> cases h2
    have N7 : N.length = 7 := by rcases hN with e | e <;> rw [e] <;> rfl
    -- the first tier, the empty rows
    refine ⟨_, rfl, p, _, rfl, A0.pool, by decide, by decide, fun r5 H5 r50 r51 A5 => ⟨rfl, .inr ⟨_, rfl, _, _, rfl, rfl, (by show 0 ≤ sizeLine; decide), fun rw frw => ⟨_, _, rfl, ?_⟩⟩⟩⟩
    have T0 : ∃ t : Int, (1 + if decide (V.int r5 = V.int 0) = true then (1 : Int) else 0) = t ∧ 1 ≤ t ∧ t ≤ 2 := ⟨_, rfl, by split <;> omega, by split <;> omega⟩
    -- the names that are taken
    refine ⟨_, rfl, _, rfl, _, rfl, p, _, rfl, (A5.new (o := .lst []) frw).pool, by omega, by omega, fun r6 H6 r60 r61 A6 => ⟨_, _, rfl, rfl, _, rfl, ?_⟩⟩
    have A06 : Aft p H H6 := (A0.trans (A5.new (o := .lst []) frw)).trans A6
    have hl6 : H6 l = some (.lst (N.map V.str)) := A6.keep _ _ lp (Same.new frw _ _ (A5.keep _ _ lp hl))
    have rwp : rw ≠ p := A5.pool.ne frw
    have hrw6 : H6 rw = some (.lst []) := A6.keep _ _ rwp upd_same
    refine ⟨l, _, rfl, SqL.of hl6, fun sl fsl => ⟨sl, rfl, .inl ⟨⟨_, SqL.of upd_same⟩, ?_⟩⟩⟩
    have e7 : cutV (N.map V.str) none (some (1 + r6)) = (N.take (1 + r6).toNat).map V.str := by
      have z : (1 + r6) = (((1 + r6).toNat : Nat) : Int) := by omega
      rw [z, cut_take, List.map_take]
      rfl
    rw [e7]
    have m1 : 1 ≤ (1 + r6).toNat ∧ (1 + r6).toNat ≤ 7 := by omega
    generalize (1 + r6).toNat = m at m1 e7 ⊢
    have lm : (N.take m).length = m := by rw [List.length_take, N7]; omega
    have A7 : Aft p H (upd H6 sl (.lst ((N.take m).map V.str))) := A06.new fsl
    have slp : sl ≠ p := A06.pool.ne fsl
    have slrw : sl ≠ rw := (ne_of_none hrw6 fsl).symm
    have frw0 : H rw = none := (A0.trans A5).free' frw
    have fsl0 : H sl = none := A06.free' fsl
    refine for_list (K := K) (a := sl) (xs := (N.take m).map V.str) (fun i σ H2 => ∃ (t : Int) (xs : List V) (sk : List (Str × Int)) (nm : Option V), σ = [some (.ref p), some (.int n), some (.ref l), some (.int t), some (.ref rw), nm, none] ∧ Aft p H H2 ∧
        H2 sl = some (.lst ((N.take m).map V.str)) ∧ H2 rw = some (.lst xs) ∧ Rws H2 xs (sk.map rS) ∧ sk.map (·.1) = (N.take m).take i ∧ (sk.map (·.2)).Pairwise (· ≤ ·) ∧ (∀ r ∈ sk, 1 ≤ r.2 ∧ r.2 ≤ t) ∧ 1 ≤ t ∧ t ≤ 4)
      ⟨_, [], [], none, rfl, A7, upd_same, by rw [upd_ne slrw.symm]; exact hrw6, .nil, rfl, List.Pairwise.nil, fun r hr => (nomatch hr), by split <;> omega, by split <;> omega⟩ (fun i σ H2 _ ⟨_, _, _, _, _, _, q, _⟩ => SqL.of q) ?_ ?_
    · rintro i y σ H2 hi ⟨t, xs, sk, nm, rfl, a2, hsl, hrw, rows, en, asc, bd, t1, t4⟩
      obtain ⟨z, rfl, hz⟩ := strs_get hi
      have lsk : sk.length ≤ 7 := by
        have q := congrArg List.length en
        rw [List.length_map] at q
        have q2 : ((N.take m).take i).length ≤ (N.take m).length := List.length_take_le' _ _
        omega
      have lxs : xs.length ≤ 7 := by
        have q := rows.len
        rw [List.length_map] at q
        omega
      refine ⟨_, rfl, .inl ⟨rfl, _, SqL.of hrw⟩, _, rfl, _, rfl, (by show 2 ≤ sizeLine; decide), fun tp ntp => ⟨rw, xs, _, rfl, rfl, Same.new ntp _ _ hrw, line_of (m := 7) lxs (by decide), ?_⟩⟩
      have a3 : Aft p H (upd (upd H2 tp (.tup [.str z, .int t])) rw (.lst (xs ++ [.ref tp]))) := (a2.new ntp).put frw0 rwp
      have tprw : tp ≠ rw := (ne_of_none hrw ntp).symm
      have tpsl : sl ≠ tp := ne_of_none hsl ntp
      have k3 : Tk H2 (upd (upd H2 tp (.tup [.str z, .int t])) rw (.lst (xs ++ [.ref tp]))) := (Tk.new ntp).trans (Tk.lst (xs := xs) (Same.new ntp _ _ hrw))
      have rows3 : Rws (upd (upd H2 tp (.tup [.str z, .int t])) rw (.lst (xs ++ [.ref tp]))) (xs ++ [.ref tp]) ((sk ++ [(z, t)]).map rS) := by
        rw [List.map_append]
        exact Rws.snoc ⟨tp, rfl, by rw [upd_ne tprw]; exact upd_same⟩ (rows.tk k3)
      refine ⟨_, rfl, .inl ⟨_, rfl, _, rfl, (by show 5 ≤ sizeLine; decide), fun ls nls => ?_⟩⟩
      have lsp : ls ≠ p := a3.pool.ne nls
      refine ⟨p, ls, [0, 0, 1, 1, 2].map V.int, rfl, (a3.new nls).pool, SqL.of upd_same, lsp, (by show 0 < 5; decide), (by show 5 ≤ 1000; decide), fun x H4 hx a4 => ?_⟩
      obtain ⟨d, rfl, d0, d2⟩ := small_in (lo := 0) (hi := 2) (by decide) hx
      have a5 : Aft p H H4 := (a3.new nls).trans a4
      have slrw' : sl ≠ rw := slrw
      have mn : (if t + d < 4 then t + d else 4) = (if t + d < 4 then t + d else 4) := rfl
      refine ⟨_, _, rfl, rfl, _, _, rfl, _, xs ++ [.ref tp], sk ++ [(z, t)], _, rfl, a5, a4.keep _ _ slp (Same.new nls _ _ (by rw [upd_ne slrw, upd_ne tpsl]; exact hsl)), a4.keep _ _ rwp (Same.new nls _ _ upd_same), rows3.tk ((Tk.new nls).trans (a4.tk (a3.new nls).pool)), ?_, ?_, ?_, ?_, ?_⟩
      · rw [List.map_append, en]
        exact (take_one hz).symm
      · rw [List.map_append]
        refine asc_snoc asc fun y hy => ?_
        obtain ⟨r, hr, rfl⟩ := List.mem_map.mp hy
        exact (bd r hr).2
      · intro r hr
        rcases List.mem_append.mp hr with hr | hr
        · have q := bd r hr
          refine ⟨q.1, ?_⟩
          split <;> omega
        · rw [List.mem_singleton.mp hr]
          refine ⟨t1, ?_⟩
          show t ≤ _
          split <;> omega
      · split <;> omega
      · split <;> omega
    · rintro σ H2 ⟨t, xs, sk, nm, rfl, a2, hsl, hrw, rows, en, asc, bd, t1, t4⟩
      have skills : Skills sk := by
        have q := congrArg List.length en
        rw [List.length_map, List.length_take, List.length_map, lm, Nat.min_self] at q
        refine ⟨⟨N, m, hN, ?_⟩, by omega, by omega, asc, fun r hr => ⟨(bd r hr).1, by have := (bd r hr).2; omega⟩⟩
        rw [en, List.take_of_length_le (by rw [List.length_map]; exact Nat.le_refl _)]
      refine ⟨(by show 0 ≤ sizeLine; decide), fun ak nak => ?_⟩
      have a3 := a2.new (o := .lst []) nak
      have fak0 : H ak = none := a2.free' nak
      have akp : ak ≠ p := a2.pool.ne nak
      have akrw : ak ≠ rw := (ne_of_none hrw nak).symm
      refine ⟨(by show 3 ≤ sizeLine; decide), fun tl ntl => ⟨tl, rfl, .inl ⟨⟨_, SqL.of upd_same⟩, ?_⟩⟩⟩
      have tlp : tl ≠ p := a3.pool.ne ntl
      have tlak : ak ≠ tl := ne_of_none upd_same ntl
      have rw3 : (upd H2 ak (.lst [])) rw = some (.lst xs) := Same.new nak _ _ hrw
      refine for_list (K := K) (a := tl) (xs := [.int 2, .int 3, .int 4]) (fun i σ H3 => ∃ (tv : Option V) (ys : List V) (nd : List (Int × Int)), σ = [some (.ref p), some (.int n), some (.ref l), tv, some (.ref rw), nm, some (.ref ak)] ∧ Aft p H H3 ∧
          H3 tl = some (.lst [.int 2, .int 3, .int 4]) ∧ H3 rw = some (.lst xs) ∧ Rws H3 xs (sk.map rS) ∧ H3 ak = some (.lst ys) ∧ Rws H3 ys (nd.map rI2) ∧ ys.length ≤ i ∧ (nd.map (·.1)).Pairwise (· < ·) ∧ ∀ r ∈ nd, (2 ≤ r.1 ∧ r.1 < 2 + (i : Int)) ∧ 0 ≤ r.2 ∧ r.2 ≤ 12)
        ⟨_, [], [], rfl, a3.new ntl, upd_same, Same.new ntl _ _ rw3, rows.tk ((Tk.new nak).trans (Tk.new ntl)), Same.new ntl _ _ upd_same, .nil, Nat.le_refl _, List.Pairwise.nil, fun r hr => (nomatch hr)⟩ (fun i σ H3 _ ⟨_, _, _, _, _, q, _⟩ => SqL.of q) ?_ ?_
      · rintro i y σ H3 hi ⟨tv, ys, nd, rfl, a4, htl, hrw, rows, hak, rowsN, ly, ascN, bdN⟩
        have i3 : i < 3 := (List.getElem?_eq_some_iff.mp hi).1
        have ey : y = .int (2 + (i : Int)) := by
          rcases i with _ | _ | _ | i
          · exact (Option.some.inj hi).symm
          · exact (Option.some.inj hi).symm
          · exact (Option.some.inj hi).symm
          · omega
        subst ey
        refine ⟨_, rfl, p, _, rfl, a4.pool, by decide, by decide, fun r H4 r0 r1 a5 => ⟨_, _, rfl, rfl, _, rfl, ifB (fun e => ?_) (fun e => ?_)⟩⟩
        · have hak4 := a5.keep _ _ akp hak
          refine ⟨_, rfl, .inl ⟨rfl, _, SqL.of hak4⟩, _, rfl, _, rfl, (by show 7 ≤ sizeLine; decide), fun ls nls => ?_⟩
          have lsp : ls ≠ p := a5.pool.ne nls
          refine ⟨p, ls, [0, 1, 1, 2, 2, 3, 5].map V.int, rfl, (a5.new nls).pool, SqL.of upd_same, lsp, (by show 0 < 7; decide), (by show 7 ≤ 1000; decide), fun x H5 hx a6 => ?_⟩
          obtain ⟨d, rfl, d0, d2⟩ := small_in (lo := 0) (hi := 5) (by decide) hx
          have a7 : Aft p H H5 := (a4.trans (a5.new nls)).trans a6
          have hak5 := a6.keep _ _ akp (Same.new nls _ _ hak4)
          refine ⟨(by show 2 ≤ sizeLine; decide), fun tp ntp => ⟨ak, ys, _, rfl, rfl, Same.new ntp _ _ hak5, line_of (m := 7) (by omega) (by decide), ?_⟩⟩
          have k5 : Tk H3 H5 := ((a5.tk a4.pool).trans (Tk.new nls)).trans (a6.tk (a5.new nls).pool)
          have k6 : Tk H5 (upd (upd H5 tp (.tup [.int (2 + (i : Int)), .int d])) ak (.lst (ys ++ [.ref tp]))) := (Tk.new ntp).trans (Tk.lst (xs := ys) (Same.new ntp _ _ hak5))
          have tpak : tp ≠ ak := (ne_of_none hak5 ntp).symm
          have htl5 := a6.keep _ _ tlp (Same.new nls _ _ (a5.keep _ _ tlp htl))
          have hrw5 := a6.keep _ _ rwp (Same.new nls _ _ (a5.keep _ _ rwp hrw))
          refine ⟨_, ys ++ [.ref tp], nd ++ [(2 + (i : Int), d)], rfl, (a7.new ntp).put fak0 akp, ?_, ?_, rows.tk (k5.trans k6), upd_same, ?_, ?_, ?_, ?_⟩
          · rw [upd_ne tlak.symm]
            exact Same.new ntp _ _ htl5
          · rw [upd_ne akrw.symm]
            exact Same.new ntp _ _ hrw5
          · rw [List.map_append]
            exact Rws.snoc ⟨tp, rfl, by rw [upd_ne tpak]; exact upd_same⟩ (rowsN.tk (k5.trans k6))
          · rw [List.length_append]
            show ys.length + 1 ≤ i + 1
            omega
          · rw [List.map_append]
            refine asc_snoc ascN fun y hy => ?_
            obtain ⟨r, hr, rfl⟩ := List.mem_map.mp hy
            exact (bdN r hr).1.2
          · intro r hr
            rcases List.mem_append.mp hr with hr | hr
            · have q := bdN r hr
              refine ⟨⟨q.1.1, ?_⟩, q.2⟩
              have q2 := q.1.2
              omega
            · rw [List.mem_singleton.mp hr]
              refine ⟨⟨?_, ?_⟩, ?_, ?_⟩
              · show (2 : Int) ≤ 2 + (i : Int)
                omega
              · show 2 + (i : Int) < 2 + ((i + 1 : Nat) : Int)
                omega
              · exact d0
              · show d ≤ 12
                omega
        · exact ⟨_, ys, nd, rfl, a4.trans a5, a5.keep _ _ tlp htl, a5.keep _ _ rwp hrw, rows.tk (a5.tk a4.pool), a5.keep _ _ akp hak, rowsN.tk (a5.tk a4.pool), by omega, ascN, fun r hr => ⟨⟨(bdN r hr).1.1, by have := (bdN r hr).1.2; omega⟩, (bdN r hr).2⟩⟩
      · rintro σ H3 ⟨tv, ys, nd, rfl, a4, htl, hrw, rows, hak, rowsN, ly, ascN, bdN⟩
        refine ⟨_, rfl, _, rfl, (by show 2 ≤ sizeLine; decide), fun q nq => ?_⟩
        refine k q rw ak xs ys sk nd _ (a4.free' nq) frw0 fak0 (a4.new nq) upd_same (Same.new nq _ _ hrw) (rows.tk (Tk.new nq)) skills (Same.new nq _ _ hak) (rowsN.tk (Tk.new nq)) ⟨ascN, fun r hr => ⟨⟨(bdN r hr).1.1, ?_⟩, (bdN r hr).2⟩⟩ akrw.symm
        have q2 : r.1 < 2 + ((3 : Nat) : Int) := (bdN r hr).1.2
        omega
end
end Rt
end
section
set_option Elab.async false
set_option linter.all false
set_option maxRecDepth 100000
set_option maxHeartbeats 8000000
namespace Rt
open PySem PySem.Spec PyProof.Rows L2
structure Want where
  kind : Str
  skill : Str
  names : List Str
  many : Option Int
def wRest (w : Want) : List V := match w.many with
  | none => []
  | some m => [.int m]
def Ww (H : Hp) (x : V) (w : Want) : Prop := ∃ p q, x = .ref p ∧ H p = some (.tup ([.str w.kind, .str w.skill, .ref q] ++ wRest w)) ∧ H q = some (.tup (w.names.map V.str))
abbrev Wws (H : Hp) (xs : List V) (ws : List Want) : Prop := Paired (Ww H) xs ws
theorem Ww.tk {H H' : Hp} {x : V} {w : Want} (h : Ww H x w) (k : Tk H H') : Ww H' x w := let ⟨p, q, e, a, b⟩ := h; ⟨p, q, e, k p _ a, k q _ b⟩
theorem Wws.tk {H H' : Hp} (k : Tk H H') : ∀ {xs : List V} {ws : List Want}, Wws H xs ws → Wws H' xs ws
  | _, _, .nil => .nil
  | _, _, .cons r t => .cons (r.tk k) (Wws.tk k t)
theorem Wws.snoc {H : Hp} {x : V} {w : Want} (r : Ww H x w) : ∀ {xs : List V} {ws : List Want}, Wws H xs ws → Wws H (xs ++ [x]) (ws ++ [w])
  | _, _, .nil => .cons r .nil
  | _, _, .cons q t => .cons q (Wws.snoc r t)
theorem Wws.len {H : Hp} {xs : List V} {ws : List Want} (h : Wws H xs ws) : xs.length = ws.length := Paired.length h
/-- a want that is right beside the skills, of one of some kinds -/
structure WantOk (ns ks : List Str) (down : Bool) (w : Want) : Prop where
  kind : w.kind ∈ ks
  many : (w.kind = "count" ∧ ∃ m, w.many = some m ∧ 1 ≤ m ∧ m ≤ (w.names.length : Int)) ∨ (w.kind ≠ "count" ∧ w.many = none)
  ne : w.names ≠ []
  nd : w.names.Nodup
  all : ∀ z ∈ w.names, z ∈ ns
  at_ : ∃ i, ns[i]? = some w.skill ∧ (down = true → ∀ z ∈ w.names, z ∈ ns.take i)
  out : w.skill ∉ w.names
def spRowsW (K : PySem.W.Frag) : Sp := fun vs H Q _ => ∃ (p b c : Addr) (ns ks : List Str) (top : Int) (down : Bool), vs = [.ref p, .ref b, .int top, .ref c, .bl down] ∧ PoolAt H p ∧ SqL K H b (ns.map V.str) ∧ b ≠ p ∧ SqL K H c (ks.map V.str) ∧ c ≠ p ∧
  0 ≤ top ∧ top ≤ 10 ∧ Oks ns ∧ ns.Nodup ∧ 0 < ns.length ∧ ns.length ≤ 20 ∧ 0 < ks.length ∧ ks.length ≤ 20 ∧
  ∀ (q : Addr) (xs : List V) (wl : List Want) (H' : Hp), H q = none → Aft p H H' → H' q = some (.lst xs) → Wws H' xs wl → (∀ w ∈ wl, WantOk ns ks down w) → (wl.length : Int) ≤ top → Q (.ref q) H'
theorem cut_drop (xs : List V) (k : Nat) : cutV xs (some (k : Int)) none = xs.drop k := by
  unfold cutV
  rw [HT.sIx_none, HT.sIx_nat]
  by_cases h : k ≤ xs.length
  · rw [Nat.min_eq_left h, List.take_of_length_le (by rw [List.length_drop]; exact Nat.le_refl _)]
  · rw [Nat.min_eq_right (by omega), List.drop_of_length_le (Nat.le_refl _), List.drop_of_length_le (by omega), List.take_nil]
section
variable {P : Program} {w : World} {K : PySem.W.Frag} {mg : Str → Option Value} {base : Heap}
theorem cal_law_rows (Z : All K mg) : Cal P w K mg base CX0 3 "_law_rows" ["_law_pool_here", "_law_names_here", "_law_top", "_law_words", "_law_is_down"] (spRowsW K) := by
  obtain ⟨fd, F⟩ := Z.f_law_rows
  have C_law_take : Cal P w K mg base CX0 1 "_law_take" ["_law_pool_here", "_law_bound"] spTake := cal_law_take Z
  have C_law_one : Cal P w K mg base CX0 2 "_law_one" ["_law_pool_here", "_law_things"] (spLone K) := cal_law_one Z
  have C_law_turned : Cal P w K mg base CX0 2 "_law_turned" ["_law_pool_here", "_law_things"] (spTurned K) := cal_law_turned Z
  refine .of ⟨fd, F, ok0 F sc_law_rows (fun vs H Q E h => ?_) (fun cdv A outer s H vs Q E hr h => ?_)⟩ Z.g_law_rows (fun _ _ _ _ _ _ us hl => match us, hl with | [_, _, _, _, _], _ => rfl)
  · obtain ⟨p, b, c, ns, ks, top, down, rfl, _⟩ := h
    rfl
  · obtain ⟨p, b, c, ns, ks, top, down, rfl, hp, hb, nb, hc, nc, t0, t1, oks, nd, n0, n1, k0, k1, k⟩ := h
    refine ⟨_, (pss_cons (ps_set (i := 5) sc_law_rows.nd rfl (Or.inl rfl) (pe_lst pa_nil))
      (pss_cons (ps_for PassesOwn.never rfl (pi_range1 (by rfl) Z.b_range (pa_cons (pe_cal C_law_take (hr.mono (by decide)) (by rfl) pass0 (pa_cons (pv 0) (pa_cons (pe_op op_add (pv 2) pe_int) pa_nil))) pa_nil)) (pg_name (i := 6) sc_law_rows.nd rfl (Or.inl rfl)) (pss_cons (ps_set (i := 7) sc_law_rows.nd rfl (Or.inl rfl) (pe_cal C_law_take (hr.mono (by decide)) (by rfl) pass0 (pa_cons (pv 0) (pa_cons (pe_callB call_len (by rfl) Z.b_len PySem.boot_len (pa_cons (pv 1) pa_nil)) pa_nil))))
      (pss_cons (ps_set (i := 8) sc_law_rows.nd rfl (Or.inl rfl) (pe_ifExp (pt_val (pv 4)) (pe_slice sl_list (pv 1) po_none (po_some (pv 7))) (pe_op op_cat (pe_slice sl_list (pv 1) po_none (po_some (pv 7))) (pe_slice sl_list (pv 1) (po_some (pe_op op_add (pv 7) pe_int)) po_none))))
      (pss_cons (ps_set (i := 9) sc_law_rows.nd rfl (Or.inl rfl) (pe_slice sl_list (pe_cal C_law_turned (hr.mono (by decide)) (by rfl) pass0 (pa_cons (pv 0) (pa_cons (pv 8) pa_nil))) po_none (po_some (pe_op op_add pe_int (pe_cal C_law_take (hr.mono (by decide)) (by rfl) pass0 (pa_cons (pv 0) (pa_cons pe_int pa_nil)))))))
      (pss_cons (ps_set (i := 10) sc_law_rows.nd rfl (Or.inl rfl) (pe_cal C_law_one (hr.mono (by decide)) (by rfl) pass0 (pa_cons (pv 0) (pa_cons (pv 3) pa_nil))))
      (pss_one (ps_if (PW.pt (pw_and (pt_cmpR (op_neD hr.units) (pv 9) (pe_lst pa_nil) (nomark _)) (pw_and1 (pt_cmpR op_eq (pv 10) pe_str (nomark _))))) (pss_one (ps_expr (pe_bm PySem.F.plainAttrs_list PySem.F.slot_list_append PySem.F.type_list_append mt_append (pv 5) (pa_cons (pe_tup (pa_cons (pv 10) (pa_cons (pe_ix ix_list (pv 1) (pv 7) (fun _ _ => rfl)) (pa_cons (pe_callTy call_tuple_of (by rfl) Z.b_tuple PyProof.Rows.boot_tuple (pa_cons (pv 9) pa_nil)) (pa_cons (pe_op op_add pe_int (pe_cal C_law_take (hr.mono (by decide)) (by rfl) pass0 (pa_cons (pv 0) (pa_cons (pe_callB call_len (by rfl) Z.b_len PySem.boot_len (pa_cons (pv 9) pa_nil)) pa_nil)))) pa_nil))))) pa_nil)))) (pss_one (ps_if (pt_cmpR (op_neD hr.units) (pv 9) (pe_lst pa_nil) (nomark _)) (pss_one (ps_expr (pe_bm PySem.F.plainAttrs_list PySem.F.slot_list_append PySem.F.type_list_append mt_append (pv 5) (pa_cons (pe_tup (pa_cons (pv 10) (pa_cons (pe_ix ix_list (pv 1) (pv 7) (fun _ _ => rfl)) (pa_cons (pe_callTy call_tuple_of (by rfl) Z.b_tuple PyProof.Rows.boot_tuple (pa_cons (pv 9) pa_nil)) pa_nil)))) pa_nil)))) pss_nil)))))))))
      (pss_one (ps_ret (pv 5))))), ?_⟩
    refine ⟨(by show 0 ≤ sizeLine; decide), fun fo nfo => ?_⟩
    have A1 : Aft p H (upd H fo (.lst [])) := (Aft.refl hp).new nfo
    have fop : fo ≠ p := hp.ne nfo
    refine ⟨_, rfl, _, rfl, _, _, rfl, rfl, p, _, rfl, A1.pool, by omega, by omega, fun r H2 r0 r1 A2 => ⟨r, rfl, by omega, by omega, ?_⟩⟩
    have A02 := A1.trans A2
    refine for_range (lo := 0) (n := r.toNat) (fun i σ H3 => ∃ (xs : List V) (wl : List Want) (s6 s7 s8 s9 s10 : Option V), σ = [some (.ref p), some (.ref b), some (.int top), some (.ref c), some (.bl down), some (.ref fo), s6, s7, s8, s9, s10] ∧ Aft p H H3 ∧
        H3 fo = some (.lst xs) ∧ Wws H3 xs wl ∧ (∀ w ∈ wl, WantOk ns ks down w) ∧ wl.length ≤ i)
      ⟨[], [], _, _, _, _, _, rfl, A02, A2.keep _ _ fop upd_same, .nil, fun w hw => (nomatch hw), Nat.le_refl _⟩ ?_ ?_
    · rintro i σ H3 hi ⟨xs, wl, s6, s7, s8, s9, s10, rfl, a3, hfo, rows, ok, lw⟩
      have hb3 := a3.sqL hb nb
      refine ⟨_, rfl, _, rfl, _, (ns.map V.str).length, rfl, .inl ⟨_, hb3, rfl⟩, p, _, rfl, a3.pool, by rw [List.length_map]; omega, by rw [List.length_map]; omega, fun sp H4 s0 s1 a4 => ?_⟩
      have hb4 := a4.sqL hb3 nb
      rw [List.length_map] at s1
      obtain ⟨j, skl, hj, esp⟩ : ∃ (j : Nat) (skl : Str), ns[j]? = some skl ∧ sp = (j : Int) := ⟨sp.toNat, ns[sp.toNat]'(by omega), List.getElem?_eq_getElem (by omega), by omega⟩
      subst esp
      have hj' : (ns.map V.str)[j]? = some (.str skl) := by rw [List.getElem?_map, hj]; rfl
      have jl : j < ns.length := (List.getElem?_eq_some_iff.mp hj).1
      have a34 := a3.trans a4
      have f4 : H4 fo = some (.lst xs) := a4.keep _ _ fop hfo
      have r4 : Wws H4 xs wl := rows.tk (a4.tk a3.pool)
      have split_ : ns = ns.take j ++ skl :: ns.drop (j + 1) := by
        have e1 := List.take_append_drop j ns
        have e2 : ns.drop j = skl :: ns.drop (j + 1) := by
          have e3 := List.drop_eq_getElem_cons jl
          rw [List.getElem?_eq_getElem jl] at hj
          rw [Option.some.inj hj] at e3
          exact e3
        rw [e2] at e1
        exact e1.symm
      have nsk : skl ∉ ns.take j ∧ skl ∉ ns.drop (j + 1) ∧ (ns.take j ++ ns.drop (j + 1)).Nodup := by
        have nd' := nd
        rw [split_] at nd'
        have q := (List.nodup_append.mp nd')
        have q2 := List.nodup_cons.mp q.2.1
        refine ⟨fun h => q.2.2 skl h skl List.mem_cons_self rfl, q2.1, List.nodup_append.mpr ⟨q.1, q2.2, fun a ha b hb' => q.2.2 a ha b (List.mem_cons_of_mem _ hb')⟩⟩
      refine ⟨_, rfl, down, rfl, ?_⟩
      refine ifB (fun e => ?_) (fun e => ?_)
      refine ⟨_, rfl, _, rfl, _, rfl, b, _, rfl, hb4, fun o no => ?_⟩
      rw [cut_take]
      have os : ∃ os : List Str, os = ns.take j := ⟨_, rfl⟩
      obtain ⟨os, eos⟩ := os
      have e2 : ((ns.map V.str).take j) = os.map V.str := by rw [eos, List.map_take]
      rw [e2]
      have oo : os.Nodup ∧ skl ∉ os ∧ (∀ z ∈ os, z ∈ ns) ∧ (down = true → ∀ z ∈ os, z ∈ ns.take j) ∧ os.length ≤ 20 := by
        rw [eos]
        exact ⟨(List.nodup_append.mp nsk.2.2).1, nsk.1, fun z hz => List.mem_of_mem_take hz, fun _ z hz => hz, Nat.le_trans (List.length_take_le' _ _) n1⟩
      have a5 : Aft p H4 (upd H4 o (.lst (os.map V.str))) := (Aft.refl a4.pool).new no
      have ho : (upd H4 o (.lst (os.map V.str))) o = some (.lst (os.map V.str)) := upd_same
      have op : o ≠ p := a4.pool.ne no
      obtain ⟨H5, eH5⟩ : ∃ H5, H5 = upd H4 o (.lst (os.map V.str)) := ⟨_, rfl⟩
      rw [← eH5] at a5 ho ⊢
      clear eH5 e2 eos no
      rotate_left
      refine ⟨_, rfl, _, rfl, _, rfl, b, _, rfl, hb4, fun o1 no1 => ?_⟩
      have hb5 : SqL K (upd H4 o1 (.lst (cutV (ns.map V.str) none (some (j : Int))))) b (ns.map V.str) := ((Aft.refl a4.pool).new no1).sqL hb4 nb
      refine ⟨_, rfl, _, rfl, _, _, rfl, rfl, _, rfl, b, _, rfl, hb5, fun o2 no2 => ?_⟩
      refine ⟨o1, o2, _, _, rfl, rfl, Same.new no2 _ _ upd_same, upd_same, ?_, fun o no => ?_⟩
      · have z1 : (j : Int) + 1 = ((j + 1 : Nat) : Int) := rfl
        rw [cut_take, z1, cut_drop]
        have q1 := List.length_take_le' j (ns.map V.str)
        have q2 : ((ns.map V.str).drop (j + 1)).length ≤ (ns.map V.str).length := by rw [List.length_drop]; omega
        rw [List.length_map] at q1 q2
        have q3 : (40 : Nat) ≤ sizeLine := by decide
        omega
      have z1 : (j : Int) + 1 = ((j + 1 : Nat) : Int) := rfl
      have os : ∃ os : List Str, os = ns.take j ++ ns.drop (j + 1) := ⟨_, rfl⟩
      obtain ⟨os, eos⟩ := os
      have e2 : cutV (ns.map V.str) none (some (j : Int)) ++ cutV (ns.map V.str) (some ((j : Int) + 1)) none = os.map V.str := by
        rw [cut_take, z1, cut_drop, ← List.map_take, ← List.map_drop, ← List.map_append, eos]
      rw [e2]
      have oo : os.Nodup ∧ skl ∉ os ∧ (∀ z ∈ os, z ∈ ns) ∧ (down = true → ∀ z ∈ os, z ∈ ns.take j) ∧ os.length ≤ 20 := by
        rw [eos]
        refine ⟨nsk.2.2, fun h => (List.mem_append.mp h).elim nsk.1 nsk.2.1, fun z hz => (List.mem_append.mp hz).elim List.mem_of_mem_take List.mem_of_mem_drop, fun d => ?_, ?_⟩
        · rw [e] at d
          cases d
        · rw [List.length_append, List.length_take, List.length_drop]
          omega
      have a5 : Aft p H4 (upd (upd (upd H4 o1 (.lst (cutV (ns.map V.str) none (some (j : Int))))) o2 (.lst (cutV (ns.map V.str) (some ((j : Int) + 1)) none))) o (.lst (os.map V.str))) := (((Aft.refl a4.pool).new no1).new no2).new no
      have ho : (upd (upd (upd H4 o1 (.lst (cutV (ns.map V.str) none (some (j : Int))))) o2 (.lst (cutV (ns.map V.str) (some ((j : Int) + 1)) none))) o (.lst (os.map V.str))) o = some (.lst (os.map V.str)) := upd_same
      have op : o ≠ p := (((Aft.refl a4.pool).new no1).new no2).pool.ne no
      obtain ⟨H5, eH5⟩ : ∃ H5, H5 = (upd (upd (upd H4 o1 (.lst (cutV (ns.map V.str) none (some (j : Int))))) o2 (.lst (cutV (ns.map V.str) (some ((j : Int) + 1)) none))) o (.lst (os.map V.str))) := ⟨_, rfl⟩
      rw [← eH5] at a5 ho ⊢
      clear eH5 e2 eos no
      all_goals
        have oks2 : ∀ z ∈ os, PyData.strOk z = true := fun z hz => oks z (oo.2.2.1 z hz)
        refine ⟨_, rfl, _, rfl, p, o, os, rfl, a5.pool, SqL.of ho, oks2, op, by omega, fun q ys H6 nq a6 hq pm => ?_⟩
        have qp : q ≠ p := a5.pool.ne nq
        have ly : ys.length ≤ 20 := by
          have e1 := pm.length_eq
          omega
        refine ⟨_, rfl, p, _, rfl, a6.pool, by decide, by decide, fun r H7 r0 r1 a7 => ⟨_, _, rfl, rfl, _, rfl, q, _, rfl, SqL.of (a7.keep _ _ qp hq), fun n nn => ?_⟩⟩
        have z1 : 1 + r = (((1 + r).toNat : Nat) : Int) := by omega
        have e3 : cutV (ys.map V.str) none (some (1 + r)) = (ys.take (1 + r).toNat).map V.str := by
          rw [z1, cut_take, ← List.map_take]
          rfl
        rw [e3]
        have zz : ∃ zs : List Str, zs = ys.take (1 + r).toNat ∧ (ys = [] → zs = []) ∧ zs.Nodup ∧ (∀ z ∈ zs, z ∈ os) ∧ zs.length ≤ 20 ∧ (zs = [] → ys = []) := by
          have nys : ys.Nodup := pm.nodup_iff.mpr oo.1
          refine ⟨_, rfl, fun h => by rw [h, List.take_nil], nys.sublist (List.take_sublist _ _), fun z hz => pm.mem_iff.mp (List.mem_of_mem_take hz), Nat.le_trans (List.length_take_le' _ _) ly, fun h => ?_⟩
          cases ys with
          | nil => rfl
          | cons y ys =>
            have m1 : (1 + r).toNat = r.toNat + 1 := by omega
            rw [m1, List.take_succ_cons] at h
            cases h
        obtain ⟨zs, ezs, _, znd, zin, zl, _⟩ := zz
        rw [← ezs]
        have a8 : Aft p H4 (upd H7 n (.lst (zs.map V.str))) := ((a5.trans a6).trans a7).new nn
        have hn8 : (upd H7 n (.lst (zs.map V.str))) n = some (.lst (zs.map V.str)) := upd_same
        have np : n ≠ p := a7.pool.ne nn
        obtain ⟨H8, eH8⟩ : ∃ H8, H8 = upd H7 n (.lst (zs.map V.str)) := ⟨_, rfl⟩
        rw [← eH8] at a8 hn8 ⊢
        have n8 : H4 n = none := by
          have q1 := ((a5.trans a6).trans a7).free' nn
          exact q1
        clear eH8 ezs e3 z1 a7 a6 a5 ho hq nn nq pm ly
        have hc4 : SqL K H4 c (ks.map V.str) := a34.sqL hc nc
        refine ⟨_, rfl, _, rfl, p, c, _, rfl, a8.pool, a8.sqL hc4 nc, nc, by rw [List.length_map]; omega, by rw [List.length_map]; omega, fun x H9 hx a9 => ?_⟩
        obtain ⟨kd, hk, rfl⟩ := List.mem_map.mp hx
        have a49 := a8.trans a9
        have hn9 : H9 n = some (.lst (zs.map V.str)) := a9.keep _ _ np hn8
        refine ⟨_, rfl, (by show 0 ≤ sizeLine; decide), fun em nem => ?_⟩
        have okZ : Oks zs := fun z hz => oks z (oo.2.2.1 z (zin z hz))
        refine ⟨.list (zs.map PyData.str), .list [], dp_strs (SqL.of (Same.new nem _ _ hn9)), .lst (SqL.of upd_same) .nil, shaped_strs okZ, by decide +kernel, _, rfl, ?_⟩
        rw [eqv_nil]
        have a10 : Aft p H4 (upd H9 em (.lst [])) := a49.new nem
        have hn10 : (upd H9 em (.lst [])) n = some (.lst (zs.map V.str)) := Same.new nem _ _ hn9
        obtain ⟨H10, eH10⟩ : ∃ H10, H10 = upd H9 em (.lst []) := ⟨_, rfl⟩
        rw [← eH10] at a10 hn10 ⊢
        have f10 : H10 fo = some (.lst xs) := a10.keep _ _ fop f4
        have r10 : Wws H10 xs wl := r4.tk (a10.tk a4.pool)
        have b10 : SqL K H10 b (ns.map V.str) := a10.sqL hb4 nb
        clear eH10 hn9 hn8
        have fo0 : H fo = none := nfo
        have at_j : atI (ns.map V.str) (j : Int) = some (.str skl) := at_of rfl hj'
        have lxs : xs.length ≤ i := by rw [rows.len]; exact lw
        have isz : i < 100 := by omega
        -- what is put
        cases zs with
        | nil =>
          refine ⟨_, rfl, (by show 0 ≤ sizeLine; decide), fun em2 nem2 => ⟨.list ([].map PyData.str), .list [], dp_strs (zs := []) (SqL.of (Same.new nem2 _ _ hn10)), .lst (SqL.of upd_same) .nil, by decide +kernel, by decide +kernel, _, rfl, ?_⟩⟩
          rw [eqv_nil]
          exact ⟨xs, wl, _, _, _, _, _, rfl, (a34.trans a10).new nem2, Same.new nem2 _ _ f10, r10.tk (Tk.new nem2), ok, by omega⟩
        | cons z0 zs =>
          have zsk : skl ∉ z0 :: zs := fun h => oo.2.1 (zin _ h)
          have zns : ∀ z ∈ z0 :: zs, z ∈ ns := fun z h => oo.2.2.1 z (zin z h)
          have zdn : ∃ t, ns[t]? = some skl ∧ (down = true → ∀ z ∈ z0 :: zs, z ∈ ns.take t) := ⟨j, hj, fun d z h => oo.2.2.2.1 d z (zin z h)⟩
          refine ⟨_, rfl, rfl, _, rfl, ifB (fun e => ?_) (fun e => ?_)⟩
          · have ek : kd = "count" := by
              have q := of_decide_eq_true e
              injection q
            refine ⟨_, rfl, .inl ⟨rfl, _, SqL.of f10⟩, _, rfl, _, rfl, _, rfl, b, _, _, _, rfl, rfl, b10, at_j, _, rfl, n, _, rfl, .inl ⟨SqL.of hn10, fun tl ntl => ?_⟩⟩
            have a11 : Aft p H4 (upd H10 tl (.tup ((z0 :: zs).map V.str))) := a10.new ntl
            have n11 : SqL K (upd H10 tl (.tup ((z0 :: zs).map V.str))) n ((z0 :: zs).map V.str) := SqL.of (Same.new ntl _ _ hn10)
            refine ⟨_, rfl, _, rfl, _, _, rfl, .inl ⟨_, n11, rfl⟩, p, _, rfl, a11.pool, by rw [List.length_map, List.length_cons]; omega, by rw [List.length_map]; omega, fun m H12 m0 m1 a12 => ⟨_, _, rfl, rfl, (by show 4 ≤ sizeLine; decide), fun tp ntp => ?_⟩⟩
            rw [List.length_map] at m1
            have tlp : tl ≠ p := a10.pool.ne ntl
            have f12 : H12 fo = some (.lst xs) := a12.keep _ _ fop (Same.new ntl _ _ f10)
            have r12 : Wws H12 xs wl := r10.tk ((Tk.new ntl).trans (a12.tk a11.pool))
            have t12 : H12 tl = some (.tup ((z0 :: zs).map V.str)) := a12.keep _ _ tlp upd_same
            have tpfo : tp ≠ fo := (ne_of_none f12 ntp).symm
            have tptl : tl ≠ tp := ne_of_none t12 ntp
            have tlfo : tl ≠ fo := fun e => by
              rw [e, f12] at t12
              cases t12
            refine ⟨fo, xs, _, rfl, rfl, Same.new ntp _ _ f12, line_of (m := 100) (by omega) (by decide), ?_⟩
            have k3 : Tk H12 (upd (upd H12 tp (.tup [.str kd, .str skl, .ref tl, .int (1 + m)])) fo (.lst (xs ++ [.ref tp]))) := (Tk.new ntp).trans (Tk.lst (xs := xs) (Same.new ntp _ _ f12))
            refine ⟨xs ++ [.ref tp], wl ++ [⟨kd, skl, z0 :: zs, some (1 + m)⟩], _, _, _, _, _, rfl, ((a34.trans (a11.trans a12)).new ntp).put fo0 fop, upd_same, Wws.snoc ⟨tp, tl, rfl, by rw [upd_ne tpfo]; exact upd_same, by rw [upd_ne tlfo]; exact Same.new ntp _ _ t12⟩ (r12.tk k3), fun w hw => ?_, ?_⟩
            · rcases List.mem_append.mp hw with hw | hw
              · exact ok w hw
              · rw [List.mem_singleton.mp hw]
                exact ⟨hk, .inl ⟨ek, _, rfl, by omega, by show 1 + m ≤ (((z0 :: zs).length : Nat) : Int); omega⟩, (fun h => nomatch h), znd, zns, zdn, zsk⟩
            · rw [List.length_append]
              show wl.length + 1 ≤ i + 1
              omega
          · have ek : kd ≠ "count" := fun h => by
              rw [h] at e
              exact absurd e (by decide)
            refine ⟨_, rfl, (by show 0 ≤ sizeLine; decide), fun em2 nem2 => ⟨.list ((z0 :: zs).map PyData.str), .list [], dp_strs (SqL.of (Same.new nem2 _ _ hn10)), .lst (SqL.of upd_same) .nil, shaped_strs okZ, by decide +kernel, _, rfl, ?_⟩⟩
            rw [eqv_nil]
            have a11 : Aft p H4 (upd H10 em2 (.lst [])) := a10.new nem2
            have f11 : (upd H10 em2 (.lst [])) fo = some (.lst xs) := Same.new nem2 _ _ f10
            have r11 : Wws (upd H10 em2 (.lst [])) xs wl := r10.tk (Tk.new nem2)
            have b11 : SqL K (upd H10 em2 (.lst [])) b (ns.map V.str) := ((Aft.refl a10.pool).new nem2).sqL b10 nb
            have n11 : (upd H10 em2 (.lst [])) n = some (.lst ((z0 :: zs).map V.str)) := Same.new nem2 _ _ hn10
            refine ⟨_, rfl, .inl ⟨rfl, _, SqL.of f11⟩, _, rfl, _, rfl, _, rfl, b, _, _, _, rfl, rfl, b11, at_j, _, rfl, n, _, rfl, .inl ⟨SqL.of n11, fun tl ntl => ⟨(by show 3 ≤ sizeLine; decide), fun tp ntp => ?_⟩⟩⟩
            have f12 : (upd (upd H10 em2 (.lst [])) tl (.tup ((z0 :: zs).map V.str))) fo = some (.lst xs) := Same.new ntl _ _ f11
            have r12 := r11.tk (Tk.new (o := .tup ((z0 :: zs).map V.str)) ntl)
            have a12 := a11.new (o := .tup ((z0 :: zs).map V.str)) ntl
            have t12 : (upd (upd H10 em2 (.lst [])) tl (.tup ((z0 :: zs).map V.str))) tl = some (.tup ((z0 :: zs).map V.str)) := upd_same
            obtain ⟨H12, eH12⟩ : ∃ H12, H12 = (upd (upd H10 em2 (.lst [])) tl (.tup ((z0 :: zs).map V.str))) := ⟨_, rfl⟩
            rw [← eH12] at f12 r12 a12 t12 ntp ⊢
            have tpfo : tp ≠ fo := (ne_of_none f12 ntp).symm
            have tptl : tl ≠ tp := ne_of_none t12 ntp
            have tlfo : tl ≠ fo := fun e => by
              rw [e, f12] at t12
              cases t12
            refine ⟨fo, xs, _, rfl, rfl, Same.new ntp _ _ f12, line_of (m := 100) (by omega) (by decide), ?_⟩
            have k3 : Tk H12 (upd (upd H12 tp (.tup [.str kd, .str skl, .ref tl])) fo (.lst (xs ++ [.ref tp]))) := (Tk.new ntp).trans (Tk.lst (xs := xs) (Same.new ntp _ _ f12))
            refine ⟨xs ++ [.ref tp], wl ++ [⟨kd, skl, z0 :: zs, none⟩], _, _, _, _, _, rfl, ((a34.trans a12).new ntp).put fo0 fop, upd_same, Wws.snoc ⟨tp, tl, rfl, by rw [upd_ne tpfo]; exact upd_same, by rw [upd_ne tlfo]; exact Same.new ntp _ _ t12⟩ (r12.tk k3), fun w hw => ?_, ?_⟩
            · rcases List.mem_append.mp hw with hw | hw
              · exact ok w hw
              · rw [List.mem_singleton.mp hw]
                exact ⟨hk, .inr ⟨ek, rfl⟩, (fun h => nomatch h), znd, zns, zdn, zsk⟩
            · rw [List.length_append]
              show wl.length + 1 ≤ i + 1
              omega
    · rintro σ H3 ⟨xs, wl, s6, s7, s8, s9, s10, rfl, a3, hfo, rows, ok, lw⟩
      exact ⟨_, rfl, k fo xs wl H3 nfo a3 hfo rows ok (by omega)⟩
end
end Rt
end
section
set_option Elab.async false
set_option linter.all false
set_option maxRecDepth 100000
set_option maxHeartbeats 4000000
/-! t[::-1] of a pair -/
namespace Rt
open PySem PySem.Spec PyProof.Rows L2 HT
section
variable {prog : Program} {w : World} {A : Around} {E : Value → Shared → Prop} {s : Shared}
theorem applied_rev {sl : Addr} {vs : Value} {Q : Int × Int × Nat → Shared → Prop} (hs : s.heap.IsSliceOf sl .none .none vs) (ps : IsPart vs (some (-1)))
    (h : Q (1, -1, 2) s) : wpAny (model prog w) A (Builtin.Slice.sliceApplied (.ref sl) (pure (2 : Int))) Q E s := by
  obtain ⟨os, hos, hcs, hds⟩ := id hs
  unfold Builtin.Slice.sliceApplied Builtin.Slice.sliceFields
  refine wpAny_bind (wpAny_bind (wpAny_field hos hds (x := .none) rfl (wpAny_bind (wpAny_field hos hds (x := .none) rfl (wpAny_bind (wpAny_field hos hds (x := vs) rfl (wpAny_pure ?_)))))))
  refine wpAny_bind (slicePart_ ps ?_)
  show wpAny _ _ (if ((-1 : Int) == 0) = true then _ else _) _ _ s
  rw [if_neg (by decide)]
  refine wpAny_bind (slicePart_none (wpAny_bind (slicePart_none (wpAny_bind (wpAny_pure ?_)))))
  exact wpAny_pure h
theorem getItem_pair_rev {t sl : Addr} {u1 u2 : Value} {vs : Value} {Q : Value → Shared → Prop} (ht : IsTup s.heap t #[u1, u2]) (hs : s.heap.IsSliceOf sl .none .none vs) (ps : IsPart vs (some (-1)))
    (h : Q (.ref s.heap.objs.size) { s with heap := s.heap.push { cls := .type "tuple", data := .seq #[u2, u1] } }) : wpAny (model prog w) A (getItem (.ref t) (.ref sl)) Q E s := by
  have htake : sizeOk (.seq #[u2, u1]) := by
    show 2 ≤ sizeLine
    decide
  obtain ⟨os, hos, hcs, hds⟩ := id hs
  have hTs : s.TypeIs (.ref sl) "slice" := ⟨os, hos, hcs⟩
  unfold getItem
  try with_reducible refine wpAny_holding ?_
  first | refine wpAny_bind (wpAny_pure ?_) | skip
  refine wpAny_bind (wpAny_sequenceKey ht.typeIs (by decide) ?_)
  refine wpAny_bind (wpAny_callSpecial?_slot (name := Str.ofString "__getitem__") ht.typeIs PyProof.Rows.slot_tuple_getitem
    (wpAny_call_entry PyProof.Rows.slot_tuple_getitem ht.typeIs entry_tuple_getitem ?_ (args_tuple_getitem _ _)))
  show wpAny _ _ (Builtin.Tuple.tupleItemsOf (.ref t) >>= _) _ _ s
  refine wpAny_bind (tupleItemsOf_ ht ?_)
  refine wpAny_bind (wpAny_typeOf hTs ?_)
  rw [if_pos (by decide)]
  refine wpAny_bind (applied_rev hs ps ?_)
  show wpAny _ _ (if (((1 : Int) == 0) && ((-1 : Int) == 1) && (2 == 2)) = true then _ else _) _ _ s
  rw [if_neg (by decide)]
  first
    | exact wpAny_bind (m := Builtin.Tuple.tupleExact _) (wpAny_newObj_type (wpAny_pure ⟨_, rfl, wpAny_pure h⟩) htake)
    | exact wpAny_bind (m := Builtin.Tuple.tupleExact _) (wpAny_newObj_type (wpAny_bind (wpAny_pure (wpAny_pure ⟨_, rfl, wpAny_pure h⟩))) htake)
    | exact wpAny_bind (wpAny_bind (m := Builtin.Tuple.tupleExact _) (wpAny_newObj_type (wpAny_pure (wpAny_pure ⟨_, rfl, wpAny_pure h⟩)) htake))
    | exact wpAny_bind (wpAny_bind (m := Builtin.Tuple.tupleExact _) (wpAny_newObj_type (wpAny_pure ⟨_, rfl, wpAny_pure h⟩) htake))
end
section
variable {X : Cx}
def tRevT (K : PySem.W.Frag) (te : TE) : TE := fun σ H Q => te σ H fun x H1 => ∃ a x1 x2, x = .ref a ∧ SqT K H1 a [x1, x2] ∧ ∀ p, H1 p = none → Q (.ref p) (upd H1 p (.tup [x2, x1]))
theorem pe_revT {e : Expr} {te : TE} {k : Nat} {p1 p2 p3 pos : Pos} (he : PE X e te) : PE X (.Subscript e (.Slice none none (some (.UnaryOp .USub (.Constant (.int 1) k p1) p2)) p3) pos) (tRevT X.K te) := by
  refine ⟨fun pins s σ H Q I h => ?_⟩
  refine Subscript_ (thn (he.run pins s σ H _ I h) fun v s1 ⟨x, H1, I1, r1, q1⟩ => ?_)
  obtain ⟨a, x1, x2, ex, hx, q⟩ := q1
  subst ex
  cases r1
  have hst : PO X (some (.UnaryOp .USub (.Constant (.int 1) k p1) p2)) (tPart (tUn (rU fun i => .int (-i)) (tC (.int 1)))) := po_some (pe_un un_neg pe_int)
  refine wpAny_Slice ?_
  rw [evalPart_none]
  refine wpAny_pure (wpAny_pure ?_)
  refine thn (hst.run pins s1 σ H1 (fun o H4 => o = some (-1) ∧ H4 = H1) I1 ⟨1, rfl, -1, rfl, rfl, rfl⟩) fun vs s4 ⟨o, H4, I4, ps, eo, e4⟩ => ?_
  subst eo e4
  have I5 : Inv X pins σ H4 { s4 with heap := s4.heap.push { cls := .type "slice", data := .fields #[.none, .none, vs] } } := I4.kept (t' := s4.toks) fun b ob q => Heap.get?_push_of_some _ q
  obtain ⟨its, r, ht, hz⟩ := I5.tuple hx
  obtain ⟨u1, u2, rfl, r1', r2'⟩ : ∃ u1 u2, its = [u1, u2] ∧ RelV x1 u1 ∧ RelV x2 u2 := by
    cases r with
    | cons p q =>
      cases q with
      | cons p' q' =>
        cases q'
        exact ⟨_, _, rfl, p, p'⟩
  show wpAny (model X.prog X.w) X.A (subscriptTail e (.Slice none none (some (.UnaryOp .USub (.Constant (.int 1) k p1) p2)) p3) (.ref a) (.ref s4.heap.objs.size)) (EP X pins σ Q) X.xe { s4 with heap := s4.heap.push { cls := .type "slice", data := .fields #[.none, .none, vs] } }
  refine tail_any (ops := [.ref a, .ref s4.heap.objs.size]) ht.typeIs (PyProof.Rows.slot_tuple_getitem.lookup) ?_ (by with_unfolding_all rfl)
  refine getItem_pair_rev ht (Heap.IsSliceOf.new _ .none .none vs) ps ?_
  refine ⟨.ref _, _, I5.laid (t' := s4.toks) (o := .tup [x2, x1]) (fun b ob q => Heap.get?_push_of_some _ q) (Nat.le_refl _) ?_, rfl, q _ (I5.hok.fresh (Nat.le_refl _))⟩
  exact ⟨(by show 2 ≤ sizeLine; decide), _, (.cons r2' (.cons r1' .nil)), IsTup.new _ _⟩
end
end Rt
end
section
set_option Elab.async false
set_option linter.all false
set_option maxRecDepth 100000
set_option maxHeartbeats 8000000
namespace Rt
open PySem PySem.Spec PyProof.Rows L2
/-- a drawn book -/
structure Bk where
  sk : List (Str × Int)
  points : Int
  nd : List (Int × Int)
  wl : List Want
  bars : List (Str × Str)
  gives : List (Str × Int)
  prices : List (Str × Int)
  reset : Option Int
abbrev Bk.ns (B : Bk) : List Str := B.sk.map (·.1)
abbrev rB (r : Str × Str) : List V := [.str r.1, .str r.2]
def oV : Option Int → V
  | none => .non
  | some i => .int i
def bkL (a1 : Addr) (pt : Int) (a3 a4 a5 a6 a7 : Addr) (r : V) : List (Key × V) :=
  [(.inr "skills", .ref a1), (.inr "points", .int pt), (.inr "needs", .ref a3), (.inr "wants", .ref a4), (.inr "bars", .ref a5), (.inr "gives", .ref a6), (.inr "prices", .ref a7), (.inr "reset", r)]
/-- bars that are right beside the names -/
structure BarsOk (ns : List Str) (bs : List (Str × Str)) : Prop where
  in_ : ∀ b ∈ bs, b.1 ∈ ns ∧ b.2 ∈ ns ∧ b.1 ≠ b.2
  un : bs.Pairwise fun b c => b ≠ c ∧ b ≠ (c.2, c.1)
structure ToldOk (ns : List Str) (lo hi : Int) (gs : List (Str × Int)) : Prop where
  in_ : ∀ g ∈ gs, g.1 ∈ ns ∧ lo ≤ g.2 ∧ g.2 ≤ hi
  nd : (gs.map (·.1)).Nodup
structure BkOk (sort : Int) (B : Bk) : Prop where
  sk : Skills B.sk
  pt : 0 ≤ B.points ∧ B.points ≤ 12
  nd : Needs B.nd
  w : ∀ w ∈ B.wl, WantOk B.ns ["all", "any", "any", "count"] (decide (sort < 3)) w
  w1 : sort = 1 → ∀ w ∈ B.wl, w.kind = "all"
  w0 : sort = 0 → B.wl = []
  wl : B.wl.length ≤ 4
  bars : BarsOk B.ns B.bars
  b2 : B.bars.length ≤ 2
  b0 : sort ≤ 1 → B.bars = []
  gives : ToldOk B.ns 1 3 B.gives
  g0 : sort ≠ 4 → B.gives = []
  prices : ToldOk B.ns 0 99 B.prices
  reset : ∀ r, B.reset = some r → 0 ≤ r ∧ r ≤ 99
/-- a list of rows, of wants -/
def LR (H : Hp) (a : Addr) (rows : List (List V)) : Prop := ∃ xs, H a = some (.lst xs) ∧ Rws H xs rows
def LW (H : Hp) (a : Addr) (ws : List Want) : Prop := ∃ xs, H a = some (.lst xs) ∧ Wws H xs ws
theorem LR.go {p a : Addr} {H H' : Hp} {rows : List (List V)} (h : LR H a rows) (k : Aft p H H') (hp : PoolAt H p) (n : a ≠ p) : LR H' a rows := let ⟨xs, e, r⟩ := h; ⟨xs, k.keep _ _ n e, r.tk (k.tk hp)⟩
theorem LW.go {p a : Addr} {H H' : Hp} {ws : List Want} (h : LW H a ws) (k : Aft p H H') (hp : PoolAt H p) (n : a ≠ p) : LW H' a ws := let ⟨xs, e, r⟩ := h; ⟨xs, k.keep _ _ n e, r.tk (k.tk hp)⟩
theorem Tk.dct {H : Hp} {q : Addr} {kvs : List (Key × V)} {o : HO} (h : H q = some (.dK kvs)) : Tk H (upd H q o) := fun b ys hb => by
  rw [upd_ne (ne_of hb h (by intro z; cases z))]
  exact hb
theorem LR.put {a d : Addr} {H : Hp} {rows : List (List V)} {kvs kvs' : List (Key × V)} (h : LR H a rows) (hd : H d = some (.dK kvs)) : LR (upd H d (.dK kvs')) a rows := by
  obtain ⟨xs, e, r⟩ := h
  refine ⟨xs, ?_, r.tk (Tk.dct hd)⟩
  rw [upd_ne (ne_of e hd (by intro z; cases z))]
  exact e
theorem LW.put {a d : Addr} {H : Hp} {ws : List Want} {kvs kvs' : List (Key × V)} (h : LW H a ws) (hd : H d = some (.dK kvs)) : LW (upd H d (.dK kvs')) a ws := by
  obtain ⟨xs, e, r⟩ := h
  refine ⟨xs, ?_, r.tk (Tk.dct hd)⟩
  rw [upd_ne (ne_of e hd (by intro z; cases z))]
  exact e
/-- the book's dict and its lists -/
structure BkAt (H : Hp) (d : Addr) (B : Bk) : Prop where
  at_ : ∃ a1 a3 a4 a5 a6 a7, H d = some (.dK (bkL a1 B.points a3 a4 a5 a6 a7 (oV B.reset))) ∧ LR H a1 (B.sk.map rS) ∧ LR H a3 (B.nd.map rI2) ∧ LW H a4 B.wl ∧
    LR H a5 (B.bars.map rB) ∧ LR H a6 (B.gives.map rS) ∧ LR H a7 (B.prices.map rS)
/-- a book that is being built -/
structure BSt (p d a1 a3 a4 D : Addr) (sk : List (Str × Int)) (nd : List (Int × Int)) (wl : List Want) (kvs : List (Key × V)) (H Hh : Hp) : Prop where
  aft : Aft p H Hh
  fd : H d = none
  dict : Hh d = some (.dK kvs)
  l1 : LR Hh a1 (sk.map rS)
  l3 : LR Hh a3 (nd.map rI2)
  l4 : LW Hh a4 wl
  names : Hh D = some (.lst ((sk.map (·.1)).map V.str))
  ne : d ≠ p ∧ a1 ≠ p ∧ a3 ≠ p ∧ a4 ≠ p ∧ D ≠ p
section
variable {p d a1 a3 a4 D : Addr} {sk : List (Str × Int)} {nd : List (Int × Int)} {wl : List Want} {kvs kvs' : List (Key × V)} {H Hh H2 : Hp}
theorem BSt.go (b : BSt p d a1 a3 a4 D sk nd wl kvs H Hh) (k : Aft p Hh H2) : BSt p d a1 a3 a4 D sk nd wl kvs H H2 :=
  ⟨b.aft.trans k, b.fd, k.keep _ _ b.ne.1 b.dict, b.l1.go k b.aft.pool b.ne.2.1, b.l3.go k b.aft.pool b.ne.2.2.1, b.l4.go k b.aft.pool b.ne.2.2.2.1, k.keep _ _ b.ne.2.2.2.2 b.names, b.ne⟩
theorem BSt.new {q : Addr} {o : HO} (b : BSt p d a1 a3 a4 D sk nd wl kvs H Hh) (n : Hh q = none) : BSt p d a1 a3 a4 D sk nd wl kvs H (upd Hh q o) := b.go ((Aft.refl b.aft.pool).new n)
theorem BSt.put (b : BSt p d a1 a3 a4 D sk nd wl kvs H Hh) : BSt p d a1 a3 a4 D sk nd wl kvs' H (upd Hh d (.dK kvs')) := by
  refine ⟨b.aft.put b.fd b.ne.1, b.fd, upd_same, b.l1.put b.dict, b.l3.put b.dict, b.l4.put b.dict, ?_, b.ne⟩
  rw [upd_ne (ne_of b.names b.dict (by intro z; cases z))]
  exact b.names
end
theorem by_ {te : TE} {σ : L2.St} {H : Hp} {Q : VK} (Pv : V → Hp → Prop) (h1 : ∀ Q : VK, (∀ x H', Pv x H' → Q x H') → te σ H Q) (h2 : ∀ x H', Pv x H' → Q x H') : te σ H Q := h1 Q h2
theorem ts_by {ts : TS} {D : Ends} {σ : L2.St} {H : Hp} (Pv : L2.St → Hp → Prop) (h1 : ∀ D : Ends, (∀ σ H, Pv σ H → D.nx σ H) → ts D σ H) (h2 : ∀ σ H, Pv σ H → D.nx σ H) : ts D σ H := h1 D h2
theorem for_rng_by {te : TE} {g : TG} {tb : TS} {D : Ends} {σ : L2.St} {H : Hp} (Pn : Int → Hp → Prop) (h1 : ∀ Q : VK, (∀ n H', Pn n H' → Q (.int n) H') → te σ H Q)
    (h2 : ∀ n H', Pn n H' → -(2 ^ 62) ≤ n ∧ n < 2 ^ 62 ∧ ∃ Pv : Nat → L2.St → Hp → Prop, Pv 0 σ H' ∧ (∀ i σ H, i < n.toNat → Pv i σ H → g (.int (0 + (i : Int))) σ H fun σ2 H2 => tb { D with nx := Pv (i + 1), ct := Pv (i + 1), bk := D.nx } σ2 H2) ∧ ∀ σ H, Pv n.toNat σ H → D.nx σ H) :
    tFor (iRng1 (tCons te tNil)) g tb D σ H := by
  show te σ H fun x H1 => _
  refine h1 _ fun n H' hn => ?_
  obtain ⟨b1, b2, Pv, p0, ps, pd⟩ := h2 n H' hn
  exact ⟨n, rfl, b1, b2, for_range Pv p0 ps pd⟩
def tB (r : Str × Str) : PyData := .tuple [.str r.1, .str r.2]
theorem dp_tB {K : PySem.W.Frag} {H : Hp} {a : Addr} {r : Str × Str} (h : H a = some (.tup (rB r))) : Dp K H (.ref a) (tB r) := .tup (SqT.of h) (.cons (.str _) (.cons (.str _) .nil))
theorem dp_bars {K : PySem.W.Frag} {H : Hp} : ∀ {xs : List V} {bars : List (Str × Str)}, Rws H xs (bars.map rB) → DpAll K H xs (bars.map tB)
  | _, [], h => by
    cases h
    exact .nil
  | _, b :: bars, h => by
    cases h with
    | cons r t =>
      obtain ⟨p, rfl, hp⟩ := r
      exact .cons (dp_tB hp) (dp_bars t)
def OkB (ns : List Str) (bars : List (Str × Str)) : Prop := ∀ b ∈ bars, b.1 ∈ ns ∧ b.2 ∈ ns
theorem lay_tB {r : Str × Str} (h1 : PyData.strOk r.1 = true) (h2 : PyData.strOk r.2 = true) : PyData.canLay0 (tB r) = true ∧ PyData.depth (tB r) ≤ 2 := by
  refine ⟨by simp [tB, PyData.canLay0, PyData.canLayAll0, h1, h2], ?_⟩
  simp only [tB, PyData.depth, PyData.depthAll]
  omega
theorem lay_bars {ns : List Str} (ok : Oks ns) : ∀ {bars : List (Str × Str)}, OkB ns bars → PyData.canLayAll0 (bars.map tB) = true ∧ PyData.depthAll (bars.map tB) ≤ 2
  | [], _ => ⟨by simp [PyData.canLayAll0], by simp [PyData.depthAll]⟩
  | b :: bars, h => by
    obtain ⟨h1, h2⟩ := lay_bars ok (bars := bars) fun y hy => h y (List.mem_cons_of_mem _ hy)
    have h3 := h b List.mem_cons_self
    obtain ⟨h4, h5⟩ := lay_tB (ok _ h3.1) (ok _ h3.2)
    refine ⟨by simp [PyData.canLayAll0, h4, h1], ?_⟩
    simp only [List.map_cons, PyData.depthAll]
    omega
theorem shaped_tB {r : Str × Str} (h1 : PyData.strOk r.1 = true) (h2 : PyData.strOk r.2 = true) : SeqAt.shaped (tB r) = true := by
  obtain ⟨h3, h4⟩ := lay_tB h1 h2
  show (PyData.canLay0 (tB r) && decide (PyData.depth (tB r) ≤ 64)) = true
  rw [Bool.and_eq_true]
  exact ⟨h3, decide_eq_true (by omega)⟩
theorem shaped_bars {ns : List Str} (ok : Oks ns) {bars : List (Str × Str)} (h : OkB ns bars) : SeqAt.shaped (.list (bars.map tB)) = true := by
  obtain ⟨h1, h2⟩ := lay_bars ok h
  show (PyData.canLay0 (.list (bars.map tB)) && decide (PyData.depth (.list (bars.map tB)) ≤ 64)) = true
  rw [Bool.and_eq_true]
  exact ⟨by simp only [PyData.canLay0]; exact h1, decide_eq_true (by simp only [PyData.depth]; omega)⟩
theorem eqv_tB (r : Str × Str) : PyData.eqv (tB r) (tB r) = true := by simp [tB, PyData.eqv, PyData.eqvAll]
theorem no_bar {bars : List (Str × Str)} {r : Str × Str} (h : (!(bars.map tB).any fun z => PyData.eqv z (tB r)) = true) : ∀ b ∈ bars, b ≠ r := fun b hb e => by
  have q : ((bars.map tB).any fun z => PyData.eqv z (tB r)) = true := List.any_eq_true.mpr ⟨tB b, List.mem_map_of_mem hb, by rw [e]; exact eqv_tB r⟩
  rw [q] at h
  exact absurd h (by decide)
def k3 (a1 : Addr) (pt : Int) (a3 : Addr) : List (Key × V) := [(.inr "skills", .ref a1), (.inr "points", .int pt), (.inr "needs", .ref a3)]
theorem merge3 (a1 : Addr) (pt : Int) (a3 : Addr) : mergeK [] (k3 a1 pt a3) = k3 a1 pt a3 := rfl
theorem put4 (a1 : Addr) (pt : Int) (a3 a4 : Addr) : putK (k3 a1 pt a3) (.inr "wants") (.ref a4) = k3 a1 pt a3 ++ [(.inr "wants", .ref a4)] := rfl
theorem put5 (a1 : Addr) (pt : Int) (a3 a4 a5 : Addr) : putK (k3 a1 pt a3 ++ [(.inr "wants", .ref a4)]) (.inr "bars") (.ref a5) = k3 a1 pt a3 ++ [(.inr "wants", .ref a4), (.inr "bars", .ref a5)] := rfl
def k6 (a1 : Addr) (pt : Int) (a3 a4 a5 a6 : Addr) : List (Key × V) := k3 a1 pt a3 ++ [(.inr "wants", .ref a4), (.inr "bars", .ref a5), (.inr "gives", .ref a6)]
theorem put6 (a1 : Addr) (pt : Int) (a3 a4 a5 a6 : Addr) : putK (k3 a1 pt a3 ++ [(.inr "wants", .ref a4), (.inr "bars", .ref a5)]) (.inr "gives") (.ref a6) = k6 a1 pt a3 a4 a5 a6 := rfl
theorem put5' (a1 : Addr) (pt : Int) (a3 a4 a5 a6 b5 : Addr) : putK (k6 a1 pt a3 a4 a5 a6) (.inr "bars") (.ref b5) = k6 a1 pt a3 a4 b5 a6 := rfl
theorem put6' (a1 : Addr) (pt : Int) (a3 a4 a5 a6 b6 : Addr) : putK (k6 a1 pt a3 a4 a5 a6) (.inr "gives") (.ref b6) = k6 a1 pt a3 a4 a5 b6 := rfl
theorem put7 (a1 : Addr) (pt : Int) (a3 a4 a5 a6 a7 : Addr) : putK (k6 a1 pt a3 a4 a5 a6) (.inr "prices") (.ref a7) = k6 a1 pt a3 a4 a5 a6 ++ [(.inr "prices", .ref a7)] := rfl
theorem put8 (a1 : Addr) (pt : Int) (a3 a4 a5 a6 a7 : Addr) (r : V) : putK (k6 a1 pt a3 a4 a5 a6 ++ [(.inr "prices", .ref a7)]) (.inr "reset") r = bkL a1 pt a3 a4 a5 a6 a7 r := rfl
theorem get5 (a1 : Addr) (pt : Int) (a3 a4 a5 a6 : Addr) : valV (k6 a1 pt a3 a4 a5 a6) (.inr "bars") = some (.ref a5) := rfl
/-- a comprehension over a list, its turns leaving the list -/
theorem lc_seqG {K : PySem.W.Frag} {H1 : Hp} {a : Addr} {xs : List V} {g : TG} {tt : TT} {te : TE} {vs : List Nat} {σ : L2.St} {Q : Addr → Hp → Prop} (h : SqL K H1 a xs) (P : Addr → Nat → Hp → Prop) (h0 : ∀ D, H1 D = none → P D 0 (upd H1 D (.lst [])))
    (hs : ∀ D i H, H1 D = none → P D i H → SqL K H a xs)
    (turn : ∀ D, H1 D = none → ∀ i x H, xs[i]? = some x → P D i H → g x (wipe σ vs) H fun σ2 H2 => wipe σ2 vs = wipe σ vs ∧ tt σ2 H2 fun b H3 =>
      if b = true then te σ2 H3 fun y H4 => ∃ acc, H4 D = some (.lst acc) ∧ acc.length < sizeLine ∧ P D (i + 1) (upd H4 D (.lst (acc ++ [y]))) else P D (i + 1) H3)
    (fin : ∀ D H, H1 D = none → P D xs.length H → Q D H) :
    ((∃ xs, SqL K H1 a xs) ∧ LcR g tt te vs σ Q (Itl K a) H1) ∨ ((∃ xs, SqT K H1 a xs) ∧ LcR g tt te vs σ Q (Itt K a) H1) := by
  refine .inl ⟨⟨xs, h⟩, fun D nD => ?_⟩
  refine lc_it walk_list (P D) (h0 D nD) (fun i H _ p => hs D i H nD p) ?_ (fun H p => fin D H nD p)
  rintro i x H2 H3 hi p ⟨rfl, hx⟩
  exact turn D nD i x H3 hx p
theorem n1_ok : N1.Nodup ∧ (N1.all PyData.strOk) = true := by decide +kernel
theorem n2_ok : N2.Nodup ∧ (N2.all PyData.strOk) = true := by decide +kernel
theorem Skills.nd {sk : List (Str × Int)} (h : Skills sk) : (sk.map (·.1)).Nodup := by
  obtain ⟨N, n, hN, e⟩ := h.names
  rw [e]
  rcases hN with rfl | rfl
  · exact n1_ok.1.sublist (List.take_sublist _ _)
  · exact n2_ok.1.sublist (List.take_sublist _ _)
theorem Skills.oks {sk : List (Str × Int)} (h : Skills sk) : Oks (sk.map (·.1)) := by
  obtain ⟨N, n, hN, e⟩ := h.names
  rw [e]
  intro z hz
  rcases hN with rfl | rfl
  · exact List.all_eq_true.mp n1_ok.2 z (List.mem_of_mem_take hz)
  · exact List.all_eq_true.mp n2_ok.2 z (List.mem_of_mem_take hz)
theorem units65 {k : Nat} {A : Around} (r : Room (k + 1) A) : A.units + 65 < cLine := by have := r.un; omega
def spBook : Sp := fun vs H Q _ => ∃ (p : Addr) (top sort : Int), vs = [.ref p, .int top, .int sort] ∧ PoolAt H p ∧ 0 < top ∧ top ≤ 7 ∧ 0 ≤ sort ∧ sort ≤ 4 ∧
  ∀ (d : Addr) (B : Bk) (H' : Hp), H d = none → Aft p H H' → BkAt H' d B → BkOk sort B → Q (.ref d) H'
section
variable {P : Program} {w : World} {K : PySem.W.Frag} {mg : Str → Option Value} {base : Heap}
theorem cal_law_book (Z : All K mg) : Cal P w K mg base CX0 4 "_law_book" ["_law_pool_here", "_law_top", "_law_sort"] spBook := by
  obtain ⟨fd, F⟩ := Z.f_law_book
  have C_law_take : Cal P w K mg base CX0 1 "_law_take" ["_law_pool_here", "_law_bound"] spTake := cal_law_take Z
  have C_law_one : Cal P w K mg base CX0 2 "_law_one" ["_law_pool_here", "_law_things"] (spLone K) := cal_law_one Z
  have C_law_turned : Cal P w K mg base CX0 2 "_law_turned" ["_law_pool_here", "_law_things"] (spTurned K) := cal_law_turned Z
  have C_law_tree : Cal P w K mg base CX0 3 "_law_tree" ["_law_pool_here", "_law_top"] spTree := cal_law_tree Z
  have C_law_rows : Cal P w K mg base CX0 3 "_law_rows" ["_law_pool_here", "_law_names_here", "_law_top", "_law_words", "_law_is_down"] (spRowsW K) := cal_law_rows Z
  refine .of ⟨fd, F, ok0 F sc_law_book (fun vs H Q E h => ?_) (fun cdv A outer s H vs Q E hr h => ?_)⟩ Z.g_law_book (fun _ _ _ _ _ _ us hl => match us, hl with | [_, _, _], _ => rfl)
  · obtain ⟨p, top, sort, rfl, _⟩ := h
    rfl
  · obtain ⟨p, top, sort, rfl, hp, t0, t7, s0, s4, k⟩ := h
    refine ⟨_, (pss_cons (ps_asg (pe_cal C_law_tree (hr.mono (by decide)) (by rfl) pass0 (pa_cons (pv 0) (pa_cons (pv 1) pa_nil))) (pg_lst rfl (pgs_cons (pg_name (i := 3) sc_law_book.nd rfl (Or.inl rfl)) (pgs_cons (pg_name (i := 4) sc_law_book.nd rfl (Or.inl rfl)) pgs_nil))))
      (pss_cons (ps_setLc (i := 5) (own := [("_law_row", 10)]) (by rfl) sc_law_book.nd rfl rfl (sw_true rfl rfl rfl (by decide +kernel)) (pi_seq (pv 3)) (blkOk_by (own := [("_law_row", 10)]) (N := ["_law_pool_here", "_law_top", "_law_sort", "_law_rows_here", "_law_asked", "_law_names_here", "_law_words", "_law_book_here", "_law_turn", "_law_pair", "_law_row", "_law_name"]) (sc := defScope s_law_book) (by decide +kernel)) (fun _ _ _ _ _ => (pg_name (i := 10) sc_law_book.nd rfl (Or.inl rfl))) (fun _ _ _ _ _ => pts_nil) (fun _ _ _ _ _ => (pe_ix (show IxR _ (rIxT K) from ix_tup) (pv 10) pe_int (fun _ _ => rfl))))
      (pss_cons (ps_set (i := 6) sc_law_book.nd rfl (Or.inl rfl) (pe_ifExp (pt_cmpR op_eq (pv 2) pe_int (nomark _)) (pe_lst (pa_cons pe_str pa_nil)) (pe_lst (pa_cons pe_str (pa_cons pe_str (pa_cons pe_str (pa_cons pe_str pa_nil)))))))
      (pss_cons (ps_set (i := 7) sc_law_book.nd rfl (Or.inl rfl) (pe_disp (pps_cons pe_str (pv 3) (pps_cons pe_str (pe_cal C_law_one (hr.mono (by decide)) (by rfl) pass0 (pa_cons (pv 0) (pa_cons (pe_lst (pa_cons pe_int (pa_cons pe_int (pa_cons pe_int (pa_cons pe_int (pa_cons pe_int (pa_cons pe_int (pa_cons pe_int (pa_cons pe_int (pa_cons pe_int (pa_cons pe_int pa_nil))))))))))) pa_nil))) (pps_cons pe_str (pv 4) pps_nil))) (by rfl) (by rfl) (fun z => by cases z) (by decide)))
      (pss_cons (ps_asg (pe_ifExp (pt_cmpR op_eq (pv 2) pe_int (nomark _)) (pe_lst pa_nil) (pe_cal C_law_rows (hr.mono (by decide)) (by rfl) pass0 (pa_cons (pv 0) (pa_cons (pv 5) (pa_cons pe_int (pa_cons (pv 6) (pa_cons (pe_cmpR op_lt (pv 2) pe_int (nomark _)) pa_nil))))))) (pg_sub (pv 7) pe_str (L2.set_dict (hu_of hr))))
      (pss_cons (ps_asg (pe_tup (pa_cons (pe_lst pa_nil) (pa_cons (pe_lst pa_nil) pa_nil))) (pg_tup rfl (pgs_cons (pg_sub (pv 7) pe_str (L2.set_dict (hu_of hr))) (pgs_cons (pg_sub (pv 7) pe_str (L2.set_dict (hu_of hr))) pgs_nil))))
      (pss_cons (ps_for PassesOwn.never rfl (pi_range1 (by rfl) Z.b_range (pa_cons (pe_ifExp (PW.pt (pw_and (pt_cmpR op_gt (pv 2) pe_int (nomark _)) (pw_and1 (pt_cmpR op_gt (pe_callB call_len (by rfl) Z.b_len PySem.boot_len (pa_cons (pv 5) pa_nil)) pe_int (nomark _))))) (pe_cal C_law_take (hr.mono (by decide)) (by rfl) pass0 (pa_cons (pv 0) (pa_cons pe_int pa_nil))) pe_int) pa_nil)) (pg_name (i := 8) sc_law_book.nd rfl (Or.inl rfl)) (pss_cons (ps_set (i := 9) sc_law_book.nd rfl (Or.inl rfl) (pe_callTy call_tuple_of (by rfl) Z.b_tuple PyProof.Rows.boot_tuple (pa_cons (pe_slice sl_list (pe_cal C_law_turned (hr.mono (by decide)) (by rfl) pass0 (pa_cons (pv 0) (pa_cons (pv 5) pa_nil))) po_none (po_some pe_int)) pa_nil)))
      (pss_one (ps_if (PW.pt (pw_and (pt_cmpR (op_notInD (units65 hr)) (pv 9) (pe_dget (hu_of hr) (pv 7) pe_str (fun _ _ => rfl)) rfl) (pw_and1 (pt_cmpR (op_notInD (units65 hr)) (pe_revT (pv 9)) (pe_dget (hu_of hr) (pv 7) pe_str (fun _ _ => rfl)) rfl)))) (pss_one (ps_asg (pe_op op_cat (pe_dget (hu_of hr) (pv 7) pe_str (fun _ _ => rfl)) (pe_lst (pa_cons (pv 9) pa_nil))) (pg_sub (pv 7) pe_str (L2.set_dict (hu_of hr))))) pss_nil))))
      (pss_cons (ps_if (pt_cmpR op_eq (pv 2) pe_int (nomark _)) (pss_one (ps_asg (pe_lc (own := [("_law_name", 11)]) (by rfl) sc_law_book.nd (pi_seq (pe_slice sl_list (pe_cal C_law_turned (hr.mono (by decide)) (by rfl) pass0 (pa_cons (pv 0) (pa_cons (pv 5) pa_nil))) po_none (po_some (pe_op op_add pe_int (pe_cal C_law_take (hr.mono (by decide)) (by rfl) pass0 (pa_cons (pv 0) (pa_cons pe_int pa_nil))))))) (blkOk_by (own := [("_law_name", 11)]) (N := ["_law_pool_here", "_law_top", "_law_sort", "_law_rows_here", "_law_asked", "_law_names_here", "_law_words", "_law_book_here", "_law_turn", "_law_pair", "_law_row", "_law_name"]) (sc := defScope s_law_book) (by decide +kernel)) (fun _ _ _ _ _ => (pg_name (i := 11) sc_law_book.nd rfl (Or.inl rfl))) (fun _ _ _ _ _ => pts_nil) (fun _ _ _ _ _ => (pe_tup (pa_cons (pv 11) (pa_cons (pe_op op_add pe_int (pe_cal C_law_take (hr.mono (by decide)) (by rfl) pass0 (pa_cons (pv 0) (pa_cons pe_int pa_nil)))) pa_nil))))) (pg_sub (pv 7) pe_str (L2.set_dict (hu_of hr))))) pss_nil)
      (pss_cons (ps_asg (pe_lc (own := [("_law_name", 11)]) (by rfl) sc_law_book.nd (pi_seq (pv 5)) (blkOk_by (own := [("_law_name", 11)]) (N := ["_law_pool_here", "_law_top", "_law_sort", "_law_rows_here", "_law_asked", "_law_names_here", "_law_words", "_law_book_here", "_law_turn", "_law_pair", "_law_row", "_law_name"]) (sc := defScope s_law_book) (by decide +kernel)) (fun _ _ _ _ _ => (pg_name (i := 11) sc_law_book.nd rfl (Or.inl rfl))) (fun _ _ _ _ _ => (pts_one (pt_cmpR op_eq (pe_cal C_law_take (hr.mono (by decide)) (by rfl) pass0 (pa_cons (pv 0) (pa_cons pe_int pa_nil))) pe_int (nomark _)))) (fun _ _ _ _ _ => (pe_tup (pa_cons (pv 11) (pa_cons (pe_cal C_law_one (hr.mono (by decide)) (by rfl) pass0 (pa_cons (pv 0) (pa_cons (pe_lst (pa_cons pe_int (pa_cons pe_int (pa_cons pe_int (pa_cons pe_int (pa_cons pe_int (pa_cons pe_int pa_nil))))))) pa_nil))) pa_nil))))) (pg_sub (pv 7) pe_str (L2.set_dict (hu_of hr))))
      (pss_cons (ps_asg (pe_cal C_law_one (hr.mono (by decide)) (by rfl) pass0 (pa_cons (pv 0) (pa_cons (pe_lst (pa_cons pe_non (pa_cons pe_non (pa_cons pe_int (pa_cons pe_int (pa_cons pe_int (pa_cons pe_int (pa_cons pe_int (pa_cons pe_int pa_nil))))))))) pa_nil))) (pg_sub (pv 7) pe_str (L2.set_dict (hu_of hr))))
      (pss_one (ps_ret (pv 7))))))))))))), ?_⟩
    refine ⟨_, rfl, _, rfl, p, top, rfl, hp, t0, t7, fun q a1 a3 x1 x3 sk nd H1 fq fa1 fa3 A1 hq ha1 r1 S1 ha3 r3 N1' n13 => ?_⟩
    refine ⟨q, [.ref a1, .ref a3], rfl, SqL.of hq, rfl, .ref a1, [.ref a3], rfl, .ref a3, [], rfl, rfl, ?_⟩
    have a1p : a1 ≠ p := hp.ne fa1
    have a3p : a3 ≠ p := hp.ne fa3
    have lx1 : x1.length = sk.length := by rw [r1.len, List.length_map]
    -- the names
    refine ⟨_, rfl, a1, rfl, lc_seq (.inl (SqL.of ha1)) (fun i => (sk.take i).map fun r => .str r.1) rfl ?_ ?_⟩
    · rintro D nD i x Ha hi lp
      obtain ⟨vs, hv, tp, rfl, htp⟩ := r1.get hi
      obtain ⟨r, hr', rfl⟩ : ∃ r, sk[i]? = some r ∧ vs = rS r := by
        rw [List.getElem?_map] at hv
        cases e : sk[i]? with
        | none => rw [e] at hv; cases hv
        | some r =>
          rw [e] at hv
          exact ⟨r, rfl, (Option.some.inj hv).symm⟩
      refine ⟨rfl, ?_⟩
      refine ⟨_, rfl, tp, rS r, 0, _, rfl, rfl, SqT.of (lp.same _ _ htp), rfl, ?_⟩
      exact lp.put nD (map_one _ hr') (line_of (m := 7) (by
        have q1 : ((sk.take i).map fun r => V.str r.1).length ≤ sk.length := by
          rw [List.length_map]
          exact List.length_take_le' _ _
        have q2 := S1.le
        omega) (by decide))
    rintro D H2 nD s2 hD
    have hD' : H2 D = some (.lst ((sk.map (·.1)).map V.str)) := by
      rw [hD, lx1, List.take_length, List.map_map]
      rfl
    clear hD
    have A2 := A1.same s2
    have Dp : D ≠ p := A1.pool.ne nD
    have ha1' := s2 _ _ ha1
    have r1' := r1.tk (Tk.of s2)
    have ha3' := s2 _ _ ha3
    have r3' := r3.tk (Tk.of s2)
    clear s2
    -- the words
    dsimp only [gName, tSeq, tAsg]
    refine by_ (fun x H' => ∃ (c : Addr) (ks : List Str), x = .ref c ∧ H2 c = none ∧ H' = upd H2 c (.lst (ks.map V.str)) ∧ 0 < ks.length ∧ ks.length ≤ 4 ∧ (∀ z ∈ ks, z ∈ (["all", "any", "any", "count"] : List Str)) ∧ (sort = 1 → ks = (["all"] : List Str))) (fun Q kQ => ?_) ?_
    · refine ⟨_, rfl, rfl, _, rfl, ifB (fun e => ?_) (fun e => ?_)⟩
      · exact ⟨(by show 1 ≤ sizeLine; decide), fun c nc => kQ _ _ ⟨c, ["all"], rfl, nc, rfl, by decide, by decide, by decide, fun _ => rfl⟩⟩
      · refine ⟨(by show 4 ≤ sizeLine; decide), fun c nc => kQ _ _ ⟨c, ["all", "any", "any", "count"], rfl, nc, rfl, by decide, by decide, by decide, fun h => ?_⟩⟩
        rw [h] at e
        exact absurd e (by decide)
    rintro x H' ⟨c, ks, rfl, nc, rfl, k0, k4, kin, k1⟩
    -- the book of three
    intro d nd_
    refine ⟨_, rfl, _, rfl, (by show 10 ≤ sizeLine; decide), fun ls nls => ?_⟩
    have A3 : Aft p H (upd (upd H2 c (.lst (ks.map V.str))) d (.dK [])) := (A2.new nc).new nd_
    have fd : H d = none := (A2.new nc).free' nd_
    have dp : d ≠ p := hp.ne fd
    have cp : c ≠ p := A2.pool.ne nc
    have hD3 : (upd (upd H2 c (.lst (ks.map V.str))) d (.dK [])) D = _ := Same.new nd_ _ _ (Same.new nc _ _ hD')
    have hc3 : (upd (upd H2 c (.lst (ks.map V.str))) d (.dK [])) c = _ := Same.new nd_ _ _ upd_same
    have l1 : LR (upd (upd H2 c (.lst (ks.map V.str))) d (.dK [])) a1 (sk.map rS) := ⟨x1, Same.new nd_ _ _ (Same.new nc _ _ ha1'), r1'.tk ((Tk.new nc).trans (Tk.new nd_))⟩
    have l3 : LR (upd (upd H2 c (.lst (ks.map V.str))) d (.dK [])) a3 (nd.map rI2) := ⟨x3, Same.new nd_ _ _ (Same.new nc _ _ ha3'), r3'.tk ((Tk.new nc).trans (Tk.new nd_))⟩
    have hd3 : (upd (upd H2 c (.lst (ks.map V.str))) d (.dK [])) d = some (.dK []) := upd_same
    obtain ⟨H3, eH3⟩ : ∃ H3, H3 = upd (upd H2 c (.lst (ks.map V.str))) d (.dK []) := ⟨_, rfl⟩
    rw [← eH3] at A3 hD3 hc3 l1 l3 hd3 nls ⊢
    clear eH3 nd_ nc ha1' r1' ha3' r3' hD' A2 A1 hq ha1 r1 ha3 r3
    refine ⟨p, ls, [0, 1, 2, 2, 3, 3, 4, 5, 7, 12].map V.int, rfl, (A3.new nls).pool, SqL.of upd_same, A3.pool.ne nls, (by show 0 < 10; decide), (by show 10 ≤ 1000; decide), fun xp H4 hxp A4' => ?_⟩
    obtain ⟨pt, rfl, pt0, pt1⟩ := small_in (lo := 0) (hi := 12) (by decide) hxp
    have A34 : Aft p H3 H4 := ((Aft.refl A3.pool).new nls).trans A4'
    have A4 := A3.trans A34
    have hd4 := A34.keep _ _ dp hd3
    refine ⟨_, rfl, hd4, k3 a1 pt a3, rfl, (by show 3 ≤ 15; decide), ?_⟩
    rw [merge3]
    have A45 : Aft p H (upd H4 d (.dK (k3 a1 pt a3))) := A4.put fd dp
    have hd5 : (upd H4 d (.dK (k3 a1 pt a3))) d = some (.dK (k3 a1 pt a3)) := upd_same
    have hD5 : (upd H4 d (.dK (k3 a1 pt a3))) D = some (.lst ((sk.map (·.1)).map V.str)) := by
      have q1 := A34.keep _ _ Dp hD3
      rw [upd_ne (ne_of q1 hd4 (by intro z; cases z))]
      exact q1
    have hc5 : (upd H4 d (.dK (k3 a1 pt a3))) c = some (.lst (ks.map V.str)) := by
      have q1 := A34.keep _ _ cp hc3
      rw [upd_ne (ne_of q1 hd4 (by intro z; cases z))]
      exact q1
    have l1' : LR (upd H4 d (.dK (k3 a1 pt a3))) a1 (sk.map rS) := (l1.go A34 A3.pool a1p).put hd4
    have l3' : LR (upd H4 d (.dK (k3 a1 pt a3))) a3 (nd.map rI2) := (l3.go A34 A3.pool a3p).put hd4
    obtain ⟨H5, eH5⟩ : ∃ H5, H5 = upd H4 d (.dK (k3 a1 pt a3)) := ⟨_, rfl⟩
    rw [← eH5] at A45 hd5 hD5 hc5 l1' l3' ⊢
    clear eH5 hd4 A4 A34 A4' hxp l1 l3 hd3 hc3 hD3 nls A3
    obtain ⟨ns, ens⟩ : ∃ ns, ns = sk.map (·.1) := ⟨_, rfl⟩
    have nsl : ns.length = sk.length := by rw [ens, List.length_map]
    have nsk : ns.Nodup := by rw [ens]; exact S1.nd
    have nso : Oks ns := by rw [ens]; exact S1.oks
    have sk7 := S1.le
    have sk0 := S1.ne
    -- the wants
    dsimp only
    refine by_ (fun x H' => ∃ (a4 : Addr) (wl : List Want), x = .ref a4 ∧ a4 ≠ p ∧ Aft p H5 H' ∧ LW H' a4 wl ∧ (∀ w ∈ wl, WantOk ns ks (decide (sort < 3)) w) ∧ wl.length ≤ 4 ∧ (sort = 0 → wl = [])) (fun Q kQ => ?_) ?_
    · refine ⟨_, rfl, rfl, _, rfl, ifB (fun e => ?_) (fun e => ?_)⟩
      · exact ⟨(by show 0 ≤ sizeLine; decide), fun a n => kQ _ _ ⟨a, [], rfl, A45.pool.ne n, (Aft.refl A45.pool).new n, ⟨[], upd_same, .nil⟩, fun w hw => (nomatch hw), by decide, fun _ => rfl⟩⟩
      · refine ⟨_, rfl, _, rfl, _, rfl, _, rfl, _, _, rfl, rfl, ?_⟩
        refine ⟨p, D, c, ns, ks, 4, decide (sort < 3), rfl, A45.pool, SqL.of (by rw [ens]; exact hD5), Dp, SqL.of hc5, cp, by decide, by decide, nso, nsk, by omega, by omega, k0, by omega, fun a xs wl H6 na A6 ha rows okw lw => ?_⟩
        refine kQ _ _ ⟨a, wl, rfl, A45.pool.ne na, A6, ⟨xs, ha, rows⟩, okw, by omega, fun h => ?_⟩
        rw [h] at e
        exact absurd e (by decide)
    rintro x H6 ⟨a4, wl, rfl, a4p, A6, l4, okw, lw, w0⟩
    have hd6 := A6.keep _ _ dp hd5
    refine ⟨_, rfl, d, _, rfl, DPut.k (k := .inr "wants") hd6 (by show 3 < sizeLine; decide), ?_⟩
    rw [put4]
    have b4 : BSt p d a1 a3 a4 D sk nd wl (k3 a1 pt a3 ++ [(.inr "wants", .ref a4)]) H (upd H6 d (.dK (k3 a1 pt a3 ++ [(.inr "wants", .ref a4)]))) :=
      BSt.put (kvs := k3 a1 pt a3) ⟨A45.trans A6, fd, hd6, l1'.go A6 A45.pool a1p, l3'.go A6 A45.pool a3p, l4, A6.keep _ _ Dp hD5, dp, a1p, a3p, a4p, Dp⟩
    obtain ⟨H7, eH7⟩ : ∃ H7, H7 = upd H6 d (.dK (k3 a1 pt a3 ++ [(.inr "wants", .ref a4)])) := ⟨_, rfl⟩
    rw [← eH7] at b4 ⊢
    clear eH7 hd6 l4 A6 l1' l3' hc5 hD5 hd5 A45
    -- the bars, the gives
    refine ⟨(by show 0 ≤ sizeLine; decide), fun a5 n5 => ⟨(by show 0 ≤ sizeLine; decide), fun a6 n6 => ⟨(by show 2 ≤ sizeLine; decide), fun tp ntp => ?_⟩⟩⟩
    have b5 := ((b4.new (o := .lst []) n5).new (o := .lst []) n6).new (o := .tup [.ref a5, .ref a6]) ntp
    have h5 : LR (upd (upd (upd H7 a5 (.lst [])) a6 (.lst [])) tp (.tup [.ref a5, .ref a6])) a5 [] := ⟨[], Same.new ntp _ _ (Same.new n6 _ _ upd_same), .nil⟩
    have h6 : LR (upd (upd (upd H7 a5 (.lst [])) a6 (.lst [])) tp (.tup [.ref a5, .ref a6])) a6 [] := ⟨[], Same.new ntp _ _ upd_same, .nil⟩
    have a5p : a5 ≠ p := b4.aft.pool.ne n5
    have a6p : a6 ≠ p := (b4.new (o := .lst []) n5).aft.pool.ne n6
    refine ⟨tp, _, rfl, SqT.of upd_same, rfl, .ref a5, _, rfl, _, rfl, d, _, rfl, DPut.k (k := .inr "bars") b5.dict (by show 4 < sizeLine; decide), .ref a6, _, rfl, ?_⟩
    rw [put5]
    have b6 := b5.put (kvs' := k3 a1 pt a3 ++ [(.inr "wants", .ref a4), (.inr "bars", .ref a5)])
    refine ⟨_, rfl, d, _, rfl, DPut.k (k := .inr "gives") b6.dict (by show 5 < sizeLine; decide), rfl, ?_⟩
    rw [put6]
    have b7 := b6.put (kvs' := k6 a1 pt a3 a4 a5 a6)
    have h5' := (h5.put (kvs' := k3 a1 pt a3 ++ [(.inr "wants", .ref a4), (.inr "bars", .ref a5)]) b5.dict).put (kvs' := k6 a1 pt a3 a4 a5 a6) b6.dict
    have h6' := (h6.put (kvs' := k3 a1 pt a3 ++ [(.inr "wants", .ref a4), (.inr "bars", .ref a5)]) b5.dict).put (kvs' := k6 a1 pt a3 a4 a5 a6) b6.dict
    revert b7 h5' h6'
    generalize upd (upd (upd (upd (upd H7 a5 (.lst [])) a6 (.lst [])) tp (.tup [.ref a5, .ref a6])) d (.dK (k3 a1 pt a3 ++ [(.inr "wants", .ref a4), (.inr "bars", .ref a5)]))) d (.dK (k6 a1 pt a3 a4 a5 a6)) = H8
    intro b7 h5' h6'
    clear b6 h5 h6 b5 ntp n6 n5 b4
    -- the bars, turn by turn
    dsimp only [tSeq]
    refine for_rng_by (fun n H' => 0 ≤ n ∧ n ≤ 2 ∧ Aft p H8 H' ∧ (n ≠ 0 → 1 < sort ∧ 1 < ns.length)) (fun Q kQ => ?_) ?_
    · have hz : Q (.int 0) H8 := kQ _ _ ⟨by decide, by decide, Aft.refl b7.aft.pool, fun h => absurd rfl h⟩
      refine ⟨_, rfl, _, _, rfl, rfl, _, rfl, ifB (fun e => ?_) (fun e => hz)⟩
      refine ⟨_, rfl, _, _, rfl, .inl ⟨_, SqL.of b7.names, rfl⟩, _, _, rfl, rfl, _, rfl, ifB (fun e2 => ?_) (fun e2 => hz)⟩
      refine ⟨_, rfl, p, _, rfl, b7.aft.pool, by decide, by decide, fun r H' r0 r1 a => kQ _ _ ⟨r0, by omega, a, fun _ => ⟨of_decide_eq_true e, ?_⟩⟩⟩
      have q1 := of_decide_eq_true e2
      rw [List.length_map, ← ens] at q1
      omega
    rintro n H9 ⟨n0, n2, A9, hn⟩
    refine ⟨by omega, by omega, fun i σ Hh => ∃ (s8 s9 : Option V) (c5 : Addr) (bars : List (Str × Str)), σ = [some (.ref p), some (.int top), some (.int sort), some (.ref a1), some (.ref a3), some (.ref D), some (.ref c), some (.ref d), s8, s9, none, none] ∧
      BSt p d a1 a3 a4 D sk nd wl (k6 a1 pt a3 a4 c5 a6) H Hh ∧ LR Hh c5 (bars.map rB) ∧ c5 ≠ p ∧ LR Hh a6 [] ∧ BarsOk ns bars ∧ bars.length ≤ i, ⟨_, _, a5, [], rfl, b7.go A9, h5'.go A9 b7.aft.pool a5p, a5p, h6'.go A9 b7.aft.pool a6p, ⟨fun b hb => (nomatch hb), List.Pairwise.nil⟩, Nat.le_refl _⟩, ?_, ?_⟩
    · rintro i σ Hh hi ⟨s8, s9, c5, bars, rfl, b, l5, c5p, l6, bok, bl⟩
      have hsn := hn (by omega)
      refine ⟨_, rfl, _, rfl, p, D, ns, rfl, b.aft.pool, SqL.of (by rw [ens]; exact b.names), nso, Dp, by omega, fun q1 ys H6 nq a6 hq pm => ?_⟩
      have q1p : q1 ≠ p := b.aft.pool.ne nq
      have b6 := b.go a6
      have l56 := l5.go a6 b.aft.pool c5p
      have l66 := l6.go a6 b.aft.pool a6p
      obtain ⟨y1, y2, yr, rfl⟩ : ∃ y1 y2 yr, ys = y1 :: y2 :: yr := by
        have e1 := pm.length_eq
        match ys, e1 with
        | [], e1 => simp at e1; omega
        | [y], e1 => simp at e1; omega
        | y1 :: y2 :: yr, _ => exact ⟨y1, y2, yr, rfl⟩
      have ynd : y1 ≠ y2 := by
        have e1 := (List.nodup_cons.mp (pm.nodup_iff.mpr nsk)).1
        exact fun e => e1 (by rw [e]; exact List.mem_cons_self)
      have y1n : y1 ∈ ns := pm.mem_iff.mp List.mem_cons_self
      have y2n : y2 ∈ ns := pm.mem_iff.mp (List.mem_cons_of_mem _ List.mem_cons_self)
      refine ⟨_, rfl, q1, _, rfl, SqL.of hq, fun n nn => ?_⟩
      have e3 : cutV ((y1 :: y2 :: yr).map V.str) none (some 2) = [.str y1, .str y2] := cut_take _ 2
      rw [e3]
      refine ⟨n, _, rfl, .inl ⟨SqL.of upd_same, fun tp ntp => ?_⟩⟩
      have b7' := (b6.new (o := .lst [.str y1, .str y2]) nn).new (o := .tup [.str y1, .str y2]) ntp
      have l57 := (l56.go ((Aft.refl b6.aft.pool).new (o := .lst [.str y1, .str y2]) nn) b6.aft.pool c5p).go ((Aft.refl (b6.new (o := .lst [.str y1, .str y2]) nn).aft.pool).new (o := .tup [.str y1, .str y2]) ntp) (b6.new (o := .lst [.str y1, .str y2]) nn).aft.pool c5p
      have l67 := (l66.go ((Aft.refl b6.aft.pool).new (o := .lst [.str y1, .str y2]) nn) b6.aft.pool a6p).go ((Aft.refl (b6.new (o := .lst [.str y1, .str y2]) nn).aft.pool).new (o := .tup [.str y1, .str y2]) ntp) (b6.new (o := .lst [.str y1, .str y2]) nn).aft.pool a6p
      have htp : (upd (upd H6 n (.lst [.str y1, .str y2])) tp (.tup [.str y1, .str y2])) tp = some (.tup (rB (y1, y2))) := upd_same
      obtain ⟨H7, eH7⟩ : ∃ H7, H7 = upd (upd H6 n (.lst [.str y1, .str y2])) tp (.tup [.str y1, .str y2]) := ⟨_, rfl⟩
      rw [← eH7] at b7' l57 l67 htp ⊢
      clear eH7 ntp nn e3 l56 l66 b6 hq a6 nq l5 l6 b
      have okb : OkB ns bars := fun x hx => ⟨(bok.in_ x hx).1, (bok.in_ x hx).2.1⟩
      obtain ⟨xs, h5, rows⟩ := l57
      have lx : xs.length ≤ 1 := by
        have e1 := rows.len
        rw [List.length_map] at e1
        omega
      have again : ∃ (s8 s9 : Option V) (c5 : Addr) (bars : List (Str × Str)), ([some (.ref p), some (.int top), some (.int sort), some (.ref a1), some (.ref a3), some (.ref D), some (.ref c), some (.ref d), some (.int (0 + (i : Int))), some (.ref tp), none, none] : L2.St) = [some (.ref p), some (.int top), some (.int sort), some (.ref a1), some (.ref a3), some (.ref D), some (.ref c), some (.ref d), s8, s9, none, none] ∧
        BSt p d a1 a3 a4 D sk nd wl (k6 a1 pt a3 a4 c5 a6) H H7 ∧ LR H7 c5 (bars.map rB) ∧ c5 ≠ p ∧ LR H7 a6 [] ∧ BarsOk ns bars ∧ bars.length ≤ i + 1 := ⟨_, _, c5, bars, rfl, b7', ⟨xs, h5, rows⟩, c5p, l67, bok, by omega⟩
      refine ⟨_, rfl, _, rfl, d, _, rfl, DGet.k (k := .inr "bars") b7'.dict, tB (y1, y2), bars.map tB, dp_tB htp, .lst (SqL.of h5) (dp_bars rows), shaped_tB (nso _ y1n) (nso _ y2n), shaped_bars nso okb, _, rfl, ifB (fun e => ?_) (fun e => ?_)⟩
      · refine ⟨_, rfl, tp, _, _, rfl, SqT.of htp, fun rp nrp => ?_⟩
        have b8 := b7'.new (o := .tup [.str y2, .str y1]) nrp
        have h58 : (upd H7 rp (.tup [.str y2, .str y1])) c5 = some (.lst xs) := Same.new nrp _ _ h5
        have rows8 : Rws (upd H7 rp (.tup [.str y2, .str y1])) xs (bars.map rB) := rows.tk (Tk.new nrp)
        have htp8 : (upd H7 rp (.tup [.str y2, .str y1])) tp = some (.tup (rB (y1, y2))) := Same.new nrp _ _ htp
        have hrp8 : (upd H7 rp (.tup [.str y2, .str y1])) rp = some (.tup (rB (y2, y1))) := upd_same
        have l68 := l67.go ((Aft.refl b7'.aft.pool).new (o := .tup [.str y2, .str y1]) nrp) b7'.aft.pool a6p
        obtain ⟨H8', eH8⟩ : ∃ H8', H8' = upd H7 rp (.tup [.str y2, .str y1]) := ⟨_, rfl⟩
        rw [← eH8] at b8 h58 rows8 htp8 hrp8 l68 ⊢
        clear eH8
        have again8 : ∃ (s8 s9 : Option V) (c5 : Addr) (bars : List (Str × Str)), ([some (.ref p), some (.int top), some (.int sort), some (.ref a1), some (.ref a3), some (.ref D), some (.ref c), some (.ref d), some (.int (0 + (i : Int))), some (.ref tp), none, none] : L2.St) = [some (.ref p), some (.int top), some (.int sort), some (.ref a1), some (.ref a3), some (.ref D), some (.ref c), some (.ref d), s8, s9, none, none] ∧
          BSt p d a1 a3 a4 D sk nd wl (k6 a1 pt a3 a4 c5 a6) H H8' ∧ LR H8' c5 (bars.map rB) ∧ c5 ≠ p ∧ LR H8' a6 [] ∧ BarsOk ns bars ∧ bars.length ≤ i + 1 := ⟨_, _, c5, bars, rfl, b8, ⟨xs, h58, rows8⟩, c5p, l68, bok, by omega⟩
        refine ⟨_, rfl, d, _, rfl, DGet.k (k := .inr "bars") b8.dict, tB (y2, y1), bars.map tB, dp_tB hrp8, .lst (SqL.of h58) (dp_bars rows8), shaped_tB (nso _ y2n) (nso _ y1n), shaped_bars nso okb, _, rfl, ifB (fun e2 => ?_) (fun e2 => again8)⟩
        refine ⟨_, rfl, d, _, rfl, DGet.k (k := .inr "bars") b8.dict, _, rfl, (by show 1 ≤ sizeLine; decide), fun l1 nl1 => ?_⟩
        refine ⟨c5, l1, _, _, rfl, rfl, Same.new nl1 _ _ h58, upd_same, ?_, fun nb nnb => ?_⟩
        · have e1 : (2 : Nat) ≤ sizeLine := by decide
          show xs.length + 1 ≤ sizeLine
          omega
        have b9 := (b8.new (o := .lst [.ref tp]) nl1).new (o := .lst (xs ++ [.ref tp])) nnb
        refine ⟨_, rfl, d, _, rfl, DPut.k (k := .inr "bars") b9.dict (by show 6 < sizeLine; decide), ?_⟩
        rw [put5']
        have rows9 : Rws (upd (upd H8' l1 (.lst [.ref tp])) nb (.lst (xs ++ [.ref tp]))) (xs ++ [.ref tp]) ((bars ++ [(y1, y2)]).map rB) := by
          rw [List.map_append]
          exact Rws.snoc ⟨tp, rfl, Same.new nnb _ _ (Same.new nl1 _ _ htp8)⟩ (rows8.tk ((Tk.new nl1).trans (Tk.new nnb)))
        have l59 : LR (upd (upd H8' l1 (.lst [.ref tp])) nb (.lst (xs ++ [.ref tp]))) nb ((bars ++ [(y1, y2)]).map rB) := ⟨_, upd_same, rows9⟩
        have l69 := (l68.go ((Aft.refl b8.aft.pool).new (o := .lst [.ref tp]) nl1) b8.aft.pool a6p).go ((Aft.refl (b8.new (o := .lst [.ref tp]) nl1).aft.pool).new (o := .lst (xs ++ [.ref tp])) nnb) (b8.new (o := .lst [.ref tp]) nl1).aft.pool a6p
        refine ⟨_, _, nb, bars ++ [(y1, y2)], rfl, b9.put, l59.put b9.dict, (b8.new (o := .lst [.ref tp]) nl1).aft.pool.ne nnb, l69.put b9.dict, ⟨fun x hx => ?_, ?_⟩, ?_⟩
        · rcases List.mem_append.mp hx with hx | hx
          · exact bok.in_ x hx
          · rw [List.mem_singleton.mp hx]
            exact ⟨y1n, y2n, ynd⟩
        · exact asc_snoc bok.un fun y hy => ⟨no_bar e y hy, no_bar e2 y hy⟩
        · rw [List.length_append]
          show bars.length + 1 ≤ i + 1
          omega
      · exact again
    · rintro σ Hh ⟨s8, s9, c5, bars, rfl, b, l5, c5p, l6, bok, bl⟩
      have n2' : n.toNat ≤ 2 := by omega
      have bars2 : bars.length ≤ 2 := by omega
      have bars0 : sort ≤ 1 → bars = [] := fun h => by
        have e1 : n = 0 := by
          by_cases e : n = 0
          · exact e
          · have := (hn e).1
            omega
        rw [e1] at bl
        exact List.eq_nil_of_length_eq_zero (Nat.le_zero.mp bl)
      dsimp only [tSeq]
      -- the gives
      refine ts_by (fun σ' H' => σ' = [some (.ref p), some (.int top), some (.int sort), some (.ref a1), some (.ref a3), some (.ref D), some (.ref c), some (.ref d), s8, s9, none, none] ∧ ∃ (c6 : Addr) (gives : List (Str × Int)), BSt p d a1 a3 a4 D sk nd wl (k6 a1 pt a3 a4 c5 c6) H H' ∧ LR H' c5 (bars.map rB) ∧ c6 ≠ p ∧
        LR H' c6 (gives.map rS) ∧ ToldOk ns 1 3 gives ∧ (sort ≠ 4 → gives = [])) (fun D' kD => ?_) ?_
      · refine ⟨_, rfl, rfl, _, rfl, ifB (fun e => ?_) (fun e => kD _ _ ⟨rfl, a6, [], b, l5, a6p, l6, ⟨fun g hg => (nomatch hg), List.nodup_nil⟩, fun _ => rfl⟩)⟩
        refine ⟨_, rfl, _, rfl, p, D, ns, rfl, b.aft.pool, SqL.of (by rw [ens]; exact b.names), nso, Dp, by omega, fun q1 ys H6 nq a6' hq pm => ?_⟩
        have q1p : q1 ≠ p := b.aft.pool.ne nq
        refine ⟨_, rfl, p, _, rfl, a6'.pool, by decide, by decide, fun r H7 r0 r1 a7 => ⟨_, _, rfl, rfl, _, rfl, q1, _, rfl, SqL.of (a7.keep _ _ q1p hq), fun n' nn => ?_⟩⟩
        have z1 : 1 + r = (((1 + r).toNat : Nat) : Int) := by omega
        have e3 : cutV (ys.map V.str) none (some (1 + r)) = (ys.take (1 + r).toNat).map V.str := by
          rw [z1, cut_take, ← List.map_take]
          rfl
        rw [e3]
        obtain ⟨zs, ezs⟩ : ∃ zs, zs = ys.take (1 + r).toNat := ⟨_, rfl⟩
        have znd : zs.Nodup := by rw [ezs]; exact (pm.nodup_iff.mpr nsk).sublist (List.take_sublist _ _)
        have zin : ∀ z ∈ zs, z ∈ ns := fun z hz => by
          rw [ezs] at hz
          exact pm.mem_iff.mp (List.mem_of_mem_take hz)
        have zl : zs.length ≤ 7 := by
          have e1 := pm.length_eq
          have e2 : zs.length ≤ ys.length := by rw [ezs]; exact List.length_take_le' _ _
          omega
        rw [← ezs]
        have aS : Aft p Hh (upd H7 n' (.lst (zs.map V.str))) := (a6'.trans a7).new nn
        have hn' : (upd H7 n' (.lst (zs.map V.str))) n' = some (.lst (zs.map V.str)) := upd_same
        have n'p : n' ≠ p := a7.pool.ne nn
        obtain ⟨HS, eHS⟩ : ∃ HS, HS = upd H7 n' (.lst (zs.map V.str)) := ⟨_, rfl⟩
        rw [← eHS] at aS hn' ⊢
        clear eHS ezs e3 z1 nn a7 hq a6' nq pm
        refine ⟨n', rfl, lc_seqG (SqL.of hn') (fun C i Hx => Aft p HS Hx ∧ ∃ gs : List (Str × Int), LR Hx C (gs.map rS) ∧ gs.map (·.1) = zs.take i ∧ ∀ g ∈ gs, 1 ≤ g.2 ∧ g.2 ≤ 3)
          (fun C nC => ⟨(Aft.refl aS.pool).new nC, [], ⟨[], upd_same, .nil⟩, rfl, fun g hg => (nomatch hg)⟩) (fun C i Hx _ P => SqL.of (P.1.keep _ _ n'p hn')) ?_ ?_⟩
        · rintro C nC i x Hx hi' ⟨ax, gs, ⟨xs, hC, rows⟩, en, bd⟩
          have Cp : C ≠ p := aS.pool.ne nC
          obtain ⟨z, rfl, hz⟩ := strs_get hi'
          have lx : xs.length ≤ 7 := by
            have e1 := rows.len
            rw [List.length_map] at e1
            have e2 := congrArg List.length en
            rw [List.length_map] at e2
            have e3 := List.length_take_le' i zs
            omega
          refine ⟨rfl, _, rfl, _, rfl, p, _, rfl, ax.pool, by decide, by decide, fun r' H2 r0' r1' a2 => ⟨_, _, rfl, rfl, (by show 2 ≤ sizeLine; decide), fun tp ntp => ?_⟩⟩
          have hC2 := a2.keep _ _ Cp hC
          have rows2 := rows.tk (a2.tk ax.pool)
          have tpC : tp ≠ C := (ne_of_none hC2 ntp).symm
          refine ⟨xs, Same.new ntp _ _ hC2, line_of (m := 7) lx (by decide), ((ax.trans a2).new ntp).put nC Cp, gs ++ [(z, 1 + r')], ⟨_, upd_same, ?_⟩, ?_, ?_⟩
          · rw [List.map_append]
            exact Rws.snoc ⟨tp, rfl, by rw [upd_ne tpC]; exact upd_same⟩ (rows2.tk ((Tk.new ntp).trans (Tk.lst (xs := xs) (Same.new ntp _ _ hC2))))
          · rw [List.map_append, en]
            exact (take_one hz).symm
          · intro g hg
            rcases List.mem_append.mp hg with hg | hg
            · exact bd g hg
            · rw [List.mem_singleton.mp hg]
              exact ⟨by show 1 ≤ 1 + r'; omega, by show 1 + r' ≤ 3; omega⟩
        · rintro C Hx nC ⟨ax, gs, lC, en, bd⟩
          have bx := (b.go aS).go ax
          have l5x := (l5.go aS b.aft.pool c5p).go ax aS.pool c5p
          have en' : gs.map (·.1) = zs := by
            rw [en, List.length_map, List.take_length]
          refine ⟨_, rfl, d, _, rfl, DPut.k (k := .inr "gives") bx.dict (by show 6 < sizeLine; decide), ?_⟩
          rw [put6']
          refine kD _ _ ⟨rfl, C, gs, bx.put, l5x.put bx.dict, aS.pool.ne nC, lC.put bx.dict, ⟨fun g hg => ⟨zin _ ?_, bd g hg⟩, by rw [en']; exact znd⟩, fun h => ?_⟩
          · rw [← en']
            exact List.mem_map_of_mem hg
          · have e1 : sort = 4 := by
              have q := of_decide_eq_true e
              injection q
            exact absurd e1 h
      rintro σ' Hg ⟨rfl, c6, gives, b2, l52, c6p, l62, gok, g0⟩
      -- the prices
      have hDn : Hg D = some (.lst (ns.map V.str)) := by rw [ens]; exact b2.names
      refine ⟨_, rfl, D, rfl, lc_seqG (SqL.of hDn) (fun C i Hx => Aft p Hg Hx ∧ ∃ gs : List (Str × Int), LR Hx C (gs.map rS) ∧ (gs.map (·.1)).Sublist (ns.take i) ∧ gs.length ≤ i ∧ ∀ g ∈ gs, 0 ≤ g.2 ∧ g.2 ≤ 99)
        (fun C nC => ⟨(Aft.refl b2.aft.pool).new nC, [], ⟨[], upd_same, .nil⟩, List.nil_sublist _, Nat.le_refl _, fun g hg => (nomatch hg)⟩) (fun C i Hx _ P => SqL.of (P.1.keep _ _ Dp hDn)) ?_ ?_⟩
      · rintro C nC i x Hx hi' ⟨ax, gs, ⟨xs, hC, rows⟩, sub, gl, bd⟩
        have Cp : C ≠ p := b2.aft.pool.ne nC
        obtain ⟨z, rfl, hz⟩ := strs_get hi'
        have il : i < ns.length := (List.getElem?_eq_some_iff.mp hz).1
        have lx : xs.length ≤ 7 := by
          have e1 := rows.len
          rw [List.length_map] at e1
          omega
        have sub' : (ns.take i).Sublist (ns.take (i + 1)) := by
          rw [take_one hz]
          exact List.sublist_append_left _ _
        refine ⟨rfl, _, rfl, p, _, rfl, ax.pool, by decide, by decide, fun r' H2 r0' r1' a2 => ⟨rfl, _, rfl, ifB (fun e => ?_) (fun e => ?_)⟩⟩
        · refine ⟨_, rfl, _, rfl, (by show 6 ≤ sizeLine; decide), fun ls nls => ?_⟩
          refine ⟨p, ls, [0, 1, 2, 3, 7, 99].map V.int, rfl, (a2.new nls).pool, SqL.of upd_same, a2.pool.ne nls, (by show 0 < 6; decide), (by show 6 ≤ 1000; decide), fun xp H4 hxp a4' => ?_⟩
          obtain ⟨pr, rfl, pr0, pr1⟩ := small_in (lo := 0) (hi := 99) (by decide) hxp
          refine ⟨(by show 2 ≤ sizeLine; decide), fun tp ntp => ?_⟩
          have ax4 : Aft p Hx H4 := (a2.new nls).trans a4'
          have hC4 := ax4.keep _ _ Cp hC
          have rows4 := rows.tk (ax4.tk ax.pool)
          have tpC : tp ≠ C := (ne_of_none hC4 ntp).symm
          refine ⟨xs, Same.new ntp _ _ hC4, line_of (m := 7) lx (by decide), ((ax.trans ax4).new ntp).put nC Cp, gs ++ [(z, pr)], ⟨_, upd_same, ?_⟩, ?_, ?_, ?_⟩
          · rw [List.map_append]
            exact Rws.snoc ⟨tp, rfl, by rw [upd_ne tpC]; exact upd_same⟩ (rows4.tk ((Tk.new ntp).trans (Tk.lst (xs := xs) (Same.new ntp _ _ hC4))))
          · rw [List.map_append, take_one hz]
            exact sub.append (List.Sublist.refl _)
          · rw [List.length_append]
            show gs.length + 1 ≤ i + 1
            omega
          · intro g hg
            rcases List.mem_append.mp hg with hg | hg
            · exact bd g hg
            · rw [List.mem_singleton.mp hg]
              exact ⟨pr0, pr1⟩
        · exact ⟨ax.trans a2, gs, LR.go ⟨xs, hC, rows⟩ a2 ax.pool Cp, sub.trans sub', by omega, bd⟩
      rintro a7 Hx n7 ⟨ax, prices, l7, sub, _, bd⟩
      rw [List.length_map, List.take_length] at sub
      have a7p : a7 ≠ p := b2.aft.pool.ne n7
      have b3 := b2.go ax
      have l53 := l52.go ax b2.aft.pool c5p
      have l63 := l62.go ax b2.aft.pool c6p
      refine ⟨_, rfl, d, _, rfl, DPut.k (k := .inr "prices") b3.dict (by show 6 < sizeLine; decide), ?_⟩
      rw [put7]
      have b4 := b3.put (kvs' := k6 a1 pt a3 a4 c5 c6 ++ [(.inr "prices", .ref a7)])
      have l54 := l53.put (kvs' := k6 a1 pt a3 a4 c5 c6 ++ [(.inr "prices", .ref a7)]) b3.dict
      have l64 := l63.put (kvs' := k6 a1 pt a3 a4 c5 c6 ++ [(.inr "prices", .ref a7)]) b3.dict
      have l74 := l7.put (kvs' := k6 a1 pt a3 a4 c5 c6 ++ [(.inr "prices", .ref a7)]) b3.dict
      revert b4 l54 l64 l74
      generalize upd Hx d (.dK (k6 a1 pt a3 a4 c5 c6 ++ [(.inr "prices", .ref a7)])) = Hy
      intro b4 l54 l64 l74
      clear l53 l63 l7 b3 ax
      -- the reset
      refine ⟨_, rfl, (by show 8 ≤ sizeLine; decide), fun ls nls => ?_⟩
      refine ⟨p, ls, ([none, none, some 0, some 1, some 2, some 4, some 9, some 99] : List (Option Int)).map oV, rfl, (b4.aft.pool.same (Same.new nls)), SqL.of upd_same, b4.aft.pool.ne nls, (by show 0 < 8; decide), (by show 8 ≤ 1000; decide), fun xr Hz hxr az => ?_⟩
      obtain ⟨r, hr', rfl⟩ := List.mem_map.mp hxr
      have rb : ∀ i, r = some i → 0 ≤ i ∧ i ≤ 99 := fun i e => by
        subst e
        simp at hr'
        omega
      have ay : Aft p Hy Hz := ((Aft.refl b4.aft.pool).new nls).trans az
      have b5 := b4.go ay
      refine ⟨_, rfl, d, _, rfl, DPut.k (k := .inr "reset") b5.dict (by show 7 < sizeLine; decide), ?_⟩
      rw [put8]
      have b6 := b5.put (kvs' := bkL a1 pt a3 a4 c5 c6 a7 (oV r))
      refine ⟨_, rfl, k d ⟨sk, pt, nd, wl, bars, gives, prices, r⟩ _ fd b6.aft ⟨a1, a3, a4, c5, c6, a7, upd_same, b6.l1, b6.l3, b6.l4, (l54.go ay b4.aft.pool c5p).put b5.dict, (l64.go ay b4.aft.pool c6p).put b5.dict, (l74.go ay b4.aft.pool a7p).put b5.dict⟩
        ⟨S1, ⟨pt0, pt1⟩, N1', ?_, ?_, w0, lw, by rw [ens] at bok; exact bok, bars2, bars0, by rw [ens] at gok; exact gok, g0, ⟨fun g hg => ⟨?_, bd g hg⟩, ?_⟩, rb⟩⟩
      · intro w hw
        have q := okw w hw
        rw [ens] at q
        exact ⟨kin _ q.kind, q.many, q.ne, q.nd, q.all, q.at_, q.out⟩
      · intro h w hw
        have q := (okw w hw).kind
        rw [k1 h] at q
        exact List.mem_singleton.mp q
      · show g.1 ∈ sk.map (·.1)
        rw [← ens]
        exact sub.subset (List.mem_map_of_mem hg)
      · exact nsk.sublist sub
end
end Rt
end
section
set_option Elab.async false
set_option linter.all false
set_option maxRecDepth 100000
set_option maxHeartbeats 4000000
/-! set(xs) of a list of ints, as it is sorted after -/
namespace Rt
open PySem PySem.Spec PyProof.Rows L2
theorem asc_eq : ∀ {xs ys : List Int}, xs.Pairwise (· < ·) → ys.Pairwise (· < ·) → (∀ k, k ∈ xs ↔ k ∈ ys) → xs = ys
  | [], [], _, _, _ => rfl
  | [], y :: ys, _, _, h => absurd ((h y).mpr List.mem_cons_self) (by simp)
  | x :: xs, [], _, _, h => absurd ((h x).mp List.mem_cons_self) (by simp)
  | x :: xs, y :: ys, hx, hy, h => by
    obtain ⟨hx1, hx2⟩ := List.pairwise_cons.mp hx
    obtain ⟨hy1, hy2⟩ := List.pairwise_cons.mp hy
    have e : x = y := by
      rcases List.mem_cons.mp ((h x).mp List.mem_cons_self) with e | q1
      · exact e
      · rcases List.mem_cons.mp ((h y).mpr List.mem_cons_self) with e | q2
        · exact e.symm
        · have := hy1 x q1
          have := hx1 y q2
          omega
    subst e
    refine congrArg (x :: ·) (asc_eq hx2 hy2 fun k => ⟨fun hk => ?_, fun hk => ?_⟩)
    · rcases List.mem_cons.mp ((h k).mp (List.mem_cons_of_mem _ hk)) with e | q
      · have := hx1 k hk
        omega
      · exact q
    · rcases List.mem_cons.mp ((h k).mpr (List.mem_cons_of_mem _ hk)) with e | q
      · have := hy1 k hk
        omega
      · exact q
theorem le_eq : ∀ {xs ys : List Int}, xs.Pairwise (· ≤ ·) → ys.Pairwise (· ≤ ·) → xs.Perm ys → xs = ys
  | [], ys, _, _, h => by rw [List.nil_perm.mp h]
  | x :: xs, [], _, _, h => by simp at h
  | x :: xs, y :: ys, hx, hy, h => by
    obtain ⟨hx1, hx2⟩ := List.pairwise_cons.mp hx
    obtain ⟨hy1, hy2⟩ := List.pairwise_cons.mp hy
    have e : x = y := by
      rcases List.mem_cons.mp (h.mem_iff.mp List.mem_cons_self) with e | q1
      · exact e
      · rcases List.mem_cons.mp (h.mem_iff.mpr List.mem_cons_self) with e | q2
        · exact e.symm
        · have := hy1 x q1
          have := hx1 y q2
          omega
    subst e
    exact congrArg (x :: ·) (le_eq hx2 hy2 ((List.perm_cons x).mp h))
section
variable {X : Cx}
/-- set(xs), xs a list of ints -/
theorem call_setI (hc : X.calm = true) : CallR X (.type "set") (fun xs H Q => ∃ l, ∃ ks : List Int, xs = [V.ref l] ∧ SqL X.K H l (ks.map V.int) ∧ ks.length ≤ 60 ∧ ∀ p c, H p = none → c ≤ ks.length → Q (.ref p) (upd H p (SetO X.w p (fun j => decide (j ∈ ks)) c))) := by
  intro pins s σ H xs us Q I r h
  obtain ⟨l, ks, rfl, hl, hz, q⟩ := h
  rw [Vals.ref1 r]
  have key : ∀ {its : List Value}, Vals (ks.map V.int) its → ∀ (i : Nat) (v : Value), its.toArray[i]? = some v → ∃ k t, ks[i]? = some k ∧ v = .int k t := fun {its} rv i v hv => by
    have hv' : its[i]? = some v := by simpa using hv
    cases hx : ks[i]? with
    | none =>
      have : (ks.map V.int)[i]? = none := by rw [List.getElem?_map, hx]; rfl
      rw [rv.none_of this] at hv'
      cases hv'
    | some x =>
      obtain ⟨u, hu, ru⟩ := rv.get (i := i) (x := V.int x) (by rw [List.getElem?_map, hx]; rfl)
      rw [hv'] at hu
      cases hu
      obtain ⟨t, e⟩ := ru
      exact ⟨x, t, rfl, e⟩
  have fin : ∀ (h' : Heap) (tk : Nat), (∃ c, c ≤ ks.length ∧ SetR X.w h' s.heap.objs.size (fun j => decide (j ∈ ks)) c) → (∀ b o, s.heap.get? b = some o → h'.get? b = some o) → EP X pins σ Q (.ref s.heap.objs.size) { s with heap := h', toks := tk } := fun h' tk ⟨c, hc, S⟩ kp =>
    ⟨.ref s.heap.objs.size, _, I.laid (t' := tk) kp (Nat.le_refl _) (setO_new S), rfl, q _ c (I.hok.fresh (Nat.le_refl _)) hc⟩
  have two : ∀ led, (s.heap.push { cls := .type "set", dict := none, data := .set #[] 0 (.fresh 0 0 led) }).objs.size = s.heap.objs.size + 1 := fun led => Heap.size_push ..
  obtain ⟨its, rv, pl, hz'⟩ := I.list hl
  have lt : l < s.heap.objs.size := by
    obtain ⟨o, ho, _⟩ := pl.isList
    exact Heap.lt_size ho
  refine set_list (I.ok.hd hc) pl.isList (T := fun h' => ∃ c, c ≤ ks.length ∧ SetR X.w h' s.heap.objs.size (fun j => decide (j ∈ ks)) c) (fun led hled B R calm un k => ?_) fin
  have at0 : (setAhead X.w led s.heap "list_iterator" l).get? s.heap.objs.size = some { cls := .type "set", dict := none, data := .set #[] 0 (.fresh 0 0 led) } := Heap.get?_push_of_some _ (Heap.get?_push_size _ rfl)
  have at1 : (setAhead X.w led s.heap "list_iterator" l).get? (s.heap.objs.size + 1) = some { cls := .type "list_iterator", data := .fields #[.ref l, .int 0 0] } := by
    rw [← two led]
    exact Heap.get?_push_size _ rfl
  have ls : its.toArray.size = ks.length := by
    have := rv.length
    rw [List.length_map] at this
    simpa using this.symm
  rw [hled] at at0
  refine set_update_ints (Walks.list calm (s.heap.objs.size + 1) l (Nat.ne_of_lt (Nat.lt_succ_of_lt lt)) its.toArray).toS s.heap.objs.size (by
    simp only [List.mem_cons, List.not_mem_nil, or_false, not_or]
    exact ⟨Nat.ne_of_lt (Nat.lt_succ_self _), Nat.ne_of_gt lt⟩) ks ls (by unfold scanBound; omega) (key rv) its.toArray.size 0 _ (by omega) (by omega) ⟨⟨_, at1, rfl, rfl⟩, (pl.isList.push _).push _⟩ ⟨0, Nat.le_refl _, by rw [hled]; exact setR_new_at at0⟩ fun s' c mv hc S => k s' mv ⟨c, by rw [← ls]; exact hc, S⟩
end
end Rt
end
section
set_option Elab.async false
set_option linter.all false
set_option maxRecDepth 100000
set_option maxHeartbeats 8000000
/-! parts: rows, pairs, skills, needs -/
namespace Rt
open PySem PySem.Spec PyProof.Rows L2
/-- a list or a tuple, and isinstance sees which -/
structure Lt (K : PySem.W.Frag) (H : Hp) (a : Addr) (xs : List V) : Prop where
  sq : Sq K H a xs
  ty : ∃ T, Ts K H (.ref a) T ∧ (T = "list" ∨ T = "tuple")
theorem Lt.same {K : PySem.W.Frag} {H H' : Hp} {a : Addr} {xs : List V} (h : Lt K H a xs) (s : Same H H') : Lt K H' a xs := ⟨h.sq.same s, let ⟨T, t, e⟩ := h.ty; ⟨T, t.same s, e⟩⟩
theorem Lt.lst {K : PySem.W.Frag} {H : Hp} {a : Addr} {xs : List V} (h : H a = some (.lst xs)) : Lt K H a xs := ⟨.inl (SqL.of h), "list", .lst h, .inl rfl⟩
theorem Lt.tup {K : PySem.W.Frag} {H : Hp} {a : Addr} {xs : List V} (h : H a = some (.tup xs)) : Lt K H a xs := ⟨.inr (SqT.of h), "tuple", .tup (SqT.of h), .inr rfl⟩
theorem Lt.tupK {K : PySem.W.Frag} {H : Hp} {a : Addr} {xs : List V} (h : SqT K H a xs) : Lt K H a xs := ⟨.inr h, "tuple", .tup h, .inr rfl⟩
theorem Rws.same {H H' : Hp} {xs : List V} {rows : List (List V)} (h : Rws H xs rows) (s : Same H H') : Rws H' xs rows := h.tk (Tk.of s)
theorem dec_len {n m : Nat} : decide (V.int (n : Int) = V.int (m : Int)) = decide (n = m) := by
  by_cases h : n = m
  · subst h
    rw [decide_eq_true rfl, decide_eq_true rfl]
  · rw [decide_eq_false h, decide_eq_false fun e => h (by injection e with e; omega)]
theorem num_ok {i lo hi : Int} (h0 : lo ≤ i) (h1 : i ≤ hi) : isNum (.int i) lo hi = true := by
  show (decide (lo ≤ i) && decide (i ≤ hi)) = true
  rw [decide_eq_true h0, decide_eq_true h1]
  rfl
def spNeeds (K : PySem.W.Frag) : Sp := fun vs H Q _ => ∃ (a : Addr) (xs : List V) (nd : List (Int × Int)), vs = [.ref a] ∧ Lt K H a xs ∧ Rws H xs (nd.map rI2) ∧ (nd.map (·.1)).Pairwise (· < ·) ∧ (∀ r ∈ nd, (2 ≤ r.1 ∧ r.1 ≤ 4) ∧ 0 ≤ r.2 ∧ r.2 ≤ 12) ∧ nd.length ≤ 3 ∧ ∀ H', Same H H' → Q (.bl true) H'
theorem pg_tupK {X : Cx} {K : PySem.W.Frag} {es : List Expr} {k : Nat} {t : TGs} {n : Nat} {pos : Pos} (hK : X.K = K) (hc : X.calm = true) (h : PGs X es t)
    (hn : (assignEach es X.env).length = n := by rfl) (hst : (assignEach es X.env).findIdx? (·.1) = none := by rfl) : PG X (.Tuple es k pos) (gTup K n t) := by
  subst hK
  exact pg_tup hc h hn hst
theorem all_true : ∀ xs : List V, (xs.map fun _ => true).all id = true
  | [] => rfl
  | _ :: xs => all_true xs
theorem Rws.at_ {α : Type} {f : α → List V} {H : Hp} {xs : List V} {l : List α} {i : Nat} {x : V} (rows : Rws H xs (l.map f)) (h : xs[i]? = some x) : ∃ r p, l[i]? = some r ∧ x = .ref p ∧ H p = some (.tup (f r)) := by
  obtain ⟨vs, hv, p, rfl, hp⟩ := rows.get h
  rw [List.getElem?_map] at hv
  cases e : l[i]? with
  | none => rw [e] at hv; cases hv
  | some r =>
    rw [e] at hv
    cases hv
    exact ⟨r, p, rfl, rfl, hp⟩
theorem take_line {α β : Type} {f : α → β} {xs : List α} (i : Nat) {m : Nat} (h : xs.length ≤ m) (hm : m ≤ 100000) : ((xs.take i).map f).length < sizeLine := by
  refine line_of (m := m) ?_ hm
  rw [List.length_map]
  exact Nat.le_trans (List.length_take_le' _ _) h
theorem dpAll_ints {K : PySem.W.Frag} {H : Hp} : ∀ ns : List Int, DpAll K H (ns.map V.int) (ns.map PyData.int)
  | [] => .nil
  | z :: zs => .cons (.int z) (dpAll_ints zs)
theorem dp_ints {K : PySem.W.Frag} {H : Hp} {a : Addr} {ns : List Int} (h : SqL K H a (ns.map V.int)) : Dp K H (.ref a) (.list (ns.map PyData.int)) := .lst h (dpAll_ints ns)
theorem lay_ints : ∀ ns : List Int, PyData.canLayAll0 (ns.map PyData.int) = true ∧ PyData.depthAll (ns.map PyData.int) ≤ 1
  | [] => ⟨by simp [PyData.canLayAll0], by simp [PyData.depthAll]⟩
  | z :: zs => by
    obtain ⟨h1, h2⟩ := lay_ints zs
    refine ⟨by simp [PyData.canLayAll0, PyData.canLay0, h1], ?_⟩
    simp only [List.map_cons, PyData.depthAll, PyData.depth]
    omega
theorem shaped_ints (ns : List Int) : SeqAt.shaped (.list (ns.map PyData.int)) = true := by
  obtain ⟨h1, h2⟩ := lay_ints ns
  show (PyData.canLay0 (.list (ns.map PyData.int)) && decide (PyData.depth (.list (ns.map PyData.int)) ≤ 64)) = true
  rw [Bool.and_eq_true]
  exact ⟨by simp only [PyData.canLay0]; exact h1, decide_eq_true (by simp only [PyData.depth]; omega)⟩
theorem eqv_ints (ns : List Int) : PyData.eqv (.list (ns.map PyData.int)) (.list (ns.map PyData.int)) = true := by
  have h : PyData.eqvAll (ns.map PyData.int) (ns.map PyData.int) = true := by
    induction ns with
    | nil => simp [PyData.eqvAll]
    | cons z zs ih => simp [PyData.eqvAll, PyData.eqv, ih]
  simp [PyData.eqv, h]
def spRows (K : PySem.W.Frag) : Sp := fun vs H Q _ => ∃ (a : Addr) (xs : List V) (m : Int), vs = [.ref a, .int m] ∧ Lt K H a xs ∧ (xs.length : Int) ≤ m ∧ ∀ H', Same H H' → Q (.bl true) H'
def spPair : Sp := fun vs H Q _ => ∃ (a : Addr) (xs : List V), vs = [.ref a] ∧ H a = some (.tup xs) ∧ Q (.bl (decide (xs.length = 2))) H
def spNeed (K : PySem.W.Frag) : Sp := fun vs H Q _ => ∃ (a : Addr) (i j : Int), vs = [.ref a] ∧ H a = some (.tup [.int i, .int j]) ∧ 2 ≤ i ∧ i ≤ 4 ∧ 0 ≤ j ∧ j ≤ 12 ∧ Q (.bl true) H
section
variable {P : Program} {w : World} {K : PySem.W.Frag} {mg : Str → Option Value} {base : Heap}
theorem cal_are_rows (Z : All K mg) : Cal P w K mg base CX0 1 "are_rows" ["value", "most"] (spRows K) := by
  obtain ⟨fd, F⟩ := Z.f_are_rows
  refine .of ⟨fd, F, ok0 F sc_are_rows (fun vs H Q E h => ?_) (fun cdv A outer s H vs Q E hr h => ?_)⟩ Z.g_are_rows (fun _ _ _ _ _ _ us hl => match us, hl with | [_, _], _ => rfl)
  · obtain ⟨a, xs, m, rfl, _⟩ := h
    rfl
  · obtain ⟨a, xs, m, rfl, ha, hm, k⟩ := h
    refine ⟨_, (pss_one (ps_ret (pe_and (pe_callB call_isLT (by rfl) Z.b_isinstance boot_isinstance (pa_cons (pv 0) (pa_cons (pe_tup (pa_cons (pe_bltn (v := .ty "list") (by rfl) Z.b_list PyProof.Rows.boot_list rfl) (pa_cons (pe_bltn (v := .ty "tuple") (by rfl) Z.b_tuple PyProof.Rows.boot_tuple rfl) pa_nil))) pa_nil))) (pe_one (pe_cmpR op_le (pe_callB call_len (by rfl) Z.b_len PySem.boot_len (pa_cons (pv 0) pa_nil)) (pv 1) (nomark _)))))), ?_⟩
    refine ⟨_, rfl, (by show 2 ≤ sizeLine; decide), fun tp ntp => ?_⟩
    have ha2 := ha.same (Same.new (o := .tup [.ty "list", .ty "tuple"]) ntp)
    obtain ⟨T, t, eT⟩ := ha2.ty
    have e : (decide (T = "list") || decide (T = "tuple")) = true := by rcases eT with rfl | rfl <;> decide
    refine ⟨.ref a, T, tp, rfl, upd_same, t, ?_⟩
    rw [e]
    refine ⟨_, rfl, ?_⟩
    refine ⟨_, rfl, .ref a, xs.length, rfl, lenV_sq ha2.sq, _, rfl, _, _, rfl, rfl, ?_⟩
    show Q (.bl (decide ((xs.length : Int) ≤ m))) _
    rw [decide_eq_true hm]
    exact k _ (Same.new ntp)
theorem cal_is_pair (Z : All K mg) : Cal P w K mg base CX0 1 "is_pair" ["value"] spPair := by
  obtain ⟨fd, F⟩ := Z.f_is_pair
  refine .of ⟨fd, F, ok0 F sc_is_pair (fun vs H Q E h => ?_) (fun cdv A outer s H vs Q E hr h => ?_)⟩ Z.g_is_pair (fun _ _ _ _ _ _ us hl => match us, hl with | [_], _ => rfl)
  · obtain ⟨a, xs, rfl, _⟩ := h
    rfl
  · obtain ⟨a, xs, rfl, ha, k⟩ := h
    refine ⟨_, (pss_one (ps_ret (pe_and (pe_callB (call_is (cn := "tuple") (by decide)) (by rfl) Z.b_isinstance boot_isinstance (pa_cons (pv 0) (pa_cons (pe_bltn (v := .ty "tuple") (by rfl) Z.b_tuple PyProof.Rows.boot_tuple rfl) pa_nil))) (pe_one (pe_cmpR op_eq (pe_callB call_len (by rfl) Z.b_len PySem.boot_len (pa_cons (pv 0) pa_nil)) pe_int (nomark _)))))), ?_⟩
    refine ⟨_, rfl, .ref a, "tuple", rfl, .tup (SqT.of ha), _, rfl, ifT (by decide) ?_⟩
    refine ⟨_, rfl, .ref a, xs.length, rfl, .inr ⟨xs, SqT.of ha, rfl⟩, rfl, ?_⟩
    show Q (.bl (decide (V.int (xs.length : Int) = V.int 2))) H
    have e := dec_len (n := xs.length) (m := 2)
    rw [show ((2 : Nat) : Int) = 2 from rfl] at e
    rw [e]
    exact k
theorem cal_is_need (Z : All K mg) : Cal P w K mg base CX0 3 "is_need" ["row"] (spNeed K) := by
  obtain ⟨fd, F⟩ := Z.f_is_need
  have C_is_pair : Cal P w K mg base CX0 1 "is_pair" ["value"] spPair := cal_is_pair Z
  have C_is_number_in : Cal P w K mg base CX0 2 "is_number_in" ["value", "low", "high"] (spNum K) := cal_is_number_in Z
  refine .of ⟨fd, F, ok0 F sc_is_need (fun vs H Q E h => ?_) (fun cdv A outer s H vs Q E hr h => ?_)⟩ Z.g_is_need (fun _ _ _ _ _ _ us hl => match us, hl with | [_], _ => rfl)
  · obtain ⟨a, i, j, rfl, _⟩ := h
    rfl
  · obtain ⟨a, i, j, rfl, ha, i0, i1, j0, j1, k⟩ := h
    refine ⟨_, (pss_one (ps_ret (pe_and (pe_cal C_is_pair (hr.mono (by decide)) (by rfl) pass0 (pa_cons (pv 0) pa_nil)) (pe_and (pe_cal C_is_number_in (hr.mono (by decide)) (by rfl) pass0 (pa_cons (pe_ix ix_tup (pv 0) pe_int (fun _ _ => rfl)) (pa_cons pe_int (pa_cons (pe_gint (by rfl) Z.LAST_TIER) pa_nil)))) (pe_one (pe_cal C_is_number_in (hr.mono (by decide)) (by rfl) pass0 (pa_cons (pe_ix ix_tup (pv 0) pe_int (fun _ _ => rfl)) (pa_cons pe_int (pa_cons (pe_gint (by rfl) Z.MOST_NEED) pa_nil))))))))), ?_⟩
    refine ⟨_, rfl, a, _, rfl, ha, _, rfl, ?_⟩
    refine ⟨_, rfl, a, _, 0, _, rfl, rfl, SqT.of ha, rfl, .int i, 2, 4, "int", rfl, .int i, _, rfl, ?_⟩
    rw [num_ok i0 i1]
    refine ⟨_, rfl, a, _, 1, _, rfl, rfl, SqT.of ha, rfl, .int j, 0, 12, "int", rfl, .int j, ?_⟩
    rw [num_ok j0 j1]
    exact k
theorem cal_are_needs (Z : All K mg) : Cal P w K mg base CX0 4 "are_needs" ["value"] (spNeeds K) := by
  obtain ⟨fd, F⟩ := Z.f_are_needs
  have C_are_rows : Cal P w K mg base CX0 1 "are_rows" ["value", "most"] (spRows K) := cal_are_rows Z
  have C_is_need : Cal P w K mg base CX0 3 "is_need" ["row"] (spNeed K) := cal_is_need Z
  refine .of ⟨fd, F, ok0 F sc_are_needs (fun vs H Q E h => ?_) (fun cdv A outer s H vs Q E hr h => ?_)⟩ Z.g_are_needs (fun _ _ _ _ _ _ us hl => match us, hl with | [_], _ => rfl)
  · obtain ⟨a, xs, nd, rfl, _⟩ := h
    rfl
  · obtain ⟨a, xs, nd, rfl, ha, rows, asc, bd, len, k⟩ := h
    refine ⟨_, (pss_cons (ps_if (pt_not (pt_val (pe_cal C_are_rows (hr.mono (by decide)) (by rfl) pass0 (pa_cons (pv 0) (pa_cons (pe_op op_sub (pe_gint (by rfl) Z.LAST_TIER) pe_int) pa_nil))))) (pss_one (ps_ret pe_bl)) pss_nil)
      (pss_cons (ps_if (pt_not (pt_val (pe_callB (cr_all rfl) (by rfl) Z.b_all boot_all (pa_cons (pe_lc (own := [("row", 4)]) (by rfl) sc_are_needs.nd (pi_seq (pv 0)) (blkOk_by (own := [("row", 4)]) (N := ["value", "tiers", "tier", "_", "row"]) (sc := defScope s_are_needs) (by decide +kernel)) (fun _ _ _ _ _ => (pg_name (i := 4) sc_are_needs.nd rfl (Or.inl rfl))) (fun _ _ _ _ _ => pts_nil) (fun _ _ _ _ _ => (pe_cal C_is_need (hr.mono (by decide)) (by rfl) pass0 (pa_cons (pv 4) pa_nil)))) pa_nil)))) (pss_one (ps_ret pe_bl)) pss_nil)
      (pss_cons (ps_setLc (i := 1) (own := [("tier", 2), ("_", 3)]) (by rfl) sc_are_needs.nd rfl rfl (sw_true rfl rfl rfl (by decide +kernel)) (pi_seq (pv 0)) (blkOk_by (own := [("tier", 2), ("_", 3)]) (N := ["value", "tiers", "tier", "_", "row"]) (sc := defScope s_are_needs) (by decide +kernel)) (fun _ _ _ _ _ => (pg_tupK (K := K) (n := 2) rfl rfl (pgs_cons (pg_name (i := 2) sc_are_needs.nd rfl (Or.inl rfl)) (pgs_cons (pg_name (i := 3) sc_are_needs.nd rfl (Or.inl rfl)) pgs_nil)))) (fun _ _ _ _ _ => pts_nil) (fun _ _ _ _ _ => (pv 2)))
      (pss_one (ps_ret (pe_cmpR (op_eqD hr.units) (pv 1) (pe_callB (cr_sortedSet rfl) (by rfl) Z.b_sorted PyProof.Rows.boot_sorted (pa_cons (pe_callTy (call_setI rfl) (by rfl) Z.b_set PyProof.Rows.boot_set (pa_cons (pv 1) pa_nil)) pa_nil)) (nomark _))))))), ?_⟩
    have l3 : xs.length ≤ 3 := by
      have q := rows.len
      rw [List.length_map] at q
      omega
    refine ⟨_, rfl, _, _, rfl, rfl, a, xs, 3, rfl, ha, by omega, fun H1 s1 => ⟨_, rfl, ?_⟩⟩
    have ha1 := ha.same s1
    have rows1 := rows.same s1
    refine ⟨_, rfl, a, rfl, lc_seq ha1.sq (fun i => (xs.take i).map fun _ => V.bl true) rfl (fun D nD i x H2 hi p => ?_) fun D H2 nD s2 at2 => ?_⟩
    · obtain ⟨r, tp, hr', rfl, htp⟩ := rows1.at_ hi
      have b := bd r (List.mem_of_getElem? hr')
      refine ⟨rfl, _, rfl, tp, r.1, r.2, rfl, p.same _ _ htp, b.1.1, b.1.2, b.2.1, b.2.2, p.put nD (map_one _ hi) (take_line _ (m := 3) l3 (by decide))⟩
    refine ⟨D, xs.map fun _ => true, rfl, SqL.of (by rw [at2, List.take_length, List.map_map]; rfl), _, rfl, ?_⟩
    rw [all_true]
    have ha2 := ha1.same s2
    have rows2 := rows1.same s2
    refine ⟨_, rfl, a, rfl, lc_seq ha2.sq (fun i => (nd.take i).map fun r => V.int r.1) rfl (fun D nD i x H3 hi p => ?_) fun T H3 nT s3 at3 => ?_⟩
    · obtain ⟨r, tp, hr', rfl, htp⟩ := rows2.at_ hi
      refine ⟨tp, _, rfl, SqT.of (p.same _ _ htp), rfl, .int r.1, _, rfl, .int r.2, _, rfl, rfl, rfl, _, rfl, p.put nD (map_one _ hr') (take_line _ (m := 3) len (by decide))⟩
    have eT : H3 T = some (.lst ((nd.map (·.1)).map V.int)) := by
      rw [at3, rows.len, List.length_map, List.take_length, List.map_map]
      rfl
    refine ⟨_, rfl, _, rfl, T, nd.map (·.1), rfl, SqL.of eT, by rw [List.length_map]; omega, fun p c np hc => ?_⟩
    rw [List.length_map] at hc
    refine ⟨p, _, c, rfl, upd_same, by omega, fun ns q asc2 mem _ nq => ?_⟩
    have e : ns = nd.map (·.1) := asc_eq asc2 asc fun k => (mem k).trans (decide_eq_true_iff)
    subst e
    refine ⟨_, _, dp_ints (SqL.of (Same.new nq _ _ (Same.new np _ _ eT))), dp_ints (SqL.of upd_same), shaped_ints _, shaped_ints _, ?_⟩
    rw [eqv_ints]
    exact k _ (((s1.trans s2).trans s3).trans ((Same.new np).trans (Same.new nq)))
end
end Rt
end
section
set_option Elab.async false
set_option linter.all false
set_option maxRecDepth 100000
set_option maxHeartbeats 8000000
/-! parts: skills, what is told once, others -/
namespace Rt
open PySem PySem.Spec PyProof.Rows L2
structure SkillsR (sk : List (Str × Int)) : Prop where
  ne : 0 < sk.length
  le : sk.length ≤ 12
  word : ∀ r ∈ sk, isWord (.str r.1) = true
  bd : ∀ r ∈ sk, 1 ≤ r.2 ∧ r.2 ≤ 4
  nd : (sk.map (·.1)).Nodup
  asc : (sk.map (·.2)).Pairwise (· ≤ ·)
theorem n_words : (N1.all fun z => isWord (.str z)) = true ∧ (N2.all fun z => isWord (.str z)) = true := by decide +kernel
theorem Skills.r {sk : List (Str × Int)} (h : Skills sk) : SkillsR sk := by
  refine ⟨h.ne, by have := h.le; omega, fun r hr => ?_, h.bd, h.nd, h.asc⟩
  obtain ⟨N, n, hN, e⟩ := h.names
  have q : r.1 ∈ N.take n := by
    rw [← e]
    exact List.mem_map_of_mem hr
  have q2 := List.mem_of_mem_take q
  rcases hN with rfl | rfl
  · exact List.all_eq_true.mp n_words.1 _ q2
  · exact List.all_eq_true.mp n_words.2 _ q2
theorem word_len {z : Str} (h : isWord (.str z) = true) : z.length ≤ 8 := by
  have q : ((decide ((1 : Int) ≤ (z.length : Int)) && decide ((z.length : Int) ≤ 8)) && (signs z).all id) = true := h
  rw [Bool.and_eq_true, Bool.and_eq_true] at q
  have := of_decide_eq_true q.1.2
  omega
theorem sub_len : ∀ {zs ns : List Str}, zs.Nodup → (∀ z ∈ zs, z ∈ ns) → zs.length ≤ ns.length
  | [], _, _, _ => Nat.zero_le _
  | z :: zs, ns, h, i => by
    obtain ⟨h1, h2⟩ := List.nodup_cons.mp h
    have hz := i z List.mem_cons_self
    have q := sub_len (zs := zs) (ns := ns.erase z) h2 fun y hy => (List.mem_erase_of_ne (fun e => h1 (by rw [← e]; exact hy))).mpr (i y (List.mem_cons_of_mem _ hy))
    rw [List.length_erase_of_mem hz] at q
    have q2 : 0 < ns.length := List.length_pos_of_mem hz
    show zs.length + 1 ≤ ns.length
    omega
theorem fm_strs : ∀ zs : List Str, (zs.map V.str).filterMap strOf = zs
  | [] => rfl
  | z :: zs => congrArg (z :: ·) (fm_strs zs)
theorem unlike_ok {ns zs : List Str} (nd : zs.Nodup) (i : ∀ z ∈ zs, z ∈ ns) : unlike ns (zs.map V.str) = true := by
  have q := sub_len nd i
  unfold unlike
  rw [fm_strs, decide_eq_true nd, Bool.and_true, List.length_map]
  have e1 : decide ((ns.length : Int) < (zs.length : Int)) = false := decide_eq_false (by omega)
  rw [e1]
  show ((zs.map V.str).all (isOne ns)) = true
  rw [List.all_eq_true]
  intro x hx
  obtain ⟨z, hz, rfl⟩ := List.mem_map.mp hx
  exact decide_eq_true (i z hz)
theorem ts_strs {K : PySem.W.Frag} {H : Hp} {zs : List Str} : ∀ x ∈ zs.map V.str, ∃ T, Ts K H x T := fun x hx => by
  obtain ⟨z, hz, rfl⟩ := List.mem_map.mp hx
  exact ⟨_, .str z⟩
def spSkills (K : PySem.W.Frag) : Sp := fun vs H Q _ => ∃ (a : Addr) (xs : List V) (sk : List (Str × Int)), vs = [.ref a] ∧ Lt K H a xs ∧ Rws H xs (sk.map rS) ∧ SkillsR sk ∧ ∀ H', Same H H' → Q (.bl true) H'
def spTold (K : PySem.W.Frag) : Sp := fun vs H Q _ => ∃ (n : Addr) (ns : List Str) (a : Addr) (xs : List V) (gs : List (Str × Int)) (lo hi : Int), vs = [.ref n, .ref a, .int lo, .int hi] ∧ Sq K H n (ns.map V.str) ∧ ns.length ≤ 60 ∧ Lt K H a xs ∧ Rws H xs (gs.map rS) ∧ ToldOk ns lo hi gs ∧ ∀ H', Same H H' → Q (.bl true) H'
section
variable {P : Program} {w : World} {K : PySem.W.Frag} {mg : Str → Option Value} {base : Heap}
theorem cal_are_told_once (Z : All K mg) : Cal P w K mg base CX0 3 "are_told_once" ["names", "value", "low", "high"] (spTold K) := by
  obtain ⟨fd, F⟩ := Z.f_are_told_once
  have C_are_rows : Cal P w K mg base CX0 1 "are_rows" ["value", "most"] (spRows K) := cal_are_rows Z
  have C_is_pair : Cal P w K mg base CX0 1 "is_pair" ["value"] spPair := cal_is_pair Z
  have C_is_number_in : Cal P w K mg base CX0 2 "is_number_in" ["value", "low", "high"] (spNum K) := cal_is_number_in Z
  have C_are_unlike : Cal P w K mg base CX0 2 "are_unlike" ["names", "values"] (spUnlike K) := cal_are_unlike Z
  refine .of ⟨fd, F, ok0 F sc_are_told_once (fun vs H Q E h => ?_) (fun cdv A outer s H vs Q E hr h => ?_)⟩ Z.g_are_told_once (fun _ _ _ _ _ _ us hl => match us, hl with | [_, _, _, _], _ => rfl)
  · obtain ⟨n, ns, a, xs, gs, lo, hi, rfl, _⟩ := h
    rfl
  · obtain ⟨n, ns, a, xs, gs, lo, hi, rfl, hn, n60, ha, rows, ok, k⟩ := h
    have gl : gs.length ≤ ns.length := by
      have q := sub_len ok.nd (fun z hz => by
        obtain ⟨g, hg, rfl⟩ := List.mem_map.mp hz
        exact (ok.in_ g hg).1)
      rw [List.length_map] at q
      exact q
    have xl : xs.length = gs.length := by rw [rows.len, List.length_map]
    refine ⟨_, (pss_cons (ps_if (pt_not (pt_val (pe_cal C_are_rows (hr.mono (by decide)) (by rfl) pass0 (pa_cons (pv 1) (pa_cons (pe_callB call_len (by rfl) Z.b_len PySem.boot_len (pa_cons (pv 0) pa_nil)) pa_nil))))) (pss_one (ps_ret pe_bl)) pss_nil)
      (pss_cons (ps_if (pt_not (pt_val (pe_callB (cr_all rfl) (by rfl) Z.b_all boot_all (pa_cons (pe_lc (own := [("row", 6)]) (by rfl) sc_are_told_once.nd (pi_seq (pv 1)) (blkOk_by (own := [("row", 6)]) (N := ["names", "value", "low", "high", "skill", "_", "row"]) (sc := defScope s_are_told_once) (by decide +kernel)) (fun _ _ _ _ _ => (pg_name (i := 6) sc_are_told_once.nd rfl (Or.inl rfl))) (fun _ _ _ _ _ => pts_nil) (fun _ _ _ _ _ => (pe_and (pe_cal C_is_pair (hr.mono (by decide)) (by rfl) pass0 (pa_cons (pv 6) pa_nil)) (pe_one (pe_cal C_is_number_in (hr.mono (by decide)) (by rfl) pass0 (pa_cons (pe_ix (show IxR _ (rIxT K) from ix_tup) (pv 6) pe_int (fun _ _ => rfl)) (pa_cons (pv 2) (pa_cons (pv 3) pa_nil)))))))) pa_nil)))) (pss_one (ps_ret pe_bl)) pss_nil)
      (pss_one (ps_ret (pe_cal C_are_unlike (hr.mono (by decide)) (by rfl) pass0 (pa_cons (pv 0) (pa_cons (pe_lc (own := [("skill", 4), ("_", 5)]) (by rfl) sc_are_told_once.nd (pi_seq (pv 1)) (blkOk_by (own := [("skill", 4), ("_", 5)]) (N := ["names", "value", "low", "high", "skill", "_", "row"]) (sc := defScope s_are_told_once) (by decide +kernel)) (fun _ _ _ _ _ => (pg_tupK (K := K) (n := 2) rfl rfl (pgs_cons (pg_name (i := 4) sc_are_told_once.nd rfl (Or.inl rfl)) (pgs_cons (pg_name (i := 5) sc_are_told_once.nd rfl (Or.inl rfl)) pgs_nil)))) (fun _ _ _ _ _ => pts_nil) (fun _ _ _ _ _ => (pv 4))) pa_nil))))))), ?_⟩
    refine ⟨_, rfl, _, rfl, _, (ns.map V.str).length, rfl, lenV_sq hn, a, xs, _, rfl, ha, by rw [List.length_map]; omega, fun H1 s1 => ⟨_, rfl, ?_⟩⟩
    have hn1 := hn.same s1
    have ha1 := ha.same s1
    have rows1 := rows.same s1
    refine ⟨_, rfl, a, rfl, lc_seq ha1.sq (fun i => (xs.take i).map fun _ => V.bl true) rfl (fun D nD i x H2 hi' p => ?_) fun D H2 nD s2 at2 => ?_⟩
    · obtain ⟨r, tp, hr', rfl, htp⟩ := rows1.at_ hi'
      have b := ok.in_ r (List.mem_of_getElem? hr')
      refine ⟨rfl, _, rfl, tp, _, rfl, p.same _ _ htp, _, rfl, ?_⟩
      refine ⟨_, rfl, tp, _, 1, _, rfl, rfl, SqT.of (p.same _ _ htp), rfl, _, rfl, _, rfl, .int r.2, lo, hi, "int", rfl, .int r.2, ?_⟩
      rw [num_ok b.2.1 b.2.2]
      exact p.put nD (map_one _ hi') (take_line _ (m := 60) (by omega) (by decide))
    refine ⟨D, xs.map fun _ => true, rfl, SqL.of (by rw [at2, List.take_length, List.map_map]; rfl), _, rfl, ?_⟩
    rw [all_true]
    have hn2 := hn1.same s2
    have ha2 := ha1.same s2
    have rows2 := rows1.same s2
    refine ⟨_, rfl, _, rfl, a, rfl, lc_seq ha2.sq (fun i => (gs.take i).map fun r => V.str r.1) rfl (fun D nD i x H3 hi' p => ?_) fun T H3 nT s3 at3 => ?_⟩
    · obtain ⟨r, tp, hr', rfl, htp⟩ := rows2.at_ hi'
      refine ⟨tp, _, rfl, SqT.of (p.same _ _ htp), rfl, .str r.1, _, rfl, .int r.2, _, rfl, rfl, rfl, _, rfl, p.put nD (map_one _ hr') (take_line _ (m := 60) (by omega) (by decide))⟩
    have eT : H3 T = some (.lst ((gs.map (·.1)).map V.str)) := by
      rw [at3, xl, List.take_length, List.map_map]
      rfl
    refine ⟨n, ns, T, (gs.map (·.1)).map V.str, rfl, hn2.same s3, .inl (SqL.of eT), ts_strs, by rw [List.length_map, List.length_map]; omega, n60, fun H4 s4 => ?_⟩
    rw [unlike_ok ok.nd (fun z hz => by
      obtain ⟨g, hg, rfl⟩ := List.mem_map.mp hz
      exact (ok.in_ g hg).1)]
    exact k _ (((s1.trans s2).trans s3).trans s4)
theorem cal_are_skills (Z : All K mg) : Cal P w K mg base CX0 3 "are_skills" ["value"] (spSkills K) := by
  obtain ⟨fd, F⟩ := Z.f_are_skills
  have C_are_rows : Cal P w K mg base CX0 1 "are_rows" ["value", "most"] (spRows K) := cal_are_rows Z
  have C_is_pair : Cal P w K mg base CX0 1 "is_pair" ["value"] spPair := cal_is_pair Z
  have C_is_word : Cal P w K mg base CX0 1 "is_word" ["value"] (spWord K) := cal_is_word Z
  have C_is_number_in : Cal P w K mg base CX0 2 "is_number_in" ["value", "low", "high"] (spNum K) := cal_is_number_in Z
  have C_are_unlike : Cal P w K mg base CX0 2 "are_unlike" ["names", "values"] (spUnlike K) := cal_are_unlike Z
  refine .of ⟨fd, F, ok0 F sc_are_skills (fun vs H Q E h => ?_) (fun cdv A outer s H vs Q E hr h => ?_)⟩ Z.g_are_skills (fun _ _ _ _ _ _ us hl => match us, hl with | [_], _ => rfl)
  · obtain ⟨a, xs, sk, rfl, _⟩ := h
    rfl
  · obtain ⟨a, xs, sk, rfl, ha, rows, ok, k⟩ := h
    have xl : xs.length = sk.length := by rw [rows.len, List.length_map]
    have k0 := ok.ne
    have k12 := ok.le
    refine ⟨_, (pss_cons (ps_if (PW.pt (pw_or (pt_not (pt_val (pe_cal C_are_rows (hr.mono (by decide)) (by rfl) pass0 (pa_cons (pv 0) (pa_cons (pe_gint (by rfl) Z.MOST_SKILLS) pa_nil))))) (pw_or1 (pt_cmpR op_eq (pe_callB call_len (by rfl) Z.b_len PySem.boot_len (pa_cons (pv 0) pa_nil)) pe_int (nomark _))))) (pss_one (ps_ret pe_bl)) pss_nil)
      (pss_cons (ps_if (pt_not (pt_val (pe_callB (cr_all rfl) (by rfl) Z.b_all boot_all (pa_cons (pe_lc (own := [("row", 6)]) (by rfl) sc_are_skills.nd (pi_seq (pv 0)) (blkOk_by (own := [("row", 6)]) (N := ["value", "names", "tiers", "name", "_", "tier", "row"]) (sc := defScope s_are_skills) (by decide +kernel)) (fun _ _ _ _ _ => (pg_name (i := 6) sc_are_skills.nd rfl (Or.inl rfl))) (fun _ _ _ _ _ => pts_nil) (fun _ _ _ _ _ => (pe_and (pe_cal C_is_pair (hr.mono (by decide)) (by rfl) pass0 (pa_cons (pv 6) pa_nil)) (pe_and (pe_cal C_is_word (hr.mono (by decide)) (by rfl) pass0 (pa_cons (pe_ix (show IxR _ (rIxT K) from ix_tup) (pv 6) pe_int (fun _ _ => rfl)) pa_nil)) (pe_one (pe_cal C_is_number_in (hr.mono (by decide)) (by rfl) pass0 (pa_cons (pe_ix (show IxR _ (rIxT K) from ix_tup) (pv 6) pe_int (fun _ _ => rfl)) (pa_cons pe_int (pa_cons (pe_gint (by rfl) Z.LAST_TIER) pa_nil))))))))) pa_nil)))) (pss_one (ps_ret pe_bl)) pss_nil)
      (pss_cons (ps_setLc (i := 1) (own := [("name", 3), ("_", 4)]) (by rfl) sc_are_skills.nd rfl rfl (sw_true rfl rfl rfl (by decide +kernel)) (pi_seq (pv 0)) (blkOk_by (own := [("name", 3), ("_", 4)]) (N := ["value", "names", "tiers", "name", "_", "tier", "row"]) (sc := defScope s_are_skills) (by decide +kernel)) (fun _ _ _ _ _ => (pg_tupK (K := K) (n := 2) rfl rfl (pgs_cons (pg_name (i := 3) sc_are_skills.nd rfl (Or.inl rfl)) (pgs_cons (pg_name (i := 4) sc_are_skills.nd rfl (Or.inl rfl)) pgs_nil)))) (fun _ _ _ _ _ => pts_nil) (fun _ _ _ _ _ => (pv 3)))
      (pss_cons (ps_setLc (i := 2) (own := [("_", 4), ("tier", 5)]) (by rfl) sc_are_skills.nd rfl rfl (sw_true rfl rfl rfl (by decide +kernel)) (pi_seq (pv 0)) (blkOk_by (own := [("_", 4), ("tier", 5)]) (N := ["value", "names", "tiers", "name", "_", "tier", "row"]) (sc := defScope s_are_skills) (by decide +kernel)) (fun _ _ _ _ _ => (pg_tupK (K := K) (n := 2) rfl rfl (pgs_cons (pg_name (i := 4) sc_are_skills.nd rfl (Or.inl rfl)) (pgs_cons (pg_name (i := 5) sc_are_skills.nd rfl (Or.inl rfl)) pgs_nil)))) (fun _ _ _ _ _ => pts_nil) (fun _ _ _ _ _ => (pv 5)))
      (pss_one (ps_ret (pe_and (pe_cal C_are_unlike (hr.mono (by decide)) (by rfl) pass0 (pa_cons (pv 1) (pa_cons (pv 1) pa_nil))) (pe_one (pe_cmpR (op_eqD hr.units) (pv 2) (pe_callB cr_sorted (by rfl) Z.b_sorted PyProof.Rows.boot_sorted (pa_cons (pv 2) pa_nil)) (nomark _)))))))))), ?_⟩
    refine ⟨_, rfl, a, xs, 12, rfl, ha, by omega, fun H1 s1 => ⟨_, rfl, ?_⟩⟩
    have ha1 := ha.same s1
    have rows1 := rows.same s1
    refine ⟨_, rfl, _, xs.length, rfl, lenV_sq ha1.sq, rfl, _, rfl, ifB (fun e => ?_) (fun _ => ?_)⟩
    · have q := of_decide_eq_true e
      injection q with q
      omega
    refine ⟨_, rfl, a, rfl, lc_seq ha1.sq (fun i => (xs.take i).map fun _ => V.bl true) rfl (fun D nD i x H2 hi' p => ?_) fun D H2 nD s2 at2 => ?_⟩
    · obtain ⟨r, tp, hr', rfl, htp⟩ := rows1.at_ hi'
      have b := ok.bd r (List.mem_of_getElem? hr')
      have wd := ok.word r (List.mem_of_getElem? hr')
      refine ⟨rfl, _, rfl, tp, _, rfl, p.same _ _ htp, _, rfl, ?_⟩
      refine ⟨_, rfl, tp, _, 0, _, rfl, rfl, SqT.of (p.same _ _ htp), rfl, .str r.1, "str", rfl, .str r.1, fun z e => ?_, fun H3 s3 => ?_⟩
      · injection e with e
        rw [← e]
        exact Nat.le_trans (word_len wd) (by decide)
      rw [wd]
      have p3 := p.ext s3
      refine ⟨_, rfl, ?_⟩
      refine ⟨_, rfl, tp, _, 1, _, rfl, rfl, SqT.of (p3.same _ _ htp), rfl, .int r.2, 1, 4, "int", rfl, .int r.2, ?_⟩
      rw [num_ok b.1 b.2]
      exact p3.put nD (map_one _ hi') (take_line _ (m := 12) (by omega) (by decide))
    refine ⟨D, xs.map fun _ => true, rfl, SqL.of (by rw [at2, List.take_length, List.map_map]; rfl), _, rfl, ?_⟩
    rw [all_true]
    have ha2 := ha1.same s2
    have rows2 := rows1.same s2
    refine ⟨_, rfl, a, rfl, lc_seq ha2.sq (fun i => (sk.take i).map fun r => V.str r.1) rfl (fun D nD i x H3 hi' p => ?_) fun T H3 nT s3 at3 => ?_⟩
    · obtain ⟨r, tp, hr', rfl, htp⟩ := rows2.at_ hi'
      refine ⟨tp, _, rfl, SqT.of (p.same _ _ htp), rfl, .str r.1, _, rfl, .int r.2, _, rfl, rfl, rfl, _, rfl, p.put nD (map_one _ hr') (take_line _ (m := 12) (by omega) (by decide))⟩
    have eT : H3 T = some (.lst ((sk.map (·.1)).map V.str)) := by
      rw [at3, xl, List.take_length, List.map_map]
      rfl
    have ha3 := ha2.same s3
    have rows3 := rows2.same s3
    refine ⟨_, rfl, a, rfl, lc_seq ha3.sq (fun i => (sk.take i).map fun r => V.int r.2) rfl (fun D nD i x H4 hi' p => ?_) fun U H4 nU s4 at4 => ?_⟩
    · obtain ⟨r, tp, hr', rfl, htp⟩ := rows3.at_ hi'
      refine ⟨tp, _, rfl, SqT.of (p.same _ _ htp), rfl, .str r.1, _, rfl, .int r.2, _, rfl, rfl, rfl, _, rfl, p.put nD (map_one _ hr') (take_line _ (m := 12) (by omega) (by decide))⟩
    have eU : H4 U = some (.lst ((sk.map (·.2)).map V.int)) := by
      rw [at4, xl, List.take_length, List.map_map]
      rfl
    have eT4 := s4 _ _ eT
    refine ⟨_, rfl, _, rfl, T, sk.map (·.1), T, (sk.map (·.1)).map V.str, rfl, .inl (SqL.of eT4), .inl (SqL.of eT4), ts_strs, by rw [List.length_map, List.length_map]; omega, by rw [List.length_map]; omega, fun H5 s5 => ?_⟩
    rw [unlike_ok ok.nd (fun z hz => hz)]
    refine ⟨_, rfl, ?_⟩
    have eU5 := s5 _ _ eU
    refine ⟨_, rfl, _, rfl, U, sk.map (·.2), rfl, SqL.of eU5, by rw [List.length_map]; omega, fun ns' q pm asc2 nq => ?_⟩
    have e : ns' = sk.map (·.2) := le_eq asc2 ok.asc pm
    subst e
    refine ⟨_, _, dp_ints (SqL.of (Same.new nq _ _ eU5)), dp_ints (SqL.of upd_same), shaped_ints _, shaped_ints _, ?_⟩
    rw [eqv_ints]
    exact k _ ((((s1.trans s2).trans s3).trans s4).trans (s5.trans (Same.new nq)))
end
end Rt
end
section
set_option Elab.async false
set_option linter.all false
set_option maxRecDepth 100000
set_option maxHeartbeats 8000000
/-! parts: others, wants -/
namespace Rt
open PySem PySem.Spec PyProof.Rows L2
/-- a want that is right beside the names -/
structure WantR (ns : List Str) (w : Want) : Prop where
  kind : w.kind ∈ (["all", "any", "any", "count"] : List Str)
  many : (w.kind = "count" ∧ ∃ m, w.many = some m ∧ 1 ≤ m ∧ m ≤ (w.names.length : Int)) ∨ (w.kind ≠ "count" ∧ w.many = none)
  ne : w.names ≠ []
  nd : w.names.Nodup
  all : ∀ z ∈ w.names, z ∈ ns
  skill : w.skill ∈ ns
  out : w.skill ∉ w.names
theorem WantOk.r {ns ks : List Str} {d : Bool} {w : Want} (h : WantOk ns ks d w) (k : ∀ z ∈ ks, z ∈ (["all", "any", "any", "count"] : List Str)) : WantR ns w :=
  ⟨k _ h.kind, h.many, h.ne, h.nd, h.all, let ⟨i, e, _⟩ := h.at_; List.mem_of_getElem? e, h.out⟩
def spOthers (K : PySem.W.Frag) : Sp := fun vs H Q _ => ∃ (n : Addr) (ns : List Str) (z : Str) (q : Addr) (zs : List Str), vs = [.ref n, .str z, .ref q] ∧ Sq K H n (ns.map V.str) ∧ ns.length ≤ 60 ∧ H q = some (.tup (zs.map V.str)) ∧ zs ≠ [] ∧ zs.Nodup ∧ (∀ y ∈ zs, y ∈ ns) ∧ z ∉ zs ∧ ∀ H', Same H H' → Q (.bl true) H'
def spWant (K : PySem.W.Frag) : Sp := fun vs H Q _ => ∃ (n : Addr) (ns : List Str) (x : V) (w : Want), vs = [.ref n, x] ∧ Sq K H n (ns.map V.str) ∧ ns.length ≤ 60 ∧ Ww H x w ∧ WantR ns w ∧ ∀ H', Same H H' → Q (.bl true) H'
def spWants (K : PySem.W.Frag) : Sp := fun vs H Q _ => ∃ (n : Addr) (ns : List Str) (a : Addr) (xs : List V) (wl : List Want), vs = [.ref n, .ref a] ∧ Sq K H n (ns.map V.str) ∧ ns.length ≤ 60 ∧ Lt K H a xs ∧ Wws H xs wl ∧ (∀ w ∈ wl, WantR ns w) ∧ wl.length ≤ 12 ∧ ∀ H', Same H H' → Q (.bl true) H'
theorem Wws.at_ {H : Hp} : ∀ {xs : List V} {wl : List Want} {i : Nat} {x : V}, Wws H xs wl → xs[i]? = some x → ∃ w, wl[i]? = some w ∧ Ww H x w
  | _, _, _, _, .nil, e => by simp at e
  | _, _, 0, _, .cons r _, e => by
    simp at e
    subst e
    exact ⟨_, rfl, r⟩
  | _, _, i + 1, x, .cons _ t, e => by
    obtain ⟨w, h1, h2⟩ := Wws.at_ (i := i) (x := x) t (by simpa using e)
    exact ⟨w, by simpa using h1, h2⟩
section
variable {P : Program} {w : World} {K : PySem.W.Frag} {mg : Str → Option Value} {base : Heap}
theorem cal_are_others (Z : All K mg) : Cal P w K mg base CX0 3 "are_others" ["names", "skill", "value"] (spOthers K) := by
  obtain ⟨fd, F⟩ := Z.f_are_others
  have C_are_unlike : Cal P w K mg base CX0 2 "are_unlike" ["names", "values"] (spUnlike K) := cal_are_unlike Z
  refine .of ⟨fd, F, ok0 F sc_are_others (fun vs H Q E h => ?_) (fun cdv A outer s H vs Q E hr h => ?_)⟩ Z.g_are_others (fun _ _ _ _ _ _ us hl => match us, hl with | [_, _, _], _ => rfl)
  · obtain ⟨n, ns, z, q, zs, rfl, _⟩ := h
    rfl
  · obtain ⟨n, ns, z, q, zs, rfl, hn, n60, hq, ne, nd, sub, out, k⟩ := h
    refine ⟨_, (pss_one (ps_ret (pe_and (pe_callB (call_is (cn := "tuple") (by decide)) (by rfl) Z.b_isinstance boot_isinstance (pa_cons (pv 2) (pa_cons (pe_bltn (v := .ty "tuple") (by rfl) Z.b_tuple PyProof.Rows.boot_tuple rfl) pa_nil))) (pe_and (pe_cmpR op_gt (pe_callB call_len (by rfl) Z.b_len PySem.boot_len (pa_cons (pv 2) pa_nil)) pe_int (nomark _)) (pe_and (pe_cal C_are_unlike (hr.mono (by decide)) (by rfl) pass0 (pa_cons (pv 0) (pa_cons (pv 2) pa_nil))) (pe_one (pe_cmpR op_notIn_seq (pv 1) (pv 2) rfl))))))), ?_⟩
    have zl := sub_len nd sub
    have z0 : 0 < zs.length := List.length_pos_iff.mpr ne
    refine ⟨_, rfl, .ref q, "tuple", rfl, .tup (SqT.of hq), _, rfl, ifT (by decide) ?_⟩
    refine ⟨_, rfl, _, (zs.map V.str).length, rfl, lenV_sq (.inr (SqT.of hq)), _, _, rfl, rfl, _, rfl, ?_⟩
    show if decide ((0 : Int) < ((zs.map V.str).length : Nat)) = true then _ else _
    refine ifT (decide_eq_true (by rw [List.length_map]; omega)) ?_
    refine ⟨_, rfl, _, rfl, n, ns, q, zs.map V.str, rfl, hn, .inr (SqT.of hq), ts_strs, by rw [List.length_map]; omega, n60, fun H1 s1 => ?_⟩
    rw [unlike_ok nd sub]
    refine ⟨_, rfl, ?_⟩
    refine ⟨_, rfl, _, rfl, q, zs.map V.str, rfl, .inr (SqT.of (s1 _ _ hq)), rfl, flat_strsV zs, ?_⟩
    show Q (.bl (!(inV (.str z) (zs.map V.str)))) H1
    rw [inV_strs, decide_eq_false out]
    exact k H1 s1
theorem cal_is_want (Z : All K mg) : Cal P w K mg base CX0 4 "is_want" ["names", "row"] (spWant K) := by
  obtain ⟨fd, F⟩ := Z.f_is_want
  have C_is_one_of : Cal P w K mg base CX0 1 "is_one_of" ["names", "value"] (spOne K) := cal_is_one_of Z
  have C_is_number_in : Cal P w K mg base CX0 2 "is_number_in" ["value", "low", "high"] (spNum K) := cal_is_number_in Z
  have C_are_others : Cal P w K mg base CX0 3 "are_others" ["names", "skill", "value"] (spOthers K) := cal_are_others Z
  refine .of ⟨fd, F, ok0 F sc_is_want (fun vs H Q E h => ?_) (fun cdv A outer s H vs Q E hr h => ?_)⟩ Z.g_is_want (fun _ _ _ _ _ _ us hl => match us, hl with | [_, _], _ => rfl)
  · obtain ⟨n, ns, x, wt, rfl, _⟩ := h
    rfl
  · obtain ⟨n, ns, x, wt, rfl, hn, n60, ⟨p, q, rfl, hp, hq⟩, ok, k⟩ := h
    refine ⟨_, (pss_cons (ps_if (PW.pt (pw_or (pt_not (pt_val (pe_callB (call_is (cn := "tuple") (by decide)) (by rfl) Z.b_isinstance boot_isinstance (pa_cons (pv 1) (pa_cons (pe_bltn (v := .ty "tuple") (by rfl) Z.b_tuple PyProof.Rows.boot_tuple rfl) pa_nil))))) (pw_or (pt_cmpR op_lt (pe_callB call_len (by rfl) Z.b_len PySem.boot_len (pa_cons (pv 1) pa_nil)) pe_int (nomark _)) (pw_or1 (pt_not (pt_val (pe_callB (call_is (cn := "str") (by decide)) (by rfl) Z.b_isinstance boot_isinstance (pa_cons (pe_ix ix_tup (pv 1) pe_int (fun _ _ => rfl)) (pa_cons (pe_bltn (v := .ty "str") (by rfl) Z.b_str PyProof.Rows.boot_str rfl) pa_nil))))))))) (pss_one (ps_ret pe_bl)) pss_nil)
      (pss_cons (ps_if (PW.pt (pw_or (pt_not (pt_val (pe_cal C_is_one_of (hr.mono (by decide)) (by rfl) pass0 (pa_cons (pv 0) (pa_cons (pe_ix ix_tup (pv 1) pe_int (fun _ _ => rfl)) pa_nil))))) (pw_or1 (pt_not (pt_val (pe_cal C_are_others (hr.mono (by decide)) (by rfl) pass0 (pa_cons (pv 0) (pa_cons (pe_ix ix_tup (pv 1) pe_int (fun _ _ => rfl)) (pa_cons (pe_ix ix_tup (pv 1) pe_int (fun _ _ => rfl)) pa_nil))))))))) (pss_one (ps_ret pe_bl)) pss_nil)
      (pss_cons (ps_if (pt_cmpR op_eq (pe_ix ix_tup (pv 1) pe_int (fun _ _ => rfl)) pe_str (nomark _)) (pss_one (ps_ret (pe_and (pe_cmpR op_eq (pe_callB call_len (by rfl) Z.b_len PySem.boot_len (pa_cons (pv 1) pa_nil)) pe_int (nomark _)) (pe_one (pe_cal C_is_number_in (hr.mono (by decide)) (by rfl) pass0 (pa_cons (pe_ix ix_tup (pv 1) pe_int (fun _ _ => rfl)) (pa_cons pe_int (pa_cons (pe_callB call_len (by rfl) Z.b_len PySem.boot_len (pa_cons (pe_ix ix_tup (pv 1) pe_int (fun _ _ => rfl)) pa_nil)) pa_nil)))))))) pss_nil)
      (pss_one (ps_ret (pe_and (pe_cmpR op_in_seq (pe_ix ix_tup (pv 1) pe_int (fun _ _ => rfl)) (pe_tup (pa_cons pe_str (pa_cons pe_str pa_nil))) rfl) (pe_one (pe_cmpR op_eq (pe_callB call_len (by rfl) Z.b_len PySem.boot_len (pa_cons (pv 1) pa_nil)) pe_int (nomark _))))))))), ?_⟩
    obtain ⟨kd, skl, names, many⟩ := wt
    have one : isOne ns (.str skl) = true := decide_eq_true ok.skill
    rcases ok.many with ⟨ek, m, em, m1, m2⟩ | ⟨ek, em⟩
    · cases (show kd = "count" from ek)
      cases (show many = some m from em)
      have hp' : H p = some (.tup [.str "count", .str skl, .ref q, .int m]) := hp
      refine ⟨_, rfl, .ref p, "tuple", rfl, .tup (SqT.of hp), _, rfl, ifF (by decide) ?_⟩
      refine ⟨_, rfl, _, 4, rfl, .inr ⟨_, SqT.of hp', rfl⟩, _, _, rfl, rfl, _, rfl, ifF (by decide) ?_⟩
      refine ⟨_, rfl, p, _, 0, _, rfl, rfl, SqT.of hp', rfl, .str "count", "str", rfl, .str _, _, rfl, ifF (by decide) ?_⟩
      refine ⟨_, rfl, _, rfl, p, _, 1, _, rfl, rfl, SqT.of hp', rfl, n, ns, .str skl, "str", rfl, hn, .str _, _, rfl, ?_⟩
      rw [one]
      refine ⟨_, rfl, _, rfl, p, _, 1, _, rfl, rfl, SqT.of hp', rfl, _, rfl, p, _, 2, _, rfl, rfl, SqT.of hp', rfl, n, ns, skl, q, names, rfl, hn, n60, hq, ok.ne, ok.nd, ok.all, ok.out, fun H1 s1 => ⟨_, rfl, ?_⟩⟩
      have hp1 := s1 _ _ hp'
      refine ⟨_, rfl, p, _, 0, _, rfl, rfl, SqT.of hp1, rfl, rfl, _, rfl, ifT (by decide) ?_⟩
      refine ⟨_, rfl, _, 4, rfl, .inr ⟨_, SqT.of hp1, rfl⟩, rfl, _, rfl, ifT (by decide) ?_⟩
      refine ⟨_, rfl, p, _, 3, _, rfl, rfl, SqT.of hp1, rfl, _, rfl, p, _, 2, _, rfl, rfl, SqT.of hp1, rfl, _, (names.map V.str).length, rfl, .inr ⟨_, SqT.of (s1 _ _ hq), rfl⟩, .int m, 1, _, "int", rfl, .int m, ?_⟩
      rw [num_ok m1 (by rw [List.length_map]; exact m2)]
      exact k H1 s1
    · cases (show many = none from em)
      have hp' : H p = some (.tup [.str kd, .str skl, .ref q]) := hp
      refine ⟨_, rfl, .ref p, "tuple", rfl, .tup (SqT.of hp), _, rfl, ifF (by decide) ?_⟩
      refine ⟨_, rfl, _, 3, rfl, .inr ⟨_, SqT.of hp', rfl⟩, _, _, rfl, rfl, _, rfl, ifF (by decide) ?_⟩
      refine ⟨_, rfl, p, _, 0, _, rfl, rfl, SqT.of hp', rfl, .str kd, "str", rfl, .str _, _, rfl, ifF (by decide) ?_⟩
      refine ⟨_, rfl, _, rfl, p, _, 1, _, rfl, rfl, SqT.of hp', rfl, n, ns, .str skl, "str", rfl, hn, .str _, _, rfl, ?_⟩
      rw [one]
      refine ⟨_, rfl, _, rfl, p, _, 1, _, rfl, rfl, SqT.of hp', rfl, _, rfl, p, _, 2, _, rfl, rfl, SqT.of hp', rfl, n, ns, skl, q, names, rfl, hn, n60, hq, ok.ne, ok.nd, ok.all, ok.out, fun H1 s1 => ⟨_, rfl, ?_⟩⟩
      have hp1 := s1 _ _ hp'
      refine ⟨_, rfl, p, _, 0, _, rfl, rfl, SqT.of hp1, rfl, rfl, _, rfl, ifF (decide_eq_false fun e => ek (by injection e)) ?_⟩
      have two : decide (kd ∈ (["all", "any"] : List Str)) = true := by
        have q1 := ok.kind
        have q2 : kd = "all" ∨ kd = "any" := by
          rcases List.mem_cons.mp q1 with e | q1
          · exact .inl e
          · rcases List.mem_cons.mp q1 with e | q1
            · exact .inr e
            · rcases List.mem_cons.mp q1 with e | q1
              · exact .inr e
              · exact absurd (List.mem_singleton.mp q1) ek
        rcases q2 with e | e
        · exact decide_eq_true (by rw [e]; exact List.mem_cons_self)
        · exact decide_eq_true (by rw [e]; exact List.mem_cons_of_mem _ List.mem_cons_self)
      refine ⟨_, rfl, p, _, 0, _, rfl, rfl, SqT.of hp1, rfl, (by show 2 ≤ sizeLine; decide), fun tp ntp => ?_⟩
      refine ⟨tp, (["all", "any"] : List Str).map V.str, rfl, .inr (SqT.of upd_same), rfl, flat_strsV _, _, rfl, ?_⟩
      have e1 : inV (.str kd) ((["all", "any"] : List Str).map V.str) = true := by rw [inV_strs, two]
      refine ifT e1 ?_
      refine ⟨_, rfl, _, 3, rfl, .inr ⟨_, SqT.of (Same.new ntp _ _ hp1), rfl⟩, rfl, ?_⟩
      exact k _ (s1.trans (Same.new ntp))
theorem cal_are_wants (Z : All K mg) : Cal P w K mg base CX0 5 "are_wants" ["names", "value"] (spWants K) := by
  obtain ⟨fd, F⟩ := Z.f_are_wants
  have C_are_rows : Cal P w K mg base CX0 1 "are_rows" ["value", "most"] (spRows K) := cal_are_rows Z
  have C_is_want : Cal P w K mg base CX0 4 "is_want" ["names", "row"] (spWant K) := cal_is_want Z
  refine .of ⟨fd, F, ok0 F sc_are_wants (fun vs H Q E h => ?_) (fun cdv A outer s H vs Q E hr h => ?_)⟩ Z.g_are_wants (fun _ _ _ _ _ _ us hl => match us, hl with | [_, _], _ => rfl)
  · obtain ⟨n, ns, a, xs, wl, rfl, _⟩ := h
    rfl
  · obtain ⟨n, ns, a, xs, wl, rfl, hn, n60, ha, rows, ok, l12, k⟩ := h
    refine ⟨_, (pss_one (ps_ret (pe_and (pe_cal C_are_rows (hr.mono (by decide)) (by rfl) pass0 (pa_cons (pv 1) (pa_cons (pe_gint (by rfl) Z.MOST_WANTS) pa_nil))) (pe_one (pe_callB (cr_all rfl) (by rfl) Z.b_all boot_all (pa_cons (pe_lc (own := [("row", 2)]) (by rfl) sc_are_wants.nd (pi_seq (pv 1)) (blkOk_by (own := [("row", 2)]) (N := ["names", "value", "row"]) (sc := defScope s_are_wants) (by decide +kernel)) (fun _ _ _ _ _ => (pg_name (i := 2) sc_are_wants.nd rfl (Or.inl rfl))) (fun _ _ _ _ _ => pts_nil) (fun _ _ _ _ _ => (pe_cal C_is_want (hr.mono (by decide)) (by rfl) pass0 (pa_cons (pv 0) (pa_cons (pv 2) pa_nil))))) pa_nil)))))), ?_⟩
    have xl := rows.len
    refine ⟨_, rfl, a, xs, 12, rfl, ha, by omega, fun H1 s1 => ⟨_, rfl, ?_⟩⟩
    have hn1 := hn.same s1
    have ha1 := ha.same s1
    have rows1 := rows.tk (Tk.of s1)
    refine ⟨_, rfl, a, rfl, lc_seq ha1.sq (fun i => (xs.take i).map fun _ => V.bl true) rfl (fun D nD i x H2 hi' p => ?_) fun D H2 nD s2 at2 => ?_⟩
    · obtain ⟨wt, hw, hx⟩ := rows1.at_ hi'
      refine ⟨rfl, _, rfl, _, rfl, n, ns, x, wt, rfl, hn1.same p.same, n60, hx.tk (Tk.of p.same), ok wt (List.mem_of_getElem? hw), fun H3 s3 => ?_⟩
      exact (p.ext s3).put nD (map_one _ hi') (take_line _ (m := 12) (by omega) (by decide))
    refine ⟨D, xs.map fun _ => true, rfl, SqL.of (by rw [at2, List.take_length, List.map_map]; rfl), ?_⟩
    rw [all_true]
    exact k _ (s1.trans s2)
end
end Rt
end
section
set_option Elab.async false
set_option linter.all false
set_option maxRecDepth 100000
set_option maxHeartbeats 4000000
/-! sorted(t) of a tuple of texts -/
namespace Rt
open PySem PySem.Spec PyProof.Rows L2
section
variable {X : Cx}
theorem call_sortedTS : CallR X (.builtin "sorted") (fun xs H Q => ∃ (a : Addr) (ks : List Str), xs = [.ref a] ∧ SqT X.K H a (ks.map V.str) ∧ ks.length < 64 ∧ ∀ ys p, ys.Perm ks → sortedS ys = true → H p = none → Q (.ref p) (upd H p (.lst (ys.map V.str)))) := by
  intro pins s σ H xs us Q I r h
  obtain ⟨a, ks, rfl, hs, h64, q⟩ := h
  obtain ⟨its, rv, pl, hz⟩ := I.tuple hs
  rw [Vals.ref1 r]
  have hS := rv.strs
  have hal : its.length = ks.length := by
    have z := rv.length
    rw [List.length_map] at z
    exact z.symm
  obtain ⟨o, ho, hc, n, hd⟩ := id pl
  refine Calls.call_function_entry PyProof.Rows.kind_sorted PyProof.Rows.plain_sorted PyProof.Rows.entry_sorted (PyProof.Rows.args_sorted1 _) ?_
  unfold Builtin.«sorted»
  refine wpAny_bind (m := checkCount "sorted" 1 1 _) (wpAny_pure ?_)
  refine wpAny_bind (wpAny_collect_seq a (.inr rfl) ho hc hd ?_)
  intro h' hk
  have I1 : Inv X pins σ H { s with heap := h' } := I.kept (t' := s.toks) hk
  refine wpAny_bind (wpAny_newList ?_ (by rw [hal, sizeLine_eq]; omega))
  have hoL : (h'.push (seqObj "list" its.toArray.toList.toArray 0)).get? h'.objs.size = some (seqObj "list" its.toArray.toList.toArray 0) := Heap.get?_push_size _ rfl
  show wpAny _ _ _ _ _ { s with heap := h'.push (seqObj "list" its.toArray.toList.toArray 0) }
  refine wpAny_bind (wpAny_holding (wpAny_call_entry PyProof.Rows.slot_list_sort ⟨_, hoL, rfl⟩ PyProof.Rows.entry_list_sort
    (list_sort_treeK strKind_oneLt (s := { s with heap := h'.push (seqObj "list" its.toArray.toList.toArray 0) }) hoL hS.keysOf (fun v₁ v₂ rest e => keyKind_strs (by rw [← e]; exact hS)) (by rw [hal]; exact h64) fun st' hp hs => ⟨_, rfl, ?_⟩)
    (PyProof.Rows.args_list_sort _)))
  obtain ⟨ys, g1, g2, g3⟩ := sorted_out_str hS hp hs
  obtain ⟨e', he'⟩ := PyProof.Rows.sortedHeap_at (vs := its) (out := (arrOf st').map (·.2)) hoL
  have hlen : (ys.map V.str).length ≤ sizeLine := by
    rw [List.length_map, g2.length_eq]
    exact Nat.le_trans (Nat.le_of_lt h64) (by decide)
  refine wpAny_pure ⟨_, rfl, .ref h'.objs.size, upd H h'.objs.size (.lst (ys.map V.str)), I1.laid (t' := s.toks) (fun b u e => ?_) (Nat.le_refl _)
    (show ObjOk X.prog X.w _ _ _ (.lst (ys.map V.str)) from ⟨hlen, ((arrOf st').map (·.2)).toList, e', vals_of_strs g1, by rw [Array.toArray_toList]; exact he'⟩), rfl, q ys _ g2 g3 (I1.hok.fresh (Nat.le_refl _))⟩
  have hb : b < h'.objs.size := Heap.lt_size e
  rw [PyProof.Rows.sortedHeap_old (Nat.ne_of_lt hb) (by rw [size_push']; exact Nat.lt_succ_of_lt hb)]
  exact Heap.get?_push_of_some _ e
end
end Rt
end
section
set_option Elab.async false
set_option linter.all false
set_option maxRecDepth 100000
set_option maxHeartbeats 8000000
/-! parts: bars -/
namespace Rt
open PySem PySem.Spec PyProof.Rows L2
theorem lc_seqS {K : PySem.W.Frag} {H1 : Hp} {a : Addr} {xs : List V} {g : TG} {tt : TT} {te : TE} {vs : List Nat} {σ : L2.St} {Q : Addr → Hp → Prop} (h : Sq K H1 a xs) (P : Addr → Nat → Hp → Prop) (h0 : ∀ D, H1 D = none → P D 0 (upd H1 D (.lst [])))
    (hs : ∀ D i H, P D i H → Same H1 H)
    (turn : ∀ D, H1 D = none → ∀ i x H, xs[i]? = some x → P D i H → g x (wipe σ vs) H fun σ2 H2 => wipe σ2 vs = wipe σ vs ∧ tt σ2 H2 fun b H3 =>
      if b = true then te σ2 H3 fun y H4 => ∃ acc, H4 D = some (.lst acc) ∧ acc.length < sizeLine ∧ P D (i + 1) (upd H4 D (.lst (acc ++ [y]))) else P D (i + 1) H3)
    (fin : ∀ D H, H1 D = none → P D xs.length H → Q D H) :
    ((∃ xs, SqL K H1 a xs) ∧ LcR g tt te vs σ Q (Itl K a) H1) ∨ ((∃ xs, SqT K H1 a xs) ∧ LcR g tt te vs σ Q (Itt K a) H1) := by
  refine seq_by (R := LcR g tt te vs σ Q) h fun J G w g0 D nD => ?_
  refine lc_it w (P D) (h0 D nD) (fun i H _ p => g0 H (hs D i H p)) ?_ (fun H p => fin D H nD p)
  rintro i x H2 H3 hi p ⟨rfl, hx⟩
  exact turn D nD i x H3 hx p
def rSortTS (K : PySem.W.Frag) : List V → Hp → VK → Prop := fun xs H Q => ∃ (a : Addr) (ks : List Str), xs = [.ref a] ∧ SqT K H a (ks.map V.str) ∧ ks.length < 64 ∧ ∀ ys p, ys.Perm ks → sortedS ys = true → H p = none → Q (.ref p) (upd H p (.lst (ys.map V.str)))
theorem call_sortTS {X : Cx} : CallR X (.builtin "sorted") (rSortTS X.K) := call_sortedTS
def rTupOf (K : PySem.W.Frag) : List V → Hp → VK → Prop := fun xs H Q => ∃ p ys, xs = [V.ref p] ∧ ((SqL K H p ys ∧ ∀ (l : Addr), H l = none → Q (V.ref l) (upd H l (HO.tup ys))) ∨ SqT K H p ys ∧ Q (V.ref p) H)
theorem call_tupOf {X : Cx} : CallR X (.type "tuple") (rTupOf X.K) := call_tuple_of
/-- one side or the other -/
def SbOf (k : List Key) (b : Str × Str) : Prop := k = [.inr b.1, .inr b.2] ∨ k = [.inr b.2, .inr b.1]
theorem sb_un {k : List Key} {b c : Str × Str} (h : SbOf k b) (h' : SbOf k c) : b = c ∨ b = (c.2, c.1) := by
  obtain ⟨b1, b2⟩ := b
  obtain ⟨c1, c2⟩ := c
  rcases h with h | h <;> rcases h' with h' | h' <;> rw [h] at h' <;> injection h' with e1 e2 <;> injection e2 with e2 _ <;> injection e1 with e1 <;> injection e2 with e2 <;> subst e1 <;> subst e2
  · exact .inl rfl
  · exact .inr rfl
  · exact .inr rfl
  · exact .inl rfl
theorem sb_mem {k : List Key} : ∀ {l : List (List Key)} {bs : List (Str × Str)}, Paired SbOf l bs → k ∈ l → ∃ b ∈ bs, SbOf k b
  | _, _, .nil, h => by cases h
  | _, _, .cons r t, h => by
    rcases List.mem_cons.mp h with e | h
    · subst e
      exact ⟨_, List.mem_cons_self, r⟩
    · obtain ⟨b, hb, q⟩ := sb_mem t h
      exact ⟨b, List.mem_cons_of_mem _ hb, q⟩
theorem sb_nd : ∀ {l : List (List Key)} {bs : List (Str × Str)}, Paired SbOf l bs → (bs.Pairwise fun b c => b ≠ c ∧ b ≠ (c.2, c.1)) → l.Nodup
  | _, _, .nil, _ => List.nodup_nil
  | _, _, .cons r t, u => by
    obtain ⟨u1, u2⟩ := List.pairwise_cons.mp u
    refine List.nodup_cons.mpr ⟨fun h => ?_, sb_nd t u2⟩
    obtain ⟨c, hc, q⟩ := sb_mem t h
    have u3 := u1 c hc
    rcases sb_un r q with e | e
    · exact u3.1 e
    · exact u3.2 e
theorem sb_snoc {k : List Key} {b : Str × Str} (r : SbOf k b) : ∀ {l : List (List Key)} {bs : List (Str × Str)}, Paired SbOf l bs → Paired SbOf (l ++ [k]) (bs ++ [b])
  | _, _, .nil => .cons r .nil
  | _, _, .cons q t => .cons q (sb_snoc r t)
theorem perm_two {ys : List Str} {a b : Str} (h : ys.Perm [a, b]) : ys = [a, b] ∨ ys = [b, a] := by
  match ys, h.length_eq with
  | [x, y], _ =>
    have hx := h.mem_iff.mp (List.mem_cons_self (a := x) (l := [y]))
    rcases List.mem_cons.mp hx with e | hx
    · subst e
      have q := (List.perm_cons x).mp h
      have hy := q.mem_iff.mp List.mem_cons_self
      rw [List.mem_singleton.mp hy]
      exact .inl rfl
    · have e := List.mem_singleton.mp hx
      subst e
      have q := (List.perm_cons x).mp (h.trans (List.Perm.swap x a []))
      have hy := q.mem_iff.mp List.mem_cons_self
      rw [List.mem_singleton.mp hy]
      exact .inr rfl
def spBars (K : PySem.W.Frag) : Sp := fun vs H Q _ => ∃ (n : Addr) (ns : List Str) (a : Addr) (xs : List V) (bars : List (Str × Str)), vs = [.ref n, .ref a] ∧ Sq K H n (ns.map V.str) ∧ ns.length ≤ 60 ∧ Lt K H a xs ∧ Rws H xs (bars.map rB) ∧ BarsOk ns bars ∧ bars.length ≤ 4 ∧ ∀ H', Same H H' → Q (.bl true) H'
section
variable {P : Program} {w : World} {K : PySem.W.Frag} {mg : Str → Option Value} {base : Heap}
theorem cal_are_bars (Z : All K mg) : Cal P w K mg base CX0 3 "are_bars" ["names", "value"] (spBars K) := by
  obtain ⟨fd, F⟩ := Z.f_are_bars
  have C_are_rows : Cal P w K mg base CX0 1 "are_rows" ["value", "most"] (spRows K) := cal_are_rows Z
  have C_is_pair : Cal P w K mg base CX0 1 "is_pair" ["value"] spPair := cal_is_pair Z
  have C_are_unlike : Cal P w K mg base CX0 2 "are_unlike" ["names", "values"] (spUnlike K) := cal_are_unlike Z
  refine .of ⟨fd, F, ok0 F sc_are_bars (fun vs H Q E h => ?_) (fun cdv A outer s H vs Q E hr h => ?_)⟩ Z.g_are_bars (fun _ _ _ _ _ _ us hl => match us, hl with | [_, _], _ => rfl)
  · obtain ⟨n, ns, a, xs, bars, rfl, _⟩ := h
    rfl
  · obtain ⟨n, ns, a, xs, bars, rfl, hn, n60, ha, rows, ok, l4, k⟩ := h
    have xl : xs.length = bars.length := by rw [rows.len, List.length_map]
    refine ⟨_, (pss_cons (ps_if (pt_not (pt_val (pe_cal C_are_rows (hr.mono (by decide)) (by rfl) pass0 (pa_cons (pv 1) (pa_cons (pe_gint (by rfl) Z.MOST_BARS) pa_nil))))) (pss_one (ps_ret pe_bl)) pss_nil)
      (pss_cons (ps_if (pt_not (pt_val (pe_callB (cr_all rfl) (by rfl) Z.b_all boot_all (pa_cons (pe_lc (own := [("row", 3)]) (by rfl) sc_are_bars.nd (pi_seq (pv 1)) (blkOk_by (own := [("row", 3)]) (N := ["names", "value", "pairs", "row"]) (sc := defScope s_are_bars) (by decide +kernel)) (fun _ _ _ _ _ => (pg_name (i := 3) sc_are_bars.nd rfl (Or.inl rfl))) (fun _ _ _ _ _ => pts_nil) (fun _ _ _ _ _ => (pe_and (pe_cal C_is_pair (hr.mono (by decide)) (by rfl) pass0 (pa_cons (pv 3) pa_nil)) (pe_one (pe_cal C_are_unlike (hr.mono (by decide)) (by rfl) pass0 (pa_cons (pv 0) (pa_cons (pv 3) pa_nil))))))) pa_nil)))) (pss_one (ps_ret pe_bl)) pss_nil)
      (pss_cons (ps_setLc (i := 2) (own := [("row", 3)]) (by rfl) sc_are_bars.nd rfl rfl (sw_true rfl rfl rfl (by decide +kernel)) (pi_seq (pv 1)) (blkOk_by (own := [("row", 3)]) (N := ["names", "value", "pairs", "row"]) (sc := defScope s_are_bars) (by decide +kernel)) (fun _ _ _ _ _ => (pg_name (i := 3) sc_are_bars.nd rfl (Or.inl rfl))) (fun _ _ _ _ _ => pts_nil) (fun _ _ _ _ _ => (pe_callTy (show CallR _ _ (rTupOf K) from call_tupOf) (by rfl) Z.b_tuple PyProof.Rows.boot_tuple (pa_cons (pe_callB (show CallR _ _ (rSortTS K) from call_sortTS) (by rfl) Z.b_sorted PyProof.Rows.boot_sorted (pa_cons (pv 3) pa_nil)) pa_nil))))
      (pss_one (ps_ret (pe_cmpR op_eq (pe_callB call_lenN (by rfl) Z.b_len PySem.boot_len (pa_cons (pe_callTy (call_setT rfl hr.units) (by rfl) Z.b_set PyProof.Rows.boot_set (pa_cons (pv 2) pa_nil)) pa_nil)) (pe_callB call_len (by rfl) Z.b_len PySem.boot_len (pa_cons (pv 2) pa_nil)) (nomark _))))))), ?_⟩
    refine ⟨_, rfl, a, xs, 6, rfl, ha, by omega, fun H1 s1 => ⟨_, rfl, ?_⟩⟩
    have hn1 := hn.same s1
    have ha1 := ha.same s1
    have rows1 := rows.same s1
    refine ⟨_, rfl, a, rfl, lc_seq ha1.sq (fun i => (xs.take i).map fun _ => V.bl true) rfl (fun D nD i x H2 hi' p => ?_) fun D H2 nD s2 at2 => ?_⟩
    · obtain ⟨r, tp, hr', rfl, htp⟩ := rows1.at_ hi'
      have b := ok.in_ r (List.mem_of_getElem? hr')
      refine ⟨rfl, _, rfl, tp, _, rfl, p.same _ _ htp, _, rfl, ?_⟩
      have e2 : rB r = [r.1, r.2].map V.str := rfl
      have nd2 : [r.1, r.2].Nodup := by simp [b.2.2]
      have in2 : ∀ z ∈ [r.1, r.2], z ∈ ns := fun z hz => by
        rcases List.mem_cons.mp hz with e | hz
        · rw [e]; exact b.1
        · rw [List.mem_singleton.mp hz]; exact b.2.1
      refine ⟨_, rfl, _, rfl, n, ns, tp, [r.1, r.2].map V.str, rfl, hn1.same p.same, .inr (SqT.of (p.same _ _ htp)), ts_strs, by show 2 ≤ 60; decide, n60, fun H3 s3 => ?_⟩
      rw [unlike_ok nd2 in2]
      exact (p.ext s3).put nD (map_one _ hi') (take_line _ (m := 6) (by omega) (by decide))
    refine ⟨D, xs.map fun _ => true, rfl, SqL.of (by rw [at2, List.take_length, List.map_map]; rfl), _, rfl, ?_⟩
    rw [all_true]
    have ha2 := ha1.same s2
    have rows2 := rows1.same s2
    refine ⟨_, rfl, a, rfl, lc_seqS ha2.sq (fun D i Hx => Same H2 Hx ∧ ∃ ks : List (Addr × List Key), Hx D = some (.lst (ks.map fun p => V.ref p.1)) ∧ (∀ p ∈ ks, Hx p.1 = some (.tup (p.2.map kV))) ∧ ks.length ≤ i ∧ Paired SbOf (ks.map (·.2)) (bars.take i))
      (fun D nD => ⟨Same.new nD, [], upd_same, fun p hp => (nomatch hp), Nat.le_refl _, .nil⟩) (fun D i Hx P => P.1) (fun D nD i x Hx hi' ⟨sx, ks, hD, hk, kl, pr⟩ => ?_) fun T Hx nT ⟨sx, ks, hT, hk, kl, pr⟩ => ?_⟩
    · obtain ⟨r, tp, hr', rfl, htp⟩ := rows2.at_ hi'
      have i4 : i < 4 := by
        have := (List.getElem?_eq_some_iff.mp hi').1
        omega
      refine ⟨rfl, _, rfl, tp, [r.1, r.2], rfl, SqT.of (sx _ _ htp), by show 2 < 64; decide, fun ys p pm _ np => ?_⟩
      refine ⟨p, _, rfl, .inl ⟨SqL.of upd_same, fun q nq => ?_⟩⟩
      have sb : SbOf (ys.map Sum.inr) r := by
        rcases perm_two pm with e | e
        · exact .inl (by rw [e]; rfl)
        · exact .inr (by rw [e]; rfl)
      have e3 : ys.map V.str = (ys.map (Sum.inr : Str → Key)).map kV := by rw [List.map_map]; rfl
      have sp := (Same.new (o := .lst (ys.map V.str)) np).trans (Same.new (o := .tup (ys.map V.str)) nq)
      refine ⟨_, sp _ _ hD, line_of (m := 4) (by rw [List.length_map]; omega) (by decide), ?_⟩
      have hD2 := sp _ _ hD
      refine ⟨fun b o hb => ?_, ks ++ [(q, ys.map Sum.inr)], by rw [upd_same, List.map_append]; rfl, fun u hu => ?_, by rw [List.length_append]; show ks.length + 1 ≤ i + 1; omega, ?_⟩
      · rw [upd_ne (ne_of_none hb nD)]
        exact sp _ _ (sx _ _ hb)
      · rcases List.mem_append.mp hu with hu | hu
        · have h1 := sp _ _ (hk u hu)
          rw [upd_ne (ne_of h1 hD2 (by intro z; cases z))]
          exact h1
        · rw [List.mem_singleton.mp hu]
          show (upd _ D _) q = some (.tup ((ys.map (Sum.inr : Str → Key)).map kV))
          have h1 : (upd (upd Hx p (.lst (ys.map V.str))) q (.tup (ys.map V.str))) q = some (.tup (ys.map V.str)) := upd_same
          rw [upd_ne (ne_of h1 hD2 (by intro z; cases z)), h1, e3]
      · rw [List.map_append, take_one hr']
        exact sb_snoc sb pr
    rw [xl, List.take_length] at pr
    have kn := sb_nd pr ok.un
    have kl2 : ks.length = bars.length := by
      have q := Paired.length pr
      rw [List.length_map] at q
      exact q
    refine ⟨_, rfl, T, ks, rfl, SqL.of hT, fun p hp => SqT.of (hk p hp), by omega, fun S nS => ?_⟩
    have e4 : cnt (ks.map (·.2)) = ks.length := by
      rw [(cnt_nd _).mpr kn, List.length_map]
    rw [e4]
    refine ⟨S, _, rfl, upd_same, by omega, _, rfl, _, _, rfl, .inl ⟨_, SqL.of (Same.new nS _ _ hT), rfl⟩, rfl, ?_⟩
    rw [List.length_map]
    show Q (.bl (decide (V.int (ks.length : Int) = V.int (ks.length : Int)))) _
    rw [decide_eq_true rfl]
    exact k _ (((s1.trans s2).trans sx).trans (Same.new nS))
end
end Rt
end
section
set_option Elab.async false
set_option linter.all false
set_option maxRecDepth 100000
set_option maxHeartbeats 8000000
/-! parts: no part is wrong -/
namespace Rt
open PySem PySem.Spec PyProof.Rows L2
/-- the eight parts of a book that is right, as they are handed over -/
structure PartsAt (K : PySem.W.Frag) (H : Hp) (B : Bk) (a1 a3 a4 a5 a6 a7 : Addr) (x1 x3 x4 x5 x6 x7 : List V) : Prop where
  l1 : Lt K H a1 x1
  r1 : Rws H x1 (B.sk.map rS)
  l3 : Lt K H a3 x3
  r3 : Rws H x3 (B.nd.map rI2)
  l4 : Lt K H a4 x4
  r4 : Wws H x4 B.wl
  l5 : Lt K H a5 x5
  r5 : Rws H x5 (B.bars.map rB)
  l6 : Lt K H a6 x6
  r6 : Rws H x6 (B.gives.map rS)
  l7 : Lt K H a7 x7
  r7 : Rws H x7 (B.prices.map rS)
theorem PartsAt.same {K : PySem.W.Frag} {H H' : Hp} {B : Bk} {a1 a3 a4 a5 a6 a7 : Addr} {x1 x3 x4 x5 x6 x7 : List V} (h : PartsAt K H B a1 a3 a4 a5 a6 a7 x1 x3 x4 x5 x6 x7) (s : Same H H') : PartsAt K H' B a1 a3 a4 a5 a6 a7 x1 x3 x4 x5 x6 x7 :=
  ⟨h.l1.same s, h.r1.same s, h.l3.same s, h.r3.same s, h.l4.same s, h.r4.tk (Tk.of s), h.l5.same s, h.r5.same s, h.l6.same s, h.r6.same s, h.l7.same s, h.r7.same s⟩
/-- the parts are right -/
structure BkR (B : Bk) : Prop where
  sk : SkillsR B.sk
  pt : 0 ≤ B.points ∧ B.points ≤ 12
  na : (B.nd.map (·.1)).Pairwise (· < ·)
  nb : ∀ r ∈ B.nd, (2 ≤ r.1 ∧ r.1 ≤ 4) ∧ 0 ≤ r.2 ∧ r.2 ≤ 12
  w : ∀ w ∈ B.wl, WantR B.ns w
  wl : B.wl.length ≤ 12
  bars : BarsOk B.ns B.bars
  b4 : B.bars.length ≤ 4
  gives : ToldOk B.ns 1 3 B.gives
  prices : ToldOk B.ns 0 99 B.prices
  reset : ∀ r, B.reset = some r → 0 ≤ r ∧ r ≤ 99
theorem BkOk.r {sort : Int} {B : Bk} (h : BkOk sort B) : BkR B := ⟨h.sk.r, h.pt, h.nd.asc, h.nd.bd, fun w hw => (h.w w hw).r fun _ hz => hz, Nat.le_trans h.wl (by decide), h.bars, Nat.le_trans h.b2 (by decide), h.gives, h.prices, h.reset⟩
/-- tiers from 2 to 4, going up: at most three -/
theorem three {ns : List Int} (a : ns.Pairwise (· < ·)) (b : ∀ n ∈ ns, 2 ≤ n ∧ n ≤ 4) : ns.length ≤ 3 := by
  match ns, a, b with
  | [], _, _ => simp
  | [_], _, _ => simp
  | [_, _], _, _ => simp
  | [_, _, _], _, _ => simp
  | w :: x :: y :: z :: r, a, b =>
    obtain ⟨a1, a2⟩ := List.pairwise_cons.mp a
    obtain ⟨a3, a4⟩ := List.pairwise_cons.mp a2
    obtain ⟨a5, a6⟩ := List.pairwise_cons.mp a4
    have b1 := b w (by simp)
    have b2 := b z (by simp)
    have c1 := a1 x (by simp)
    have c2 := a3 y (by simp)
    have c3 := a5 z (by simp)
    omega
def spWrong (K : PySem.W.Frag) : Sp := fun vs H Q _ => ∃ (B : Bk) (a1 a3 a4 a5 a6 a7 : Addr) (x1 x3 x4 x5 x6 x7 : List V), vs = [.ref a1, .int B.points, .ref a3, .ref a4, .ref a5, .ref a6, .ref a7, oV B.reset] ∧ PartsAt K H B a1 a3 a4 a5 a6 a7 x1 x3 x4 x5 x6 x7 ∧ BkR B ∧ ∀ H', Same H H' → Q .non H'
section
variable {P : Program} {w : World} {K : PySem.W.Frag} {mg : Str → Option Value} {base : Heap}
theorem cal_wrong_part (Z : All K mg) : Cal P w K mg base CX0 6 "wrong_part" ["skills", "points", "needs", "wants", "bars", "gives", "prices", "reset"] (spWrong K) := by
  obtain ⟨fd, F⟩ := Z.f_wrong_part
  have C_are_skills : Cal P w K mg base CX0 3 "are_skills" ["value"] (spSkills K) := cal_are_skills Z
  have C_is_number_in : Cal P w K mg base CX0 2 "is_number_in" ["value", "low", "high"] (spNum K) := cal_is_number_in Z
  have C_are_needs : Cal P w K mg base CX0 4 "are_needs" ["value"] (spNeeds K) := cal_are_needs Z
  have C_are_wants : Cal P w K mg base CX0 5 "are_wants" ["names", "value"] (spWants K) := cal_are_wants Z
  have C_are_bars : Cal P w K mg base CX0 3 "are_bars" ["names", "value"] (spBars K) := cal_are_bars Z
  have C_are_told_once : Cal P w K mg base CX0 3 "are_told_once" ["names", "value", "low", "high"] (spTold K) := cal_are_told_once Z
  refine .of ⟨fd, F, ok0 F sc_wrong_part (fun vs H Q E h => ?_) (fun cdv A outer s H vs Q E hr h => ?_)⟩ Z.g_wrong_part (fun _ _ _ _ _ _ us hl => match us, hl with | [_, _, _, _, _, _, _, _], _ => rfl)
  · obtain ⟨B, a1, a3, a4, a5, a6, a7, x1, x3, x4, x5, x6, x7, rfl, _⟩ := h
    rfl
  · obtain ⟨B, a1, a3, a4, a5, a6, a7, x1, x3, x4, x5, x6, x7, rfl, pa, ok, k⟩ := h
    refine ⟨_, (pss_cons (ps_if (pt_not (pt_val (pe_cal C_are_skills (hr.mono (by decide)) (by rfl) pass0 (pa_cons (pv 0) pa_nil)))) (pss_one (ps_ret pe_str)) pss_nil)
      (pss_cons (ps_setLc (i := 8) (own := [("name", 11), ("_", 12)]) (by rfl) sc_wrong_part.nd rfl rfl (sw_true rfl rfl rfl (by decide +kernel)) (pi_seq (pv 0)) (blkOk_by (own := [("name", 11), ("_", 12)]) (N := ["skills", "points", "needs", "wants", "bars", "gives", "prices", "reset", "names", "answers", "wrong", "name", "_", "part", "right"]) (sc := defScope s_wrong_part) (by decide +kernel)) (fun _ _ _ _ _ => (pg_tupK (K := K) (n := 2) rfl rfl (pgs_cons (pg_name (i := 11) sc_wrong_part.nd rfl (Or.inl rfl)) (pgs_cons (pg_name (i := 12) sc_wrong_part.nd rfl (Or.inl rfl)) pgs_nil)))) (fun _ _ _ _ _ => pts_nil) (fun _ _ _ _ _ => (pv 11)))
      (pss_cons (ps_set (i := 9) sc_wrong_part.nd rfl (Or.inl rfl) (pe_lst (pa_cons (pe_tup (pa_cons pe_str (pa_cons (pe_cal C_is_number_in (hr.mono (by decide)) (by rfl) pass0 (pa_cons (pv 1) (pa_cons pe_int (pa_cons (pe_gint (by rfl) Z.MOST_POINTS) pa_nil)))) pa_nil))) (pa_cons (pe_tup (pa_cons pe_str (pa_cons (pe_cal C_are_needs (hr.mono (by decide)) (by rfl) pass0 (pa_cons (pv 2) pa_nil)) pa_nil))) (pa_cons (pe_tup (pa_cons pe_str (pa_cons (pe_cal C_are_wants (hr.mono (by decide)) (by rfl) pass0 (pa_cons (pv 8) (pa_cons (pv 3) pa_nil))) pa_nil))) (pa_cons (pe_tup (pa_cons pe_str (pa_cons (pe_cal C_are_bars (hr.mono (by decide)) (by rfl) pass0 (pa_cons (pv 8) (pa_cons (pv 4) pa_nil))) pa_nil))) (pa_cons (pe_tup (pa_cons pe_str (pa_cons (pe_cal C_are_told_once (hr.mono (by decide)) (by rfl) pass0 (pa_cons (pv 8) (pa_cons (pv 5) (pa_cons pe_int (pa_cons (pe_gint (by rfl) Z.MOST_GIVEN) pa_nil))))) pa_nil))) (pa_cons (pe_tup (pa_cons pe_str (pa_cons (pe_cal C_are_told_once (hr.mono (by decide)) (by rfl) pass0 (pa_cons (pv 8) (pa_cons (pv 6) (pa_cons pe_int (pa_cons (pe_gint (by rfl) Z.MOST_PRICE) pa_nil))))) pa_nil))) (pa_cons (pe_tup (pa_cons pe_str (pa_cons (pe_or (pe_cmpR op_isN (pv 7) pe_non (nomark _)) (pe_one (pe_cal C_is_number_in (hr.mono (by decide)) (by rfl) pass0 (pa_cons (pv 7) (pa_cons pe_int (pa_cons (pe_gint (by rfl) Z.MOST_PRICE) pa_nil)))))) pa_nil))) pa_nil)))))))))
      (pss_cons (ps_setLc (i := 10) (own := [("part", 13), ("right", 14)]) (by rfl) sc_wrong_part.nd rfl rfl (sw_true rfl rfl rfl (by decide +kernel)) (pi_seq (pv 9)) (blkOk_by (own := [("part", 13), ("right", 14)]) (N := ["skills", "points", "needs", "wants", "bars", "gives", "prices", "reset", "names", "answers", "wrong", "name", "_", "part", "right"]) (sc := defScope s_wrong_part) (by decide +kernel)) (fun _ _ _ _ _ => (pg_tupK (K := K) (n := 2) rfl rfl (pgs_cons (pg_name (i := 13) sc_wrong_part.nd rfl (Or.inl rfl)) (pgs_cons (pg_name (i := 14) sc_wrong_part.nd rfl (Or.inl rfl)) pgs_nil)))) (fun _ _ _ _ _ => (pts_one (pt_not (pt_val (pv 14))))) (fun _ _ _ _ _ => (pv 13)))
      (pss_one (ps_ret (pe_ifExp (pt_truth (pv 10) (by intro _; rfl)) (pe_ix ix_list (pv 10) pe_int (fun _ _ => rfl)) pe_non))))))), ?_⟩
    refine ⟨_, rfl, a1, x1, B.sk, rfl, pa.l1, pa.r1, ok.sk, fun H1 s1 => ⟨_, rfl, ?_⟩⟩
    have p1 := pa.same s1
    have xl : x1.length = B.sk.length := by rw [pa.r1.len, List.length_map]
    have k12 := ok.sk.le
    refine ⟨_, rfl, a1, rfl, lc_seq p1.l1.sq (fun i => (B.sk.take i).map fun r => V.str r.1) rfl (fun D nD i x H3 hi' p => ?_) fun T H2 nT s2 at2 => ?_⟩
    · obtain ⟨r, tp, hr', rfl, htp⟩ := p1.r1.at_ hi'
      refine ⟨tp, _, rfl, SqT.of (p.same _ _ htp), rfl, .str r.1, _, rfl, .int r.2, _, rfl, rfl, rfl, _, rfl, p.put nD (map_one _ hr') (take_line _ (m := 12) (by omega) (by decide))⟩
    have eT : H2 T = some (.lst (B.ns.map V.str)) := by
      rw [at2, xl, List.take_length, List.map_map]
      rfl
    have n60 : B.ns.length ≤ 60 := by rw [List.length_map]; omega
    have p2 := p1.same s2
    -- points
    refine ⟨_, rfl, .int B.points, 0, 12, "int", rfl, .int _, ?_⟩
    rw [num_ok ok.pt.1 ok.pt.2]
    have two : (2 : Nat) ≤ sizeLine := by decide
    refine ⟨two, fun t1 m1 => ?_⟩
    have sA := Same.new (o := .tup [.str "points", .bl true]) m1
    have hA : (upd H2 t1 (.tup [.str "points", .bl true])) t1 = some (.tup [.str "points", .bl true]) := upd_same
    generalize upd H2 t1 (.tup [.str "points", .bl true]) = HA at sA hA ⊢
    have pA := p2.same sA
    have nA := sA _ _ eT
    -- needs
    refine ⟨_, rfl, a3, x3, B.nd, rfl, pA.l3, pA.r3, ok.na, ok.nb, by
      have q := three ok.na (fun n hn => by
        obtain ⟨r, hr, rfl⟩ := List.mem_map.mp hn
        exact (ok.nb r hr).1)
      rw [List.length_map] at q
      exact q, fun H3 s3 => ⟨two, fun t2 m2 => ?_⟩⟩
    have sB := s3.trans (Same.new (o := .tup [.str "needs", .bl true]) m2)
    have hB : (upd H3 t2 (.tup [.str "needs", .bl true])) t2 = some (.tup [.str "needs", .bl true]) := upd_same
    generalize upd H3 t2 (.tup [.str "needs", .bl true]) = HB at sB hB ⊢
    have pB := pA.same sB
    have nB := sB _ _ nA
    -- wants
    refine ⟨_, rfl, _, rfl, T, B.ns, a4, x4, B.wl, rfl, .inl (SqL.of nB), n60, pB.l4, pB.r4, ok.w, ok.wl, fun H4 s4 => ⟨two, fun t3 m3 => ?_⟩⟩
    have sC := s4.trans (Same.new (o := .tup [.str "wants", .bl true]) m3)
    have hC : (upd H4 t3 (.tup [.str "wants", .bl true])) t3 = some (.tup [.str "wants", .bl true]) := upd_same
    generalize upd H4 t3 (.tup [.str "wants", .bl true]) = HC at sC hC ⊢
    have pC := pB.same sC
    have nC := sC _ _ nB
    -- bars
    refine ⟨_, rfl, _, rfl, T, B.ns, a5, x5, B.bars, rfl, .inl (SqL.of nC), n60, pC.l5, pC.r5, ok.bars, ok.b4, fun H5 s5 => ⟨two, fun t4 m4 => ?_⟩⟩
    have sD := s5.trans (Same.new (o := .tup [.str "bars", .bl true]) m4)
    have hD : (upd H5 t4 (.tup [.str "bars", .bl true])) t4 = some (.tup [.str "bars", .bl true]) := upd_same
    generalize upd H5 t4 (.tup [.str "bars", .bl true]) = HD at sD hD ⊢
    have pD := pC.same sD
    have nD := sD _ _ nC
    -- gives
    refine ⟨_, rfl, _, rfl, T, B.ns, a6, x6, B.gives, 1, 3, rfl, .inl (SqL.of nD), n60, pD.l6, pD.r6, ok.gives, fun H6 s6 => ⟨two, fun t5 m5 => ?_⟩⟩
    have sE := s6.trans (Same.new (o := .tup [.str "gives", .bl true]) m5)
    have hE : (upd H6 t5 (.tup [.str "gives", .bl true])) t5 = some (.tup [.str "gives", .bl true]) := upd_same
    generalize upd H6 t5 (.tup [.str "gives", .bl true]) = HE at sE hE ⊢
    have pE := pD.same sE
    have nE := sE _ _ nD
    -- prices
    refine ⟨_, rfl, _, rfl, T, B.ns, a7, x7, B.prices, 0, 99, rfl, .inl (SqL.of nE), n60, pE.l7, pE.r7, ok.prices, fun H7 s7 => ⟨two, fun t6 m6 => ?_⟩⟩
    have sF := s7.trans (Same.new (o := .tup [.str "prices", .bl true]) m6)
    have hF : (upd H7 t6 (.tup [.str "prices", .bl true])) t6 = some (.tup [.str "prices", .bl true]) := upd_same
    generalize upd H7 t6 (.tup [.str "prices", .bl true]) = HF at sF hF ⊢
    -- reset
    dsimp only [tCons, tTup, tC]
    refine by_ (fun x H' => x = .bl true ∧ H' = HF) (fun Q' kQ => ?_) ?_
    · cases e : B.reset with
      | none => exact ⟨_, rfl, rfl, _, rfl, ifT (by decide) (kQ _ _ ⟨rfl, rfl⟩)⟩
      | some r =>
        have b := ok.reset r e
        refine ⟨_, rfl, rfl, _, rfl, ifF (decide_eq_false fun e => nomatch e) ⟨_, rfl, .int r, 0, 99, "int", rfl, .int r, ?_⟩⟩
        rw [num_ok b.1 b.2]
        exact kQ _ _ ⟨rfl, rfl⟩
    rintro x H' ⟨rfl, rfl⟩
    refine ⟨two, fun t7 m7 => ?_⟩
    have sG := Same.new (o := .tup [.str "reset", .bl true]) m7
    have hG : (upd H' t7 (.tup [.str "reset", .bl true])) t7 = some (.tup [.str "reset", .bl true]) := upd_same
    generalize upd H' t7 (.tup [.str "reset", .bl true]) = HG at sG hG ⊢
    refine ⟨(by show 7 ≤ sizeLine; decide), fun L nL => ?_⟩
    have sL := Same.new (o := .lst [.ref t1, .ref t2, .ref t3, .ref t4, .ref t5, .ref t6, .ref t7]) nL
    have hL : (upd HG L (.lst [.ref t1, .ref t2, .ref t3, .ref t4, .ref t5, .ref t6, .ref t7])) L = some (.lst [.ref t1, .ref t2, .ref t3, .ref t4, .ref t5, .ref t6, .ref t7]) := upd_same
    have rows : Rws (upd HG L (.lst [.ref t1, .ref t2, .ref t3, .ref t4, .ref t5, .ref t6, .ref t7])) [.ref t1, .ref t2, .ref t3, .ref t4, .ref t5, .ref t6, .ref t7] ((["points", "needs", "wants", "bars", "gives", "prices", "reset"] : List Str).map fun z => [V.str z, V.bl true]) := by
      have q6 := sG.trans sL
      have q5 := sF.trans q6
      have q4 := sE.trans q5
      have q3 := sD.trans q4
      have q2 := sC.trans q3
      have q1 := sB.trans q2
      exact .cons ⟨t1, rfl, q1 _ _ hA⟩ (.cons ⟨t2, rfl, q2 _ _ hB⟩ (.cons ⟨t3, rfl, q3 _ _ hC⟩ (.cons ⟨t4, rfl, q4 _ _ hD⟩ (.cons ⟨t5, rfl, q5 _ _ hE⟩ (.cons ⟨t6, rfl, q6 _ _ hF⟩ (.cons ⟨t7, rfl, sL _ _ hG⟩ .nil))))))
    generalize upd HG L (.lst [.ref t1, .ref t2, .ref t3, .ref t4, .ref t5, .ref t6, .ref t7]) = HL at sL hL rows ⊢
    -- nothing is wrong
    refine ⟨_, rfl, L, rfl, lc_seq (.inl (SqL.of hL)) (fun _ => []) rfl (fun D nD i x H3 hi' p => ?_) fun W HW nW sW at9 => ?_⟩
    · obtain ⟨z, tp, hr', rfl, htp⟩ := rows.at_ hi'
      exact ⟨tp, _, rfl, SqT.of (p.same _ _ htp), rfl, .str z, _, rfl, .bl true, _, rfl, rfl, rfl, _, rfl, true, rfl, p.skip rfl⟩
    refine ⟨_, rfl, false, .inl ⟨[], SqL.of at9, rfl⟩, ?_⟩
    refine k _ ?_
    have e1 := (s1.trans s2).trans (sA.trans (sB.trans (sC.trans (sD.trans (sE.trans (sF.trans sG))))))
    exact e1.trans (sL.trans sW)
end
end Rt
end
section
set_option Elab.async false
set_option linter.all false
set_option maxRecDepth 100000
set_option maxHeartbeats 8000000
/-! the book: what its methods answer -/
namespace Rt
open PySem PySem.Spec PyProof.Rows L2
abbrev BC (K : PySem.W.Frag) : Addr := He.ga K "Book"
/-- a method of the book, packed -/
structure CalM (P : Program) (w : World) (K : PySem.W.Frag) (mg : Str → Option Value) (base : Heap) (CX : CXT) (k : Nat) (m : Str) (ps : List Str) (sp : Sp) : Prop where
  ex : ∃ fd, Binds K fd ps [] ∧ FnOk P w K mg base CX k (He.ma K (BC K) m) fd ps sp
  mt : Meth K (BC K) m (He.ma K (BC K) m)
  cl : Cls K (BC K)
section
variable {X : Cx} {CX : CXT} {k : Nat} {m : Str} {ps : List Str} {sp : Sp} {E : XK} {o e : Expr} {es : List Expr} {apos pos : Pos} {t : TA} {ta : TE} {pl : Sem Bool}
theorem pe_m0 (C : CalM X.prog X.w X.K X.mg X.base CX k m ps sp) (hr : Room k X.A) (hx : Passes CX X E) (he : PE X o ta)
    (ht : eval (.Call (.Attribute o m apos) [] [] pos) X.env = (do
      let ov ← eval o X.env
      standAt apos.atName
      let (f, first) ← holding [ov] (getMethod ov m pl)
      callWith pos f first (backTo pos (starEach [] X.env)) (backToKw pos (keywordEach [] X.env))) := by rfl) :
    PE X (.Call (.Attribute o m apos) [] [] pos) (tMeth (BC X.K) m sp [] E ta tNil) := by
  obtain ⟨fd, b, F⟩ := C.ex
  exact pe_meth0 (pl := pl) he C.cl C.mt F hr b .nil hx ht
theorem pe_m1 (C : CalM X.prog X.w X.K X.mg X.base CX k m ps sp) (hr : Room k X.A) (hx : Passes CX X E) (he : PE X o ta) (ha : PA X (e :: es) t)
    (hst : starEach (e :: es) X.env = (false, eval e X.env) :: starEach es X.env := by rfl) (hpl : (backTo pos (starEach es X.env)).any (·.1) = false := by rfl)
    (ht : eval (.Call (.Attribute o m apos) (e :: es) [] pos) X.env = (do
      let ov ← eval o X.env
      standAt apos.atName
      let (f, first) ← holding [ov] (getMethod ov m pl)
      callWith pos f first (backTo pos (starEach (e :: es) X.env)) (backToKw pos (keywordEach [] X.env))) := by rfl) :
    PE X (.Call (.Attribute o m apos) (e :: es) [] pos) (tMeth (BC X.K) m sp [] E ta t) := by
  obtain ⟨fd, b, F⟩ := C.ex
  exact pe_meth (pl := pl) he C.cl C.mt F hr b .nil hx ha hst hpl ht
end
section
variable {P : Program} {w : World} {K : PySem.W.Frag} {mg : Str → Option Value} {base : Heap} {m qual : Str} {params : Arguments} {body : List Stmt} {scope : Scope} {ps : List Str} {k : Nat} {sp : Sp}
theorem CalM.of (ex : ∃ fd, FunD K m qual params body scope [] [] (He.fAd K ("Book", some m)) fd ∧ FnOk P w K mg base CX0 k (He.fAd K ("Book", some m)) fd ps sp) (mt : Meth K (BC K) m (He.ma K (BC K) m)) (cl : Cls K (BC K))
    (h : ∀ (kV doc pm : Value) (an : Option Addr) (cdv ct : Value) (us : List Value), us.length = ps.length → bindArgs (PySem.W.fnOf m qual params body scope .none kV doc pm an cdv ct) ⟨us, []⟩ = pure (ps.zip us)) :
    CalM P w K mg base CX0 k m ps sp := by
  obtain ⟨fd, F, G⟩ := ex
  exact ⟨⟨fd, F.bindsN h, G⟩, mt, cl⟩
end
/-- where a book keeps what -/
structure BoA where
  (dx dp nm td nb gb pb t1 t3 t4 t5 t6 t7 : Addr)
  (x1 x3 x4 x5 x6 x7 : List V)
def bFs (a : BoA) : List (Str × V) := [("_parts", .ref a.dp), ("_names", .ref a.nm), ("_tiers", .ref a.td), ("_need_by_tier", .ref a.nb), ("_given_by_skill", .ref a.gb), ("_price_by_skill", .ref a.pb)]
abbrev kS (r : Str × Int) : Key × V := (.inr r.1, .int r.2)
abbrev kI (r : Int × Int) : Key × V := (.inl r.1, .int r.2)
/-- an empty tuple of the written part -/
def PlainE (K : PySem.W.Frag) (a : Addr) : Prop := ∃ o n, K.lookup a = some o ∧ o.cls = .type "tuple" ∧ o.dict = none ∧ o.data = .seq #[] n
theorem PlainE.sq {K : PySem.W.Frag} {a : Addr} (h : PlainE K a) (H : Hp) : SqT K H a [] := by
  obtain ⟨o, n, e1, e2, _, e4⟩ := h
  exact .inr ⟨o, #[], n, e1, e2, e4, Nat.zero_le _, .nil⟩
/-- a tuple of ours, or an empty one of the written part -/
def TpAt (K : PySem.W.Frag) (H : Hp) (a : Addr) (xs : List V) : Prop := H a = some (.tup xs) ∨ (xs = [] ∧ PlainE K a)
section
variable {K : PySem.W.Frag} {H H' : Hp} {a : Addr} {xs : List V}
theorem TpAt.tk (h : TpAt K H a xs) (k : Tk H H') : TpAt K H' a xs := h.elim (fun h => .inl (k _ _ h)) .inr
theorem TpAt.same (h : TpAt K H a xs) (k : Same H H') : TpAt K H' a xs := h.tk (Tk.of k)
theorem TpAt.sq (h : TpAt K H a xs) : SqT K H a xs := h.elim (fun h => SqT.of h) fun ⟨e, h⟩ => by
  rw [e]
  exact h.sq H
end
structure BookAt (K : PySem.W.Frag) (H : Hp) (x : Addr) (B : Bk) (a : BoA) : Prop where
  at_ : H x = some (.ins (BC K) a.dx (bFs a))
  parts : H a.dp = some (.dK (bkL a.t1 B.points a.t3 a.t4 a.t5 a.t6 a.t7 (oV B.reset)))
  h1 : TpAt K H a.t1 a.x1
  h3 : TpAt K H a.t3 a.x3
  h4 : TpAt K H a.t4 a.x4
  h5 : TpAt K H a.t5 a.x5
  h6 : TpAt K H a.t6 a.x6
  h7 : TpAt K H a.t7 a.x7
  r1 : Rws H a.x1 (B.sk.map rS)
  r3 : Rws H a.x3 (B.nd.map rI2)
  r4 : Wws H a.x4 B.wl
  r5 : Rws H a.x5 (B.bars.map rB)
  r6 : Rws H a.x6 (B.gives.map rS)
  r7 : Rws H a.x7 (B.prices.map rS)
  names : H a.nm = some (.tup (B.ns.map V.str))
  tiers : H a.td = some (.dK (B.sk.map kS))
  needs : H a.nb = some (.dK (B.nd.map kI))
  given : H a.gb = some (.dK (B.gives.map kS))
  price : H a.pb = some (.dK (B.prices.map kS))
theorem BookAt.same {K : PySem.W.Frag} {H H' : Hp} {x : Addr} {B : Bk} {a : BoA} (h : BookAt K H x B a) (s : Same H H') : BookAt K H' x B a :=
  ⟨s _ _ h.at_, s _ _ h.parts, h.h1.same s, h.h3.same s, h.h4.same s, h.h5.same s, h.h6.same s, h.h7.same s, h.r1.same s, h.r3.same s, h.r4.tk (Tk.of s), h.r5.same s, h.r6.same s, h.r7.same s, s _ _ h.names, s _ _ h.tiers, s _ _ h.needs, s _ _ h.given, s _ _ h.price⟩
def spList (K : PySem.W.Frag) (f : Bk → BoA → List V) : Sp := fun vs H Q _ => ∃ (x : Addr) (B : Bk) (a : BoA), vs = [.ref x] ∧ BookAt K H x B a ∧ ∀ l, H l = none → Q (.ref l) (upd H l (.lst (f B a)))
def spLen (K : PySem.W.Frag) : Sp := fun vs H Q _ => ∃ (x : Addr) (B : Bk) (a : BoA), vs = [.ref x] ∧ BookAt K H x B a ∧ Q (.int (B.ns.length : Nat)) H
def spHas (K : PySem.W.Frag) : Sp := fun vs H Q _ => ∃ (x : Addr) (B : Bk) (a : BoA) (y : V) (T : String), vs = [.ref x, y] ∧ BookAt K H x B a ∧ Ts K H y T ∧ Q (.bl (isOne B.ns y)) H
section
variable {P : Program} {w : World} {K : PySem.W.Frag} {mg : Str → Option Value} {base : Heap}

theorem calm_skills (Z : All K mg) : CalM P w K mg base CX0 1 "skills" ["self"] (spList K fun _ a => a.x1) := by
  obtain ⟨fd, F⟩ := Z.f_Book_skills
  refine .of ⟨fd, F, ok0 F sc_Book_skills (fun vs H Q E h => ?_) (fun cdv A outer s H vs Q E hr h => ?_)⟩ Z.m_skills Z.c_Book (fun _ _ _ _ _ _ us hl => match us, hl with | [_], _ => rfl)
  · obtain ⟨x, B, a, rfl, _⟩ := h
    rfl
  · obtain ⟨x, B, a, rfl, b, k⟩ := h
    refine ⟨_, (pss_one (ps_ret (pe_callTy call_list_of (by rfl) Z.b_list PyProof.Rows.boot_list (pa_cons (pe_dget (hu_of hr) (pe_fld (pv 0) rfl) pe_str (fun _ _ => rfl)) pa_nil)))), ?_⟩
    refine ⟨_, rfl, x, _, a.dx, bFs a, .ref a.dp, rfl, b.at_, Z.c_Book, Z.n_parts, rfl, a.dp, .ref a.t1, rfl, DGet.k (k := .inr "skills") b.parts, a.t1, a.x1, rfl, .inr b.h1.sq, k⟩

theorem calm_needs (Z : All K mg) : CalM P w K mg base CX0 1 "needs" ["self"] (spList K fun _ a => a.x3) := by
  obtain ⟨fd, F⟩ := Z.f_Book_needs
  refine .of ⟨fd, F, ok0 F sc_Book_needs (fun vs H Q E h => ?_) (fun cdv A outer s H vs Q E hr h => ?_)⟩ Z.m_needs Z.c_Book (fun _ _ _ _ _ _ us hl => match us, hl with | [_], _ => rfl)
  · obtain ⟨x, B, a, rfl, _⟩ := h
    rfl
  · obtain ⟨x, B, a, rfl, b, k⟩ := h
    refine ⟨_, (pss_one (ps_ret (pe_callTy call_list_of (by rfl) Z.b_list PyProof.Rows.boot_list (pa_cons (pe_dget (hu_of hr) (pe_fld (pv 0) rfl) pe_str (fun _ _ => rfl)) pa_nil)))), ?_⟩
    refine ⟨_, rfl, x, _, a.dx, bFs a, .ref a.dp, rfl, b.at_, Z.c_Book, Z.n_parts, rfl, a.dp, .ref a.t3, rfl, DGet.k (k := .inr "needs") b.parts, a.t3, a.x3, rfl, .inr b.h3.sq, k⟩

theorem calm_wants (Z : All K mg) : CalM P w K mg base CX0 1 "wants" ["self"] (spList K fun _ a => a.x4) := by
  obtain ⟨fd, F⟩ := Z.f_Book_wants
  refine .of ⟨fd, F, ok0 F sc_Book_wants (fun vs H Q E h => ?_) (fun cdv A outer s H vs Q E hr h => ?_)⟩ Z.m_wants Z.c_Book (fun _ _ _ _ _ _ us hl => match us, hl with | [_], _ => rfl)
  · obtain ⟨x, B, a, rfl, _⟩ := h
    rfl
  · obtain ⟨x, B, a, rfl, b, k⟩ := h
    refine ⟨_, (pss_one (ps_ret (pe_callTy call_list_of (by rfl) Z.b_list PyProof.Rows.boot_list (pa_cons (pe_dget (hu_of hr) (pe_fld (pv 0) rfl) pe_str (fun _ _ => rfl)) pa_nil)))), ?_⟩
    refine ⟨_, rfl, x, _, a.dx, bFs a, .ref a.dp, rfl, b.at_, Z.c_Book, Z.n_parts, rfl, a.dp, .ref a.t4, rfl, DGet.k (k := .inr "wants") b.parts, a.t4, a.x4, rfl, .inr b.h4.sq, k⟩

theorem calm_bars (Z : All K mg) : CalM P w K mg base CX0 1 "bars" ["self"] (spList K fun _ a => a.x5) := by
  obtain ⟨fd, F⟩ := Z.f_Book_bars
  refine .of ⟨fd, F, ok0 F sc_Book_bars (fun vs H Q E h => ?_) (fun cdv A outer s H vs Q E hr h => ?_)⟩ Z.m_bars Z.c_Book (fun _ _ _ _ _ _ us hl => match us, hl with | [_], _ => rfl)
  · obtain ⟨x, B, a, rfl, _⟩ := h
    rfl
  · obtain ⟨x, B, a, rfl, b, k⟩ := h
    refine ⟨_, (pss_one (ps_ret (pe_callTy call_list_of (by rfl) Z.b_list PyProof.Rows.boot_list (pa_cons (pe_dget (hu_of hr) (pe_fld (pv 0) rfl) pe_str (fun _ _ => rfl)) pa_nil)))), ?_⟩
    refine ⟨_, rfl, x, _, a.dx, bFs a, .ref a.dp, rfl, b.at_, Z.c_Book, Z.n_parts, rfl, a.dp, .ref a.t5, rfl, DGet.k (k := .inr "bars") b.parts, a.t5, a.x5, rfl, .inr b.h5.sq, k⟩

theorem calm_gives (Z : All K mg) : CalM P w K mg base CX0 1 "gives" ["self"] (spList K fun _ a => a.x6) := by
  obtain ⟨fd, F⟩ := Z.f_Book_gives
  refine .of ⟨fd, F, ok0 F sc_Book_gives (fun vs H Q E h => ?_) (fun cdv A outer s H vs Q E hr h => ?_)⟩ Z.m_gives Z.c_Book (fun _ _ _ _ _ _ us hl => match us, hl with | [_], _ => rfl)
  · obtain ⟨x, B, a, rfl, _⟩ := h
    rfl
  · obtain ⟨x, B, a, rfl, b, k⟩ := h
    refine ⟨_, (pss_one (ps_ret (pe_callTy call_list_of (by rfl) Z.b_list PyProof.Rows.boot_list (pa_cons (pe_dget (hu_of hr) (pe_fld (pv 0) rfl) pe_str (fun _ _ => rfl)) pa_nil)))), ?_⟩
    refine ⟨_, rfl, x, _, a.dx, bFs a, .ref a.dp, rfl, b.at_, Z.c_Book, Z.n_parts, rfl, a.dp, .ref a.t6, rfl, DGet.k (k := .inr "gives") b.parts, a.t6, a.x6, rfl, .inr b.h6.sq, k⟩

theorem calm_prices (Z : All K mg) : CalM P w K mg base CX0 1 "prices" ["self"] (spList K fun _ a => a.x7) := by
  obtain ⟨fd, F⟩ := Z.f_Book_prices
  refine .of ⟨fd, F, ok0 F sc_Book_prices (fun vs H Q E h => ?_) (fun cdv A outer s H vs Q E hr h => ?_)⟩ Z.m_prices Z.c_Book (fun _ _ _ _ _ _ us hl => match us, hl with | [_], _ => rfl)
  · obtain ⟨x, B, a, rfl, _⟩ := h
    rfl
  · obtain ⟨x, B, a, rfl, b, k⟩ := h
    refine ⟨_, (pss_one (ps_ret (pe_callTy call_list_of (by rfl) Z.b_list PyProof.Rows.boot_list (pa_cons (pe_dget (hu_of hr) (pe_fld (pv 0) rfl) pe_str (fun _ _ => rfl)) pa_nil)))), ?_⟩
    refine ⟨_, rfl, x, _, a.dx, bFs a, .ref a.dp, rfl, b.at_, Z.c_Book, Z.n_parts, rfl, a.dp, .ref a.t7, rfl, DGet.k (k := .inr "prices") b.parts, a.t7, a.x7, rfl, .inr b.h7.sq, k⟩

theorem calm_names (Z : All K mg) : CalM P w K mg base CX0 1 "names" ["self"] (spList K fun B _ => B.ns.map V.str) := by
  obtain ⟨fd, F⟩ := Z.f_Book_names
  refine .of ⟨fd, F, ok0 F sc_Book_names (fun vs H Q E h => ?_) (fun cdv A outer s H vs Q E hr h => ?_)⟩ Z.m_names Z.c_Book (fun _ _ _ _ _ _ us hl => match us, hl with | [_], _ => rfl)
  · obtain ⟨x, B, a, rfl, _⟩ := h
    rfl
  · obtain ⟨x, B, a, rfl, b, k⟩ := h
    refine ⟨_, (pss_one (ps_ret (pe_callTy call_list_of (by rfl) Z.b_list PyProof.Rows.boot_list (pa_cons (pe_fld (pv 0) rfl) pa_nil)))), ?_⟩
    exact ⟨_, rfl, x, _, a.dx, bFs a, .ref a.nm, rfl, b.at_, Z.c_Book, Z.n_names, rfl, a.nm, _, rfl, .inr (SqT.of b.names), k⟩

theorem calm_listed (Z : All K mg) : CalM P w K mg base CX0 1 "listed" ["self"] (spList K fun B _ => B.ns.map V.str) := by
  obtain ⟨fd, F⟩ := Z.f_Book_listed
  refine .of ⟨fd, F, ok0 F sc_Book_listed (fun vs H Q E h => ?_) (fun cdv A outer s H vs Q E hr h => ?_)⟩ Z.m_listed Z.c_Book (fun _ _ _ _ _ _ us hl => match us, hl with | [_], _ => rfl)
  · obtain ⟨x, B, a, rfl, _⟩ := h
    rfl
  · obtain ⟨x, B, a, rfl, b, k⟩ := h
    refine ⟨_, (pss_one (ps_ret (pe_callTy call_list_of (by rfl) Z.b_list PyProof.Rows.boot_list (pa_cons (pe_fld (pv 0) rfl) pa_nil)))), ?_⟩
    exact ⟨_, rfl, x, _, a.dx, bFs a, .ref a.nm, rfl, b.at_, Z.c_Book, Z.n_names, rfl, a.nm, _, rfl, .inr (SqT.of b.names), k⟩

theorem calm_len (Z : All K mg) : CalM P w K mg base CX0 1 "__len__" ["self"] (spLen K) := by
  obtain ⟨fd, F⟩ := Z.f_Book_len
  refine .of ⟨fd, F, ok0 F sc_Book_len (fun vs H Q E h => ?_) (fun cdv A outer s H vs Q E hr h => ?_)⟩ Z.m_len Z.c_Book (fun _ _ _ _ _ _ us hl => match us, hl with | [_], _ => rfl)
  · obtain ⟨x, B, a, rfl, _⟩ := h
    rfl
  · obtain ⟨x, B, a, rfl, b, k⟩ := h
    refine ⟨_, (pss_one (ps_ret (pe_callB call_len (by rfl) Z.b_len PySem.boot_len (pa_cons (pe_fld (pv 0) rfl) pa_nil)))), ?_⟩
    refine ⟨_, rfl, x, _, a.dx, bFs a, .ref a.nm, rfl, b.at_, Z.c_Book, Z.n_names, rfl, _, (B.ns.map V.str).length, rfl, .inr ⟨_, SqT.of b.names, rfl⟩, ?_⟩
    rw [List.length_map]
    exact k
theorem calm_contains (Z : All K mg) : CalM P w K mg base CX0 2 "__contains__" ["self", "x"] (spHas K) := by
  obtain ⟨fd, F⟩ := Z.f_Book_contains
  have C_is_one_of : Cal P w K mg base CX0 1 "is_one_of" ["names", "value"] (spOne K) := cal_is_one_of Z
  refine .of ⟨fd, F, ok0 F sc_Book_contains (fun vs H Q E h => ?_) (fun cdv A outer s H vs Q E hr h => ?_)⟩ Z.m_contains Z.c_Book (fun _ _ _ _ _ _ us hl => match us, hl with | [_, _], _ => rfl)
  · obtain ⟨x, B, a, y, T, rfl, _⟩ := h
    rfl
  · obtain ⟨x, B, a, y, T, rfl, b, t, k⟩ := h
    refine ⟨_, (pss_one (ps_ret (pe_cal C_is_one_of (hr.mono (by decide)) (by rfl) pass0 (pa_cons (pe_fld (pv 0) rfl) (pa_cons (pv 1) pa_nil))))), ?_⟩
    exact ⟨_, rfl, x, _, a.dx, bFs a, .ref a.nm, rfl, b.at_, Z.c_Book, Z.n_names, rfl, _, rfl, a.nm, B.ns, y, T, rfl, .inr (SqT.of b.names), t, k⟩

end
end Rt
end
section
set_option Elab.async false
set_option linter.all false
set_option maxRecDepth 100000
set_option maxHeartbeats 8000000
/-! the book is made -/
namespace Rt
open PySem PySem.Spec PyProof.Rows L2
theorem ps_dead {X : Cx} {st : Stmt} : PS X st (fun _ _ _ => False) := ⟨fun _ _ _ _ _ _ h => h.elim⟩
theorem putK_new {kvs : List (Key × V)} {k : Key} {v : V} (h : k ∉ kvs.map (·.1)) : putK kvs k v = kvs ++ [(k, v)] := by
  unfold putK
  rw [if_neg]
  intro q
  obtain ⟨p, hp, e⟩ := List.any_eq_true.mp q
  exact h (by rw [← of_decide_eq_true e]; exact List.mem_map_of_mem hp)
theorem merge_new : ∀ (more kvs : List (Key × V)), ((kvs ++ more).map (·.1)).Nodup → mergeK kvs more = kvs ++ more
  | [], kvs, _ => by rw [List.append_nil]; rfl
  | p :: more, kvs, h => by
    show mergeK (putK kvs p.1 p.2) more = _
    have h1 : p.1 ∉ kvs.map (·.1) := by
      rw [List.map_append, List.nodup_append] at h
      exact fun hm => h.2.2 _ hm _ List.mem_cons_self rfl
    rw [putK_new h1, merge_new more (kvs ++ [p]) (by rw [List.append_assoc]; exact h), List.append_assoc]
    rfl
theorem merge_nd {kvs : List (Key × V)} (h : (kvs.map (·.1)).Nodup) : mergeK [] kvs = kvs := merge_new kvs [] h
/-- rows of two as a dict's items -/
theorem pair_rows {α : Type} {K : PySem.W.Frag} {H : Hp} {f : α → List V} {g : α → Key × V} (e : ∀ r, f r = [kV (g r).1, (g r).2]) : ∀ {xs : List V} {l : List α}, Rws H xs (l.map f) → ∃ ps : List Addr, xs = ps.map V.ref ∧ Paired (fun p kv => SqT K H p [kV kv.1, kv.2]) ps (l.map g)
  | _, [], h => by
    cases h
    exact ⟨[], rfl, .nil⟩
  | _, r :: l, h => by
    cases h with
    | cons q t =>
      obtain ⟨p, rfl, hp⟩ := q
      obtain ⟨ps, e1, pr⟩ := pair_rows (K := K) e t
      rw [e r] at hp
      exact ⟨p :: ps, by rw [e1]; rfl, .cons (SqT.of hp) pr⟩
structure ListsAt (H : Hp) (B : Bk) (a1 a3 a4 a5 a6 a7 : Addr) (x1 x3 x4 x5 x6 x7 : List V) : Prop where
  l1 : H a1 = some (.lst x1)
  r1 : Rws H x1 (B.sk.map rS)
  l3 : H a3 = some (.lst x3)
  r3 : Rws H x3 (B.nd.map rI2)
  l4 : H a4 = some (.lst x4)
  r4 : Wws H x4 B.wl
  l5 : H a5 = some (.lst x5)
  r5 : Rws H x5 (B.bars.map rB)
  l6 : H a6 = some (.lst x6)
  r6 : Rws H x6 (B.gives.map rS)
  l7 : H a7 = some (.lst x7)
  r7 : Rws H x7 (B.prices.map rS)
theorem ListsAt.same {H H' : Hp} {B : Bk} {a1 a3 a4 a5 a6 a7 : Addr} {x1 x3 x4 x5 x6 x7 : List V} (h : ListsAt H B a1 a3 a4 a5 a6 a7 x1 x3 x4 x5 x6 x7) (s : Same H H') : ListsAt H' B a1 a3 a4 a5 a6 a7 x1 x3 x4 x5 x6 x7 :=
  ⟨s _ _ h.l1, h.r1.same s, s _ _ h.l3, h.r3.same s, s _ _ h.l4, h.r4.tk (Tk.of s), s _ _ h.l5, h.r5.same s, s _ _ h.l6, h.r6.same s, s _ _ h.l7, h.r7.same s⟩
/-- what is handed in: a list, or an empty tuple of the written part -/
def PtAt (K : PySem.W.Frag) (H : Hp) (a : Addr) (xs : List V) : Prop := H a = some (.lst xs) ∨ (xs = [] ∧ PlainE K a)
section
variable {K : PySem.W.Frag} {H H' : Hp} {a : Addr} {xs : List V}
theorem PtAt.go (h : PtAt K H a xs) (k : ∀ b ys, H b = some (.lst ys) → H' b = some (.lst ys)) : PtAt K H' a xs := h.elim (fun h => .inl (k _ _ h)) .inr
theorem PtAt.lt (h : PtAt K H a xs) : Lt K H a xs := h.elim (fun h => .lst h) fun ⟨e, h⟩ => by
  rw [e]
  exact .tupK (h.sq H)
/-- tuple(x) -/
def rTupP (K : PySem.W.Frag) : List V → Hp → VK → Prop := fun zs H Q => ∃ a xs, zs = [.ref a] ∧ PtAt K H a xs ∧ ∀ t H', Same H H' → TpAt K H' t xs → Q (.ref t) H'
theorem call_tupP {X : Cx} : CallR X (.type "tuple") (rTupP X.K) := by
  intro pins s σ H zs us Q I r ⟨a, xs, ez, h, k⟩
  refine call_tupOf pins s σ H zs us Q I r ?_
  rcases h with h | ⟨rfl, h⟩
  · exact ⟨a, xs, ez, .inl ⟨SqL.of h, fun t nt => k t _ (Same.new nt) (.inl upd_same)⟩⟩
  · exact ⟨a, [], ez, .inr ⟨h.sq H, k a H (Same.refl H) (.inr ⟨rfl, h⟩)⟩⟩
/-- dict(x) -/
def rDictQ (K : PySem.W.Frag) : List V → Hp → VK → Prop := fun zs H Q => ∃ (a : Addr) (ps : List Addr) (kvs : List (Key × V)), zs = [.ref a] ∧ PtAt K H a (ps.map V.ref) ∧ Paired (fun p kv => SqT K H p [kV kv.1, kv.2]) ps kvs ∧ ∀ p, H p = none → Q (.ref p) (upd H p (.dK (mergeK [] kvs)))
theorem call_dictE {X : Cx} (hc : X.calm = true) : CallR X (.type "dict") (fun zs H Q => ∃ a, zs = [.ref a] ∧ PlainE X.K a ∧ ∀ p, H p = none → Q (.ref p) (upd H p (.dK (mergeK [] [])))) := by
  intro pins s σ H zs us Q I r ⟨a, ez, ⟨o, n, e1, e2, e3, e4⟩, q⟩
  subst ez
  obtain ⟨u, rfl, ru⟩ := r.one
  cases ru
  have ho := I.kIn a o e1
  refine PySem.call_dict_pairs (knd := mixKind X.prog X.w) (kvs := []) (PySem.PairArg.tuple a #[] (fun _ => 0) []) (I.ok.hd hc) ⟨⟨o, n, ho, e2, e3, e4⟩, rfl, fun j k v e => nomatch e⟩ ⟨rfl, fun i key v z => ?_⟩ (Nat.zero_le _) fun h' tk hd k => ?_
  · simp [PySem.PairRel] at z
  · have big : (s.heap.objs.size == sysModules) = false := beq_eq_false_iff_ne.mpr (Nat.ne_of_gt I.big)
    exact ⟨.ref s.heap.objs.size, _, I.laid (t' := tk) (fun b o e => k b o (by simp) e) (Nat.le_refl _) (show ObjOk X.prog X.w _ _ _ (.dK (mergeK [] [])) from ⟨Nat.zero_le _, big, [], .nil, hd⟩), rfl, q _ (I.hok.fresh (Nat.le_refl _))⟩
theorem call_dictQ {X : Cx} (hc : X.calm = true) : CallR X (.type "dict") (rDictQ X.K) := by
  intro pins s σ H zs us Q I r ⟨a, ps, kvs, ez, h, pr, k⟩
  rcases h with h | ⟨e, h⟩
  · exact call_dictP hc pins s σ H zs us Q I r ⟨a, ps, kvs, ez, SqL.of h, pr, k⟩
  · cases ps with
    | cons p ps => cases e
    | nil =>
      cases pr
      exact call_dictE hc pins s σ H zs us Q I r ⟨a, ez, h, k⟩
end
/-- what is handed in for a book -/
structure ArgsAt (K : PySem.W.Frag) (H : Hp) (B : Bk) (a1 a3 a4 a5 a6 a7 : Addr) (x1 x3 x4 x5 x6 x7 : List V) : Prop where
  l1 : PtAt K H a1 x1
  r1 : Rws H x1 (B.sk.map rS)
  l3 : PtAt K H a3 x3
  r3 : Rws H x3 (B.nd.map rI2)
  l4 : PtAt K H a4 x4
  r4 : Wws H x4 B.wl
  l5 : PtAt K H a5 x5
  r5 : Rws H x5 (B.bars.map rB)
  l6 : PtAt K H a6 x6
  r6 : Rws H x6 (B.gives.map rS)
  l7 : PtAt K H a7 x7
  r7 : Rws H x7 (B.prices.map rS)
theorem ListsAt.args {K : PySem.W.Frag} {H : Hp} {B : Bk} {a1 a3 a4 a5 a6 a7 : Addr} {x1 x3 x4 x5 x6 x7 : List V} (h : ListsAt H B a1 a3 a4 a5 a6 a7 x1 x3 x4 x5 x6 x7) : ArgsAt K H B a1 a3 a4 a5 a6 a7 x1 x3 x4 x5 x6 x7 :=
  ⟨.inl h.l1, h.r1, .inl h.l3, h.r3, .inl h.l4, h.r4, .inl h.l5, h.r5, .inl h.l6, h.r6, .inl h.l7, h.r7⟩
theorem ArgsAt.parts {K : PySem.W.Frag} {H : Hp} {B : Bk} {a1 a3 a4 a5 a6 a7 : Addr} {x1 x3 x4 x5 x6 x7 : List V} (h : ArgsAt K H B a1 a3 a4 a5 a6 a7 x1 x3 x4 x5 x6 x7) : PartsAt K H B a1 a3 a4 a5 a6 a7 x1 x3 x4 x5 x6 x7 :=
  ⟨h.l1.lt, h.r1, h.l3.lt, h.r3, h.l4.lt, h.r4, h.l5.lt, h.r5, h.l6.lt, h.r6, h.l7.lt, h.r7⟩
theorem ArgsAt.go {K : PySem.W.Frag} {H H' : Hp} {B : Bk} {a1 a3 a4 a5 a6 a7 : Addr} {x1 x3 x4 x5 x6 x7 : List V} (h : ArgsAt K H B a1 a3 a4 a5 a6 a7 x1 x3 x4 x5 x6 x7) (k : ∀ b ys, H b = some (.lst ys) → H' b = some (.lst ys)) (t : Tk H H') : ArgsAt K H' B a1 a3 a4 a5 a6 a7 x1 x3 x4 x5 x6 x7 :=
  ⟨h.l1.go k, h.r1.tk t, h.l3.go k, h.r3.tk t, h.l4.go k, h.r4.tk t, h.l5.go k, h.r5.tk t, h.l6.go k, h.r6.tk t, h.l7.go k, h.r7.tk t⟩
theorem ArgsAt.same {K : PySem.W.Frag} {H H' : Hp} {B : Bk} {a1 a3 a4 a5 a6 a7 : Addr} {x1 x3 x4 x5 x6 x7 : List V} (h : ArgsAt K H B a1 a3 a4 a5 a6 a7 x1 x3 x4 x5 x6 x7) (s : Same H H') : ArgsAt K H' B a1 a3 a4 a5 a6 a7 x1 x3 x4 x5 x6 x7 :=
  h.go (fun _ _ hb => s _ _ hb) (Tk.of s)
/-- all but x stands -/
def But (x : Addr) (H H' : Hp) : Prop := ∀ b o, b ≠ x → H b = some o → H' b = some o
def spInit (K : PySem.W.Frag) : Sp := fun vs H Q _ => ∃ (x dx : Addr) (B : Bk) (a1 a3 a4 a5 a6 a7 : Addr) (x1 x3 x4 x5 x6 x7 : List V), vs = [.ref x, .ref a1, .int B.points, .ref a3, .ref a4, .ref a5, .ref a6, .ref a7, oV B.reset] ∧ H x = some (.ins (BC K) dx []) ∧ ArgsAt K H B a1 a3 a4 a5 a6 a7 x1 x3 x4 x5 x6 x7 ∧ BkR B ∧
  ∀ (H' : Hp) (a : BoA), But x H H' → a.dx = dx → BookAt K H' x B a → Q .non H'
theorem put_keep {H : Hp} {x c : Addr} {C dx : Addr} {fs : List (Str × V)} {o o' : HO} (hx : H x = some (.ins C dx fs)) (h : H c = some o) (no : ∀ C dx fs, o ≠ .ins C dx fs) : (upd H x o') c = some o := by
  rw [upd_ne (ne_of h hx (no _ _ _))]
  exact h
theorem put_tk {H : Hp} {x : Addr} {C dx : Addr} {fs : List (Str × V)} {o' : HO} (hx : H x = some (.ins C dx fs)) : Tk H (upd H x o') := fun b xs hb => put_keep hx hb fun _ _ _ z => by cases z
structure InSt (K : PySem.W.Frag) (x dx : Addr) (H : Hp) (B : Bk) (d t1 t3 t4 t5 t6 t7 a1 a3 a4 a5 a6 a7 : Addr) (x1 x3 x4 x5 x6 x7 : List V) (fs : List (Str × V)) (Hh : Hp) : Prop where
  at_ : Hh x = some (.ins (BC K) dx fs)
  but : But x H Hh
  ls : ArgsAt K Hh B a1 a3 a4 a5 a6 a7 x1 x3 x4 x5 x6 x7
  hd : Hh d = some (.dK (bkL t1 B.points t3 t4 t5 t6 t7 (oV B.reset)))
  h1 : TpAt K Hh t1 x1
  h3 : TpAt K Hh t3 x3
  h4 : TpAt K Hh t4 x4
  h5 : TpAt K Hh t5 x5
  h6 : TpAt K Hh t6 x6
  h7 : TpAt K Hh t7 x7
section
variable {K : PySem.W.Frag} {x dx : Addr} {H H' : Hp} {B : Bk} {d t1 t3 t4 t5 t6 t7 a1 a3 a4 a5 a6 a7 : Addr} {x1 x3 x4 x5 x6 x7 : List V} {fs fs' : List (Str × V)} {Hh : Hp}
theorem InSt.same (i : InSt K x dx H B d t1 t3 t4 t5 t6 t7 a1 a3 a4 a5 a6 a7 x1 x3 x4 x5 x6 x7 fs Hh) (s : Same Hh H') : InSt K x dx H B d t1 t3 t4 t5 t6 t7 a1 a3 a4 a5 a6 a7 x1 x3 x4 x5 x6 x7 fs H' :=
  ⟨s _ _ i.at_, fun b o nb hb => s _ _ (i.but b o nb hb), i.ls.same s, s _ _ i.hd, i.h1.same s, i.h3.same s, i.h4.same s, i.h5.same s, i.h6.same s, i.h7.same s⟩
theorem InSt.put (i : InSt K x dx H B d t1 t3 t4 t5 t6 t7 a1 a3 a4 a5 a6 a7 x1 x3 x4 x5 x6 x7 fs Hh) : InSt K x dx H B d t1 t3 t4 t5 t6 t7 a1 a3 a4 a5 a6 a7 x1 x3 x4 x5 x6 x7 fs' (upd Hh x (.ins (BC K) dx fs')) := by
  have p : ∀ {c : Addr} {o : HO}, Hh c = some o → (∀ C dx fs, o ≠ .ins C dx fs) → (upd Hh x (.ins (BC K) dx fs')) c = some o := fun h no => put_keep i.at_ h no
  have k := put_tk (o' := .ins (BC K) dx fs') i.at_
  refine ⟨upd_same, fun b o nb hb => by rw [upd_ne nb]; exact i.but b o nb hb, ?_, p i.hd (fun _ _ _ z => by cases z), i.h1.tk k, i.h3.tk k, i.h4.tk k, i.h5.tk k, i.h6.tk k, i.h7.tk k⟩
  exact i.ls.go (fun b ys hb => p hb fun _ _ _ z => by cases z) k
end
theorem nodup_kS {l : List (Str × Int)} (h : (l.map (·.1)).Nodup) : ((l.map kS).map (·.1)).Nodup := by
  rw [List.map_map]
  have e : l.map ((fun x : Key × V => x.1) ∘ kS) = (l.map (·.1)).map (Sum.inr : Str → Key) := by rw [List.map_map]; rfl
  rw [e]
  exact List.Pairwise.map Sum.inr (fun _ _ hne e => hne (Sum.inr.inj e)) h
theorem nodup_kI {l : List (Int × Int)} (h : (l.map (·.1)).Pairwise (· < ·)) : ((l.map kI).map (·.1)).Nodup := by
  rw [List.map_map]
  have e : l.map ((fun x : Key × V => x.1) ∘ kI) = (l.map (·.1)).map (Sum.inl : Int → Key) := by rw [List.map_map]; rfl
  rw [e]
  exact List.Pairwise.map Sum.inl (fun a b hne e => by have := Sum.inl.inj e; omega) h
section
variable {P : Program} {w : World} {K : PySem.W.Frag} {mg : Str → Option Value} {base : Heap}
theorem ok_init (Z : All K mg) {kws : List (Str × V)} {fd : FuncData} {f : Addr} (F : FunD K "__init__" "Book.__init__" (defArgs s_Book_init) (defBody s_Book_init) (defScope s_Book_init) [] kws f fd) :
    FnOk P w K mg base CX0 7 f fd ["self", "skills", "points", "needs", "wants", "bars", "gives", "prices", "reset"] (spInit K) := by
  have C_wrong_part : Cal P w K mg base CX0 6 "wrong_part" ["skills", "points", "needs", "wants", "bars", "gives", "prices", "reset"] (spWrong K) := cal_wrong_part Z
  refine FunD.ok F sc_Book_init (fun vs H Q E h => ?_) (fun cdv A outer s H vs Q E hr h => ?_)
  · obtain ⟨x, dx, B, a1, a3, a4, a5, a6, a7, x1, x3, x4, x5, x6, x7, rfl, _⟩ := h
    rfl
  · obtain ⟨x, dx, B, a1, a3, a4, a5, a6, a7, x1, x3, x4, x5, x6, x7, rfl, hx, ls, ok, k⟩ := h
    refine ⟨_, PSs.nox ((pss_cons (ps_set (i := 9) sc_Book_init.nd rfl (Or.inl rfl) (pe_cal C_wrong_part (hr.mono (by decide)) (by rfl) pass0 (pa_cons (pv 1) (pa_cons (pv 2) (pa_cons (pv 3) (pa_cons (pv 4) (pa_cons (pv 5) (pa_cons (pv 6) (pa_cons (pv 7) (pa_cons (pv 8) pa_nil))))))))))
      (pss_cons (ps_if (pt_cmpR op_notN (pv 9) pe_non (nomark _)) (pss_one ps_dead) pss_nil)
      (pss_cons (ps_fld (pv 0) (pe_disp (pps_cons pe_str (pe_callTy call_tupP (by rfl) Z.b_tuple PyProof.Rows.boot_tuple (pa_cons (pv 1) pa_nil)) (pps_cons pe_str (pv 2) (pps_cons pe_str (pe_callTy call_tupP (by rfl) Z.b_tuple PyProof.Rows.boot_tuple (pa_cons (pv 3) pa_nil)) (pps_cons pe_str (pe_callTy call_tupP (by rfl) Z.b_tuple PyProof.Rows.boot_tuple (pa_cons (pv 4) pa_nil)) (pps_cons pe_str (pe_callTy call_tupP (by rfl) Z.b_tuple PyProof.Rows.boot_tuple (pa_cons (pv 5) pa_nil)) (pps_cons pe_str (pe_callTy call_tupP (by rfl) Z.b_tuple PyProof.Rows.boot_tuple (pa_cons (pv 6) pa_nil)) (pps_cons pe_str (pe_callTy call_tupP (by rfl) Z.b_tuple PyProof.Rows.boot_tuple (pa_cons (pv 7) pa_nil)) (pps_cons pe_str (pv 8) pps_nil)))))))) (by rfl) (by rfl) (fun z => by cases z) (by decide)) rfl)
      (pss_cons (ps_fld (pv 0) (pe_callTy call_tuple_of (by rfl) Z.b_tuple PyProof.Rows.boot_tuple (pa_cons (pe_lc (own := [("name", 10), ("_", 11)]) (by rfl) sc_Book_init.nd (pi_seq (pv 1)) (blkOk_by (own := [("name", 10), ("_", 11)]) (N := ["self", "skills", "points", "needs", "wants", "bars", "gives", "prices", "reset", "part", "name", "_"]) (sc := defScope s_Book_init) (by decide +kernel)) (fun _ _ _ _ _ => (pg_tupK (K := K) (n := 2) rfl rfl (pgs_cons (pg_name (i := 10) sc_Book_init.nd rfl (Or.inl rfl)) (pgs_cons (pg_name (i := 11) sc_Book_init.nd rfl (Or.inl rfl)) pgs_nil)))) (fun _ _ _ _ _ => pts_nil) (fun _ _ _ _ _ => (pv 10))) pa_nil)) rfl)
      (pss_cons (ps_fld (pv 0) (pe_callTy (call_dictQ rfl) (by rfl) Z.b_dict PyProof.Rows.boot_dict (pa_cons (pv 1) pa_nil)) rfl)
      (pss_cons (ps_fld (pv 0) (pe_callTy (call_dictQ rfl) (by rfl) Z.b_dict PyProof.Rows.boot_dict (pa_cons (pv 3) pa_nil)) rfl)
      (pss_cons (ps_fld (pv 0) (pe_callTy (call_dictQ rfl) (by rfl) Z.b_dict PyProof.Rows.boot_dict (pa_cons (pv 6) pa_nil)) rfl)
      (pss_one (ps_fld (pv 0) (pe_callTy (call_dictQ rfl) (by rfl) Z.b_dict PyProof.Rows.boot_dict (pa_cons (pv 7) pa_nil)) rfl)))))))))), ?_⟩
    refine ⟨_, rfl, _, rfl, _, rfl, _, rfl, _, rfl, _, rfl, _, rfl, _, rfl, B, a1, a3, a4, a5, a6, a7, x1, x3, x4, x5, x6, x7, rfl, ls.parts, ok, fun H1 s1 => ⟨_, rfl, rfl, _, rfl, ifF (by decide) ?_⟩⟩
    have ls1 := ls.same s1
    have hx1 := s1 _ _ hx
    intro d nd_
    have sD := Same.new (o := .dK []) nd_
    have hD : (upd H1 d (.dK [])) d = some (.dK []) := upd_same
    have lsD := ls1.same sD
    generalize upd H1 d (.dK []) = HD at sD hD lsD ⊢
    refine ⟨_, rfl, a1, x1, rfl, lsD.l1, fun t1 HA sA hA => ?_⟩
    have lsA := lsD.same sA
    refine ⟨_, rfl, _, rfl, a3, x3, rfl, lsA.l3, fun t3 HB sB hB => ?_⟩
    have lsB := lsA.same sB
    refine ⟨_, rfl, a4, x4, rfl, lsB.l4, fun t4 HC sC hC => ?_⟩
    have lsC := lsB.same sC
    refine ⟨_, rfl, a5, x5, rfl, lsC.l5, fun t5 HE sE hE => ?_⟩
    have lsE := lsC.same sE
    refine ⟨_, rfl, a6, x6, rfl, lsE.l6, fun t6 HF sF hF => ?_⟩
    have lsF := lsE.same sF
    refine ⟨_, rfl, a7, x7, rfl, lsF.l7, fun t7 HG sG hG => ?_⟩
    have lsG := lsF.same sG
    have q7 : Same HF HG := sG
    have q6 : Same HE HG := sF.trans q7
    have q5 : Same HC HG := sE.trans q6
    have q4 : Same HB HG := sC.trans q5
    have q3 : Same HA HG := sB.trans q4
    have qD : Same HD HG := sA.trans q3
    refine ⟨_, rfl, qD _ _ hD, bkL t1 B.points t3 t4 t5 t6 t7 (oV B.reset), rfl, (by show 8 ≤ 15; decide), ?_⟩
    have em : mergeK [] (bkL t1 B.points t3 t4 t5 t6 t7 (oV B.reset)) = bkL t1 B.points t3 t4 t5 t6 t7 (oV B.reset) := rfl
    rw [em]
    have i0 : InSt K x dx H B d t1 t3 t4 t5 t6 t7 a1 a3 a4 a5 a6 a7 x1 x3 x4 x5 x6 x7 [] (upd HG d (.dK (bkL t1 B.points t3 t4 t5 t6 t7 (oV B.reset)))) := by
      have hdG := qD _ _ hD
      have sAll : Same H HG := (s1.trans sD).trans qD
      have pl : ∀ {c : Addr} {zs : List V}, HG c = some (.lst zs) → (upd HG d (.dK (bkL t1 B.points t3 t4 t5 t6 t7 (oV B.reset)))) c = some (.lst zs) := fun h => by
        rw [upd_ne (ne_of h hdG (fun z => by cases z))]
        exact h
      have pt : Tk HG (upd HG d (.dK (bkL t1 B.points t3 t4 t5 t6 t7 (oV B.reset)))) := Tk.dct hdG
      have nd1 : H1 d = none := nd_
      refine ⟨?_, fun b o nb hb => ?_, lsG.go (fun _ _ hb => pl hb) pt, upd_same, (hA.same q3).tk pt, (hB.same q4).tk pt, (hC.same q5).tk pt, (hE.same q6).tk pt, (hF.same q7).tk pt, hG.tk pt⟩
      · rw [upd_ne (ne_of_none hx1 nd1)]
        exact sAll _ _ hx
      · rw [upd_ne (ne_of_none (s1 _ _ hb) nd1)]
        exact sAll _ _ hb
    generalize upd HG d (.dK (bkL t1 B.points t3 t4 t5 t6 t7 (oV B.reset))) = H2 at i0 ⊢
    clear q7 q6 q5 q4 q3 qD sG sF sE sC sB sA hA hB hC hE hF hG hD lsA lsB lsC lsE lsF lsG lsD sD nd_ ls1 hx1 s1
    refine ⟨_, rfl, x, BC K, dx, [], rfl, i0.at_, Z.c_Book, Z.n_parts, by decide, ?_⟩
    have i1 : InSt K x dx H B d t1 t3 t4 t5 t6 t7 a1 a3 a4 a5 a6 a7 x1 x3 x4 x5 x6 x7 [("_parts", .ref d)] _ := i0.put
    show tSeq _ _ _ _ (upd H2 x (.ins (BC K) dx [("_parts", .ref d)]))
    generalize upd H2 x (.ins (BC K) dx [("_parts", .ref d)]) = H3 at i1 ⊢
    clear i0
    -- the names
    have xl : x1.length = B.sk.length := by rw [i1.ls.r1.len, List.length_map]
    have k12 := ok.sk.le
    refine ⟨_, rfl, a1, rfl, lc_seq i1.ls.l1.lt.sq (fun i => (B.sk.take i).map fun r => V.str r.1) rfl (fun D nD i y Hy hi' p => ?_) fun T H4 nT s4 at4 => ?_⟩
    · obtain ⟨r, tp, hr', rfl, htp⟩ := i1.ls.r1.at_ hi'
      refine ⟨tp, _, rfl, SqT.of (p.same _ _ htp), rfl, .str r.1, _, rfl, .int r.2, _, rfl, rfl, rfl, _, rfl, p.put nD (map_one _ hr') (take_line _ (m := 12) (by omega) (by decide))⟩
    have eT : H4 T = some (.lst (B.ns.map V.str)) := by
      rw [at4, xl, List.take_length, List.map_map]
      rfl
    refine ⟨T, _, rfl, .inl ⟨SqL.of eT, fun nm nnm => ?_⟩⟩
    have i2 := (i1.same s4).same (Same.new (o := .tup (B.ns.map V.str)) nnm)
    have hnm : (upd H4 nm (.tup (B.ns.map V.str))) nm = some (.tup (B.ns.map V.str)) := upd_same
    generalize upd H4 nm (.tup (B.ns.map V.str)) = H5 at i2 hnm ⊢
    clear i1 eT at4 s4 nT nnm
    refine ⟨_, rfl, x, BC K, dx, _, rfl, i2.at_, Z.c_Book, Z.n_names, (by show 1 < 1000; decide), ?_⟩
    have i3 := i2.put (fs' := [("_parts", .ref d), ("_names", .ref nm)])
    have hnm3 := put_keep (o' := .ins (BC K) dx [("_parts", .ref d), ("_names", .ref nm)]) i2.at_ hnm (fun _ _ _ z => by cases z)
    show tSeq _ _ _ _ (upd H5 x (.ins (BC K) dx [("_parts", .ref d), ("_names", .ref nm)]))
    generalize upd H5 x (.ins (BC K) dx [("_parts", .ref d), ("_names", .ref nm)]) = H6 at i3 hnm3 ⊢
    clear i2 hnm
    -- td
    obtain ⟨pstd, etd, prtd⟩ := pair_rows (K := K) (g := kS) (fun _ => rfl) i3.ls.r1
    refine ⟨_, rfl, a1, pstd, B.sk.map kS, rfl, (by rw [← etd]; exact i3.ls.l1), prtd, fun td ntd => ?_⟩
    rw [merge_nd (nodup_kS ok.sk.nd)]
    have utd := Same.new (o := .dK (B.sk.map kS)) ntd
    have htd : (upd H6 td (.dK (B.sk.map kS))) td = some (.dK (B.sk.map kS)) := upd_same
    have ktd := i3.same utd
    have hnm3q := utd _ _ hnm3
    generalize upd H6 td (.dK (B.sk.map kS)) = J0 at ktd htd hnm3q ⊢
    clear prtd etd utd ntd
    refine ⟨_, rfl, x, BC K, dx, _, rfl, ktd.at_, Z.c_Book, Z.n_tiers, (by show 2 < 1000; decide), ?_⟩
    have mtd := ktd.put (fs' := [("_parts", .ref d), ("_names", .ref nm), ("_tiers", .ref td)])
    have hnm3qm := put_keep (o' := .ins (BC K) dx [("_parts", .ref d), ("_names", .ref nm), ("_tiers", .ref td)]) ktd.at_ hnm3q (fun _ _ _ z => by cases z)
    have htdm := put_keep (o' := .ins (BC K) dx [("_parts", .ref d), ("_names", .ref nm), ("_tiers", .ref td)]) ktd.at_ htd (fun _ _ _ z => by cases z)
    show tSeq _ _ _ _ (upd J0 x (.ins (BC K) dx [("_parts", .ref d), ("_names", .ref nm), ("_tiers", .ref td)]))
    generalize upd J0 x (.ins (BC K) dx [("_parts", .ref d), ("_names", .ref nm), ("_tiers", .ref td)]) = L0 at mtd hnm3qm htdm ⊢
    clear ktd hnm3 hnm3q
    -- nb
    obtain ⟨psnb, enb, prnb⟩ := pair_rows (K := K) (g := kI) (fun _ => rfl) mtd.ls.r3
    refine ⟨_, rfl, a3, psnb, B.nd.map kI, rfl, (by rw [← enb]; exact mtd.ls.l3), prnb, fun nb nnb => ?_⟩
    rw [merge_nd (nodup_kI ok.na)]
    have unb := Same.new (o := .dK (B.nd.map kI)) nnb
    have hnb : (upd L0 nb (.dK (B.nd.map kI))) nb = some (.dK (B.nd.map kI)) := upd_same
    have knb := mtd.same unb
    have hnm3qmq := unb _ _ hnm3qm
    have htdmq := unb _ _ htdm
    generalize upd L0 nb (.dK (B.nd.map kI)) = J1 at knb hnb hnm3qmq htdmq ⊢
    clear prnb enb unb nnb
    refine ⟨_, rfl, x, BC K, dx, _, rfl, knb.at_, Z.c_Book, Z.n_need_by_tier, (by show 3 < 1000; decide), ?_⟩
    have mnb := knb.put (fs' := [("_parts", .ref d), ("_names", .ref nm), ("_tiers", .ref td), ("_need_by_tier", .ref nb)])
    have hnm3qmqm := put_keep (o' := .ins (BC K) dx [("_parts", .ref d), ("_names", .ref nm), ("_tiers", .ref td), ("_need_by_tier", .ref nb)]) knb.at_ hnm3qmq (fun _ _ _ z => by cases z)
    have htdmqm := put_keep (o' := .ins (BC K) dx [("_parts", .ref d), ("_names", .ref nm), ("_tiers", .ref td), ("_need_by_tier", .ref nb)]) knb.at_ htdmq (fun _ _ _ z => by cases z)
    have hnbm := put_keep (o' := .ins (BC K) dx [("_parts", .ref d), ("_names", .ref nm), ("_tiers", .ref td), ("_need_by_tier", .ref nb)]) knb.at_ hnb (fun _ _ _ z => by cases z)
    show tSeq _ _ _ _ (upd J1 x (.ins (BC K) dx [("_parts", .ref d), ("_names", .ref nm), ("_tiers", .ref td), ("_need_by_tier", .ref nb)]))
    generalize upd J1 x (.ins (BC K) dx [("_parts", .ref d), ("_names", .ref nm), ("_tiers", .ref td), ("_need_by_tier", .ref nb)]) = L1 at mnb hnm3qmqm htdmqm hnbm ⊢
    clear knb hnm3qm htdm hnm3qmq htdmq
    -- gb
    obtain ⟨psgb, egb, prgb⟩ := pair_rows (K := K) (g := kS) (fun _ => rfl) mnb.ls.r6
    refine ⟨_, rfl, a6, psgb, B.gives.map kS, rfl, (by rw [← egb]; exact mnb.ls.l6), prgb, fun gb ngb => ?_⟩
    rw [merge_nd (nodup_kS ok.gives.nd)]
    have ugb := Same.new (o := .dK (B.gives.map kS)) ngb
    have hgb : (upd L1 gb (.dK (B.gives.map kS))) gb = some (.dK (B.gives.map kS)) := upd_same
    have kgb := mnb.same ugb
    have hnm3qmqmq := ugb _ _ hnm3qmqm
    have htdmqmq := ugb _ _ htdmqm
    have hnbmq := ugb _ _ hnbm
    generalize upd L1 gb (.dK (B.gives.map kS)) = J2 at kgb hgb hnm3qmqmq htdmqmq hnbmq ⊢
    clear prgb egb ugb ngb
    refine ⟨_, rfl, x, BC K, dx, _, rfl, kgb.at_, Z.c_Book, Z.n_given_by_skill, (by show 4 < 1000; decide), ?_⟩
    have mgb := kgb.put (fs' := [("_parts", .ref d), ("_names", .ref nm), ("_tiers", .ref td), ("_need_by_tier", .ref nb), ("_given_by_skill", .ref gb)])
    have hnm3qmqmqm := put_keep (o' := .ins (BC K) dx [("_parts", .ref d), ("_names", .ref nm), ("_tiers", .ref td), ("_need_by_tier", .ref nb), ("_given_by_skill", .ref gb)]) kgb.at_ hnm3qmqmq (fun _ _ _ z => by cases z)
    have htdmqmqm := put_keep (o' := .ins (BC K) dx [("_parts", .ref d), ("_names", .ref nm), ("_tiers", .ref td), ("_need_by_tier", .ref nb), ("_given_by_skill", .ref gb)]) kgb.at_ htdmqmq (fun _ _ _ z => by cases z)
    have hnbmqm := put_keep (o' := .ins (BC K) dx [("_parts", .ref d), ("_names", .ref nm), ("_tiers", .ref td), ("_need_by_tier", .ref nb), ("_given_by_skill", .ref gb)]) kgb.at_ hnbmq (fun _ _ _ z => by cases z)
    have hgbm := put_keep (o' := .ins (BC K) dx [("_parts", .ref d), ("_names", .ref nm), ("_tiers", .ref td), ("_need_by_tier", .ref nb), ("_given_by_skill", .ref gb)]) kgb.at_ hgb (fun _ _ _ z => by cases z)
    have eput : (putF "_given_by_skill" (.ref gb) [("_parts", .ref d), ("_names", .ref nm), ("_tiers", .ref td), ("_need_by_tier", .ref nb)] : List (Str × V)) = ([("_parts", .ref d), ("_names", .ref nm), ("_tiers", .ref td), ("_need_by_tier", .ref nb), ("_given_by_skill", .ref gb)] : List (Str × V)) := rfl
    rw [eput]
    generalize upd J2 x (.ins (BC K) dx [("_parts", .ref d), ("_names", .ref nm), ("_tiers", .ref td), ("_need_by_tier", .ref nb), ("_given_by_skill", .ref gb)]) = L2 at mgb hnm3qmqmqm htdmqmqm hnbmqm hgbm ⊢
    clear kgb hnm3qmqm htdmqm hnbm hnm3qmqmq htdmqmq hnbmq
    -- pb
    obtain ⟨pspb, epb, prpb⟩ := pair_rows (K := K) (g := kS) (fun _ => rfl) mgb.ls.r7
    refine ⟨_, rfl, a7, pspb, B.prices.map kS, rfl, (by rw [← epb]; exact mgb.ls.l7), prpb, fun pb npb => ?_⟩
    rw [merge_nd (nodup_kS ok.prices.nd)]
    have upb := Same.new (o := .dK (B.prices.map kS)) npb
    have hpb : (upd L2 pb (.dK (B.prices.map kS))) pb = some (.dK (B.prices.map kS)) := upd_same
    have kpb := mgb.same upb
    have hnm3qmqmqmq := upb _ _ hnm3qmqmqm
    have htdmqmqmq := upb _ _ htdmqmqm
    have hnbmqmq := upb _ _ hnbmqm
    have hgbmq := upb _ _ hgbm
    generalize upd L2 pb (.dK (B.prices.map kS)) = J3 at kpb hpb hnm3qmqmqmq htdmqmqmq hnbmqmq hgbmq ⊢
    clear prpb epb upb npb
    refine ⟨_, rfl, x, BC K, dx, _, rfl, kpb.at_, Z.c_Book, Z.n_price_by_skill, (by show 5 < 1000; decide), ?_⟩
    have mpb := kpb.put (fs' := [("_parts", .ref d), ("_names", .ref nm), ("_tiers", .ref td), ("_need_by_tier", .ref nb), ("_given_by_skill", .ref gb), ("_price_by_skill", .ref pb)])
    have hnm3qmqmqmqm := put_keep (o' := .ins (BC K) dx [("_parts", .ref d), ("_names", .ref nm), ("_tiers", .ref td), ("_need_by_tier", .ref nb), ("_given_by_skill", .ref gb), ("_price_by_skill", .ref pb)]) kpb.at_ hnm3qmqmqmq (fun _ _ _ z => by cases z)
    have htdmqmqmqm := put_keep (o' := .ins (BC K) dx [("_parts", .ref d), ("_names", .ref nm), ("_tiers", .ref td), ("_need_by_tier", .ref nb), ("_given_by_skill", .ref gb), ("_price_by_skill", .ref pb)]) kpb.at_ htdmqmqmq (fun _ _ _ z => by cases z)
    have hnbmqmqm := put_keep (o' := .ins (BC K) dx [("_parts", .ref d), ("_names", .ref nm), ("_tiers", .ref td), ("_need_by_tier", .ref nb), ("_given_by_skill", .ref gb), ("_price_by_skill", .ref pb)]) kpb.at_ hnbmqmq (fun _ _ _ z => by cases z)
    have hgbmqm := put_keep (o' := .ins (BC K) dx [("_parts", .ref d), ("_names", .ref nm), ("_tiers", .ref td), ("_need_by_tier", .ref nb), ("_given_by_skill", .ref gb), ("_price_by_skill", .ref pb)]) kpb.at_ hgbmq (fun _ _ _ z => by cases z)
    have hpbm := put_keep (o' := .ins (BC K) dx [("_parts", .ref d), ("_names", .ref nm), ("_tiers", .ref td), ("_need_by_tier", .ref nb), ("_given_by_skill", .ref gb), ("_price_by_skill", .ref pb)]) kpb.at_ hpb (fun _ _ _ z => by cases z)
    refine k _ ⟨dx, d, nm, td, nb, gb, pb, t1, t3, t4, t5, t6, t7, x1, x3, x4, x5, x6, x7⟩ mpb.but rfl ?_
    exact ⟨mpb.at_, mpb.hd, mpb.h1, mpb.h3, mpb.h4, mpb.h5, mpb.h6, mpb.h7, mpb.ls.r1, mpb.ls.r3, mpb.ls.r4, mpb.ls.r5, mpb.ls.r6, mpb.ls.r7, hnm3qmqmqmqm, htdmqmqmqm, hnbmqmqm, hgbmqm, hpbm⟩
end
end Rt
end
section
set_option Elab.async false
set_option linter.all false
set_option maxRecDepth 100000
set_option maxHeartbeats 8000000
/-! the laws make a book -/
namespace Rt
open PySem PySem.Spec PyProof.Rows L2
abbrev initPs : List Str := ["self", "skills", "points", "needs", "wants", "bars", "gives", "prices", "reset"]
abbrev initKs : List Str := ["needs", "wants", "bars", "gives", "prices", "reset"]
/-- all that is no list stands -/
def Fx (H H' : Hp) : Prop := ∀ b o, H b = some o → (∀ xs, o ≠ .lst xs) → H' b = some o
theorem BookAt.fx {K : PySem.W.Frag} {H H' : Hp} {x : Addr} {B : Bk} {a : BoA} (h : BookAt K H x B a) (s : Fx H H') : BookAt K H' x B a := by
  have t : Tk H H' := fun b xs hb => s b _ hb fun _ z => by cases z
  exact ⟨s _ _ h.at_ (fun _ z => by cases z), s _ _ h.parts (fun _ z => by cases z), h.h1.tk t, h.h3.tk t, h.h4.tk t, h.h5.tk t, h.h6.tk t, h.h7.tk t, h.r1.tk t, h.r3.tk t, h.r4.tk t, h.r5.tk t, h.r6.tk t, h.r7.tk t, t _ _ h.names, s _ _ h.tiers (fun _ z => by cases z), s _ _ h.needs (fun _ z => by cases z), s _ _ h.given (fun _ z => by cases z), s _ _ h.price (fun _ z => by cases z)⟩
def rListOf (K : PySem.W.Frag) : List V → Hp → VK → Prop := fun xs H Q => ∃ p ys, xs = [.ref p] ∧ (SqL K H p ys ∨ SqT K H p ys) ∧ ∀ l, H l = none → Q (.ref l) (upd H l (.lst ys))
theorem call_listOf {X : Cx} : CallR X (.type "list") (rListOf X.K) := call_list_of
section
variable {P : Program} {w : World} {K : PySem.W.Frag} {mg : Str → Option Value} {base : Heap}
theorem mk_book (Z : All K mg) : ∃ fd, FnOk P w K mg base CX0 7 (He.ma K (BC K) "__init__") fd initPs (spInit K) ∧ KBn K fd initPs 3 initKs (fun us ws => us ++ ws) (fun vs zs => vs ++ zs) := by
  obtain ⟨fd, F⟩ := Z.f_Book_init
  obtain ⟨mv, kb⟩ := F.kbinds0 (ps := initPs) 3 initKs [] (fun us _ ws => us ++ ws) (by intro e; cases e) (fun q hq => nomatch hq) (fun r1 _ r3 => r1.append r3) (fun D doc pm an cdv ct us mv ws l1 l2 l3 => by
    match us, ws, l1, l3 with
    | [_, _, _], [_, _, _, _, _, _], _, _ => rfl)
  exact ⟨fd, ok_init Z F, kb⟩
theorem Same.made {H H' : Hp} {x dx : Addr} {C : Addr} (nx : H x = none) (nd : H dx = none) (ne : dx ≠ x) (b : But x (upd (upd H dx (.own x)) x (.ins C dx [])) H') : Same H H' := fun c o hc => by
  have n1 := ne_of_none hc nx
  refine b c o n1 ?_
  rw [upd_ne n1, upd_ne (ne_of_none hc nd)]
  exact hc
theorem ListsAt.made {H : Hp} {x dx : Addr} {C : Addr} (nx : H x = none) (nd : H dx = none) {B : Bk} {a1 a3 a4 a5 a6 a7 : Addr} {x1 x3 x4 x5 x6 x7 : List V} (h : ListsAt H B a1 a3 a4 a5 a6 a7 x1 x3 x4 x5 x6 x7) : ListsAt (upd (upd H dx (.own x)) x (.ins C dx [])) B a1 a3 a4 a5 a6 a7 x1 x3 x4 x5 x6 x7 :=
  h.same fun c o hc => by
    rw [upd_ne (ne_of_none hc nx), upd_ne (ne_of_none hc nd)]
    exact hc
theorem BkAt.lists {H : Hp} {d : Addr} {B : Bk} (h : BkAt H d B) : ∃ a1 a3 a4 a5 a6 a7 x1 x3 x4 x5 x6 x7, H d = some (.dK (bkL a1 B.points a3 a4 a5 a6 a7 (oV B.reset))) ∧ ListsAt H B a1 a3 a4 a5 a6 a7 x1 x3 x4 x5 x6 x7 := by
  obtain ⟨a1, a3, a4, a5, a6, a7, hd, ⟨x1, l1, r1⟩, ⟨x3, l3, r3⟩, ⟨x4, l4, r4⟩, ⟨x5, l5, r5⟩, ⟨x6, l6, r6⟩, ⟨x7, l7, r7⟩⟩ := h.at_
  exact ⟨a1, a3, a4, a5, a6, a7, x1, x3, x4, x5, x6, x7, hd, l1, r1, l3, r3, l4, r4, l5, r5, l6, r6, l7, r7⟩
def spMade (K : PySem.W.Frag) : Sp := fun vs H Q _ => ∃ (d : Addr) (B : Bk), vs = [.ref d] ∧ BkAt H d B ∧ BkR B ∧ ∀ (x : Addr) (a : BoA) (H' : Hp), H x = none → Same H H' → BookAt K H' x B a → Q (.ref x) H'
theorem cal_law_made (Z : All K mg) : Cal P w K mg base CX0 9 "_law_made" ["_law_book_here"] (spMade K) := by
  obtain ⟨fd, F⟩ := Z.f_law_made
  obtain ⟨fi, FI, KI⟩ := mk_book (P := P) (w := w) (base := base) Z
  refine .of ⟨fd, F, ok0 F sc_law_made (fun vs H Q E h => ?_) (fun cdv A outer s H vs Q E hr h => ?_)⟩ Z.g_law_made (fun _ _ _ _ _ _ us hl => match us, hl with | [_], _ => rfl)
  · obtain ⟨d, B, rfl, _⟩ := h
    rfl
  · obtain ⟨d, B, rfl, bk, ok, k⟩ := h
    obtain ⟨a1, a3, a4, a5, a6, a7, x1, x3, x4, x5, x6, x7, hd, ls⟩ := bk.lists
    refine ⟨_, (pss_one (ps_ret (pe_makeK Z.k_Book FI (hr.mono (by decide)) (by rfl) Z.g_Book KI pass0 (pa_cons (pe_dget (hu_of hr) (pv 0) pe_str (fun _ _ => rfl)) (pa_cons (pe_dget (hu_of hr) (pv 0) pe_str (fun _ _ => rfl)) pa_nil)) (pk_cons (pe_dget (hu_of hr) (pv 0) pe_str (fun _ _ => rfl)) (pk_cons (pe_dget (hu_of hr) (pv 0) pe_str (fun _ _ => rfl)) (pk_cons (pe_dget (hu_of hr) (pv 0) pe_str (fun _ _ => rfl)) (pk_cons (pe_dget (hu_of hr) (pv 0) pe_str (fun _ _ => rfl)) (pk_cons (pe_dget (hu_of hr) (pv 0) pe_str (fun _ _ => rfl)) (pk_cons (pe_dget (hu_of hr) (pv 0) pe_str (fun _ _ => rfl)) pk_nil))))))))), ?_⟩
    refine ⟨_, rfl, d, .ref a1, rfl, DGet.k (k := .inr "skills") hd, _, rfl, d, .int B.points, rfl, DGet.k (k := .inr "points") hd, ?_⟩
    refine ⟨_, rfl, d, .ref a3, rfl, DGet.k (k := .inr "needs") hd, _, rfl, d, .ref a4, rfl, DGet.k (k := .inr "wants") hd, _, rfl, d, .ref a5, rfl, DGet.k (k := .inr "bars") hd, _, rfl, d, .ref a6, rfl, DGet.k (k := .inr "gives") hd, _, rfl, d, .ref a7, rfl, DGet.k (k := .inr "prices") hd, _, rfl, d, oV B.reset, rfl, DGet.k (k := .inr "reset") hd, ?_⟩
    refine ⟨rfl, rfl, fun x dx nx ndx ne => ?_⟩
    refine ⟨x, dx, B, a1, a3, a4, a5, a6, a7, x1, x3, x4, x5, x6, x7, rfl, upd_same, (ls.made nx ndx).args, ok, fun H' a but _ b => ⟨rfl, k x a H' nx (Same.made nx ndx ne but) b⟩⟩
theorem cal_law_made_of_lists (Z : All K mg) : Cal P w K mg base CX0 9 "_law_made_of_lists" ["_law_book_here"] (spMade K) := by
  obtain ⟨fd, F⟩ := Z.f_law_made_of_lists
  obtain ⟨fi, FI, KI⟩ := mk_book (P := P) (w := w) (base := base) Z
  refine .of ⟨fd, F, ok0 F sc_law_made_of_lists (fun vs H Q E h => ?_) (fun cdv A outer s H vs Q E hr h => ?_)⟩ Z.g_law_made_of_lists (fun _ _ _ _ _ _ us hl => match us, hl with | [_], _ => rfl)
  · obtain ⟨d, B, rfl, _⟩ := h
    rfl
  · obtain ⟨d, B, rfl, bk, ok, k⟩ := h
    obtain ⟨a1, a3, a4, a5, a6, a7, x1, x3, x4, x5, x6, x7, hd, ls⟩ := bk.lists
    refine ⟨_, (pss_cons (ps_setLc (i := 1) (own := [("_law_part", 4)]) (by rfl) sc_law_made_of_lists.nd rfl rfl (sw_true rfl rfl rfl (by decide +kernel)) (pi_seq (pe_lst (pa_cons pe_str (pa_cons pe_str (pa_cons pe_str (pa_cons pe_str (pa_cons pe_str (pa_cons pe_str pa_nil)))))))) (blkOk_by (own := [("_law_part", 4)]) (N := ["_law_book_here", "_law_rows_here", "_law_made_here", "_law_row", "_law_part"]) (sc := defScope s_law_made_of_lists) (by decide +kernel)) (fun _ _ _ _ _ => (pg_name (i := 4) sc_law_made_of_lists.nd rfl (Or.inl rfl))) (fun _ _ _ _ _ => pts_nil) (fun _ _ _ _ _ => (pe_callTy (show CallR _ _ (rListOf K) from call_listOf) (by rfl) Z.b_list PyProof.Rows.boot_list (pa_cons (pe_dget (hu_of hr) (pv 0) (pv 4) (fun _ _ => rfl)) pa_nil))))
      (pss_cons (ps_set (i := 2) sc_law_made_of_lists.nd rfl (Or.inl rfl) (pe_makeK Z.k_Book FI (hr.mono (by decide)) (by rfl) Z.g_Book KI pass0 (pa_cons (pe_ix ix_list (pv 1) pe_int (fun _ _ => rfl)) (pa_cons (pe_dget (hu_of hr) (pv 0) pe_str (fun _ _ => rfl)) pa_nil)) (pk_cons (pe_ix ix_list (pv 1) pe_int (fun _ _ => rfl)) (pk_cons (pe_ix ix_list (pv 1) pe_int (fun _ _ => rfl)) (pk_cons (pe_ix ix_list (pv 1) pe_int (fun _ _ => rfl)) (pk_cons (pe_ix ix_list (pv 1) pe_int (fun _ _ => rfl)) (pk_cons (pe_ix ix_list (pv 1) pe_int (fun _ _ => rfl)) (pk_cons (pe_dget (hu_of hr) (pv 0) pe_str (fun _ _ => rfl)) pk_nil))))))))
      (pss_cons (ps_for PassesOwn.never rfl (pi_seq (pv 1)) (pg_name (i := 3) sc_law_made_of_lists.nd rfl (Or.inl rfl)) (pss_one (ps_expr (pe_bm0 PySem.F.plainAttrs_list PySem.F.slot_list_clear PySem.F.type_list_clear mt_clear (pv 3)))))
      (pss_one (ps_ret (pv 2)))))), ?_⟩
    have part : ∀ (i : Nat) (y : V), ([.str "skills", .str "needs", .str "wants", .str "bars", .str "gives", .str "prices"] : List V)[i]? = some y → ∃ (z : Str) (a : Addr) (xs : List V), y = .str z ∧ valV (bkL a1 B.points a3 a4 a5 a6 a7 (oV B.reset)) (.inr z) = some (.ref a) ∧ H a = some (.lst xs) ∧ [x1, x3, x4, x5, x6, x7][i]? = some xs := fun i y h => by
      rcases i with _ | _ | _ | _ | _ | _ | i
      · cases h; exact ⟨_, a1, x1, rfl, rfl, ls.l1, rfl⟩
      · cases h; exact ⟨_, a3, x3, rfl, rfl, ls.l3, rfl⟩
      · cases h; exact ⟨_, a4, x4, rfl, rfl, ls.l4, rfl⟩
      · cases h; exact ⟨_, a5, x5, rfl, rfl, ls.l5, rfl⟩
      · cases h; exact ⟨_, a6, x6, rfl, rfl, ls.l6, rfl⟩
      · cases h; exact ⟨_, a7, x7, rfl, rfl, ls.l7, rfl⟩
      · cases h
    refine ⟨(by show 6 ≤ sizeLine; decide), fun zl nzl => ?_⟩
    have sZ := Same.new (o := .lst [.str "skills", .str "needs", .str "wants", .str "bars", .str "gives", .str "prices"]) nzl
    have hZ : (upd H zl (.lst [.str "skills", .str "needs", .str "wants", .str "bars", .str "gives", .str "prices"])) zl = some (.lst [.str "skills", .str "needs", .str "wants", .str "bars", .str "gives", .str "prices"]) := upd_same
    generalize upd H zl (.lst [.str "skills", .str "needs", .str "wants", .str "bars", .str "gives", .str "prices"]) = HZ at sZ hZ ⊢
    refine ⟨zl, rfl, lc_seqS (.inl (SqL.of hZ)) (fun D i Hx => Same HZ Hx ∧ ∃ bs : List Addr, Hx D = some (.lst (bs.map V.ref)) ∧ Paired (fun b xs => Hx b = some (.lst xs)) bs ([x1, x3, x4, x5, x6, x7].take i) ∧ (∀ b ∈ bs, HZ b = none) ∧ bs.length ≤ i ∧ D ∉ bs)
      (fun D nD => ⟨Same.new nD, [], upd_same, .nil, fun b hb => (nomatch hb), Nat.le_refl _, fun h => nomatch h⟩) (fun D i Hx P => P.1) (fun D nD i y Hx hi' ⟨sx, bs, hD, pr, fr, bl, nb⟩ => ?_) fun L Hx nL ⟨sx, bs, hL, pr, fr, bl, nb⟩ => ?_⟩
    · obtain ⟨z, a, xs, rfl, ev, ha, ec⟩ := part i y hi'
      have i6 : i < 6 := (List.getElem?_eq_some_iff.mp hi').1
      have hd2 := sx _ _ (sZ _ _ hd)
      refine ⟨rfl, _, rfl, _, rfl, d, .ref a, rfl, ev ▸ DGet.k (k := .inr z) hd2, a, xs, rfl, .inl (SqL.of (sx _ _ (sZ _ _ ha))), fun b nb2 => ?_⟩
      have sb := Same.new (o := .lst xs) nb2
      have hD2 := sb _ _ hD
      have bD : b ≠ D := (ne_of_none hD nb2).symm
      refine ⟨bs.map V.ref, hD2, line_of (m := 6) (by rw [List.length_map]; omega) (by decide), fun c o hc => ?_, bs ++ [b], by rw [upd_same, List.map_append]; rfl, ?_, fun c hc => ?_, by rw [List.length_append]; show bs.length + 1 ≤ i + 1; omega, fun h => ?_⟩
      · rw [upd_ne (ne_of_none hc nD)]
        exact sb _ _ (sx _ _ hc)
      · rw [take_one ec]
        have keep : ∀ {us : List Addr} {ws : List (List V)}, Paired (fun b xs => Hx b = some (.lst xs)) us ws → D ∉ us → Paired (fun c ys => (upd (upd Hx b (.lst xs)) D (.lst (bs.map V.ref ++ [.ref b]))) c = some (.lst ys)) (us ++ [b]) (ws ++ [xs]) := fun {us ws} p => by
          induction p with
          | nil =>
            intro _
            exact .cons (by rw [upd_ne bD]; exact upd_same) .nil
          | @cons c ys us ws r t ih =>
            intro h
            exact .cons (by rw [upd_ne (fun e => h (by rw [e]; exact List.mem_cons_self))]; exact sb _ _ r) (ih fun hm => h (List.mem_cons_of_mem _ hm))
        exact keep pr nb
      · rcases List.mem_append.mp hc with hc | hc
        · exact fr c hc
        · rw [List.mem_singleton.mp hc]
          exact sx.free nb2
      · rcases List.mem_append.mp h with h | h
        · exact nb h
        · exact bD (List.mem_singleton.mp h).symm
    obtain ⟨b1, b3, b4, b5, b6, b7, rfl, g1, g3, g4, g5, g6, g7⟩ : ∃ b1 b3 b4 b5 b6 b7, bs = [b1, b3, b4, b5, b6, b7] ∧ Hx b1 = some (.lst x1) ∧ Hx b3 = some (.lst x3) ∧ Hx b4 = some (.lst x4) ∧ Hx b5 = some (.lst x5) ∧ Hx b6 = some (.lst x6) ∧ Hx b7 = some (.lst x7) := by
      cases pr with
      | cons h1 pr => cases pr with
        | cons h2 pr => cases pr with
          | cons h3 pr => cases pr with
            | cons h4 pr => cases pr with
              | cons h5 pr => cases pr with
                | cons h6 pr =>
                  cases pr
                  exact ⟨_, _, _, _, _, _, rfl, h1, h2, h3, h4, h5, h6⟩
    clear pr
    have s2 := sZ.trans sx
    have ls2 := ls.same s2
    have lsb : ListsAt Hx B b1 b3 b4 b5 b6 b7 x1 x3 x4 x5 x6 x7 := ⟨g1, ls2.r1, g3, ls2.r3, g4, ls2.r4, g5, ls2.r5, g6, ls2.r6, g7, ls2.r7⟩
    have hd2 := s2 _ _ hd
    refine ⟨_, rfl, L, _, 0, _, rfl, rfl, SqL.of hL, rfl, _, rfl, d, .int B.points, rfl, DGet.k (k := .inr "points") hd2, ?_⟩
    refine ⟨_, rfl, L, _, 1, _, rfl, rfl, SqL.of hL, rfl, _, rfl, L, _, 2, _, rfl, rfl, SqL.of hL, rfl, _, rfl, L, _, 3, _, rfl, rfl, SqL.of hL, rfl, _, rfl, L, _, 4, _, rfl, rfl, SqL.of hL, rfl, _, rfl, L, _, 5, _, rfl, rfl, SqL.of hL, rfl, _, rfl, d, oV B.reset, rfl, DGet.k (k := .inr "reset") hd2, ?_⟩
    refine ⟨rfl, rfl, fun x dx nx ndx ne => ?_⟩
    refine ⟨x, dx, B, b1, b3, b4, b5, b6, b7, x1, x3, x4, x5, x6, x7, rfl, upd_same, (lsb.made nx ndx).args, ok, fun H3 a but _ b => ⟨rfl, ?_⟩⟩
    have s3 := Same.made nx ndx ne but
    have nx0 : H x = none := s2.free nx
    -- the lists are emptied
    refine ⟨_, rfl, L, rfl, .inl ⟨⟨_, SqL.of (s3 _ _ hL)⟩, ?_⟩⟩
    refine for_list (K := K) (a := L) (xs := [b1, b3, b4, b5, b6, b7].map V.ref) (fun i σ H4 => ∃ (s3 : Option V), σ = [some (.ref d), some (.ref L), some (.ref x), s3, none] ∧ Same H H4 ∧ BookAt K H4 x B a ∧ H4 L = some (.lst ([b1, b3, b4, b5, b6, b7].map V.ref)) ∧ ∀ c ∈ [b1, b3, b4, b5, b6, b7], ∃ xs, H4 c = some (.lst xs))
      ⟨_, rfl, s2.trans s3, b, s3 _ _ hL, fun c hc => ?_⟩ (fun i σ H4 _ ⟨_, _, _, _, q, _⟩ => SqL.of q) ?_ ?_
    · simp only [List.mem_cons, List.not_mem_nil, or_false] at hc
      rcases hc with rfl | rfl | rfl | rfl | rfl | rfl
      · exact ⟨_, s3 _ _ g1⟩
      · exact ⟨_, s3 _ _ g3⟩
      · exact ⟨_, s3 _ _ g4⟩
      · exact ⟨_, s3 _ _ g5⟩
      · exact ⟨_, s3 _ _ g6⟩
      · exact ⟨_, s3 _ _ g7⟩
    · rintro i y σ H4 hi' ⟨t3, rfl, s4, b4', hL4, hb⟩
      obtain ⟨c, hc, rfl⟩ := List.mem_map.mp (List.mem_of_getElem? hi')
      obtain ⟨xs, hx⟩ := hb c hc
      refine ⟨_, rfl, .inl ⟨rfl, _, SqL.of hx⟩, c, xs, rfl, rfl, hx, ?_⟩
      have c0 : H c = none := sZ.free (fr c hc)
      refine ⟨_, rfl, fun u o hu => by rw [upd_ne (ne_of_none hu c0)]; exact s4 _ _ hu, b4'.fx fun u o hu no => ?_, ?_, fun u hu => ?_⟩
      · rw [upd_ne (ne_of hu hx (no _))]
        exact hu
      · rw [upd_ne (fun e => nb (by rw [e]; exact hc))]
        exact hL4
      · by_cases e : u = c
        · rw [e]
          exact ⟨_, upd_same⟩
        · rw [upd_ne e]
          exact hb u hu
    · rintro σ H4 ⟨t3, rfl, s4, b4', hL4, hb⟩
      exact ⟨_, rfl, k x a H4 nx0 s4 b4'⟩
end
end Rt
end
section
set_option Elab.async false
set_option linter.all false
set_option maxRecDepth 100000
set_option maxHeartbeats 8000000
/-! the laws' small questions -/
namespace Rt
open PySem PySem.Spec PyProof.Rows L2
def lookS (l : List (Str × Int)) (z : Str) (o : Int) : Int := match l.find? fun r => decide (r.1 = z) with
  | some r => r.2
  | none => o
def lookI (l : List (Int × Int)) (t o : Int) : Int := match l.find? fun r => decide (r.1 = t) with
  | some r => r.2
  | none => o
theorem val_kS : ∀ (l : List (Str × Int)) (z : Str) (o : Int), (valV (l.map kS) (.inr z)).getD (.int o) = .int (lookS l z o)
  | [], _, _ => rfl
  | r :: l, z, o => by
    by_cases h : r.1 = z
    · rw [List.map_cons, valV_pos (by show (Sum.inr r.1 : Key) = .inr z; rw [h])]
      unfold lookS
      rw [List.find?_cons_of_pos (by exact decide_eq_true h)]
      rfl
    · rw [List.map_cons, valV_neg (by intro e; exact h (Sum.inr.inj e)), val_kS l z o]
      unfold lookS
      rw [List.find?_cons_of_neg (by rw [decide_eq_false h]; decide)]
theorem val_kI : ∀ (l : List (Int × Int)) (t o : Int), (valV (l.map kI) (.inl t)).getD (.int o) = .int (lookI l t o)
  | [], _, _ => rfl
  | r :: l, t, o => by
    by_cases h : r.1 = t
    · rw [List.map_cons, valV_pos (by show (Sum.inl r.1 : Key) = .inl t; rw [h])]
      unfold lookI
      rw [List.find?_cons_of_pos (by exact decide_eq_true h)]
      rfl
    · rw [List.map_cons, valV_neg (by intro e; exact h (Sum.inl.inj e)), val_kI l t o]
      unfold lookI
      rw [List.find?_cons_of_neg (by rw [decide_eq_false h]; decide)]
def spNamesOf : Sp := fun vs H Q _ => ∃ (d : Addr) (B : Bk), vs = [.ref d] ∧ BkAt H d B ∧ B.sk.length ≤ 60 ∧ ∀ (l : Addr) (H' : Hp), H l = none → Same H H' → H' l = some (.lst (B.ns.map V.str)) → Q (.ref l) H'
def spNeedOf : Sp := fun vs H Q _ => ∃ (d : Addr) (B : Bk) (t : Int), vs = [.ref d, .int t] ∧ BkAt H d B ∧ (B.nd.map (·.1)).Pairwise (· < ·) ∧ ∀ H', Same H H' → Q (.int (lookI B.nd t 0)) H'
def spPriceOf : Sp := fun vs H Q _ => ∃ (d : Addr) (B : Bk) (z : Str), vs = [.ref d, .str z] ∧ BkAt H d B ∧ (B.prices.map (·.1)).Nodup ∧ ∀ H', Same H H' → Q (.int (lookS B.prices z 1)) H'
section
variable {P : Program} {w : World} {K : PySem.W.Frag} {mg : Str → Option Value} {base : Heap}
theorem cal_law_names (Z : All K mg) : Cal P w K mg base CX0 1 "_law_names" ["_law_book_here"] spNamesOf := by
  obtain ⟨fd, F⟩ := Z.f_law_names
  refine .of ⟨fd, F, ok0 F sc_law_names (fun vs H Q E h => ?_) (fun cdv A outer s H vs Q E hr h => ?_)⟩ Z.g_law_names (fun _ _ _ _ _ _ us hl => match us, hl with | [_], _ => rfl)
  · obtain ⟨d, B, rfl, _⟩ := h
    rfl
  · obtain ⟨d, B, rfl, bk, l60, k⟩ := h
    obtain ⟨a1, a3, a4, a5, a6, a7, x1, x3, x4, x5, x6, x7, hd, ls⟩ := bk.lists
    have xl : x1.length = B.sk.length := by rw [ls.r1.len, List.length_map]
    refine ⟨_, (pss_one (ps_ret (pe_lc (own := [("_law_row", 1)]) (by rfl) sc_law_names.nd (pi_seq (pe_dget (hu_of hr) (pv 0) pe_str (fun _ _ => rfl))) (blkOk_by (own := [("_law_row", 1)]) (N := ["_law_book_here", "_law_row"]) (sc := defScope s_law_names) (by decide +kernel)) (fun _ _ _ _ _ => (pg_name (i := 1) sc_law_names.nd rfl (Or.inl rfl))) (fun _ _ _ _ _ => pts_nil) (fun _ _ _ _ _ => (pe_ix (show IxR _ (rIxT K) from ix_tup) (pv 1) pe_int (fun _ _ => rfl)))))), ?_⟩
    refine ⟨_, rfl, d, .ref a1, rfl, DGet.k (k := .inr "skills") hd, a1, rfl, lc_seq (.inl (SqL.of ls.l1)) (fun i => (B.sk.take i).map fun r => V.str r.1) rfl (fun D nD i y Hy hi' p => ?_) fun T H4 nT s4 at4 => ?_⟩
    · obtain ⟨r, tp, hr', rfl, htp⟩ := ls.r1.at_ hi'
      refine ⟨rfl, _, rfl, tp, _, 0, _, rfl, rfl, SqT.of (p.same _ _ htp), rfl, p.put nD (map_one _ hr') (take_line _ (m := 60) l60 (by decide))⟩
    exact k T H4 nT s4 (by rw [at4, xl, List.take_length, List.map_map]; rfl)
theorem cal_law_need (Z : All K mg) : Cal P w K mg base CX0 1 "_law_need" ["_law_book_here", "_law_tier"] spNeedOf := by
  obtain ⟨fd, F⟩ := Z.f_law_need
  refine .of ⟨fd, F, ok0 F sc_law_need (fun vs H Q E h => ?_) (fun cdv A outer s H vs Q E hr h => ?_)⟩ Z.g_law_need (fun _ _ _ _ _ _ us hl => match us, hl with | [_, _], _ => rfl)
  · obtain ⟨d, B, t, rfl, _⟩ := h
    rfl
  · obtain ⟨d, B, t, rfl, bk, nd, k⟩ := h
    obtain ⟨a1, a3, a4, a5, a6, a7, x1, x3, x4, x5, x6, x7, hd, ls⟩ := bk.lists
    refine ⟨_, (pss_one (ps_ret (pe_dget2 (hu_of hr) (pe_callTy (call_dictP rfl) (by rfl) Z.b_dict PyProof.Rows.boot_dict (pa_cons (pe_dget (hu_of hr) (pv 0) pe_str (fun _ _ => rfl)) pa_nil)) (pv 1) pe_int ⟨by rfl, by rfl, by rfl, by rfl⟩))), ?_⟩
    obtain ⟨ps, e, pr⟩ := pair_rows (K := K) (g := kI) (fun _ => rfl) ls.r3
    refine ⟨_, rfl, d, .ref a3, rfl, DGet.k (k := .inr "needs") hd, a3, ps, B.nd.map kI, rfl, SqL.of (by rw [← e]; exact ls.l3), pr, fun p np => ?_⟩
    rw [merge_nd (nodup_kI nd)]
    refine ⟨p, rfl, .inl ⟨_, .inl upd_same⟩, _, rfl, _, DGet.k (k := .inl t) upd_same, ?_⟩
    rw [val_kI]
    exact k _ (Same.new np)
theorem cal_law_price (Z : All K mg) : Cal P w K mg base CX0 1 "_law_price" ["_law_book_here", "_law_name"] spPriceOf := by
  obtain ⟨fd, F⟩ := Z.f_law_price
  refine .of ⟨fd, F, ok0 F sc_law_price (fun vs H Q E h => ?_) (fun cdv A outer s H vs Q E hr h => ?_)⟩ Z.g_law_price (fun _ _ _ _ _ _ us hl => match us, hl with | [_, _], _ => rfl)
  · obtain ⟨d, B, z, rfl, _⟩ := h
    rfl
  · obtain ⟨d, B, z, rfl, bk, nd, k⟩ := h
    obtain ⟨a1, a3, a4, a5, a6, a7, x1, x3, x4, x5, x6, x7, hd, ls⟩ := bk.lists
    refine ⟨_, (pss_one (ps_ret (pe_dget2 (hu_of hr) (pe_callTy (call_dictP rfl) (by rfl) Z.b_dict PyProof.Rows.boot_dict (pa_cons (pe_dget (hu_of hr) (pv 0) pe_str (fun _ _ => rfl)) pa_nil)) (pv 1) pe_int ⟨by rfl, by rfl, by rfl, by rfl⟩))), ?_⟩
    obtain ⟨ps, e, pr⟩ := pair_rows (K := K) (g := kS) (fun _ => rfl) ls.r7
    refine ⟨_, rfl, d, .ref a7, rfl, DGet.k (k := .inr "prices") hd, a7, ps, B.prices.map kS, rfl, SqL.of (by rw [← e]; exact ls.l7), pr, fun p np => ?_⟩
    rw [merge_nd (nodup_kS nd)]
    refine ⟨p, rfl, .inl ⟨_, .inl upd_same⟩, _, rfl, _, DGet.k (k := .inr z) upd_same, ?_⟩
    rw [val_kS]
    exact k _ (Same.new np)
end
end Rt
end
section
set_option Elab.async false
set_option linter.all false
set_option maxRecDepth 100000
set_option maxHeartbeats 4000000
/-! the own errors' facts -/
namespace Rt
open PySem PySem.Spec PyProof.Rows L2
def oexB (K : PySem.W.Frag) (x : Str) : Bool := (match K.lookup (He.ga K x) with
  | some ⟨.type t, _, .cls cd, sl⟩ => decide (t = "type") && (match cd.mro, sl.toList with
    | .ref C :: bm, [_, _, _, _, some (.builtin n), _] => decide (C = He.ga K x) && (decide (n = "ValueError.__new__") && (cd.hasDict && (!cd.hasDel && PySem.HandSPX.refsVE bm)))
    | _, _ => false)
  | _ => false) && (He.eqO (PySem.W.findIn K (.ref (He.ga K x)) "__setattr__") (some (some (.builtin "object.__setattr__"))) && (decide (PySem.W.subIn K (.ref (He.ga K x)) (.type "BaseException") = some true) && (decide (PySem.W.typeIn K (.ref (He.ga K x)) = some (.type "type")) && PySem.W.keepIn K (.ref (He.ga K x)))))
theorem oex_ok {K : PySem.W.Frag} {x : Str} (h : oexB K x = true) : OexC K (He.ga K x) := by
  unfold oexB at h
  obtain ⟨h0, h⟩ := He.ba h
  obtain ⟨h1, h⟩ := He.ba h
  obtain ⟨h2, h⟩ := He.ba h
  obtain ⟨h3, h4⟩ := He.ba h
  refine ⟨?_, He.eqO_ok h1, of_decide_eq_true h2, of_decide_eq_true h3, h4⟩
  generalize hC : He.ga K x = C at h0 ⊢
  split at h0
  · rename_i t d cd sl q
    obtain ⟨e1, h0⟩ := He.ba h0
    have e1 := of_decide_eq_true e1
    subst e1
    split at h0
    · rename_i C' bm k0 k1 k2 k3 n k5 em es
      simp only [Bool.and_eq_true, decide_eq_true_eq, Bool.not_eq_true'] at h0
      obtain ⟨_, g1, g2, g3, g4, g5⟩ := h0
      subst g1 g2
      obtain ⟨nm, bs, mro, ns, qn, hd, sn, sub, ab, col, del⟩ := cd
      obtain ⟨sl⟩ := sl
      cases em
      cases es
      cases g3
      cases g4
      exact ⟨nm, qn, ns, bs, bm, sn, sub, ab, col, d, k0, k1, k2, k3, k5, q, g5⟩
    · cases h0
  · cases h0
/-- the class Book beside other values -/
structure BkC (K : PySem.W.Frag) : Prop where
  gc : PySem.W.findIn K (.ref (He.ga K "Book")) "__class__" = some (some (.builtin "object.__class__"))
  gg : PySem.W.specialIn K (.builtin "object.__class__") "__get__" = some (some (.builtin "getset_descriptor.__get__"))
  gt : PySem.W.takesIn K (.builtin "object.__class__") = some true
  gm : PySem.W.mroIn K (He.ga K "Book") (.type "object") = some true
  kb : PySem.W.kitOne K (.ref (He.ga K "Book")) (.ref (He.ga K "Book")) = some true
  kd : PySem.W.kitOne K (.type "dict") (.ref (He.ga K "Book")) = some false
  ne : PySem.W.findIn K (.ref (He.ga K "Book")) "__ne__" = some (some (.builtin "object.__ne__"))
  sd : PySem.W.subIn K (.type "dict") (.ref (He.ga K "Book")) = some false
def bkB (K : PySem.W.Frag) : Bool :=
  (((He.eqO (PySem.W.findIn K (.ref (He.ga K "Book")) "__class__") (some (some (.builtin "object.__class__"))) && He.eqO (PySem.W.specialIn K (.builtin "object.__class__") "__get__") (some (some (.builtin "getset_descriptor.__get__")))) &&
    (decide (PySem.W.takesIn K (.builtin "object.__class__") = some true) && decide (PySem.W.mroIn K (He.ga K "Book") (.type "object") = some true))) &&
   ((decide (PySem.W.kitOne K (.ref (He.ga K "Book")) (.ref (He.ga K "Book")) = some true) && decide (PySem.W.kitOne K (.type "dict") (.ref (He.ga K "Book")) = some false)) &&
    (He.eqO (PySem.W.findIn K (.ref (He.ga K "Book")) "__ne__") (some (some (.builtin "object.__ne__"))) && decide (PySem.W.subIn K (.type "dict") (.ref (He.ga K "Book")) = some false))))
theorem bkc_ok {K : PySem.W.Frag} (h : bkB K = true) : BkC K := by
  obtain ⟨h1, h2⟩ := He.ba h
  obtain ⟨h3, h4⟩ := He.ba h1
  obtain ⟨h5, h6⟩ := He.ba h2
  obtain ⟨a1, a2⟩ := He.ba h3
  obtain ⟨a3, a4⟩ := He.ba h4
  obtain ⟨a5, a6⟩ := He.ba h5
  obtain ⟨a7, a8⟩ := He.ba h6
  exact ⟨He.eqO_ok a1, He.eqO_ok a2, of_decide_eq_true a3, of_decide_eq_true a4, of_decide_eq_true a5, of_decide_eq_true a6, He.eqO_ok a7, of_decide_eq_true a8⟩
/-- the code object and the table of the def that makes lambdas -/
def lamC (K : PySem.W.Frag) (x : Str) : Addr := match PySem.W.tabIn K x with
  | some p => p.1
  | none => 0
def lamP (K : PySem.W.Frag) (x : Str) : Addr := match PySem.W.tabIn K x with
  | some p => p.2
  | none => 0
def lamB (K : PySem.W.Frag) (x : Str) : Bool := PySem.W.codeHdIn K (lamC K x) (lamP K x) && (K.lookup (lamP K x)).isNone
theorem lam_ok {K : PySem.W.Frag} {h : Heap} {x : Str} (X : K.In h) (b : lamB K x = true) : PySem.W.CodeHd h (lamC K x) (lamP K x) ∧ K.lookup (lamP K x) = none := by
  obtain ⟨b1, b2⟩ := He.ba b
  refine ⟨PySem.W.codeHd_of_K X b1, ?_⟩
  cases q : K.lookup (lamP K x) with
  | none => rfl
  | some o =>
    rw [q] at b2
    cases b2
/-- the three errors, their makers -/
def erB (K : PySem.W.Frag) : Bool := (["NoBook", "NoSkill", "NoNumber"] : List Str).all fun x => oexB K x && (He.eqO (PySem.W.findIn K (.ref (He.ga K x)) "__init__") (some (some (.ref (He.ma K (He.ga K x) "__init__")))) && decide (PySem.W.typeIn K (.ref (He.ma K (He.ga K x) "__init__")) = some (.type "function")))
end Rt
end
section
set_option Elab.async false
set_option linter.all false
set_option maxRecDepth 100000
set_option maxHeartbeats 4000000
/-! an own Hook: the facts, and beside them the two properties and the empty defaults -/
namespace Rt
open PySem PySem.Spec PyProof.Rows L2
/-! ### a property of the class: its object, its getter -/
def prA (K : PySem.W.Frag) (x f : Str) : Addr := He.ma K (He.ga K x) f
def prG (K : PySem.W.Frag) (x f : Str) : Addr := match PySem.W.recIn K (prA K x f) "property" with
  | some (.ref g :: _) => g
  | _ => 0
def prB (K : PySem.W.Frag) (x f q : Str) : Bool := He.eqO (PySem.W.findIn K (.ref (He.ga K x)) f) (some (some (.ref (prA K x f)))) && (He.eqO (PySem.W.specialIn K (.ref (prA K x f)) "__get__") (some (some (.builtin "property.__get__"))) &&
  (decide (PySem.W.takesIn K (.ref (prA K x f)) = some true) && ((match PySem.W.recIn K (prA K x f) "property" with
    | some (.ref g :: _) => true
    | _ => false) && (PySem.W.keepIn K (.ref (prG K x f)) && (match K.lookup (prG K x f) with
    | some ⟨_, _, .func fd, _⟩ => PySem.W.codeIn K fd.code q && (He.dflB K fd.defaults [] && He.kwdB K fd.kwdefaults [])
    | _ => false)))))
def fnA (K : PySem.W.Frag) (a : Addr) : He.FnW := match K.lookup a with
  | some ⟨_, _, .func fd, _⟩ => some (fd.name, fd.qualname, fd.params, fd.body, fd.scope, fd.globals, fd.closure, fd.builtins)
  | _ => none
theorem fun_at {K : PySem.W.Frag} {a : Addr} {name qual : Str} {params : Arguments} {body : List Stmt} {scope : Scope} (e : fnA K a = some (name, qual, params, .stmts body, scope, mainGlobals, [], builtinsNs)) (kp : PySem.W.keepIn K (.ref a) = true)
    (c2 : (match K.lookup a with
    | some ⟨_, _, .func fd, _⟩ => PySem.W.codeIn K fd.code qual && (He.dflB K fd.defaults [] && He.kwdB K fd.kwdefaults [])
    | _ => false) = true) : ∃ fd, FunD K name qual params body scope [] [] a fd := by
  unfold fnA at e
  cases q : K.lookup a with
  | none =>
    rw [q] at c2
    cases c2
  | some o =>
    obtain ⟨oc, od, dt, osl⟩ := o
    rw [q] at c2 e
    cases dt with
    | func fd =>
      obtain ⟨n1, n2, n3, n4, n5, n6, n7, n8, n9, n10, n11, n12, n13, n14, n15⟩ := fd
      have e2 : (some (n1, n2, n3, n4, n5, n6, n7, n15) : He.FnW) = some (name, qual, params, .stmts body, scope, mainGlobals, [], builtinsNs) := e
      simp only [Option.some.injEq, Prod.mk.injEq] at e2
      obtain ⟨h1, h2, h3, h4, h5, h6, h7, h8⟩ := e2
      subst h1 h2 h3 h4 h5 h6 h7 h8
      have c3 : (PySem.W.codeIn K n13 n2 && (He.dflB K n8 [] && He.kwdB K n9 [])) = true := c2
      obtain ⟨k1, k2⟩ := He.ba c3
      obtain ⟨k3, k4⟩ := He.ba k2
      exact ⟨_, ⟨oc, od, n8, n9, n10, n11, n12, n13, n14, osl, rfl, q, k1, He.dflB_ok k3, He.kwdB_ok k4⟩, kp⟩
    | _ => cases c2
theorem prop_of {K : PySem.W.Frag} {x f q name : Str} {params : Arguments} {body : List Stmt} {scope : Scope} (h : prB K x f q = true) (e : fnA K (prG K x f) = some (name, q, params, .stmts body, scope, mainGlobals, [], builtinsNs)) :
    PropOf K (He.ga K x) f (prA K x f) (prG K x f) ∧ ∃ fd, FunD K name q params body scope [] [] (prG K x f) fd := by
  unfold prB at h
  obtain ⟨h1, h⟩ := He.ba h
  obtain ⟨h2, h⟩ := He.ba h
  obtain ⟨h3, h⟩ := He.ba h
  obtain ⟨h4, h⟩ := He.ba h
  obtain ⟨h5, h6⟩ := He.ba h
  refine ⟨⟨He.eqO_ok h1, He.eqO_ok h2, of_decide_eq_true h3, ?_⟩, fun_at e h5 h6⟩
  unfold prG
  split at h4
  · rename_i g rest q1
    exact ⟨rest, by rw [q1]⟩
  · cases h4
/-! ### a keyword default that is an empty tuple -/
def emB (K : PySem.W.Frag) (a : Addr) : Bool := match K.lookup a with
  | some ⟨.type c, dd, .seq its _, _⟩ => decide (c = "tuple") && (decide (its = #[]) && dd.isNone)
  | _ => false
theorem em_ok {K : PySem.W.Frag} {a : Addr} (h : emB K a = true) : ∃ o n, K.lookup a = some o ∧ o.cls = .type "tuple" ∧ o.dict = none ∧ o.data = .seq #[] n := by
  unfold emB at h
  cases q : K.lookup a with
  | none =>
    rw [q] at h
    cases h
  | some o =>
    obtain ⟨oc, od, dt, osl⟩ := o
    rw [q] at h
    cases oc with
    | type c =>
      cases dt with
      | seq its n =>
        obtain ⟨h1, h2⟩ := He.ba (show (decide (c = "tuple") && (decide (its = #[]) && od.isNone)) = true from h)
        obtain ⟨h3, h4⟩ := He.ba h2
        have e := of_decide_eq_true h3
        subst e
        have e2 : od = none := by
          cases od with
          | none => rfl
          | some _ => cases h4
        subst e2
        exact ⟨_, n, rfl, congrArg Value.type (of_decide_eq_true h1), rfl, rfl⟩
      | _ => cases h
    | _ => cases dt <;> cases h
/-! ### the Hook -/
abbrev AlX : Type := He.AlD × Bool × List He.FnW × Option Obj
def exB (K : PySem.W.Frag) : Bool := ((prB K "Book" "points" "Book.points" && prB K "Book" "reset" "Book.reset") && (["needs", "wants", "bars", "gives", "prices"] : List Str).all fun f => emB K (kwdAt ("Book", some "__init__") f K)) && (erB K && ((bkB K && (L2.xfB K (He.ga K "NoSkill") && L2.xfB K (He.ga K "NoNumber"))) && lamB K "_law_refused_right"))
def exF (K : PySem.W.Frag) : List He.FnW := [fnA K (prG K "Book" "points"), fnA K (prG K "Book" "reset")]
def exV : List He.FnW := [some ("points", "Book.points", defArgs s_Book_points, .stmts (defBody s_Book_points), defScope s_Book_points, mainGlobals, [], builtinsNs),
  some ("reset", "Book.reset", defArgs s_Book_reset, .stmts (defBody s_Book_reset), defScope s_Book_reset, mainGlobals, [], builtinsNs)]
structure SaysX (K : PySem.W.Frag) : Prop where
  d : He.SaysD fa fn K
  b : exB K = true
  f : exF K = exV
/-- what is reached, but the table of the def that makes lambdas, which grows -/
def asX (g : Addr → Option Obj) : List Addr := (He.asD g 5).filter fun a => !decide (a = lamP (He.frG g (He.asD g 5)) "_law_refused_right")
def obsX (g : Addr → Option Obj) : AlX := (He.obsD fa fn (He.frG g (asX g)), exB (He.frG g (asX g)), exF (He.frG g (asX g)), g (lamP (He.frG g (asX g)) "_law_refused_right"))
def hookX : PySem.W.Hook where
  α := AlX
  obs := fun s => obsX s.heap.get?
  val := fun _ => (He.valD fn, true, exV, some { cls := .none, data := .fields #[] })
  says := fun _ h => ∃ K : PySem.W.Frag, K.In h ∧ SaysX K ∧ h.get? (lamP K "_law_refused_right") = some { cls := .none, data := .fields #[] }
  of := fun _ _ e => ⟨_, He.frG_in, ⟨congrArg (fun z : AlX => z.1) e, congrArg (fun z : AlX => z.2.1) e, congrArg (fun z : AlX => z.2.2.1) e⟩, congrArg (fun z : AlX => z.2.2.2) e⟩
  keeps := fun _ _ _ ⟨K, hK, c, t⟩ k => ⟨K, PySem.W.Frag.In.keeps hK k, c, k _ _ t⟩
theorem obsX_eq {g : Addr → Option Obj} {s : Shared} (h : ∀ a, g a = s.heap.get? a) : obsX g = hookX.obs s := by
  have e : g = s.heap.get? := funext h
  rw [e] <;> rfl
theorem SaysX.points {K : PySem.W.Frag} (c : SaysX K) : PropOf K (He.ga K "Book") "points" (prA K "Book" "points") (prG K "Book" "points") ∧ ∃ fd, FunD K "points" "Book.points" (defArgs s_Book_points) (defBody s_Book_points) (defScope s_Book_points) [] [] (prG K "Book" "points") fd :=
  prop_of (He.ba (He.ba (He.ba c.b).1).1).1 (Option.some.inj (congrArg (fun l : List He.FnW => l[0]?) c.f))
theorem SaysX.reset {K : PySem.W.Frag} (c : SaysX K) : PropOf K (He.ga K "Book") "reset" (prA K "Book" "reset") (prG K "Book" "reset") ∧ ∃ fd, FunD K "reset" "Book.reset" (defArgs s_Book_reset) (defBody s_Book_reset) (defScope s_Book_reset) [] [] (prG K "Book" "reset") fd :=
  prop_of (He.ba (He.ba (He.ba c.b).1).1).2 (Option.some.inj (congrArg (fun l : List He.FnW => l[1]?) c.f))
theorem SaysX.empty {K : PySem.W.Frag} (c : SaysX K) {f : Str} (h : f ∈ (["needs", "wants", "bars", "gives", "prices"] : List Str)) : ∃ o n, K.lookup (kwdAt ("Book", some "__init__") f K) = some o ∧ o.cls = .type "tuple" ∧ o.dict = none ∧ o.data = .seq #[] n := em_ok (List.all_eq_true.mp (He.ba (He.ba c.b).1).2 f h)
theorem SaysX.err {K : PySem.W.Frag} (c : SaysX K) {x : Str} (h : x ∈ (["NoBook", "NoSkill", "NoNumber"] : List Str)) : OexC K (He.ga K x) ∧ PySem.W.findIn K (.ref (He.ga K x)) "__init__" = some (some (.ref (He.ma K (He.ga K x) "__init__"))) ∧ PySem.W.typeIn K (.ref (He.ma K (He.ga K x) "__init__")) = some (.type "function") := by
  obtain ⟨h1, h2⟩ := He.ba (List.all_eq_true.mp (He.ba (He.ba c.b).2).1 x h)
  obtain ⟨h3, h4⟩ := He.ba h2
  exact ⟨oex_ok h1, He.eqO_ok h3, of_decide_eq_true h4⟩
theorem SaysX.book {K : PySem.W.Frag} (c : SaysX K) : BkC K := bkc_ok (He.ba (He.ba (He.ba (He.ba c.b).2).2).1).1
theorem SaysX.xs {K : PySem.W.Frag} (c : SaysX K) : L2.XfC K (He.ga K "NoSkill") := L2.xfB_ok (He.ba (He.ba (He.ba (He.ba (He.ba c.b).2).2).1).2).1
theorem SaysX.xn {K : PySem.W.Frag} (c : SaysX K) : L2.XfC K (He.ga K "NoNumber") := L2.xfB_ok (He.ba (He.ba (He.ba (He.ba (He.ba c.b).2).2).1).2).2
theorem SaysX.lam {K : PySem.W.Frag} (c : SaysX K) : lamB K "_law_refused_right" = true := (He.ba (He.ba (He.ba c.b).2).2).2
end Rt
end
section
set_option Elab.async false
set_option linter.all false
set_option maxRecDepth 100000
set_option maxHeartbeats 8000000
/-! the book's properties; all its parts -/
namespace Rt
open PySem PySem.Spec PyProof.Rows L2
structure AllX (K : PySem.W.Frag) (mg : Str → Option Value) : Prop where
  z : All K mg
  x : SaysX K
def spPoints (K : PySem.W.Frag) : Sp := fun vs H Q _ => ∃ (x : Addr) (B : Bk) (a : BoA), vs = [.ref x] ∧ BookAt K H x B a ∧ Q (.int B.points) H
def spReset (K : PySem.W.Frag) : Sp := fun vs H Q _ => ∃ (x : Addr) (B : Bk) (a : BoA), vs = [.ref x] ∧ BookAt K H x B a ∧ Q (oV B.reset) H
section
variable {P : Program} {w : World} {K : PySem.W.Frag} {mg : Str → Option Value} {base : Heap}
theorem ok_points (W : AllX K mg) : ∃ fd, Binds K fd ["self"] [] ∧ FnOk P w K mg base CX0 1 (prG K "Book" "points") fd ["self"] (spPoints K) := by
  have Z := W.z
  obtain ⟨fd, F⟩ := W.x.points.2
  refine ⟨fd, F.bindsN (fun _ _ _ _ _ _ us hl => match us, hl with | [_], _ => rfl), ok0 F sc_Book_points (fun vs H Q E h => ?_) (fun cdv A outer s H vs Q E hr h => ?_)⟩
  · obtain ⟨x, B, a, rfl, _⟩ := h
    rfl
  · obtain ⟨x, B, a, rfl, b, k⟩ := h
    refine ⟨_, (pss_one (ps_ret (pe_dget (hu_of hr) (pe_fld (pv 0) rfl) pe_str (fun _ _ => rfl)))), ?_⟩
    exact ⟨_, rfl, x, _, a.dx, bFs a, .ref a.dp, rfl, b.at_, Z.c_Book, Z.n_parts, rfl, a.dp, .int B.points, rfl, DGet.k (k := .inr "points") b.parts, k⟩
theorem ok_reset (W : AllX K mg) : ∃ fd, Binds K fd ["self"] [] ∧ FnOk P w K mg base CX0 1 (prG K "Book" "reset") fd ["self"] (spReset K) := by
  have Z := W.z
  obtain ⟨fd, F⟩ := W.x.reset.2
  refine ⟨fd, F.bindsN (fun _ _ _ _ _ _ us hl => match us, hl with | [_], _ => rfl), ok0 F sc_Book_reset (fun vs H Q E h => ?_) (fun cdv A outer s H vs Q E hr h => ?_)⟩
  · obtain ⟨x, B, a, rfl, _⟩ := h
    rfl
  · obtain ⟨x, B, a, rfl, b, k⟩ := h
    refine ⟨_, (pss_one (ps_ret (pe_dget (hu_of hr) (pe_fld (pv 0) rfl) pe_str (fun _ _ => rfl)))), ?_⟩
    exact ⟨_, rfl, x, _, a.dx, bFs a, .ref a.dp, rfl, b.at_, Z.c_Book, Z.n_parts, rfl, a.dp, oV B.reset, rfl, DGet.k (k := .inr "reset") b.parts, k⟩
end
section
variable {P : Program} {w : World} {K : PySem.W.Frag} {mg : Str → Option Value} {base : Heap}
/-- the ten parts as a list of new lists -/
structure TenAt (H H' : Hp) (L : Addr) (B : Bk) (a : BoA) : Prop where
  same : Same H H'
  nL : H L = none
  at_ : ∃ l1 l3 l4 l5 l6 l7 n1 n2, H' L = some (.lst [.ref l1, .int B.points, .ref l3, .ref l4, .ref l5, .ref l6, .ref l7, oV B.reset, .ref n1, .ref n2]) ∧
    H' l1 = some (.lst a.x1) ∧ H' l3 = some (.lst a.x3) ∧ H' l4 = some (.lst a.x4) ∧ H' l5 = some (.lst a.x5) ∧ H' l6 = some (.lst a.x6) ∧ H' l7 = some (.lst a.x7) ∧ H' n1 = some (.lst (B.ns.map V.str)) ∧ H' n2 = some (.lst (B.ns.map V.str)) ∧
    (∀ l ∈ [l1, l3, l4, l5, l6, l7, n1, n2], H l = none) ∧ [l1, l3, l4, l5, l6, l7, n1, n2].Nodup ∧ L ∉ [l1, l3, l4, l5, l6, l7, n1, n2]
def spTen (K : PySem.W.Frag) : Sp := fun vs H Q _ => ∃ (x : Addr) (B : Bk) (a : BoA), vs = [.ref x] ∧ BookAt K H x B a ∧ ∀ L H', TenAt H H' L B a → Q (.ref L) H'
theorem cal_law_parts (W : AllX K mg) : Cal P w K mg base CX0 3 "_law_parts" ["_law_made_here"] (spTen K) := by
  have Z := W.z
  obtain ⟨fd, F⟩ := Z.f_law_parts
  obtain ⟨fp, bp, Fp⟩ := ok_points (P := P) (w := w) (base := base) W
  obtain ⟨fr, br, Fr⟩ := ok_reset (P := P) (w := w) (base := base) W
  have C1 : CalM P w K mg base CX0 1 "skills" ["self"] (spList K fun _ a => a.x1) := calm_skills Z
  have C3 : CalM P w K mg base CX0 1 "needs" ["self"] (spList K fun _ a => a.x3) := calm_needs Z
  have C4 : CalM P w K mg base CX0 1 "wants" ["self"] (spList K fun _ a => a.x4) := calm_wants Z
  have C5 : CalM P w K mg base CX0 1 "bars" ["self"] (spList K fun _ a => a.x5) := calm_bars Z
  have C6 : CalM P w K mg base CX0 1 "gives" ["self"] (spList K fun _ a => a.x6) := calm_gives Z
  have C7 : CalM P w K mg base CX0 1 "prices" ["self"] (spList K fun _ a => a.x7) := calm_prices Z
  have C8 : CalM P w K mg base CX0 1 "names" ["self"] (spList K fun B _ => B.ns.map V.str) := calm_names Z
  have C9 : CalM P w K mg base CX0 1 "listed" ["self"] (spList K fun B _ => B.ns.map V.str) := calm_listed Z
  refine .of ⟨fd, F, ok0 F sc_law_parts (fun vs H Q E h => ?_) (fun cdv A outer s H vs Q E hr h => ?_)⟩ Z.g_law_parts (fun _ _ _ _ _ _ us hl => match us, hl with | [_], _ => rfl)
  · obtain ⟨x, B, a, rfl, _⟩ := h
    rfl
  · obtain ⟨x, B, a, rfl, b, k⟩ := h
    refine ⟨_, (pss_cons (ps_set (i := 1) sc_law_parts.nd rfl (Or.inl rfl) (pe_lst (pa_cons (pe_m0 C1 (hr.mono (by decide)) pass0 (pv 0)) (pa_cons (pe_prop (pv 0) Z.c_Book W.x.points.1 Fp (hr.mono (by decide)) bp .nil pass0 rfl) (pa_cons (pe_m0 C3 (hr.mono (by decide)) pass0 (pv 0)) (pa_cons (pe_m0 C4 (hr.mono (by decide)) pass0 (pv 0)) (pa_cons (pe_m0 C5 (hr.mono (by decide)) pass0 (pv 0)) (pa_cons (pe_m0 C6 (hr.mono (by decide)) pass0 (pv 0)) (pa_cons (pe_m0 C7 (hr.mono (by decide)) pass0 (pv 0)) pa_nil)))))))))
      (pss_one (ps_ret (pe_op op_cat (pv 1) (pe_lst (pa_cons (pe_prop (pv 0) Z.c_Book W.x.reset.1 Fr (hr.mono (by decide)) br .nil pass0 rfl) (pa_cons (pe_m0 C8 (hr.mono (by decide)) pass0 (pv 0)) (pa_cons (pe_m0 C9 (hr.mono (by decide)) pass0 (pv 0)) pa_nil)))))))), ?_⟩
    refine ⟨_, rfl, x, a.dx, bFs a, rfl, b.at_, rfl, x, B, a, rfl, b, fun l1 ml1 => ?_⟩
    have s1 := Same.new (o := .lst (a.x1)) ml1
    have b1 := b.same s1
    have h1 : (upd H l1 (.lst (a.x1))) l1 = some (.lst (a.x1)) := upd_same
    generalize upd H l1 (.lst (a.x1)) = G1 at s1 b1 h1 ⊢
    refine ⟨_, rfl, x, a.dx, bFs a, rfl, b1.at_, x, B, a, rfl, b1, ?_⟩
    refine ⟨_, rfl, x, a.dx, bFs a, rfl, b1.at_, rfl, x, B, a, rfl, b1, fun l3 ml3 => ?_⟩
    have s2 := Same.new (o := .lst (a.x3)) ml3
    have b2 := b1.same s2
    have h2 : (upd G1 l3 (.lst (a.x3))) l3 = some (.lst (a.x3)) := upd_same
    generalize upd G1 l3 (.lst (a.x3)) = G2 at s2 b2 h2 ⊢
    refine ⟨_, rfl, x, a.dx, bFs a, rfl, b2.at_, rfl, x, B, a, rfl, b2, fun l4 ml4 => ?_⟩
    have s3 := Same.new (o := .lst (a.x4)) ml4
    have b3 := b2.same s3
    have h3 : (upd G2 l4 (.lst (a.x4))) l4 = some (.lst (a.x4)) := upd_same
    generalize upd G2 l4 (.lst (a.x4)) = G3 at s3 b3 h3 ⊢
    refine ⟨_, rfl, x, a.dx, bFs a, rfl, b3.at_, rfl, x, B, a, rfl, b3, fun l5 ml5 => ?_⟩
    have s4 := Same.new (o := .lst (a.x5)) ml5
    have b4 := b3.same s4
    have h4 : (upd G3 l5 (.lst (a.x5))) l5 = some (.lst (a.x5)) := upd_same
    generalize upd G3 l5 (.lst (a.x5)) = G4 at s4 b4 h4 ⊢
    refine ⟨_, rfl, x, a.dx, bFs a, rfl, b4.at_, rfl, x, B, a, rfl, b4, fun l6 ml6 => ?_⟩
    have s5 := Same.new (o := .lst (a.x6)) ml6
    have b5 := b4.same s5
    have h5 : (upd G4 l6 (.lst (a.x6))) l6 = some (.lst (a.x6)) := upd_same
    generalize upd G4 l6 (.lst (a.x6)) = G5 at s5 b5 h5 ⊢
    refine ⟨_, rfl, x, a.dx, bFs a, rfl, b5.at_, rfl, x, B, a, rfl, b5, fun l7 ml7 => ?_⟩
    have s6 := Same.new (o := .lst (a.x7)) ml7
    have b6 := b5.same s6
    have h6 : (upd G5 l7 (.lst (a.x7))) l7 = some (.lst (a.x7)) := upd_same
    generalize upd G5 l7 (.lst (a.x7)) = G6 at s6 b6 h6 ⊢
    refine ⟨(by show 7 ≤ sizeLine; decide), fun L1 mL1 => ?_⟩
    have sL1 := Same.new (o := .lst [.ref l1, .int B.points, .ref l3, .ref l4, .ref l5, .ref l6, .ref l7]) mL1
    have bL1 := b6.same sL1
    have hL1 : (upd G6 L1 (.lst [.ref l1, .int B.points, .ref l3, .ref l4, .ref l5, .ref l6, .ref l7])) L1 = some (.lst [.ref l1, .int B.points, .ref l3, .ref l4, .ref l5, .ref l6, .ref l7]) := upd_same
    generalize upd G6 L1 (.lst [.ref l1, .int B.points, .ref l3, .ref l4, .ref l5, .ref l6, .ref l7]) = GA at sL1 bL1 hL1 ⊢
    refine ⟨_, rfl, ?_⟩
    refine ⟨_, rfl, x, a.dx, bFs a, rfl, bL1.at_, x, B, a, rfl, bL1, ?_⟩
    refine ⟨_, rfl, x, a.dx, bFs a, rfl, bL1.at_, rfl, x, B, a, rfl, bL1, fun n1 mn1 => ?_⟩
    have s7 := Same.new (o := .lst (B.ns.map V.str)) mn1
    have b7 := bL1.same s7
    have h7 : (upd GA n1 (.lst (B.ns.map V.str))) n1 = some (.lst (B.ns.map V.str)) := upd_same
    generalize upd GA n1 (.lst (B.ns.map V.str)) = G7 at s7 b7 h7 ⊢
    refine ⟨_, rfl, x, a.dx, bFs a, rfl, b7.at_, rfl, x, B, a, rfl, b7, fun n2 mn2 => ?_⟩
    have s8 := Same.new (o := .lst (B.ns.map V.str)) mn2
    have b8 := b7.same s8
    have h8 : (upd G7 n2 (.lst (B.ns.map V.str))) n2 = some (.lst (B.ns.map V.str)) := upd_same
    generalize upd G7 n2 (.lst (B.ns.map V.str)) = G8 at s8 b8 h8 ⊢
    refine ⟨(by show 3 ≤ sizeLine; decide), fun L2 mL2 => ?_⟩
    have sL2 := Same.new (o := .lst [oV B.reset, .ref n1, .ref n2]) mL2
    have hL2 : (upd G8 L2 (.lst [oV B.reset, .ref n1, .ref n2])) L2 = some (.lst [oV B.reset, .ref n1, .ref n2]) := upd_same
    generalize upd G8 L2 (.lst [oV B.reset, .ref n1, .ref n2]) = GB at sL2 hL2 ⊢
    have r8 := s8.trans sL2
    have r7 := s7.trans r8
    have rA := sL1.trans r7
    have r6 := s6.trans rA
    have r5 := s5.trans r6
    have r4 := s4.trans r5
    have r3 := s3.trans r4
    have r2 := s2.trans r3
    have r1 := s1.trans r2
    refine ⟨L1, L2, _, _, rfl, rfl, r7 _ _ hL1, hL2, (by show 7 + 3 ≤ sizeLine; decide), fun L mL => ?_⟩
    have sL := Same.new (o := .lst ([.ref l1, .int B.points, .ref l3, .ref l4, .ref l5, .ref l6, .ref l7] ++ [oV B.reset, .ref n1, .ref n2])) mL
    have z_l1 : H l1 = none := ml1
    have z_l3 : H l3 = none := s1.free ml3
    have d_l1_l3 : l1 ≠ l3 := ne_of_none h1 ml3
    have z_l4 : H l4 = none := (s1.trans s2).free ml4
    have d_l1_l4 : l1 ≠ l4 := ne_of_none (s2 _ _ h1) ml4
    have d_l3_l4 : l3 ≠ l4 := ne_of_none h2 ml4
    have z_l5 : H l5 = none := ((s1.trans s2).trans s3).free ml5
    have d_l1_l5 : l1 ≠ l5 := ne_of_none ((s2.trans s3) _ _ h1) ml5
    have d_l3_l5 : l3 ≠ l5 := ne_of_none (s3 _ _ h2) ml5
    have d_l4_l5 : l4 ≠ l5 := ne_of_none h3 ml5
    have z_l6 : H l6 = none := (((s1.trans s2).trans s3).trans s4).free ml6
    have d_l1_l6 : l1 ≠ l6 := ne_of_none (((s2.trans s3).trans s4) _ _ h1) ml6
    have d_l3_l6 : l3 ≠ l6 := ne_of_none ((s3.trans s4) _ _ h2) ml6
    have d_l4_l6 : l4 ≠ l6 := ne_of_none (s4 _ _ h3) ml6
    have d_l5_l6 : l5 ≠ l6 := ne_of_none h4 ml6
    have z_l7 : H l7 = none := ((((s1.trans s2).trans s3).trans s4).trans s5).free ml7
    have d_l1_l7 : l1 ≠ l7 := ne_of_none ((((s2.trans s3).trans s4).trans s5) _ _ h1) ml7
    have d_l3_l7 : l3 ≠ l7 := ne_of_none (((s3.trans s4).trans s5) _ _ h2) ml7
    have d_l4_l7 : l4 ≠ l7 := ne_of_none ((s4.trans s5) _ _ h3) ml7
    have d_l5_l7 : l5 ≠ l7 := ne_of_none (s5 _ _ h4) ml7
    have d_l6_l7 : l6 ≠ l7 := ne_of_none h5 ml7
    have z_n1 : H n1 = none := ((((((s1.trans s2).trans s3).trans s4).trans s5).trans s6).trans sL1).free mn1
    have d_l1_n1 : l1 ≠ n1 := ne_of_none ((((((s2.trans s3).trans s4).trans s5).trans s6).trans sL1) _ _ h1) mn1
    have d_l3_n1 : l3 ≠ n1 := ne_of_none (((((s3.trans s4).trans s5).trans s6).trans sL1) _ _ h2) mn1
    have d_l4_n1 : l4 ≠ n1 := ne_of_none ((((s4.trans s5).trans s6).trans sL1) _ _ h3) mn1
    have d_l5_n1 : l5 ≠ n1 := ne_of_none (((s5.trans s6).trans sL1) _ _ h4) mn1
    have d_l6_n1 : l6 ≠ n1 := ne_of_none ((s6.trans sL1) _ _ h5) mn1
    have d_l7_n1 : l7 ≠ n1 := ne_of_none (sL1 _ _ h6) mn1
    have z_n2 : H n2 = none := (((((((s1.trans s2).trans s3).trans s4).trans s5).trans s6).trans sL1).trans s7).free mn2
    have d_l1_n2 : l1 ≠ n2 := ne_of_none (((((((s2.trans s3).trans s4).trans s5).trans s6).trans sL1).trans s7) _ _ h1) mn2
    have d_l3_n2 : l3 ≠ n2 := ne_of_none ((((((s3.trans s4).trans s5).trans s6).trans sL1).trans s7) _ _ h2) mn2
    have d_l4_n2 : l4 ≠ n2 := ne_of_none (((((s4.trans s5).trans s6).trans sL1).trans s7) _ _ h3) mn2
    have d_l5_n2 : l5 ≠ n2 := ne_of_none ((((s5.trans s6).trans sL1).trans s7) _ _ h4) mn2
    have d_l6_n2 : l6 ≠ n2 := ne_of_none (((s6.trans sL1).trans s7) _ _ h5) mn2
    have d_l7_n2 : l7 ≠ n2 := ne_of_none ((sL1.trans s7) _ _ h6) mn2
    have d_n1_n2 : n1 ≠ n2 := ne_of_none h7 mn2
    have z_L : H L = none := (((((((((s1.trans s2).trans s3).trans s4).trans s5).trans s6).trans sL1).trans s7).trans s8).trans sL2).free mL
    have d_l1_L : l1 ≠ L := ne_of_none (((((((((s2.trans s3).trans s4).trans s5).trans s6).trans sL1).trans s7).trans s8).trans sL2) _ _ h1) mL
    have d_l3_L : l3 ≠ L := ne_of_none ((((((((s3.trans s4).trans s5).trans s6).trans sL1).trans s7).trans s8).trans sL2) _ _ h2) mL
    have d_l4_L : l4 ≠ L := ne_of_none (((((((s4.trans s5).trans s6).trans sL1).trans s7).trans s8).trans sL2) _ _ h3) mL
    have d_l5_L : l5 ≠ L := ne_of_none ((((((s5.trans s6).trans sL1).trans s7).trans s8).trans sL2) _ _ h4) mL
    have d_l6_L : l6 ≠ L := ne_of_none (((((s6.trans sL1).trans s7).trans s8).trans sL2) _ _ h5) mL
    have d_l7_L : l7 ≠ L := ne_of_none ((((sL1.trans s7).trans s8).trans sL2) _ _ h6) mL
    have d_n1_L : n1 ≠ L := ne_of_none ((s8.trans sL2) _ _ h7) mL
    have d_n2_L : n2 ≠ L := ne_of_none (sL2 _ _ h8) mL
    have nd8 : [l1, l3, l4, l5, l6, l7, n1, n2].Nodup := (List.nodup_cons.mpr ⟨(by simp only [List.mem_cons, List.not_mem_nil, or_false, not_or]; exact ⟨d_l1_l3, d_l1_l4, d_l1_l5, d_l1_l6, d_l1_l7, d_l1_n1, d_l1_n2⟩), (List.nodup_cons.mpr ⟨(by simp only [List.mem_cons, List.not_mem_nil, or_false, not_or]; exact ⟨d_l3_l4, d_l3_l5, d_l3_l6, d_l3_l7, d_l3_n1, d_l3_n2⟩), (List.nodup_cons.mpr ⟨(by simp only [List.mem_cons, List.not_mem_nil, or_false, not_or]; exact ⟨d_l4_l5, d_l4_l6, d_l4_l7, d_l4_n1, d_l4_n2⟩), (List.nodup_cons.mpr ⟨(by simp only [List.mem_cons, List.not_mem_nil, or_false, not_or]; exact ⟨d_l5_l6, d_l5_l7, d_l5_n1, d_l5_n2⟩), (List.nodup_cons.mpr ⟨(by simp only [List.mem_cons, List.not_mem_nil, or_false, not_or]; exact ⟨d_l6_l7, d_l6_n1, d_l6_n2⟩), (List.nodup_cons.mpr ⟨(by simp only [List.mem_cons, List.not_mem_nil, or_false, not_or]; exact ⟨d_l7_n1, d_l7_n2⟩), (List.nodup_cons.mpr ⟨(by simp only [List.mem_cons, List.not_mem_nil, or_false, not_or]; exact d_n1_n2), (List.nodup_cons.mpr ⟨by simp, List.nodup_nil⟩)⟩)⟩)⟩)⟩)⟩)⟩)⟩)
    have nLm : L ∉ [l1, l3, l4, l5, l6, l7, n1, n2] := by simp only [List.mem_cons, List.not_mem_nil, or_false, not_or]; exact ⟨d_l1_L.symm, d_l3_L.symm, d_l4_L.symm, d_l5_L.symm, d_l6_L.symm, d_l7_L.symm, d_n1_L.symm, d_n2_L.symm⟩
    refine k L _ ⟨r1.trans sL, z_L, l1, l3, l4, l5, l6, l7, n1, n2, upd_same, sL _ _ (r2 _ _ h1), sL _ _ (r3 _ _ h2), sL _ _ (r4 _ _ h3), sL _ _ (r5 _ _ h4), sL _ _ (r6 _ _ h5), sL _ _ (rA _ _ h6), sL _ _ (r8 _ _ h7), sL _ _ (sL2 _ _ h8), fun l hl => ?_, nd8, nLm⟩
    simp only [List.mem_cons, List.not_mem_nil, or_false] at hl
    rcases hl with rfl | rfl | rfl | rfl | rfl | rfl | rfl | rfl
    all_goals assumption
end
end Rt
end
section
set_option Elab.async false
set_option linter.all false
set_option maxRecDepth 100000
set_option maxHeartbeats 8000000
/-! the own errors are made and raised; the methods that raise -/
namespace Rt
open PySem PySem.Spec PyProof.Rows L2
/-- an own error's maker: one field -/
def spEx (C : Addr) (f : Str) : Sp := fun vs H Q _ => ∃ (a : Addr) (y : V), vs = [.ref a, y] ∧ H a = some (exo a C none) ∧ ∀ dx, H dx = none → dx ≠ a → Q .non (upd (upd H dx (exd dx [(f, y)])) a (exo a C (some dx)))
/-- what is wished of an error of the class named c, its field f being y -/
def Err (K : PySem.W.Frag) (c f : Str) (y : V) (H : Hp) (E : XK) : Prop := ∀ d H', H d = none → Same H H' → H' d = some (.xd [(f, y)]) → E (.ref (He.ga K c)) (some d) H'
theorem err_made {K : PySem.W.Frag} {c f : Str} {y : V} {H : Hp} {E : XK} (k : Err K c f y H E) (a : Addr) (na : H a = none) : spEx (He.ga K c) f (.ref a :: ([y] ++ [])) (upd H a (exo a (He.ga K c) none))
    (fun v H2 => v = .non ∧ ∃ (d : Addr) (fs : List (Str × V)), H2 a = some (exo a (He.ga K c) (some d)) ∧ H2 d = some (exd d fs) ∧ H d = none ∧ E (.ref (He.ga K c)) (some d) (upd (del H2 a) d (.xd fs))) (fun _ _ _ => False) := by
  refine ⟨a, y, rfl, upd_same, fun dx nx ne => ⟨rfl, dx, _, upd_same, by rw [upd_ne ne, upd_same], ?_, ?_⟩⟩
  · rw [upd_ne ne] at nx
    exact nx
  · have nd : H dx = none := by
      rw [upd_ne ne] at nx
      exact nx
    refine k dx _ nd (fun b o hb => ?_) upd_same
    have b1 := ne_of_none hb nd
    have b2 := ne_of_none hb na
    rw [upd_ne b1, del_ne b2, upd_ne b2, upd_ne b1, upd_ne b2]
    exact hb
section
variable {P : Program} {w : World} {K : PySem.W.Frag} {mg : Str → Option Value} {base : Heap}
theorem ok_noskill (W : AllX K mg) : ∃ fd, Binds K fd ["self", "skill"] [] ∧ FnOk P w K mg base CX0 1 (He.ma K (He.ga K "NoSkill") "__init__") fd ["self", "skill"] (spEx (He.ga K "NoSkill") "skill") := by
  have Z := W.z
  obtain ⟨fd, F⟩ := Z.f_NoSkill_init
  refine ⟨fd, F.bindsN (fun _ _ _ _ _ _ us hl => match us, hl with | [_, _], _ => rfl), ok0 F sc_NoSkill_init (fun vs H Q E h => ?_) (fun cdv A outer s H vs Q E hr h => ?_)⟩
  · obtain ⟨a, y, rfl, _⟩ := h
    rfl
  · obtain ⟨a, y, rfl, ha, k⟩ := h
    exact ⟨_, pss_one (ps_ost (pv 0) (pv 1)), _, rfl, _, rfl, a, He.ga K "NoSkill", rfl, (W.x.err (by simp)).1, Z.n_NoSkill, .inl ⟨ha, k⟩⟩
theorem ok_nonumber (W : AllX K mg) : ∃ fd, Binds K fd ["self", "value"] [] ∧ FnOk P w K mg base CX0 1 (He.ma K (He.ga K "NoNumber") "__init__") fd ["self", "value"] (spEx (He.ga K "NoNumber") "value") := by
  have Z := W.z
  obtain ⟨fd, F⟩ := Z.f_NoNumber_init
  refine ⟨fd, F.bindsN (fun _ _ _ _ _ _ us hl => match us, hl with | [_, _], _ => rfl), ok0 F sc_NoNumber_init (fun vs H Q E h => ?_) (fun cdv A outer s H vs Q E hr h => ?_)⟩
  · obtain ⟨a, y, rfl, _⟩ := h
    rfl
  · obtain ⟨a, y, rfl, ha, k⟩ := h
    exact ⟨_, pss_one (ps_ost (pv 0) (pv 1)), _, rfl, _, rfl, a, He.ga K "NoNumber", rfl, (W.x.err (by simp)).1, Z.n_NoNumber, .inl ⟨ha, k⟩⟩
/-- what is let out of a def goes on as it is -/
theorem pass_up {X : Cx} {E : XK} (tk : Takes X fun cls d _ H => E cls d H) : Passes (L2.CX X.prog X.w) X E := passes_call tk fun _ _ _ _ h => h
/-- a def that lets something out -/
theorem okX {x qual : Str} {params : Arguments} {body : List Stmt} {scope : Scope} {f : Addr} {fd : FuncData} {N ps : List Str} {k : Nat} {sp : Sp} (F : FunD K x qual params body scope [] [] f fd) (S : FnScope N ps scope) (len : ∀ vs H Q E, sp vs H Q E → vs.length = ps.length)
    (hbody : ∀ (cdv : Value) (A : Around) (outer : List Env) (s : Shared) (H : Hp) (vs : List V) (Q : VK) (E : XK), Room k (A.deeper (envOfC qual scope s.heap.objs.size f cdv)) → sp vs H Q E →
      ∃ t, PSs (cxOf (L2.CX P w) P w K mg base N qual scope f cdv A outer s H E) body t ∧ t { nx := fun _ H' => Q .non H', rt := Q } (start N vs) H) : FnOk P w K mg base (L2.CX P w) (k + 1) f fd ps sp :=
  F.ok S len hbody
/-- asked of a skill: f, or the error -/
def spAsk (K : PySem.W.Frag) (f : Bk → BoA → Str → Hp → VK → Prop) : Sp := fun vs H Q E => ∃ (x : Addr) (B : Bk) (a : BoA) (y : V) (T : String), vs = [.ref x, y] ∧ BookAt K H x B a ∧ Ts K H y T ∧ if isOne B.ns y = true then ∀ z, y = .str z → f B a z H Q else Err K "NoSkill" "skill" y H E
theorem isOne_str {ns : List Str} {y : V} (h : isOne ns y = true) : ∃ z, y = .str z ∧ z ∈ ns := by
  cases y with
  | str z => exact ⟨z, rfl, of_decide_eq_true h⟩
  | _ => cases h
theorem calm_must (W : AllX K mg) : CalM P w K mg base (L2.CX P w) 3 "_must_have" ["self", "skill"] (spAsk K fun _ _ _ H Q => Q .non H) := by
  have Z := W.z
  obtain ⟨fd, F⟩ := Z.f_Book_must_have
  have C_is_one_of : Cal P w K mg base CX0 1 "is_one_of" ["names", "value"] (spOne K) := cal_is_one_of Z
  obtain ⟨fe, be, Fe⟩ := ok_noskill (P := P) (w := w) (base := base) W
  obtain ⟨T1, T2, T3⟩ := W.x.err (x := "NoSkill") (by simp)
  refine ⟨⟨fd, F.bindsN (fun _ _ _ _ _ _ us hl => match us, hl with | [_, _], _ => rfl), okX F sc_Book_must_have (fun vs H Q E h => ?_) (fun cdv A outer s H vs Q E hr h => ?_)⟩, Z.m_must_have, Z.c_Book⟩
  · obtain ⟨x, B, a, y, T, rfl, _⟩ := h
    rfl
  · obtain ⟨x, B, a, y, T, rfl, b, t, k⟩ := h
    refine ⟨_, (pss_one (ps_if (pt_not (pt_val (pe_cal C_is_one_of (hr.mono (by decide)) (by rfl) pass0 (pa_cons (pe_fld (pv 0) rfl) (pa_cons (pv 1) pa_nil))))) (pss_one (ps_raise rfl (takes_of rfl rfl rfl rfl) (pmk_oex T1 T2 T3 Fe (hr.mono (by decide)) be .nil pass0 (by rfl) Z.g_NoSkill (pa_cons (pv 1) pa_nil)))) pss_nil)), ?_⟩
    refine ⟨_, rfl, x, _, a.dx, bFs a, .ref a.nm, rfl, b.at_, Z.c_Book, Z.n_names, rfl, _, rfl, a.nm, B.ns, y, T, rfl, .inr (SqT.of b.names), t, _, rfl, ?_⟩
    cases e : isOne B.ns y with
    | true =>
      rw [if_pos e] at k
      obtain ⟨z, rfl, _⟩ := isOne_str e
      exact ifF rfl (k z rfl)
    | false =>
      rw [if_neg (by rw [e]; decide)] at k
      exact ifT rfl ⟨_, rfl, (by show 1 ≤ 1000; decide), fun ax na => err_made k ax na⟩
end
end Rt
end
section
set_option Elab.async false
set_option linter.all false
set_option maxRecDepth 100000
set_option maxHeartbeats 4000000
/-! the operators of an own class, by its own methods' promises -/
namespace Rt
open PySem PySem.Spec PyProof.Rows L2
theorem ref1 (a : Addr) : RelV (.ref a) (Value.ref a) := rfl
section
variable {X : Cx} {CX : CXT} {n : Nat} {C f : Addr} {fd : FuncData} {ps : List Str} {sp : Sp} {E : XK} {A : Around} {pins : List (Addr × Obj)} {s : Shared} {σ : L2.St} {H : Hp}
theorem own_call (sb : Sub X n A) (F : FnOk X.prog X.w X.K X.mg X.base CX n f fd ps sp) (hb : Binds X.K fd ps []) (hx : Passes CX X E) (I : Inv X pins σ H s) {vs : List V} {us : List Value} (r : Vals vs us) {Q : VK} (h : sp vs H Q E) :
    wpAny (model X.prog X.w) A (call (.ref f) us) (fun u s' => ∃ v H', Inv X pins σ H' s' ∧ RelV v u ∧ Q v H') X.xe s := by
  have e0 : Env0 X.prog X.w X.K X.mg X.base A X.stack s H := by
    have e := I.env0
    exact ⟨by rw [sb.fr]; exact e.frames, e.mod, e.bs, e.bsz, e.funs, e.frf, e.hok, e.bare⟩
  have hl := F.len _ _ _ _ h
  refine wpAny_call (codeAny_mono (F.run A X.stack s H ⟨us, []⟩ us vs Q E sb.room e0 (by
    have := hb s us I.kIn (by rw [r.length] at hl; simpa using hl)
    simpa using this) r h) fun r s' hq => ?_)
  cases r with
  | error e => exact hx pins σ H s e s' I hq
  | ok fl =>
    cases fl with
    | ret w =>
      obtain ⟨z, H', I', rz, q⟩ := I.after hq
      exact ⟨z, H', I', rz, q⟩
    | next => exact False.elim hq
    | brk => exact False.elim hq
    | cont => exact False.elim hq
/-- len(x) -/
def rLenO (C : Addr) (sp : Sp) (E : XK) : List V → Hp → VK → Prop := fun xs H Q => ∃ a dx fs, xs = [.ref a] ∧ H a = some (.ins C dx fs) ∧ sp [.ref a] H (fun v H' => ∃ k : Int, v = .int k ∧ 0 ≤ k ∧ k < 2 ^ 63 ∧ Q v H') E
theorem call_lenO (m : Meth X.K C "__len__" f) (F : FnOk X.prog X.w X.K X.mg X.base CX n f fd ps sp) (hb : Binds X.K fd ps []) (hx : Passes CX X E) (hr : Room (n + 1) X.A) : CallR X (.builtin "len") (rLenO C sp E) := by
  intro pins s σ H xs us Q I r h
  obtain ⟨a, dx, fs, rfl, ha, h⟩ := h
  obtain ⟨u, rfl, ru⟩ := r.one
  cases ru
  obtain ⟨mA, J, _⟩ := ins_get I.hok ha
  obtain ⟨od, J, _⟩ := J.look
  obtain ⟨m0, hF⟩ := I.fr
  refine PySem.W.len_K hF I.ok.mod.kin J m.at_ m.fn (wpAny_mono (own_call (Sub.in1 (⟨hr, rfl⟩ : Sub X (n + 1) X.A)) F hb hx I (.cons (ref1 a) .nil) h) (fun u s' hq => ?_) fun _ _ z => z)
  obtain ⟨v, H', I', rv, k, rfl, h0, h1, q⟩ := hq
  obtain ⟨t, rfl⟩ := rv
  exact ⟨⟨h0, h1⟩, .int k, H', I'.tok _, ⟨_, rfl⟩, q⟩
/-- x in o, x not in o -/
def rInO (C : Addr) (sp : Sp) (E : XK) (yes : Bool) : R2 := fun x y H Q => ∃ a dx fs, y = .ref a ∧ H a = some (.ins C dx fs) ∧ sp [.ref a, x] H (fun v H' => ∃ b, v = .bl b ∧ Q (.bl (if yes = true then b else !b)) H') E
theorem op_inO (m : Meth X.K C "__contains__" f) (F : FnOk X.prog X.w X.K X.mg X.base CX n f fd ps sp) (hb : Binds X.K fd ps []) (hx : Passes CX X E) (hr : Room n X.A) : OpR X (compareOp .In) (rInO C sp E true) := by
  intro pins s σ H x y v u Q I rx ry h
  obtain ⟨a, dx, fs, rfl, ha, h⟩ := h
  cases ry
  obtain ⟨mA, J, _⟩ := ins_get I.hok ha
  obtain ⟨od, J, _⟩ := J.look
  obtain ⟨m0, hF⟩ := I.fr
  refine PySem.W.in_K hF I.ok.mod.kin J m.at_ m.fn (wpAny_mono (own_call ⟨hr, rfl⟩ F hb hx I (.cons (ref1 a) (.cons rx .nil)) h) (fun u s' hq => ?_) fun _ _ z => z)
  obtain ⟨v, H', I', rv, b, rfl, q⟩ := hq
  cases rv
  exact wpAny_truthy_bool ⟨.bl b, H', I', rfl, q⟩
theorem op_notInO (m : Meth X.K C "__contains__" f) (F : FnOk X.prog X.w X.K X.mg X.base CX n f fd ps sp) (hb : Binds X.K fd ps []) (hx : Passes CX X E) (hr : Room n X.A) : OpR X (compareOp .NotIn) (rInO C sp E false) := by
  intro pins s σ H x y v u Q I rx ry h
  obtain ⟨a, dx, fs, rfl, ha, h⟩ := h
  cases ry
  obtain ⟨mA, J, _⟩ := ins_get I.hok ha
  obtain ⟨od, J, _⟩ := J.look
  obtain ⟨m0, hF⟩ := I.fr
  refine PySem.W.notIn_K hF I.ok.mod.kin J m.at_ m.fn (wpAny_mono (own_call ⟨hr, rfl⟩ F hb hx I (.cons (ref1 a) (.cons rx .nil)) h) (fun u s' hq => ?_) fun _ _ z => z)
  obtain ⟨v, H', I', rv, b, rfl, q⟩ := hq
  cases rv
  exact wpAny_truthy_bool ⟨.bl (!b), H', I', rfl, q⟩
/-- o[x] -/
def rSubO (C : Addr) (sp : Sp) (E : XK) : R2 := fun x y H Q => ∃ a dx fs, x = .ref a ∧ H a = some (.ins C dx fs) ∧ sp [.ref a, y] H Q E
def PlainIxO (b : Expr) : Prop := ∀ o i, subscripted b true o i = runValue (.builtin "lifetime.subscript" ⟨[o, i], []⟩)
theorem pe_subO {a b : Expr} {ta tb : TE} {pos : Pos} (m : Meth X.K C "__getitem__" f) (hf : PySem.W.fnIn X.K f = true) (F : FnOk X.prog X.w X.K X.mg X.base CX n f fd ps sp) (hb : Binds X.K fd ps []) (hx : Passes CX X E) (hr : Room (n + 1) X.A)
    (ha : PE X a ta) (hb' : PE X b tb) (hs : PlainIxO b) : PE X (.Subscript a b pos) (tOp (rSubO C sp E) ta tb) := by
  refine ⟨fun pins s σ H Q I h => ?_⟩
  refine Subscript_ (binT ha hb' I h fun v u s2 x y H2 I2 rx ry h => ?_)
  obtain ⟨a, dx, fs, rfl, ha, h⟩ := h
  cases rx
  obtain ⟨mA, J, _⟩ := ins_get I2.hok ha
  obtain ⟨od, J, _⟩ := J.look
  obtain ⟨m0, hF⟩ := I2.fr
  refine PySem.W.sub_K hF I2.ok.mod.kin J m.at_ hf m.fn (wpAny_mono (own_call (Sub.in1 (⟨hr, rfl⟩ : Sub X (n + 1) X.A)) F hb hx I2 (.cons (ref1 a) (.cons ry .nil)) h) (fun u s' hq => ?_) fun _ _ z => z) (hs _ _)
  obtain ⟨v, H', I', rv, q⟩ := hq
  exact ⟨v, H', I', rv, q⟩
theorem fnIn_of {K : PySem.W.Frag} {x qual : Str} {params : Arguments} {body : List Stmt} {scope : Scope} {dvs : List V} {kws : List (Str × V)} (F : FunD K x qual params body scope dvs kws f fd) : PySem.W.fnIn K f = true := by
  obtain ⟨oc, od, dV, kV, doc, pm, an, cdv, ct, osl, rfl, lk, _⟩ := F.ex
  unfold PySem.W.fnIn
  rw [lk] <;> rfl
/-- o == y: y an instance of the class or a dict -/
def tyO (K : PySem.W.Frag) (C : Addr) (H : Hp) (y : V) (tb : Value) : Prop := (∃ b dx fs, y = .ref b ∧ H b = some (.ins C dx fs) ∧ tb = .ref C) ∨ (∃ b kvs, y = .ref b ∧ H b = some (.dK kvs) ∧ tb = .type "dict" ∧ PySem.W.subIn K (.type "dict") (.ref C) = some false)
theorem tyO_looks {y : V} {u tb : Value} (I : Inv X pins σ H s) (ry : RelV y u) (h : tyO X.K C H y tb) : PySem.W.Looks (model X.prog X.w) s.heap (typeOf u) tb ∧ PySem.W.notFirst X.K C tb = true := by
  rcases h with ⟨b, dx, fs, rfl, hb, rfl⟩ | ⟨b, kvs, rfl, hb, rfl, hs⟩
  · cases ry
    obtain ⟨mB, J', _⟩ := ins_get I.hok hb
    obtain ⟨od', J', _⟩ := J'.look
    exact ⟨J'.type, by simp [PySem.W.notFirst]⟩
  · cases ry
    refine ⟨?_, by unfold PySem.W.notFirst; rw [hs]; rfl⟩
    obtain ⟨_, _, vs, _, o, es, ep, h1, h2, _⟩ := (show ObjOk X.prog X.w H s.heap b (.dK kvs) from I.hok b _ hb)
    exact fun A Q E s2 k q => wpAny_typeOf_ref (k _ _ h1) (by rw [h2.1]; exact q)
def rEqO (K : PySem.W.Frag) (C : Addr) (sp : Sp) (E : XK) : R2 := fun x y H Q => ∃ a dx fs tb, x = .ref a ∧ H a = some (.ins C dx fs) ∧ tyO K C H y tb ∧ sp [.ref a, y] H (fun v H' => ∃ b, v = .bl b ∧ Q (.bl b) H') E
theorem op_eqO (m : Meth X.K C "__eq__" f) (F : FnOk X.prog X.w X.K X.mg X.base CX n f fd ps sp) (hb : Binds X.K fd ps []) (hx : Passes CX X E) (hr : Room n X.A) : OpR X (compareOp .Eq) (rEqO X.K C sp E) := by
  intro pins s σ H x y v u Q I rx ry h
  obtain ⟨a, dx, fs, tb, rfl, ha, ty, h⟩ := h
  cases rx
  obtain ⟨mA, J, _⟩ := ins_get I.hok ha
  obtain ⟨od, J, _⟩ := J.look
  obtain ⟨m0, hF⟩ := I.fr
  obtain ⟨lb, nf⟩ := tyO_looks I ry ty
  show wpAny (model X.prog X.w) X.A (richCompare .Eq (.ref a) u) (EP X pins σ Q) X.xe s
  refine PySem.W.cmp_K (op := .Eq) hr.units0 hF I.ok.mod.kin J lb nf m.at_ m.fn (wpAny_mono (own_call ⟨hr, rfl⟩ F hb hx I (.cons (ref1 a) (.cons ry .nil)) h) (fun u s' hq => ?_) fun _ _ z => z)
  obtain ⟨v, H', I', rv, b, rfl, q⟩ := hq
  cases rv
  exact ⟨.bl b, H', I', rfl, q⟩
end
end Rt
end
section
set_option Elab.async false
set_option linter.all false
set_option maxRecDepth 100000
set_option maxHeartbeats 8000000
/-! what a book tells of a skill, or raises -/
namespace Rt
open PySem PySem.Spec PyProof.Rows L2
/-- the wants of a skill, of rows beside what they are -/
def wsel (z : Str) : List V → List Want → List V
  | x :: xs, w :: ws => if w.skill = z then x :: wsel z xs ws else wsel z xs ws
  | _, _ => []
theorem wsel_snoc (z : Str) (x : V) (w : Want) : ∀ (xs : List V) (ws : List Want), xs.length = ws.length → wsel z (xs ++ [x]) (ws ++ [w]) = wsel z xs ws ++ (if w.skill = z then [x] else [])
  | [], [], _ => by
    show (if w.skill = z then x :: wsel z [] [] else wsel z [] []) = wsel z [] [] ++ (if w.skill = z then [x] else [])
    by_cases e : w.skill = z
    · rw [if_pos e, if_pos e]; rfl
    · rw [if_neg e, if_neg e]; rfl
  | y :: xs, v :: ws, h => by
    have ih := wsel_snoc z x w xs ws (by simpa using h)
    show (if v.skill = z then y :: wsel z (xs ++ [x]) (ws ++ [w]) else wsel z (xs ++ [x]) (ws ++ [w])) = (if v.skill = z then y :: wsel z xs ws else wsel z xs ws) ++ _
    rw [ih]
    by_cases e : v.skill = z
    · rw [if_pos e, if_pos e]; rfl
    · rw [if_neg e, if_neg e]
  | [], _ :: _, h => by cases h
  | _ :: _, [], h => by cases h
theorem wsel_len (z : Str) : ∀ (xs : List V) (ws : List Want), (wsel z xs ws).length ≤ xs.length
  | [], _ => by unfold wsel; exact Nat.le_refl _
  | _ :: _, [] => by unfold wsel; exact Nat.zero_le _
  | x :: xs, w :: ws => by
    have ih := wsel_len z xs ws
    unfold wsel
    split
    · show (wsel z xs ws).length + 1 ≤ xs.length + 1
      omega
    · show (wsel z xs ws).length ≤ xs.length + 1
      omega
theorem wsel_one {z : Str} {xs : List V} {ws : List Want} {i : Nat} {x : V} {w : Want} (hx : xs[i]? = some x) (hw : ws[i]? = some w) (h : xs.length = ws.length) :
    wsel z (xs.take (i + 1)) (ws.take (i + 1)) = wsel z (xs.take i) (ws.take i) ++ (if w.skill = z then [x] else []) := by
  rw [take_one hx, take_one hw, wsel_snoc z x w _ _ (by rw [List.length_take, List.length_take, h])]
theorem wsel_rows {H : Hp} (z : Str) : ∀ {xs : List V} {ws : List Want}, Wws H xs ws → Wws H (wsel z xs ws) (ws.filter fun w => decide (w.skill = z))
  | _, _, .nil => .nil
  | _, _, @Paired.cons _ _ _ x w xs ws r t => by
    have ih := wsel_rows z t
    show Wws H (if w.skill = z then x :: wsel z xs ws else wsel z xs ws) _
    by_cases e : w.skill = z
    · rw [if_pos e, List.filter_cons_of_pos (p := fun v : Want => decide (v.skill = z)) (decide_eq_true e)]
      exact .cons r ih
    · rw [if_neg e, List.filter_cons_of_neg (p := fun v : Want => decide (v.skill = z)) (by rw [decide_eq_false e]; decide)]
      exact ih
theorem ww_skill (w : Want) (q : Addr) : atI ([.str w.kind, .str w.skill, .ref q] ++ wRest w) 1 = some (.str w.skill) := by
  unfold wRest
  cases w.many <;> rfl
def fPrice : Bk → BoA → Str → Hp → VK → Prop := fun B _ z H Q => Q (.int (lookS B.prices z 1)) H
def fGiven : Bk → BoA → Str → Hp → VK → Prop := fun B _ z H Q => Q (.int (lookS B.gives z 0)) H
def fTier : Bk → BoA → Str → Hp → VK → Prop := fun B _ z H Q => ∀ t, valV (B.sk.map kS) (.inr z) = some t → Q t H
def fWants : Bk → BoA → Str → Hp → VK → Prop := fun B a z H Q => B.wl.length ≤ 60 ∧ ∀ (l : Addr) H', H l = none → Same H H' → H' l = some (.lst (wsel z a.x4 B.wl)) → Q (.ref l) H'
def spNeedM (K : PySem.W.Frag) : Sp := fun vs H Q E => ∃ (x : Addr) (B : Bk) (a : BoA) (y : V) (T : String), vs = [.ref x, y] ∧ BookAt K H x B a ∧ Ts K H y T ∧ if isNum y 1 4 = true then ∀ t, y = .int t → Q (.int (lookI B.nd t 0)) H else Err K "NoNumber" "value" y H E
theorem isNum_int {y : V} {lo hi : Int} (h : isNum y lo hi = true) : ∃ t, y = .int t := by
  cases y with
  | int t => exact ⟨t, rfl⟩
  | _ => cases h
theorem val_some {l : List (Str × Int)} {z : Str} (h : z ∈ l.map (·.1)) : ∃ v, valV (l.map kS) (.inr z) = some v := by
  induction l with
  | nil => cases h
  | cons r l ih =>
    by_cases e : r.1 = z
    · exact ⟨.int r.2, by rw [List.map_cons, valV_pos (by show (Sum.inr r.1 : Key) = .inr z; rw [e])]⟩
    · rw [List.map_cons] at h
      rcases List.mem_cons.mp h with e2 | h
      · exact absurd e2.symm e
      · obtain ⟨v, hv⟩ := ih h
        exact ⟨v, by rw [List.map_cons, valV_neg (by intro q; exact e (Sum.inr.inj q))]; exact hv⟩
section
variable {P : Program} {w : World} {K : PySem.W.Frag} {mg : Str → Option Value} {base : Heap}
theorem calm_price_of (W : AllX K mg) : CalM P w K mg base (L2.CX P w) 5 "price_of" ["self", "skill"] (spAsk K fPrice) := by
  have Z := W.z
  obtain ⟨fd, F⟩ := Z.f_Book_price_of
  have C : CalM P w K mg base (L2.CX P w) 3 "_must_have" ["self", "skill"] (spAsk K fun _ _ _ H Q => Q .non H) := calm_must W
  refine ⟨⟨fd, F.bindsN (fun _ _ _ _ _ _ us hl => match us, hl with | [_, _], _ => rfl), okX F sc_Book_price_of (fun vs H Q E h => ?_) (fun cdv A outer s H vs Q E hr h => ?_)⟩, Z.m_price_of, Z.c_Book⟩
  · obtain ⟨x, B, a, y, T, rfl, _⟩ := h
    rfl
  · obtain ⟨x, B, a, y, T, rfl, b, t, k⟩ := h
    refine ⟨_, (pss_cons (ps_expr (pe_m1 C (hr.mono (by decide)) (pass_up (takes_of rfl rfl rfl rfl)) (pv 0) (pa_cons (pv 1) pa_nil)))
      (pss_one (ps_ret (pe_dget2 (hu_of hr) (pe_fld (pv 0) rfl) (pv 1) pe_int ⟨by rfl, by rfl, by rfl, by rfl⟩)))), ?_⟩
    refine ⟨_, rfl, x, a.dx, bFs a, rfl, b.at_, rfl, _, rfl, x, B, a, y, T, rfl, b, t, ?_⟩
    by_cases e : isOne B.ns y = true
    · rw [if_pos e] at k ⊢
      intro z ez
      refine ⟨_, rfl, x, _, a.dx, bFs a, .ref a.pb, rfl, b.at_, Z.c_Book, Z.n_price_by_skill, rfl, a.pb, rfl, .inl ⟨_, .inl b.price⟩, _, rfl, _, by rw [ez]; exact DGet.k (k := .inr z) b.price, ?_⟩
      rw [val_kS]
      exact k z ez
    · rw [if_neg e] at k ⊢
      exact k
theorem calm_given_by (W : AllX K mg) : CalM P w K mg base (L2.CX P w) 5 "given_by" ["self", "skill"] (spAsk K fGiven) := by
  have Z := W.z
  obtain ⟨fd, F⟩ := Z.f_Book_given_by
  have C : CalM P w K mg base (L2.CX P w) 3 "_must_have" ["self", "skill"] (spAsk K fun _ _ _ H Q => Q .non H) := calm_must W
  refine ⟨⟨fd, F.bindsN (fun _ _ _ _ _ _ us hl => match us, hl with | [_, _], _ => rfl), okX F sc_Book_given_by (fun vs H Q E h => ?_) (fun cdv A outer s H vs Q E hr h => ?_)⟩, Z.m_given_by, Z.c_Book⟩
  · obtain ⟨x, B, a, y, T, rfl, _⟩ := h
    rfl
  · obtain ⟨x, B, a, y, T, rfl, b, t, k⟩ := h
    refine ⟨_, (pss_cons (ps_expr (pe_m1 C (hr.mono (by decide)) (pass_up (takes_of rfl rfl rfl rfl)) (pv 0) (pa_cons (pv 1) pa_nil)))
      (pss_one (ps_ret (pe_dget2 (hu_of hr) (pe_fld (pv 0) rfl) (pv 1) pe_int ⟨by rfl, by rfl, by rfl, by rfl⟩)))), ?_⟩
    refine ⟨_, rfl, x, a.dx, bFs a, rfl, b.at_, rfl, _, rfl, x, B, a, y, T, rfl, b, t, ?_⟩
    by_cases e : isOne B.ns y = true
    · rw [if_pos e] at k ⊢
      intro z ez
      refine ⟨_, rfl, x, _, a.dx, bFs a, .ref a.gb, rfl, b.at_, Z.c_Book, Z.n_given_by_skill, rfl, a.gb, rfl, .inl ⟨_, .inl b.given⟩, _, rfl, _, by rw [ez]; exact DGet.k (k := .inr z) b.given, ?_⟩
      rw [val_kS]
      exact k z ez
    · rw [if_neg e] at k ⊢
      exact k
theorem calm_getitem (W : AllX K mg) : CalM P w K mg base (L2.CX P w) 5 "__getitem__" ["self", "at"] (spAsk K fTier) := by
  have Z := W.z
  obtain ⟨fd, F⟩ := Z.f_Book_getitem
  have C : CalM P w K mg base (L2.CX P w) 3 "_must_have" ["self", "skill"] (spAsk K fun _ _ _ H Q => Q .non H) := calm_must W
  refine ⟨⟨fd, F.bindsN (fun _ _ _ _ _ _ us hl => match us, hl with | [_, _], _ => rfl), okX F sc_Book_getitem (fun vs H Q E h => ?_) (fun cdv A outer s H vs Q E hr h => ?_)⟩, Z.m_getitem, Z.c_Book⟩
  · obtain ⟨x, B, a, y, T, rfl, _⟩ := h
    rfl
  · obtain ⟨x, B, a, y, T, rfl, b, t, k⟩ := h
    refine ⟨_, (pss_cons (ps_expr (pe_m1 C (hr.mono (by decide)) (pass_up (takes_of rfl rfl rfl rfl)) (pv 0) (pa_cons (pv 1) pa_nil)))
      (pss_one (ps_ret (pe_dget (hu_of hr) (pe_fld (pv 0) rfl) (pv 1) (fun _ _ => rfl))))), ?_⟩
    refine ⟨_, rfl, x, a.dx, bFs a, rfl, b.at_, rfl, _, rfl, x, B, a, y, T, rfl, b, t, ?_⟩
    by_cases e : isOne B.ns y = true
    · rw [if_pos e] at k ⊢
      intro z ez
      obtain ⟨z', ez', hz⟩ := isOne_str e
      cases ez.symm.trans ez'
      obtain ⟨v, hv⟩ : ∃ v, valV (B.sk.map kS) (.inr z) = some v := val_some hz
      refine ⟨_, rfl, x, _, a.dx, bFs a, .ref a.td, rfl, b.at_, Z.c_Book, Z.n_tiers, rfl, _, rfl, a.td, v, rfl, by rw [ez, ← hv]; exact DGet.k (k := .inr z) b.tiers, k z ez v hv⟩
    · rw [if_neg e] at k ⊢
      exact k
theorem calm_wants_of (W : AllX K mg) : CalM P w K mg base (L2.CX P w) 5 "wants_of" ["self", "skill"] (spAsk K fWants) := by
  have Z := W.z
  obtain ⟨fd, F⟩ := Z.f_Book_wants_of
  have C : CalM P w K mg base (L2.CX P w) 3 "_must_have" ["self", "skill"] (spAsk K fun _ _ _ H Q => Q .non H) := calm_must W
  refine ⟨⟨fd, F.bindsN (fun _ _ _ _ _ _ us hl => match us, hl with | [_, _], _ => rfl), okX F sc_Book_wants_of (fun vs H Q E h => ?_) (fun cdv A outer s H vs Q E hr h => ?_)⟩, Z.m_wants_of, Z.c_Book⟩
  · obtain ⟨x, B, a, y, T, rfl, _⟩ := h
    rfl
  · obtain ⟨x, B, a, y, T, rfl, b, t, k⟩ := h
    refine ⟨_, (pss_cons (ps_expr (pe_m1 C (hr.mono (by decide)) (pass_up (takes_of rfl rfl rfl rfl)) (pv 0) (pa_cons (pv 1) pa_nil)))
      (pss_one (ps_ret (pe_lc (own := [("want", 2)]) (by rfl) sc_Book_wants_of.nd (pi_seq (pe_dget (hu_of hr) (pe_fld (pv 0) rfl) pe_str (fun _ _ => rfl))) (blkOk_by (own := [("want", 2)]) (N := ["self", "skill", "want"]) (sc := defScope s_Book_wants_of) (by decide +kernel)) (fun _ _ _ _ _ => (pg_name (i := 2) sc_Book_wants_of.nd rfl (Or.inl rfl))) (fun _ _ _ _ _ => (pts_one (pt_cmpR op_eq (pe_ix (show IxR _ (rIxT K) from ix_tup) (pv 2) pe_int (fun _ _ => rfl)) (pv 1) (nomark _)))) (fun _ _ _ _ _ => (pv 2)))))), ?_⟩
    refine ⟨_, rfl, x, a.dx, bFs a, rfl, b.at_, rfl, _, rfl, x, B, a, y, T, rfl, b, t, ?_⟩
    by_cases e : isOne B.ns y = true
    · rw [if_pos e] at k ⊢
      intro z ez
      obtain ⟨l60, k⟩ := k z ez
      have xl := b.r4.len
      refine ⟨_, rfl, x, _, a.dx, bFs a, .ref a.dp, rfl, b.at_, Z.c_Book, Z.n_parts, rfl, a.dp, .ref a.t4, rfl, DGet.k (k := .inr "wants") b.parts, a.t4, rfl, lc_seq (.inr b.h4.sq) (fun i => wsel z (a.x4.take i) (B.wl.take i)) rfl (fun D nD i v Hy hi' p => ?_) fun l H4 nl s4 at4 => ?_⟩
      · obtain ⟨wt, hw, ⟨tp, tq, rfl, htp, htq⟩⟩ := b.r4.at_ hi'
        refine ⟨rfl, _, rfl, tp, _, 1, .str wt.skill, rfl, rfl, SqT.of (p.same _ _ htp), ww_skill wt tq, _, rfl, by rw [ez]; rfl, _, rfl, ?_⟩
        have st := wsel_one (z := z) hi' hw xl
        have ll := wsel_len z (a.x4.take i) (B.wl.take i)
        rw [List.length_take] at ll
        by_cases e2 : wt.skill = z
        · rw [if_pos e2] at st
          refine ifT (decide_eq_true (by rw [ez, e2])) ⟨_, rfl, p.put nD st (line_of (m := 60) (by omega) (by decide))⟩
        · rw [if_neg e2, List.append_nil] at st
          refine ifF (decide_eq_false (by rw [ez]; intro q; injection q with q; exact e2 q)) (p.skip st)
      · refine k l H4 nl s4 ?_
        rw [at4, List.take_length, xl, List.take_length]
    · rw [if_neg e] at k ⊢
      exact k
theorem calm_need_of (W : AllX K mg) : CalM P w K mg base (L2.CX P w) 4 "need_of" ["self", "tier"] (spNeedM K) := by
  have Z := W.z
  obtain ⟨fd, F⟩ := Z.f_Book_need_of
  have C_is_number_in : Cal P w K mg base CX0 2 "is_number_in" ["value", "low", "high"] (spNum K) := cal_is_number_in Z
  obtain ⟨fe, be, Fe⟩ := ok_nonumber (P := P) (w := w) (base := base) W
  obtain ⟨T1, T2, T3⟩ := W.x.err (x := "NoNumber") (by simp)
  refine ⟨⟨fd, F.bindsN (fun _ _ _ _ _ _ us hl => match us, hl with | [_, _], _ => rfl), okX F sc_Book_need_of (fun vs H Q E h => ?_) (fun cdv A outer s H vs Q E hr h => ?_)⟩, Z.m_need_of, Z.c_Book⟩
  · obtain ⟨x, B, a, y, T, rfl, _⟩ := h
    rfl
  · obtain ⟨x, B, a, y, T, rfl, b, t, k⟩ := h
    refine ⟨_, (pss_cons (ps_if (pt_not (pt_val (pe_cal C_is_number_in (hr.mono (by decide)) (by rfl) pass0 (pa_cons (pv 1) (pa_cons pe_int (pa_cons (pe_gint (by rfl) Z.LAST_TIER) pa_nil)))))) (pss_one (ps_raise rfl (takes_of rfl rfl rfl rfl) (pmk_oex T1 T2 T3 Fe (hr.mono (by decide)) be .nil pass0 (by rfl) Z.g_NoNumber (pa_cons (pv 1) pa_nil)))) pss_nil)
      (pss_one (ps_ret (pe_dget2 (hu_of hr) (pe_fld (pv 0) rfl) (pv 1) pe_int ⟨by rfl, by rfl, by rfl, by rfl⟩)))), ?_⟩
    refine ⟨_, rfl, y, 1, 4, T, rfl, t, _, rfl, ?_⟩
    cases e : isNum y 1 4 with
    | true =>
      rw [if_pos e] at k
      obtain ⟨i, rfl⟩ := isNum_int e
      refine ifF rfl ?_
      refine ⟨_, rfl, x, _, a.dx, bFs a, .ref a.nb, rfl, b.at_, Z.c_Book, Z.n_need_by_tier, rfl, a.nb, rfl, .inl ⟨_, .inl b.needs⟩, _, rfl, _, DGet.k (k := .inl i) b.needs, ?_⟩
      rw [val_kI]
      exact k i rfl
    | false =>
      rw [if_neg (by rw [e]; decide)] at k
      exact ifT rfl ⟨_, rfl, (by show 1 ≤ 1000; decide), fun ax na => err_made k ax na⟩
end
end Rt
end
section
set_option Elab.async false
set_option linter.all false
set_option maxRecDepth 100000
set_option maxHeartbeats 4000000
/-! a book's parts as data; == of two dicts of data; Book.__eq__ -/
namespace Rt
open PySem PySem.Spec PyProof.Rows L2
/-! ### data that can be laid, of some depth -/
def Lay (n : Nat) (d : PyData) : Prop := d.canLay0 = true ∧ d.depth ≤ n
def LayA (n : Nat) (ds : List PyData) : Prop := PyData.canLayAll0 ds = true ∧ PyData.depthAll ds ≤ n
theorem Lay.mono {n m : Nat} {d : PyData} (h : Lay n d) (k : n ≤ m) : Lay m d := ⟨h.1, Nat.le_trans h.2 k⟩
theorem LayA.nil {n : Nat} : LayA n [] := ⟨by simp [PyData.canLayAll0], by simp [PyData.depthAll]⟩
theorem LayA.cons {n : Nat} {d : PyData} {ds : List PyData} (h : Lay n d) (k : LayA n ds) : LayA n (d :: ds) := by
  refine ⟨by simp [PyData.canLayAll0, h.1, k.1], ?_⟩
  have h2 := h.2
  have k2 := k.2
  simp only [PyData.depthAll]
  omega
theorem LayA.of {n : Nat} : ∀ {ds : List PyData}, (∀ d ∈ ds, Lay n d) → LayA n ds
  | [], _ => .nil
  | d :: ds, h => .cons (h d List.mem_cons_self) (LayA.of fun e he => h e (List.mem_cons_of_mem _ he))
theorem Lay.tup {n : Nat} {ds : List PyData} (h : LayA n ds) : Lay (n + 1) (.tuple ds) := by
  refine ⟨by simp only [PyData.canLay0]; exact h.1, ?_⟩
  have h2 := h.2
  simp only [PyData.depth]
  omega
theorem Lay.lst {n : Nat} {ds : List PyData} (h : LayA n ds) : Lay (n + 1) (.list ds) := by
  refine ⟨by simp only [PyData.canLay0]; exact h.1, ?_⟩
  have h2 := h.2
  simp only [PyData.depth]
  omega
theorem Lay.str {n : Nat} {z : Str} (h : PyData.strOk z = true) : Lay n (.str z) := ⟨by simp [PyData.canLay0, h], by simp [PyData.depth]⟩
theorem Lay.int {n : Nat} {i : Int} : Lay n (.int i) := ⟨by simp [PyData.canLay0], by simp [PyData.depth]⟩
theorem Lay.non {n : Nat} : Lay n .none := ⟨by simp [PyData.canLay0], by simp [PyData.depth]⟩
theorem Lay.bl {n : Nat} {b : Bool} : Lay n (.bool b) := ⟨by simp [PyData.canLay0], by simp [PyData.depth]⟩
theorem Lay.shaped {n : Nat} {d : PyData} (h : Lay n d) (k : n ≤ 64) : SeqAt.shaped d = true := by
  show (d.canLay0 && decide (d.depth ≤ 64)) = true
  rw [Bool.and_eq_true]
  exact ⟨h.1, decide_eq_true (Nat.le_trans h.2 k)⟩
/-! ### the parts -/
def dS (r : Str × Int) : PyData := .tuple [.str r.1, .int r.2]
def dI2 (r : Int × Int) : PyData := .tuple [.int r.1, .int r.2]
def dWt (w : Want) : PyData := .tuple ([.str w.kind, .str w.skill, .tuple (w.names.map PyData.str)] ++ (match w.many with
  | none => []
  | some m => [.int m]))
def dR : Option Int → PyData
  | none => .none
  | some i => .int i
theorem dp_R {K : PySem.W.Frag} {H : Hp} (r : Option Int) : Dp K H (oV r) (dR r) := by
  cases r with
  | none => exact .non
  | some i => exact .int i
theorem dp_strA {K : PySem.W.Frag} {H : Hp} : ∀ zs : List Str, DpAll K H (zs.map V.str) (zs.map PyData.str)
  | [] => .nil
  | z :: zs => .cons (.str z) (dp_strA zs)
theorem dp_S {K : PySem.W.Frag} {H : Hp} : ∀ {xs : List V} {l : List (Str × Int)}, Rws H xs (l.map rS) → DpAll K H xs (l.map dS)
  | _, [], h => by
    cases h
    exact .nil
  | _, r :: l, h => by
    cases h with
    | cons q t =>
      obtain ⟨p, rfl, hp⟩ := q
      exact .cons (.tup (SqT.of hp) (.cons (.str _) (.cons (.int _) .nil))) (dp_S t)
theorem dp_I {K : PySem.W.Frag} {H : Hp} : ∀ {xs : List V} {l : List (Int × Int)}, Rws H xs (l.map rI2) → DpAll K H xs (l.map dI2)
  | _, [], h => by
    cases h
    exact .nil
  | _, r :: l, h => by
    cases h with
    | cons q t =>
      obtain ⟨p, rfl, hp⟩ := q
      exact .cons (.tup (SqT.of hp) (.cons (.int _) (.cons (.int _) .nil))) (dp_I t)
theorem dp_W {K : PySem.W.Frag} {H : Hp} : ∀ {xs : List V} {l : List Want}, Wws H xs l → DpAll K H xs (l.map dWt)
  | _, _, .nil => .nil
  | _, _, @Paired.cons _ _ _ x w xs l r t => by
    obtain ⟨p, q, rfl, hp, hq⟩ := r
    obtain ⟨kd, skl, names, many⟩ := w
    refine .cons (.tup (SqT.of hp) ?_) (dp_W t)
    refine .cons (.str _) (.cons (.str _) (.cons (.tup (SqT.of hq) (dp_strA _)) ?_))
    cases many with
    | none => exact .nil
    | some m => exact .cons (.int m) .nil
/-- the names, and the words of wants, can be laid -/
structure BkL (B : Bk) : Prop where
  ns : Oks B.ns
  r : BkR B
theorem kinds_ok : ((["all", "any", "any", "count"] : List Str).all PyData.strOk) = true := by decide +kernel
theorem lay_S {ns : List Str} (ok : Oks ns) {l : List (Str × Int)} (h : ∀ r ∈ l, r.1 ∈ ns) : LayA 2 (l.map dS) := LayA.of fun d hd => by
  obtain ⟨r, hr, rfl⟩ := List.mem_map.mp hd
  exact .tup (.cons (Lay.str (ok _ (h r hr))) (.cons Lay.int .nil) : LayA 1 _)
theorem lay_I {l : List (Int × Int)} : LayA 2 (l.map dI2) := LayA.of fun d hd => by
  obtain ⟨r, hr, rfl⟩ := List.mem_map.mp hd
  exact .tup (.cons Lay.int (.cons Lay.int .nil) : LayA 1 _)
theorem lay_strA {n : Nat} {zs : List Str} (h : Oks zs) : LayA n (zs.map PyData.str) := LayA.of fun d hd => by
  obtain ⟨z, hz, rfl⟩ := List.mem_map.mp hd
  exact Lay.str (h z hz)
theorem lay_W {ns : List Str} (ok : Oks ns) {l : List Want} (h : ∀ w ∈ l, WantR ns w) : LayA 3 (l.map dWt) := LayA.of fun d hd => by
  obtain ⟨w, hw, rfl⟩ := List.mem_map.mp hd
  have r := h w hw
  have k : PyData.strOk w.kind = true := List.all_eq_true.mp kinds_ok _ r.kind
  have t : LayA 2 (match w.many with
    | none => []
    | some m => [PyData.int m]) := by
    cases w.many with
    | none => exact .nil
    | some m => exact .cons Lay.int .nil
  exact .tup (.cons (Lay.str k) (.cons (Lay.str (ok _ r.skill)) (.cons (.tup (lay_strA fun z hz => ok z (r.all z hz) : LayA 1 _)) t)) : LayA 2 _)
theorem lay_B {ns : List Str} (ok : Oks ns) {l : List (Str × Str)} (h : ∀ b ∈ l, b.1 ∈ ns ∧ b.2 ∈ ns) : LayA 2 (l.map tB) := LayA.of fun d hd => by
  obtain ⟨r, hr, rfl⟩ := List.mem_map.mp hd
  exact .tup (.cons (Lay.str (ok _ (h r hr).1)) (.cons (Lay.str (ok _ (h r hr).2)) .nil) : LayA 1 _)
theorem lay_R {n : Nat} (r : Option Int) : Lay n (dR r) := by
  cases r with
  | none => exact .non
  | some i => exact .int
section
variable {B : Bk}
theorem BkL.sk (h : BkL B) : LayA 2 (B.sk.map dS) := lay_S h.ns fun r hr => List.mem_map_of_mem hr
theorem BkL.wl (h : BkL B) : LayA 3 (B.wl.map dWt) := lay_W h.ns h.r.w
theorem BkL.bars (h : BkL B) : LayA 2 (B.bars.map tB) := lay_B h.ns fun b hb => ⟨(h.r.bars.in_ b hb).1, (h.r.bars.in_ b hb).2.1⟩
theorem BkL.gives (h : BkL B) : LayA 2 (B.gives.map dS) := lay_S h.ns fun r hr => (h.r.gives.in_ r hr).1
theorem BkL.prices (h : BkL B) : LayA 2 (B.prices.map dS) := lay_S h.ns fun r hr => (h.r.prices.in_ r hr).1
end
theorem BkOk.l {sort : Int} {B : Bk} (h : BkOk sort B) : BkL B := ⟨h.sk.oks, h.r⟩
/-! ### == of two dicts of like data -/
def rEqDD (K : PySem.W.Frag) : R2 := fun x y H Q => ∃ a b ks ls, x = .ref a ∧ y = .ref b ∧ H a = some (.dK ks) ∧ H b = some (.dK ls) ∧ ks.length = ls.length ∧
  (∀ p ∈ ks, ∃ u, valV ls p.1 = some u ∧ ∃ d, Dp K H p.2 d ∧ Dp K H u d ∧ Lay 60 d) ∧ Q (.bl true) H
theorem op_eqDD {X : Cx} (room : X.A.units + 70 < cLine) : OpR X (compareOp .Eq) (rEqDD X.K) := by
  intro pins s σ H x y v u Q I rx ry ⟨a, b, ks, ls, ex, ey, ha, hb, len, vals, q⟩
  subst ex ey
  cases rx
  cases ry
  have like : ∀ (x y : V) (v u : Value), (∃ d, Dp X.K H x d ∧ Dp X.K H y d ∧ Lay 60 d) → RelV x v → RelV y u → SeqAt.EqP X.prog X.w X.A.in1 s v u true := by
    rintro x y v u ⟨d, d1, d2, lay⟩ r1 r2
    obtain ⟨_, t1⟩ := d1.reads I d x v r1
    obtain ⟨_, t2⟩ := d2.reads I d y u r2
    have e := SeqAt.eqAt_reads d d X.A.in1 s v u _ _ t1 t2 lay.1 lay.1 (by
      have l2 := lay.2
      have l3 : X.A.in1.units = X.A.units + 1 := rfl
      rw [Nat.min_self, l3]
      omega)
    rw [SeqAt.eqv_refl d lay.1] at e
    exact e.eqP
  obtain ⟨_, n1, va, r1, c1⟩ := (show ObjOk X.prog X.w H s.heap a (.dK ks) from I.hok a _ ha)
  obtain ⟨_, n2, vb, r2, c2⟩ := (show ObjOk X.prog X.w H s.heap b (.dK ls) from I.hok b _ hb)
  have same : (va.length == vb.length && true) = true := by rw [← r1.length, ← r2.length, len]; simp
  show wpAny (model X.prog X.w) X.A (richCompare .Eq (.ref a) (.ref b)) (EP X pins σ Q) X.xe s
  refine PySem.W.rcP_dicts (r := true) (knd := mixKind X.prog X.w) n1 n2 c1 c2 (by omega) (fun _ => hits_run like r2 r1 vals) _ _ ?_
  rw [same]
  exact ⟨.bl true, H, I, rfl, q⟩
end Rt
end
section
set_option Elab.async false
set_option linter.all false
set_option maxRecDepth 100000
set_option maxHeartbeats 8000000
/-! Book.__eq__; != by an own == -/
namespace Rt
open PySem PySem.Spec PyProof.Rows L2
theorem room70 {k : Nat} {A : Around} (r : Room k A) : A.units + 70 < cLine := by have := r.un; omega
def spEqM (K : PySem.W.Frag) : Sp := fun vs H Q _ => ∃ (x : Addr) (B : Bk) (a : BoA) (y : V), vs = [.ref x, y] ∧ BookAt K H x B a ∧
  ((∃ (x2 : Addr) (a2 : BoA), y = .ref x2 ∧ BookAt K H x2 B a2 ∧ BkL B ∧ Q (.bl true) H) ∨ ∃ (b : Addr) (kvs : List (Key × V)), y = .ref b ∧ H b = some (.dK kvs) ∧ Q (.bl false) H)
theorem parts_like {K : PySem.W.Frag} {H : Hp} {x x2 : Addr} {B : Bk} {a a2 : BoA} (b : BookAt K H x B a) (c : BookAt K H x2 B a2) (l : BkL B) :
    ∀ p ∈ bkL a.t1 B.points a.t3 a.t4 a.t5 a.t6 a.t7 (oV B.reset), ∃ u, valV (bkL a2.t1 B.points a2.t3 a2.t4 a2.t5 a2.t6 a2.t7 (oV B.reset)) p.1 = some u ∧ ∃ d, Dp K H p.2 d ∧ Dp K H u d ∧ Lay 60 d := by
  intro p hp
  simp only [bkL, List.mem_cons, List.not_mem_nil, or_false] at hp
  rcases hp with rfl | rfl | rfl | rfl | rfl | rfl | rfl | rfl
  · exact ⟨_, rfl, _, .tup b.h1.sq (dp_S b.r1), .tup c.h1.sq (dp_S c.r1), (Lay.tup l.sk).mono (by decide)⟩
  · exact ⟨_, rfl, _, .int _, .int _, Lay.int⟩
  · exact ⟨_, rfl, _, .tup b.h3.sq (dp_I b.r3), .tup c.h3.sq (dp_I c.r3), (Lay.tup lay_I).mono (by decide)⟩
  · exact ⟨_, rfl, _, .tup b.h4.sq (dp_W b.r4), .tup c.h4.sq (dp_W c.r4), (Lay.tup l.wl).mono (by decide)⟩
  · exact ⟨_, rfl, _, .tup b.h5.sq (dp_bars b.r5), .tup c.h5.sq (dp_bars c.r5), (Lay.tup l.bars).mono (by decide)⟩
  · exact ⟨_, rfl, _, .tup b.h6.sq (dp_S b.r6), .tup c.h6.sq (dp_S c.r6), (Lay.tup l.gives).mono (by decide)⟩
  · exact ⟨_, rfl, _, .tup b.h7.sq (dp_S b.r7), .tup c.h7.sq (dp_S c.r7), (Lay.tup l.prices).mono (by decide)⟩
  · exact ⟨_, rfl, _, dp_R B.reset, dp_R B.reset, lay_R B.reset⟩
section
variable {P : Program} {w : World} {K : PySem.W.Frag} {mg : Str → Option Value} {base : Heap}
theorem calm_eq (W : AllX K mg) : CalM P w K mg base CX0 1 "__eq__" ["self", "other"] (spEqM K) := by
  have Z := W.z
  have T := W.x.book
  obtain ⟨fd, F⟩ := Z.f_Book_eq
  refine .of ⟨fd, F, ok0 F sc_Book_eq (fun vs H Q E h => ?_) (fun cdv A outer s H vs Q E hr h => ?_)⟩ Z.m_eq Z.c_Book (fun _ _ _ _ _ _ us hl => match us, hl with | [_, _], _ => rfl)
  · obtain ⟨x, B, a, y, rfl, _⟩ := h
    rfl
  · obtain ⟨x, B, a, y, rfl, b, k⟩ := h
    refine ⟨_, (pss_one (ps_ret (pe_and (pe_callB call_isi (by rfl) Z.b_isinstance boot_isinstance (pa_cons (pv 1) (pa_cons (pe_glob (by rfl) Z.g_Book (ref1 (BC K))) pa_nil))) (pe_one (pe_cmpR (op_eqDD (room70 hr)) (pe_fld (pv 0) rfl) (pe_fld (pv 1) rfl) (nomark _)))))), ?_⟩
    rcases k with ⟨x2, a2, rfl, c, l, k⟩ | ⟨d, kvs, rfl, hd, k⟩
    · refine ⟨_, rfl, .ref x2, .ref (BC K), _, _, true, rfl, .own _, .base (.ins c.at_ Z.c_Book T.gc T.gg T.gt T.gm), T.kb, _, rfl, ifT rfl ?_⟩
      exact ⟨_, rfl, x, _, a.dx, bFs a, .ref a.dp, rfl, b.at_, Z.c_Book, Z.n_parts, rfl, _, rfl, x2, _, a2.dx, bFs a2, .ref a2.dp, rfl, c.at_, Z.c_Book, Z.n_parts, rfl, a.dp, a2.dp, _, _, rfl, rfl, b.parts, c.parts, rfl, parts_like b c l, k⟩
    · exact ⟨_, rfl, .ref d, .ref (BC K), _, _, false, rfl, .own _, .base (.dK hd), T.kd, _, rfl, ifF rfl k⟩
end
/-! ### != of an instance whose class has its own == alone -/
theorem on_slot : Slot "object" "__ne__" "object.__ne__" := Slot.of (T := "object") (name := "__ne__") (owner := "object") (n := "__ne__") (by rw [typeLookup_type, builtinLookup_eq_fast]; kernel_rfl) (by decide +kernel) (by decide +kernel) (by decide +kernel) (.inl (by decide +kernel)) (by rw [isSubtype_type]; kernel_rfl)
section
open PySem.W
variable {prog : Program} {w : World} {A : Around} {E : Value → Shared → Prop} {s : Shared} {K : Frag} {x C L f : Addr} {h₀ : Heap} {m : Str → Option Value} {ox : Obj} {od : Option Obj} {b tb : Value} {Q : Value → Shared → Prop}
theorem ne_own (room : A.units + 1 < cLine) (F : Fr h₀ L s.heap m) (X₀ : K.In h₀) (I : InstAt s.heap x ox C od) (ob : Looks (model prog w) s.heap (typeOf b) tb) (nf : notFirst K C tb = true) (ne : findIn K (.ref C) "__ne__" = some (some (.builtin "object.__ne__")))
    (isO : mroIn K C (.type "object") = some true) (eq : findIn K (.ref C) "__eq__" = some (some (.ref f))) (fn : isFn K (.ref f) = true)
    (h : wpAny (model prog w) A.in1 (call (.ref f) [.ref x, b]) (fun v s' => ∃ r, v = .bool r ∧ Q (.bool (!r)) s') E s) : wpAny (model prog w) A (richCompare .NotEq (.ref x) b) Q E s := by
  have KX := X₀.keeps F.keep
  -- the built-in's own text
  have body : ∀ {R : Fin → Shared → Prop}, (∀ r s', Q (.bool (!r)) s' → R (.done (.ret (.bool (!r)))) s') → wpAny (model prog w) A.in1 (Builtin.«object.__ne__» ⟨[.ref x, b], []⟩) R E s := fun {R} up => by
    unfold Builtin.«object.__ne__»
    repeat (first
      | with_reducible refine wpAny_cRoomFor (show A.in1.units < cLine from room) ?_
      | (refine wpAny_bind (m := callSpecialIfBound? (.ref x) (Str.ofString "__eq__") [b]) (ifBound_K KX I eq fn (wpAny_mono h (fun v s' hv => ?_) fun _ _ z => z))
         obtain ⟨r, rfl, q⟩ := hv)
      | wp_step)
    all_goals first
      | exact up _ _ q
      | exact wpAny_truthy_bool (by wp_step; exact up _ _ q)
      | skip
  have run : wpAny (model prog w) A (call (.builtin "object.__ne__") ([.ref x] ++ [b])) (fun v s' => ∃ r, v = .bool r ∧ Q (.bool r) s') E s :=
    wpAny_call (codeAny_call_builtin on_slot.plain PySem.F.cmpEntry_ne (check_slot PySem.F.cmpKind_ne PySem.F.cmpSplit_ne (I.type.andThen (looks_mroIn KX isO)) (PySem.F.cmpArgs_ne _ _) (body fun r s' q => ⟨!r, rfl, q⟩)))
  have asked : wpAny (model prog w) A (tryCompare (.ref x) (cmpInfo .NotEq).2.1 b) (fun r s' => ∃ v, r = some v ∧ Q v s') E s := by
    unfold tryCompare
    refine wpAny_bind ?_
    simp only [callSpecialIfBound?, bindSpecialIfBound?]
    refine wpAny_holding (wpAny_bind (wpAny_bind (wpAny_bind (I.type.here ((looks_findIn KX ne).here ?_)))))
    simp only [on_slot.bind]
    refine wpAny_bind (wpAny_askSetting (wpAny_ite ?_))
    have tail : ∀ {R : Option Value → Shared → Prop}, (∀ r s', Q (.bool r) s' → R (some (.bool r)) s') → wpAny (model prog w) A (call (.builtin "object.__ne__") ([.ref x] ++ [b]) >>= fun v => pure (some v)) R E s := fun {R} up =>
      wpAny_bind (wpAny_mono run (fun v s' hv => by
        obtain ⟨r, rfl, q⟩ := hv
        exact wpAny_pure (up r s' q)) fun _ _ z => z)
    split
    · exact wpAny_bind (wpAny_pure (wpAny_pure (tail fun r s' q => wpAny_pure ⟨_, rfl, q⟩)))
    · exact wpAny_tryCatch (wpAny_bind (wpAny_pure (wpAny_pure (tail fun r s' q => wpAny_pure ⟨_, rfl, q⟩))))
  unfold richCompare
  simp only [oneThing_ref]
  refine wpAny_holding (wpAny_bind (wpAny_cRoomFor (by omega) (wpAny_bind (I.type.here (wpAny_bind (ob.here ?_))))))
  have fin : ∀ {m : Option Value → Sem Value}, (∀ v, m (some v) = pure v) → wpAny (model prog w) A (tryCompare (.ref x) (cmpInfo .NotEq).2.1 b >>= m) Q E s := fun {m} hm =>
    wpAny_bind (wpAny_mono asked (fun r s' hr => by
      obtain ⟨v, rfl, q⟩ := hr
      rw [hm]
      exact wpAny_pure q) fun _ _ z => z)
  split
  · rename_i other
    have no : subIn K tb (.ref C) = some false := by
      unfold notFirst at nf
      rw [Bool.or_eq_true] at nf
      rcases nf with z | z
      · rw [beq_iff_eq.mp z] at other
        simp at other
      · exact beq_iff_eq.mp z
    refine wpAny_bind ((looks_subIn KX no).here ?_)
    simp only [Bool.false_eq_true, if_false]
    exact fin fun v => rfl
  · refine wpAny_bind (wpAny_pure ?_)
    simp only [Bool.false_eq_true, if_false]
    exact fin fun v => rfl
end
section
variable {X : Cx} {CX : CXT} {n : Nat} {C f : Addr} {fd : FuncData} {ps : List Str} {sp : Sp} {E : XK}
/-- o != y -/
def rNeO (K : PySem.W.Frag) (C : Addr) (sp : Sp) (E : XK) : R2 := fun x y H Q => ∃ a dx fs tb, x = .ref a ∧ H a = some (.ins C dx fs) ∧ tyO K C H y tb ∧ sp [.ref a, y] H (fun v H' => ∃ b, v = .bl b ∧ Q (.bl (!b)) H') E
theorem op_neO (m : Meth X.K C "__eq__" f) (ne : PySem.W.findIn X.K (.ref C) "__ne__" = some (some (.builtin "object.__ne__"))) (isO : PySem.W.mroIn X.K C (.type "object") = some true) (F : FnOk X.prog X.w X.K X.mg X.base CX n f fd ps sp) (hb : Binds X.K fd ps []) (hx : Passes CX X E) (hr : Room (n + 1) X.A) :
    OpR X (compareOp .NotEq) (rNeO X.K C sp E) := by
  intro pins s σ H x y v u Q I rx ry ⟨a, dx, fs, tb, ex, ha, ty, h⟩
  subst ex
  cases rx
  obtain ⟨_, J, _⟩ := ins_get I.hok ha
  obtain ⟨_, J2, _⟩ := J.look
  obtain ⟨_, hF⟩ := I.fr
  obtain ⟨lb, nf⟩ := tyO_looks I ry ty
  have u1 := hr.un
  show wpAny (model X.prog X.w) X.A (richCompare .NotEq (.ref a) u) (EP X pins σ Q) X.xe s
  refine ne_own (by omega) hF I.ok.mod.kin J2 lb nf ne isO m.at_ m.fn (wpAny_mono (own_call (Sub.in1 (⟨hr, rfl⟩ : Sub X (n + 1) X.A)) F hb hx I (.cons (ref1 a) (.cons ry .nil)) h) (fun u s' hq => ?_) fun _ _ z => z)
  obtain ⟨v, H', I', rv, b, rfl, q⟩ := hq
  cases rv
  exact ⟨b, rfl, .bl (!b), H', I', rfl, q⟩
end
end Rt
end
section
set_option Elab.async false
set_option linter.all false
set_option maxRecDepth 100000
set_option maxHeartbeats 4000000
/-! list(o), where o's own __iter__ hands out an iterator of a tuple -/
namespace Rt
open PySem PySem.Spec PyProof.Rows L2
/-- the iterator of the tuple at t, i items given -/
def tiO (it t : Addr) (i : Nat) : HO := .ext fun h => h.IsTupleIter it t i
/-- some object -/
def anyO (b : Addr) : HO := .ext fun h => ∃ o, h.get? b = some o
theorem tiO_ok {P : Program} {w : World} {H : Hp} {h : Heap} {it t : Addr} {i : Nat} (e : h.IsTupleIter it t i) : ObjOk P w H h it (tiO it t i) :=
  ⟨e, let ⟨o, ho, _⟩ := e; ⟨o, ho⟩, fun _ _ ⟨o, ho, r⟩ k => ⟨o, k _ ho, r⟩⟩
theorem anyO_ok {P : Program} {w : World} {H : Hp} {h : Heap} {b : Addr} (e : ∃ o, h.get? b = some o) : ObjOk P w H h b (anyO b) :=
  ⟨e, e, fun _ _ ⟨o, ho⟩ k => ⟨o, k _ ho⟩⟩
theorem tiO_at {P : Program} {w : World} {H : Hp} {h : Heap} {it t : Addr} {i : Nat} (hok : HOk P w H h) (e : H it = some (tiO it t i)) : h.IsTupleIter it t i := by
  have z : ObjOk P w H h it (.ext fun h => h.IsTupleIter it t i) := hok it _ e
  exact z.1
theorem tiO_lst {it t : Addr} {i : Nat} {xs : List V} : tiO it t i ≠ .lst xs := fun z => by
  have y : HO.ext _ = HO.lst xs := z
  cases y
theorem tiO_tup {it t : Addr} {i : Nat} {xs : List V} : tiO it t i ≠ .tup xs := fun z => by
  have y : HO.ext _ = HO.tup xs := z
  cases y
section
variable {X : Cx}
/-- iter(t) -/
def rIterT : List V → Hp → VK → Prop := fun xs H Q => ∃ t ys, xs = [.ref t] ∧ H t = some (.tup ys) ∧ ∀ it, H it = none → Q (.ref it) (upd H it (tiO it t 0))
theorem call_iterT : CallR X (.builtin "iter") rIterT := by
  intro pins s σ H xs us Q I r ⟨t, ys, ex, ht, q⟩
  subst ex
  obtain ⟨u, rfl, ru⟩ := r.one
  cases ru
  obtain ⟨its, _, pt, _⟩ := I.tuple (SqT.of (K := X.K) ht)
  refine Calls.call_function_entry (by decide +kernel) (by decide +kernel) PySem.W.kdk_entry_iter (PySem.W.kdk_args_iter _) ?_
  unfold Builtin.«iter»
  refine wpAny_bind (m := someArgs "iter" 1 2 _) (wpAny_of_eq (a := [Value.ref t]) (by first | rfl | kernel_rfl!) ?_)
  show wpAny _ _ (pyIter (.ref t) >>= _) _ _ _
  have pt2 : s.heap.IsTuple t its.toArray := pt
  refine wpAny_bind (wpAny_pyIter_tuple pt2 (wpAny_pure ⟨_, rfl, ?_⟩))
  have is : (s.heap.push { cls := .type "tuple_iterator", data := .fields #[.ref t, .int 0 0] }).IsTupleIter s.heap.objs.size t 0 := ⟨_, Heap.get?_push_size _ rfl, rfl, rfl⟩
  exact ⟨.ref s.heap.objs.size, _, I.laid (t' := s.toks) (fun b o e => Heap.get?_push_of_some _ e) (Nat.le_refl _) (tiO_ok is), rfl, q _ (I.hok.fresh (Nat.le_refl _))⟩
end
section
variable {X : Cx} {n : Nat} {C f fL : Addr} {fd fdL : FuncData} {ps psL : List Str} {sp spL : Sp} {A : Around} {pins : List (Addr × Obj)} {s : Shared} {σ : L2.St} {H : Hp} {E : Value → Shared → Prop}
/-- the end of a tuple's iterator; its object stays -/
theorem tup_end {it t : Addr} {i : Nat} {items : Array Value} {Q : Option Value → Shared → Prop} {prog : Program} {w : World} (hh : A.handled = none) (hit : s.heap.IsTupleIter it t i) (ht : s.heap.IsTuple t items) (hx : items[i]? = none)
    (hQ : ∀ h', Heap.ExtBut it s.heap h' → (∃ o, h'.get? it = some o) → Q none { s with heap := h' }) : wpAny (model prog w) A (pyNext (.ref it)) Q E s := by
  obtain ⟨o, e1, e2, e3⟩ := id hit
  obtain ⟨o2, e4, _, k, e5⟩ := ht
  unfold pyNext
  refine wpAny_bind (wpAny_attempt (wpAny_callSpecial?_slot (name := Str.ofString "__next__") hit.typeIs PySem.F.slot_tuple_iterator_next
    (wpAny_call_entry PySem.F.slot_tuple_iterator_next hit.typeIs PySem.F.entry_tuple_iterator_next ?_ (PySem.F.args_tuple_iterator_next_1 _))))
  refine wpAny_bind (m := field (.ref it) 0) (wpAny_field e1 e3 (x := .ref t) rfl ?_)
  show wpAny _ _ (if (Value.ref t == Value.none) = true then _ else _) _ _ s
  rw [if_neg (show ¬ ((Value.ref t == Value.none) = true) from Bool.false_ne_true)]
  refine wpAny_bind (m := field (.ref it) 1) (wpAny_field e1 e3 (x := .int i 0) rfl ?_)
  refine wpAny_bind (m := seqItems? (.ref t)) (wpAny_seqItems e4 e5 ?_)
  simp only [Int.toNat_natCast, hx]
  refine wpAny_bind (wpAny_rule (wpAny_bind (wpAny_setField e1 e3 (by simp) ?_)))
  refine wpAny_bind (m := newExc (.type "StopIteration") []) ?_
  simp only [newExc, newTuple]
  refine wpAny_bind (wpAny_newObj_type ?_ (by size_fits))
  refine wpAny_bind (m := firstArgMember _ _) (wpAny_of_eq (a := Value.none) (by first | rfl | (simp only [firstArgMember]; rfl)) ?_)
  refine wpAny_newObj_type ?_ (by size_fits)
  simp only [raiseNew]
  refine wpAny_bind (wpAny_handled ?_)
  first | rw [show A.in1.handled = none from hh] | rw [hh]
  refine wpAny_bind (wpAny_pure (wpAny_throw ?_))
  refine wpAny_bind (wpAny_isInstance (T := "StopIteration") (b := true) ⟨_, Heap.get?_push_size _ rfl, rfl⟩ isSubtype_stop ?_)
  exact wpAny_pure (hQ _ (((Heap.SameBut.update ..).extBut.push _).push _) ⟨_, Heap.get?_push_of_some _ (Heap.get?_push_of_some _ (Heap.get?_update_self _ e1 (Obj.isFreed_of_fields (Obj.data_mapFields e3 _))))⟩)
/-- a call of a def that lets nothing out -/
theorem own_call0 (sb : Sub X n A) (F : FnOk X.prog X.w X.K X.mg X.base CX0 n f fd ps sp) (hb : Binds X.K fd ps []) (I : Inv X pins σ H s) {vs : List V} {us : List Value} (r : Vals vs us) {Q : VK} (h : sp vs H Q E0) :
    wpAny (model X.prog X.w) A (call (.ref f) us) (fun u s' => ∃ v H', Inv X pins σ H' s' ∧ RelV v u ∧ Q v H') E s := by
  have e0 : Env0 X.prog X.w X.K X.mg X.base A X.stack s H :=
    have e := I.env0
    ⟨sb.fr.trans e.frames, e.mod, e.bs, e.bsz, e.funs, e.frf, e.hok, e.bare⟩
  have hl := F.len _ _ _ _ h
  have bd : BindsTo s fd ⟨us, []⟩ (ps.zip us) := by
    have z := hb s us I.kIn (by rw [r.length] at hl; simpa using hl)
    simpa using z
  refine wpAny_call (codeAny_mono (F.run A X.stack s H ⟨us, []⟩ us vs Q E0 sb.room e0 bd r h) fun r s' hq => ?_)
  match r, hq with
  | .error e, hq => exact hq.elim
  | .ok (.ret w), hq =>
    obtain ⟨z, H', I', rz, q⟩ := I.after hq
    exact ⟨z, H', I', rz, q⟩
  | .ok .next, hq => exact False.elim hq
  | .ok .brk, hq => exact False.elim hq
  | .ok .cont, hq => exact False.elim hq
/-- the list at q is filled by the iterator -/
theorem tup_run {q it t : Addr} {xs : List V} {Rs : Result → Shared → Prop} {A1 : Around} (hh : A1.in1.handled = none) (nq : q ≠ it) (sz : xs.length < sizeLine)
    (done : ∀ G s', Inv X pins σ G s' → (∀ b o, b ≠ q → b ≠ it → H b = some o → G b = some o) → G q = some (.lst xs) → Rs (.ok (.ret .none)) s') :
    ∀ (m i : Nat) (G : Hp) (s : Shared), i + m = xs.length → Inv X pins σ G s → (∀ b o, b ≠ q → b ≠ it → H b = some o → G b = some o) → G q = some (.lst (xs.take i)) → G it = some (tiO it t i) → G t = some (.tup xs) →
      codeAny (model X.prog X.w) A1 (.builtin "list.extend.loop" ⟨[.ref q, .ref it, .none], []⟩) Rs s := by
  intro m
  induction m with
  | zero =>
    intro i G s hi I kp hq hit ht
    refine codeAny_builtin PySem.F.entry_extend_loop ?_
    rw [Around.under_plainId PySem.F.plain_extend_loop _]
    show wpAny _ A1.in1 (pyNext (.ref it) >>= _) _ _ s
    obtain ⟨its, rv, pt, _⟩ := I.tuple (SqT.of (K := X.K) ht)
    have pt2 : s.heap.IsTuple t its.toArray := pt
    have ll := rv.length
    refine wpAny_bind (tup_end hh (tiO_at I.hok hit) pt2 (by rw [List.getElem?_toArray, List.getElem?_eq_none]; omega) fun h' k there => wpAny_pure ?_)
    have I1 : Inv X pins σ (upd G it (anyO it)) { s with heap := h' } := I.write (t' := s.toks) (x := it) (e := it) (by rw [hit]; exact True.intro) (.inl rfl) (fun b v hb e => k b v hb e) there (anyO_ok there)
    refine done _ _ I1 (fun b v b1 b2 hb => by rw [upd_ne b2]; exact kp b v b1 b2 hb) ?_
    rw [upd_ne nq, hq, show xs.take i = xs from List.take_of_length_le (by omega)]
  | succ m ih =>
    intro i G s hi I kp hq hit ht
    refine codeAny_builtin PySem.F.entry_extend_loop ?_
    rw [Around.under_plainId PySem.F.plain_extend_loop _]
    show wpAny _ A1.in1 (pyNext (.ref it) >>= _) _ _ s
    obtain ⟨its, rv, pt, _⟩ := I.tuple (SqT.of (K := X.K) ht)
    have pt2 : s.heap.IsTuple t its.toArray := pt
    have ll := rv.length
    have lt : i < xs.length := by omega
    obtain ⟨u, hu, ru⟩ := rv.get (List.getElem?_eq_getElem lt)
    have nt : t ≠ it := ne_of ht hit (fun z => tiO_tup z.symm)
    refine wpAny_bind (wpAny_pyNext_tuple_item (x := u) (tiO_at I.hok hit) pt2 (by rw [List.getElem?_toArray]; exact hu) fun h' is sb => ?_)
    obtain ⟨o, ho, _⟩ := id is
    have I1 : Inv X pins σ (upd G it (tiO it t (i + 1))) { s with heap := h' } := I.write (t' := s.toks) (x := it) (e := it) (by rw [hit]; exact True.intro) (.inl rfl) (fun b v hb e => (sb.2 b hb).trans e) ⟨o, ho⟩ (tiO_ok is)
    have hq1 : (upd G it (tiO it t (i + 1))) q = some (.lst (xs.take i)) := by rw [upd_ne nq]; exact hq
    show wpAny _ A1.in1 (updateSeq q (·.push u) >>= _) _ _ _
    obtain ⟨z, js, k, r2, hl, e⟩ := I1.lstM hq1
    have tk : (xs.take i).length = i := by rw [List.length_take]; omega
    have jl := r2.length
    refine wpAny_bind (wpAny_updateSeq e rfl (wpAny_pure ⟨plainId_quiet PySem.F.plain_extend_loop _, ?_⟩) (by rw [List.size_toArray]; omega) (by show (js.toArray.push u).size ≤ sizeLine + 1; rw [Array.size_push, List.size_toArray]; omega))
    have I2 := I1.lset (f := (·.push u)) (its' := js ++ [u]) (ys := xs.take (i + 1)) (t' := s.toks) hq1 e (by simp) (by rw [take_one (List.getElem?_eq_getElem lt)]; exact r2.append (.cons ru .nil)) (by rw [List.length_take]; omega)
    refine ih (i + 1) _ _ (by omega) I2 (fun b v b1 b2 hb => ?_) upd_same ?_ ?_
    · rw [upd_ne b1, upd_ne b2]
      exact kp b v b1 b2 hb
    · rw [upd_ne (Ne.symm nq), upd_same]
    · rw [upd_ne (ne_of ht hq (fun z => by cases z)), upd_ne nt]
      exact ht
/-- how a built-in's body ends, and is gone on with -/
abbrev finR (P : Program) (w : World) (A1 : Around) (Rs : Result → Shared → Prop) : Fin → Shared → Prop := fun fin s' => match fin with
  | .done f => Rs (.ok f) s'
  | .again c => c.quiet = true ∧ codeAny (model P w) A1 c Rs s'
theorem own_fill {q a t dx : Addr} {fs : List (Str × V)} {xs : List V} {Rs : Result → Shared → Prop} {A1 : Around} (sb : Sub X (n + 1) A1.in1) (hh : A1.in1.handled = none) (mI : Meth X.K C "__iter__" f) (FI : FnOk X.prog X.w X.K X.mg X.base CX0 n f fd ps sp) (bI : Binds X.K fd ps [])
    (mL : Meth X.K C "__len__" fL) (FL : FnOk X.prog X.w X.K X.mg X.base CX0 n fL fdL psL spL) (bL : Binds X.K fdL psL []) (I : Inv X pins σ H s) (ha : H a = some (.ins C dx fs)) (hq : H q = some (.lst [])) (ht : H t = some (.tup xs)) (sz : xs.length < sizeLine)
    (hI : sp [.ref a] H (fun v H' => ∃ it, v = .ref it ∧ H it = none ∧ H' = upd H it (tiO it t 0)) E0)
    (hL : ∀ G, Same H G → spL [.ref a] G (fun v G' => G' = G ∧ ∃ k : Int, v = .int k ∧ 0 ≤ k ∧ k ≤ 1000) E0)
    (done : ∀ G s', Inv X pins σ G s' → (∀ b o, b ≠ q → H b = some o → G b = some o) → G q = some (.lst xs) → Rs (.ok (.ret .none)) s') :
    wpAny (model X.prog X.w) A1.in1 (Builtin.List.listExtendWith (.ref q) (.ref a) .none) (finR X.prog X.w A1 Rs) (fun e s' => Rs (.error e) s') s := by
  have qa : q ≠ a := ne_of hq ha (fun z => nomatch z)
  obtain ⟨_, J0, _⟩ := ins_get I.hok ha
  obtain ⟨_, J, _⟩ := J0.look
  obtain ⟨_, hF⟩ := I.fr
  have c1 : Builtin.List.listSameRef (.ref q) (.ref a) = false := by simp [Builtin.List.listSameRef, qa]
  have c2 : (Value.ref C == Value.type "list") = false := rfl
  have c3 : (Value.ref C == Value.type "tuple") = false := rfl
  unfold Builtin.List.listExtendWith
  refine wpAny_bind (J.type.here ?_)
  simp only [c1, c2, c3, Bool.or_false, Bool.false_eq_true, if_false]
  refine wpAny_bind (PySem.W.owit_iter hF I.ok.mod.kin J mI.at_ mI.fn (wpAny_mono (own_call0 (sb.mono (Nat.le_succ n)) FI bI I (.cons (ref1 a) .nil) hI) (fun u s1 h1 => ?_) fun _ _ z => z))
  obtain ⟨v, H1, I1, rv, it, rfl, nit, rfl⟩ := h1
  cases rv
  have hit : (upd H it (tiO it t 0)) it = some (tiO it t 0) := upd_same
  have isI := tiO_at I1.hok hit
  have kp : Same H (upd H it (tiO it t 0)) := Same.new nit
  unfold PySem.W.OwitIt
  refine wpAny_specialOf isI.typeIs PySem.F.slot_tuple_iterator_next.lookup ?_
  -- how long it is
  obtain ⟨_, K0, _⟩ := ins_get I1.hok (kp _ _ ha)
  obtain ⟨_, K1, _⟩ := K0.look
  obtain ⟨_, hF1⟩ := I1.fr
  have go : ∀ s2, Inv X pins σ (upd H it (tiO it t 0)) s2 → codeAny (model X.prog X.w) A1 (.builtin "list.extend.loop" ⟨[.ref q, .ref it, .none], []⟩) Rs s2 := fun s2 I2 =>
    tup_run (H := H) hh (ne_of_none hq nit) sz (fun G s' J g k => done G s' J (fun b o b1 hb => g b o b1 (ne_of_none hb nit) hb) k) xs.length 0 _ s2 (Nat.zero_add _) I2 (fun b o _ b2 hb => by rw [upd_ne b2]; exact hb) (kp _ _ hq) upd_same (kp _ _ ht)
  have hint : wpAny (model X.prog X.w) A1.in1 (Builtin.List.listLengthHint (.ref a)) (fun b s2 => Inv X pins σ (upd H it (tiO it t 0)) s2) (fun e s' => Rs (.error e) s') s1 := by
    unfold Builtin.List.listLengthHint
    refine wpAny_bind (wpAny_bind (K1.type.here ((PySem.W.looks_findIn I1.kIn mL.at_).here ?_)))
    refine PySem.W.KFB.if_not rfl ?_
    refine PySem.W.KFB.if_so rfl ?_
    refine wpAny_bind (wpAny_rule ?_)
    refine wpAny_bind (wpAny_attempt (PySem.W.len_K hF1 I1.ok.mod.kin K1 mL.at_ mL.fn (wpAny_mono (own_call0 sb.in1 FL bL I1 (.cons (ref1 a) .nil) (hL _ kp)) (fun u s2 h2 => ?_) fun _ _ z => z)))
    obtain ⟨v, H2, I2, rv, eH, k, rfl, k0, k1⟩ := h2
    obtain ⟨tt, rfl⟩ := rv
    subst eH
    refine ⟨⟨k0, by omega⟩, ?_⟩
    refine wpAny_bind (m := asInt? _) (wpAny_pure ?_)
    dsimp only
    have small : Builtin.List.listTooLong k.toNat = false := by
      have := sizeLine_eq
      unfold Builtin.List.listTooLong
      exact decide_eq_false (by omega)
    rw [if_neg (by rw [small]; decide)]
    exact wpAny_pure (I2.tok _)
  refine wpAny_bind (wpAny_holding (wpAny_mono hint (fun b s2 I2 => ?_) fun _ _ z => z))
  refine wpAny_ite_split (fun _ => ?_) (fun _ => wpAny_pure ⟨plainId_quiet PySem.F.plain_extend_loop _, go s2 I2⟩)
  refine wpAny_bind (wpAny_rule ?_)
  obtain ⟨_, js, k, r3, _, e3⟩ := I2.lstM (kp _ _ hq)
  cases r3
  refine wpAny_bind ?_
  show wpAny _ _ (updateSeq q (·.push .none) >>= fun _ => updateSeq q (·.pop)) _ _ _
  refine wpAny_bind (wpAny_updateSeq e3 rfl ?_)
  have I3 := I2.lset (f := (·.push Value.none)) (its' := [Value.none]) (ys := [.non]) (t' := s2.toks) (kp _ _ hq) e3 (by simp) (.cons rfl .nil) (by rw [List.length_singleton, sizeLine_eq]; decide)
  obtain ⟨_, ls, k4, r4, _, e4⟩ := I3.lstM upd_same
  obtain ⟨u4, rfl, _⟩ := r4.one
  refine wpAny_updateSeq e4 rfl ?_ (by show 1 ≤ sizeLine; rw [sizeLine_eq]; decide) (by show 0 ≤ sizeLine + 1; exact Nat.zero_le _)
  refine wpAny_pure ⟨plainId_quiet PySem.F.plain_extend_loop _, go _ ?_⟩
  have I4 := I3.lset (f := (·.pop)) (its := [u4]) (its' := []) (ys := []) (t' := s2.toks) upd_same e4 (by rfl) .nil (Nat.zero_le _)
  rw [upd_upd] at I4
  have back : upd (upd H it (tiO it t 0)) q (.lst []) = upd H it (tiO it t 0) := funext fun b => by
    by_cases z : b = q
    · rw [z, upd_same, kp _ _ hq]
    · rw [upd_ne z]
  rw [back] at I4
  exact I4
/-- list(o) -/
def rListO (C : Addr) (sp spL : Sp) : List V → Hp → VK → Prop := fun zs H Q => ∃ (a dx t : Addr) (fs : List (Str × V)) (xs : List V), zs = [.ref a] ∧ H a = some (.ins C dx fs) ∧ H t = some (.tup xs) ∧ xs.length < sizeLine ∧
  (∀ G, Same H G → sp [.ref a] G (fun v G' => ∃ it, v = .ref it ∧ G it = none ∧ G' = upd G it (tiO it t 0)) E0) ∧ (∀ G, Same H G → spL [.ref a] G (fun v G' => G' = G ∧ ∃ k : Int, v = .int k ∧ 0 ≤ k ∧ k ≤ 1000) E0) ∧
  ∀ q G, H q = none → Same H G → G q = some (.lst xs) → Q (.ref q) G
theorem call_listO (mI : Meth X.K C "__iter__" f) (FI : FnOk X.prog X.w X.K X.mg X.base CX0 n f fd ps sp) (bI : Binds X.K fd ps []) (mL : Meth X.K C "__len__" fL) (FL : FnOk X.prog X.w X.K X.mg X.base CX0 n fL fdL psL spL) (bL : Binds X.K fdL psL []) (hr : Room (n + 3) X.A) :
    CallR X (.type "list") (rListO C sp spL) := by
  intro pins s σ H zs us Q I r ⟨a, dx, t, fs, xs, ez, ha, ht, sz, hI, hL, fin⟩
  subst ez
  obtain ⟨u, rfl, ru⟩ := r.one
  cases ru
  have sb : Sub X (n + 1) X.A.in1.in1 := Sub.in1 (Sub.in1 (⟨hr, rfl⟩ : Sub X (n + 3) X.A))
  refine callType_codes (Q₁ := fun obj s₁ => obj = .ref s.heap.objs.size ∧ s₁ = { s with heap := s.heap.push { cls := .type "list", data := .seq #[] } }) PySem.F.called_list (PySem.F.typeCall_list_1 _) PySem.F.entry_list_init
    (code_list_new _ ⟨rfl, rfl⟩) fun obj s₁ ⟨e1, e2⟩ => ?_
  subst e1 e2
  have at_ : (s.heap.push { cls := .type "list", data := .seq #[] }).get? s.heap.objs.size = some { cls := .type "list", data := .seq #[] } := Heap.get?_push_size _ rfl
  have nq : H s.heap.objs.size = none := I.hok.fresh (Nat.le_refl _)
  have I1 : Inv X pins σ (upd H s.heap.objs.size (.lst [])) { s with heap := s.heap.push { cls := .type "list", data := .seq #[] } } := I.lnew (its := []) (t' := s.toks) .nil (Nat.zero_le _)
  refine ⟨⟨_, at_, rfl⟩, PySem.F.args_list_init_2 _ _, ?_⟩
  show wpAny _ _ (do let old ← Builtin.List.listItems (.ref s.heap.objs.size); Builtin.List.listUpdate (.ref s.heap.objs.size) (fun _ => #[]); letGo old.toList.reverse; Builtin.List.listExtendWith (.ref s.heap.objs.size) (.ref a) .none) _ _ _
  refine wpAny_bind ?_
  unfold Builtin.List.listItems
  refine wpAny_bind (wpAny_seqItems at_ rfl (wpAny_pure ?_))
  show wpAny _ _ (updateSeq s.heap.objs.size (fun _ => #[]) >>= fun _ => letGo (#[] : Array Value).toList.reverse >>= fun _ => Builtin.List.listExtendWith (.ref s.heap.objs.size) (.ref a) .none) _ _ _
  refine wpAny_bind (wpAny_updateSeq at_ rfl ?_)
  have I2 := I1.lset (f := fun _ => #[]) (its := []) (its' := []) (ys := []) (t' := s.toks) upd_same at_ rfl .nil (Nat.zero_le _)
  rw [upd_upd] at I2
  refine wpAny_bind (wpAny_letGo ?_)
  have kp : Same H (upd H s.heap.objs.size (.lst [])) := Same.new nq
  exact own_fill (A1 := X.A.in1) (Rs := wants (fun r s₂ => r = .none ∧ EP X pins σ Q (.ref s.heap.objs.size) s₂) X.xe) sb hr.hd mI FI bI mL FL bL I2 (kp _ _ ha) upd_same (kp _ _ ht) sz (hI _ kp) (fun G g => hL G (kp.trans g))
    (fun G s' J g k => ⟨rfl, .ref s.heap.objs.size, G, J, rfl, fin _ G nq (fun b o hb => g b o (ne_of_none hb nq) (kp _ _ hb)) k⟩)
end
end Rt
end
section
set_option Elab.async false
set_option linter.all false
set_option maxRecDepth 100000
set_option maxHeartbeats 8000000
/-! Book.__iter__; the operators over the packed methods -/
namespace Rt
open PySem PySem.Spec PyProof.Rows L2
def spIter (K : PySem.W.Frag) : Sp := fun vs H Q _ => ∃ (x : Addr) (B : Bk) (a : BoA), vs = [.ref x] ∧ BookAt K H x B a ∧ ∀ it, H it = none → Q (.ref it) (upd H it (tiO it a.nm 0))
section
variable {P : Program} {w : World} {K : PySem.W.Frag} {mg : Str → Option Value} {base : Heap}
theorem calm_iter (Z : All K mg) : CalM P w K mg base CX0 1 "__iter__" ["self"] (spIter K) := by
  obtain ⟨fd, F⟩ := Z.f_Book_iter
  refine .of ⟨fd, F, ok0 F sc_Book_iter (fun vs H Q E h => ?_) (fun cdv A outer s H vs Q E hr h => ?_)⟩ Z.m_iter Z.c_Book (fun _ _ _ _ _ _ us hl => match us, hl with | [_], _ => rfl)
  · obtain ⟨x, B, a, rfl, _⟩ := h
    rfl
  · obtain ⟨x, B, a, rfl, b, k⟩ := h
    refine ⟨_, (pss_one (ps_ret (pe_callB call_iterT (by rfl) Z.b_iter boot_iter (pa_cons (pe_fld (pv 0) rfl) pa_nil)))), ?_⟩
    exact ⟨_, rfl, x, _, a.dx, bFs a, .ref a.nm, rfl, b.at_, Z.c_Book, Z.n_names, rfl, a.nm, _, rfl, b.names, k⟩
end
section
variable {X : Cx} {CX : CXT} {k : Nat} {ps psL : List Str} {sp spL : Sp} {E : XK} {a b : Expr} {ta tb : TE} {pos : Pos}
theorem pe_subM (C : CalM X.prog X.w X.K X.mg X.base CX k "__getitem__" ps sp) (hf : PySem.W.fnIn X.K (He.ma X.K (BC X.K) "__getitem__") = true) (hr : Room (k + 1) X.A) (hx : Passes CX X E) (ha : PE X a ta) (hb : PE X b tb) (hs : PlainIxO b) :
    PE X (.Subscript a b pos) (tOp (rSubO (BC X.K) sp E) ta tb) := by
  obtain ⟨fd, bd, F⟩ := C.ex
  exact pe_subO C.mt hf F bd hx hr ha hb hs
theorem op_inM (C : CalM X.prog X.w X.K X.mg X.base CX k "__contains__" ps sp) (hr : Room k X.A) (hx : Passes CX X E) : OpR X (compareOp .In) (rInO (BC X.K) sp E true) := by
  obtain ⟨fd, bd, F⟩ := C.ex
  exact op_inO C.mt F bd hx hr
theorem op_notInM (C : CalM X.prog X.w X.K X.mg X.base CX k "__contains__" ps sp) (hr : Room k X.A) (hx : Passes CX X E) : OpR X (compareOp .NotIn) (rInO (BC X.K) sp E false) := by
  obtain ⟨fd, bd, F⟩ := C.ex
  exact op_notInO C.mt F bd hx hr
theorem call_lenM (C : CalM X.prog X.w X.K X.mg X.base CX k "__len__" ps sp) (hr : Room (k + 1) X.A) (hx : Passes CX X E) : CallR X (.builtin "len") (rLenO (BC X.K) sp E) := by
  obtain ⟨fd, bd, F⟩ := C.ex
  exact call_lenO C.mt F bd hx hr
theorem op_eqM (C : CalM X.prog X.w X.K X.mg X.base CX k "__eq__" ps sp) (hr : Room k X.A) (hx : Passes CX X E) : OpR X (compareOp .Eq) (rEqO X.K (BC X.K) sp E) := by
  obtain ⟨fd, bd, F⟩ := C.ex
  exact op_eqO C.mt F bd hx hr
theorem op_neM (W : AllX X.K X.mg) (C : CalM X.prog X.w X.K X.mg X.base CX k "__eq__" ps sp) (hr : Room (k + 1) X.A) (hx : Passes CX X E) : OpR X (compareOp .NotEq) (rNeO X.K (BC X.K) sp E) := by
  obtain ⟨fd, bd, F⟩ := C.ex
  exact op_neO C.mt W.x.book.ne W.x.book.gm F bd hx hr
theorem call_listM (C : CalM X.prog X.w X.K X.mg X.base CX0 k "__iter__" ps sp) (CL : CalM X.prog X.w X.K X.mg X.base CX0 k "__len__" psL spL) (hr : Room (k + 3) X.A) : CallR X (.type "list") (rListO (BC X.K) sp spL) := by
  obtain ⟨fd, bd, F⟩ := C.ex
  obtain ⟨fdL, bdL, FL⟩ := CL.ex
  exact call_listO C.mt F bd CL.mt FL bdL hr
/-- a method called where the context is that of a comprehension -/
theorem pe_m1K {P : Program} {w : World} {K : PySem.W.Frag} {mg : Str → Option Value} {base : Heap} {m : Str} {o e : Expr} {es : List Expr} {apos : Pos} {t : TA} {pl : Sem Bool} (C : CalM P w K mg base CX k m ps sp) (same : X.prog = P ∧ X.w = w ∧ X.K = K ∧ X.mg = mg ∧ X.base = base) (hr : Room k X.A) (hx : Passes CX X E) (he : PE X o ta) (ha : PA X (e :: es) t)
    (hst : starEach (e :: es) X.env = (false, eval e X.env) :: starEach es X.env := by rfl) (hpl : (backTo pos (starEach es X.env)).any (·.1) = false := by rfl)
    (ht : eval (.Call (.Attribute o m apos) (e :: es) [] pos) X.env = (do
      let ov ← eval o X.env
      standAt apos.atName
      let (f, first) ← holding [ov] (getMethod ov m pl)
      callWith pos f first (backTo pos (starEach (e :: es) X.env)) (backToKw pos (keywordEach [] X.env))) := by rfl) :
    PE X (.Call (.Attribute o m apos) (e :: es) [] pos) (tMeth (BC K) m sp [] E ta t) := by
  obtain ⟨rfl, rfl, rfl, rfl, rfl⟩ := same
  exact pe_m1 C hr hx he ha hst hpl ht
theorem pe_subK {P : Program} {w : World} {K : PySem.W.Frag} {mg : Str → Option Value} {base : Heap} (C : CalM P w K mg base CX k "__getitem__" ps sp) (same : X.prog = P ∧ X.w = w ∧ X.K = K ∧ X.mg = mg ∧ X.base = base) (hf : PySem.W.fnIn K (He.ma K (BC K) "__getitem__") = true) (hr : Room (k + 1) X.A) (hx : Passes CX X E) (ha : PE X a ta) (hb : PE X b tb) (hs : PlainIxO b) :
    PE X (.Subscript a b pos) (tOp (rSubO (BC K) sp E) ta tb) := by
  obtain ⟨rfl, rfl, rfl, rfl, rfl⟩ := same
  exact pe_subM C hf hr hx ha hb hs
end
end Rt
end
section
set_option Elab.async false
set_option linter.all false
set_option maxRecDepth 100000
set_option maxHeartbeats 4000000
/-! try with two except clauses that both give the error the same name -/
namespace Rt
open PySem PySem.Spec PyProof.Rows L2
/-- behind a clause's suite its name is unbound -/
abbrev unset (i : Nat) (D : Ends) : Ends := { nx := fun τ G => D.nx (τ.set i none) G, rt := D.rt, bk := fun τ G => D.bk (τ.set i none) G, ct := fun τ G => D.ct (τ.set i none) G }
abbrev SuiteT : Type := Addr → Value → Option Addr → TS
/-- what a row of clauses wishes of an error -/
def wRow (K : PySem.W.Frag) (m i : Nat) (Wout : WX) (D : Ends) : List (Value × SuiteT) → WX
  | [] => Wout
  | (c, ts) :: more => fun cls d σ H => ∃ b, PySem.W.exmOne K cls c = some b ∧ (b = true → ∀ a, H a = none → σ.length = m → ts a cls d (unset i D) (σ.set i (some (.ref a))) H) ∧ (b = false → wRow K m i Wout D more cls d σ H)
/-- a row of clauses, each with the name n -/
inductive Row (X : Cx) (n : Str) : List ExceptHandler → List (Value × SuiteT) → Prop
  | nil : Row X n [] []
  | cons {x : Str} {c : Value} {ts : SuiteT} {b : Stmt} {bs : List Stmt} {p q : Pos} {hs : List ExceptHandler} {l : List (Value × SuiteT)} (hc : Names X x c)
      (su : ∀ (a : Addr) (oe : Obj) (cls : Value) (d : Option Addr) (pn : List (Addr × Obj)), Zc cls d oe → (∃ vs, oe.data = .fields vs) → PSs (X.suite a ((a, oe) :: pn)) (b :: bs) (ts a cls d)) (more : Row X n hs l) :
      Row X n (.ExceptHandler (some (.Name x p)) (some n) (b :: bs) q :: hs) ((c, ts) :: l)
section
variable {X : Cx} {n : Str} {i : Nat} {body : List Stmt} {hs : List ExceptHandler} {h₀ : ExceptHandler} {l : List (Value × SuiteT)} {pos : Pos} {tb : WX → TS} {Wout : WX}
/-- the error is in our hands: the row of clauses -/
theorem row_run {pins : List (Addr × Obj)} {D : Ends} {a : Addr} {B : Heap} {sI s3 : Shared} {τ : L2.St} {G : Hp} {cls : Value} {d : Option Addr} (stk : X.stack = X.env :: X.outer) (fr : X.env.frame = some X.env.locals) (nd : X.N.Nodup) (at_ : X.N[i]? = some n) (lo : X.env.kindOf n = some .local) (tk : Takes X Wout) (ok : X.Ok)
    (J : Inv X pins τ G sI) (nb : ∀ b o, sI.heap.get? b = some o → b ∉ frs X.stack → B.get? b = some o) (up : sI.heap.UpToSlots s3.heap) (fl : HandSPX.FlyingZ B (X.env :: X.outer) a (Zc cls d) s3.heap) (free : G a = none) (os : s3.os = sI.os) (ag : AllBare s3.gens)
    (row : Row X n hs l) : wRow X.K X.N.length i Wout D l cls d τ G → wpAny (model X.prog X.w) X.A (handleBy (.ref a) X.env hs) (SP X pins D) X.xe s3 := by
  obtain ⟨oe, vs, he, hz, hd⟩ := fl.there
  have J3 : Inv X pins τ G s3 := J.landed nb fl.1 up os ag
  have out : ∀ {h : Heap} {o : Obj} {us : Array Value}, h.FunFrames B (X.env :: X.outer) → h.get? a = some o → o.data = .fields us → a ∉ frs (X.env :: X.outer) := fun {h o us} ff e dd hm => by
    obtain ⟨_, o2, e2, no⟩ := ff.mem hm
    rw [e] at e2
    cases e2
    exact no _ dd
  have o1 := out fl.2.2.1 he hd
  have nL : a ≠ X.env.locals := fun z => o1 (List.mem_filterMap.mpr ⟨X.env, List.mem_cons_self, by rw [fr, z]⟩)
  have nF : a ∉ X.fs := fun hm => by
    obtain ⟨e, hin, q⟩ := List.mem_filterMap.mp hm
    exact o1 (List.mem_filterMap.mpr ⟨e, List.mem_cons_of_mem _ hin, q⟩)
  have S3 := J3.suite he hd free nL nF
  induction row with
  | nil =>
    intro w
    refine wpAny_handleBy_nil ?_
    obtain ⟨_, _, _, o4, v4, T, _, _, e4, z4, d4, t4, _⟩ := id fl
    have fin : wpAny (model X.prog X.w) X.A (setFlight (.ref a) X.env.frame) (fun _ s4 => wpAny (model X.prog X.w) X.A (throw (.ref a) : Sem Flow) (SP X pins D) X.xe s4) X.xe s3 := by
      rw [fr]
      exact HandSPX.setFlight_upZ fl fun h4 hh up4 => wpAny_throw (tk _ _ ⟨a, B, sI, pins, τ, G, cls, d, rfl, J, nb, up.trans up4, .inr (.inr (by rw [stk]; exact hh)), free, os, ag, w⟩)
    unfold PySem.passOn
    refine wpAny_bind (wpAny_field e4 d4 t4 ?_)
    rw [if_neg (show ¬ ((Value.ref T == Value.none) = true) by simp)]
    first
      | exact wpAny_bind (wpAny_pure (wpAny_bind fin))
      | exact wpAny_bind fin
  | @cons x c ts b bs p q hs l hc su more ih =>
    rintro ⟨yes, ans, w1, w0⟩
    refine wpAny_handleBy_cons (codeAny_handlers_test ?_) (fun z => nomatch z)
    have LT : PySem.W.Looks (model X.prog X.w) s3.heap (typeOf (.ref a)) cls := fun _ _ _ _ k q => wpAny_typeOf_ref (k _ _ he) (by rw [hz.1]; exact q)
    have LM := PySem.W.exm_one (M := model X.prog X.w) J3.kIn LT ans
    have name : ∀ {Q E : Value → Shared → Prop}, Q c s3 → wpAny (model X.prog X.w) (X.A.mark (some (.ref a))) (eval (.Name x p) X.env) Q E s3 := fun {Q E} q => by
      obtain ⟨g1, g2, g3 | ⟨g3, g4, g5⟩⟩ := hc
      · exact ld_glob (X := X.suite a ((a, oe) :: (X.pn ++ pins))) S3 g1 g3 q g2
      · exact ld_blt (X := X.suite a ((a, oe) :: (X.pn ++ pins))) S3 g1 g3 g4 q g5 g2
    refine name (LM.here ?_)
    cases yes with
    | false => exact ih (w0 rfl)
    | true =>
      refine codeAny_handlers_suite_as (HandSPX.lands_againZ fl fun h4 fl4 up4 => ?_)
      have J4 : Inv X pins τ G { s3 with heap := h4 } := J.landed nb fl4.1 (up.trans up4) os ag
      obtain ⟨oe4, vs4, he4, hz4, hd4⟩ := fl4.there
      refine store_ok (X := X.suite a ((a, oe4) :: (X.pn ++ pins))) (v := .ref a) (J4.suite he4 hd4 free nL nF) nd at_ (.inl lo) rfl (fun s5 S5 => ?_) (.inr lo)
      refine wpAny_mono ((su a oe4 cls d (X.pn ++ pins) hz4 ⟨_, hd4⟩).run [] s5 _ G _ S5 (w1 rfl a free J.len)) (fun f s6 hsp => ?_) (fun _ _ z => z.elim)
      have last : ∀ {τ6 : L2.St} {G6 : Hp} {Q : Shared → Prop}, Inv (X.suite a ((a, oe4) :: (X.pn ++ pins))) [] τ6 G6 s6 → (∀ s7, Inv X pins (τ6.set i none) G6 s7 → Q s7) →
          wpAny (model X.prog X.w) X.A (do bindName X.env n .none; unbindBehindTheSuite X.env n q) (fun _ s7 => Q s7) X.xe s6 := fun S6 k => gone_ok (S6.unsuite ok) nd at_ lo k
      match f, hsp with
      | .next, ⟨τ6, G6, S6, k⟩ => exact last S6 fun s7 J7 => ⟨_, _, J7, k⟩
      | .brk, ⟨τ6, G6, S6, k⟩ => exact last S6 fun s7 J7 => ⟨_, _, J7, k⟩
      | .cont, ⟨τ6, G6, S6, k⟩ => exact last S6 fun s7 J7 => ⟨_, _, J7, k⟩
      | .ret u, ⟨v6, τ6, G6, S6, r6, k⟩ => exact last S6 fun s7 J7 => ⟨_, _, _, J7, r6, k⟩
theorem ps_try_row (stk : X.stack = X.env :: X.outer) (fr : X.env.frame = some X.env.locals) (nd : X.N.Nodup) (at_ : X.N[i]? = some n) (lo : X.env.kindOf n = some .local) (tk : Takes X Wout)
    (hb : ∀ (W : WX) (pn : List (Addr × Obj)) (xe : Value → Shared → Prop), Takes (X.tr pn xe) W → PassesOwn (model X.prog X.w) X.A X.env xe → PSs (X.tr pn xe) body (tb W)) (row : Row X n (h₀ :: hs) l) :
    PS X (.Try body (h₀ :: hs) [] [] pos) (fun D σ H => tb (wRow X.K X.N.length i Wout D l) D σ H) := by
  refine ⟨fun pins s σ H D I h => wpAny_Try_except ?_⟩
  have ok := I.ok
  have frames : X.A.frames = some (X.env :: X.outer) := by rw [ok.frames, stk]
  let xe : Value → Shared → Prop := fun e s₁ => wpAny (model X.prog X.w) X.A (noteFrame e X.env) (fun _ s₂ => wpAny (model X.prog X.w) X.A (setFlight e none) (fun _ s₃ => wpAny (model X.prog X.w) X.A (handleBy e X.env (h₀ :: hs)) (SP X pins D) X.xe s₃) X.xe s₂) X.xe s₁
  have caught : Takes (X.tr (X.pn ++ pins) xe) (wRow X.K X.N.length i Wout D l) := fun u s' ⟨a, B, sI, pins', τ, G, cls, d, eu, J', nb, up, sky, na, os, ag, w⟩ => by
    subst eu
    have J : Inv X pins τ G sI := J'.ofTry ok
    have sky2 : Sky B (X.env :: X.outer) a (Zc cls d) X.env.locals s'.heap := by rw [← stk]; exact sky
    refine Sky.land Zc.steady frames fr sky2 fun h3 fl3 up3 => ?_
    exact row_run (s3 := { s' with heap := h3 }) stk fr nd at_ lo tk ok J nb (up.trans up3) fl3 na os ag row w
  refine wpAny_mono ((hb (wRow X.K X.N.length i Wout D l) (X.pn ++ pins) xe caught PassesOwn.looking).run [] s σ H D (I.toTry _) h) (fun f s1 hsp => ?_) (fun _ _ z => z)
  match f, hsp with
  | .next, ⟨τ, G, J, q⟩ => exact wpAny_execs_nil ⟨τ, G, J.ofTry ok, q⟩
  | .brk, ⟨τ, G, J, q⟩ => exact ⟨τ, G, J.ofTry ok, q⟩
  | .cont, ⟨τ, G, J, q⟩ => exact ⟨τ, G, J.ofTry ok, q⟩
  | .ret u, ⟨v, τ, G, J, r, q⟩ => exact ⟨v, τ, G, J.ofTry ok, r, q⟩
end
end Rt
end
section
set_option Elab.async false
set_option linter.all false
set_option maxRecDepth 100000
set_option maxHeartbeats 4000000
/-! repr of data, where no repr is under way -/
namespace Rt
open PySem PySem.Spec PyProof.Rows L2
/-- the text that repr gives -/
def rT : PyData → Str
  | .none => "None"
  | .bool b => if b then "True" else "False"
  | .int i => toString i
  | .str x => reprText x
  | d => d.shown
structure RepOk (d : PyData) : Prop where
  sh : d.showable = true
  nd : d.hasDict = false
  dp : d.depth ≤ 60
  len : (rT d).length ≤ sizeLine
  int : ∀ i, d = .int i → i.natAbs.log2 < 1920
def rRep (K : PySem.W.Frag) : List V → Hp → VK → Prop := fun xs H Q => ∃ x d, xs = [x] ∧ Dp K H x d ∧ RepOk d ∧ Q (.str (rT d)) H
theorem call_rep {X : Cx} (gu : X.A.guards = some []) (room : X.A.units + 70 < cLine) : CallR X (.builtin "repr") (rRep X.K) := by
  intro pins s σ H xs us Q I r ⟨x, d, ex, dp, ok, q⟩
  subst ex
  obtain ⟨u, rfl, ru⟩ := r.one
  have refs : ∀ {a : Addr} {e : PyData}, x = .ref a → d = e → rT e = e.shown → wpAny (model X.prog X.w) X.A (call (.builtin "repr") [u]) (EP X pins σ Q) X.xe s := fun {a e} ex ed et => by
    subst ex ed
    obtain ⟨as, rd⟩ := dp.reads I d _ u ru
    cases ru
    have dpt := ok.dp
    have ln := ok.len
    rw [et] at ln
    refine repr_of_reads' (h₀ := s.heap) rd ok.sh (fun z => by rw [ok.nd] at z; cases z) gu (by omega) (fun _ _ z => z) (fun h' t tk k => ?_) ln
    exact ⟨.str (rT d), H, I.kept (t' := tk) k, ⟨t, by rw [et]⟩, q⟩
  cases dp with
  | non =>
    cases ru
    exact P.repr_of_none ⟨.str "None", H, I.tok _, ⟨_, rfl⟩, q⟩
  | bl b =>
    cases ru
    exact P.repr_of_bool ⟨.str _, H, I.tok _, ⟨_, rfl⟩, q⟩
  | int i =>
    obtain ⟨t, rfl⟩ := ru
    exact P.repr_of_int (ok.int i rfl) ⟨.str _, H, I.tok _, ⟨_, rfl⟩, q⟩
  | str z =>
    obtain ⟨t, rfl⟩ := ru
    exact P.repr_of_str ⟨.str _, H, I.tok _, ⟨_, rfl⟩, q⟩ ok.len
  | lst h1 h2 => exact refs rfl rfl rfl
  | tup h1 h2 => exact refs rfl rfl rfl
end Rt
end
section
set_option Elab.async false
set_option linter.all false
set_option maxRecDepth 100000
set_option maxHeartbeats 4000000
/-! what is called with a lambda and tells its error -/
namespace Rt
open PySem PySem.Spec PyProof.Rows L2
open LamX (GivesTo CodeO)
/-- the two errors that are told -/
def Told (K : PySem.W.Frag) (Q : VK) : XK := fun cls d H' => ∃ (c f w : Str) (dd : Addr) (y : V) (dt : PyData), ((c = "NoSkill" ∧ f = "skill" ∧ w = "skill") ∨ (c = "NoNumber" ∧ f = "value" ∧ w = "number")) ∧ cls = .ref (He.ga K c) ∧ d = some dd ∧ H' dd = some (.xd [(f, y)]) ∧ Dp K H' y dt ∧ RepOk dt ∧
  ∀ L, H' L = none → Q (.ref L) (upd H' L (.lst [.str w, .str (rT dt)]))
abbrev TTry (K : PySem.W.Frag) : (XK → Hp → VK → Prop) → Hp → VK → Prop := fun tl H Q => tl (Told K Q) H Q
theorem tried_gives {X : Cx} {g : Addr} {cdg : Value} {q : Str} (W : AllX X.K X.mg) (gu : X.A.guards = some []) (room : X.A.units + 90 < cLine) :
    GivesTo X ["_law_function", "e"] "_law_tried" (defScope s_law_tried) g cdg (defBody s_law_tried) "_law_function" q (TTry X.K) := by
  intro f c' s H Q tl act hc h
  have Z := W.z
  have rep : ∀ a pn, CallR ((cxOf C8.CX0 X.prog X.w X.K X.mg X.base ["_law_function", "e"] "_law_tried" (defScope s_law_tried) g cdg X.A X.stack s H C8.E0).nox.suite a pn) (.builtin "repr") (rRep X.K) := fun a pn =>
    call_rep (X := (cxOf C8.CX0 X.prog X.w X.K X.mg X.base ["_law_function", "e"] "_law_tried" (defScope s_law_tried) g cdg X.A X.stack s H C8.E0).nox.suite a pn) gu (by show X.A.units + 3 + 70 < cLine; omega)
  refine ⟨_, pss_one (ps_try_row (i := 1) (n := "e") (Wout := fun _ _ _ _ => False) (l := [(.ref (He.ga X.K "NoSkill"), _), (.ref (He.ga X.K "NoNumber"), _)])
    (tb := fun W D σ H => ∃ Ech : XK, (∀ cls d σ' H', Ech cls d H' → W cls d σ' H') ∧ σ[0]? = some (some (.ref f)) ∧ H c' = some (CodeO c' q) ∧ tl Ech H D.rt)
    rfl rfl sc_law_tried.nd rfl rfl L2.takes0 (fun W pn xe tk _ => ?_)
    (.cons ⟨by rfl, by decide, .inl Z.g_NoSkill⟩ (fun a oe cls d pn hz hf => pss_one (ps_ret (pe_lst (pa_cons pe_str (pa_cons (pe_callB (rep a ((a, oe) :: pn)) (by rfl) Z.b_repr boot_repr (pa_cons (pe_xf W.x.xs Z.n_NoSkill hz hf (pv 1)) pa_nil)) pa_nil)))))
      (.cons ⟨by rfl, by decide, .inl Z.g_NoNumber⟩ (fun a oe cls d pn hz hf => pss_one (ps_ret (pe_lst (pa_cons pe_str (pa_cons (pe_callB (rep a ((a, oe) :: pn)) (by rfl) Z.b_repr boot_repr (pa_cons (pe_xf W.x.xn Z.n_NoNumber hz hf (pv 1)) pa_nil)) pa_nil))))) .nil))), ?_⟩
  · refine ⟨fun pins s' σ H' D I ⟨Ech, hW, h1, h2, h3⟩ => ?_⟩
    exact (pss_one (ps_ret (act W pn xe Ech _ _ tk hW))).run pins s' σ H' D I ⟨h1, h2, h3⟩
  · refine ⟨Told X.K Q, ?_, rfl, hc, h⟩
    rintro cls d σ H' ⟨c, f, w, dd, y, dt, ht, rfl, rfl, hx, dp, ok, k⟩
    rcases ht with ⟨rfl, rfl, rfl⟩ | ⟨rfl, rfl, rfl⟩
    · refine ⟨true, Z.x_NoSkill_NoSkill, fun _ a na len => ?_, (fun z => nomatch z)⟩
      have at1 : (σ.set 1 (some (V.ref a)))[1]? = some (some (V.ref a)) := by
        rw [List.getElem?_set_self (by rw [len]; show 1 < 2; decide)]
      exact ⟨.ref a, at1, rfl, rfl, dd, _, y, rfl, hx, rfl, y, dt, rfl, dp, ok, (by show 2 ≤ sizeLine; decide), fun L nL => k L nL⟩
    · refine ⟨false, Z.x_NoNumber_NoSkill, (fun z => nomatch z), fun _ => ⟨true, Z.x_NoNumber_NoNumber, fun _ a na len => ?_, (fun z => nomatch z)⟩⟩
      have at1 : (σ.set 1 (some (V.ref a)))[1]? = some (some (V.ref a)) := by
        rw [List.getElem?_set_self (by rw [len]; show 1 < 2; decide)]
      exact ⟨.ref a, at1, rfl, rfl, dd, _, y, rfl, hx, rfl, y, dt, rfl, dp, ok, (by show 2 ≤ sizeLine; decide), fun L nL => k L nL⟩
end Rt
end
section
set_option Elab.async false
set_option linter.all false
set_option maxRecDepth 100000
set_option maxHeartbeats 8000000
/-! each skill is told rightly -/
namespace Rt
open PySem PySem.Spec PyProof.Rows L2
theorem val_mem : ∀ {l : List (Str × Int)} {r : Str × Int}, (l.map (·.1)).Nodup → r ∈ l → valV (l.map kS) (.inr r.1) = some (.int r.2)
  | [], _, _, h => nomatch h
  | q :: l, r, nd, h => by
    rw [List.map_cons, List.nodup_cons] at nd
    rcases List.mem_cons.mp h with rfl | h
    · rw [List.map_cons, valV_pos rfl]
    · have ne : q.1 ≠ r.1 := fun e => nd.1 (by rw [e]; exact List.mem_map_of_mem h)
      rw [List.map_cons, valV_neg (by intro e; exact ne (Sum.inr.inj e))]
      exact val_mem nd.2 h
def spSkillsR (K : PySem.W.Frag) : Sp := fun vs H Q _ => ∃ (d x : Addr) (B : Bk) (a : BoA), vs = [.ref d, .ref x] ∧ BkAt H d B ∧ BookAt K H x B a ∧ BkL B ∧ ∀ H', Same H H' → Q (.bl true) H'
theorem lay_sel {B : Bk} (l : BkL B) (z : Str) : Lay 4 (.list ((B.wl.filter fun w => decide (w.skill = z)).map dWt)) :=
  .lst (lay_W l.ns fun w hw => l.r.w w ((List.mem_filter.mp hw).1))
theorem no_none (ws : List Want) : ((ws.map dWt).any fun y => PyData.eqv y .none) = false := by
  rw [List.any_eq_false]
  intro y hy
  obtain ⟨w, _, rfl⟩ := List.mem_map.mp hy
  simp [dWt, PyData.eqv]
theorem dp_fInts {K : PySem.W.Frag} {H : Hp} {α : Type} (f : α → Int) : ∀ l : List α, DpAll K H (l.map fun t => V.int (f t)) (l.map fun t => PyData.int (f t))
  | [] => .nil
  | t :: l => .cons (.int _) (dp_fInts f l)
theorem lay_fInts {α : Type} (f : α → Int) (l : List α) : Lay 1 (.list (l.map fun t => PyData.int (f t))) := .lst (LayA.of (n := 0) fun d hd => by
  obtain ⟨t, _, rfl⟩ := List.mem_map.mp hd
  exact Lay.int)
theorem four_at {i : Nat} {v : V} (h : ([.int 1, .int 2, .int 3, .int 4] : List V)[i]? = some v) : ∃ t : Int, v = .int t ∧ ([1, 2, 3, 4] : List Int)[i]? = some t ∧ isNum (.int t) 1 4 = true := by
  rcases i with _ | _ | _ | _ | i
  · cases h; exact ⟨1, rfl, rfl, by decide⟩
  · cases h; exact ⟨2, rfl, rfl, by decide⟩
  · cases h; exact ⟨3, rfl, rfl, by decide⟩
  · cases h; exact ⟨4, rfl, rfl, by decide⟩
  · cases h
section
variable {P : Program} {w : World} {K : PySem.W.Frag} {mg : Str → Option Value} {base : Heap}
theorem cal_law_skills_right (W : AllX K mg) : Cal P w K mg base CX0 8 "_law_skills_right" ["_law_book_here", "_law_made_here"] (spSkillsR K) := by
  have Z := W.z
  obtain ⟨fd, F⟩ := Z.f_law_skills_right
  obtain ⟨fg, Fg⟩ := Z.f_Book_getitem
  have hf : PySem.W.fnIn K (He.ma K (BC K) "__getitem__") = true := fnIn_of Fg
  have C1 : CalM P w K mg base (L2.CX P w) 5 "__getitem__" ["self", "at"] (spAsk K fTier) := calm_getitem W
  have C2 : CalM P w K mg base CX0 2 "__contains__" ["self", "x"] (spHas K) := calm_contains Z
  have C3 : CalM P w K mg base (L2.CX P w) 5 "price_of" ["self", "skill"] (spAsk K fPrice) := calm_price_of W
  have C4 : CalM P w K mg base (L2.CX P w) 5 "given_by" ["self", "skill"] (spAsk K fGiven) := calm_given_by W
  have C5 : CalM P w K mg base (L2.CX P w) 5 "wants_of" ["self", "skill"] (spAsk K fWants) := calm_wants_of W
  have C6 : CalM P w K mg base (L2.CX P w) 4 "need_of" ["self", "tier"] (spNeedM K) := calm_need_of W
  have C_law_price : Cal P w K mg base CX0 1 "_law_price" ["_law_book_here", "_law_name"] spPriceOf := cal_law_price Z
  have C_law_need : Cal P w K mg base CX0 1 "_law_need" ["_law_book_here", "_law_tier"] spNeedOf := cal_law_need Z
  refine .of ⟨fd, F, ok0 F sc_law_skills_right (fun vs H Q E h => ?_) (fun cdv A outer s H vs Q E hr h => ?_)⟩ Z.g_law_skills_right (fun _ _ _ _ _ _ us hl => match us, hl with | [_, _], _ => rfl)
  · obtain ⟨d, x, B, a, rfl, _⟩ := h
    rfl
  · obtain ⟨d, x, B, a, rfl, bk, b, l, k⟩ := h
    refine ⟨_, (pss_cons (ps_for PassesOwn.never rfl (pi_seq (pe_dget (hu_of hr) (pv 0) pe_str (fun _ _ => rfl))) (pg_tup rfl (pgs_cons (pg_name (i := 2) sc_law_skills_right.nd rfl (Or.inr rfl)) (pgs_cons (pg_name (i := 3) sc_law_skills_right.nd rfl (Or.inl rfl)) pgs_nil))) (pss_cons (ps_if (PW.pt (pw_or (pt_cmpR op_ne (pe_subM C1 hf (hr.mono (by decide)) passL (pv 1) (pv 2) (fun _ _ => rfl)) (pv 3) (nomark _)) (pw_or (pt_cmpR (op_notInM C2 (hr.mono (by decide)) pass0) (pv 2) (pv 1) rfl) (pw_or1 (pt_cmpR op_ne (pe_m1 C3 (hr.mono (by decide)) passL (pv 1) (pa_cons (pv 2) pa_nil)) (pe_cal C_law_price (hr.mono (by decide)) (by rfl) pass0 (pa_cons (pv 0) (pa_cons (pv 2) pa_nil))) (nomark _)))))) (pss_one (ps_ret pe_bl)) pss_nil)
      (pss_cons (ps_if (pt_cmpR op_ne (pe_m1 C4 (hr.mono (by decide)) passL (pv 1) (pa_cons (pv 2) pa_nil)) (pe_dget2 (hu_of hr) (pe_callTy (call_dictP rfl) (by rfl) Z.b_dict PyProof.Rows.boot_dict (pa_cons (pe_dget (hu_of hr) (pv 0) pe_str (fun _ _ => rfl)) pa_nil)) (pv 2) pe_int ⟨by rfl, by rfl, by rfl, by rfl⟩) (nomark _)) (pss_one (ps_ret pe_bl)) pss_nil)
      (pss_cons (ps_if (pt_cmpR (op_neD hr.units) (pe_m1 C5 (hr.mono (by decide)) passL (pv 1) (pa_cons (pv 2) pa_nil)) (pe_lc (own := [("_law_row", 4)]) (by rfl) sc_law_skills_right.nd (pi_seq (pe_dget (hu_of hr) (pv 0) pe_str (fun _ _ => rfl))) (blkOk_by (own := [("_law_row", 4)]) (N := ["_law_book_here", "_law_made_here", "_law_name", "_law_tier", "_law_row"]) (sc := defScope s_law_skills_right) (by decide +kernel)) (fun _ _ _ _ _ => (pg_name (i := 4) sc_law_skills_right.nd rfl (Or.inl rfl))) (fun _ _ _ _ _ => (pts_one (pt_cmpR op_eq (pe_ix (show IxR _ (rIxT K) from ix_tup) (pv 4) pe_int (fun _ _ => rfl)) (pv 2) (nomark _)))) (fun _ _ _ _ _ => (pv 4))) (nomark _)) (pss_one (ps_ret pe_bl)) pss_nil)
      (pss_cons (ps_expr (pe_bm PySem.F.plainAttrs_list PySem.F.slot_list_append PySem.F.type_list_append mt_append (pe_m1 C5 (hr.mono (by decide)) passL (pv 1) (pa_cons (pv 2) pa_nil)) (pa_cons pe_non pa_nil)))
      (pss_one (ps_if (pt_cmpR (op_inD (units65 hr)) pe_non (pe_m1 C5 (hr.mono (by decide)) passL (pv 1) (pa_cons (pv 2) pa_nil)) rfl) (pss_one (ps_ret pe_bl)) pss_nil)))))))
      (pss_one (ps_ret (pe_cmpR (op_eqD hr.units) (pe_lc (own := [("_law_tier", 3)]) (by rfl) sc_law_skills_right.nd (pi_seq (pe_lst (pa_cons pe_int (pa_cons pe_int (pa_cons pe_int (pa_cons pe_int pa_nil)))))) (blkOk_by (own := [("_law_tier", 3)]) (N := ["_law_book_here", "_law_made_here", "_law_name", "_law_tier", "_law_row"]) (sc := defScope s_law_skills_right) (by decide +kernel)) (fun _ _ _ _ _ => (pg_name (i := 3) sc_law_skills_right.nd rfl (Or.inl rfl))) (fun _ _ _ _ _ => pts_nil) (fun _ _ _ _ _ => (pe_m1K C6 ⟨rfl, rfl, rfl, rfl, rfl⟩ (hr.mono (by decide)) passL (pv 1) (pa_cons (pv 3) pa_nil)))) (pe_lc (own := [("_law_tier", 3)]) (by rfl) sc_law_skills_right.nd (pi_seq (pe_lst (pa_cons pe_int (pa_cons pe_int (pa_cons pe_int (pa_cons pe_int pa_nil)))))) (blkOk_by (own := [("_law_tier", 3)]) (N := ["_law_book_here", "_law_made_here", "_law_name", "_law_tier", "_law_row"]) (sc := defScope s_law_skills_right) (by decide +kernel)) (fun _ _ _ _ _ => (pg_name (i := 3) sc_law_skills_right.nd rfl (Or.inl rfl))) (fun _ _ _ _ _ => pts_nil) (fun _ _ _ _ _ => (pe_cal C_law_need (hr.mono (by decide)) (by rfl) pass0 (pa_cons (pv 0) (pa_cons (pv 3) pa_nil))))) (nomark _))))), ?_⟩
    obtain ⟨a1, a3, a4, a5, a6, a7, x1, x3, x4, x5, x6, x7, hd, ls⟩ := bk.lists
    refine ⟨_, rfl, d, .ref a1, rfl, DGet.k (k := .inr "skills") hd, a1, rfl, .inl ⟨⟨_, SqL.of ls.l1⟩, ?_⟩⟩
    refine for_list (K := K) (a := a1) (xs := x1) (fun i σ H4 => ∃ s2 s3 : Option V, σ = [some (.ref d), some (.ref x), s2, s3, none] ∧ Same H H4) ⟨none, none, rfl, Same.refl H⟩ (fun i σ H4 _ ⟨_, _, _, s4⟩ => SqL.of (s4 _ _ ls.l1)) ?_ ?_
    · rintro i y σ H4 hi' ⟨t2, t3, rfl, s4⟩
      obtain ⟨r, tp, hr', rfl, htp⟩ := ls.r1.at_ hi'
      have mem : r ∈ B.sk := List.mem_of_getElem? hr'
      have one : isOne B.ns (.str r.1) = true := decide_eq_true (List.mem_map_of_mem mem)
      have b4 := b.same s4
      have hd4 := s4 _ _ hd
      have ls4 := ls.same s4
      have bk4 : BkAt H4 d B := ⟨a1, a3, a4, a5, a6, a7, hd4, ⟨x1, ls4.l1, ls4.r1⟩, ⟨x3, ls4.l3, ls4.r3⟩, ⟨x4, ls4.l4, ls4.r4⟩, ⟨x5, ls4.l5, ls4.r5⟩, ⟨x6, ls4.l6, ls4.r6⟩, ⟨x7, ls4.l7, ls4.r7⟩⟩
      refine ⟨tp, [.str r.1, .int r.2], rfl, SqT.of (s4 _ _ htp), rfl, .str r.1, [.int r.2], rfl, .int r.2, [], rfl, rfl, ?_⟩
      refine ⟨_, rfl, _, rfl, x, a.dx, bFs a, rfl, b4.at_, x, B, a, .str r.1, "str", rfl, b4, .str r.1, ifT one ?_⟩
      intro z ez
      cases ez
      intro t ht
      rw [val_mem l.r.sk.nd mem] at ht
      cases ht
      refine ⟨_, rfl, rfl, _, rfl, ifF (by rw [decide_eq_true rfl]; rfl) ?_⟩
      refine ⟨_, rfl, _, rfl, x, a.dx, bFs a, rfl, b4.at_, x, B, a, .str r.1, "str", rfl, b4, .str r.1, _, rfl, _, rfl, ifF (by rw [one]; rfl) ?_⟩
      refine ⟨_, rfl, x, a.dx, bFs a, rfl, b4.at_, rfl, _, rfl, x, B, a, .str r.1, "str", rfl, b4, .str r.1, ifT one ?_⟩
      intro z ez
      cases ez
      refine ⟨_, rfl, _, rfl, d, B, r.1, rfl, bk4, l.r.prices.nd, fun H5 s5 => ⟨rfl, _, rfl, ifF (by rw [decide_eq_true rfl]; rfl) ?_⟩⟩
      have s45 := s4.trans s5
      have b5 := b.same s45
      have hd5 := s45 _ _ hd
      have ls5 := ls.same s45
      -- what it gives
      refine ⟨_, rfl, x, a.dx, bFs a, rfl, b5.at_, rfl, _, rfl, x, B, a, .str r.1, "str", rfl, b5, .str r.1, ifT one ?_⟩
      intro z ez
      cases ez
      obtain ⟨ps, ep, pr⟩ := pair_rows (K := K) (g := kS) (fun _ => rfl) ls5.r6
      refine ⟨_, rfl, d, .ref a6, rfl, DGet.k (k := .inr "gives") hd5, a6, ps, B.gives.map kS, rfl, SqL.of (by rw [← ep]; exact ls5.l6), pr, fun p np => ?_⟩
      rw [merge_nd (nodup_kS l.r.gives.nd)]
      have s6 := s45.trans (Same.new (o := .dK (B.gives.map kS)) np)
      have hp6 : (upd H5 p (.dK (B.gives.map kS))) p = some (.dK (B.gives.map kS)) := upd_same
      generalize upd H5 p (.dK (B.gives.map kS)) = H6 at s6 hp6 ⊢
      refine ⟨p, rfl, .inl ⟨_, .inl hp6⟩, _, rfl, _, DGet.k (k := .inr r.1) hp6, ?_⟩
      rw [val_kS]
      refine ⟨rfl, _, rfl, ifF (by rw [decide_eq_true rfl]; rfl) ?_⟩
      -- its wants
      have b6 := b.same s6
      have hd6 := s6 _ _ hd
      have ls6 := ls.same s6
      have w60 : B.wl.length ≤ 60 := Nat.le_trans l.r.wl (by decide)
      refine ⟨_, rfl, x, a.dx, bFs a, rfl, b6.at_, rfl, _, rfl, x, B, a, .str r.1, "str", rfl, b6, .str r.1, ifT one ?_⟩
      intro z ez
      cases ez
      refine ⟨w60, fun l1 H7 nl1 s67 at1 => ?_⟩
      have s7 := s6.trans s67
      have hd7 := s7 _ _ hd
      have ls7 := ls.same s7
      have xl := ls7.r4.len
      refine ⟨_, rfl, d, .ref a4, rfl, DGet.k (k := .inr "wants") hd7, a4, rfl, lc_seq (.inl (SqL.of ls7.l4)) (fun i => wsel r.1 (x4.take i) (B.wl.take i)) rfl (fun D nD i v Hy hi2 p => ?_) fun l2 H8 nl2 s78 at2 => ?_⟩
      · obtain ⟨wt, hw, ⟨tp2, tq, rfl, htp2, htq⟩⟩ := ls7.r4.at_ hi2
        refine ⟨rfl, _, rfl, tp2, _, 1, .str wt.skill, rfl, rfl, SqT.of (p.same _ _ htp2), ww_skill wt tq, _, rfl, rfl, _, rfl, ?_⟩
        have st := wsel_one (z := r.1) hi2 hw xl
        have ll := wsel_len r.1 (x4.take i) (B.wl.take i)
        rw [List.length_take] at ll
        by_cases e2 : wt.skill = r.1
        · rw [if_pos e2] at st
          exact ifT (decide_eq_true (by rw [e2])) ⟨_, rfl, p.put nD st (line_of (m := 60) (by omega) (by decide))⟩
        · rw [if_neg e2, List.append_nil] at st
          exact ifF (decide_eq_false (by intro q; injection q with q; exact e2 q)) (p.skip st)
      rw [List.take_length, xl, List.take_length] at at2
      have s8 := s7.trans s78
      have b8 := b.same s8
      have ls8 := ls.same s8
      have sel := (lay_sel l r.1)
      refine ⟨_, _, .lst (SqL.of (s78 _ _ at1)) (dp_W (wsel_rows r.1 b8.r4)), .lst (SqL.of at2) (dp_W (wsel_rows r.1 ls8.r4)), sel.shaped (by decide), sel.shaped (by decide), ?_⟩
      rw [SeqAt.eqv_refl _ sel.1]
      refine ⟨_, rfl, ifF rfl ?_⟩
      -- a list of wants is a new one
      refine ⟨_, rfl, x, a.dx, bFs a, rfl, b8.at_, rfl, _, rfl, x, B, a, .str r.1, "str", rfl, b8, .str r.1, ifT one ?_⟩
      intro z ez
      cases ez
      refine ⟨w60, fun l3 H9 nl3 s89 at3 => ?_⟩
      have wl3 := wsel_len r.1 a.x4 B.wl
      have b4l := b8.r4.len
      refine ⟨.inl ⟨rfl, _, SqL.of at3⟩, l3, _, _, rfl, rfl, at3, line_of (m := 100) (by omega) (by decide), ?_⟩
      have s9 : Same H (upd H9 l3 (.lst (wsel r.1 a.x4 B.wl ++ [.non]))) := fun c o hc => by
        rw [upd_ne (ne_of_none (s8 _ _ hc) nl3)]
        exact s89 _ _ (s8 _ _ hc)
      have b9 := b.same s9
      generalize upd H9 l3 (.lst (wsel r.1 a.x4 B.wl ++ [.non])) = H10 at s9 b9 ⊢
      refine ⟨_, rfl, x, a.dx, bFs a, rfl, b9.at_, rfl, _, rfl, x, B, a, .str r.1, "str", rfl, b9, .str r.1, ifT one ?_⟩
      intro z ez
      cases ez
      refine ⟨w60, fun l5 H11 nl5 s11 at5 => ?_⟩
      have b11 := b9.same s11
      refine ⟨_, _, .non, .lst (SqL.of at5) (dp_W (wsel_rows r.1 b11.r4)), (Lay.non : Lay 0 _).shaped (by decide), sel.shaped (by decide), ?_⟩
      rw [no_none]
      exact ⟨_, rfl, ifF rfl ⟨_, _, rfl, s9.trans s11⟩⟩
    · rintro σ H4 ⟨t2, t3, rfl, s4⟩
      have b4 := b.same s4
      refine ⟨(by show 4 ≤ sizeLine; decide), fun z1 n1 => ?_⟩
      have s5 := s4.trans (Same.new (o := .lst [.int 1, .int 2, .int 3, .int 4]) n1)
      have h5 : (upd H4 z1 (.lst [.int 1, .int 2, .int 3, .int 4])) z1 = some (.lst [.int 1, .int 2, .int 3, .int 4]) := upd_same
      generalize upd H4 z1 (.lst [.int 1, .int 2, .int 3, .int 4]) = H5 at s5 h5 ⊢
      have b5 := b.same s5
      refine ⟨z1, rfl, lc_seq (.inl (SqL.of h5)) (fun i => (([1, 2, 3, 4] : List Int).take i).map fun t => V.int (lookI B.nd t 0)) rfl (fun D nD i v Hy hi2 p => ?_) fun l1 H6 nl1 s56 at1 => ?_⟩
      · obtain ⟨t, rfl, ht, num⟩ := four_at hi2
        refine ⟨rfl, _, rfl, x, a.dx, bFs a, rfl, (b5.same p.same).at_, rfl, _, rfl, x, B, a, .int t, "int", rfl, b5.same p.same, .int t, ifT num ?_⟩
        intro t2 et
        cases et
        exact p.put nD (map_one _ ht) (take_line _ (m := 4) (by show 4 ≤ 4; decide) (by decide))
      have s6 := s5.trans s56
      refine ⟨(by show 4 ≤ sizeLine; decide), fun z2 n2 => ?_⟩
      have s7 := s6.trans (Same.new (o := .lst [.int 1, .int 2, .int 3, .int 4]) n2)
      have at1b := (Same.new (o := .lst [.int 1, .int 2, .int 3, .int 4]) n2) _ _ at1
      have h7 : (upd H6 z2 (.lst [.int 1, .int 2, .int 3, .int 4])) z2 = some (.lst [.int 1, .int 2, .int 3, .int 4]) := upd_same
      generalize upd H6 z2 (.lst [.int 1, .int 2, .int 3, .int 4]) = H7 at s7 h7 at1b ⊢
      have hd7 := s7 _ _ hd
      have ls7 := ls.same s7
      refine ⟨z2, rfl, lc_seq (.inl (SqL.of h7)) (fun i => (([1, 2, 3, 4] : List Int).take i).map fun t => V.int (lookI B.nd t 0)) rfl (fun D nD i v Hy hi2 p => ?_) fun l2 H8 nl2 s78 at2 => ?_⟩
      · obtain ⟨t, rfl, ht, num⟩ := four_at hi2
        have ls9 := ls7.same p.same
        have bk9 : BkAt Hy d B := ⟨a1, a3, a4, a5, a6, a7, p.same _ _ hd7, ⟨x1, ls9.l1, ls9.r1⟩, ⟨x3, ls9.l3, ls9.r3⟩, ⟨x4, ls9.l4, ls9.r4⟩, ⟨x5, ls9.l5, ls9.r5⟩, ⟨x6, ls9.l6, ls9.r6⟩, ⟨x7, ls9.l7, ls9.r7⟩⟩
        refine ⟨rfl, _, rfl, _, rfl, d, B, t, rfl, bk9, l.r.na, fun H9 s9 => ?_⟩
        exact (p.ext s9).put nD (map_one _ ht) (take_line _ (m := 4) (by show 4 ≤ 4; decide) (by decide))
      have ly := lay_fInts (fun t => lookI B.nd t 0) ([1, 2, 3, 4] : List Int)
      refine ⟨_, _, .lst (SqL.of (s78 _ _ at1b)) (dp_fInts (fun t => lookI B.nd t 0) ([1, 2, 3, 4] : List Int)), .lst (SqL.of at2) (dp_fInts (fun t => lookI B.nd t 0) ([1, 2, 3, 4] : List Int)), ly.shaped (by decide), ly.shaped (by decide), ?_⟩
      rw [SeqAt.eqv_refl _ ly.1]
      exact k _ (s7.trans s78)
end
end Rt
end
section
set_option Elab.async false
set_option linter.all false
set_option maxRecDepth 100000
set_option maxHeartbeats 4000000
/-! defs whose promise is told where no repr is under way -/
namespace Rt
open PySem PySem.Spec PyProof.Rows L2
/-- what a def's code is -/
def codeOf (K : PySem.W.Frag) (f : Addr) : Option Value := match K.lookup f with
  | some ⟨_, _, .func fd, _⟩ => some fd.code
  | _ => none
theorem code_tab {K : PySem.W.Frag} {x : Str} {c T : Addr} (h : PySem.W.tabIn K x = some (c, T)) : codeOf K (He.ga K x) = some (.ref c) := by
  unfold PySem.W.tabIn at h
  split at h
  · rename_i f hf
    have eg : He.ga K x = f := by unfold He.ga; rw [hf]
    rw [eg]
    split at h
    · rename_i fd _ hl
      unfold codeOf
      rw [hl]
      split at h
      · rename_i c2 hc
        split at h
        · split at h
          · cases h
            show some fd.code = some (.ref c)
            rw [hc]
          · cases h
        · cases h
      · cases h
    · cases h
  · cases h
theorem code_lam {K : PySem.W.Frag} {x : Str} {cdv : Value} (h : lamB K x = true) (e : codeOf K (He.ga K x) = some cdv) : cdv = .ref (lamC K x) := by
  cases q : PySem.W.tabIn K x with
  | some p =>
    obtain ⟨c, T⟩ := p
    have z := code_tab q
    rw [z] at e
    have y : lamC K x = c := by unfold lamC; rw [q]
    rw [y]
    exact (Option.some.inj e).symm
  | none =>
    obtain ⟨h1, _⟩ := He.ba h
    have c0 : lamC K x = 0 := by unfold lamC; rw [q]
    have p0 : lamP K x = 0 := by unfold lamP; rw [q]
    rw [c0, p0] at h1
    unfold PySem.W.codeHdIn at h1
    split at h1
    · simp at h1
    · cases h1
abbrev SpG : Type := List V → Hp → VK → Prop
structure FnG (P : Program) (w : World) (K : PySem.W.Frag) (mg : Str → Option Value) (base : Heap) (k : Nat) (f : Addr) (fd : FuncData) (ps : List Str) (sp : SpG) : Prop where
  len : ∀ vs H Q, sp vs H Q → vs.length = ps.length
  run : ∀ (A : Around) (outer : List Env) (s : Shared) (H : Hp) (us : List Value) (vs : List V) (Q : VK), A.guards = some [] → Room k A → Env0 P w K mg base A outer s H → Vals vs us → sp vs H Q → codeAny (model P w) A (.call (.ref f) ⟨us, []⟩) (CR C8.CX0 outer P w H s Q C8.E0) s
section
variable {P : Program} {w : World} {K : PySem.W.Frag} {mg : Str → Option Value} {base : Heap} {x qual : Str} {params : Arguments} {body : List Stmt} {scope : Scope} {f : Addr} {fd : FuncData} {N ps : List Str} {k : Nat} {sp : SpG}
theorem FnG.of (F : FunD K x qual params body scope [] [] f fd) (S : FnScope N ps scope) (hb : Binds K fd ps []) (len : ∀ vs H Q, sp vs H Q → vs.length = ps.length)
    (hbody : ∀ (cdv : Value) (A : Around) (outer : List Env) (s : Shared) (H : Hp) (vs : List V) (Q : VK), codeOf K f = some cdv → A.guards = some [] → Room k (A.deeper (envOfC qual scope s.heap.objs.size f cdv)) → sp vs H Q →
      ∃ t, PSs (cxOf C8.CX0 P w K mg base N qual scope f cdv A outer s H C8.E0).nox body t ∧ t { nx := fun _ H' => Q .non H', rt := Q } (start N vs) H) : FnG P w K mg base (k + 1) f fd ps sp := by
  refine ⟨len, fun A outer s H us vs Q gu hr e0 r h => ?_⟩
  obtain ⟨oc, od, dV, kV, doc, pm, an, cdv, ct, osl, rfl, lk, hcd, _, _⟩ := F.ex
  have KX : K.In s.heap := e0.mod.kin.keeps fun b o e => (e0.bs b o e).1
  have ln := len _ _ _ h
  have bd := hb s us KX (by rw [r.length] at ln; simpa using ln)
  refine LamX.run_ofS lk hcd S hr e0 (by simpa using bd) r ln fun hr2 => ?_
  obtain ⟨t, ht, q⟩ := hbody cdv A outer s H vs Q (by unfold codeOf; rw [lk] <;> rfl) gu hr2 h
  exact ⟨t, ht.nox, q⟩
end
section
variable {X : Cx} {k : Nat} {x : Str} {f : Addr} {fd : FuncData} {ps : List Str} {sp : SpG} {e : Expr} {es : List Expr} {p pos : Pos} {t : TA}
theorem pe_callG (F : FnG X.prog X.w X.K X.mg X.base k f fd ps sp) (gu : X.A.guards = some []) (hr : Room k X.A) (hg : Gl X x) (hm : X.mg x = some (.ref f)) (hk : PySem.W.keepIn X.K (.ref f) = true) (ha : PA X (e :: es) t)
    (hdb : (x == ("__debug__" : Str)) = false := by decide) (he : starEach (e :: es) X.env = (false, eval e X.env) :: starEach es X.env := by rfl) (hpl : (backTo pos (starEach es X.env)).any (·.1) = false := by rfl) :
    PE X (.Call (.Name x p) (e :: es) [] pos) (fun σ H Q => t σ H fun vs H1 => sp vs H1 Q) := by
  refine ⟨fun pins s σ H Q I h => wpAny_Call_Name_kw (ld_glob I hg hm ?_ hdb)⟩
  refine PySem.W.callWith_K (h₀ := X.base) I.ok.mod.kin hk (thn (ha.run pos pins s σ H _ I h) fun us s1 ⟨vs, H1, I1, r1, q1⟩ => ⟨I1.kIn, ?_⟩) he hpl
  show wpAny _ _ (call (.ref f) us) _ _ _
  refine wpAny_call (codeAny_mono (F.run X.A X.stack s1 H1 us vs Q gu hr I1.env0 r1 q1) fun r s2 hq => ?_)
  match r, hq with
  | .error e, hq => exact (show False from hq).elim
  | .ok (.ret u), hq => exact I1.after hq
  | .ok .next, hq => exact False.elim hq
  | .ok .brk, hq => exact False.elim hq
  | .ok .cont, hq => exact False.elim hq
end
end Rt
end
section
set_option Elab.async false
set_option linter.all false
set_option maxRecDepth 100000
set_option maxHeartbeats 8000000
/-! what is no skill, no tier is refused -/
namespace Rt
open PySem PySem.Spec PyProof.Rows L2
open LamX (ExtN Tabs TabB)
def qL : Str := (envOfC "_law_refused_right" (defScope s_law_refused_right) 0 0 .none).qual ++ "<lambda>"
def tabT (K : PySem.W.Frag) : List (Addr × Str) := [(lamP K "_law_refused_right", qL)]
theorem one_tab {K : PySem.W.Frag} : ∀ p ∈ tabT K, p.1 = lamP K "_law_refused_right" → p.2 = qL := fun p hp _ => by
  rw [List.mem_singleton.mp hp]
theorem ExtN.tk {H H' : Hp} (e : ExtN H H') : Tk H H' := fun b xs h => e b _ h fun _ z => by cases z
theorem BookAt.xn {K : PySem.W.Frag} {H H' : Hp} {x : Addr} {B : Bk} {a : BoA} (h : BookAt K H x B a) (e : ExtN H H') : BookAt K H' x B a := by
  have t := ExtN.tk e
  have d : ∀ {b : Addr} {kvs : List (Key × V)}, H b = some (.dK kvs) → H' b = some (.dK kvs) := fun hb => e _ _ hb fun _ z => by cases z
  exact ⟨e _ _ h.at_ (fun _ z => by cases z), d h.parts, h.h1.tk t, h.h3.tk t, h.h4.tk t, h.h5.tk t, h.h6.tk t, h.h7.tk t, h.r1.tk t, h.r3.tk t, h.r4.tk t, h.r5.tk t, h.r6.tk t, h.r7.tk t, t _ _ h.names, d h.tiers, d h.needs, d h.given, d h.price⟩
/-- the things that are no skills; that are no tiers -/
def thS (tp : Addr) : List (V × PyData × String) := [(.non, .none, "NoneType"), (.str "", .str "", "str"), (.str "zzzz", .str "zzzz", "str"), (.int 0, .int 0, "int"), (.ref tp, .tuple [.str "a"], "tuple"), (.bl true, .bool true, "bool"), (.str "A", .str "A", "str")]
def thN : List (V × PyData × String) := [(.non, .none, "NoneType"), (.int 0, .int 0, "int"), (.int 5, .int 5, "int"), (.bl true, .bool true, "bool"), (.str "1", .str "1", "str"), (.int (-1), .int (-1), "int")]
structure Thing (K : PySem.W.Frag) (H : Hp) (p : V × PyData × String) : Prop where
  ts : Ts K H p.1 p.2.2
  dp : Dp K H p.1 p.2.1
def fits (d : PyData) : Bool := (d.showable && !d.hasDict) && (decide (d.depth ≤ 60) && (decide ((rT d).length ≤ 1000) && (PyData.strOk (rT d) && (match d with
  | .int i => decide (i.natAbs.log2 < 1920)
  | _ => true))))
theorem fits_ok {d : PyData} (h : fits d = true) : RepOk d ∧ PyData.strOk (rT d) = true := by
  unfold fits at h
  obtain ⟨h1, h2⟩ := He.ba h
  obtain ⟨h3, h4⟩ := He.ba h1
  obtain ⟨h5, h6⟩ := He.ba h2
  obtain ⟨h7, h8⟩ := He.ba h6
  obtain ⟨h9, h10⟩ := He.ba h8
  have l := of_decide_eq_true h7
  refine ⟨⟨h3, by simpa using h4, of_decide_eq_true h5, by rw [sizeLine_eq]; omega, fun i e => ?_⟩, h9⟩
  subst e
  exact of_decide_eq_true h10
theorem thS_fits : ((thS 0).all fun p => fits p.2.1) = true := by decide +kernel
theorem thN_fits : (thN.all fun p => fits p.2.1) = true := by decide +kernel
theorem thS_ok {tp : Addr} {p : V × PyData × String} (h : p ∈ thS tp) : RepOk p.2.1 ∧ PyData.strOk (rT p.2.1) = true := by
  have z : p.2.1 ∈ (thS tp).map fun p => p.2.1 := List.mem_map_of_mem h
  have y : p.2.1 ∈ (thS 0).map fun p => p.2.1 := z
  obtain ⟨q, hq, e⟩ := List.mem_map.mp y
  rw [← e]
  exact fits_ok (List.all_eq_true.mp thS_fits q hq)
theorem thN_ok {p : V × PyData × String} (h : p ∈ thN) : RepOk p.2.1 ∧ PyData.strOk (rT p.2.1) = true := fits_ok (List.all_eq_true.mp thN_fits p h)
theorem thS_thing {K : PySem.W.Frag} {H : Hp} {tp : Addr} (ht : H tp = some (.tup [.str "a"])) {p : V × PyData × String} (h : p ∈ thS tp) : Thing K H p := by
  simp only [thS, List.mem_cons, List.not_mem_nil, or_false] at h
  rcases h with rfl | rfl | rfl | rfl | rfl | rfl | rfl
  · exact ⟨.non, .non⟩
  · exact ⟨.str _, .str _⟩
  · exact ⟨.str _, .str _⟩
  · exact ⟨.int _, .int _⟩
  · exact ⟨.tup (SqT.of ht), .tup (SqT.of ht) (.cons (.str _) .nil)⟩
  · exact ⟨.bl _, .bl _⟩
  · exact ⟨.str _, .str _⟩
theorem thN_thing {K : PySem.W.Frag} {H : Hp} {p : V × PyData × String} (h : p ∈ thN) : Thing K H p := by
  simp only [thN, List.mem_cons, List.not_mem_nil, or_false] at h
  rcases h with rfl | rfl | rfl | rfl | rfl | rfl
  · exact ⟨.non, .non⟩
  · exact ⟨.int _, .int _⟩
  · exact ⟨.int _, .int _⟩
  · exact ⟨.bl _, .bl _⟩
  · exact ⟨.str _, .str _⟩
  · exact ⟨.int _, .int _⟩
theorem thS_no {ns : List Str} {tp : Addr} (h : ∀ z ∈ (["", "zzzz", "A"] : List Str), z ∉ ns) {p : V × PyData × String} (hp : p ∈ thS tp) : isOne ns p.1 = false := by
  simp only [thS, List.mem_cons, List.not_mem_nil, or_false] at hp
  rcases hp with rfl | rfl | rfl | rfl | rfl | rfl | rfl
  · rfl
  · exact decide_eq_false (h _ (by simp))
  · exact decide_eq_false (h _ (by simp))
  · rfl
  · rfl
  · rfl
  · exact decide_eq_false (h _ (by simp))
theorem thN_no {p : V × PyData × String} (hp : p ∈ thN) : isNum p.1 1 4 = false := by
  simp only [thN, List.mem_cons, List.not_mem_nil, or_false] at hp
  rcases hp with rfl | rfl | rfl | rfl | rfl | rfl <;> decide
theorem lay_told {z : Str} {w : Str} (h : PyData.strOk z = true) (hw : PyData.strOk w = true) : Lay 2 (.list [.str w, .str z]) := .lst (.cons (Lay.str hw) (.cons (Lay.str h) .nil) : LayA 1 _)
theorem words_ok : PyData.strOk "skill" = true ∧ PyData.strOk "number" = true := by decide +kernel
def spRefused (K : PySem.W.Frag) : SpG := fun vs H Q => ∃ (x : Addr) (B : Bk) (a : BoA), vs = [.ref x] ∧ BookAt K H x B a ∧ (∀ z ∈ (["", "zzzz", "A"] : List Str), z ∉ B.ns) ∧ Tabs (tabT K) H ∧ ∀ H', ExtN H H' → Tabs (tabT K) H' → Q (.bl true) H'
section
variable {P : Program} {w : World} {K : PySem.W.Frag} {mg : Str → Option Value} {base : Heap}
theorem fn_refused (W : AllX K mg) (TB : TabB base mg (lamC K "_law_refused_right") (lamP K "_law_refused_right")) : ∃ fd, FnG P w K mg base 12 (He.ga K "_law_refused_right") fd ["_law_made_here"] (spRefused K) ∧ PySem.W.keepIn K (.ref (He.ga K "_law_refused_right")) = true := by
  have Z := W.z
  obtain ⟨fd, F⟩ := Z.f_law_refused_right
  obtain ⟨fT, FT⟩ := Z.f_law_tried
  obtain ⟨fg, Fg⟩ := Z.f_Book_getitem
  have hf : PySem.W.fnIn K (He.ma K (BC K) "__getitem__") = true := fnIn_of Fg
  have C1 : CalM P w K mg base (L2.CX P w) 5 "__getitem__" ["self", "at"] (spAsk K fTier) := calm_getitem W
  have C2 : CalM P w K mg base CX0 2 "__contains__" ["self", "x"] (spHas K) := calm_contains Z
  have C3 : CalM P w K mg base (L2.CX P w) 5 "price_of" ["self", "skill"] (spAsk K fPrice) := calm_price_of W
  have C4 : CalM P w K mg base (L2.CX P w) 5 "given_by" ["self", "skill"] (spAsk K fGiven) := calm_given_by W
  have C5 : CalM P w K mg base (L2.CX P w) 5 "wants_of" ["self", "skill"] (spAsk K fWants) := calm_wants_of W
  have C6 : CalM P w K mg base (L2.CX P w) 4 "need_of" ["self", "tier"] (spNeedM K) := calm_need_of W
  have bT : Binds K fT ["_law_function"] [] := FT.bindsN (fun _ _ _ _ _ _ us hl => match us, hl with | [_], _ => rfl)
  obtain ⟨oc, od, dV, kV, doc, pm, an, cdT, ct, osl, rfl, lkT, cgT, _, _⟩ := FT.ex
  refine ⟨fd, FnG.of F sc_law_refused_right (F.bindsN (fun _ _ _ _ _ _ us hl => match us, hl with | [_], _ => rfl)) (fun vs H Q h => ?_) (fun cdv A outer s H vs Q hcd gu0 hr h => ?_), F.kp⟩
  · obtain ⟨x, B, a, rfl, _⟩ := h
    rfl
  · obtain ⟨x, B, a, rfl, b, nos, tabs, k⟩ := h
    have ecd := code_lam W.x.lam hcd
    subst ecd
    have un := hr.un
    have gu : (A.deeper (envOfC "_law_refused_right" (defScope s_law_refused_right) s.heap.objs.size (He.ga K "_law_refused_right") (.ref (lamC K "_law_refused_right")))).guards = some [] := gu0
    have room : (A.deeper (envOfC "_law_refused_right" (defScope s_law_refused_right) s.heap.objs.size (He.ga K "_law_refused_right") (.ref (lamC K "_law_refused_right")))).units + 90 < cLine := by omega
    have room2 : (A.deeper (envOfC "_law_refused_right" (defScope s_law_refused_right) s.heap.objs.size (He.ga K "_law_refused_right") (.ref (lamC K "_law_refused_right")))).units + 70 < cLine := by omega
    have rep : CallR (cxOf C8.CX0 P w K mg base ["_law_made_here", "_law_thing"] "_law_refused_right" (defScope s_law_refused_right) (He.ga K "_law_refused_right") (.ref (lamC K "_law_refused_right")) A outer s H C8.E0).nox (.builtin "repr") (rRep K) :=
      call_rep (X := (cxOf C8.CX0 P w K mg base ["_law_made_here", "_law_thing"] "_law_refused_right" (defScope s_law_refused_right) (He.ga K "_law_refused_right") (.ref (lamC K "_law_refused_right")) A outer s H C8.E0).nox) gu0 room2
    have hcode : (cxOf C8.CX0 P w K mg base ["_law_made_here", "_law_thing"] "_law_refused_right" (defScope s_law_refused_right) (He.ga K "_law_refused_right") (.ref (lamC K "_law_refused_right")) A outer s H C8.E0).nox.env.code = .ref (lamC K "_law_refused_right") := rfl
    refine ⟨_, (pss_cons (ps_for PassesOwn.never rfl (pi_seq (pe_lst (pa_cons pe_non (pa_cons pe_str (pa_cons pe_str (pa_cons pe_int (pa_cons (pe_tup (pa_cons pe_str pa_nil)) (pa_cons pe_bl (pa_cons pe_str pa_nil))))))))) (pg_name (i := 1) sc_law_refused_right.nd rfl (Or.inr rfl)) (pss_cons (ps_if (pt_cmpR (op_neD hr.units) (LamX.pe_lamcall (k := 6) (T := tabT K) (TT := TTry K) (by rfl) Z.g_law_tried FT.kp lkT cgT bT sc_law_tried rfl (Or.inl rfl) (tried_gives W gu (by exact room)) TB hcode (List.mem_singleton.mpr rfl) one_tab (hr.mono (by decide)) (show LamX.LamS (defScope s_law_refused_right) _ from LamX.lamS_by (by decide +kernel)) rfl (fun _ _ _ _ _ => rfl) (fun A outer s H E f c2 hr2 => (pe_subK C1 ⟨rfl, rfl, rfl, rfl, rfl⟩ hf (hr2.mono (by decide)) (pass_up (takes_of rfl rfl rfl rfl)) (pv 0) (pv 1) (fun _ _ => rfl)))) (pe_lst (pa_cons pe_str (pa_cons (pe_callB rep (by rfl) Z.b_repr boot_repr (pa_cons (pv 1) pa_nil)) pa_nil))) (nomark _)) (pss_one (ps_ret pe_bl)) pss_nil)
      (pss_cons (ps_if (pt_cmpR (op_neD hr.units) (LamX.pe_lamcall (k := 6) (T := tabT K) (TT := TTry K) (by rfl) Z.g_law_tried FT.kp lkT cgT bT sc_law_tried rfl (Or.inl rfl) (tried_gives W gu (by exact room)) TB hcode (List.mem_singleton.mpr rfl) one_tab (hr.mono (by decide)) (show LamX.LamS (defScope s_law_refused_right) _ from LamX.lamS_by (by decide +kernel)) rfl (fun _ _ _ _ _ => rfl) (fun A outer s H E f c2 hr2 => (pe_m1K C3 ⟨rfl, rfl, rfl, rfl, rfl⟩ (hr2.mono (by decide)) (pass_up (takes_of rfl rfl rfl rfl)) (pv 0) (pa_cons (pv 1) pa_nil)))) (pe_lst (pa_cons pe_str (pa_cons (pe_callB rep (by rfl) Z.b_repr boot_repr (pa_cons (pv 1) pa_nil)) pa_nil))) (nomark _)) (pss_one (ps_ret pe_bl)) pss_nil)
      (pss_cons (ps_if (pt_cmpR (op_neD hr.units) (LamX.pe_lamcall (k := 6) (T := tabT K) (TT := TTry K) (by rfl) Z.g_law_tried FT.kp lkT cgT bT sc_law_tried rfl (Or.inl rfl) (tried_gives W gu (by exact room)) TB hcode (List.mem_singleton.mpr rfl) one_tab (hr.mono (by decide)) (show LamX.LamS (defScope s_law_refused_right) _ from LamX.lamS_by (by decide +kernel)) rfl (fun _ _ _ _ _ => rfl) (fun A outer s H E f c2 hr2 => (pe_m1K C4 ⟨rfl, rfl, rfl, rfl, rfl⟩ (hr2.mono (by decide)) (pass_up (takes_of rfl rfl rfl rfl)) (pv 0) (pa_cons (pv 1) pa_nil)))) (pe_lst (pa_cons pe_str (pa_cons (pe_callB rep (by rfl) Z.b_repr boot_repr (pa_cons (pv 1) pa_nil)) pa_nil))) (nomark _)) (pss_one (ps_ret pe_bl)) pss_nil)
      (pss_one (ps_if (PW.pt (pw_or (pt_cmpR (op_neD hr.units) (LamX.pe_lamcall (k := 6) (T := tabT K) (TT := TTry K) (by rfl) Z.g_law_tried FT.kp lkT cgT bT sc_law_tried rfl (Or.inl rfl) (tried_gives W gu (by exact room)) TB hcode (List.mem_singleton.mpr rfl) one_tab (hr.mono (by decide)) (show LamX.LamS (defScope s_law_refused_right) _ from LamX.lamS_by (by decide +kernel)) rfl (fun _ _ _ _ _ => rfl) (fun A outer s H E f c2 hr2 => (pe_m1K C5 ⟨rfl, rfl, rfl, rfl, rfl⟩ (hr2.mono (by decide)) (pass_up (takes_of rfl rfl rfl rfl)) (pv 0) (pa_cons (pv 1) pa_nil)))) (pe_lst (pa_cons pe_str (pa_cons (pe_callB rep (by rfl) Z.b_repr boot_repr (pa_cons (pv 1) pa_nil)) pa_nil))) (nomark _)) (pw_or1 (pt_cmpR (op_inM C2 (hr.mono (by decide)) pass0) (pv 1) (pv 0) rfl)))) (pss_one (ps_ret pe_bl)) pss_nil))))))
      (pss_cons (ps_for PassesOwn.never rfl (pi_seq (pe_lst (pa_cons pe_non (pa_cons pe_int (pa_cons pe_int (pa_cons pe_bl (pa_cons pe_str (pa_cons (pe_un un_neg pe_int) pa_nil)))))))) (pg_name (i := 1) sc_law_refused_right.nd rfl (Or.inr rfl)) (pss_one (ps_if (pt_cmpR (op_neD hr.units) (LamX.pe_lamcall (k := 6) (T := tabT K) (TT := TTry K) (by rfl) Z.g_law_tried FT.kp lkT cgT bT sc_law_tried rfl (Or.inl rfl) (tried_gives W gu (by exact room)) TB hcode (List.mem_singleton.mpr rfl) one_tab (hr.mono (by decide)) (show LamX.LamS (defScope s_law_refused_right) _ from LamX.lamS_by (by decide +kernel)) rfl (fun _ _ _ _ _ => rfl) (fun A outer s H E f c2 hr2 => (pe_m1K C6 ⟨rfl, rfl, rfl, rfl, rfl⟩ (hr2.mono (by decide)) (pass_up (takes_of rfl rfl rfl rfl)) (pv 0) (pa_cons (pv 1) pa_nil)))) (pe_lst (pa_cons pe_str (pa_cons (pe_callB rep (by rfl) Z.b_repr boot_repr (pa_cons (pv 1) pa_nil)) pa_nil))) (nomark _)) (pss_one (ps_ret pe_bl)) pss_nil)))
      (pss_one (ps_ret pe_bl)))), ?_⟩
    refine ⟨(by show 1 ≤ sizeLine; decide), fun tp ntp => ?_⟩
    have q1 := Same.new (o := .tup [.str "a"]) ntp
    have htp1 : (upd H tp (.tup [.str "a"])) tp = some (.tup [.str "a"]) := upd_same
    generalize upd H tp (.tup [.str "a"]) = HA at q1 htp1 ⊢
    refine ⟨(by show 7 ≤ sizeLine; decide), fun zl nzl => ?_⟩
    have q2 := Same.new (o := .lst ((thS tp).map (·.1))) nzl
    have hz : (upd HA zl (.lst ((thS tp).map (·.1)))) zl = some (.lst ((thS tp).map (·.1))) := upd_same
    have htp := q2 _ _ htp1
    have eH : upd HA zl (.lst [.non, .str "", .str "zzzz", .int 0, .ref tp, .bl true, .str "A"]) = upd HA zl (.lst ((thS tp).map (·.1))) := rfl
    rw [eH]
    generalize upd HA zl (.lst ((thS tp).map (·.1))) = H0 at q2 hz htp ⊢
    have q := q1.trans q2
    have b0 := b.same q
    have tabs0 := tabs.ext q
    refine ⟨zl, rfl, .inl ⟨⟨_, SqL.of hz⟩, ?_⟩⟩
    refine for_list (K := K) (a := zl) (xs := (thS tp).map (·.1)) (fun i σ H4 => ∃ s1 : Option V, σ = [some (.ref x), s1] ∧ ExtN H0 H4 ∧ Tabs (tabT K) H4) ⟨none, rfl, ExtN.refl H0, tabs0⟩ (fun i σ H4 _ ⟨_, _, e, _⟩ => SqL.of (e _ _ hz (fun _ z => by cases z))) ?_ ?_
    · rintro i y σ H4 hi' ⟨s1, rfl, e0, u0⟩
      obtain ⟨p, hp, rfl⟩ := List.mem_map.mp (List.mem_of_getElem? hi')
      obtain ⟨rok, rsk⟩ := thS_ok hp
      have noS := thS_no nos hp
      have thing : ∀ G, ExtN H0 G → Thing K G p := fun G e => thS_thing (e _ _ htp (fun _ z => by cases z)) hp
      -- sub
      refine ⟨u0, fun G e u => ?_⟩
      have e1a := e0.trans e
      have bb := b0.xn e1a
      have th := thing _ e1a
      refine ⟨_, rfl, _, rfl, x, a.dx, bFs a, rfl, bb.at_, x, B, a, p.1, p.2.2, rfl, bb, th.ts, ifF noS ?_⟩
      intro d G2 nd s2 hd
      have dp2 := (thing _ (e1a.trans (ExtN.of s2))).dp
      refine ⟨"NoSkill", "skill", "skill", d, p.1, p.2.1, .inl ⟨rfl, rfl, rfl⟩, rfl, rfl, hd, dp2, rok, fun L nL => ?_⟩
      have s3 := s2.trans (Same.new (o := .lst [.str "skill", .str (rT p.2.1)]) nL)
      have hL : (upd G2 L (.lst [.str "skill", .str (rT p.2.1)])) L = some (.lst [.str "skill", .str (rT p.2.1)]) := upd_same
      generalize upd G2 L (.lst [.str "skill", .str (rT p.2.1)]) = G3 at s3 hL ⊢
      have e1b := e1a.trans (ExtN.of s3)
      refine ⟨_, rfl, p.1, p.2.1, rfl, (thing _ e1b).dp, rok, (by show 2 ≤ sizeLine; decide), fun L2 nL2 => ?_⟩
      have s4 := Same.new (o := .lst [.str "skill", .str (rT p.2.1)]) nL2
      have hL2 : (upd G3 L2 (.lst [.str "skill", .str (rT p.2.1)])) L2 = some (.lst [.str "skill", .str (rT p.2.1)]) := upd_same
      have hL1 := s4 _ _ hL
      generalize upd G3 L2 (.lst [.str "skill", .str (rT p.2.1)]) = G4 at s4 hL2 hL1 ⊢
      have e1 := e1b.trans (ExtN.of s4)
      have u1 := u.ext (s3.trans s4)
      have ly := lay_told (w := "skill") rsk words_ok.1
      refine ⟨_, _, .lst (SqL.of hL1) (.cons (.str _) (.cons (.str _) .nil)), .lst (SqL.of hL2) (.cons (.str _) (.cons (.str _) .nil)), ly.shaped (by decide), ly.shaped (by decide), ?_⟩
      rw [SeqAt.eqv_refl _ ly.1]
      refine ⟨_, rfl, ifF rfl ?_⟩
      clear bb th dp2 hL hL1 hL2 s2 s3 s4 hd nd nL nL2 u
      -- price_of
      refine ⟨u1, fun G e u => ?_⟩
      have e2a := e1.trans e
      have bb := b0.xn e2a
      have th := thing _ e2a
      refine ⟨_, rfl, x, a.dx, bFs a, rfl, bb.at_, rfl, _, rfl, x, B, a, p.1, p.2.2, rfl, bb, th.ts, ifF noS ?_⟩
      intro d G2 nd s2 hd
      have dp2 := (thing _ (e2a.trans (ExtN.of s2))).dp
      refine ⟨"NoSkill", "skill", "skill", d, p.1, p.2.1, .inl ⟨rfl, rfl, rfl⟩, rfl, rfl, hd, dp2, rok, fun L nL => ?_⟩
      have s3 := s2.trans (Same.new (o := .lst [.str "skill", .str (rT p.2.1)]) nL)
      have hL : (upd G2 L (.lst [.str "skill", .str (rT p.2.1)])) L = some (.lst [.str "skill", .str (rT p.2.1)]) := upd_same
      generalize upd G2 L (.lst [.str "skill", .str (rT p.2.1)]) = G3 at s3 hL ⊢
      have e2b := e2a.trans (ExtN.of s3)
      refine ⟨_, rfl, p.1, p.2.1, rfl, (thing _ e2b).dp, rok, (by show 2 ≤ sizeLine; decide), fun L2 nL2 => ?_⟩
      have s4 := Same.new (o := .lst [.str "skill", .str (rT p.2.1)]) nL2
      have hL2 : (upd G3 L2 (.lst [.str "skill", .str (rT p.2.1)])) L2 = some (.lst [.str "skill", .str (rT p.2.1)]) := upd_same
      have hL1 := s4 _ _ hL
      generalize upd G3 L2 (.lst [.str "skill", .str (rT p.2.1)]) = G4 at s4 hL2 hL1 ⊢
      have e2 := e2b.trans (ExtN.of s4)
      have u2 := u.ext (s3.trans s4)
      have ly := lay_told (w := "skill") rsk words_ok.1
      refine ⟨_, _, .lst (SqL.of hL1) (.cons (.str _) (.cons (.str _) .nil)), .lst (SqL.of hL2) (.cons (.str _) (.cons (.str _) .nil)), ly.shaped (by decide), ly.shaped (by decide), ?_⟩
      rw [SeqAt.eqv_refl _ ly.1]
      refine ⟨_, rfl, ifF rfl ?_⟩
      clear bb th dp2 hL hL1 hL2 s2 s3 s4 hd nd nL nL2 u
      -- given_by
      refine ⟨u2, fun G e u => ?_⟩
      have e3a := e2.trans e
      have bb := b0.xn e3a
      have th := thing _ e3a
      refine ⟨_, rfl, x, a.dx, bFs a, rfl, bb.at_, rfl, _, rfl, x, B, a, p.1, p.2.2, rfl, bb, th.ts, ifF noS ?_⟩
      intro d G2 nd s2 hd
      have dp2 := (thing _ (e3a.trans (ExtN.of s2))).dp
      refine ⟨"NoSkill", "skill", "skill", d, p.1, p.2.1, .inl ⟨rfl, rfl, rfl⟩, rfl, rfl, hd, dp2, rok, fun L nL => ?_⟩
      have s3 := s2.trans (Same.new (o := .lst [.str "skill", .str (rT p.2.1)]) nL)
      have hL : (upd G2 L (.lst [.str "skill", .str (rT p.2.1)])) L = some (.lst [.str "skill", .str (rT p.2.1)]) := upd_same
      generalize upd G2 L (.lst [.str "skill", .str (rT p.2.1)]) = G3 at s3 hL ⊢
      have e3b := e3a.trans (ExtN.of s3)
      refine ⟨_, rfl, p.1, p.2.1, rfl, (thing _ e3b).dp, rok, (by show 2 ≤ sizeLine; decide), fun L2 nL2 => ?_⟩
      have s4 := Same.new (o := .lst [.str "skill", .str (rT p.2.1)]) nL2
      have hL2 : (upd G3 L2 (.lst [.str "skill", .str (rT p.2.1)])) L2 = some (.lst [.str "skill", .str (rT p.2.1)]) := upd_same
      have hL1 := s4 _ _ hL
      generalize upd G3 L2 (.lst [.str "skill", .str (rT p.2.1)]) = G4 at s4 hL2 hL1 ⊢
      have e3 := e3b.trans (ExtN.of s4)
      have u3 := u.ext (s3.trans s4)
      have ly := lay_told (w := "skill") rsk words_ok.1
      refine ⟨_, _, .lst (SqL.of hL1) (.cons (.str _) (.cons (.str _) .nil)), .lst (SqL.of hL2) (.cons (.str _) (.cons (.str _) .nil)), ly.shaped (by decide), ly.shaped (by decide), ?_⟩
      rw [SeqAt.eqv_refl _ ly.1]
      refine ⟨_, rfl, ifF rfl ?_⟩
      clear bb th dp2 hL hL1 hL2 s2 s3 s4 hd nd nL nL2 u
      -- wants_of
      refine ⟨u3, fun G e u => ?_⟩
      have e4a := e3.trans e
      have bb := b0.xn e4a
      have th := thing _ e4a
      refine ⟨_, rfl, x, a.dx, bFs a, rfl, bb.at_, rfl, _, rfl, x, B, a, p.1, p.2.2, rfl, bb, th.ts, ifF noS ?_⟩
      intro d G2 nd s2 hd
      have dp2 := (thing _ (e4a.trans (ExtN.of s2))).dp
      refine ⟨"NoSkill", "skill", "skill", d, p.1, p.2.1, .inl ⟨rfl, rfl, rfl⟩, rfl, rfl, hd, dp2, rok, fun L nL => ?_⟩
      have s3 := s2.trans (Same.new (o := .lst [.str "skill", .str (rT p.2.1)]) nL)
      have hL : (upd G2 L (.lst [.str "skill", .str (rT p.2.1)])) L = some (.lst [.str "skill", .str (rT p.2.1)]) := upd_same
      generalize upd G2 L (.lst [.str "skill", .str (rT p.2.1)]) = G3 at s3 hL ⊢
      have e4b := e4a.trans (ExtN.of s3)
      refine ⟨_, rfl, p.1, p.2.1, rfl, (thing _ e4b).dp, rok, (by show 2 ≤ sizeLine; decide), fun L2 nL2 => ?_⟩
      have s4 := Same.new (o := .lst [.str "skill", .str (rT p.2.1)]) nL2
      have hL2 : (upd G3 L2 (.lst [.str "skill", .str (rT p.2.1)])) L2 = some (.lst [.str "skill", .str (rT p.2.1)]) := upd_same
      have hL1 := s4 _ _ hL
      generalize upd G3 L2 (.lst [.str "skill", .str (rT p.2.1)]) = G4 at s4 hL2 hL1 ⊢
      have e4 := e4b.trans (ExtN.of s4)
      have u4 := u.ext (s3.trans s4)
      have ly := lay_told (w := "skill") rsk words_ok.1
      refine ⟨_, _, .lst (SqL.of hL1) (.cons (.str _) (.cons (.str _) .nil)), .lst (SqL.of hL2) (.cons (.str _) (.cons (.str _) .nil)), ly.shaped (by decide), ly.shaped (by decide), ?_⟩
      rw [SeqAt.eqv_refl _ ly.1]
      refine ⟨_, rfl, ifF rfl ?_⟩
      clear bb th dp2 hL hL1 hL2 s2 s3 s4 hd nd nL nL2 u
      have bb := b0.xn e4
      have th := thing _ e4
      refine ⟨_, rfl, _, rfl, x, a.dx, bFs a, rfl, bb.at_, x, B, a, p.1, p.2.2, rfl, bb, th.ts, _, rfl, _, rfl, ifF noS ?_⟩
      exact ⟨_, rfl, e4, u4⟩
    · rintro σ H4 ⟨s1, rfl, eA, uA⟩
      refine ⟨1, rfl, (by show 6 ≤ sizeLine; decide), fun zn nzn => ?_⟩
      have q3 := Same.new (o := .lst (thN.map (·.1))) nzn
      have hz2 : (upd H4 zn (.lst (thN.map (·.1)))) zn = some (.lst (thN.map (·.1))) := upd_same
      have eH2 : upd H4 zn (.lst [.non, .int 0, .int 5, .bl true, .str "1", .int (-1)]) = upd H4 zn (.lst (thN.map (·.1))) := rfl
      rw [eH2]
      generalize upd H4 zn (.lst (thN.map (·.1))) = H5 at q3 hz2 ⊢
      have eB := eA.trans (ExtN.of q3)
      have uB := uA.ext q3
      refine ⟨zn, rfl, .inl ⟨⟨_, SqL.of hz2⟩, ?_⟩⟩
      refine for_list (K := K) (a := zn) (xs := thN.map (·.1)) (fun i σ H6 => ∃ s1 : Option V, σ = [some (.ref x), s1] ∧ ExtN H0 H6 ∧ Tabs (tabT K) H6 ∧ ExtN H5 H6) ⟨s1, rfl, eB, uB, ExtN.refl H5⟩ (fun i σ H6 _ ⟨_, _, _, _, e⟩ => SqL.of (e _ _ hz2 (fun _ z => by cases z))) ?_ ?_
      · rintro i y σ H6 hi' ⟨s1, rfl, e0, u0, eC⟩
        obtain ⟨p, hp, rfl⟩ := List.mem_map.mp (List.mem_of_getElem? hi')
        obtain ⟨rok, rsk⟩ := thN_ok hp
        have noN := thN_no hp
        have thing : ∀ G, ExtN H0 G → Thing K G p := fun G _ => thN_thing hp
        -- need_of
        refine ⟨u0, fun G e u => ?_⟩
        have e1a := e0.trans e
        have bb := b0.xn e1a
        have th := thing _ e1a
        refine ⟨_, rfl, x, a.dx, bFs a, rfl, bb.at_, rfl, _, rfl, x, B, a, p.1, p.2.2, rfl, bb, th.ts, ifF noN ?_⟩
        intro d G2 nd s2 hd
        have dp2 := (thing _ (e1a.trans (ExtN.of s2))).dp
        refine ⟨"NoNumber", "value", "number", d, p.1, p.2.1, .inr ⟨rfl, rfl, rfl⟩, rfl, rfl, hd, dp2, rok, fun L nL => ?_⟩
        have s3 := s2.trans (Same.new (o := .lst [.str "number", .str (rT p.2.1)]) nL)
        have hL : (upd G2 L (.lst [.str "number", .str (rT p.2.1)])) L = some (.lst [.str "number", .str (rT p.2.1)]) := upd_same
        generalize upd G2 L (.lst [.str "number", .str (rT p.2.1)]) = G3 at s3 hL ⊢
        have e1b := e1a.trans (ExtN.of s3)
        refine ⟨_, rfl, p.1, p.2.1, rfl, (thing _ e1b).dp, rok, (by show 2 ≤ sizeLine; decide), fun L2 nL2 => ?_⟩
        have s4 := Same.new (o := .lst [.str "number", .str (rT p.2.1)]) nL2
        have hL2 : (upd G3 L2 (.lst [.str "number", .str (rT p.2.1)])) L2 = some (.lst [.str "number", .str (rT p.2.1)]) := upd_same
        have hL1 := s4 _ _ hL
        generalize upd G3 L2 (.lst [.str "number", .str (rT p.2.1)]) = G4 at s4 hL2 hL1 ⊢
        have e1 := e1b.trans (ExtN.of s4)
        have u1 := u.ext (s3.trans s4)
        have ly := lay_told (w := "number") rsk words_ok.2
        refine ⟨_, _, .lst (SqL.of hL1) (.cons (.str _) (.cons (.str _) .nil)), .lst (SqL.of hL2) (.cons (.str _) (.cons (.str _) .nil)), ly.shaped (by decide), ly.shaped (by decide), ?_⟩
        rw [SeqAt.eqv_refl _ ly.1]
        exact ⟨_, rfl, ifF rfl ⟨_, rfl, e1, u1, eC.trans (e.trans (ExtN.of (s3.trans s4)))⟩⟩
      · rintro σ H6 ⟨s2, rfl, e0, u0, _⟩
        exact k H6 ((ExtN.of q).trans e0) u0
end
end Rt
end
section
set_option Elab.async false
set_option linter.all false
set_option maxRecDepth 100000
set_option maxHeartbeats 8000000
/-! a book with the told defaults -/
namespace Rt
open PySem PySem.Spec PyProof.Rows L2
theorem mk_book0 {P : Program} {w : World} {K : PySem.W.Frag} {mg : Str → Option Value} {base : Heap} (Z : All K mg) : ∃ fd ds, FnOk P w K mg base CX0 7 (He.ma K (BC K) "__init__") fd initPs (spInit K) ∧ Vals ((dI.kws K).map (·.2)) ds ∧ Binds K fd initPs ds := by
  obtain ⟨fd, F⟩ := Z.f_Book_init
  obtain ⟨ds, v, b⟩ := F.binds0 (ps := initPs) 3 (by intro e; cases e) rfl (fun D doc pm an cdv ct us ks l1 l2 => by
    match us, ks, l1, l2 with
    | [_, _, _], [_, _, _, _, _, _], _, _ => exact ⟨_, _, _, _, _, _, rfl, rfl, _, _, _, _, _, _, rfl, rfl, _, _, _, _, _, _, rfl, rfl, _, _, _, _, _, _, rfl, rfl, _, _, _, _, _, _, rfl, rfl, _, _, _, _, _, _, rfl, rfl, rfl⟩)
  exact ⟨fd, ds, ok_init Z F, v, b⟩
/-- the one skill's book -/
def B0 : Bk := ⟨[("a", 1)], 0, [], [], [], [], [], none⟩
end Rt
namespace Rt
open PySem PySem.Spec PyProof.Rows L2
theorem B0_s : SkillsR B0.sk := (⟨⟨N1, 1, .inl rfl, rfl⟩, by decide, by decide, .cons (fun _ h => nomatch h) .nil, fun r h => by
  have e : r = (("a", 1) : Str × Int) := List.mem_singleton.mp h
  rw [e]
  decide⟩ : Skills B0.sk).r
theorem B0_r : BkR B0 where
  sk := B0_s
  pt := ⟨by decide, by decide⟩
  na := .nil
  nb := fun _ h => nomatch h
  w := fun _ h => nomatch h
  wl := Nat.zero_le _
  bars := ⟨fun _ h => (nomatch h), List.Pairwise.nil⟩
  b4 := Nat.zero_le _
  gives := ⟨fun _ h => (nomatch h), List.Pairwise.nil⟩
  prices := ⟨fun _ h => (nomatch h), List.Pairwise.nil⟩
  reset := fun _ h => nomatch h
theorem B0_l : BkL B0 := ⟨fun z h => by
  have e : z = "a" := List.mem_singleton.mp h
  rw [e]
  decide +kernel, B0_r⟩
theorem kws_at (K : PySem.W.Frag) : (dI.kws K).map (·.2) = [.ref (kwdAt ("Book", some "__init__") "needs" K), .ref (kwdAt ("Book", some "__init__") "wants" K), .ref (kwdAt ("Book", some "__init__") "bars" K), .ref (kwdAt ("Book", some "__init__") "gives" K), .ref (kwdAt ("Book", some "__init__") "prices" K), .non] := rfl

open LamX (ExtN Tabs TabB)
theorem sqL_xn {K : PySem.W.Frag} {H H' : Hp} {a : Addr} {xs : List V} (e : ExtN H H') (h : SqL K H a xs) : SqL K H' a xs := by
  rcases h with (h | ⟨o, h⟩) | h
  · exact .inl (.inl (e _ _ h fun _ z => by cases z))
  · exact .inl (.inr ⟨o, e _ _ h fun _ z => by cases z⟩)
  · exact .inr h
/-- all ten parts as data -/
def dTen (B : Bk) : PyData := .list [.list (B.sk.map dS), .int B.points, .list (B.nd.map dI2), .list (B.wl.map dWt), .list (B.bars.map tB), .list (B.gives.map dS), .list (B.prices.map dS), dR B.reset, .list (B.ns.map PyData.str), .list (B.ns.map PyData.str)]
theorem lay_ten {B : Bk} (l : BkL B) : Lay 5 (dTen B) := .lst (.cons ((Lay.lst l.sk).mono (by decide)) (.cons .int (.cons ((Lay.lst (lay_I (l := B.nd))).mono (by decide)) (.cons (Lay.lst l.wl) (.cons ((Lay.lst l.bars).mono (by decide)) (.cons ((Lay.lst l.gives).mono (by decide)) (.cons ((Lay.lst l.prices).mono (by decide)) (.cons (lay_R _) (.cons (Lay.lst (lay_strA l.ns)) (.cons (Lay.lst (lay_strA l.ns)) .nil)))))))))) 
/-- a list of the ten parts, each a list of rows -/
structure TenL (H : Hp) (L : Addr) (B : Bk) : Prop where
  at_ : ∃ (l1 l3 l4 l5 l6 l7 n1 n2 : Addr) (x1 x3 x4 x5 x6 x7 : List V), H L = some (.lst [.ref l1, .int B.points, .ref l3, .ref l4, .ref l5, .ref l6, .ref l7, oV B.reset, .ref n1, .ref n2]) ∧
    H l1 = some (.lst x1) ∧ H l3 = some (.lst x3) ∧ H l4 = some (.lst x4) ∧ H l5 = some (.lst x5) ∧ H l6 = some (.lst x6) ∧ H l7 = some (.lst x7) ∧ H n1 = some (.lst (B.ns.map V.str)) ∧ H n2 = some (.lst (B.ns.map V.str)) ∧
    Rws H x1 (B.sk.map rS) ∧ Rws H x3 (B.nd.map rI2) ∧ Wws H x4 B.wl ∧ Rws H x5 (B.bars.map rB) ∧ Rws H x6 (B.gives.map rS) ∧ Rws H x7 (B.prices.map rS)
theorem TenL.same {H H' : Hp} {L : Addr} {B : Bk} (h : TenL H L B) (s : Same H H') : TenL H' L B := by
  obtain ⟨l1, l3, l4, l5, l6, l7, n1, n2, x1, x3, x4, x5, x6, x7, h0, h1, h3, h4, h5, h6, h7, h8, h9, r1, r3, r4, r5, r6, r7⟩ := h.at_
  exact ⟨l1, l3, l4, l5, l6, l7, n1, n2, x1, x3, x4, x5, x6, x7, s _ _ h0, s _ _ h1, s _ _ h3, s _ _ h4, s _ _ h5, s _ _ h6, s _ _ h7, s _ _ h8, s _ _ h9, r1.same s, r3.same s, r4.tk (Tk.of s), r5.same s, r6.same s, r7.same s⟩
theorem TenL.dp {K : PySem.W.Frag} {H : Hp} {L : Addr} {B : Bk} (h : TenL H L B) : Dp K H (.ref L) (dTen B) := by
  obtain ⟨l1, l3, l4, l5, l6, l7, n1, n2, x1, x3, x4, x5, x6, x7, h0, h1, h3, h4, h5, h6, h7, h8, h9, r1, r3, r4, r5, r6, r7⟩ := h.at_
  exact .lst (SqL.of h0) (.cons (.lst (SqL.of h1) (dp_S r1)) (.cons (.int _) (.cons (.lst (SqL.of h3) (dp_I r3)) (.cons (.lst (SqL.of h4) (dp_W r4)) (.cons (.lst (SqL.of h5) (dp_bars r5)) (.cons (.lst (SqL.of h6) (dp_S r6)) (.cons (.lst (SqL.of h7) (dp_S r7))
    (.cons (dp_R _) (.cons (dp_strs (SqL.of h8)) (.cons (dp_strs (SqL.of h9)) .nil))))))))))
theorem TenAt.l {K : PySem.W.Frag} {H H' : Hp} {L x : Addr} {B : Bk} {a : BoA} (t : TenAt H H' L B a) (b : BookAt K H x B a) : TenL H' L B := by
  obtain ⟨l1, l3, l4, l5, l6, l7, n1, n2, h0, h1, h3, h4, h5, h6, h7, h8, h9, _⟩ := t.at_
  have c := b.same t.same
  exact ⟨l1, l3, l4, l5, l6, l7, n1, n2, a.x1, a.x3, a.x4, a.x5, a.x6, a.x7, h0, h1, h3, h4, h5, h6, h7, h8, h9, c.r1, c.r3, c.r4, c.r5, c.r6, c.r7⟩
theorem bk_same {H H' : Hp} {d : Addr} {B : Bk} (h : BkAt H d B) (s : Same H H') : BkAt H' d B := by
  obtain ⟨a1, a3, a4, a5, a6, a7, hd, ⟨x1, l1, r1⟩, ⟨x3, l3, r3⟩, ⟨x4, l4, r4⟩, ⟨x5, l5, r5⟩, ⟨x6, l6, r6⟩, ⟨x7, l7, r7⟩⟩ := h.at_
  exact ⟨a1, a3, a4, a5, a6, a7, s _ _ hd, ⟨x1, s _ _ l1, r1.same s⟩, ⟨x3, s _ _ l3, r3.same s⟩, ⟨x4, s _ _ l4, r4.tk (Tk.of s)⟩, ⟨x5, s _ _ l5, r5.same s⟩, ⟨x6, s _ _ l6, r6.same s⟩, ⟨x7, s _ _ l7, r7.same s⟩⟩
theorem no_names : ((["", "zzzz", "A"] : List Str).all fun z => decide (z ∉ N1) && decide (z ∉ N2)) = true := by decide +kernel
theorem skills_no {sk : List (Str × Int)} (h : Skills sk) : ∀ z ∈ (["", "zzzz", "A"] : List Str), z ∉ sk.map (·.1) := fun z hz hm => by
  obtain ⟨N, n, hN, e⟩ := h.names
  obtain ⟨h1, h2⟩ := He.ba (List.all_eq_true.mp no_names z hz)
  rw [e] at hm
  have m := List.mem_of_mem_take hm
  rcases hN with rfl | rfl
  · exact of_decide_eq_true h1 m
  · exact of_decide_eq_true h2 m
theorem lay_names {B : Bk} (l : BkL B) : Lay 1 (.list (B.ns.map PyData.str)) := .lst (lay_strA l.ns)
theorem le_of_sub {α : Type} [DecidableEq α] : ∀ {xs ys : List α}, xs.Nodup → (∀ x ∈ xs, x ∈ ys) → xs.length ≤ ys.length
  | [], _, _, _ => Nat.zero_le _
  | x :: xs, ys, nd, h => by
    rw [List.nodup_cons] at nd
    have hx := h x List.mem_cons_self
    have z := le_of_sub (xs := xs) (ys := ys.erase x) nd.2 fun y hy => (List.mem_erase_of_ne (fun e => nd.1 (by rw [← e]; exact hy))).mpr (h y (List.mem_cons_of_mem _ hy))
    rw [List.length_erase_of_mem hx] at z
    have := List.length_pos_of_mem hx
    rw [List.length_cons]
    omega
theorem told_len {ns : List Str} {lo hi : Int} {gs : List (Str × Int)} (h : ToldOk ns lo hi gs) {n : Nat} (le : ns.length ≤ n) : gs.length ≤ n := by
  have z := le_of_sub h.nd fun x hx => by
    obtain ⟨g, hg, e⟩ := List.mem_map.mp hx
    exact e ▸ (h.in_ g hg).1
  rw [List.length_map] at z
  omega
theorem nd_len {B : Bk} (h : BkR B) : B.nd.length ≤ 100 := by
  have z := le_of_sub (ys := ([2, 3, 4] : List Int)) (h.na.imp fun hlt e => by omega) fun x hx => by
    obtain ⟨r, hr, e⟩ := List.mem_map.mp hx
    have b := (h.nb r hr).1
    have : x = 2 ∨ x = 3 ∨ x = 4 := by omega
    simpa using this
  rw [List.length_map] at z
  have : ([2, 3, 4] : List Int).length = 3 := rfl
  omega
end Rt
end
section
set_option Elab.async false
set_option linter.all false
set_option maxRecDepth 100000
set_option maxHeartbeats 8000000
/-! the law itself -/
namespace Rt
open PySem PySem.Spec PyProof.Rows L2
open LamX (ExtN Tabs TabB)
def spLaw (K : PySem.W.Frag) : SpG := fun vs H Q => ∃ (a : Addr) (ns : List Int), vs = [.ref a] ∧ SqL K H a (ns.map V.int) ∧ Tabs (tabT K) H ∧ ∀ H', Q (.bl true) H'
section
variable {P : Program} {w : World} {K : PySem.W.Frag} {mg : Str → Option Value} {base : Heap}
theorem fn_law (W : AllX K mg) (TB : TabB base mg (lamC K "_law_refused_right") (lamP K "_law_refused_right")) : ∃ fd, FnG P w K mg base 13 (He.ga K "law") fd ["_law_script"] (spLaw K) ∧ Binds K fd ["_law_script"] [] := by
  have Z := W.z
  obtain ⟨fd, F⟩ := Z.f_law
  obtain ⟨fr, FR, FRk⟩ := fn_refused (P := P) (w := w) (base := base) W TB
  obtain ⟨fi, ds, FI, vds, bi⟩ := mk_book0 (P := P) (w := w) (base := base) Z
  have C_law_pool : Cal P w K mg base CX0 1 "_law_pool" ["_law_script", "_law_k"] (spPool K) := cal_law_pool Z
  have C_law_take : Cal P w K mg base CX0 1 "_law_take" ["_law_pool_here", "_law_bound"] spTake := cal_law_take Z
  have C_law_book : Cal P w K mg base CX0 4 "_law_book" ["_law_pool_here", "_law_top", "_law_sort"] spBook := cal_law_book Z
  have C_law_made_of_lists : Cal P w K mg base CX0 9 "_law_made_of_lists" ["_law_book_here"] (spMade K) := cal_law_made_of_lists Z
  have C_law_made : Cal P w K mg base CX0 9 "_law_made" ["_law_book_here"] (spMade K) := cal_law_made Z
  have C_law_names : Cal P w K mg base CX0 1 "_law_names" ["_law_book_here"] spNamesOf := cal_law_names Z
  have C_law_parts : Cal P w K mg base CX0 3 "_law_parts" ["_law_made_here"] (spTen K) := cal_law_parts W
  have C_law_skills_right : Cal P w K mg base CX0 8 "_law_skills_right" ["_law_book_here", "_law_made_here"] (spSkillsR K) := cal_law_skills_right W
  have Ce : CalM P w K mg base CX0 1 "__eq__" ["self", "other"] (spEqM K) := calm_eq W
  have Cn : CalM P w K mg base CX0 1 "__len__" ["self"] (spLen K) := calm_len Z
  have Ci : CalM P w K mg base CX0 1 "__iter__" ["self"] (spIter K) := calm_iter Z
  have Cp : CalM P w K mg base (L2.CX P w) 5 "price_of" ["self", "skill"] (spAsk K fPrice) := calm_price_of W
  have bF : Binds K fd ["_law_script"] [] := F.bindsN (fun _ _ _ _ _ _ us hl => match us, hl with | [_], _ => rfl)
  refine ⟨fd, FnG.of F sc_law bF (fun vs H Q h => ?_) (fun cdv A outer s H vs Q hcd gu0 hr h => ?_), bF⟩
  · obtain ⟨a, ns, rfl, _⟩ := h
    rfl
  · obtain ⟨a, ns, rfl, ha, tabs, k⟩ := h
    have gu : (A.deeper (envOfC "law" (defScope s_law) s.heap.objs.size (He.ga K "law") cdv)).guards = some [] := gu0
    refine ⟨_, (pss_cons (ps_for PassesOwn.never rfl (pi_range1 (by rfl) Z.b_range (pa_cons (pe_callB (call_max2 rfl) (by rfl) Z.b_max PyProof.Rows.boot_max (pa_cons pe_int (pa_cons (pe_callB (call_min2 rfl) (by rfl) Z.b_min PyProof.Rows.boot_min (pa_cons pe_int (pa_cons (pe_callB call_len (by rfl) Z.b_len PySem.boot_len (pa_cons (pv 0) pa_nil)) pa_nil))) pa_nil))) pa_nil)) (pg_name (i := 1) sc_law.nd rfl (Or.inl rfl)) (pss_cons (ps_set (i := 2) sc_law.nd rfl (Or.inl rfl) (pe_cal C_law_pool (hr.mono (by decide)) (by rfl) pass0 (pa_cons (pv 0) (pa_cons (pv 1) pa_nil))))
      (pss_cons (ps_set (i := 3) sc_law.nd rfl (Or.inr rfl) (pe_cal C_law_book (hr.mono (by decide)) (by rfl) pass0 (pa_cons (pv 2) (pa_cons pe_int (pa_cons (pe_cal C_law_take (hr.mono (by decide)) (by rfl) pass0 (pa_cons (pv 2) (pa_cons pe_int pa_nil))) pa_nil)))))
      (pss_cons (ps_set (i := 4) sc_law.nd rfl (Or.inl rfl) (pe_cal C_law_made_of_lists (hr.mono (by decide)) (by rfl) pass0 (pa_cons (pv 3) pa_nil)))
      (pss_cons (ps_setLc (i := 5) (own := [("_law_part", 8)]) (by rfl) sc_law.nd rfl rfl (sw_true rfl rfl rfl (by decide +kernel)) (pi_seq (pe_lst (pa_cons pe_str (pa_cons pe_str (pa_cons pe_str (pa_cons pe_str (pa_cons pe_str pa_nil))))))) (blkOk_by (own := [("_law_part", 8)]) (N := ["_law_script", "_law_k", "_law_pool_here", "_law_book_here", "_law_made_here", "_law_parts_here", "_law_wanted", "_law_row", "_law_part"]) (sc := defScope s_law) (by decide +kernel)) (fun _ _ _ _ _ => (pg_name (i := 8) sc_law.nd rfl (Or.inl rfl))) (fun _ _ _ _ _ => pts_nil) (fun _ _ _ _ _ => (pe_callTy (show CallR _ _ (rListOf K) from call_listOf) (by rfl) Z.b_list PyProof.Rows.boot_list (pa_cons (pe_dget (hu_of hr) (pv 3) (pv 8) (fun _ _ => rfl)) pa_nil))))
      (pss_cons (ps_set (i := 6) sc_law.nd rfl (Or.inl rfl) (pe_op op_cat (pe_op op_cat (pe_lst (pa_cons (pe_callTy call_list_of (by rfl) Z.b_list PyProof.Rows.boot_list (pa_cons (pe_dget (hu_of hr) (pv 3) pe_str (fun _ _ => rfl)) pa_nil)) (pa_cons (pe_dget (hu_of hr) (pv 3) pe_str (fun _ _ => rfl)) pa_nil))) (pv 5)) (pe_lst (pa_cons (pe_dget (hu_of hr) (pv 3) pe_str (fun _ _ => rfl)) (pa_cons (pe_cal C_law_names (hr.mono (by decide)) (by rfl) pass0 (pa_cons (pv 3) pa_nil)) (pa_cons (pe_cal C_law_names (hr.mono (by decide)) (by rfl) pass0 (pa_cons (pv 3) pa_nil)) pa_nil))))))
      (pss_cons (ps_if (PW.pt (pw_or (pt_cmpR (op_neD hr.units) (pe_cal C_law_parts (hr.mono (by decide)) (by rfl) pass0 (pa_cons (pv 4) pa_nil)) (pv 6) (nomark _)) (pw_or1 (pt_cmpR op_ne (pe_callB (call_lenM Cn (hr.mono (by decide)) pass0) (by rfl) Z.b_len PySem.boot_len (pa_cons (pv 4) pa_nil)) (pe_callB call_len (by rfl) Z.b_len PySem.boot_len (pa_cons (pe_dget (hu_of hr) (pv 3) pe_str (fun _ _ => rfl)) pa_nil)) (nomark _))))) (pss_one (ps_ret pe_bl)) pss_nil)
      (pss_cons (ps_if (pt_cmpR (op_neD hr.units) (pe_callTy (call_listM Ci Cn (hr.mono (by decide))) (by rfl) Z.b_list PyProof.Rows.boot_list (pa_cons (pv 4) pa_nil)) (pe_cal C_law_names (hr.mono (by decide)) (by rfl) pass0 (pa_cons (pv 3) pa_nil)) (nomark _)) (pss_one (ps_ret pe_bl)) pss_nil)
      (pss_cons (ps_for PassesOwn.never rfl (pi_seq (pe_cal C_law_parts (hr.mono (by decide)) (by rfl) pass0 (pa_cons (pv 4) pa_nil))) (pg_name (i := 7) sc_law.nd rfl (Or.inl rfl)) (pss_one (ps_if (pt_val (pe_callB (call_is (cn := "list") (by decide)) (by rfl) Z.b_isinstance boot_isinstance (pa_cons (pv 7) (pa_cons (pe_bltn (v := .ty "list") (by rfl) Z.b_list PyProof.Rows.boot_list rfl) pa_nil)))) (pss_one (ps_expr (pe_bm PySem.F.plainAttrs_list PySem.F.slot_list_append PySem.F.type_list_append mt_append (pv 7) (pa_cons pe_non pa_nil)))) pss_nil)))
      (pss_cons (ps_if (PW.pt (pw_or (pt_cmpR (op_neD hr.units) (pe_cal C_law_parts (hr.mono (by decide)) (by rfl) pass0 (pa_cons (pv 4) pa_nil)) (pv 6) (nomark _)) (pw_or (pt_cmpR (op_neM W Ce (hr.mono (by decide)) pass0) (pv 4) (pe_cal C_law_made (hr.mono (by decide)) (by rfl) pass0 (pa_cons (pv 3) pa_nil)) (nomark _)) (pw_or1 (pt_cmpR (op_eqM Ce (hr.mono (by decide)) pass0) (pv 4) (pv 3) (nomark _)))))) (pss_one (ps_ret pe_bl)) pss_nil)
      (pss_one (ps_if (PW.pt (pw_or (pt_not (pt_val (pe_cal C_law_skills_right (hr.mono (by decide)) (by rfl) pass0 (pa_cons (pv 3) (pa_cons (pv 4) pa_nil))))) (pw_or1 (pt_not (pt_val (pe_callG FR gu (hr.mono (by decide)) (by rfl) Z.g_law_refused_right FRk (pa_cons (pv 4) pa_nil))))))) (pss_one (ps_ret pe_bl)) pss_nil))))))))))))
      (pss_cons (ps_set (i := 4) sc_law.nd rfl (Or.inl rfl) (pe_make Z.k_Book FI (hr.mono (by decide)) (by rfl) Z.g_Book bi vds pass0 (pa_cons (pe_lst (pa_cons (pe_tup (pa_cons pe_str (pa_cons pe_int pa_nil))) pa_nil)) (pa_cons pe_int pa_nil))))
      (pss_one (ps_ret (pe_and (pe_cmpR (op_eqD hr.units) (pe_cal C_law_parts (hr.mono (by decide)) (by rfl) pass0 (pa_cons (pv 4) pa_nil)) (pe_lst (pa_cons (pe_lst (pa_cons (pe_tup (pa_cons pe_str (pa_cons pe_int pa_nil))) pa_nil)) (pa_cons pe_int (pa_cons (pe_lst pa_nil) (pa_cons (pe_lst pa_nil) (pa_cons (pe_lst pa_nil) (pa_cons (pe_lst pa_nil) (pa_cons (pe_lst pa_nil) (pa_cons pe_non (pa_cons (pe_lst (pa_cons pe_str pa_nil)) (pa_cons (pe_lst (pa_cons pe_str pa_nil)) pa_nil))))))))))) (nomark _)) (pe_one (pe_cmpR op_eq (pe_m1 Cp (hr.mono (by decide)) passL (pv 4) (pa_cons pe_str pa_nil)) pe_int (nomark _)))))))), ?_⟩
    refine for_rng_by (fun n H' => 0 ≤ n ∧ n ≤ 10 ∧ H' = H) (fun Q kQ => ?_) ?_
    · refine ⟨_, rfl, _, (ns.map V.int).length, rfl, .inl ⟨_, ha, rfl⟩, _, _, rfl, _, _, rfl, kQ _ _ ⟨?_, ?_, rfl⟩⟩
      · split <;> split <;> omega
      · split <;> split <;> omega
    rintro n H' ⟨n0, n1, rfl⟩
    refine ⟨by omega, by omega, fun i σ G => ∃ s1 s2 s3 s4 s5 s6 s7 : Option V, σ = [some (.ref a), s1, s2, s3, s4, s5, s6, s7, none] ∧ ExtN H' G ∧ Tabs (tabT K) G, ⟨none, none, none, none, none, none, none, rfl, ExtN.refl H', tabs⟩, ?_, ?_⟩
    · rintro i σ G0 hi ⟨s1, s2, s3, s4, s5, s6, s7, rfl, e0, t0⟩
      have ha0 := sqL_xn e0 ha
      -- the pool
      refine ⟨_, rfl, _, rfl, a, ns, _, rfl, ha0, by omega, by omega, fun p G1 np s01 pool1 => ?_⟩
      -- the drawn book
      refine ⟨_, rfl, _, rfl, p, 5, rfl, pool1, by decide, by decide, fun srt G2 r0 r5 af2 => ?_⟩
      refine ⟨p, 7, srt, rfl, af2.pool, by decide, by decide, r0, by omega, fun d B G3 nd af3 bk3 ok => ?_⟩
      have s03 : Same G0 G3 := fun b o h => af3.keep b o (ne_of_none h np) (af2.keep b o (ne_of_none h np) (s01 b o h))
      have l := ok.l
      have ly := lay_ten l
      -- the book, of lists that are emptied behind
      refine ⟨_, rfl, d, B, rfl, bk3, ok.r, fun x at4 G4 nx s34 b4 => ?_⟩
      have bk4 := bk_same bk3 s34
      obtain ⟨a1, a3, a4, a5, a6, a7, x1, x3, x4, x5, x6, x7, hd4, ls4⟩ := bk4.lists
      have s04 := s03.trans s34
      -- the copies of the parts
      refine ⟨(by show 5 ≤ sizeLine; decide), fun zl nzl => ?_⟩
      have sZ := Same.new (o := .lst [.str "needs", .str "wants", .str "bars", .str "gives", .str "prices"]) nzl
      have hZ : (upd G4 zl (.lst [.str "needs", .str "wants", .str "bars", .str "gives", .str "prices"])) zl = some (.lst [.str "needs", .str "wants", .str "bars", .str "gives", .str "prices"]) := upd_same
      generalize upd G4 zl (.lst [.str "needs", .str "wants", .str "bars", .str "gives", .str "prices"]) = HZ at sZ hZ ⊢
      have part : ∀ (i : Nat) (y : V), ([.str "needs", .str "wants", .str "bars", .str "gives", .str "prices"] : List V)[i]? = some y → ∃ (z : Str) (a : Addr) (xs : List V), y = .str z ∧ valV (bkL a1 B.points a3 a4 a5 a6 a7 (oV B.reset)) (.inr z) = some (.ref a) ∧ G4 a = some (.lst xs) ∧ [x3, x4, x5, x6, x7][i]? = some xs := fun i y h => by
        rcases i with _ | _ | _ | _ | _ | i
        · cases h; exact ⟨_, a3, x3, rfl, rfl, ls4.l3, rfl⟩
        · cases h; exact ⟨_, a4, x4, rfl, rfl, ls4.l4, rfl⟩
        · cases h; exact ⟨_, a5, x5, rfl, rfl, ls4.l5, rfl⟩
        · cases h; exact ⟨_, a6, x6, rfl, rfl, ls4.l6, rfl⟩
        · cases h; exact ⟨_, a7, x7, rfl, rfl, ls4.l7, rfl⟩
        · cases h
      refine ⟨zl, rfl, lc_seqS (.inl (SqL.of hZ)) (fun D i Hx => Same HZ Hx ∧ ∃ bs : List Addr, Hx D = some (.lst (bs.map V.ref)) ∧ Paired (fun b xs => Hx b = some (.lst xs)) bs ([x3, x4, x5, x6, x7].take i) ∧ bs.length ≤ i ∧ D ∉ bs)
        (fun D nD => ⟨Same.new nD, [], upd_same, .nil, Nat.le_refl _, fun h => nomatch h⟩) (fun D i Hx P => P.1) (fun D nD i y Hx hi' ⟨sx, bs, hD, pr, bl, nb⟩ => ?_) fun Lp G5 nL ⟨sx, bs, hL, pr, bl, nb⟩ => ?_⟩
      · obtain ⟨z, a, xs, rfl, ev, ha, ec⟩ := part i y hi'
        have i6 : i < 5 := (List.getElem?_eq_some_iff.mp hi').1
        have hd2 := sx _ _ (sZ _ _ hd4)
        refine ⟨rfl, _, rfl, _, rfl, d, .ref a, rfl, ev ▸ DGet.k (k := .inr z) hd2, a, xs, rfl, .inl (SqL.of (sx _ _ (sZ _ _ ha))), fun b nb2 => ?_⟩
        have sb := Same.new (o := .lst xs) nb2
        have hD2 := sb _ _ hD
        have bD : b ≠ D := (ne_of_none hD nb2).symm
        refine ⟨bs.map V.ref, hD2, line_of (m := 6) (by rw [List.length_map]; omega) (by decide), fun c o hc => ?_, bs ++ [b], by rw [upd_same, List.map_append]; rfl, ?_, by rw [List.length_append]; show bs.length + 1 ≤ i + 1; omega, fun h => ?_⟩
        · rw [upd_ne (ne_of_none hc nD)]
          exact sb _ _ (sx _ _ hc)
        · rw [take_one ec]
          have keep : ∀ {us : List Addr} {ws : List (List V)}, Paired (fun b xs => Hx b = some (.lst xs)) us ws → D ∉ us → Paired (fun c ys => (upd (upd Hx b (.lst xs)) D (.lst (bs.map V.ref ++ [.ref b]))) c = some (.lst ys)) (us ++ [b]) (ws ++ [xs]) := fun {us ws} p => by
            induction p with
            | nil =>
              intro _
              exact .cons (by rw [upd_ne bD]; exact upd_same) .nil
            | @cons c ys us ws r t ih =>
              intro h
              exact .cons (by rw [upd_ne (fun e => h (by rw [e]; exact List.mem_cons_self))]; exact sb _ _ r) (ih fun hm => h (List.mem_cons_of_mem _ hm))
          exact keep pr nb
        · rcases List.mem_append.mp h with h | h
          · exact nb h
          · exact bD (List.mem_singleton.mp h).symm
      obtain ⟨b3, b4', b5, b6, b7, rfl, g3, g4, g5, g6, g7⟩ : ∃ b3 b4 b5 b6 b7, bs = [b3, b4, b5, b6, b7] ∧ G5 b3 = some (.lst x3) ∧ G5 b4 = some (.lst x4) ∧ G5 b5 = some (.lst x5) ∧ G5 b6 = some (.lst x6) ∧ G5 b7 = some (.lst x7) := by
        cases pr with
        | cons h1 pr => cases pr with
          | cons h2 pr => cases pr with
            | cons h3 pr => cases pr with
              | cons h4 pr => cases pr with
                | cons h5 pr =>
                  cases pr
                  exact ⟨_, _, _, _, _, rfl, h1, h2, h3, h4, h5⟩
      clear pr
      have s45 := sZ.trans sx
      have s05 := s04.trans s45
      have ls5 := ls4.same s45
      have hd5 := s45 _ _ hd4
      -- what is wanted
      refine ⟨_, rfl, d, .ref a1, rfl, DGet.k (k := .inr "skills") hd5, a1, x1, rfl, .inl (SqL.of ls5.l1), fun c1 nc1 => ?_⟩
      have sc1 := Same.new (o := .lst x1) nc1
      have hc1 : (upd G5 c1 (.lst x1)) c1 = some (.lst x1) := upd_same
      generalize upd G5 c1 (.lst x1) = G6 at sc1 hc1 ⊢
      refine ⟨_, rfl, d, .int B.points, rfl, DGet.k (k := .inr "points") (sc1 _ _ hd5), (by show 2 ≤ sizeLine; decide), fun u1 nu1 => ?_⟩
      have su1 := Same.new (o := .lst [.ref c1, .int B.points]) nu1
      have hu1 : (upd G6 u1 (.lst [.ref c1, .int B.points])) u1 = some (.lst [.ref c1, .int B.points]) := upd_same
      generalize upd G6 u1 (.lst [.ref c1, .int B.points]) = G7 at su1 hu1 ⊢
      have s57 := sc1.trans su1
      refine ⟨_, rfl, u1, Lp, _, _, rfl, rfl, hu1, s57 _ _ hL, (by show 2 + 5 ≤ sizeLine; decide), fun u2 nu2 => ?_⟩
      have su2 := Same.new (o := .lst ([.ref c1, .int B.points] ++ [b3, b4', b5, b6, b7].map V.ref)) nu2
      have hu2 : (upd G7 u2 (.lst ([.ref c1, .int B.points] ++ [b3, b4', b5, b6, b7].map V.ref))) u2 = some (.lst ([.ref c1, .int B.points] ++ [b3, b4', b5, b6, b7].map V.ref)) := upd_same
      generalize upd G7 u2 (.lst ([.ref c1, .int B.points] ++ [b3, b4', b5, b6, b7].map V.ref)) = G8 at su2 hu2 ⊢
      have s58 := s57.trans su2
      have s48 := s45.trans s58
      have n60 : B.sk.length ≤ 60 := Nat.le_trans ok.sk.le (by decide)
      refine ⟨_, rfl, d, oV B.reset, rfl, DGet.k (k := .inr "reset") (s48 _ _ hd4), _, rfl, d, B, rfl, bk_same bk4 s48, n60, fun m1 G9 nm1 s89 hm1 => ?_⟩
      refine ⟨_, rfl, d, B, rfl, bk_same bk4 (s48.trans s89), n60, fun m2 GA nm2 s9A hm2 => ?_⟩
      refine ⟨(by show 3 ≤ sizeLine; decide), fun u3 nu3 => ?_⟩
      have su3 := Same.new (o := .lst [oV B.reset, .ref m1, .ref m2]) nu3
      have hu3 : (upd GA u3 (.lst [oV B.reset, .ref m1, .ref m2])) u3 = some (.lst [oV B.reset, .ref m1, .ref m2]) := upd_same
      generalize upd GA u3 (.lst [oV B.reset, .ref m1, .ref m2]) = GB at su3 hu3 ⊢
      have s8B := (s89.trans s9A).trans su3
      refine ⟨u2, u3, _, _, rfl, rfl, s8B _ _ hu2, hu3, (by show 7 + 3 ≤ sizeLine; decide), fun wa nwa => ?_⟩
      have swa := Same.new (o := .lst (([.ref c1, .int B.points] ++ [b3, b4', b5, b6, b7].map V.ref) ++ [oV B.reset, .ref m1, .ref m2])) nwa
      have hwa : (upd GB wa (.lst (([.ref c1, .int B.points] ++ [b3, b4', b5, b6, b7].map V.ref) ++ [oV B.reset, .ref m1, .ref m2]))) wa = some (.lst (([.ref c1, .int B.points] ++ [b3, b4', b5, b6, b7].map V.ref) ++ [oV B.reset, .ref m1, .ref m2])) := upd_same
      generalize upd GB wa (.lst (([.ref c1, .int B.points] ++ [b3, b4', b5, b6, b7].map V.ref) ++ [oV B.reset, .ref m1, .ref m2])) = GC at swa hwa ⊢
      have s8C := s8B.trans swa
      have s4C := s48.trans s8C
      have s0C := s04.trans s4C
      have s5C := s58.trans s8C
      have lsC := ls4.same s4C
      have wt : TenL GC wa B := ⟨c1, b3, b4', b5, b6, b7, m1, m2, x1, x3, x4, x5, x6, x7, hwa, ((su1.trans su2).trans s8C) _ _ hc1, s5C _ _ g3, s5C _ _ g4, s5C _ _ g5, s5C _ _ g6, s5C _ _ g7, ((s9A.trans su3).trans swa) _ _ hm1, (su3.trans swa) _ _ hm2, lsC.r1, lsC.r3, lsC.r4, lsC.r5, lsC.r6, lsC.r7⟩
      have bC := b4.same s4C
      have bkC := bk_same bk4 s4C
      have hdC := s4C _ _ hd4
      have t0C := t0.ext s0C
      clear sZ hZ sx hL nb bl g3 g4 g5 g6 g7 s45 s05 ls5 hd5 sc1 hc1 su1 hu1 s57 su2 hu2 s58 s48 s89 hm1 s9A hm2 su3 hu3 s8B swa hwa s8C s5C part
      -- the ten parts, and how many
      refine ⟨_, rfl, x, B, at4, rfl, bC, fun L1 GD ten1 => ⟨_, rfl, _, _, (ten1.l bC).dp, (wt.same ten1.same).dp, ly.shaped (by decide), ly.shaped (by decide), ?_⟩⟩
      rw [SeqAt.eqv_refl _ ly.1]
      refine ⟨_, rfl, ifF rfl ?_⟩
      have s4D := s4C.trans ten1.same
      have bD := b4.same s4D
      have lsD := ls4.same s4D
      have x1l : x1.length = B.sk.length := by rw [lsD.r1.len, List.length_map]
      have nsl : B.ns.length = B.sk.length := List.length_map ..
      refine ⟨_, rfl, x, at4.dx, bFs at4, rfl, bD.at_, x, B, at4, rfl, bD, _, rfl, by omega, by have := ok.sk.le; omega, ?_⟩
      refine ⟨_, rfl, d, .ref a1, rfl, DGet.k (k := .inr "skills") (s4D _ _ hd4), _, x1.length, rfl, .inl ⟨_, SqL.of lsD.l1, rfl⟩, ?_⟩
      refine ⟨rfl, _, rfl, ifF (by rw [nsl, x1l, decide_eq_true rfl]; rfl) ?_⟩
      -- its list
      refine ⟨_, rfl, x, at4.dx, at4.nm, bFs at4, B.ns.map V.str, rfl, bD.at_, bD.names, by rw [List.length_map, nsl]; exact line_of (m := 7) ok.sk.le (by decide), fun G sG => ?_, fun G sG => ?_, fun l1 GE nl1 sDE hl1 => ?_⟩
      · exact ⟨x, B, at4, rfl, bD.same sG, fun it nit => ⟨it, rfl, nit, rfl⟩⟩
      · exact ⟨x, B, at4, rfl, bD.same sG, rfl, _, rfl, by omega, by have := ok.sk.le; omega⟩
      have s4E := s4D.trans sDE
      refine ⟨_, rfl, d, B, rfl, bk_same bk4 s4E, n60, fun l2 GF nl2 sEF hl2 => ?_⟩
      have ln := lay_names l
      refine ⟨_, _, dp_strs (SqL.of (sEF _ _ hl1)), dp_strs (SqL.of hl2), ln.shaped (by decide), ln.shaped (by decide), ?_⟩
      rw [SeqAt.eqv_refl _ ln.1]
      refine ⟨_, rfl, ifF rfl ?_⟩
      have s4F := s4E.trans sEF
      have bF' := b4.same s4F
      have sCF := (ten1.same.trans sDE).trans sEF
      -- the lists that were told are changed
      refine ⟨_, rfl, x, B, at4, rfl, bF', fun L2 GG ten2 => ?_⟩
      have bG := bF'.same ten2.same
      obtain ⟨l1', l3', l4', l5', l6', l7', n1', n2', h0, h1, h3, h4, h5, h6, h7, h8, h9, fr8, nd8, nL8⟩ := ten2.at_
      refine ⟨L2, rfl, .inl ⟨⟨_, SqL.of h0⟩, ?_⟩⟩
      have xG := bG
      have len1 : at4.x1.length ≤ 12 := by rw [xG.r1.len, List.length_map]; exact Nat.le_trans ok.sk.le (by decide)
      have len3 : at4.x3.length ≤ 100 := by rw [xG.r3.len, List.length_map]; exact nd_len l.r
      have len4 : at4.x4.length ≤ 12 := by rw [xG.r4.len]; exact l.r.wl
      have len5 : at4.x5.length ≤ 4 := by rw [xG.r5.len, List.length_map]; exact l.r.b4
      have len6 : at4.x6.length ≤ 60 := by rw [xG.r6.len, List.length_map]; exact told_len l.r.gives (by rw [nsl]; exact n60)
      have len7 : at4.x7.length ≤ 60 := by rw [xG.r7.len, List.length_map]; exact told_len l.r.prices (by rw [nsl]; exact n60)
      have lenN : (B.ns.map V.str).length ≤ 60 := by rw [List.length_map, nsl]; exact n60
      refine for_list (K := K) (a := L2) (xs := [.ref l1', .int B.points, .ref l3', .ref l4', .ref l5', .ref l6', .ref l7', oV B.reset, .ref n1', .ref n2'])
        (fun j σ HH => ∃ t : Option V, σ = [some (.ref a), some (.int (0 + (i : Int))), some (.ref p), some (.ref d), some (.ref x), some (.ref Lp), some (.ref wa), t, none] ∧ Same GF HH ∧ HH L2 = some (.lst [.ref l1', .int B.points, .ref l3', .ref l4', .ref l5', .ref l6', .ref l7', oV B.reset, .ref n1', .ref n2']) ∧ ∀ c ∈ [l1', l3', l4', l5', l6', l7', n1', n2'], ∃ xs, HH c = some (.lst xs) ∧ xs.length ≤ 100 + j)
        ⟨s7, rfl, ten2.same, h0, fun c hc => ?_⟩ (fun j σ HH _ ⟨_, _, _, q, _⟩ => SqL.of q) ?_ ?_
      · simp only [List.mem_cons, List.not_mem_nil, or_false] at hc
        rcases hc with rfl | rfl | rfl | rfl | rfl | rfl | rfl | rfl
        · exact ⟨_, h1, by omega⟩
        · exact ⟨_, h3, by omega⟩
        · exact ⟨_, h4, by omega⟩
        · exact ⟨_, h5, by omega⟩
        · exact ⟨_, h6, by omega⟩
        · exact ⟨_, h7, by omega⟩
        · exact ⟨_, h8, by omega⟩
        · exact ⟨_, h9, by omega⟩
      · rintro j y σ HH hj ⟨t, rfl, sH, hL2, hb⟩
        have j10 : j < 10 := (List.getElem?_eq_some_iff.mp hj).1
        have my := List.mem_of_getElem? hj
        have two : (∃ c ∈ [l1', l3', l4', l5', l6', l7', n1', n2'], y = .ref c) ∨ ∃ T : String, Ts K HH y T ∧ answ T "list" = false := by
          simp only [List.mem_cons, List.not_mem_nil, or_false] at my
          rcases my with rfl | rfl | rfl | rfl | rfl | rfl | rfl | rfl | rfl | rfl
          · exact .inl ⟨l1', by simp, rfl⟩
          · exact .inr ⟨"int", .int _, by decide⟩
          · exact .inl ⟨l3', by simp, rfl⟩
          · exact .inl ⟨l4', by simp, rfl⟩
          · exact .inl ⟨l5', by simp, rfl⟩
          · exact .inl ⟨l6', by simp, rfl⟩
          · exact .inl ⟨l7', by simp, rfl⟩
          · cases B.reset with
            | none => exact .inr ⟨"NoneType", .non, by decide⟩
            | some r => exact .inr ⟨"int", .int _, by decide⟩
          · exact .inl ⟨n1', by simp, rfl⟩
          · exact .inl ⟨n2', by simp, rfl⟩
        rcases two with ⟨c, hc, rfl⟩ | ⟨T, ts, no⟩
        · obtain ⟨xs, hx, lx⟩ := hb c hc
          refine ⟨_, rfl, .ref c, "list", rfl, .lst hx, _, rfl, ifT (by decide) ?_⟩
          refine ⟨_, rfl, .inl ⟨rfl, _, SqL.of hx⟩, c, xs, _, rfl, rfl, hx, line_of (m := 1000) (by omega) (by decide), ?_⟩
          refine ⟨_, rfl, fun u o hu => ?_, ?_, fun u hu => ?_⟩
          · rw [upd_ne (ne_of_none hu (fr8 c hc))]
            exact sH _ _ hu
          · rw [upd_ne (fun e => nL8 (by rw [e]; exact hc))]
            exact hL2
          · by_cases e : u = c
            · rw [e]
              exact ⟨_, upd_same, by rw [List.length_append]; show xs.length + 1 ≤ _; omega⟩
            · obtain ⟨ys, hy, ly2⟩ := hb u hu
              rw [upd_ne e]
              exact ⟨ys, hy, by omega⟩
        · refine ⟨_, rfl, y, T, rfl, ts, _, rfl, ifF no ?_⟩
          exact ⟨_, rfl, sH, hL2, fun u hu => let ⟨ys, hy, ly2⟩ := hb u hu; ⟨ys, hy, by omega⟩⟩
      · rintro σ HH ⟨t, rfl, sH, hL2, hb⟩
        clear hb hL2 h0 h1 h3 h4 h5 h6 h7 h8 h9 fr8 nd8 nL8 len1 len3 len4 len5 len6 len7 lenN
        have s4H := s4F.trans sH
        have bH := b4.same s4H
        have bkH := bk_same bk4 s4H
        -- again
        refine ⟨_, rfl, x, B, at4, rfl, bH, fun L3 GI ten3 => ⟨_, rfl, _, _, (ten3.l bH).dp, (wt.same ((sCF.trans sH).trans ten3.same)).dp, ly.shaped (by decide), ly.shaped (by decide), ?_⟩⟩
        rw [SeqAt.eqv_refl _ ly.1]
        refine ⟨_, rfl, ifF rfl ?_⟩
        have s4I := s4H.trans ten3.same
        -- the same book made once more; the dict
        refine ⟨_, rfl, _, rfl, d, B, rfl, bk_same bk4 s4I, l.r, fun xx aa GJ nxx sIJ bb => ?_⟩
        have s4J := s4I.trans sIJ
        have bJ := b4.same s4J
        refine ⟨x, at4.dx, bFs at4, .ref (BC K), rfl, bJ.at_, .inl ⟨xx, aa.dx, bFs aa, rfl, bb.at_, rfl⟩, x, B, at4, .ref xx, rfl, bJ, .inl ⟨xx, aa, rfl, bb, l, true, rfl, ?_⟩⟩
        refine ⟨_, rfl, ifF rfl ?_⟩
        refine ⟨_, rfl, _, rfl, x, at4.dx, bFs at4, .type "dict", rfl, bJ.at_, .inr ⟨d, _, rfl, s4J _ _ hd4, rfl, W.x.book.sd⟩, x, B, at4, .ref d, rfl, bJ, .inr ⟨d, _, rfl, s4J _ _ hd4, false, rfl, ?_⟩⟩
        refine ⟨_, rfl, ifF rfl ?_⟩
        -- each skill; what is none
        have nos := skills_no ok.sk
        refine ⟨_, rfl, _, rfl, d, x, B, at4, rfl, bk_same bk4 s4J, bJ, l, fun GK sJK => ⟨true, rfl, ifF rfl ?_⟩⟩
        have s4K := s4J.trans sJK
        have s0K := s04.trans s4K
        refine ⟨_, rfl, x, B, at4, rfl, b4.same s4K, nos, t0.ext s0K, fun GL eKL tL => ⟨true, rfl, ifF rfl ?_⟩⟩
        exact ⟨_, _, _, _, _, _, _, rfl, (e0.trans (ExtN.of s0K)).trans eKL, tL⟩
    · rintro σ G ⟨s1, s2, s3, s4, s5, s6, s7, rfl, e0, t0⟩
      have emp : ∀ f ∈ (["needs", "wants", "bars", "gives", "prices"] : List Str), PlainE K (kwdAt ("Book", some "__init__") f K) := fun f hf => W.x.empty hf
      refine ⟨(by show 2 ≤ sizeLine; decide), fun tp ntp => ⟨(by show 1 ≤ sizeLine; decide), fun la nla => fun x dx nx ndx ne => ?_⟩⟩
      have st := Same.new (o := .tup [.str "a", .int 1]) ntp
      have htp : (upd G tp (.tup [.str "a", .int 1])) tp = some (.tup [.str "a", .int 1]) := upd_same
      generalize upd G tp (.tup [.str "a", .int 1]) = G1 at st htp nla nx ndx ⊢
      have sl := Same.new (o := .lst [.ref tp]) nla
      have hla : (upd G1 la (.lst [.ref tp])) la = some (.lst [.ref tp]) := upd_same
      have htp2 := sl _ _ htp
      generalize upd G1 la (.lst [.ref tp]) = G2 at sl hla htp2 nx ndx ⊢
      have sm : Same G2 (upd (upd G2 dx (.own x)) x (.ins (BC K) dx [])) := fun c o hc => by
        rw [upd_ne (ne_of_none hc nx), upd_ne (ne_of_none hc ndx)]
        exact hc
      refine ⟨x, dx, B0, la, _, _, _, _, _, [.ref tp], [], [], [], [], [], rfl, upd_same, ⟨.inl (sm _ _ hla), .cons ⟨tp, rfl, sm _ _ htp2⟩ .nil, .inr ⟨rfl, emp "needs" (by simp)⟩, .nil, .inr ⟨rfl, emp "wants" (by simp)⟩, .nil, .inr ⟨rfl, emp "bars" (by simp)⟩, .nil, .inr ⟨rfl, emp "gives" (by simp)⟩, .nil, .inr ⟨rfl, emp "prices" (by simp)⟩, .nil⟩, B0_r, fun G3 a0 but _ b0 => ⟨rfl, ?_⟩⟩
      have ly := lay_ten B0_l
      refine ⟨_, rfl, x, B0, a0, rfl, b0, fun L G4 ten => ?_⟩
      have tl := ten.l b0
      have b4 := b0.same ten.same
      refine ⟨(by show 2 ≤ sizeLine; decide), fun tq ftq => ?_⟩
      have stq := Same.new (o := .tup [.str "a", .int 1]) ftq
      have htq : (upd G4 tq (.tup [.str "a", .int 1])) tq = some (.tup [.str "a", .int 1]) := upd_same
      generalize upd G4 tq (.tup [.str "a", .int 1]) = K0 at stq htq ⊢
      refine ⟨(by show 1 ≤ sizeLine; decide), fun l1 fl1 => ?_⟩
      have sl1 := Same.new (o := .lst [.ref tq]) fl1
      have hl1 : (upd K0 l1 (.lst [.ref tq])) l1 = some (.lst [.ref tq]) := upd_same
      generalize upd K0 l1 (.lst [.ref tq]) = K1 at sl1 hl1 ⊢
      refine ⟨(by show 0 ≤ sizeLine; decide), fun l3 fl3 => ?_⟩
      have sl3 := Same.new (o := .lst []) fl3
      have hl3 : (upd K1 l3 (.lst [])) l3 = some (.lst []) := upd_same
      generalize upd K1 l3 (.lst []) = K2 at sl3 hl3 ⊢
      refine ⟨(by show 0 ≤ sizeLine; decide), fun l4 fl4 => ?_⟩
      have sl4 := Same.new (o := .lst []) fl4
      have hl4 : (upd K2 l4 (.lst [])) l4 = some (.lst []) := upd_same
      generalize upd K2 l4 (.lst []) = K3 at sl4 hl4 ⊢
      refine ⟨(by show 0 ≤ sizeLine; decide), fun l5 fl5 => ?_⟩
      have sl5 := Same.new (o := .lst []) fl5
      have hl5 : (upd K3 l5 (.lst [])) l5 = some (.lst []) := upd_same
      generalize upd K3 l5 (.lst []) = K4 at sl5 hl5 ⊢
      refine ⟨(by show 0 ≤ sizeLine; decide), fun l6 fl6 => ?_⟩
      have sl6 := Same.new (o := .lst []) fl6
      have hl6 : (upd K4 l6 (.lst [])) l6 = some (.lst []) := upd_same
      generalize upd K4 l6 (.lst []) = K5 at sl6 hl6 ⊢
      refine ⟨(by show 0 ≤ sizeLine; decide), fun l7 fl7 => ?_⟩
      have sl7 := Same.new (o := .lst []) fl7
      have hl7 : (upd K5 l7 (.lst [])) l7 = some (.lst []) := upd_same
      generalize upd K5 l7 (.lst []) = K6 at sl7 hl7 ⊢
      refine ⟨(by show 1 ≤ sizeLine; decide), fun n1 fn1 => ?_⟩
      have sn1 := Same.new (o := .lst [.str "a"]) fn1
      have hn1 : (upd K6 n1 (.lst [.str "a"])) n1 = some (.lst [.str "a"]) := upd_same
      generalize upd K6 n1 (.lst [.str "a"]) = K7 at sn1 hn1 ⊢
      refine ⟨(by show 1 ≤ sizeLine; decide), fun n2 fn2 => ?_⟩
      have sn2 := Same.new (o := .lst [.str "a"]) fn2
      have hn2 : (upd K7 n2 (.lst [.str "a"])) n2 = some (.lst [.str "a"]) := upd_same
      generalize upd K7 n2 (.lst [.str "a"]) = K8 at sn2 hn2 ⊢
      refine ⟨(by show 10 ≤ sizeLine; decide), fun Lw fLw => ?_⟩
      have sLw := Same.new (o := .lst [.ref l1, .int 0, .ref l3, .ref l4, .ref l5, .ref l6, .ref l7, .non, .ref n1, .ref n2]) fLw
      have hLw : (upd K8 Lw (.lst [.ref l1, .int 0, .ref l3, .ref l4, .ref l5, .ref l6, .ref l7, .non, .ref n1, .ref n2])) Lw = some (.lst [.ref l1, .int 0, .ref l3, .ref l4, .ref l5, .ref l6, .ref l7, .non, .ref n1, .ref n2]) := upd_same
      generalize upd K8 Lw (.lst [.ref l1, .int 0, .ref l3, .ref l4, .ref l5, .ref l6, .ref l7, .non, .ref n1, .ref n2]) = K9 at sLw hLw ⊢
      have q9 := sLw
      have q8 := sn2.trans q9
      have q7 := sn1.trans q8
      have q6 := sl7.trans q7
      have q5 := sl6.trans q6
      have q4 := sl5.trans q5
      have q3 := sl4.trans q4
      have q2 := sl3.trans q3
      have q1 := sl1.trans q2
      have q0 := stq.trans q1
      have wl : TenL K9 Lw B0 := ⟨l1, l3, l4, l5, l6, l7, n1, n2, [.ref tq], [], [], [], [], [], hLw, q2 _ _ hl1, q3 _ _ hl3, q4 _ _ hl4, q5 _ _ hl5, q6 _ _ hl6, q7 _ _ hl7, q8 _ _ hn1, q9 _ _ hn2, .cons ⟨tq, rfl, q1 _ _ htq⟩ .nil, .nil, .nil, .nil, .nil, .nil⟩
      have b9 := b4.same q0
      refine ⟨_, _, (tl.same q0).dp, wl.dp, ly.shaped (by decide), ly.shaped (by decide), ?_⟩
      rw [SeqAt.eqv_refl _ ly.1]
      refine ⟨true, rfl, ifT rfl ?_⟩
      refine ⟨_, rfl, x, a0.dx, bFs a0, rfl, b9.at_, rfl, x, B0, a0, .str "a", "str", rfl, b9, .str "a", ifT (by decide) ?_⟩
      intro z ez
      cases ez
      refine ⟨rfl, ?_⟩
      exact k _
end
end Rt
end
section
set_option Elab.async false
set_option linter.all false
set_option maxRecDepth 100000
set_option maxHeartbeats 4000000
/-! the end: a law whose promise is told where no repr is under way; one table of code objects -/
namespace Rt
open PySem PySem.Spec PyProof.Rows L2
open LamX (ExtN Tabs TabB)
theorem law_end {P : Program} {w : World} {K : PySem.W.Frag} {mg mb : Str → Option Value} {k : Nat} {fa a c T : Addr} {fd : FuncData} {x : Str} {sp : SpG} {s : Shared} {vs : List Value} {ns : List Int}
    (kin : K.In s.heap) (glob : s.heap.Ns mainGlobals mg) (bltn : s.heap.Ns builtinsNs mb) (boot : ∀ x : Str, x ≠ "__name__" → mb x = bootBuiltins x) (lim : s.heap.NoLimit) (gens : s.gens = #[])
    (tab : s.heap.get? T = some { cls := .none, data := .fields #[] }) (tabK : K.lookup T = none) (hd : PySem.W.CodeHd s.heap c T)
    (bmod : ∃ (bm : Addr) (ob : Obj), mg "__builtins__" = some (.ref bm) ∧ bm ≠ builtinsNs ∧ s.heap.get? bm = some ob ∧ ob.cls = .type "module" ∧ ob.dict = some builtinsNs ∧ ob.data = .plain)
    (scr : s.heap.get? a = some { cls := .type "list", data := .seq vs.toArray }) (isI : IntsAre vs ns) (fits : ns.length ≤ sizeLine) (hr : Room k callerA)
    (F : ∀ base : Heap, K.In base → base.Ns mainGlobals mg → TabB base mg c T → FnG P w K mg base k fa fd [x] sp)
    (told : ∀ H : Hp, H T = some (.tbl #[]) → SqL K H a (ns.map V.int) → sp [.ref a] H (fun v _ => v = .bl true)) :
    codeAny (model P w) callerA (.call (.ref fa) ⟨[.ref a], []⟩) (fun r s' => r = .ok (.ret (.bool true)) ∧ OldK s.heap s'.heap ∧ s'.os = s.os ∧ AllBare s'.gens) s := by
  have rv := vals_ints isI
  have vl := isI.length
  have ne : a ≠ T := fun z => by
    rw [z, tab] at scr
    cases scr
  obtain ⟨gO, gEs, gEp, gGet, gDat, gRest⟩ := id glob
  have nG : mainGlobals ≠ T := fun z => by
    rw [z, tab] at gGet
    cases gGet
    cases gDat
  -- whatever is tracked: the table, and maybe the script
  have go : ∀ H : Hp, H T = some (.tbl #[]) → (∀ b, b ≠ T → H b = none ∨ (b = a ∧ K.lookup a = none ∧ ∃ o ys, H b = some (.frz o (.lst ys)))) → SqL K H a (ns.map V.int) → HOk P w H s.heap →
      codeAny (model P w) callerA (.call (.ref fa) ⟨[.ref a], []⟩) (fun r s' => r = .ok (.ret (.bool true)) ∧ OldK s.heap s'.heap ∧ s'.os = s.os ∧ AllBare s'.gens) s := by
    intro H hT other sq hok
    have rest : ∀ {b : Addr} {o : Obj}, s.heap.get? b = some o → (∀ us n, o.data ≠ .seq us n) → o.data ≠ .fields #[] → (hidT s.heap H).get? b = some o := fun {b o} e n1 n2 => by
      refine hidT_get e ?_
      by_cases z : b = T
      · rw [z, tab] at e
        cases e
        exact (n2 rfl).elim
      · rcases other b z with q | ⟨q, _⟩
        · exact q
        · rw [q, scr] at e
          cases e
          exact (n1 _ _ rfl).elim
    have names : ∀ {b : Addr} {m : Str → Option Value}, s.heap.Ns b m → (hidT s.heap H).Ns b m := fun {b m} ⟨o, es, ep, e, d, r⟩ =>
      ⟨o, es, ep, rest e (fun _ _ z => by rw [d] at z; cases z) (fun z => by rw [d] at z; cases z), d, r⟩
    have bin : K.In (hidT s.heap H) := fun b o e => hidT_get (kin b o e) (by
      by_cases z : b = T
      · rw [z, tabK] at e
        cases e
      · rcases other b z with q | ⟨q, q2, _⟩
        · exact q
        · rw [q, q2] at e
          cases e)
    have md : L2.Mod K mg (hidT s.heap H) := ⟨bin, names glob, ⟨mb, names bltn, boot⟩, let ⟨mc, h1, h2⟩ := lim; ⟨mc, names h1, h2⟩⟩
    have tb : TabB (hidT s.heap H) mg c T := by
      refine ⟨?_, ?_, nG⟩
      · obtain ⟨o, us, file, tf, flags, tg, inF, text, tt, e1, r1, r2, r3, r⟩ := hd
        refine ⟨o, us, file, tf, flags, tg, inF, text, tt, rest e1 (fun _ _ z => ?_) fun z => ?_, r1, r2, r3, r⟩
        · rw [r2] at z
          cases z
        · rw [r2] at z
          cases z
          simp at r3
      · obtain ⟨bm, ob, b1, b2, b3, b4, b5, b6⟩ := bmod
        refine ⟨bm, ob, b1, b2, fun q => ?_, fun q => ?_, rest b3 (fun _ _ z => ?_) fun z => ?_, b4, b5, b6⟩
        · rw [q, gGet] at b3
          cases b3
          rw [gDat] at b6
          cases b6
        · rw [q, tab] at b3
          cases b3
          cases b6
        · rw [b6] at z
          cases z
        · rw [b6] at z
          cases z
    have e0 : Env0 P w K mg (hidT s.heap H) callerA [] s H := ⟨rfl, md, fun b o e => of_hidT e, Nat.le_of_eq (hidT_size _ _), trivial, fun b hb => absurd (show b ∈ ([] : List Addr) from hb) (by simp), hok, .of_eq gens⟩
    refine codeAny_mono ((F _ bin (names glob) tb).run callerA [] s H [.ref a] [.ref a] _ rfl hr e0 (.cons rfl .nil) (told H hT sq)) fun r s' h => ?_
    match r, h with
    | .error e, h => exact (show False from h).elim
    | .ok .next, h => exact False.elim h
    | .ok .brk, h => exact False.elim h
    | .ok .cont, h => exact False.elim h
    | .ok (.ret u), h =>
      obtain ⟨v, H', os, bare, un, hok', rv', q⟩ := h
      have q : v = .bl true := q
      subst q
      obtain rfl : u = Value.bool true := rv'
      have stay : ∀ b o, b ≠ T → s.heap.get? b = some o → s'.heap.get? b = some o := fun b o z e => by
        rcases other b z with q | ⟨_, _, o2, ys, q⟩
        · exact un.keep b o e q (fun z => nomatch (show b ∈ ([] : List Addr) from z)) (by simp)
        · obtain ⟨e1, _⟩ := hok b _ q
          obtain ⟨e2, _⟩ := hok' b _ (un.frzs b o2 _ q)
          rw [e] at e1
          cases e1
          exact e2
      obtain ⟨more, gr⟩ := un.tbls T #[] hT
      have grown : s'.heap.get? T = some { cls := .none, data := .fields (#[] ++ more) } := hok' T _ gr
      refine ⟨rfl, ⟨fun b o e => ?_, fun b o e => ?_⟩, os, bare⟩
      · by_cases z : b = T
        · rw [z, tab] at e
          cases e
          exact .inr (.inl ⟨z ▸ (hd.tab tab).isCodeTable, rfl, #[], more, rfl, z ▸ grown⟩)
        · exact .inl (stay b o z e)
      · by_cases z : b = T
        · exact ⟨_, z ▸ grown⟩
        · exact ⟨o, stay b o z e⟩
  cases hk : K.lookup a with
  | some o =>
    have e := kin a o hk
    rw [scr] at e
    cases e
    refine go (fun b => if b = T then some (.tbl #[]) else none) (if_pos rfl) (fun b z => .inl (if_neg z)) (.inr ⟨_, vs.toArray, _, hk, rfl, rfl, rfl, by rw [List.size_toArray, vl]; exact fits, by simpa using rv⟩) (fun b u z => ?_)
    by_cases hb : b = T
    · have z2 := (if_pos hb).symm.trans z
      cases z2
      rw [hb]
      exact tab
    · have z2 := (if_neg hb).symm.trans z
      cases z2
  | none =>
    refine go (fun b => if b = T then some (.tbl #[]) else if b = a then some (.frz { cls := .type "list", data := .seq vs.toArray } (.lst (ns.map V.int))) else none) (if_pos rfl) (fun b z => ?_) (.inl (.inr ⟨{ cls := .type "list", data := .seq vs.toArray }, (if_neg ne).trans (if_pos rfl)⟩)) (fun b u z => ?_)
    · by_cases hb : b = a
      · exact .inr ⟨hb, hk, _, _, (if_neg z).trans (if_pos hb)⟩
      · exact .inl ((if_neg z).trans (if_neg hb))
    · by_cases hb : b = T
      · have z2 := (if_pos hb).symm.trans z
        cases z2
        rw [hb]
        exact tab
      · by_cases hb2 : b = a
        · have z2 := ((if_neg hb).trans (if_pos hb2)).symm.trans z
          cases z2
          rw [hb2]
          exact ⟨scr, by rw [List.length_map]; exact fits, vs, _, rv, scr⟩
        · have z2 := ((if_neg hb).trans (if_neg hb2)).symm.trans z
          cases z2
theorem walk_end {l : PySem.W.OpenLaw} {n k : Nat} {q : Program} {loose : List Str} {XP : (Str → Option Value) → Heap → Prop} {YP : World → Heap → Prop} {d : DefRec} {x : Str}
    (hn : l.most = some n) (hn2 : n ≤ sizeLine) (hdf : d.params.defaults = []) (hr : Room k callerA)
    (F : ∀ (w : World) (mg : Str → Option Value) (fa : Addr) (h : Heap), YP w h → h.Ns mainGlobals mg → mg d.name = some (.ref fa) → ∃ (K : PySem.W.Frag) (c T : Addr) (fd : FuncData) (sp : SpG), K.In h ∧ h.get? T = some { cls := .none, data := .fields #[] } ∧ K.lookup T = none ∧ PySem.W.CodeHd h c T ∧
      (∀ (H : Hp) (a : Addr) (ns : List Int), ns.length ≤ n → H T = some (.tbl #[]) → SqL K H a (ns.map V.int) → sp [.ref a] H (fun v _ => v = .bl true)) ∧
      ∀ base : Heap, K.In base → base.Ns mainGlobals mg → TabB base mg c T → FnG l.prog w K mg base k fa fd [x] sp) :
    PySem.W.WalkO q loose XP YP l.row.toRowW d [] (fun f vs => PySem.call f vs) := by
  refine Att.attach_callB hn hdf fun w s₀ s₁ mg mb fa o pm cd doc a vs ns G Y ho hd hcd hmg hobj hints hlen hbits hg => ?_
  obtain ⟨K, c, T, fd, sp, KX, hT, nT, C, hsp, hF⟩ := F w mg fa _ Y G.T.g hmg
  exact law_end KX G.T.g G.T.b G.T.builtins G.T.nolimit hg hT nT C G.T.bmain hobj hints (Nat.le_trans hlen hn2) hr hF fun H h1 h2 => hsp H a ns hlen h1 h2
end Rt
end
section
set_option Elab.async false
set_option linter.all false
set_option maxRecDepth 100000
set_option maxHeartbeats 0
namespace Rt
open PySem PySem.Spec PyProof.Rows L2
abbrev R : PySem.W.OpenRow := PySem.W.OpenLaw.row PySem.Challenge.rw_refundtrees_k01_books_told
abbrev hk : PySem.W.Hook := hookX
def ob (s : PySem.W.SharedT) : AlX := obsX (HandSHeadRun.getT s)
theorem ob_eq (s : PySem.W.SharedT) : ob s = hk.obs s.abs := obsX_eq (HandSHeadRun.getT_eq s)
def names1 : List Str := ["TreeError", "NoBook", "NoSkill", "NoNumber", "SMALL_LETTERS", "LONGEST_WORD", "is_number", "is_number_in", "is_word", "is_one_of", "are_unlike", "MOST_SKILLS", "LAST_TIER", "MOST_POINTS", "MOST_NEED", "MOST_WANTS", "MOST_BARS", "MOST_GIVEN", "MOST_PRICE", "wrong_part", "are_rows", "is_pair", "are_skills", "are_needs", "is_need", "are_wants", "is_want", "are_others", "are_bars", "are_told_once", "Book"]
def names2 : List Str := ["_law_pool", "_law_take", "_law_one", "_law_turned", "_law_tree", "_law_rows", "_law_book", "_law_made", "_law_names", "_law_need", "_law_price", "_law_tried", "_law_parts", "_law_made_of_lists", "_law_skills_right", "_law_refused_right"]
def names : List Str := names1 ++ names2
theorem run (w : World) : HandSHeadRun.RunEq R (PySem.W.view R.prog [52]) hk ob 6000 names w := by
  intro os
  kernel_rfl
end Rt
end
section
set_option Elab.async false
set_option linter.all false
set_option maxRecDepth 100000
set_option maxHeartbeats 0
/-! the whole: the head by its facts, the law by its walk -/
open PySem PySem.W PySem.Calls PyProof.Rows
theorem PySem.Challenge.cw_refundtrees_k01_books_told_holds : PySem.Challenge.rw_refundtrees_k01_books_told.Holds := by
  w_on; o_law
  refine HandSHeadRun.head_any (r := OpenLaw.row PySem.Challenge.rw_refundtrees_k01_books_told) (q := view (OpenLaw.row PySem.Challenge.rw_refundtrees_k01_books_told).prog [52]) (H := Rt.hk) (ob := Rt.ob) (M := 6000) (loose := Rt.names) (d := HandSHeadRun.topDef (OpenLaw.row PySem.Challenge.rw_refundtrees_k01_books_told).prog 52) (kwd := []) Rt.ob_eq
    (by kernel_rfl) (fun s => by kernel_rfl) Rt.run (by kernel_rfl) (by kernel_rfl) (by kernel_rfl) (by rfl) (by first | assumption | decide +kernel) (by decide +kernel) ⟨rfl, rfl, rfl, rfl, rfl, by decide +kernel⟩ ?hw ?hc
  case hw => w_witness2
  case hc =>
    refine Rt.walk_end (l := PySem.Challenge.rw_refundtrees_k01_books_told) (n := 63) (k := 13) (x := "_law_script") rfl (by decide) (by kernel_rfl) ⟨rfl, by decide, by decide⟩ ?F
    intro w mg fa h Y G hmg0
    obtain ⟨K, KX, c, tab⟩ := Y
    have hmg : mg ("law" : PySem.Str) = some (.ref fa) := by
      have e : (HandSHeadRun.topDef (OpenLaw.row PySem.Challenge.rw_refundtrees_k01_books_told).prog 52).name = ("law" : PySem.Str) := by kernel_rfl
      rw [← e]
      exact hmg0
    have W : Rt.AllX K mg := ⟨⟨c.d, h, KX, G⟩, c⟩
    have e := hmg.symm.trans W.z.g_law
    cases e
    obtain ⟨hd, nT⟩ := Rt.lam_ok KX c.lam
    obtain ⟨fd, _⟩ := W.z.f_law
    refine ⟨K, _, _, fd, Rt.spLaw K, KX, tab, nT, hd, fun H a ns _ hT hS => ⟨a, ns, rfl, hS, fun p hp => ?_, fun _ => rfl⟩, fun base _ _ tb => ?_⟩
    · rw [List.mem_singleton.mp hp]
      exact LamX.TabS.nil hT
    · obtain ⟨_, F, _⟩ := Rt.fn_law (P := (PySem.Challenge.rw_refundtrees_k01_books_told).prog) (w := w) (base := base) W tb
      exact ⟨F.len, F.run⟩
end
