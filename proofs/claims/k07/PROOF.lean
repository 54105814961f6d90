import PyProof.Rows.All
import Wide.All
import OpenK.AllK
import Wide.FinOn
import HandS.Base
import HandS.Call
import HandS.List
import HandS.Comp
import HandS.Ends
import HandS.Dict
import HandS.Iter
import HandS.Text
import HandS.Words
import HandS.WordsList
import HandS.WordsDict
import HandS.Wide
import HandS.IsInst
import HandS.Codes
import HandS.Property
import HandS.ClsMeth
import HandS.Defaults
import HandS.MakeKw
import HandS.CallLocal
import HandS.CallSlots
import HandS.Exc
import HandS.ExcInit
import HandS.ExcField
import HandS.ExcIs
import HandS.ExcOwn
import HandS.TryOnly
import HandS.WordsExc
import HandS.Gcd
import HandS.FStr
import HandS.StrMore
import HandS.WideBits
import HandS.Style
import HandS.OwnEq
import OpenK.KMeth
import KE.KOpsOwn
import HandS.TupAny
import PyProof.InstEq
import HandS.HotCalls
import HandS.ExcValue
import PySem.Challenge.RW_extralink_k07_errors
set_option Elab.async false
set_option linter.all false
set_option maxRecDepth 100000
/-! My own rules beside the hand layer's: an item of a list read for a store in place, a text backwards, a call by keywords alone; what is said of lists of ints as data. -/
namespace My
open PySem PySem.Spec PyProof.Rows L2

/-! ### rules -/
section
variable {X : Cx}
def rGetL (K : PySem.W.Frag) : V → V → Hp → VK → Prop := fun x y H Q => ∃ p xs i v, x = .ref p ∧ y = .int i ∧ SqL K H p xs ∧ 0 ≤ i ∧ atI xs i = some v ∧ Q v H
theorem get_list : PGet X (rGetL X.K) := by
  intro pins s σ H o i ov iv Q I ro ri h
  obtain ⟨p, xs, k, z, rfl, rfl, hq, h0, he, q⟩ := h
  cases ro
  obtain ⟨t, rfl⟩ := ri
  obtain ⟨its, r, pl, hz⟩ := I.list hq
  obtain ⟨j, h1, h2, h3, h4, h5⟩ := atI_get he
  obtain ⟨w, ew, rw'⟩ := r.get h2
  have hl := r.length
  have hn := line63
  have hj : k.toNat = j := by
    rw [seqIndex_of h0 h5] at h1
    exact Option.some.inj h1
  exact wpAny_getItem_list pl.isList h0 (by omega) (by rw [hj]; simpa using ew) ⟨z, H, I, rw', q⟩

def revS (z : Str) : Str := ⟨z.cps.reverse⟩
def tRevS (te : TE) : TE := fun σ H Q => te σ H fun x H1 => ∃ z, x = .str z ∧ z.length ≤ sizeLine ∧ Q (.str (revS z)) H1
theorem range_back (n : Nat) : sliceRange ((n : Int) - 1) (-1) (-1) = (List.range n).map fun k => n - 1 - k := by
  unfold sliceRange
  have e : (if (-1 : Int) > 0 then (if ((n : Int) - 1) < -1 then (-1 - ((n : Int) - 1) + -1 - 1) / -1 else 0) else (if ((n : Int) - 1) > -1 then (((n : Int) - 1) - -1 - -1 - 1) / (- -1) else 0)).toNat = n := by
    rw [if_neg (by decide)]
    by_cases h : ((n : Int) - 1) > -1
    · rw [if_pos h, show (- -1 : Int) = 1 by decide, Int.ediv_one]
      omega
    · rw [if_neg h]
      omega
  show List.map (fun (k : Nat) => (((n : Int) - 1) + (-1) * (k : Int)).toNat) (List.range (Int.toNat (if (-1 : Int) > 0 then (if ((n : Int) - 1) < -1 then (-1 - ((n : Int) - 1) + -1 - 1) / -1 else 0) else (if ((n : Int) - 1) > -1 then (((n : Int) - 1) - -1 - -1 - 1) / (- -1) else 0)))) = _
  rw [e]
  refine List.map_congr_left fun k hk => ?_
  have := List.mem_range.mp hk
  omega
theorem filterMap_back (z : Array Nat) : (((List.range z.size).map fun k => z.size - 1 - k).filterMap (z[·]?)) = z.toList.reverse := by
  refine List.ext_getElem? fun i => ?_
  have e : (((List.range z.size).map fun k => z.size - 1 - k).filterMap (z[·]?)) = (List.range z.size).map fun k => z.getD (z.size - 1 - k) 0 := by
    rw [List.filterMap_map]
    have : ∀ l : List Nat, (∀ k ∈ l, k < z.size) → l.filterMap ((fun x => z[x]?) ∘ fun k => z.size - 1 - k) = l.map fun k => z.getD (z.size - 1 - k) 0 := by
      intro l
      induction l with
      | nil => intro _; rfl
      | cons a r ih =>
        intro h
        have ha := h a List.mem_cons_self
        have hb : z.size - 1 - a < z.size := by omega
        rw [List.filterMap_cons]
        have e1 : ((fun x => z[x]?) ∘ fun k => z.size - 1 - k) a = some (z.getD (z.size - 1 - a) 0) := by
          show z[z.size - 1 - a]? = _
          rw [Array.getElem?_eq_getElem hb]
          simp [Array.getD, hb]
        rw [e1, List.map_cons, ih fun k hk => h k (List.mem_cons_of_mem _ hk)]
    exact this _ fun k hk => List.mem_range.mp hk
  rw [e, List.getElem?_map]
  by_cases hi : i < z.size
  · rw [List.getElem?_range hi, List.getElem?_reverse (by simpa using hi)]
    have hb : z.size - 1 - i < z.size := by omega
    simp [Array.getD, hb]
  · rw [List.getElem?_eq_none (by simpa using hi), List.getElem?_eq_none (by simpa using hi)]
    rfl
theorem pe_revS {e : Expr} {te : TE} {k : Nat} {p1 p2 p3 pos : Pos} (he : PE X e te) : PE X (.Subscript e (.Slice none none (some (.UnaryOp .USub (.Constant (.int 1) k p1) p2)) p3) pos) (tRevS te) := by
  refine ⟨fun pins s σ H Q I h => ?_⟩
  refine Subscript_ (thn (he.run pins s σ H _ I h) fun v s1 ⟨x, H1, I1, r1, q1⟩ => ?_)
  obtain ⟨z, ex, hz, q⟩ := q1
  subst ex
  obtain ⟨tz, rfl⟩ := r1
  have hst : PO X (some (.UnaryOp .USub (.Constant (.int 1) k p1) p2)) (tPart (tUn (rU fun i => .int (-i)) (tC (.int 1)))) := po_some (pe_un un_neg pe_int)
  refine wpAny_Slice (thn (po_none.run pins s1 σ H1 (fun o H2 => o = none ∧ H2 = H1) I1 ⟨rfl, rfl⟩) fun vl s2 ⟨l, H2, I2, pl, el, e2⟩ => ?_)
  subst el e2
  refine thn (po_none.run pins s2 σ H2 (fun o H3 => o = none ∧ H3 = H2) I2 ⟨rfl, rfl⟩) fun vu s3 ⟨u, H3, I3, pu, eu, e3⟩ => ?_
  subst eu e3
  refine thn (hst.run pins s3 σ H3 (fun o H4 => o = some (-1) ∧ H4 = H3) I3 ⟨1, rfl, -1, rfl, rfl, rfl⟩) fun vs s4 ⟨o, H4, I4, ps, eo, e4⟩ => ?_
  subst eo e4
  have I5 : Inv X pins σ H4 { s4 with heap := s4.heap.push { cls := .type "slice", data := .fields #[vl, vu, vs] } } := I4.kept (t' := s4.toks) fun b ob q => Heap.get?_push_of_some _ q
  obtain ⟨l, rfl, el⟩ := IsPart.raw pl
  obtain ⟨u, rfl, eu⟩ := IsPart.raw pu
  obtain ⟨st, rfl, est⟩ := IsPart.raw ps
  cases l with
  | some _ => cases el
  | none =>
  cases u with
  | some _ => cases eu
  | none =>
  cases st with
  | none => cases est
  | some st =>
  obtain ⟨k1, tk⟩ := st
  have ek : k1 = -1 := Option.some.inj est
  subst ek
  show wpAny (model X.prog X.w) X.A (subscriptTail e (.Slice none none (some (.UnaryOp .USub (.Constant (.int 1) k p1) p2)) p3) (.str z tz) (.ref s4.heap.objs.size)) (EP X pins σ Q) X.xe { s4 with heap := s4.heap.push { cls := .type "slice", data := .fields #[.none, .none, .int (-1) tk] } }
  refine tail_any (ops := [.ref s4.heap.objs.size, .str z tz]) (typeIs_str _ _ _) F.slot_str_getitem.lookup ?_ (by with_unfolding_all rfl)
  refine wpAny_getItem_str_slice (l := none) (u := none) (st := some (-1, tk)) ⟨_, Heap.get?_push_size _ rfl, rfl, rfl⟩ rfl ?_
  have hp : slicePicked z none none (some (-1, tk)) = (List.range z.cps.size).map fun k => z.cps.size - 1 - k := by
    show Builtin.Str.strSliceIndices none none (-1) z.length = _
    unfold Builtin.Str.strSliceIndices
    exact range_back z.length
  have hr : (⟨((slicePicked z none none (some (-1, tk))).filterMap (z.cps[·]?)).toArray⟩ : Str) = revS z := by
    rw [hp, filterMap_back]
    unfold revS
    congr 1
    apply Array.ext'
    simp
  show Made.post (if ((-1 : Int) == 1 && (slicePicked z none none (some (-1, tk))).length == z.length) = true then Made.val (.str z tz) else Made.str ⟨((slicePicked z none none (some (-1, tk))).filterMap (z.cps[·]?)).toArray⟩) (EP X pins σ Q) _
  rw [if_neg (by rw [show ((-1 : Int) == 1) = false by decide, Bool.false_and]; exact Bool.false_ne_true), hr]
  refine ⟨?_, .str _, H4, I5.tok _, ⟨_, rfl⟩, q⟩
  show (revS z).cps.size ≤ sizeLine
  unfold revS
  rw [Array.size_reverse]
  exact hz

section
variable {CX : CXT} {k : Nat} {f : Addr} {fd : FuncData} {ps ks : List Str} {sp : Sp} {E : XK} {x : Str} {p pos : Pos} {kws : List Keyword} {tk : TA} {g : List Value → List Value → List Value} {gV : List V → List V → List V}
def tCallK0 (sp : Sp) (gV : List V → List V → List V) (E : XK) (tk : TA) : TE := fun σ H Q => tk σ H fun zs H2 => sp (gV [] zs) H2 Q E
/-- f(k = v, ..), nothing by place -/
theorem pe_callK0 (F : FnOk X.prog X.w X.K X.mg X.base CX k f fd ps sp) (hr : Room k X.A) (hg : Gl X x) (hm : X.mg x = some (.ref f)) (hk : PySem.W.keepIn X.K (.ref f) = true) (hb : KBinds X.K fd ps ks g gV) (hx : Passes CX X E)
    (hkw : PK X kws tk) (hall : (backToKw pos (keywordEach kws X.env)).all (·.1.isSome) = true := by rfl) (hks : (backToKw pos (keywordEach kws X.env)).filterMap (·.1) = ks := by rfl)
    (hdb : (x == ("__debug__" : Str)) = false := by decide)
    (hpl : ((backTo pos (starEach [] X.env)).any (·.1) || (backToKw pos (keywordEach kws X.env)).any (·.1.isNone)) = false := by rfl) :
    PE X (.Call (.Name x p) [] kws pos) (tCallK0 sp gV E tk) := by
  refine ⟨fun pins s σ H Q I h => ?_⟩
  refine wpAny_Call_Name_kw (ld_glob I hg hm ?_ hdb)
  refine PySem.W.callWith_KW0 (h₀ := X.base) I.ok.mod.kin hk hall (thn (hkw.run pos pins s σ H _ I h) fun ws s2 ⟨zs, H2, I2, rz, q2⟩ => ⟨I2.kIn, ?_⟩) hpl
  rw [hks]
  exact run_fnk (us := []) (vs := []) F hr hb hx I2 .nil rz q2
end
end

/-- all parameters by keyword, in their order -/
def kAll {α : Type} : List α → List α → List α
  | [], zs => zs
  | _ :: _, _ => []
theorem kbinds_all {K : PySem.W.Frag} {fd : FuncData} {ps ks : List Str} (h0 : 0 < ps.length) (h : ∀ (s : Shared) (ws : List Value), K.In s.heap → ws.length = ps.length → BindsTo s fd ⟨[], ks.zip ws⟩ (ps.zip ws)) : KBinds K fd ps ks kAll kAll where
  to := fun s us ws hK hl => by
    cases us with
    | nil => exact h s ws hK hl
    | cons u r =>
      have z : (0 : Nat) = ps.length := hl
      omega
  rel := fun {vs us zs ws} r rz => by
    cases r with
    | nil => exact rz
    | cons _ _ => exact .nil

/-! ### places -/
theorem at0 {α : Type} {x : α} {xs : List α} : atI (x :: xs) 0 = some x := atI_nat (j := 0) rfl
theorem ix_nat {n j : Nat} (h : j < n) : ixN n (j : Int) = some j := by
  unfold ixN
  rw [if_pos (by omega), if_pos (by omega), Int.toNat_natCast]
theorem ix0 {n : Nat} (h : 0 < n) : ixN n 0 = some 0 := ix_nat h

/-! ### walks over a text -/
theorem lc_str {x : Str} {g : TG} {tt : TT} {te : TE} {vs : List Nat} {σ : L2.St} {H1 : Hp} {D : Addr} {Qd : Hp → Prop} (Pv : Nat → Hp → Prop) (h0 : Pv 0 (upd H1 D (.lst [])))
    (hs : ∀ i c H, x.cps.toList[i]? = some c → Pv i H → g (.str ⟨#[c]⟩) (wipe σ vs) H fun σ2 H2 => wipe σ2 vs = wipe σ vs ∧ tt σ2 H2 fun b H3 =>
      if b = true then te σ2 H3 fun y H4 => ∃ acc, H4 D = some (.lst acc) ∧ acc.length < sizeLine ∧ Pv (i + 1) (upd H4 D (.lst (acc ++ [y]))) else Pv (i + 1) H3) (hd : ∀ H, Pv x.cps.size H → Qd H) :
    ∃ W : Nat → Nat → Hp → Prop, (∃ m, W 0 m (upd H1 D (.lst []))) ∧ ∀ i m H, W i m H →
      ((Its x).stop i H ∧ Qd H) ∨ ((Its x).go i H ∧ ∃ Nx : Hp → Prop, (∀ H', Nx H' → ∃ m', m' < m ∧ W (i + 1) m' H') ∧ ∀ y H', (Its x).yld i H y H' → g y (wipe σ vs) H' fun σ2 H2 => wipe σ2 vs = wipe σ vs ∧ tt σ2 H2 fun b H3 =>
        if b = true then te σ2 H3 fun y H4 => ∃ acc, H4 D = some (.lst acc) ∧ acc.length < sizeLine ∧ Nx (upd H4 D (.lst (acc ++ [y]))) else Nx H3) := by
  refine ⟨fun i m H => m = x.cps.size - i ∧ i ≤ x.cps.size ∧ Pv i H, ⟨_, rfl, Nat.zero_le _, h0⟩, ?_⟩
  rintro i m H ⟨rfl, hi, p⟩
  by_cases hlt : i < x.cps.size
  · refine .inr ⟨hlt, Pv (i + 1), fun H' p' => ⟨x.cps.size - (i + 1), by omega, rfl, hlt, p'⟩, fun y H' q => ?_⟩
    obtain ⟨e, c, hc, ey⟩ := q
    subst e
    subst ey
    exact hs i c _ (by rw [Array.getElem?_toList]; exact hc) p
  · have e : i = x.cps.size := by omega
    subst e
    exact .inl ⟨Nat.le_refl _, hd H p⟩

/-! ### lists of ints, of texts as data -/
theorem dp_ints {K : PySem.W.Frag} {H : Hp} : ∀ ns : List Int, DpAll K H (ns.map V.int) (ns.map PyData.int)
  | [] => .nil
  | n :: r => .cons (.int n) (dp_ints r)
theorem dp_strs {K : PySem.W.Frag} {H : Hp} : ∀ ns : List Str, DpAll K H (ns.map V.str) (ns.map PyData.str)
  | [] => .nil
  | n :: r => .cons (.str n) (dp_strs r)
theorem shaped_ints (ns : List Int) : SeqAt.shaped (.list (ns.map PyData.int)) = true := PySem.W.ke_shaped_ints ns
theorem eqv_nil : PyData.eqv (.list []) (.list []) = true := by simp [PyData.eqv, PyData.eqvAll]
theorem eqv_cons {a : PyData} {r : List PyData} : PyData.eqv (.list (a :: r)) (.list []) = false := by simp [PyData.eqv, PyData.eqvAll]
theorem same_upd {H : Hp} {p : Addr} {o : HO} (h : H p = none) : Same H (upd H p o) := fun b x e => by
  rw [upd_ne (ne_of_none e h)]
  exact e
/-- what G doesn't know may change -/
theorem same_mut {G H : Hp} {p : Addr} {o : HO} (e : Same G H) (h : G p = none) : Same G (upd H p o) := fun b x q => by
  rw [upd_ne (ne_of_none q h)]
  exact e b x q
end My

/-! My own rules about instances of own classes: texts of them, making them by names and in a try, operators; errors with a dict in an except suite. -/
namespace My
open PySem PySem.Spec PyProof.Rows L2

section
variable {X : Cx}
/-! ### floor division by any divisor that is not 0 -/
def CDivZ (_ j : Int) : Prop := j ≠ 0 ∧ j.natAbs.log2 < 9000
theorem op_fdivZ : OpR X (binaryOp .FloorDiv) (rI CDivZ fun i j => .int (i.fdiv j)) := opI fun _ _ _ _ _ _ _ hc q => floordiv_int hc.1 q (.inl (PyProof.noPylong_of_log2 hc.2))
theorem cdivZ {i j : Int} (h : j ≠ 0) (hb : j.natAbs < 2 ^ 8000) : CDivZ i j := ⟨h, Nat.lt_of_lt_of_le (PySem.Flt.log2_lt_of (by decide) hb) (by decide)⟩

/-! ### str(o), o of an own class with __str__ -/
def rStrO (C : Addr) (sp : Sp) : List V → Hp → VK → Prop := fun xs H Q => ∃ a dx fs, xs = [.ref a] ∧ H a = some (.ins C dx fs) ∧ sp [.ref a] H (fun v H' => ∃ z, v = .str z ∧ Q (.str z) H') E0
theorem call_strO {CX : CXT} {k : Nat} {C f : Addr} {fd : FuncData} {ps : List Str} {sp : Sp} (hs : PySem.W.findIn X.K (.ref C) "__str__" = some (some (.ref f))) (hf : PySem.W.isFn X.K (.ref f) = true)
    (F : FnOk X.prog X.w X.K X.mg X.base CX k f fd ps sp) (hr : Room (k + 2) X.A) (hb : Binds X.K fd ps []) (hx : Passes CX X.nox E0) : CallR X (.type "str") (rStrO C sp) := by
  intro pins s σ H xs us Q I r h
  obtain ⟨a, dx, fs, rfl, ea, q⟩ := h
  obtain ⟨u, rfl, ru⟩ := vals1 r
  obtain rfl : u = Value.ref a := ru
  obtain ⟨mA, O, _, _, _, _⟩ := ins_get I.hok ea
  obtain ⟨od, J, _⟩ := O.look
  have hl : ([Value.ref a] ++ []).length = ps.length := by rw [← F.len _ _ _ _ q]; rfl
  refine PySem.W.kso_call hr.in1.in1.units0 I.kIn J hs hf (wpAny_call ?_)
  refine codeAny_mono (F.run X.A.in1.in1 X.stack s H ⟨[.ref a], []⟩ [.ref a] [.ref a] _ E0 hr.in1.in1 I.env0.in1.in1 (hb _ [.ref a] I.kIn hl) (.cons rfl .nil) q) fun r s' hq => ?_
  cases r with
  | error er => exact False.elim (hx pins σ H s er s' (I.wish _) hq)
  | ok fl =>
    cases fl with
    | ret u =>
      obtain ⟨v, H', I3, rv, z, ez, q3⟩ := I.after hq
      subst ez
      obtain ⟨t, rfl⟩ := rv
      exact ⟨.str z, H', I3, ⟨t, rfl⟩, q3⟩
    | next => exact False.elim hq
    | brk => exact False.elim hq
    | cont => exact False.elim hq

/-! ### C(k = v, ..), nothing by place -/
section
variable {CX : CXT} {k : Nat} {f C : Addr} {fd : FuncData} {ps ks : List Str} {sp : Sp} {E : XK} {x : Str} {p pos : Pos} {e : Expr} {es : List Expr} {kws : List Keyword} {t tk : TA} {g : List Value → List Value → List Value} {gV : List V → List V → List V}
theorem pe_makeK0 (M : Mk X.K C f) (F : FnOk X.prog X.w X.K X.mg X.base CX k f fd ps sp) (hr : Room (k + 1) X.A) (hg : Gl X x) (hm : X.mg x = some (.ref C)) (hb : KBn X.K fd ps (0 + 1) ks g gV) (hx : Passes CX X E)
    (hkw : PK X kws tk) (hall : (backToKw pos (keywordEach kws X.env)).all (·.1.isSome) = true := by rfl) (hks : (backToKw pos (keywordEach kws X.env)).filterMap (·.1) = ks := by rfl)
    (hdb : (x == ("__debug__" : Str)) = false := by decide)
    (hpl : ((backTo pos (starEach [] X.env)).any (·.1) || (backToKw pos (keywordEach kws X.env)).any (·.1.isNone)) = false := by rfl) :
    PE X (.Call (.Name x p) [] kws pos) (tMakeN C 0 ks.length sp gV E tNil tk) := by
  refine ⟨fun pins s σ H Q I h => ?_⟩
  refine wpAny_Call_Name_kw (ld_glob I hg hm ?_ hdb)
  refine PySem.W.callWith_KW0 (h₀ := X.base) I.ok.mod.kin M.kp hall (thn (hkw.run pos pins s σ H _ I h) fun ws s2 ⟨zs, H2, I2, rz, l1, l2, q2⟩ => ⟨I2.kIn, ?_⟩) hpl
  rw [hks]
  exact run_makeN M F hr hb hx I2 .nil rz rfl l2 q2

/-! ### cls(e, ..), the class under a name of the frame -/
def tMakeL (C : Addr) (i : Nat) (sp : Sp) (dvs : List V) (E : XK) (t : TA) : TE := fun σ H Q => σ[i]? = some (some (.ref C)) ∧ tMake C sp dvs E t σ H Q
theorem pe_makeL {i : Nat} {dvs : List V} {ds : List Value} (M : Mk X.K C f) (F : FnOk X.prog X.w X.K X.mg X.base CX k f fd ps sp) (hr : Room (k + 1) X.A) (hN : X.N[i]? = some x) (hv : Vis X.env.scope x) (hb : Binds X.K fd ps ds) (hd : Vals dvs ds) (hx : Passes CX X E)
    (ha : PA X (e :: es) t) (hd1 : (x == ("__debug__" : Str)) = false := by decide) (hcd : (x == ("__classdict__" : Str)) = false := by decide)
    (he : starEach (e :: es) X.env = (false, eval e X.env) :: starEach es X.env := by rfl) (hpl : (backTo pos (starEach es X.env)).any (·.1) = false := by rfl) :
    PE X (.Call (.Name x p) (e :: es) [] pos) (tMakeL C i sp dvs E t) := by
  refine ⟨fun pins s σ H Q I h => ?_⟩
  obtain ⟨hs, h⟩ := h
  refine wpAny_Call_Name_kw (thn ((pe_var (pos := p) hN hv hd1 hcd).run pins s σ H (fun v H1 => v = .ref C ∧ H1 = H) I ⟨.ref C, hs, rfl, rfl⟩) fun u s1 ⟨v, H1, I1, r1, q1⟩ => ?_)
  obtain ⟨rfl, rfl⟩ := q1
  cases r1
  refine PySem.W.callWith_K (h₀ := X.base) I.ok.mod.kin M.kp (thn (ha.run pos pins s1 σ _ _ I1 h) fun us s2 ⟨vs, H2, I2, r, q⟩ => ⟨I2.kIn, ?_⟩) he hpl
  exact run_make M F hr hb hd hx I2 r q

/-! ### C(e, ..) where what is raised is wished for at the caller's slots -/
def tMakeS (C : Addr) (sp : Sp) (dvs : List V) (E : L2.St → XK) (t : TA) : TE := fun σ H Q => tMake C sp dvs (E σ) t σ H Q
theorem run_makeS {pins : List (Addr × Obj)} {σ : L2.St} {H : Hp} {s : Shared} {Q : VK} {us : List Value} {vs : List V} {dvs : List V} {ds : List Value} (M : Mk X.K C f) (F : FnOk X.prog X.w X.K X.mg X.base CX k f fd ps sp) (hr : Room (k + 1) X.A) (hb : Binds X.K fd ps ds) (hd : Vals dvs ds)
    (hx : PassesAt CX X σ E) (I : Inv X pins σ H s) (r : Vals vs us)
    (h : ∀ x dx, H x = none → H dx = none → dx ≠ x → sp (.ref x :: (vs ++ dvs)) (upd (upd H dx (.own x)) x (.ins C dx [])) (fun v H2 => v = .non ∧ Q (.ref x) H2) E) :
    wpAny (model X.prog X.w) X.A (call (.ref C) us) (EP X pins σ Q) X.xe s := by
  have hq := h (s.heap.objs.size + 1) s.heap.objs.size (I.hok.fresh (Nat.le_succ _)) (I.hok.fresh (Nat.le_refl _)) (Nat.ne_of_lt (Nat.lt_succ_self _))
  have I2 := Inv.made (C := C) I
  have r2 : Vals (V.ref (s.heap.objs.size + 1) :: (vs ++ dvs)) (Value.ref (s.heap.objs.size + 1) :: (us ++ ds)) := .cons rfl (r.append hd)
  have hl : (Value.ref (s.heap.objs.size + 1) :: us ++ ds).length = ps.length := by
    have e := r2.length
    rw [F.len _ _ _ _ hq] at e
    exact e.symm
  refine wpAny_call (make_map (f := f) I.kIn M.makes M.init (beq_iff_eq.mp M.fn) (codeAny_mono (F.run _ X.stack _ _ ⟨Value.ref (s.heap.objs.size + 1) :: us, []⟩ (Value.ref (s.heap.objs.size + 1) :: (us ++ ds)) _ _ E (hr.make C us [])
    (I2.env0.make C us []) (hb _ (Value.ref (s.heap.objs.size + 1) :: us) I2.kIn hl) r2 hq) fun r s' hq' => ?_))
  cases r with
  | error e => exact hx pins _ _ e s' I2 hq'
  | ok fl =>
    cases fl with
    | ret u =>
      obtain ⟨v, H', I3, rv, ev, q3⟩ := I2.after hq'
      subst ev
      exact ⟨rv, ⟨V.ref (s.heap.objs.size + 1), H', I3, rfl, q3⟩⟩
    | next => exact False.elim hq'
    | brk => exact False.elim hq'
    | cont => exact False.elim hq'
theorem pe_makeS {E : L2.St → XK} {dvs : List V} {ds : List Value} (M : Mk X.K C f) (F : FnOk X.prog X.w X.K X.mg X.base CX k f fd ps sp) (hr : Room (k + 1) X.A) (hg : Gl X x) (hm : X.mg x = some (.ref C)) (hb : Binds X.K fd ps ds) (hd : Vals dvs ds) (hx : ∀ σ, PassesAt CX X σ (E σ))
    (ha : PA X (e :: es) t) (hdb : (x == ("__debug__" : Str)) = false := by decide) (he : starEach (e :: es) X.env = (false, eval e X.env) :: starEach es X.env := by rfl) (hpl : (backTo pos (starEach es X.env)).any (·.1) = false := by rfl) :
    PE X (.Call (.Name x p) (e :: es) [] pos) (tMakeS C sp dvs E t) := by
  refine ⟨fun pins s σ H Q I h => ?_⟩
  refine wpAny_Call_Name_kw (ld_glob I hg hm ?_ hdb)
  refine PySem.W.callWith_K (h₀ := X.base) I.ok.mod.kin M.kp (thn (ha.run pos pins s σ H _ I h) fun us s1 ⟨vs, H1, I1, r, q⟩ => ⟨I1.kIn, ?_⟩) he hpl
  exact run_makeS M F hr hb hd (hx σ) I1 r q
end

/-! ### C.m(k = v, ..), m a classmethod -/
section
variable {CX : CXT} {k : Nat} {C q0 g : Addr} {mc : Value} {fd : FuncData} {ps ks : List Str} {sp : Sp} {E : XK} {o : Expr} {m : Str} {pos apos : Pos} {kws : List Keyword} {ta : TE} {tk : TA} {pl : Sem Bool}
def tCMethK (C : Addr) (n : Nat) (sp : Sp) (E : XK) (ta : TE) (tk : TA) : TE := fun σ H Q => ta σ H fun x H1 => x = .ref C ∧ tk σ H1 fun zs H2 => zs.length = n ∧ sp (.ref C :: zs) H2 Q E
theorem pe_cmethK0 (he : PE X o ta) (r : ClX.CRead X.K C mc) (c : ClX.CMet X.K C mc m q0 g) (F : FnOk X.prog X.w X.K X.mg X.base CX k g fd ps sp) (hr : Room k X.A) (hx : Passes CX X E) (hkw : PK X kws tk)
    (hb : ∀ (s : Shared) (ws : List Value), X.K.In s.heap → ws.length = ks.length → BindsTo s fd ⟨Value.ref C :: [], ks.zip ws⟩ (ps.zip (Value.ref C :: ws)))
    (hall : (backToKw pos (keywordEach kws X.env)).all (·.1.isSome) = true := by rfl) (hks : (backToKw pos (keywordEach kws X.env)).filterMap (·.1) = ks := by rfl)
    (hpl : ((backTo pos (starEach [] X.env)).any (·.1) || (backToKw pos (keywordEach kws X.env)).any (·.1.isNone)) = false := by rfl)
    (ht : eval (.Call (.Attribute o m apos) [] kws pos) X.env = (do
      let ov ← eval o X.env
      standAt apos.atName
      let (f, first) ← holding [ov] (getMethod ov m pl)
      callWith pos f first (backTo pos (starEach [] X.env)) (backToKw pos (keywordEach kws X.env))) := by rfl) :
    PE X (.Call (.Attribute o m apos) [] kws pos) (tCMethK C ks.length sp E ta tk) := by
  refine ⟨fun pins s σ H Q I h => ?_⟩
  refine PySem.W.methodCall_KW (pl := pl) (thn (he.run pins s σ H _ I h) fun u s1 ⟨x, H1, I1, rx, ex, h2⟩ => ?_) ht
  subst ex
  obtain rfl : u = Value.ref C := rx
  refine ClX.getmethcm_ok I1 r c fun s2 I2 => ?_
  refine PySem.W.callWith_of hpl (PySem.W.keeps_M (K := X.K) (self := Value.ref C) c.fi) (evalArgs_kw2_nil hall (thn (hkw.run pos _ s2 σ H1 _ I2 h2) fun ws s3 ⟨zs, H2, I3, rz, hl, h3⟩ => ⟨⟨ClX.pin_at I3, I3.kIn⟩, ?_⟩))
  rw [hks]
  suffices z : wpAny (model X.prog X.w) X.A (call (.ref s1.heap.objs.size) [] (ks.zip ws)) (EP X ((s1.heap.objs.size, PySem.W.methodObj (.ref g) (.ref C)) :: pins) σ Q) X.xe s3 from thn z fun _ _ y => ClX.unpinE y
  refine wpAny_call (PySem.W.method_call (ClX.pin_at I3) ?_)
  have r2 : Vals (V.ref C :: zs) (Value.ref C :: ws) := .cons rfl rz
  refine codeAny_mono (F.run X.A X.stack s3 H2 ⟨Value.ref C :: [], ks.zip ws⟩ (Value.ref C :: ws) (V.ref C :: zs) Q E hr I3.env0 (hb s3 ws I3.kIn (rz.length.symm.trans hl)) r2 h3) fun r s' hq => ?_
  cases r with
  | error er => exact hx _ σ H2 s3 er s' I3 hq
  | ok fl =>
    cases fl with
    | ret u => exact I3.after hq
    | next => exact False.elim hq
    | brk => exact False.elim hq
    | cont => exact False.elim hq
end

/-! ### an error with a dict of its own, asked for its class in an except suite -/
theorem class_of_err {prog : Program} {w : World} {A : Around} {E : Value → Shared → Prop} {s : Shared} {K : PySem.W.Frag} {x D : Addr} {ox od : Obj} {Q : Option Value → Shared → Prop} (C : ExcC K D) (hK : K.In s.heap) (J : PySem.W.InstAt s.heap x ox D (some od))
    (h : Q (some (.ref D)) { s with toks := s.toks + 1 }) : wpAny (model prog w) A (getAttr? (.ref x) "__class__") Q E s := by
  have hcd : (PySem.W.clsIn K D).isSome = true := by
    obtain ⟨cd, hc, _⟩ := PySem.W.any_some C.hd
    rw [hc]
    rfl
  have hf : PySem.W.findObj K D (some od) "__class__" = some (.bind (.builtin "getset_descriptor.__get__") (.builtin "object.__class__")) := PySem.W.findObj_data hcd C.ha C.hn C.ht
  obtain ⟨hp, gg, dr, tt, os⟩ := s
  have T0 := J.type (M := model prog w)
  have T1 := PySem.W.looks_findIn (M := model prog w) hK C.hg
  have T2 := PySem.W.looks_findIn (M := model prog w) hK C.hk
  have T3 := PySem.W.looks_find (M := model prog w) hK J hf
  have below : PySem.W.Looks (model prog w) hp (isInstance (.ref x) (.type "BaseException")) true := T0.andThen (PySem.W.looks_subIn hK C.hs)
  have b0 : (false && onTheHeap (Value.builtin "BaseException.__getattribute__")) = false := rfl
  have b2 : (Value.builtin "BaseException.__getattribute__" == Value.builtin "object.__getattribute__") = false := by decide +kernel
  have b1 : (onTheHeap (Value.ref D) && Value.builtin "BaseException.__getattribute__" == Value.builtin "object.__getattribute__") = false := by rw [b2]; rfl
  unfold getAttr? getAttrBy? getAttrBy
  refine wpAny_bind (wpAny_mkText (wpAny_bind (wpAny_attempt (wpAny_holding (wpAny_bind (T0.at (wpAny_bind (T1.at ?_))))))))
  show wpAny _ _ (if (onTheHeap (Value.ref D) && Value.builtin "BaseException.__getattribute__" == Value.builtin "object.__getattribute__") = true then _ else _) _ _ _
  rw [b1, if_neg Bool.false_ne_true]
  unfold getAttrByItsOwn hookBefore
  refine wpAny_bind ?_
  rw [if_pos (show onTheHeap (Value.ref D) = true from rfl)]
  refine T2.at ?_
  refine wpAny_bind (wpAny_attempt (wpAny_holding ?_))
  unfold callGetattribute
  rw [b0, if_neg Bool.false_ne_true]
  unfold boundAndCalled
  rw [PySem.F.excAttr_ValueError.ga.bind (.ref x)]
  refine wpAny_bind (wpAny_pure ?_)
  show wpAny _ _ (call (.builtin "BaseException.__getattribute__") [.ref x, .str "__class__" tt]) _ _ _
  refine wpAny_call (codeAny_call_builtin PySem.F.excAttr_ValueError.ga.plain PySem.F.entry_bexc_ga ?_)
  refine @PySem.W.check_slot (model prog w) _ _ ⟨hp, gg, dr, tt + 1, os⟩ "BaseException.__getattribute__" "BaseException" "__getattribute__" (.ref x) [.str "__class__" tt] [] _ (by decide +kernel) (by decide +kernel) below (PySem.F.args_bexc_ga (.ref x) (.str "__class__" tt)) ?_
  unfold Builtin.«object.__getattribute__»
  refine wpAny_bind (wpAny_of_eq (a := ((Value.ref x : Value), [Value.str "__class__" tt])) (by first | rfl | (simp only [slotArgs]; rfl)) ?_)
  refine wpAny_bind (wpAny_pure (wpAny_bind (T0.at (wpAny_bind (T3.at ?_)))))
  show wpAny _ _ (holding [Value.builtin "object.__class__"] (call (.builtin "getset_descriptor.__get__") [.builtin "object.__class__", .ref x, .ref D]) >>= ret) _ _ _
  refine wpAny_bind (wpAny_holding (wpAny_call (PySem.W.class_get (s := ⟨hp, gg, dr, tt + 1, os⟩) (ox := ox) (od := some od) hK J C.hm ?_)))
  refine wpAny_pure ?_
  show wpAny _ _ (handedOut (.ref D)) _ _ _
  rw [PySem.W.handedOut_of (v := .ref D) rfl]
  first
    | exact wpAny_pure (wpAny_pure h)
    | exact wpAny_pure h
    | exact wpAny_pure (wpAny_bind (wpAny_pure (wpAny_pure h)))
theorem kit_err {K : PySem.W.Frag} {x D : Addr} {ox od : Obj} (C : ExcC K D) : PySem.W.KitX K (.ref x) (.ref D) (fun h => PySem.W.InstAt h x ox D (some od)) where
  ty := fun _ _ _ J => J.type
  it := fun _ _ hK _ => by
    obtain ⟨cdD, hcD, _⟩ := PySem.W.any_some C.hd
    unfold PySem.W.clsIn at hcD
    split at hcD
    · rename_i c' d' cd' sl' ho
      intro A' Q' E' s' kk q
      unfold isType loadHead
      exact wpAny_bind (wpAny_loadPart (kk _ _ (hK _ _ ho)) (wpAny_pure q))
    · cases hcD
  ne := fun h tp dd its n sl hK htp => by
    obtain ⟨cdD, hcD, _⟩ := PySem.W.any_some C.hd
    refine Bool.eq_false_iff.mpr fun q => ?_
    have e : D = tp := Value.ref.inj (beq_iff_eq.mp q)
    subst e
    unfold PySem.W.clsIn at hcD
    split at hcD
    · rename_i c' d' cd' sl' ho
      have z := (hK _ _ ho).symm.trans htp
      cases z
    · cases hcD
  ca := fun hK J q => class_of_err C hK J q
def rIsEd (K : PySem.W.Frag) (a : Addr) (cls : Value) (d : Option Addr) (D : Addr) : List V → Hp → VK → Prop := fun xs H Q => ∃ (c : V) (cv : Value) (b : Bool) (dd : Addr) (fs : List (Str × V)), xs = [.ref a, c] ∧ cls = .ref D ∧ d = some dd ∧ ClsV c cv ∧ PySem.W.kitOne K (.ref D) cv = some b ∧ H dd = some (.xd fs) ∧ Q (.bl b) H
theorem call_isEd {a D : Addr} {cls : Value} {d : Option Addr} {oe : Obj} {pn : List (Addr × Obj)} (C : ExcC X.K D) (hz : Zc cls d oe) (hf : ∃ vs, oe.data = .fields vs) : CallR (X.suite a ((a, oe) :: pn)) (.builtin "isinstance") (rIsEd X.K a cls d D) := by
  intro pins s σ H xs us Q I r h
  obtain ⟨c, cv, b, dd, fs, rfl, e1, e2, hcv, e, hd, q⟩ := h
  subst e1
  subst e2
  obtain ⟨u, w', rfl, ru, rw'⟩ := vals2 r
  obtain rfl : u = Value.ref a := ru
  obtain rfl := hcv.eq rw'
  obtain ⟨hget, _⟩ := I.pin (a, oe) (List.mem_append.mpr (.inl List.mem_cons_self))
  obtain ⟨vs, hv⟩ := hf
  have hx : ObjOk X.prog X.w H s.heap dd (.xd fs) := I.hok dd _ hd
  obtain ⟨mA, hns, hrel⟩ := hx
  obtain ⟨od, ho, hl⟩ := lookIn_ns hns
  have J : PySem.W.InstAt s.heap a oe D (some od) := ⟨hget, hz.1, by unfold PySem.W.notCls; rw [hv] <;> rfl, by rw [hz.2]; exact ho⟩
  exact PySem.W.kia_one (kit_err C) I.kIn J e (fun z => nomatch z) fun tk => ⟨.bl b, H, I.kept (t' := tk) fun _ _ z => z, rfl, q⟩
end

/-! ### isinstance by the written part; keywords in another order -/
theorem kit_self {K : PySem.W.Frag} {C : Addr} : PySem.W.kitOne K (.ref C) (.ref C) = some true := by
  unfold PySem.W.kitOne
  rw [if_pos (by simp)]
theorem kit_sub {K : PySem.W.Frag} {t : Value} {C : Addr} {b : Bool} (ic : PySem.W.isClsIn K C = true) (ty : PySem.W.typeIn K (.ref C) = some (.type "type")) (su : PySem.W.subIn K t (.ref C) = some b) (ne : t ≠ .ref C) : PySem.W.kitOne K t (.ref C) = some b := by
  unfold PySem.W.kitOne
  rw [if_neg (by simpa using ne)]
  show (if ((PySem.W.clsIn K C).isSome && PySem.W.typeIn K (.ref C) == some (.type "type")) = true then PySem.W.subIn K t (.ref C) else none) = some b
  rw [ty, show (PySem.W.clsIn K C).isSome = true from ic, if_pos (by simp)]
  exact su
theorem kit_not {K : PySem.W.Frag} {t : Value} {C : Addr} (ic : PySem.W.isClsIn K C = true) (ty : PySem.W.typeIn K (.ref C) = some (.type "type")) (su : PySem.W.subIn K t (.ref C) = some false) (ne : t ≠ .ref C) : PySem.W.kitOne K t (.ref C) = some false := kit_sub ic ty su ne
def permL {α : Type} (is : List Nat) (ws : List α) : List α := is.filterMap fun i => ws[i]?
theorem permL_rel (is : List Nat) {zs : List V} {ws : List Value} (r : Vals zs ws) : Vals (permL is zs) (permL is ws) := by
  induction is with
  | nil => exact .nil
  | cons i is ih =>
    unfold permL at ih ⊢
    rw [List.filterMap_cons, List.filterMap_cons]
    cases e : zs[i]? with
    | none =>
      rw [r.none_of e]
      exact ih
    | some x =>
      obtain ⟨u, hu, ru⟩ := r.get e
      rw [hu]
      exact .cons ru ih
end My

/-! My own rules about operators of own classes: + - * with an instance or an int on either side, in place, unary minus, == with either answer, != of two lists with the same items. -/
namespace My
open PySem PySem.Spec PyProof.Rows L2

section
variable {X : Cx} {CX : CXT} {k : Nat} {C f : Addr} {fd : FuncData} {ps : List Str} {sp : Sp} {E : XK}
theorem run_own {pins : List (Addr × Obj)} {s : Shared} {σ : L2.St} {H : Hp} {Q : VK} {us : List Value} {vs : List V} (F : FnOk X.prog X.w X.K X.mg X.base CX k f fd ps sp) (hr : Room k X.A) (hb : Binds X.K fd ps []) (hx : Passes CX X E)
    (I : Inv X pins σ H s) (r : Vals vs us) (h : sp vs H Q E) : wpAny (model X.prog X.w) X.A (call (.ref f) us) (EP X pins σ Q) X.xe s := by
  have hl : (us ++ []).length = ps.length := by
    rw [List.append_nil, ← F.len _ _ _ _ h]
    exact r.length.symm
  refine wpAny_call (codeAny_mono (F.run X.A X.stack s H ⟨us, []⟩ us vs _ E hr I.env0 (by
    have := hb s us I.kIn hl
    rw [List.append_nil] at this
    exact this) r h) fun r s' hq => ?_)
  cases r with
  | error e => exact hx pins σ H s e s' I hq
  | ok fl =>
    cases fl with
    | ret w => exact I.after hq
    | next => exact False.elim hq
    | brk => exact False.elim hq
    | cont => exact False.elim hq
/-- what is handed back is no NotImplemented -/
theorem back_of {pins : List (Addr × Obj)} {σ : L2.St} {Q : VK} {v : Value} {s : Shared} (h : EP X pins σ Q v s) : PySem.W.CmpBack (EP X pins σ Q) v s := by
  obtain ⟨x, H, I, r, q⟩ := id h
  cases x with
  | non => obtain rfl : v = Value.none := r; exact h
  | bl b => obtain rfl : v = Value.bool b := r; exact h
  | int i => obtain ⟨t, rfl⟩ := r; exact h
  | str i => obtain ⟨t, rfl⟩ := r; exact h
  | byt i => obtain ⟨t, rfl⟩ := r; exact h
  | flt i => obtain ⟨t, rfl⟩ := r; exact h
  | ref a => obtain rfl : v = Value.ref a := r; exact h
  | ty n => obtain rfl : v = Value.type n := r; exact h

/-! ### the unary minus -/
def rNegO (C : Addr) (sp : Sp) (E : XK) : V → Hp → VK → Prop := fun x H Q => ∃ a dx fs, x = .ref a ∧ H a = some (.ins C dx fs) ∧ sp [.ref a] H Q E
theorem un_negO (hs : PySem.W.findIn X.K (.ref C) "__neg__" = some (some (.ref f))) (hf : PySem.W.isFn X.K (.ref f) = true) (F : FnOk X.prog X.w X.K X.mg X.base CX k f fd ps sp) (hr : Room k X.A) (hb : Binds X.K fd ps []) (hx : Passes CX X E) :
    UnR X (unaryOp .USub) (rNegO C sp E) := by
  intro pins s σ H x v Q I rx h
  obtain ⟨a, dx, fs, rfl, ea, q⟩ := h
  obtain rfl : v = Value.ref a := rx
  obtain ⟨mA, J, _⟩ := ins_get I.hok ea
  obtain ⟨od, J, _⟩ := J.look
  obtain ⟨m, hF⟩ := I.fr
  exact PySem.W.ksp_neg hF I.ok.mod.kin J hs hf (run_own (vs := [V.ref a]) F hr hb hx I (.cons rfl .nil) q)

/-! ### the operators with two sides -/
/-- what of the text an operator must have -/
structure OpO (K : PySem.W.Frag) (C : Addr) (nm : String) (f g : Addr) : Prop where
  sf : PySem.W.selfFirst K C = true
  ls : PySem.W.findIn K (.ref C) (PySem.dunder nm) = some (some (.ref f))
  lf : PySem.W.isFn K (.ref f) = true
  rs : PySem.W.findIn K (.ref C) (dunderR nm) = some (some (.ref g))
  rf : PySem.W.isFn K (.ref g) = true
  i1 : ∃ fo, PySem.W.findIn K (.type "int") (PySem.dunder nm) = some fo
  i2 : ∃ ro, PySem.W.findIn K (.type "int") (dunderR nm) = some ro
  su : PySem.W.subIn K (.type "int") (.ref C) = some false
  us : PySem.W.subIn K (.ref C) (.type "int") = some false
/-- int declines -/
structure Dec (nm : String) (id : String) (B : Builtin) : Prop where
  slot : Slot "int" (PySem.dunder nm) id
  entry : entryFor table id = some B
  args : ∀ a b, argsOk id ⟨[a, b], []⟩
  fills : fillsNumberSlot (.type "int") nm = pure true
  body : ∀ (a : Int) (t : Tok) (l C dx : Addr), Meets (B ⟨[.int a t, .ref l], []⟩) (fun _ R s => s.heap.get? l = some (PySem.W.instObj C dx) ∧ R (.ok (.ret Value.notImplemented)) s)
theorem dec_add : Dec "add" "int.__add__" Builtin.«int.__add__» := ⟨F.slot_int_add, F.entry_int_add, F.args_int_add_2, F.fills_int_add, fun a t l C dx => .of_wp fun prog w A R s h => by obtain ⟨hp, g, d, tk, os⟩ := s; obtain ⟨hl, h⟩ := h; wp_walk; exact ⟨_, rfl, h⟩⟩
theorem dec_sub : Dec "sub" "int.__sub__" Builtin.«int.__sub__» := ⟨F.slot_int_sub, F.entry_int_sub, F.args_int_sub_2, F.fills_int_sub, fun a t l C dx => .of_wp fun prog w A R s h => by obtain ⟨hp, g, d, tk, os⟩ := s; obtain ⟨hl, h⟩ := h; wp_walk; exact ⟨_, rfl, h⟩⟩
theorem dec_mul : Dec "mul" "int.__mul__" Builtin.«int.__mul__» := ⟨F.slot_int_mul, F.entry_int_mul, F.args_int_mul_2, F.fills_int_mul, fun a t l C dx => .of_wp fun prog w A R s h => by obtain ⟨hp, g, d, tk, os⟩ := s; obtain ⟨hl, h⟩ := h; wp_walk; exact ⟨_, rfl, h⟩⟩

section
variable {prog : Program} {w : World} {A : Around} {Ex : Value → Shared → Prop} {s : Shared} {K : PySem.W.Frag} {C f g : Addr} {nm : String}
open PySem.W
theorem b1_own {x y : Addr} {odx ody : Option Obj} {ox oy : Obj} {Q : Value → Shared → Prop} (X : K.In s.heap) (O : OpO K C nm f g) (I : InstAt s.heap x ox C odx) (J : InstAt s.heap y oy C ody)
    (h : wpAny (model prog w) A (call (.ref f) [.ref x, .ref y]) (PySem.W.CmpBack Q) Ex s) : wpAny (model prog w) A (binaryOp1 nm (.ref x) (.ref y)) (fun r s' => ∃ v, r = some v ∧ Q v s') Ex s := by
  obtain ⟨cd, rest, hcd, hm⟩ := ksp_first O.sf
  unfold binaryOp1
  refine wpAny_bind (I.type.here (wpAny_bind (J.type.here (wpAny_bind ((fills_K X hcd hm O.ls).here ?_)))))
  simp only [beq_self_eq_true, if_true]
  refine wpAny_bind (wpAny_pure ?_)
  simp only [Bool.and_false, Bool.false_eq_true, if_false, Bool.false_and]
  refine wpAny_bind (wpAny_pure ?_)
  simp only [Bool.false_eq_true, if_false]
  refine wpAny_bind (m := tryMethod (.ref x) _ (.ref y)) (wpAny_mono (ksp_try X I O.ls O.lf h) (fun r s' hr => ?_) fun _ _ e => e)
  obtain ⟨v, rfl, hq⟩ := hr
  exact wpAny_pure ⟨v, rfl, hq⟩
theorem b1_int {x : Addr} {i : Int} {t : Tok} {odx : Option Obj} {ox : Obj} {Q : Value → Shared → Prop} (X : K.In s.heap) (O : OpO K C nm f g) (I : InstAt s.heap x ox C odx)
    (h : wpAny (model prog w) A (call (.ref f) [.ref x, .int i t]) (PySem.W.CmpBack Q) Ex s) : wpAny (model prog w) A (binaryOp1 nm (.ref x) (.int i t)) (fun r s' => ∃ v, r = some v ∧ Q v s') Ex s := by
  obtain ⟨cd, rest, hcd, hm⟩ := ksp_first O.sf
  obtain ⟨fo, h1⟩ := O.i1
  obtain ⟨ro, h2⟩ := O.i2
  have one := ksp_try X I O.ls O.lf h
  obtain ⟨hh, gg, d, tt, os⟩ := s
  have L1 : Looks (model prog w) hh (typeOf (.ref x)) (.ref C) := I.type
  have L2 : Looks (model prog w) hh (typeOf (.int i t)) (.type "int") := Looks.of_pure rfl
  have L3 : Looks (model prog w) hh (fillsNumberSlot (.ref C) nm) true := fills_K X hcd hm O.ls
  have L4 : Looks (model prog w) hh (fillsNumberSlot (.type "int") nm) ((fo.isSome && !isSeqSlot fo) || (ro.isSome && !isSeqSlot ro)) := ksp_fillsT X h1 h2
  have L5 : Looks (model prog w) hh (isSubtype (.type "int") (.ref C)) false := looks_subIn X O.su
  have L6 : Looks (model prog w) hh (numberSlotInPython (.ref C) nm) true := ksp_inPy X O.ls O.rs (.inr ⟨_, rfl⟩)
  have L7 : Looks (model prog w) hh (numberSlotInPython (.type "int") nm) false := Looks.of_pure rfl
  have L8 : Looks (model prog w) hh (typeLookup (.type "int") (dunderR nm)) ro := looks_findIn X h2
  generalize ((fo.isSome && !isSeqSlot fo) || (ro.isSome && !isSeqSlot ro)) = right at L4
  have hne : (Value.ref C == Value.type "int") = false := Bool.eq_false_iff.mpr fun q => by cases beq_iff_eq.mp q
  unfold binaryOp1
  refine wpAny_bind (L1.at (wpAny_bind (L2.at (wpAny_bind (L3.at ?_)))))
  simp only [hne, Bool.false_eq_true, if_false]
  cases right with
  | false =>
    ksp_lk
    refine wpAny_mono one (fun r s' hr' => ?_) fun _ _ e => e
    obtain ⟨v, rfl, hq⟩ := hr'
    ksp_lk
    exact ⟨v, rfl, hq⟩
  | true =>
    ksp_lk
    refine wpAny_mono one (fun r s' hr' => ?_) fun _ _ e => e
    obtain ⟨v, rfl, hq⟩ := hr'
    ksp_lk
    exact ⟨v, rfl, hq⟩
theorem b1_rint {x dx : Addr} {i : Int} {t : Tok} {odx : Option Obj} {id : String} {B : Builtin} {Q : Value → Shared → Prop} (D : Dec nm id B) (X : K.In s.heap) (O : OpO K C nm f g) (I : InstAt s.heap x (instObj C dx) C odx)
    (h : wpAny (model prog w) A (call (.ref g) [.ref x, .int i t]) (PySem.W.CmpBack Q) Ex s) : wpAny (model prog w) A (binaryOp1 nm (.int i t) (.ref x)) (fun r s' => ∃ v, r = some v ∧ Q v s') Ex s := by
  obtain ⟨cd, rest, hcd, hm⟩ := ksp_first O.sf
  have one := ksp_try X I O.rs O.rf h
  have two : wpAny (model prog w) A (tryMethod (.int i t) (PySem.dunder nm) (.ref x)) (fun r s' => r = none ∧ s' = s) Ex s :=
    wpAny_tryMethod_declines (typeIs_int s i t) D.slot (call_meets D.slot (typeIs_int s i t) D.entry (D.args _ _) (D.body i t x C dx) ⟨I.at_, rfl, rfl, rfl⟩)
  have L1 : Looks (model prog w) s.heap (typeOf (.ref x)) (.ref C) := I.type
  have L3 : Looks (model prog w) s.heap (fillsNumberSlot (.ref C) nm) true := fills_K X hcd hm O.ls
  have L5 : Looks (model prog w) s.heap (isSubtype (.ref C) (.type "int")) false := looks_subIn X O.us
  have hne : (Value.type "int" == Value.ref C) = false := Bool.eq_false_iff.mpr fun q => by cases beq_iff_eq.mp q
  have hpy : numberSlotInPython (.type "int") nm = pure false := rfl
  unfold binaryOp1
  refine wpAny_bind (wpAny_typeOf (typeIs_int s i t) (wpAny_bind (L1.here (wpAny_bind (wpAny_of_eq D.fills ?_)))))
  simp only [hne, Bool.false_eq_true, if_false]
  refine wpAny_bind (L3.here ?_)
  simp only [Bool.and_self, if_true]
  refine wpAny_bind (L5.here ?_)
  simp only [Bool.false_eq_true, if_false, pure_bind, Bool.not_false, Bool.and_self, if_true, hpy]
  refine wpAny_bind (wpAny_mono two (fun r s' hr => ?_) fun _ _ e => e)
  obtain ⟨rfl, rfl⟩ := hr
  refine wpAny_bind (wpAny_mono one (fun r s' hr => ?_) fun _ _ e => e)
  obtain ⟨v, rfl, hq⟩ := hr
  ksp_lk
  exact ⟨v, rfl, hq⟩
end

/-! ### the operators as rules -/
section
variable {X : Cx} {CX CX' : CXT} {k k' : Nat} {C f g : Addr} {fd fd' : FuncData} {ps ps' : List Str} {sp sp' : Sp} {E : XK} {op : Operator}
theorem op_or {F : Value → Value → Sem Value} {r1 r2 : R2} (a : OpR X F r1) (b : OpR X F r2) : OpR X F (fun x y H Q => r1 x y H Q ∨ r2 x y H Q) := by
  intro pins s σ H x y v u Q I rx ry h
  rcases h with h | h
  · exact a pins s σ H x y v u Q I rx ry h
  · exact b pins s σ H x y v u Q I rx ry h
theorem un_or {F : Value → Sem Value} {r1 r2 : V → Hp → VK → Prop} (a : UnR X F r1) (b : UnR X F r2) : UnR X F (fun x H Q => r1 x H Q ∨ r2 x H Q) := by
  intro pins s σ H x v Q I rx h
  rcases h with h | h
  · exact a pins s σ H x v Q I rx h
  · exact b pins s σ H x v Q I rx h
def rOO (C : Addr) (sp : Sp) (E : XK) : R2 := fun x y H Q => ∃ a dx fs b dy gs, x = .ref a ∧ y = .ref b ∧ H a = some (.ins C dx fs) ∧ H b = some (.ins C dy gs) ∧ sp [.ref a, .ref b] H Q E
def rOI (C : Addr) (sp : Sp) (E : XK) : R2 := fun x y H Q => ∃ a dx fs i, x = .ref a ∧ y = .int i ∧ H a = some (.ins C dx fs) ∧ sp [.ref a, .int i] H Q E
def rIO (C : Addr) (sp : Sp) (E : XK) : R2 := fun x y H Q => ∃ b dy gs i, x = .int i ∧ y = .ref b ∧ H b = some (.ins C dy gs) ∧ sp [.ref b, .int i] H Q E
theorem b1_oo {nm : String} (O : OpO X.K C nm f g) (F : FnOk X.prog X.w X.K X.mg X.base CX k f fd ps sp) (hr : Room k X.A) (hb : Binds X.K fd ps []) (hx : Passes CX X E)
    {pins : List (Addr × Obj)} {s : Shared} {σ : L2.St} {H : Hp} {x y : V} {v u : Value} {Q : VK} (I : Inv X pins σ H s) (rx : RelV x v) (ry : RelV y u) (h : rOO C sp E x y H Q) :
    wpAny (model X.prog X.w) X.A (binaryOp1 nm v u) (fun r s' => ∃ z, r = some z ∧ EP X pins σ Q z s') X.xe s := by
  obtain ⟨a, dx, fs, b, dy, gs, rfl, rfl, ea, eb, q⟩ := h
  obtain rfl : v = Value.ref a := rx
  obtain rfl : u = Value.ref b := ry
  obtain ⟨mA, J, _⟩ := ins_get I.hok ea
  obtain ⟨od, J, _⟩ := J.look
  obtain ⟨mB, J', _⟩ := ins_get I.hok eb
  obtain ⟨od', J', _⟩ := J'.look
  exact b1_own I.kIn O J J' (wpAny_mono (run_own (vs := [V.ref a, V.ref b]) F hr hb hx I (.cons rfl (.cons rfl .nil)) q) (fun _ _ z => back_of z) fun _ _ e => e)
theorem b1_oi {nm : String} (O : OpO X.K C nm f g) (F : FnOk X.prog X.w X.K X.mg X.base CX k f fd ps sp) (hr : Room k X.A) (hb : Binds X.K fd ps []) (hx : Passes CX X E)
    {pins : List (Addr × Obj)} {s : Shared} {σ : L2.St} {H : Hp} {x y : V} {v u : Value} {Q : VK} (I : Inv X pins σ H s) (rx : RelV x v) (ry : RelV y u) (h : rOI C sp E x y H Q) :
    wpAny (model X.prog X.w) X.A (binaryOp1 nm v u) (fun r s' => ∃ z, r = some z ∧ EP X pins σ Q z s') X.xe s := by
  obtain ⟨a, dx, fs, i, rfl, rfl, ea, q⟩ := h
  obtain rfl : v = Value.ref a := rx
  obtain ⟨t, rfl⟩ := ry
  obtain ⟨mA, J, _⟩ := ins_get I.hok ea
  obtain ⟨od, J, _⟩ := J.look
  exact b1_int I.kIn O J (wpAny_mono (run_own (vs := [V.ref a, V.int i]) F hr hb hx I (.cons rfl (.cons ⟨t, rfl⟩ .nil)) q) (fun _ _ z => back_of z) fun _ _ e => e)
theorem b1_io {nm : String} {id : String} {B : Builtin} (D : Dec nm id B) (O : OpO X.K C nm f g) (F : FnOk X.prog X.w X.K X.mg X.base CX k g fd ps sp) (hr : Room k X.A) (hb : Binds X.K fd ps []) (hx : Passes CX X E)
    {pins : List (Addr × Obj)} {s : Shared} {σ : L2.St} {H : Hp} {x y : V} {v u : Value} {Q : VK} (I : Inv X pins σ H s) (rx : RelV x v) (ry : RelV y u) (h : rIO C sp E x y H Q) :
    wpAny (model X.prog X.w) X.A (binaryOp1 nm v u) (fun r s' => ∃ z, r = some z ∧ EP X pins σ Q z s') X.xe s := by
  obtain ⟨b, dx, fs, i, rfl, rfl, ea, q⟩ := h
  obtain rfl : u = Value.ref b := ry
  obtain ⟨t, rfl⟩ := rx
  obtain ⟨mA, J, _⟩ := ins_get I.hok ea
  obtain ⟨od, J, _⟩ := J.look
  exact b1_rint D I.kIn O J (wpAny_mono (run_own (vs := [V.ref b, V.int i]) F hr hb hx I (.cons rfl (.cons ⟨t, rfl⟩ .nil)) q) (fun _ _ z => back_of z) fun _ _ e => e)
theorem bin_of {M : Model} {A : Around} {Ex : Value → Shared → Prop} {s : Shared} {nm : String} (hn : op.info.2 = nm) {v u : Value} {R : Value → Shared → Prop} (h : wpAny M A (binaryOp1 nm v u) (fun r s' => ∃ z, r = some z ∧ R z s') Ex s) : wpAny M A (binaryOp op v u) R Ex s := by
  unfold binaryOp
  refine wpAny_holding (wpAny_bind ?_)
  subst hn
  refine wpAny_mono (show wpAny M A (binaryOp1 op.info.2 v u) _ _ _ from h) (fun r s' hr => ?_) fun _ _ e => e
  obtain ⟨z, rfl, q⟩ := hr
  exact wpAny_pure q
theorem op_oo {nm : String} (hn : op.info.2 = nm) (O : OpO X.K C nm f g) (F : FnOk X.prog X.w X.K X.mg X.base CX k f fd ps sp) (hr : Room k X.A) (hb : Binds X.K fd ps []) (hx : Passes CX X E) : OpR X (binaryOp op) (rOO C sp E) :=
  fun _ _ _ _ _ _ _ _ _ I rx ry h => bin_of hn (b1_oo O F hr hb hx I rx ry h)
theorem op_oi {nm : String} (hn : op.info.2 = nm) (O : OpO X.K C nm f g) (F : FnOk X.prog X.w X.K X.mg X.base CX k f fd ps sp) (hr : Room k X.A) (hb : Binds X.K fd ps []) (hx : Passes CX X E) : OpR X (binaryOp op) (rOI C sp E) :=
  fun _ _ _ _ _ _ _ _ _ I rx ry h => bin_of hn (b1_oi O F hr hb hx I rx ry h)
theorem op_io {nm : String} {id : String} {B : Builtin} (hn : op.info.2 = nm) (D : Dec nm id B) (O : OpO X.K C nm f g) (F : FnOk X.prog X.w X.K X.mg X.base CX k g fd ps sp) (hr : Room k X.A) (hb : Binds X.K fd ps []) (hx : Passes CX X E) : OpR X (binaryOp op) (rIO C sp E) :=
  fun _ _ _ _ _ _ _ _ _ I rx ry h => bin_of hn (b1_io D O F hr hb hx I rx ry h)
/-! ### in place, without a method of its own for it -/
structure NoI (K : PySem.W.Frag) (C : Addr) (nm : String) : Prop where
  mro : ∃ cd, PySem.W.clsIn K C = some cd ∧ cd.mro = [.ref C, .type "object"]
  own : PySem.W.findIn K (.ref C) (dunderI nm) = some none
  obj : PySem.W.findIn K (.type "object") (dunderI nm) = some none
open PySem.W in
theorem looks_noI {M : Model} {h : Heap} {nm : String} {add : Bool} {K : Frag} (X : K.In h) (N : NoI K C nm) : Looks M h (fillsInplaceSlot (.ref C) nm add) false := by
  intro A Q E s k q
  obtain ⟨cd, hc, hm⟩ := N.mro
  have Lm : Looks M h (mroOf (.ref C)) cd.mro := (looks_clsIn X hc).andThen (f := fun cd => pure cd.mro) .now
  have Lm' := Lm.keeps k
  obtain ⟨hh, g, d, tt, os⟩ := s
  have X' : K.In hh := X.keeps k
  have L1 : Looks M hh (typeLookup (.ref C) (dunderI nm)) none := looks_findIn X' N.own
  have L2 : Looks M hh (typeLookup (.type "object") (dunderI nm)) none := looks_findIn X' N.obj
  unfold fillsInplaceSlot
  refine wpAny_bind (Lm'.at ?_)
  rw [hm, List.anyM_cons]
  refine wpAny_bind (wpAny_bind (L1.at ?_))
  refine wpAny_pure ?_
  rw [if_neg Bool.false_ne_true, List.anyM_cons]
  refine wpAny_bind (wpAny_bind (L2.at ?_))
  refine wpAny_pure ?_
  rw [if_neg Bool.false_ne_true]
  exact wpAny_pure q
theorem inp_of {M : Model} {A : Around} {Ex : Value → Shared → Prop} {s : Shared} {nm : String} {K : PySem.W.Frag} {a dx : Addr} {ox : Obj} {od : Option Obj} (hn : op.info.2 = nm) (X : K.In s.heap) (I : PySem.W.InstAt s.heap a ox C od) (N : NoI K C nm) {u : Value} {R : Value → Shared → Prop}
    (h : wpAny M A (binaryOp1 nm (.ref a) u) (fun r s' => ∃ z, r = some z ∧ R z s') Ex s) : wpAny M A (inplaceOp op (.ref a) u) R Ex s := by
  subst hn
  unfold inplaceOp
  refine wpAny_holding ?_
  refine wpAny_bind (I.type.here ?_)
  refine wpAny_bind ((looks_noI X N).here ?_)
  rw [if_neg Bool.false_ne_true]
  refine wpAny_bind (wpAny_mono h (fun r s' hr => ?_) fun _ _ e => e)
  obtain ⟨z, rfl, q⟩ := hr
  exact wpAny_pure q
theorem iop_oo {nm : String} (hn : op.info.2 = nm) (N : NoI X.K C nm) (O : OpO X.K C nm f g) (F : FnOk X.prog X.w X.K X.mg X.base CX k f fd ps sp) (hr : Room k X.A) (hb : Binds X.K fd ps []) (hx : Passes CX X E) : OpR X (inplaceOp op) (rOO C sp E) := by
  intro pins s σ H x y v u Q I rx ry h
  have h' := b1_oo O F hr hb hx I rx ry h
  obtain ⟨a, dx, fs, b, dy, gs, rfl, rfl, ea, eb, q⟩ := h
  obtain rfl : v = Value.ref a := rx
  obtain ⟨mA, J, _⟩ := ins_get I.hok ea
  obtain ⟨od, J, _⟩ := J.look
  exact inp_of (dx := dx) hn I.kIn J N h'
theorem iop_oi {nm : String} (hn : op.info.2 = nm) (N : NoI X.K C nm) (O : OpO X.K C nm f g) (F : FnOk X.prog X.w X.K X.mg X.base CX k f fd ps sp) (hr : Room k X.A) (hb : Binds X.K fd ps []) (hx : Passes CX X E) : OpR X (inplaceOp op) (rOI C sp E) := by
  intro pins s σ H x y v u Q I rx ry h
  have h' := b1_oi O F hr hb hx I rx ry h
  obtain ⟨a, dx, fs, i, rfl, rfl, ea, q⟩ := h
  obtain rfl : v = Value.ref a := rx
  obtain ⟨mA, J, _⟩ := ins_get I.hok ea
  obtain ⟨od, J, _⟩ := J.look
  exact inp_of (dx := dx) hn I.kIn J N h'
/-! ### == by the class's own method, with either answer -/
theorem cmp_own (hs : PySem.W.findIn X.K (.ref C) "__eq__" = some (some (.ref f))) (hf : PySem.W.isFn X.K (.ref f) = true) (F : FnOk X.prog X.w X.K X.mg X.base CX k f fd ps sp) (hr : Room k X.A) (hb : Binds X.K fd ps []) (hx : Passes CX X E) : OpR X (compareOp .Eq) (rOO C sp E) := by
  intro pins s σ H x y v u Q I rx ry h
  obtain ⟨a, dx, fs, b, dy, gs, rfl, rfl, ea, eb, q⟩ := h
  obtain rfl : v = Value.ref a := rx
  obtain rfl : u = Value.ref b := ry
  obtain ⟨mA, J, _⟩ := ins_get I.hok ea
  obtain ⟨od, J, _⟩ := J.look
  obtain ⟨mB, J', _⟩ := ins_get I.hok eb
  obtain ⟨od', J', _⟩ := J'.look
  obtain ⟨m, hF⟩ := I.fr
  show wpAny (model X.prog X.w) X.A (richCompare .Eq (.ref a) (.ref b)) (EP X pins σ Q) X.xe s
  refine PySem.W.cmp_K (op := .Eq) (tb := .ref C) hr.units0 hF I.ok.mod.kin J J'.type (by simp [PySem.W.notFirst]) hs hf ?_
  exact wpAny_mono (run_own (vs := [V.ref a, V.ref b]) F hr hb hx I (.cons rfl (.cons rfl .nil)) q) (fun _ _ z => back_of z) fun _ _ e => e
/-! ### != of two lists with the same items -/
def plainV : V → Bool
  | .int _ => true
  | .ref _ => true
  | _ => false
def rNeSame (K : PySem.W.Frag) : R2 := fun x y H Q => ∃ a b xs, x = .ref a ∧ y = .ref b ∧ SqL K H a xs ∧ SqL K H b xs ∧ (∀ z ∈ xs, plainV z = true) ∧ Q (.bl false) H
theorem eqAt_same {A : Around} {s : Shared} {z : V} {u v : Value} (h : plainV z = true) (r : RelV z u) (r' : RelV z v) : SeqAt.EqAt A s u v true := by
  cases z with
  | int i =>
    have := eqAt_V (A := A) (s := s) r r' rfl rfl
    have e : eqV (.int i) (.int i) = true := by simp [eqV]
    rw [e] at this
    exact this
  | ref a =>
    obtain rfl : u = Value.ref a := r
    obtain rfl : v = Value.ref a := r'
    exact SeqAt.EqAt.same _
  | _ => cases h
theorem op_neSame (hu : X.A.units < cLine) : OpR X (compareOp .NotEq) (rNeSame X.K) := by
  intro pins s σ H x y v u Q I rx ry h
  obtain ⟨a, b, xs, rfl, rfl, ha, hb, hp, q⟩ := h
  obtain rfl : v = Value.ref a := rx
  obtain rfl : u = Value.ref b := ry
  obtain ⟨its, r, ⟨o, n, e, c, d, dt⟩, _⟩ := I.list ha
  obtain ⟨its2, r2, ⟨o2, n2, e2, c2, d2, dt2⟩, _⟩ := I.list hb
  have hsz : its.toArray.size = its2.toArray.size := by rw [List.size_toArray, List.size_toArray, ← r.length, ← r2.length]
  show wpAny (model X.prog X.w) X.A (richCompare .NotEq (.ref a) (.ref b)) (EP X pins σ Q) X.xe s
  refine SeqAt.RcNeAt.lists (e := fun _ => true) ⟨o, e, c, n, dt⟩ ⟨o2, e2, c2, n2, dt2⟩ hsz hu (fun j h1 h2 => ?_) _ _ _ _ ?_
  · have k1 : j < xs.length := by rw [r.length]; simpa using h1
    obtain ⟨w1, hw1, rw1⟩ := r.get (List.getElem?_eq_getElem k1)
    obtain ⟨w2, hw2, rw2⟩ := r2.get (List.getElem?_eq_getElem k1)
    have g1 : its[j]? = some its.toArray[j] := by
      have h1' : j < its.length := by simpa using h1
      rw [List.getElem?_eq_getElem h1'] <;> simp
    have g2 : its2[j]? = some its2.toArray[j] := by
      have h2' : j < its2.length := by simpa using h2
      rw [List.getElem?_eq_getElem h2'] <;> simp
    rw [g1] at hw1
    rw [g2] at hw2
    rw [Option.some.inj hw1, Option.some.inj hw2]
    exact eqAt_same (hp _ (List.getElem_mem k1)) rw1 rw2
  · have e : (!(List.range its.toArray.size).all fun _ => true) = false := by simp
    rw [e]
    exact ⟨.bl false, H, I, rfl, q⟩
end
/-! ### list or tuple -/
section
variable {X : Cx}
theorem ix_or {r1 r2 : R2} (a : IxR X r1) (b : IxR X r2) : IxR X (fun x y H Q => r1 x y H Q ∨ r2 x y H Q) := by
  intro value slice pins s σ H x y v u Q I rx ry h
  rcases h with h | h
  · exact a value slice pins s σ H x y v u Q I rx ry h
  · exact b value slice pins s σ H x y v u Q I rx ry h
def iSeq (K : PySem.W.Frag) (tl : TE) : TI := fun σ H R => tl σ H fun x H1 => ∃ a, x = .ref a ∧ (((∃ xs, SqL K H1 a xs) ∧ R (Itl K a) H1) ∨ ((∃ xs, SqT K H1 a xs) ∧ R (Itt K a) H1))
theorem pi_seq {tg l : Expr} {tl : TE} (hl : PE X l tl) : PI X tg l (iSeq X.K tl) := by
  refine ⟨fun pins s σ H R I h => ?_⟩
  refine thn (hl.run pins s σ H _ I h) fun v s1 ⟨x, H1, I1, r1, q1⟩ => ?_
  obtain ⟨a, e, ⟨⟨xs, hq⟩, q⟩ | ⟨⟨xs, hq⟩, q⟩⟩ := q1
  · subst e
    cases r1
    obtain ⟨its, rv, p, hz⟩ := I1.list hq
    refine wpAny_pyIter_list p.isList ?_
    refine ⟨s1.heap.objs.size, [s1.heap.objs.size], _, _, H1, rfl, I1.kept (t' := s1.toks) fun b o e => Heap.get?_push_of_some _ e, turn_list a _, ⟨_, Heap.get?_push_size _ rfl, rfl, rfl⟩, fun b hb => ?_, q⟩
    have e : b = s1.heap.objs.size := by simpa using hb
    subst e
    exact I1.fpOk (Nat.le_refl _) (I1.hok.fresh (Nat.le_refl _))
  · subst e
    cases r1
    obtain ⟨its, rv, p, hz⟩ := I1.tuple hq
    refine wpAny_pyIter_tuple (show s1.heap.IsTuple a its.toArray from p) ?_
    refine ⟨s1.heap.objs.size, [s1.heap.objs.size], _, _, H1, rfl, I1.kept (t' := s1.toks) fun b o e => Heap.get?_push_of_some _ e, turn_tuple a _, ⟨_, Heap.get?_push_size _ rfl, rfl, rfl⟩, fun b hb => ?_, q⟩
    have e : b = s1.heap.objs.size := by simpa using hb
    subst e
    exact I1.fpOk (Nat.le_refl _) (I1.hok.fresh (Nat.le_refl _))
end
end
end My

/-! My own rules about calls that raise: by keywords alone, at the caller's slots; through a def's body. -/
namespace My
open PySem PySem.Spec PyProof.Rows L2
section
variable {X : Cx} {CX : CXT} {k : Nat} {f : Addr} {fd : FuncData} {ps ks : List Str} {sp : Sp} {E : L2.St → XK} {x : Str} {p pos : Pos} {kws : List Keyword} {tk : TA} {g : List Value → List Value → List Value} {gV : List V → List V → List V}
theorem run_fnkS {pins : List (Addr × Obj)} {σ : L2.St} {H : Hp} {s : Shared} {Q : VK} {us ws : List Value} {vs zs : List V} (F : FnOk X.prog X.w X.K X.mg X.base CX k f fd ps sp) (hr : Room k X.A) (hb : KBinds X.K fd ps ks g gV) (hx : PassesAt CX X σ (E σ))
    (I : Inv X pins σ H s) (r : Vals vs us) (rz : Vals zs ws) (h : sp (gV vs zs) H Q (E σ)) : wpAny (model X.prog X.w) X.A (call (.ref f) us (ks.zip ws)) (EP X pins σ Q) X.xe s := by
  have r2 := hb.rel r rz
  have hl : (g us ws).length = ps.length := by rw [← r2.length]; exact F.len _ _ _ _ h
  refine wpAny_call (codeAny_mono (F.run X.A X.stack s H ⟨us, ks.zip ws⟩ (g us ws) (gV vs zs) Q (E σ) hr I.env0 (hb.to s us ws I.kIn hl) r2 h) fun r s' hq => ?_)
  cases r with
  | error e => exact hx pins H s e s' I hq
  | ok fl =>
    cases fl with
    | ret u => exact I.after hq
    | next => exact False.elim hq
    | brk => exact False.elim hq
    | cont => exact False.elim hq
def tCallK0S (sp : Sp) (gV : List V → List V → List V) (E : L2.St → XK) (tk : TA) : TE := fun σ H Q => tk σ H fun zs H2 => sp (gV [] zs) H2 Q (E σ)
theorem pe_callK0S (F : FnOk X.prog X.w X.K X.mg X.base CX k f fd ps sp) (hr : Room k X.A) (hg : Gl X x) (hm : X.mg x = some (.ref f)) (hk : PySem.W.keepIn X.K (.ref f) = true) (hb : KBinds X.K fd ps ks g gV) (hx : ∀ σ, PassesAt CX X σ (E σ))
    (hkw : PK X kws tk) (hall : (backToKw pos (keywordEach kws X.env)).all (·.1.isSome) = true := by rfl) (hks : (backToKw pos (keywordEach kws X.env)).filterMap (·.1) = ks := by rfl)
    (hdb : (x == ("__debug__" : Str)) = false := by decide)
    (hpl : ((backTo pos (starEach [] X.env)).any (·.1) || (backToKw pos (keywordEach kws X.env)).any (·.1.isNone)) = false := by rfl) :
    PE X (.Call (.Name x p) [] kws pos) (tCallK0S sp gV E tk) := by
  refine ⟨fun pins s σ H Q I h => ?_⟩
  refine wpAny_Call_Name_kw (ld_glob I hg hm ?_ hdb)
  refine PySem.W.callWith_KW0 (h₀ := X.base) I.ok.mod.kin hk hall (thn (hkw.run pos pins s σ H _ I h) fun ws s2 ⟨zs, H2, I2, rz, q2⟩ => ⟨I2.kIn, ?_⟩) hpl
  rw [hks]
  exact run_fnkS (us := []) (vs := []) F hr hb (hx σ) I2 .nil rz q2
end
section
variable {X : Cx} {E E' : XK}
/-- what a callee lets out leaves this def too -/
theorem passX (tk : Takes X (fun cls d _ H => E cls d H)) : Passes (L2.CX X.prog X.w) X E := fun pins σ H s e s' I c => L2.passes_call tk (fun _ _ _ _ h => h) pins σ H s e s' I c
end
end My

/-! My own rules: != by object.__ne__ over an own ==, x is a bool, o.m(k = v). -/
namespace My
open PySem PySem.Spec PyProof.Rows L2

section
variable {X : Cx} {CX : CXT} {k : Nat} {C f : Addr} {fd : FuncData} {ps : List Str} {sp : Sp} {E : XK}
/-- a method run below a built-in -/
theorem run_own1 {pins : List (Addr × Obj)} {s : Shared} {σ : L2.St} {H : Hp} {Q : VK} {us : List Value} {vs : List V} (F : FnOk X.prog X.w X.K X.mg X.base CX k f fd ps sp) (hr : Room (k + 1) X.A) (hb : Binds X.K fd ps []) (hx : Passes CX X E)
    (I : Inv X pins σ H s) (r : Vals vs us) (h : sp vs H Q E) : wpAny (model X.prog X.w) X.A.in1 (call (.ref f) us) (EP X pins σ Q) X.xe s := by
  have hl : (us ++ []).length = ps.length := by
    rw [List.append_nil, ← F.len _ _ _ _ h]
    exact r.length.symm
  refine wpAny_call (codeAny_mono (F.run X.A.in1 X.stack s H ⟨us, []⟩ us vs _ E hr.in1 I.env0.in1 (by
    have := hb s us I.kIn hl
    rw [List.append_nil] at this
    exact this) r h) fun r s' hq => ?_)
  cases r with
  | error e => exact hx pins σ H s e s' I hq
  | ok fl =>
    cases fl with
    | ret w => exact I.after hq
    | next => exact False.elim hq
    | brk => exact False.elim hq
    | cont => exact False.elim hq
/-- C has no != of its own -/
structure NoNe (K : PySem.W.Frag) (C f : Addr) : Prop where
  ne : PySem.W.findIn K (.ref C) "__ne__" = some (some (.builtin "object.__ne__"))
  ob : PySem.W.subIn K (.ref C) (.type "object") = some true
  eq : PySem.W.findIn K (.ref C) "__eq__" = some (some (.ref f))
  fn : PySem.W.isFn K (.ref f) = true
theorem ne_K {prog : Program} {w : World} {A : Around} {Ex : Value → Shared → Prop} {s : Shared} {K : PySem.W.Frag} {a b : Addr} {oa ob : Obj} {oda odb : Option Obj} {Q : Value → Shared → Prop} (hu : A.units + 1 < cLine) (X : K.In s.heap) (N : NoNe K C f)
    (I : PySem.W.InstAt s.heap a oa C oda) (J : PySem.W.InstAt s.heap b ob C odb) (h : wpAny (model prog w) A.in1 (call (.ref f) [.ref a, .ref b]) (fun v s' => ∃ r, v = .bool r ∧ Q (.bool (!r)) s') Ex s) :
    wpAny (model prog w) A (richCompare .NotEq (.ref a) (.ref b)) Q Ex s := by
  have body : wpAny (model prog w) A.in1 (Builtin.«object.__ne__» ⟨[.ref a, .ref b], []⟩) (fun fin s' => ∃ r, fin = .done (.ret (.bool (!r))) ∧ Q (.bool (!r)) s') Ex s := by
    unfold Builtin.«object.__ne__»
    refine wpAny_bind (wpAny_of_eq (a := ((Value.ref a : Value), [Value.ref b])) (by first | rfl | (simp only [slotArgs]; rfl)) ?_)
    refine wpAny_bind (wpAny_cRoomFor hu ?_)
    refine wpAny_bind (PySem.W.ifBound_K X I N.eq N.fn (wpAny_mono h (fun v s' hv => ?_) fun _ _ e => e))
    obtain ⟨r, rfl, q⟩ := hv
    refine wpAny_bind (wpAny_truthy_bool ?_)
    exact wpAny_pure ⟨r, rfl, q⟩
  have below : PySem.W.Looks (model prog w) s.heap (isInstance (.ref a) (.type "object")) true := I.type.andThen (PySem.W.looks_subIn X N.ob)
  have one : wpAny (model prog w) A (tryCompare (.ref a) "__ne__" (.ref b)) (fun r s' => ∃ t, r = some (.bool (!t)) ∧ Q (.bool (!t)) s') Ex s := by
    unfold tryCompare
    simp only [callSpecialIfBound?, bindSpecialIfBound?]
    refine wpAny_bind (wpAny_holding (wpAny_bind (wpAny_bind (wpAny_bind (I.type.here ((PySem.W.looks_findIn X N.ne).here ?_))))))
    simp only [F.cmp_object.ne.bind]
    refine wpAny_bind (wpAny_askSetting (wpAny_ite ?_))
    have fin : wpAny (model prog w) A (call (.builtin "object.__ne__") ([.ref a] ++ [.ref b]) >>= fun v => pure (some v)) (fun r s' => ∃ t, r = some (.bool (!t)) ∧ Q (.bool (!t)) s') Ex s := by
      refine wpAny_bind (wpAny_call (codeAny_call_builtin F.cmp_object.ne.plain F.cmpEntry_ne (PySem.W.check_slot F.cmpKind_ne F.cmpSplit_ne below (F.cmpArgs_ne _ _) (wpAny_mono body (fun fin s' hf => ?_) fun _ _ e => e))))
      obtain ⟨r, rfl, q⟩ := hf
      exact wpAny_pure ⟨r, rfl, q⟩
    have fin2 := wpAny_mono fin (Q' := fun a s' => wpAny (model prog w) A (match a with
        | some Value.notImplemented => pure none
        | none => pure none
        | some v => pure (some v)) (fun r s' => ∃ t, r = some (Value.bool !t) ∧ Q (Value.bool !t) s') Ex s') (fun r s' hr => by
      obtain ⟨t, rfl, q⟩ := hr
      exact wpAny_pure ⟨t, rfl, q⟩) fun _ _ e => e
    split
    · exact wpAny_pure (by exact fin2)
    · exact wpAny_tryCatch (wpAny_pure (by exact fin2))
  unfold richCompare
  simp only [oneThing_ref]
  refine wpAny_holding (wpAny_bind (wpAny_cRoomFor (by omega) ?_))
  refine wpAny_bind (I.type.here (wpAny_bind (J.type.here ?_)))
  split
  · rename_i q
    simp at q
  · refine wpAny_bind (wpAny_pure ?_)
    simp only [Bool.false_eq_true, if_false]
    refine wpAny_bind (wpAny_mono one (fun r s' z => ?_) fun _ _ e => e)
    obtain ⟨t, rfl, hq⟩ := z
    exact wpAny_pure hq
/-- x is y, two bools -/
theorem op_isB : OpR X (compareOp .Is) (fun x y H Q => ∃ a b, x = .bl a ∧ y = .bl b ∧ Q (.bl (decide (a = b))) H) := by
  intro pins s σ H x y v u Q I rx ry h
  obtain ⟨a, b, rfl, rfl, q⟩ := h
  cases rx
  cases ry
  show wpAny (model X.prog X.w) X.A (do return .bool (← isSame (.bool a) (.bool b))) (EP X pins σ Q) X.xe s
  refine wpAny_bind ?_
  unfold isSame
  cases a <;> cases b <;> exact wpAny_pure (wpAny_pure ⟨.bl (decide _), H, I, by rfl, q⟩)
section
variable {ks : List Str} {g : List Value → List Value → List Value} {gV : List V → List V → List V} {o : Expr} {m : Str} {pos apos : Pos} {kws : List Keyword} {ta : TE} {tk : TA}
/-- o.m(k = v, ..), nothing by place -/
def tMethK0 (C : Addr) (m : Str) (sp : Sp) (gV : List V → List V → List V) (E : XK) (ta : TE) (tk : TA) : TE := fun σ H Q => ta σ H fun x H1 => ∃ a dx fs, x = .ref a ∧ H1 a = some (.ins C dx fs) ∧ fs.lookup m = none ∧ tk σ H1 fun zs H2 => sp (gV [x] zs) H2 Q E
theorem pe_methK0 {pl : Sem Bool} (he : PE X o ta) (c : Cls X.K C) (hm : Meth X.K C m f) (F : FnOk X.prog X.w X.K X.mg X.base CX k f fd ps sp) (hr : Room k X.A) (hb : KBinds X.K fd ps ks g gV) (hx : Passes CX X E) (hkw : PK X kws tk)
    (hall : (backToKw pos (keywordEach kws X.env)).all (·.1.isSome) = true := by rfl) (hks : (backToKw pos (keywordEach kws X.env)).filterMap (·.1) = ks := by rfl)
    (hpl : ((backTo pos (starEach [] X.env)).any (·.1) || (backToKw pos (keywordEach kws X.env)).any (·.1.isNone)) = false := by rfl)
    (ht : eval (.Call (.Attribute o m apos) [] kws pos) X.env = (do
      let ov ← eval o X.env
      standAt apos.atName
      let (f, first) ← holding [ov] (getMethod ov m pl)
      callWith pos f first (backTo pos (starEach [] X.env)) (backToKw pos (keywordEach kws X.env))) := by rfl) :
    PE X (.Call (.Attribute o m apos) [] kws pos) (tMethK0 C m sp gV E ta tk) := by
  refine ⟨fun pins s σ H Q I h => ?_⟩
  refine PySem.W.methodCall_KW (pl := pl) (thn (he.run pins s σ H _ I h) fun u s1 ⟨x, H1, I1, rx, a, dx, fs, ex, ea, l, q⟩ => ?_) ht
  subst ex
  obtain rfl : u = Value.ref a := rx
  refine getmeth_ok I1 ea c hm l ?_
  refine PySem.W.callWith_KW0 (first := [.ref a]) (h₀ := X.base) I.ok.mod.kin hm.kp hall (thn (hkw.run pos pins s1 σ H1 _ I1 q) fun ws s2 ⟨zs, H2, I2, rz, q2⟩ => ⟨I2.kIn, ?_⟩) hpl
  rw [hks]
  exact run_fnk (us := [.ref a]) (vs := [.ref a]) F hr hb hx I2 (.cons rfl .nil) rz q2
end
/-! ### a built-in value == an instance: the instance's own == answers -/
theorem eq_right {prog : Program} {w : World} {A : Around} {Ex : Value → Shared → Prop} {s : Shared} {K : PySem.W.Frag} {a : Value} {b : Addr} {ob : Obj} {odb : Option Obj} {Ta ida : String} {Q : Value → Shared → Prop} (hu : A.units < cLine) (X : K.In s.heap)
    (he : PySem.W.findIn K (.ref C) "__eq__" = some (some (.ref f))) (hf : PySem.W.isFn K (.ref f) = true) (ha : s.TypeIs a Ta) (J : PySem.W.InstAt s.heap b ob C odb) (hsub : PySem.W.subIn K (.ref C) (.type Ta) = some false)
    (h1 : Slot Ta (cmpInfo .Eq).2.1 ida) (hc1 : ∀ Q' : Value → Shared → Prop, Q' .notImplemented s → wpAny (model prog w) A (call (.builtin ida) [a, .ref b]) Q' Ex s)
    (h : wpAny (model prog w) A (call (.ref f) [.ref b, a]) (fun v s' => ∃ r, v = .bool r ∧ Q (.bool r) s') Ex s) : wpAny (model prog w) A (richCompare .Eq a (.ref b)) Q Ex s := by
  have hne : (Value.type Ta != Value.ref C) = true := by
    rw [bne_iff_ne]
    exact fun z => nomatch z
  rcases hi : cmpInfo CmpOp.Eq with ⟨sym, n1, n2⟩
  have e1 : n1 = "__eq__" := by cases hi; rfl
  have e2 : n2 = "__eq__" := by cases hi; rfl
  rw [hi] at h1
  have one : wpAny (model prog w) A (tryCompare (.ref b) n2 a) (fun r s' => ∃ t, r = some (.bool t) ∧ Q (.bool t) s') Ex s := by
    rw [e2]
    unfold tryCompare
    refine wpAny_bind (PySem.W.ifBound_K X J he hf (wpAny_mono h (fun v s' hv => ?_) fun _ _ e => e))
    obtain ⟨r, rfl, q⟩ := hv
    exact wpAny_pure ⟨r, rfl, q⟩
  simp only [richCompare, hi, ha.oneThing_none]
  try with_reducible refine wpAny_holding ?_
  refine wpAny_bind (wpAny_cRoomFor hu ?_)
  refine wpAny_bind (wpAny_typeOf ha (wpAny_bind (J.type.here ?_)))
  simp only [hne, if_true]
  refine wpAny_bind ((PySem.W.looks_subIn X hsub).here ?_)
  simp only [Bool.false_eq_true, if_false, Bool.not_false, if_true]
  refine wpAny_bind (m := tryCompare a _ (.ref b)) (wpAny_tryCompare_declines ha h1 (hc1 _ ⟨rfl, ?_⟩))
  refine wpAny_bind (m := tryCompare (.ref b) _ a) (wpAny_mono one (fun r s' hr => ?_) fun _ _ e => e)
  obtain ⟨t, rfl, q⟩ := hr
  exact wpAny_pure q
theorem dec_int_eq (a : Int) (t : Tok) (l C dx : Addr) : Meets (Builtin.«int.__eq__» ⟨[.int a t, .ref l], []⟩) (fun _ R s => s.heap.get? l = some (PySem.W.instObj C dx) ∧ R (.ok (.ret Value.notImplemented)) s) := .of_wp fun prog w A R s h => by obtain ⟨hp, g, d, tk, os⟩ := s; obtain ⟨hl, h⟩ := h; wp_walk; exact ⟨_, rfl, h⟩
theorem dec_str_eq (a : Str) (t : Tok) (l C dx : Addr) : Meets (Builtin.«str.__eq__» ⟨[.str a t, .ref l], []⟩) (fun _ R s => s.heap.get? l = some (PySem.W.instObj C dx) ∧ R (.ok (.ret Value.notImplemented)) s) := .of_wp fun prog w A R s h => by obtain ⟨hp, g, d, tk, os⟩ := s; obtain ⟨hl, h⟩ := h; wp_walk; exact ⟨_, rfl, h⟩
theorem dec_none_eq (l : Addr) : Gives (Builtin.«NoneType.__eq__» ⟨[.none, .ref l], []⟩) (.val (Value.notImplemented)) := .of_wp fun M A E s Q h => by obtain ⟨hp, g, d, tk, os⟩ := s; wp_walk; exact ⟨_, rfl, h⟩
section
variable {prog : Program} {w : World} {A : Around} {Ex : Value → Shared → Prop} {s : Shared}
theorem dec_list_eq {l b : Addr} {Q : Value → Shared → Prop} (hl : s.TypeIs (.ref l) "list") (hb : PySem.W.Looks (model prog w) s.heap (isInstance (.ref b) (.type "list")) false) (q : Q .notImplemented s) : wpAny (model prog w) A (call (.builtin "list.__eq__") [.ref l, .ref b]) Q Ex s := by
  refine GQ.call_here F.slot_list_eq hl F.entry_list_eq (F.args_list_eq_2 _ _) ?_
  obtain ⟨hp, g, d, tk, os⟩ := s
  wp_walk using hb.at
  exact q
theorem dec_tuple_eq {l b : Addr} {Q : Value → Shared → Prop} (hl : s.TypeIs (.ref l) "tuple") (hb : PySem.W.Looks (model prog w) s.heap (isInstance (.ref b) (.type "tuple")) false) (q : Q .notImplemented s) : wpAny (model prog w) A (call (.builtin "tuple.__eq__") [.ref l, .ref b]) Q Ex s := by
  refine GQ.call_here F.slot_tuple_eq hl F.entry_tuple_eq (F.args_tuple_eq_2 _ _) ?_
  obtain ⟨hp, g, d, tk, os⟩ := s
  wp_walk using hb.at
  exact q
end
/-! ### an instance in a list of other things, by its own == -/
section
open PySem.SeqAt MeetsSeq MeetsSeq2 MeetsSeq3 SeqRoads2
variable {prog : Program} {w : World} {A : Around} {R : Result → Shared → Prop}
theorem contains_loopG (l : Addr) (x : Value) (N : Nat) (I : Shared → Prop)
    (hl : ∀ s, I s → ∃ (items : Array Value) (n : Nat), s.heap.get? l = some { cls := .type "list", data := .seq items n } ∧ items.size = N ∧ ∀ i (h : i < items.size), wpAny (model prog w) A.in1 (eqBool items[i] x) (fun r s' => r = false ∧ I s') (fun e s' => R (.error e) s') s)
    (fin : ∀ s, I s → R (.ok (.ret (.bool false))) s) (k : Nat) :
    ∀ i : Nat, N - i = k → i ≤ N → ∀ s, I s → wpAny (model prog w) A.in1 (Builtin.«list.__contains__.loop» ⟨[.ref l, x, rawInt i], []⟩) (GQ.FinOf prog w A R) (fun e s' => R (.error e) s') s := by
  induction k with
  | zero =>
    intro i hk hi s h
    obtain ⟨items, n, hl1, hs1, _⟩ := hl _ h
    have hR : R (.ok (.ret (.bool false))) s := fin s h
    obtain ⟨hp, g, d, tk, os⟩ := s
    wp_walk using AutoSeq1.wpAny_loadPart' hl1
    have hi1 : items[((i : Nat) : Int).toNat]? = none := by simp; omega
    rw [hi1]
    wp_walk
    exact hR
  | succ k ih =>
    intro i hk hi s h
    obtain ⟨items, n, hl1, hs1, turn⟩ := hl _ h
    have hlt : i < items.size := by omega
    have ht := turn i hlt
    obtain ⟨hp, g, d, tk, os⟩ := s
    wp_walk using AutoSeq1.wpAny_loadPart' hl1
    have hi1 : items[((i : Nat) : Int).toNat]? = some items[i] := by simp [hlt]
    have hc : ((i : Int) + 1) = ((i + 1 : Nat) : Int) := by omega
    rw [hi1]
    refine wpAny_bind (wpAny_mono ht (fun r s2 h2 => ?_) fun _ _ x => x)
    obtain ⟨hr, h2⟩ := h2
    subst hr
    have hrec := ih (i + 1) (by omega) (by omega) s2 h2
    obtain ⟨hp2, g2, d2, tk2, os2⟩ := s2
    wp_walk
    rw [hc]
    exact ⟨plainId_quiet plain_contains_loop _, codeAny_builtin entry_contains_loop (by
      rw [Around.under_plainId plain_contains_loop _]
      exact hrec)⟩
theorem list_containsG (l : Addr) (x : Value) (N : Nat) (I : Shared → Prop)
    (hl : ∀ s, I s → ∃ (items : Array Value) (n : Nat), s.heap.get? l = some { cls := .type "list", data := .seq items n } ∧ items.size = N ∧ ∀ i (h : i < items.size), wpAny (model prog w) A.in1 (eqBool items[i] x) (fun r s' => r = false ∧ I s') (fun e s' => R (.error e) s') s)
    (fin : ∀ s, I s → R (.ok (.ret (.bool false))) s) {s : Shared} (h : I s) : wpAny (model prog w) A.in1 (Builtin.«list.__contains__» ⟨[.ref l, x], []⟩) (GQ.FinOf prog w A R) (fun e s' => R (.error e) s') s := by
  have hrec := contains_loopG (A := A) (R := R) l x N I hl fin _ 0 rfl (Nat.zero_le _) s h
  obtain ⟨items, n, hl1, _, _⟩ := hl _ h
  obtain ⟨hp, g, d, tk, os⟩ := s
  wp_walk using AutoSeq1.wpAny_loadPart' hl1
  exact ⟨plainId_quiet plain_contains_loop _, codeAny_builtin entry_contains_loop (by
    rw [Around.under_plainId plain_contains_loop _]
    exact hrec)⟩
end
theorem eqBool_any {prog : Program} {w : World} {A : Around} {Ex : Value → Shared → Prop} {s : Shared} {a : Value} {b : Addr} {Q : Bool → Shared → Prop} (hne : a ≠ .ref b) (h : wpAny (model prog w) A (richCompare .Eq a (.ref b)) (fun v s' => ∃ r, v = .bool r ∧ Q r s') Ex s) : wpAny (model prog w) A (eqBool a (.ref b)) Q Ex s := by
  unfold eqBool
  refine wpAny_holding ?_
  refine wpAny_ite_split (fun hab => absurd (eq_of_beq hab) hne) (fun _ => ?_)
  cases a <;> exact wpAny_bind (wpAny_mono h (fun v s' hv => by
    obtain ⟨r, rfl, q⟩ := hv
    exact wpAny_truthy_bool q) fun _ _ x => x)
/-- another thing than an instance -/
def Oth (K : PySem.W.Frag) (H : Hp) (y : V) : Prop := (∃ i, y = .int i) ∨ (∃ z, y = .str z) ∨ y = .non ∨ (∃ p xs, y = .ref p ∧ H p = some (.tup xs)) ∨ (∃ p xs, y = .ref p ∧ H p = some (.lst xs))
structure OthC (K : PySem.W.Frag) (C f : Addr) : Prop where
  eq : PySem.W.findIn K (.ref C) "__eq__" = some (some (.ref f))
  fn : PySem.W.isFn K (.ref f) = true
  i : PySem.W.subIn K (.ref C) (.type "int") = some false
  s : PySem.W.subIn K (.ref C) (.type "str") = some false
  n : PySem.W.subIn K (.ref C) (.type "NoneType") = some false
  t : PySem.W.subIn K (.ref C) (.type "tuple") = some false
  l : PySem.W.subIn K (.ref C) (.type "list") = some false
def rInO (K : PySem.W.Frag) (C : Addr) (sp : Sp) (E : XK) : R2 := fun x y H Q => ∃ a dx fs l ys, x = .ref a ∧ y = .ref l ∧ H a = some (.ins C dx fs) ∧ H l = some (.lst ys) ∧ (∀ z ∈ ys, Oth K H z ∧ sp [.ref a, z] H (fun v H' => v = .bl false ∧ H' = H) E) ∧ Q (.bl false) H
theorem in_own (O : OthC X.K C f) (Fk : FnOk X.prog X.w X.K X.mg X.base CX k f fd ps sp) (hr : Room (k + 1) X.A) (hb : Binds X.K fd ps []) (hx : Passes CX X E) : OpR X (compareOp .In) (rInO X.K C sp E) := by
  intro pins s σ H x y v u Q I rx ry h
  obtain ⟨a, dx, fs, l, ys, rfl, rfl, ea, el, hz, q⟩ := h
  obtain rfl : v = Value.ref a := rx
  obtain rfl : u = Value.ref l := ry
  obtain ⟨z0, its0, n0, r0, e0⟩ := I.hok l _ el
  show wpAny (model X.prog X.w) X.A (do return .bool (← contains (.ref l) (.ref a))) (EP X pins σ Q) X.xe s
  have hT : s.TypeIs (.ref l) "list" := ⟨_, e0, rfl⟩
  refine wpAny_bind (wpAny_contains_slot hT F.slot_list_contains (wpAny_mono (GQ.call_here (Q := fun v s' => v = .bool false ∧ Inv X pins σ H s') F.slot_list_contains hT F.entry_list_contains (F.args_list_contains_2 _ _)
    (list_containsG l (.ref a) ys.length (fun s' => Inv X pins σ H s') (fun s' I' => ?_) (fun s' I' => ⟨rfl, I'⟩) I)) (fun v s' hv => ?_) fun _ _ e => e))
  · obtain ⟨z1, its, n, r, e⟩ := I'.hok l _ el
    refine ⟨its.toArray, n, e, by rw [List.size_toArray]; exact r.length.symm, fun i hi => ?_⟩
    have k1 : i < ys.length := by rw [r.length]; simpa using hi
    obtain ⟨u, hu, ru⟩ := r.get (List.getElem?_eq_getElem k1)
    have g1 : its[i]? = some its.toArray[i] := by
      have h1' : i < its.length := by simpa using hi
      rw [List.getElem?_eq_getElem h1'] <;> simp
    rw [g1] at hu
    rw [Option.some.inj hu]
    obtain ⟨ho, hsp⟩ := hz _ (List.getElem_mem k1)
    obtain ⟨mA, J, _⟩ := ins_get I'.hok ea
    obtain ⟨od, J, _⟩ := J.look
    have own : wpAny (model X.prog X.w) X.A.in1 (call (.ref f) [.ref a, u]) (fun v s' => ∃ r, v = .bool r ∧ ∃ t, Value.bool r = .bool t ∧ (t = false ∧ Inv X pins σ H s')) X.xe s' := by
      refine wpAny_mono (run_own1 (vs := [V.ref a, ys[i]]) Fk hr hb hx I' (.cons rfl (.cons ru .nil)) hsp) (fun v s2 hv => ?_) fun _ _ e => e
      obtain ⟨x, H2, I2, rv, ex, eH⟩ := hv
      subst ex
      subst eH
      obtain rfl : v = Value.bool false := rv
      exact ⟨false, rfl, false, rfl, rfl, I2⟩
    have hu1 : X.A.in1.units < cLine := hr.in1.units0
    rcases ho with ⟨i', ei⟩ | ⟨z', ez⟩ | en | ⟨p, xs, ep, hp⟩ | ⟨p, xs, ep, hp⟩
    · rw [ei] at ru
      obtain ⟨t, rfl⟩ := ru
      exact eqBool_any (fun z => nomatch z) (eq_right hu1 I'.kIn O.eq O.fn (typeIs_int s' i' t) J O.i F.slot_int_eq (fun Q' q' => call_meets F.slot_int_eq (typeIs_int s' i' t) F.entry_int_eq (F.args_int_eq_2 _ _) (dec_int_eq i' t a C dx) ⟨J.at_, q'⟩) own)
    · rw [ez] at ru
      obtain ⟨t, rfl⟩ := ru
      exact eqBool_any (fun z => nomatch z) (eq_right hu1 I'.kIn O.eq O.fn (typeIs_str s' z' t) J O.s F.slot_str_eq (fun Q' q' => call_meets F.slot_str_eq (typeIs_str s' z' t) F.entry_str_eq (F.args_str_eq_2 _ _) (dec_str_eq z' t a C dx) ⟨J.at_, q'⟩) own)
    · rw [en] at ru
      obtain rfl : u = Value.none := ru
      exact eqBool_any (fun z => nomatch z) (eq_right hu1 I'.kIn O.eq O.fn (typeIs_none s') J O.n F.slot_NoneType_eq (fun Q' q' => call_gives F.slot_NoneType_eq (typeIs_none s') F.entry_NoneType_eq (F.args_NoneType_eq_2 _ _) (dec_none_eq a) q') own)
    · rw [ep] at ru
      obtain rfl : u = Value.ref p := ru
      obtain ⟨its2, r2, pt, _⟩ := I'.tuple (SqT.of hp)
      obtain ⟨ot, et, ct, _⟩ := id pt
      have hTp : s'.TypeIs (.ref p) "tuple" := ⟨ot, et, ct⟩
      have below : PySem.W.Looks (model X.prog X.w) s'.heap (isInstance (.ref a) (.type "tuple")) false := J.type.andThen (PySem.W.looks_subIn I'.kIn O.t)
      refine eqBool_any (fun z => ?_) (eq_right hu1 I'.kIn O.eq O.fn hTp J O.t F.slot_tuple_eq (fun Q' q' => dec_tuple_eq hTp below q') own)
      injection z with z
      rw [z, ea] at hp
      cases hp
    · rw [ep] at ru
      obtain rfl : u = Value.ref p := ru
      obtain ⟨z2, its2, n2, r2, e2⟩ := I'.hok p _ hp
      have hTp : s'.TypeIs (.ref p) "list" := ⟨_, e2, rfl⟩
      have below : PySem.W.Looks (model X.prog X.w) s'.heap (isInstance (.ref a) (.type "list")) false := J.type.andThen (PySem.W.looks_subIn I'.kIn O.l)
      refine eqBool_any (fun z => ?_) (eq_right hu1 I'.kIn O.eq O.fn hTp J O.l F.slot_list_eq (fun Q' q' => dec_list_eq hTp below q') own)
      injection z with z
      rw [z, ea] at hp
      cases hp
  · obtain ⟨rfl, I'⟩ := hv
    exact wpAny_truthy_bool (wpAny_pure ⟨.bl false, H, I', rfl, q⟩)
/-- != of two instances -/
theorem ne_own (N : NoNe X.K C f) (F : FnOk X.prog X.w X.K X.mg X.base CX k f fd ps sp) (hr : Room (k + 1) X.A) (hb : Binds X.K fd ps []) (hx : Passes CX X E) :
    OpR X (compareOp .NotEq) (fun x y H Q => rOO C sp E x y H (fun v H' => ∃ b, v = .bl b ∧ Q (.bl (!b)) H')) := by
  intro pins s σ H x y v u Q I rx ry h
  obtain ⟨a, dx, fs, b, dy, gs, rfl, rfl, ea, eb, q⟩ := h
  obtain rfl : v = Value.ref a := rx
  obtain rfl : u = Value.ref b := ry
  obtain ⟨mA, J, _⟩ := ins_get I.hok ea
  obtain ⟨od, J, _⟩ := J.look
  obtain ⟨mB, J', _⟩ := ins_get I.hok eb
  obtain ⟨od', J', _⟩ := J'.look
  show wpAny (model X.prog X.w) X.A (richCompare .NotEq (.ref a) (.ref b)) (EP X pins σ Q) X.xe s
  refine ne_K (by have := hr.un; omega) I.kIn N J J' (wpAny_mono (run_own1 (vs := [V.ref a, V.ref b]) F hr hb hx I (.cons rfl (.cons rfl .nil)) q) (fun v s2 hv => ?_) fun _ _ e => e)
  obtain ⟨x, H2, I2, rv, t, ex, q2⟩ := hv
  subst ex
  obtain rfl : v = Value.bool t := rv
  exact ⟨t, rfl, .bl (!t), H2, I2, rfl, q2⟩
section
variable {E : L2.St → XK} {o e : Expr} {es : List Expr} {m : Str} {pos apos : Pos} {ta : TE} {t : TA}
/-- o.m(e, ..), what is let out wished for at the caller's slots -/
def tMethE (C : Addr) (m : Str) (sp : Sp) (E : L2.St → XK) (ta : TE) (t : TA) : TE := fun σ H Q => ta σ H fun x H1 => ∃ a dx fs, x = .ref a ∧ H1 a = some (.ins C dx fs) ∧ fs.lookup m = none ∧ t σ H1 fun vs H2 => sp (x :: vs) H2 Q (E σ)
theorem pe_methE {pl : Sem Bool} (he : PE X o ta) (c : Cls X.K C) (hm : Meth X.K C m f) (F : FnOk X.prog X.w X.K X.mg X.base CX k f fd ps sp) (hr : Room k X.A) (hb : Binds X.K fd ps []) (hx : ∀ σ, PassesAt CX X σ (E σ)) (ha : PA X (e :: es) t)
    (hst : starEach (e :: es) X.env = (false, eval e X.env) :: starEach es X.env := by rfl) (hpl : (backTo pos (starEach es X.env)).any (·.1) = false := by rfl)
    (ht : eval (.Call (.Attribute o m apos) (e :: es) [] pos) X.env = (do
      let ov ← eval o X.env
      standAt apos.atName
      let (f, first) ← holding [ov] (getMethod ov m pl)
      callWith pos f first (backTo pos (starEach (e :: es) X.env)) (backToKw pos (keywordEach [] X.env))) := by rfl) :
    PE X (.Call (.Attribute o m apos) (e :: es) [] pos) (tMethE C m sp E ta t) := by
  refine ⟨fun pins s σ H Q I h => ?_⟩
  refine PySem.W.methodCall_KW (pl := pl) (thn (he.run pins s σ H _ I h) fun u s1 ⟨x, H1, I1, rx, a, dx, fs, ex, ea, l, q⟩ => ?_) ht
  subst ex
  obtain rfl : u = Value.ref a := rx
  refine getmeth_ok I1 ea c hm l ?_
  refine PySem.W.callWith_K (first := [.ref a]) (h₀ := X.base) I.ok.mod.kin hm.kp (thn (ha.run pos pins s1 σ H1 _ I1 q) fun us s2 ⟨vs, H2, I2, r, q2⟩ => ⟨I2.kIn, ?_⟩) hst hpl
  exact run_fnS (us := .ref a :: us) (vs := .ref a :: vs) F hr hb (hx σ) I2 (.cons rfl r) q2
end
/-- the receiver by place, the other by its name -/
def kSelf {α : Type} : List α → List α → List α
  | [u], ws => u :: ws
  | _, _ => []
theorem kbinds_self {K : PySem.W.Frag} {fd : FuncData} {p1 p2 k : Str} (h : ∀ (s : Shared) (u w : Value), BindsTo s fd ⟨[u], [(k, w)]⟩ [(p1, u), (p2, w)]) : KBinds K fd [p1, p2] [k] kSelf kSelf where
  to := fun s us ws _ hl => match us, ws, hl with
    | [u], [w], _ => h s u w
    | [], _, hl => nomatch hl
    | [_], [], hl => nomatch hl
    | [_], _ :: _ :: _, hl => by simp [kSelf] at hl
    | _ :: _ :: _, _, hl => nomatch hl
  rel := fun r rz => by
    cases r with
    | nil => exact .nil
    | cons a r =>
      cases r with
      | nil => exact .cons a rz
      | cons => exact .nil
end
end My

/-! My own rule: the own == of two instances within an except suite. -/
namespace My
open PySem PySem.Spec PyProof.Rows L2
/-- a def that may be called while an error is handled: the error stands at p, out of reach -/
structure FnP (P : Program) (w : World) (K : PySem.W.Frag) (mg : Str → Option Value) (base : Heap) (k : Nat) (f : Addr) (fd : FuncData) (ps : List Str) (sp : Sp) : Prop where
  len : ∀ vs H Q E, sp vs H Q E → vs.length = ps.length
  run : ∀ (A : Around) (outer : List Env) (s : Shared) (H : Hp) (args : Args) (us : List Value) (vs : List V) (Q : VK) (E : XK) (p : Addr × Obj), L2H.RoomH k A → L2H.PinOk outer H s p → Env0 P w K mg base A outer s H → BindsTo s fd args (ps.zip us) → Vals vs us → sp vs H Q E →
    codeAny (model P w) A (.call (.ref f) args) (CR CX0 outer P w H s Q E) s
theorem fnP_of {P : Program} {w : World} {K : PySem.W.Frag} {mg : Str → Option Value} {base : Heap} {x qual : Str} {st : Stmt} {f : Addr} {fd : FuncData} {N ps : List Str} {k : Nat} {sp : Sp} (F : Fun K x qual st f fd) (S : FnScope N ps (defScope st)) (len : ∀ vs H Q E, sp vs H Q E → vs.length = ps.length)
    (hbody : ∀ (cdv : Value) (A : Around) (outer : List Env) (s : Shared) (H : Hp) (vs : List V) (Q : VK) (E : XK) (p : Addr × Obj), sp vs H Q E →
      ∃ t, PSs (L2H.cxH CX0 P w K mg base N qual (defScope st) f cdv A outer s H E p) (defBody st) t ∧ t { nx := fun _ H' => Q .non H', rt := Q } (L2.start N vs) H) : FnP P w K mg base (k + 1) f fd ps sp := by
  obtain ⟨oc, od, kV, doc, pm, an, cdv, ct, osl, rfl, lk, hcd⟩ := F.ex
  refine ⟨len, fun A outer s H args us vs Q E p hr hpin e0 hb r hsp => ?_⟩
  have up : ∀ b o, base.get? b = some o → s.heap.get? b = some o := fun b o e => (e0.bs b o e).1
  refine codeAny_call_function hr.depth (e0.mod.kin.keeps up _ _ lk) rfl S.co S.gen rfl (PySem.W.codeRec_of (e0.mod.kin.keeps up) hcd) (hb _ _ _ _ ?_)
  refine wpAny_newFunctionEnv_cells S.kind (fun q hq => (S.par q.1 (List.of_mem_zip hq).1).elim .inl fun c => .inr ⟨c, PySem.W.cellsFrom_some _ _ _ (.inl c)⟩) fun env he s1 y => ?_
  subst he
  refine ⟨(e0.mod.nolimit.keeps up).keeps y.toInCall.keep, codeAny_func ?_⟩
  obtain ⟨t, ht, hq⟩ := hbody cdv A outer s H vs Q E p hsp
  refine wpAny_mono (ht.run [] s1 (L2.start N vs) H _ (L2H.inv_startH S hpin e0 (len _ _ _ _ hsp) r y) hq) (fun fl s' hs => ?_) fun e s' hs => hs
  cases fl with
  | ret u =>
    obtain ⟨v, σ', H', J, rv, q⟩ := hs
    exact ⟨v, H', J.os, J.bare, J.base, J.hok, rv, q⟩
  | next =>
    obtain ⟨σ', H', J, q⟩ := hs
    exact ⟨.non, H', J.os, J.bare, J.base, J.hok, rfl, q⟩
  | brk => exact hs.elim fun _ h => h.elim fun _ h => False.elim h.2
  | cont => exact hs.elim fun _ h => h.elim fun _ h => False.elim h.2
section
variable {X : Cx} {k : Nat} {C f : Addr} {fd : FuncData} {ps : List Str} {sp : Sp} {E : XK} {p : Addr × Obj}
theorem cmp_ownP (hs : PySem.W.findIn X.K (.ref C) "__eq__" = some (some (.ref f))) (hf : PySem.W.isFn X.K (.ref f) = true) (F : FnP X.prog X.w X.K X.mg X.base k f fd ps sp) (hr : L2H.RoomH k X.A) (hp : p ∈ X.pn) (hb : Binds X.K fd ps []) : OpR X (compareOp .Eq) (rOO C sp E) := by
  intro pins s σ H x y v u Q I rx ry h
  obtain ⟨a, dx, fs, b, dy, gs, rfl, rfl, ea, eb, q⟩ := h
  obtain rfl : v = Value.ref a := rx
  obtain rfl : u = Value.ref b := ry
  obtain ⟨mA, J, _⟩ := ins_get I.hok ea
  obtain ⟨od, J, _⟩ := J.look
  obtain ⟨mB, J', _⟩ := ins_get I.hok eb
  obtain ⟨od', J', _⟩ := J'.look
  obtain ⟨m, hF⟩ := I.fr
  have hl : ([Value.ref a, Value.ref b] ++ []).length = ps.length := by rw [← F.len _ _ _ _ q]; rfl
  have b2 := hb s [.ref a, .ref b] I.kIn hl
  have P1 := I.pin p (List.mem_append_left _ hp)
  have hpin : L2H.PinOk X.stack H s p := ⟨P1.1, P1.2.1, fun hm => (List.mem_cons.mp (I.stkSub p.1 hm)).elim P1.2.2.1 P1.2.2.2.1, P1.2.2.2.2⟩
  show wpAny (model X.prog X.w) X.A (richCompare .Eq (.ref a) (.ref b)) (EP X pins σ Q) X.xe s
  refine PySem.W.cmp_K (op := .Eq) (tb := .ref C) (by have := hr.un; omega) hF I.ok.mod.kin J J'.type (by simp [PySem.W.notFirst]) hs hf ?_
  refine wpAny_call (codeAny_mono (F.run X.A X.stack s H ⟨[.ref a, .ref b], []⟩ [.ref a, .ref b] [.ref a, .ref b] Q E p hr hpin I.env0 b2 (.cons rfl (.cons rfl .nil)) q) fun r s' hq => ?_)
  cases r with
  | error e => exact hq.elim
  | ok fl =>
    cases fl with
    | ret w => exact back_of (I.after hq)
    | next => exact False.elim hq
    | brk => exact False.elim hq
    | cont => exact False.elim hq
end
end My

/-! My own rules: a text times a number; a class method's call that raises, at the caller's slots. -/
namespace My
open PySem PySem.Spec PyProof.Rows L2
section
variable {X : Cx}
/-- z * k, only the length is told -/
def rRepS : R2 := fun x y H Q => ∃ (z : Str) (k : Int), x = .str z ∧ y = .int k ∧ 2 ≤ k ∧ k < 2 ^ 30 ∧ 1 ≤ z.length ∧ z.length * k.toNat ≤ sizeLine ∧ ∀ u : Str, u.length = k.toNat * z.length → (∀ c ∈ u.cps.toList, c ∈ z.cps.toList) → Q (.str u) H
theorem rep_size (x : Array Nat) : ∀ (n : Nat) (a : Array Nat), ((List.replicate n x).foldl (· ++ ·) a).size = a.size + n * x.size
  | 0, a => by simp
  | n + 1, a => by
    show ((List.replicate n x).foldl (· ++ ·) (a ++ x)).size = _
    rw [rep_size x n (a ++ x), Array.size_append, Nat.add_mul]
    omega
theorem rep_mem (x : Array Nat) : ∀ (n : Nat) (a : Array Nat) (c : Nat), c ∈ (List.replicate n x).foldl (· ++ ·) a → c ∈ a ∨ c ∈ x
  | 0, a, c, h => .inl h
  | n + 1, a, c, h => by
    rcases rep_mem x n (a ++ x) c h with h | h
    · exact Array.mem_append.mp h
    · exact .inr h
theorem op_repS : OpR X (binaryOp .Mult) rRepS := by
  intro pins s σ H x y v u Q I rx ry h
  obtain ⟨z, k, rfl, rfl, h2, h30, h1, hz, q⟩ := h
  obtain ⟨t, rfl⟩ := rx
  obtain ⟨t', rfl⟩ := ry
  have hl : Builtin.Str.tooLong (z.length * k.toNat) = false := decide_eq_false (by omega)
  have hs : sizeLine = 2 ^ 24 := rfl
  have hb : ¬ ((z.length : Int) > (2 ^ 63 - 1) / k) := by
    have e1 : z.length ≤ z.length * k.toNat := Nat.le_mul_of_pos_right _ (by omega)
    have e2 : (2 ^ 24 : Int) ≤ (2 ^ 63 - 1) / k := by
      rw [Int.le_ediv_iff_mul_le (by omega)]
      omega
    omega
  refine P.mul_str (by rw [decide_eq_false (by omega), decide_eq_false (by omega)]; rfl) (fun _ _ => hb) (fun _ _ => hl) ?_
  rw [if_neg (by omega), if_neg (by
    have a1 : (k == 1) = false := by simp; omega
    have a2 : (z.length == 0) = false := by simp; omega
    rw [a1, a2]
    exact Bool.false_ne_true)]
  have e : (⟨(List.replicate k.toNat z.cps).foldl (· ++ ·) #[]⟩ : Str).length = k.toNat * z.length := by
    show ((List.replicate k.toNat z.cps).foldl (· ++ ·) #[]).size = _
    rw [rep_size]
    show 0 + _ = _
    rw [Nat.zero_add]
    rfl
  refine ⟨?_, .str _, H, I.tok _, ⟨_, rfl⟩, q _ e fun c hc => ?_⟩
  rotate_left
  · rcases rep_mem z.cps k.toNat #[] c (Array.mem_toList_iff.mp hc) with h | h
    · exact absurd h (by simp)
    · exact Array.mem_toList_iff.mpr h
  show (⟨(List.replicate k.toNat z.cps).foldl (· ++ ·) #[]⟩ : Str).length ≤ sizeLine
  rw [e, Nat.mul_comm]
  exact hz
end
section
variable {X : Cx} {CX : CXT} {k : Nat} {C p g : Addr} {mc : Value} {fd : FuncData} {ps : List Str} {sp : Sp} {E : L2.St → XK} {o e : Expr} {es : List Expr} {m : Str} {pos apos : Pos} {ta : TE} {t : TA} {pl : Sem Bool}
def tCMethE (C : Addr) (sp : Sp) (E : L2.St → XK) (ta : TE) (t : TA) : TE := fun σ H Q => ta σ H fun x H1 => x = .ref C ∧ t σ H1 fun vs H2 => sp (.ref C :: vs) H2 Q (E σ)
theorem pe_cmethE (he : PE X o ta) (r : ClX.CRead X.K C mc) (c : ClX.CMet X.K C mc m p g) (F : FnOk X.prog X.w X.K X.mg X.base CX k g fd ps sp) (hr : Room k X.A) (hb : Binds X.K fd ps []) (hx : ∀ σ, PassesAt CX X σ (E σ)) (ha : PA X (e :: es) t)
    (hst : starEach (e :: es) X.env = (false, eval e X.env) :: starEach es X.env := by rfl) (hpl : (backTo pos (starEach es X.env)).any (·.1) = false := by rfl)
    (ht : eval (.Call (.Attribute o m apos) (e :: es) [] pos) X.env = (do
      let ov ← eval o X.env
      standAt apos.atName
      let (f, first) ← holding [ov] (getMethod ov m pl)
      callWith pos f first (backTo pos (starEach (e :: es) X.env)) (backToKw pos (keywordEach [] X.env))) := by rfl) :
    PE X (.Call (.Attribute o m apos) (e :: es) [] pos) (tCMethE C sp E ta t) := by
  refine ⟨fun pins s σ H Q I h => ?_⟩
  refine PySem.W.methodCall_KW (pl := pl) (thn (he.run pins s σ H _ I h) fun u s1 ⟨x, H1, I1, rx, ex, q⟩ => ?_) ht
  subst ex
  obtain rfl : u = Value.ref C := rx
  refine ClX.getmethcm_ok I1 r c fun s2 I2 => ?_
  refine ClX.callwith_cm I2 (ClX.base_none I1 (Nat.le_refl _)) c.fi (thn (ha.run pos _ s2 σ H1 _ I2 q) fun us s3 ⟨vs, H2, I3, rv, q2⟩ => ⟨⟨ClX.pin_at I3, I3.kIn⟩, ?_⟩) hst hpl
  suffices z : wpAny (model X.prog X.w) X.A (call (.ref s1.heap.objs.size) us) (EP X ((s1.heap.objs.size, PySem.W.methodObj (.ref g) (.ref C)) :: pins) σ Q) X.xe s3 from thn z fun _ _ y => ClX.unpinE y
  refine wpAny_call (PySem.W.method_call (ClX.pin_at I3) ?_)
  have r2 : Vals (V.ref C :: vs) (Value.ref C :: us) := .cons rfl rv
  have hl : (Value.ref C :: us).length = ps.length := by rw [← r2.length]; exact F.len _ _ _ _ q2
  have b := hb s3 (Value.ref C :: us) I3.kIn (by rw [List.append_nil]; exact hl)
  rw [List.append_nil] at b
  refine codeAny_mono (F.run X.A X.stack s3 H2 ⟨Value.ref C :: us, []⟩ (Value.ref C :: us) (V.ref C :: vs) Q (E σ) hr I3.env0 b r2 q2) fun r s' hq => ?_
  cases r with
  | error er => exact hx σ _ H2 s3 er s' I3 hq
  | ok fl =>
    cases fl with
    | ret u => exact I3.after hq
    | next => exact False.elim hq
    | brk => exact False.elim hq
    | cont => exact False.elim hq
end
theorem kit_vty {K : PySem.W.Frag} {C : Addr} {T : String} {b : Bool} (h : PySem.W.mroIn K C (.type T) = some b) (hm : PySem.W.kitMeta T = true) : PySem.W.kitOne K (.ref C) (.type T) = some b := by
  unfold PySem.W.kitOne
  rw [if_neg (by simp)]
  show (if PySem.W.kitMeta T = true then PySem.W.subIn K (.ref C) (.type T) else none) = some b
  rw [if_pos hm]
  exact h
end My

set_option maxHeartbeats 4000000
/-! My own rules: errors held as values: made, asked for their class, their attributes read. -/
namespace PySem
namespace HandSPX2
open PySem.W PySem.Calls PyProof.Rows PySem.HandSPX
section
variable {M : Model} {A : Around} {E : Value → Shared → Prop} {h : Heap} {g : Array GenState} {d : Drawn} {t : Nat} {os : OsState}
variable {nm q : Str} {C N : Addr} {bs bm bmB : List Value} {hdct : Bool} {sn : List Str} {sub : List Value} {ab : Bool} {col : Option Bool} {dd : Option Addr} {k0 k1 k2 k3 k5 : Option Value} {B newId initId : String}
theorem check_new_ownK (F : ExcBaseFacts B newId initId bmB) (hT : ∀ X : String, bm.contains (.type X) = bmB.contains (.type X)) {rest : List Value} {kws : List (Str × Value)} {Q : Unit → Shared → Prop}
    (hC : h.get? C = some (excClassObj nm q C N bs bm hdct sn sub ab col dd k0 k1 k2 k3 k5 newId)) (hq : Q () ⟨h, g, d, t, os⟩) : wpAny M A (checkBuiltinCall newId ⟨.ref C :: rest, kws⟩) Q E ⟨h, g, d, t, os⟩ := by
  have hcont : (Value.ref C :: bm).contains (.type B) = true := by rw [List.contains_cons, hT, F.hasB, Bool.or_true]
  have hstar := F.noStar
  simp only [checkBuiltinCall, F.newKind, F.newSplit, F.newRow]
  repeat (first | refine wpAny_loadPart_at hC ?_ | (refine wpAny_isSubtype_exc hC ?_; rw [hcont]) | refine wpAny_staticBase_exc hC ?_ | refine wpAny_madeBy_exc hC ?_ | simp only [bne_self_eq_false, Bool.false_eq_true, if_false] | wp_step)
  exact hq
end
section
variable {prog : Program} {w : World} {A : Around} {E : Value → Shared → Prop} {R : Result → Shared → Prop} {h : Heap} {g : Array GenState} {d : Drawn} {t : Nat} {os : OsState}
variable {nm q : Str} {C N : Addr} {bs bm bmB : List Value} {hdct : Bool} {sn : List Str} {sub : List Value} {ab : Bool} {col : Option Bool} {dd : Option Addr} {k0 k1 k2 k3 k5 : Option Value} {B newId initId : String}
theorem new_ownK (F : ExcBaseFacts B newId initId bmB) (hT : ∀ X : String, bm.contains (.type X) = bmB.contains (.type X)) {rest : List Value} {kws : List (Str × Value)}
    (hC : h.get? C = some (excClassObj nm q C N bs bm hdct sn sub ab col dd k0 k1 k2 k3 k5 newId))
    (hq : R (.ok (.ret (.ref (h.objs.size + 1)))) ⟨(h.push { cls := .type "tuple", data := .seq rest.toArray }).push
      { cls := .ref C, data := .fields #[.ref h.objs.size, .none, .none, .none, .bool false, .none] }, g, d, t, os⟩) (hrest : rest.length ≤ sizeLine) :
    codeAny (model prog w) A (.builtin newId ⟨.ref C :: rest, kws⟩) R ⟨h, g, d, t, os⟩ := by
  have hends := F.ends
  have hcB : (Value.ref C :: bm).contains (.type B) = true := by rw [List.contains_cons, hT, F.hasB, Bool.or_true]
  have hcA : (Value.ref C :: bm).contains (.type "AttributeError") = false := by rw [List.contains_cons, hT, F.noAttr]; rfl
  have hcN : (Value.ref C :: bm).contains (.type "NameError") = false := by rw [List.contains_cons, hT, F.noName]; rfl
  refine codeAny_builtinAt F.entry ?_
  unfold Builtin.«BaseException.__new__»
  refine wpAt_bind ?_
  show wpAt _ _ _ (stack >>= _) _ _ _
  refine wpAt_bind (wpAt_stack fun p below => wpAt_of_wpAny ?_)
  wp_walk
  refine wpAt_of_wpAny ?_
  rw [F.owner]
  repeat (first | with_reducible refine wpAny_madeHere_exc F.canon hC ?_ | with_reducible refine wpAny_loadPart_at hC ?_ | (with_reducible refine wpAny_isSubtype_exc hC ?_; first | rw [hcB] | rw [hcA] | rw [hcN]) | wp_step)
  show R _ _
  rw [Heap.size_push]
  exact hq
theorem type_call_ownK (F : ExcBaseFacts B newId initId bmB) (hT : ∀ X : String, bm.contains (.type X) = bmB.contains (.type X)) {rest : List Value} {kws : List (Str × Value)} {fI : Addr} {Q : Fin → Shared → Prop}
    (hC : h.get? C = some (excClassObj nm q C N bs bm hdct sn sub ab col dd k0 k1 k2 k3 k5 newId))
    (hi : W.Looks (model prog w) h (typeLookup (.ref C) "__init__") (some (.ref fI))) (hb : ∀ self, W.Looks (model prog w) h (bindSpecial (.ref fI) self) (.ref fI, [self])) (hrest : rest.length ≤ sizeLine)
    (hq : codeAny (model prog w) A (.call (.ref fI) ⟨.ref (h.objs.size + 1) :: rest, kws⟩)
      (fun r s' => match r with | .ok (.ret v) => v = .none ∧ Q (.done (.ret (.ref (h.objs.size + 1)))) s' | .ok _ => False | .error e => E e s')
      ⟨(h.push (W.kdv_tup rest)).push (excO C h.objs.size), g, d, t, os⟩) :
    wpAny (model prog w) A (Builtin.«type.__call__» ⟨.ref C :: rest, kws⟩) Q E ⟨h, g, d, t, os⟩ := by
  repeat (first | with_reducible refine wpAny_loadPart_at hC ?_ | with_reducible refine wpAny_madeBy_exc hC ?_ | wp_step)
  refine codeAny_call_builtin_code (Code.quiet_builtin _ F.quiet) (check_new_ownK F hT hC ?_)
  refine new_ownK F hT hC ?_ hrest
  show wpAny _ _ _ _ _ _
  have k : ∀ b o, h.get? b = some o → ((h.push (W.kdv_tup rest)).push (excO C h.objs.size)).get? b = some o := fun b o e => Heap.get?_push_of_some _ (Heap.get?_push_of_some _ e)
  have hC₁ := k _ _ hC
  have hget : ((h.push (W.kdv_tup rest)).push (excO C h.objs.size)).get? (h.objs.size + 1) = some (excO C h.objs.size) := by heap_get
  have hcC : (Value.ref C :: bm).contains (.ref C) = true := by simp
  have i1 := hi.keeps k
  have b1 := (hb (.ref (h.objs.size + 1))).keeps k
  unfold isInstance
  repeat (first | with_reducible refine wpAny_loadPart_at hget ?_ | (with_reducible refine wpAny_isSubtype_exc hC₁ ?_; rw [hcC]) | wp_step)
  show wpAny _ _ (typeLookup (.ref C) _) _ _ _
  refine i1.at ?_
  refine wpAny_holding (wpAny_bind (b1.at ?_))
  refine wpAny_bind (wpAny_call (codeAny_mono hq fun r s' z => ?_))
  rcases r with e | (v | _ | _ | _) <;> first | exact z | exact z.elim | skip
  obtain ⟨rfl, z⟩ := z
  first
    | exact wpAny_pure (wpAny_pure z)
    | (wp_walk; exact z)
theorem call_ownK (F : ExcBaseFacts B newId initId bmB) (hT : ∀ X : String, bm.contains (.type X) = bmB.contains (.type X)) {rest : List Value} {kws : List (Str × Value)} {fI : Addr}
    (hC : h.get? C = some (excClassObj nm q C N bs bm hdct sn sub ab col dd k0 k1 k2 k3 k5 newId))
    (hi : W.Looks (model prog w) h (typeLookup (.ref C) "__init__") (some (.ref fI))) (hb : ∀ self, W.Looks (model prog w) h (bindSpecial (.ref fI) self) (.ref fI, [self])) (hrest : rest.length ≤ sizeLine)
    (hq : codeAny (model prog w) (A.under (.builtin "type.__call__" ⟨.ref C :: rest, kws⟩)) (.call (.ref fI) ⟨.ref (h.objs.size + 1) :: rest, kws⟩) (W.InitBack (h.objs.size + 1) R)
      ⟨(h.push (W.kdv_tup rest)).push (excO C h.objs.size), g, d, t, os⟩) :
    codeAny (model prog w) A (.call (.ref C) ⟨rest, kws⟩) R ⟨h, g, d, t, os⟩ := by
  have f1 := tc_lookup
  have f2 := tc_bind (.ref C)
  have hTy : (⟨h, g, d, t, os⟩ : Shared).TypeIs (.ref C) "type" := ⟨_, hC, rfl⟩
  refine codeAny_of_tree ?_
  show wpAny _ _ (callAny (.ref C) _) _ _ _
  repeat (any_goals (first | assumption | with_reducible refine wpAny_loadPart_at hC ?_ | wp_step))
  refine ⟨rfl, ?_⟩
  refine codeAny_call_builtin_at (Code.quiet_builtin _ (by decide +kernel)) entry_typeCall (wpAny_check_type_call_sub hC (type_call_ownK F hT hC hi hb hrest ?_))
  refine codeAny_mono hq fun r s' z => ?_
  rcases r with e | (v | _ | _ | _) <;> exact z
end
end HandSPX2
end PySem
namespace My
open PySem PySem.Spec PyProof.Rows L2
/-- an error as a value: with its dict, or without one -/
def ErrV (H : Hp) (a D : Addr) : Prop := (∃ dx fs, H a = some (exo a D (some dx)) ∧ H dx = some (exd dx fs)) ∨ H a = some (ExO (.ref D) a)
theorem ErrV.on {H H' : Hp} {a D : Addr} (e : ErrV H a D) (s : Same H H') : ErrV H' a D := by
  rcases e with ⟨dx, fs, h1, h2⟩ | h
  · exact .inl ⟨dx, fs, s _ _ h1, s _ _ h2⟩
  · exact .inr (s _ _ h)
/-- an attribute of it -/
def ErrF (H : Hp) (a D : Addr) (n : Str) (v : V) : Prop := ∃ dx fs, H a = some (exo a D (some dx)) ∧ H dx = some (exd dx fs) ∧ fs.lookup n = some v
theorem ErrF.on {H H' : Hp} {a D : Addr} {n : Str} {v : V} (e : ErrF H a D n v) (s : Same H H') : ErrF H' a D n v := let ⟨dx, fs, h1, h2, h3⟩ := e; ⟨dx, fs, s _ _ h1, s _ _ h2, h3⟩
theorem ErrF.err {H : Hp} {a D : Addr} {n : Str} {v : V} (e : ErrF H a D n v) : ErrV H a D := let ⟨dx, fs, h1, h2, _⟩ := e; .inl ⟨dx, fs, h1, h2⟩
def rIsV (K : PySem.W.Frag) : List V → Hp → VK → Prop := fun xs H Q => ∃ (a D : Addr) (c : V) (cv : Value) (b : Bool), xs = [.ref a, c] ∧ ExcC K D ∧ ErrV H a D ∧ ClsV c cv ∧ PySem.W.kitOne K (.ref D) cv = some b ∧ Q (.bl b) H
theorem call_isV {X : Cx} : CallR X (.builtin "isinstance") (rIsV X.K) := by
  intro pins s σ H xs us Q I r h
  obtain ⟨a, D, c, cv, b, rfl, C, he, hcv, e, q⟩ := h
  obtain ⟨u, w', rfl, ru, rw'⟩ := vals2 r
  obtain rfl : u = Value.ref a := ru
  obtain rfl := hcv.eq rw'
  rcases he with ⟨dx, fs, h1, h2⟩ | h1
  · obtain ⟨t1, hget⟩ := exo_at I.hok h1
    obtain ⟨mA, hns, hrel⟩ := exd_at I.hok h2
    obtain ⟨od, ho, hl⟩ := lookIn_ns hns
    have J : PySem.W.InstAt s.heap a { cls := .ref D, dict := some dx, data := .fields #[.ref t1, .none, .none, .none, .bool false, .none] } D (some od) := ⟨hget, rfl, rfl, ho⟩
    exact PySem.W.kia_one (kit_err C) I.kIn J e (fun z => nomatch z) fun tk => ⟨.bl b, H, I.kept (t' := tk) fun _ _ z => z, rfl, q⟩
  · obtain ⟨⟨oe, vs, hget, hz, hv, _⟩, _, _⟩ := I.hok a _ h1
    have J : PySem.W.InstAt s.heap a oe D none := by
      obtain ⟨oc, od, oda, osl⟩ := oe
      obtain ⟨h1, h2⟩ := hz
      dsimp only at h1 h2 hv
      subst h1 h2 hv
      exact ⟨hget, rfl, rfl, trivial⟩
    exact PySem.W.kia_one (PySem.W.handS_kitx_exc C.hg C.hk C.hs C.hd C.ha C.hn C.ht C.hm) I.kIn J e (fun z => nomatch z) fun tk => ⟨.bl b, H, I.kept (t' := tk) fun _ _ z => z, rfl, q⟩
/-- o.f of an error held as a value -/
def tXv (D : Addr) (n : Str) (te : TE) : TE := fun σ H Q => te σ H fun x H1 => ∃ (a : Addr) (v : V), x = .ref a ∧ ErrF H1 a D n v ∧ Q v H1
theorem pe_xv {X : Cx} {D : Addr} {e : Expr} {te : TE} {pos : Pos} {n : Str} (T : XfC X.K D) (hno : PySem.W.findIn X.K (.ref D) n = some none) (he : PE X e te) (hb : attributeBase e n X.env (eval e X.env) = eval e X.env := by rfl) :
    PE X (.Attribute e n pos) (tXv D n te) := by
  refine ⟨fun pins s σ H Q I h => ?_⟩
  refine attr_of hb (thn (he.run pins s σ H _ I h) fun u s1 hh => ?_)
  obtain ⟨x, H1, I1, rx, a, v, ex, ⟨dd, fs, ea, ed, l⟩, q⟩ := hh
  subst ex
  obtain rfl : u = Value.ref a := rx
  obtain ⟨t1, hget⟩ := exo_at I1.hok ea
  obtain ⟨mA, hns, hr⟩ := exd_at I1.hok ed
  obtain ⟨od, ho, hl⟩ := lookIn_ns hns
  obtain ⟨u, hu, ru⟩ := RelO.some_of (v := v) (o := mA n) (by rw [← l]; exact hr n)
  have J : PySem.W.InstAt s1.heap a { cls := .ref D, dict := some dd, data := .fields #[.ref t1, .none, .none, .none, .bool false, .none] } D (some od) := ⟨hget, rfl, rfl, ho⟩
  exact HandSPX.exc_get I1.kIn J T.ga T.gg T.exC (PySem.W.findObj_own T.hdC hno rfl (by rw [hl, hu])) (handed_of ru) ⟨v, H1, I1.tok _, ru, q⟩
/-- C(e, ..), an own error class with an own __init__, as a value -/
structure mkO (C : Addr) (sp : Sp) (vs : List V) (H : Hp) (Q : VK) : Prop where
  len : vs.length ≤ 1000
  k : ∀ a, H a = none → sp (.ref a :: vs) (upd H a (exo a C none)) (fun v H2 => v = .non ∧ Q (.ref a) H2) E0
def tMkV (C : Addr) (sp : Sp) (ta : TA) : TE := fun σ H Q => ta σ H fun vs H1 => mkO C sp vs H1 Q
section
variable {X : Cx} {CX : CXT} {x : Str} {C fI : Addr} {k : Nat} {fd : FuncData} {ps ks : List Str} {sp : Sp} {p pos : Pos} {e : Expr} {es : List Expr} {ta tk : TA} {kws : List Keyword}
theorem run_oexK {pins : List (Addr × Obj)} {σ : L2.St} {H1 : Hp} {s1 : Shared} {Q : VK} {us : List Value} {kws0 : List (Str × Value)} {us2 : List Value} {vs : List V} (T : OexC X.K C) (iC : PySem.W.findIn X.K (.ref C) "__init__" = some (some (.ref fI))) (tI : PySem.W.typeIn X.K (.ref fI) = some (.type "function"))
    (F1 : FnOk X.prog X.w X.K X.mg X.base CX k fI fd ps sp) (hr : Room (k + 1) X.A) (hb : ∀ (s : Shared) (u : Value), X.K.In s.heap → BindsTo s fd ⟨u :: us, kws0⟩ (ps.zip (u :: us2))) (hx : Passes CX X E0) (I1 : Inv X pins σ H1 s1) (r1 : Vals vs us2) (hz : us.length ≤ 1000)
    (q1 : ∀ a, H1 a = none → sp (.ref a :: vs) (upd H1 a (exo a C none)) (fun v H2 => v = .non ∧ Q (.ref a) H2) E0) : wpAny (model X.prog X.w) X.A (call (.ref C) us kws0) (EP X pins σ Q) X.xe s1 := by
  obtain ⟨nm, q, N, bs, bm, sn, sub, ab, col, dd, k0, k1, k2, k3, k5, hC, hbm⟩ := T.cls
  obtain ⟨hp, g, dr, tk, os⟩ := s1
  have hsz : hp.objs.size ≤ hp.objs.size + 1 := Nat.le_succ _
  have hn : H1 (hp.objs.size + 1) = none := I1.hok.fresh hsz
  have hq := q1 (hp.objs.size + 1) hn
  have kk : ∀ b o, hp.get? b = some o → ((hp.push (PySem.W.kdv_tup us)).push (PySem.HandSPX.excO C hp.objs.size)).get? b = some o := fun b o e => Heap.get?_push_of_some _ (Heap.get?_push_of_some _ e)
  have hget : ((hp.push (PySem.W.kdv_tup us)).push (PySem.HandSPX.excO C hp.objs.size)).get? (hp.objs.size + 1) = some (PySem.HandSPX.excO C hp.objs.size) := by heap_get
  have I2 : Inv X pins σ (upd H1 (hp.objs.size + 1) (exo (hp.objs.size + 1) C none)) ⟨(hp.push (PySem.W.kdv_tup us)).push (PySem.HandSPX.excO C hp.objs.size), g, dr, tk, os⟩ :=
    I1.laid (t' := tk) (a := hp.objs.size + 1) (o := exo (hp.objs.size + 1) C none) (h' := (hp.push (PySem.W.kdv_tup us)).push (PySem.HandSPX.excO C hp.objs.size)) kk hsz (exo_ok hget)
  have r2 : Vals (V.ref (hp.objs.size + 1) :: vs) (Value.ref (hp.objs.size + 1) :: us2) := .cons rfl r1
  have b := hb ⟨(hp.push (PySem.W.kdv_tup us)).push (PySem.HandSPX.excO C hp.objs.size), g, dr, tk, os⟩ (Value.ref (hp.objs.size + 1)) I2.kIn
  have hus : us.length ≤ sizeLine := by
    rw [sizeLine_eq]
    omega
  refine wpAny_call (PySem.HandSPX2.call_ownK F.excBase_ValueError (fun Y => PySem.HandSPX.refsVE_contains Y bm hbm) (I1.kIn _ _ hC) (PySem.W.looks_findIn I1.kIn iC) (fun self => PySem.W.bind_fn I1.kIn self tI) hus
    (codeAny_mono (F1.run _ X.stack _ _ ⟨Value.ref (hp.objs.size + 1) :: us, kws0⟩ (Value.ref (hp.objs.size + 1) :: us2) _ _ E0 (hr.make C us kws0) (I2.env0.make C us kws0) b r2 hq) fun r s' hq' => ?_))
  cases r with
  | error er => exact hx pins σ _ _ er s' I2 hq'
  | ok fl =>
    cases fl with
    | ret u =>
      obtain ⟨v, H2, os2, bare2, un2, hok2, rv, ev, q2⟩ := hq'
      subst ev
      obtain ⟨h2, g2, d2, t2, os'⟩ := s'
      obtain rfl : os' = os := os2
      refine ⟨rv, ?_⟩
      exact ⟨.ref (hp.objs.size + 1), H2, I1.call (h' := h2) (g' := g2) (d' := d2) (t' := t2) (ch := []) (.trans (Un.laidN (fs := frs X.stack) (ex := []) (o := exo (hp.objs.size + 1) C none) kk (Heap.get?_none_of_le hsz) hn) un2) hok2 bare2 (fun b z => absurd z (by simp)), rfl, q2⟩
    | next => exact False.elim hq'
    | brk => exact False.elim hq'
    | cont => exact False.elim hq'
theorem pe_oex (T : OexC X.K C) (iC : PySem.W.findIn X.K (.ref C) "__init__" = some (some (.ref fI))) (tI : PySem.W.typeIn X.K (.ref fI) = some (.type "function"))
    (F1 : FnOk X.prog X.w X.K X.mg X.base CX k fI fd ps sp) (hr : Room (k + 1) X.A) (hb : Binds X.K fd ps []) (hx : Passes CX X E0) (hg : Gl X x) (hm : X.mg x = some (.ref C)) (ha : PA X (e :: es) ta)
    (hdb : (x == ("__debug__" : Str)) = false := by decide) (he : starEach (e :: es) X.env = (false, eval e X.env) :: starEach es X.env := by rfl) (hpl : (backTo pos (starEach es X.env)).any (·.1) = false := by rfl) :
    PE X (.Call (.Name x p) (e :: es) [] pos) (tMkV C sp ta) := by
  refine ⟨fun pins s σ H Q I h => ?_⟩
  refine wpAny_Call_Name_kw (ld_glob I hg hm ?_ hdb)
  refine PySem.W.callWith_K (h₀ := X.base) I.ok.mod.kin T.kC (thn (ha.run pos pins s σ H _ I h) fun us s1 ⟨vs, H1, I1, r1, hz, q1⟩ => ⟨I1.kIn, ?_⟩) he hpl
  refine run_oexK (us := us) (us2 := us) (kws0 := []) T iC tI F1 hr (fun s' u hK => ?_) hx I1 r1 (by rw [← Paired.length r1]; exact hz) q1
  have hl : (u :: us).length = ps.length := by
    have e := F1.len _ _ _ _ (q1 s1.heap.objs.size (I1.hok.fresh (Nat.le_refl _)))
    rw [← e, List.length_cons, List.length_cons, Paired.length r1]
  have b := hb s' (u :: us) hK (by rw [List.append_nil]; exact hl)
  rw [List.append_nil] at b
  exact b
/-- C(k = e, ..) -/
structure mkOK (C : Addr) (sp : Sp) (is : List Nat) (n : Nat) (zs : List V) (H : Hp) (Q : VK) : Prop where
  len : zs.length = n
  k : ∀ a, H a = none → sp (.ref a :: permL is zs) (upd H a (exo a C none)) (fun v H2 => v = .non ∧ Q (.ref a) H2) E0
def tMkVK (C : Addr) (sp : Sp) (is : List Nat) (n : Nat) (tk : TA) : TE := fun σ H Q => tk σ H fun zs H1 => mkOK C sp is n zs H1 Q
theorem pe_oexK {is : List Nat} (T : OexC X.K C) (iC : PySem.W.findIn X.K (.ref C) "__init__" = some (some (.ref fI))) (tI : PySem.W.typeIn X.K (.ref fI) = some (.type "function"))
    (F1 : FnOk X.prog X.w X.K X.mg X.base CX k fI fd ps sp) (hr : Room (k + 1) X.A) (hb : ∀ (s : Shared) (u : Value) (ws : List Value), ws.length = ks.length → BindsTo s fd ⟨[u], ks.zip ws⟩ (ps.zip (u :: permL is ws))) (hx : Passes CX X E0) (hg : Gl X x) (hm : X.mg x = some (.ref C))
    (hkw : PK X kws tk) (hall : (backToKw pos (keywordEach kws X.env)).all (·.1.isSome) = true := by rfl) (hks : (backToKw pos (keywordEach kws X.env)).filterMap (·.1) = ks := by rfl)
    (hdb : (x == ("__debug__" : Str)) = false := by decide)
    (hpl : ((backTo pos (starEach [] X.env)).any (·.1) || (backToKw pos (keywordEach kws X.env)).any (·.1.isNone)) = false := by rfl) :
    PE X (.Call (.Name x p) [] kws pos) (tMkVK C sp is ks.length tk) := by
  refine ⟨fun pins s σ H Q I h => ?_⟩
  refine wpAny_Call_Name_kw (ld_glob I hg hm ?_ hdb)
  refine PySem.W.callWith_KW0 (h₀ := X.base) I.ok.mod.kin T.kC hall (thn (hkw.run pos pins s σ H _ I h) fun ws s2 ⟨zs, H2, I2, rz, hz, q2⟩ => ⟨I2.kIn, ?_⟩) hpl
  rw [hks]
  exact run_oexK (us := []) (us2 := permL is ws) T iC tI F1 hr (fun s' u hK => hb s' u ws (by rw [← Paired.length rz]; exact hz)) hx I2 (permL_rel is rz) (Nat.zero_le _) q2
/-- C(), an own error class without an own __init__ -/
theorem pe_exc0 {bmB : List Value} {B newId initId : String} (F : ExcBaseFacts B newId initId bmB) (q : PySem.W.excIn X.K C bmB newId = true) (gC : X.mg x = some (.ref C)) (kC : PySem.W.keepIn X.K (.ref C) = true) (hg : Gl X x) (hdb : (x == ("__debug__" : Str)) = false := by decide) :
    PE X (.Call (.Name x p) [] [] pos) (fun σ H Q => ∀ a, H a = none → Q (.ref a) (upd H a (ExO (.ref C) a))) := by
  refine ⟨fun pins s σ H Q I h => ?_⟩
  refine wpAny_Call_Name_kw (ld_glob I hg gC ?_ hdb)
  refine PySem.W.callWith_KW0 (h₀ := X.base) I.ok.mod.kin kC (by rfl) (thn (pk_nil.run pos pins s σ H (fun vs H1 => vs = [] ∧ H1 = H) I ⟨rfl, rfl⟩) fun ws s2 ⟨zs, H2, I2, rz, ez, eH⟩ => ⟨I2.kIn, ?_⟩) (by rfl)
  subst eH
  show wpAny _ _ (call (.ref C) []) _ _ _
  obtain ⟨bm, N, nm, qn, bs, hdct, sn, sub, ab, col, dd, k0, k1, k2, k3, k5, mN, hC, hN, hni, T⟩ := exc_obj I2.kIn q
  refine wpAny_call_exc_subT F T hC hN hni (fun h' a hm => ?_) (Nat.zero_le _)
  have hn : H2 a = none := I2.hok.gone hm.new
  obtain ⟨t, ht, _, _⟩ := hm.there
  exact ⟨.ref a, upd H2 a (ExO (.ref C) a), I2.laidN hm.keeps hm.new hn (exO_ok ht ⟨rfl, rfl⟩ rfl rfl rfl (show 4 < 6 by decide)), rfl, h a hn⟩
end
/-! ### != of two lists of the same things -/
section
variable {X : Cx}
def plainW : V → Bool
  | .int _ => true
  | .ref _ => true
  | .str _ => true
  | .non => true
  | _ => false
def rNeSameW (K : PySem.W.Frag) : R2 := fun x y H Q => ∃ a b xs, x = .ref a ∧ y = .ref b ∧ SqL K H a xs ∧ SqL K H b xs ∧ (∀ z ∈ xs, plainW z = true) ∧ Q (.bl false) H
theorem eqAt_sameW {A : Around} {s : Shared} {z : V} {u v : Value} (h : plainW z = true) (r : RelV z u) (r' : RelV z v) : SeqAt.EqAt A s u v true := by
  cases z with
  | int i =>
    have := eqAt_V (A := A) (s := s) r r' rfl rfl
    have e : eqV (.int i) (.int i) = true := by simp [eqV]
    rw [e] at this
    exact this
  | str i =>
    have := eqAt_V (A := A) (s := s) r r' rfl rfl
    have e : eqV (.str i) (.str i) = true := by simp [eqV]
    rw [e] at this
    exact this
  | non =>
    have := eqAt_V (A := A) (s := s) r r' rfl rfl
    have e : eqV .non .non = true := by simp [eqV]
    rw [e] at this
    exact this
  | ref a =>
    obtain rfl : u = Value.ref a := r
    obtain rfl : v = Value.ref a := r'
    exact SeqAt.EqAt.same _
  | _ => cases h
theorem op_neSameW (hu : X.A.units < cLine) : OpR X (compareOp .NotEq) (rNeSameW X.K) := by
  intro pins s σ H x y v u Q I rx ry h
  obtain ⟨a, b, xs, rfl, rfl, ha, hb, hp, q⟩ := h
  obtain rfl : v = Value.ref a := rx
  obtain rfl : u = Value.ref b := ry
  obtain ⟨its, r, ⟨o, n, e, c, d, dt⟩, _⟩ := I.list ha
  obtain ⟨its2, r2, ⟨o2, n2, e2, c2, d2, dt2⟩, _⟩ := I.list hb
  have hsz : its.toArray.size = its2.toArray.size := by rw [List.size_toArray, List.size_toArray, ← r.length, ← r2.length]
  show wpAny (model X.prog X.w) X.A (richCompare .NotEq (.ref a) (.ref b)) (EP X pins σ Q) X.xe s
  refine SeqAt.RcNeAt.lists (e := fun _ => true) ⟨o, e, c, n, dt⟩ ⟨o2, e2, c2, n2, dt2⟩ hsz hu (fun j h1 h2 => ?_) _ _ _ _ ?_
  · have k1 : j < xs.length := by rw [r.length]; simpa using h1
    obtain ⟨w1, hw1, rw1⟩ := r.get (List.getElem?_eq_getElem k1)
    obtain ⟨w2, hw2, rw2⟩ := r2.get (List.getElem?_eq_getElem k1)
    have g1 : its[j]? = some its.toArray[j] := by
      have h1' : j < its.length := by simpa using h1
      rw [List.getElem?_eq_getElem h1'] <;> simp
    have g2 : its2[j]? = some its2.toArray[j] := by
      have h2' : j < its2.length := by simpa using h2
      rw [List.getElem?_eq_getElem h2'] <;> simp
    rw [g1] at hw1
    rw [g2] at hw2
    rw [Option.some.inj hw1, Option.some.inj hw2]
    exact eqAt_sameW (hp _ (List.getElem_mem k1)) rw1 rw2
  · have e : (!(List.range its.toArray.size).all fun _ => true) = false := by simp
    rw [e]
    exact ⟨.bl false, H, I, rfl, q⟩
def rEqSameW (K : PySem.W.Frag) : R2 := fun x y H Q => ∃ a b xs, x = .ref a ∧ y = .ref b ∧ SqL K H a xs ∧ SqL K H b xs ∧ (∀ z ∈ xs, plainW z = true) ∧ Q (.bl true) H
theorem op_eqSameW (hu : X.A.units < cLine) : OpR X (compareOp .Eq) (rEqSameW X.K) := by
  intro pins s σ H x y v u Q I rx ry h
  obtain ⟨a, b, xs, rfl, rfl, ha, hb, hp, q⟩ := h
  obtain rfl : v = Value.ref a := rx
  obtain rfl : u = Value.ref b := ry
  obtain ⟨its, r, ⟨o, n, e, c, d, dt⟩, _⟩ := I.list ha
  obtain ⟨its2, r2, ⟨o2, n2, e2, c2, d2, dt2⟩, _⟩ := I.list hb
  have hsz : its.toArray.size = its2.toArray.size := by rw [List.size_toArray, List.size_toArray, ← r.length, ← r2.length]
  show wpAny (model X.prog X.w) X.A (richCompare .Eq (.ref a) (.ref b)) (EP X pins σ Q) X.xe s
  refine SeqAt.RcAt.lists (e := fun _ => true) ⟨o, e, c, n, dt⟩ ⟨o2, e2, c2, n2, dt2⟩ hsz hu (fun j h1 h2 => ?_) _ _ _ _ ?_
  · have k1 : j < xs.length := by rw [r.length]; simpa using h1
    obtain ⟨w1, hw1, rw1⟩ := r.get (List.getElem?_eq_getElem k1)
    obtain ⟨w2, hw2, rw2⟩ := r2.get (List.getElem?_eq_getElem k1)
    have g1 : its[j]? = some its.toArray[j] := by
      have h1' : j < its.length := by simpa using h1
      rw [List.getElem?_eq_getElem h1'] <;> simp
    have g2 : its2[j]? = some its2.toArray[j] := by
      have h2' : j < its2.length := by simpa using h2
      rw [List.getElem?_eq_getElem h2'] <;> simp
    rw [g1] at hw1
    rw [g2] at hw2
    rw [Option.some.inj hw1, Option.some.inj hw2]
    exact eqAt_sameW (hp _ (List.getElem_mem k1)) rw1 rw2
  · have e : ((List.range its.toArray.size).all fun _ => true) = true := by simp
    rw [e]
    exact ⟨.bl true, H, I, rfl, q⟩
end
/-! ### an error class right under the common one -/
structure ErrC (K : PySem.W.Frag) (C EE : Addr) : Prop where
  ec : ExcC K C
  ic : PySem.W.isClsIn K C = true
  ty : PySem.W.typeIn K (.ref C) = some (.type "type")
  cl : ∃ cd, PySem.W.clsIn K C = some cd ∧ cd.mro = [.ref C, .ref EE, .type "ValueError", .type "Exception", .type "BaseException", .type "object"]
theorem ErrC.sub {K : PySem.W.Frag} {C EE : Addr} (e : ErrC K C EE) (base : Value) : PySem.W.mroIn K C base = some ([Value.ref C, .ref EE, .type "ValueError", .type "Exception", .type "BaseException", .type "object"].contains base) := by
  obtain ⟨cd, hc, hm⟩ := e.cl
  unfold PySem.W.mroIn
  rw [hc, Option.bind_some, hm]
  rfl
end My

namespace My
open PySem PySem.Spec PyProof.Rows L2
def topS (i : Nat) : Stmt := PySem.Challenge.pw_extralink_k07_errors.main.body.getD i (.Pass ⟨0, 0, 0, 0⟩)
abbrev s_start : Stmt := topS 29
theorem sc_start : FnScope ["_law_script", "_law_cell"] ["_law_script"] (defScope s_start) := ⟨rfl, rfl, rfl, by decide +kernel, rfl, by decide +kernel, by decide +kernel⟩
abbrev s_draw : Stmt := topS 30
theorem sc_draw : FnScope ["_law_state", "_law_size", "_law_digit", "_law_cell", "_law_one"] ["_law_state", "_law_size"] (defScope s_draw) := ⟨rfl, rfl, rfl, by decide +kernel, rfl, by decide +kernel, by decide +kernel⟩
abbrev s_signs : Stmt := topS 31
theorem sc_signs : FnScope ["_law_signs_here"] [] (defScope s_signs) := ⟨rfl, rfl, rfl, by decide +kernel, rfl, by decide +kernel, by decide +kernel⟩
abbrev s_kinds : Stmt := topS 32
theorem sc_kinds : FnScope ["_law_e", "_law_kinds_here"] ["_law_e"] (defScope s_kinds) := ⟨rfl, rfl, rfl, by decide +kernel, rfl, by decide +kernel, by decide +kernel⟩
abbrev s_right : Stmt := topS 33
theorem sc_right : FnScope ["_law_e", "_law_amount", "_law_k"] ["_law_e", "_law_amount"] (defScope s_right) := ⟨rfl, rfl, rfl, by decide +kernel, rfl, by decide +kernel, by decide +kernel⟩
abbrev s_thing : Stmt := topS 34
theorem sc_thing : FnScope ["_law_state", "_law_amount", "_law_signs_here", "_law_word", "_law_things", "_law_k"] ["_law_state"] (defScope s_thing) := ⟨rfl, rfl, rfl, by decide +kernel, rfl, by decide +kernel, by decide +kernel⟩
abbrev s_all : Stmt := topS 35
theorem sc_all : FnScope ["_law_t", "_law_made"] ["_law_t"] (defScope s_all) := ⟨rfl, rfl, rfl, by decide +kernel, rfl, by decide +kernel, by decide +kernel⟩
abbrev s_named : Stmt := topS 36
theorem sc_named : FnScope ["_law_t", "_law_made"] ["_law_t"] (defScope s_named) := ⟨rfl, rfl, rfl, by decide +kernel, rfl, by decide +kernel, by decide +kernel⟩
abbrev s_keeps : Stmt := topS 37
theorem sc_keeps : FnScope ["_law_made", "_law_t", "_law_k"] ["_law_made", "_law_t"] (defScope s_keeps) := ⟨rfl, rfl, rfl, by decide +kernel, rfl, by decide +kernel, by decide +kernel⟩
abbrev s_law : Stmt := topS 38
theorem sc_law : FnScope ["_law_script", "_law_state", "_law_t", "_law_rows", "_law_both", "_law_row", "_law_k"] ["_law_script"] (defScope s_law) := ⟨rfl, rfl, rfl, by decide +kernel, rfl, by decide +kernel, by decide +kernel⟩
abbrev s_BadName_init : Stmt := inClass (topS 4) 0
theorem sc_BadName_init : FnScope ["self", "name"] ["self", "name"] (defScope s_BadName_init) := ⟨rfl, rfl, rfl, by decide +kernel, rfl, by decide +kernel, by decide +kernel⟩
abbrev s_DuplicateName_init : Stmt := inClass (topS 5) 0
theorem sc_DuplicateName_init : FnScope ["self", "name"] ["self", "name"] (defScope s_DuplicateName_init) := ⟨rfl, rfl, rfl, by decide +kernel, rfl, by decide +kernel, by decide +kernel⟩
abbrev s_UnknownName_init : Stmt := inClass (topS 6) 0
theorem sc_UnknownName_init : FnScope ["self", "name"] ["self", "name"] (defScope s_UnknownName_init) := ⟨rfl, rfl, rfl, by decide +kernel, rfl, by decide +kernel, by decide +kernel⟩
abbrev s_BadCount_init : Stmt := inClass (topS 7) 0
theorem sc_BadCount_init : FnScope ["self", "count"] ["self", "count"] (defScope s_BadCount_init) := ⟨rfl, rfl, rfl, by decide +kernel, rfl, by decide +kernel, by decide +kernel⟩
abbrev s_OutOfRange_init : Stmt := inClass (topS 8) 0
theorem sc_OutOfRange_init : FnScope ["self", "value"] ["self", "value"] (defScope s_OutOfRange_init) := ⟨rfl, rfl, rfl, by decide +kernel, rfl, by decide +kernel, by decide +kernel⟩
abbrev s_BadLine_init : Stmt := inClass (topS 9) 0
theorem sc_BadLine_init : FnScope ["self", "number", "text"] ["self", "number", "text"] (defScope s_BadLine_init) := ⟨rfl, rfl, rfl, by decide +kernel, rfl, by decide +kernel, by decide +kernel⟩
abbrev s_BadText_init : Stmt := inClass (topS 10) 0
theorem sc_BadText_init : FnScope ["self", "text"] ["self", "text"] (defScope s_BadText_init) := ⟨rfl, rfl, rfl, by decide +kernel, rfl, by decide +kernel, by decide +kernel⟩
abbrev s_HasRound_init : Stmt := inClass (topS 11) 0
theorem sc_HasRound_init : FnScope ["self", "name"] ["self", "name"] (defScope s_HasRound_init) := ⟨rfl, rfl, rfl, by decide +kernel, rfl, by decide +kernel, by decide +kernel⟩
abbrev s_UselessLink_init : Stmt := inClass (topS 12) 0
theorem sc_UselessLink_init : FnScope ["self", "name"] ["self", "name"] (defScope s_UselessLink_init) := ⟨rfl, rfl, rfl, by decide +kernel, rfl, by decide +kernel, by decide +kernel⟩
abbrev s_BadJoint_init : Stmt := inClass (topS 13) 0
theorem sc_BadJoint_init : FnScope ["self", "place"] ["self", "place"] (defScope s_BadJoint_init) := ⟨rfl, rfl, rfl, by decide +kernel, rfl, by decide +kernel, by decide +kernel⟩
abbrev s_BadWay_init : Stmt := inClass (topS 14) 0
theorem sc_BadWay_init : FnScope ["self", "way"] ["self", "way"] (defScope s_BadWay_init) := ⟨rfl, rfl, rfl, by decide +kernel, rfl, by decide +kernel, by decide +kernel⟩
abbrev s_NoHarm_init : Stmt := inClass (topS 17) 0
theorem sc_NoHarm_init : FnScope ["self", "kind"] ["self", "kind"] (defScope s_NoHarm_init) := ⟨rfl, rfl, rfl, by decide +kernel, rfl, by decide +kernel, by decide +kernel⟩
abbrev s_Ratio_init : Stmt := inClass (topS 24) 0
theorem sc_Ratio_init : FnScope ["self", "top", "bottom", "common"] ["self", "top", "bottom"] (defScope s_Ratio_init) := ⟨rfl, rfl, rfl, by decide +kernel, rfl, by decide +kernel, by decide +kernel⟩
/-- what the top has written -/
structure Txt (K : PySem.W.Frag) (mg : Str → Option Value) where
  f_BadName : Addr
  m_BadName : mg "BadName" = some (.ref f_BadName)
  f_DuplicateName : Addr
  m_DuplicateName : mg "DuplicateName" = some (.ref f_DuplicateName)
  f_UnknownName : Addr
  m_UnknownName : mg "UnknownName" = some (.ref f_UnknownName)
  f_BadCount : Addr
  m_BadCount : mg "BadCount" = some (.ref f_BadCount)
  f_OutOfRange : Addr
  m_OutOfRange : mg "OutOfRange" = some (.ref f_OutOfRange)
  f_BadLine : Addr
  m_BadLine : mg "BadLine" = some (.ref f_BadLine)
  f_BadText : Addr
  m_BadText : mg "BadText" = some (.ref f_BadText)
  f_HasRound : Addr
  m_HasRound : mg "HasRound" = some (.ref f_HasRound)
  f_UselessLink : Addr
  m_UselessLink : mg "UselessLink" = some (.ref f_UselessLink)
  f_BadJoint : Addr
  m_BadJoint : mg "BadJoint" = some (.ref f_BadJoint)
  f_BadWay : Addr
  m_BadWay : mg "BadWay" = some (.ref f_BadWay)
  f_NoHarm : Addr
  m_NoHarm : mg "NoHarm" = some (.ref f_NoHarm)
  f_Ratio : Addr
  m_Ratio : mg "Ratio" = some (.ref f_Ratio)
  cl_Ratio : Cls K f_Ratio
  ic_Ratio : C8.InsC K f_Ratio
  na_Ratio_top : NoAttr K f_Ratio "_top"
  na_Ratio_bottom : NoAttr K f_Ratio "_bottom"
  f_ExtralinkError : Addr
  m_ExtralinkError : mg "ExtralinkError" = some (.ref f_ExtralinkError)
  f_NoWay : Addr
  m_NoWay : mg "NoWay" = some (.ref f_NoWay)
  f_NotBuilding : Addr
  m_NotBuilding : mg "NotBuilding" = some (.ref f_NotBuilding)
  f_NothingToUndo : Addr
  m_NothingToUndo : mg "NothingToUndo" = some (.ref f_NothingToUndo)
  f_start : Addr
  d_start : FuncData
  F_start : Fun K "_law_start" "_law_start" s_start f_start d_start
  b_start : Binds K d_start ["_law_script"] []
  m_start : mg "_law_start" = some (.ref f_start)
  f_draw : Addr
  d_draw : FuncData
  F_draw : Fun K "_law_draw" "_law_draw" s_draw f_draw d_draw
  b_draw : Binds K d_draw ["_law_state", "_law_size"] []
  m_draw : mg "_law_draw" = some (.ref f_draw)
  f_signs : Addr
  d_signs : FuncData
  F_signs : Fun K "_law_signs" "_law_signs" s_signs f_signs d_signs
  b_signs : Binds K d_signs [] []
  m_signs : mg "_law_signs" = some (.ref f_signs)
  f_kinds : Addr
  d_kinds : FuncData
  F_kinds : Fun K "_law_kinds" "_law_kinds" s_kinds f_kinds d_kinds
  b_kinds : Binds K d_kinds ["_law_e"] []
  m_kinds : mg "_law_kinds" = some (.ref f_kinds)
  f_right : Addr
  d_right : FuncData
  F_right : Fun K "_law_right" "_law_right" s_right f_right d_right
  b_right : Binds K d_right ["_law_e", "_law_amount"] []
  m_right : mg "_law_right" = some (.ref f_right)
  f_thing : Addr
  d_thing : FuncData
  F_thing : Fun K "_law_thing" "_law_thing" s_thing f_thing d_thing
  b_thing : Binds K d_thing ["_law_state"] []
  m_thing : mg "_law_thing" = some (.ref f_thing)
  f_all : Addr
  d_all : FuncData
  F_all : Fun K "_law_all" "_law_all" s_all f_all d_all
  b_all : Binds K d_all ["_law_t"] []
  m_all : mg "_law_all" = some (.ref f_all)
  f_named : Addr
  d_named : FuncData
  F_named : Fun K "_law_named" "_law_named" s_named f_named d_named
  b_named : Binds K d_named ["_law_t"] []
  m_named : mg "_law_named" = some (.ref f_named)
  f_keeps : Addr
  d_keeps : FuncData
  F_keeps : Fun K "_law_keeps" "_law_keeps" s_keeps f_keeps d_keeps
  b_keeps : Binds K d_keeps ["_law_made", "_law_t"] []
  m_keeps : mg "_law_keeps" = some (.ref f_keeps)
  f_BadName_init : Addr
  d_BadName_init : FuncData
  F_BadName_init : Fun K "__init__" "BadName.__init__" s_BadName_init f_BadName_init d_BadName_init
  b_BadName_init : Binds K d_BadName_init ["self", "name"] []
  a_BadName_init : PySem.W.findIn K (.ref f_BadName) "__init__" = some (some (.ref f_BadName_init))
  i_BadName_init : PySem.W.isFn K (.ref f_BadName_init) = true
  f_DuplicateName_init : Addr
  d_DuplicateName_init : FuncData
  F_DuplicateName_init : Fun K "__init__" "DuplicateName.__init__" s_DuplicateName_init f_DuplicateName_init d_DuplicateName_init
  b_DuplicateName_init : Binds K d_DuplicateName_init ["self", "name"] []
  a_DuplicateName_init : PySem.W.findIn K (.ref f_DuplicateName) "__init__" = some (some (.ref f_DuplicateName_init))
  i_DuplicateName_init : PySem.W.isFn K (.ref f_DuplicateName_init) = true
  f_UnknownName_init : Addr
  d_UnknownName_init : FuncData
  F_UnknownName_init : Fun K "__init__" "UnknownName.__init__" s_UnknownName_init f_UnknownName_init d_UnknownName_init
  b_UnknownName_init : Binds K d_UnknownName_init ["self", "name"] []
  a_UnknownName_init : PySem.W.findIn K (.ref f_UnknownName) "__init__" = some (some (.ref f_UnknownName_init))
  i_UnknownName_init : PySem.W.isFn K (.ref f_UnknownName_init) = true
  f_BadCount_init : Addr
  d_BadCount_init : FuncData
  F_BadCount_init : Fun K "__init__" "BadCount.__init__" s_BadCount_init f_BadCount_init d_BadCount_init
  b_BadCount_init : Binds K d_BadCount_init ["self", "count"] []
  a_BadCount_init : PySem.W.findIn K (.ref f_BadCount) "__init__" = some (some (.ref f_BadCount_init))
  i_BadCount_init : PySem.W.isFn K (.ref f_BadCount_init) = true
  f_OutOfRange_init : Addr
  d_OutOfRange_init : FuncData
  F_OutOfRange_init : Fun K "__init__" "OutOfRange.__init__" s_OutOfRange_init f_OutOfRange_init d_OutOfRange_init
  b_OutOfRange_init : Binds K d_OutOfRange_init ["self", "value"] []
  a_OutOfRange_init : PySem.W.findIn K (.ref f_OutOfRange) "__init__" = some (some (.ref f_OutOfRange_init))
  i_OutOfRange_init : PySem.W.isFn K (.ref f_OutOfRange_init) = true
  f_BadLine_init : Addr
  d_BadLine_init : FuncData
  F_BadLine_init : Fun K "__init__" "BadLine.__init__" s_BadLine_init f_BadLine_init d_BadLine_init
  b_BadLine_init : Binds K d_BadLine_init ["self", "number", "text"] []
  a_BadLine_init : PySem.W.findIn K (.ref f_BadLine) "__init__" = some (some (.ref f_BadLine_init))
  i_BadLine_init : PySem.W.isFn K (.ref f_BadLine_init) = true
  f_BadText_init : Addr
  d_BadText_init : FuncData
  F_BadText_init : Fun K "__init__" "BadText.__init__" s_BadText_init f_BadText_init d_BadText_init
  b_BadText_init : Binds K d_BadText_init ["self", "text"] []
  a_BadText_init : PySem.W.findIn K (.ref f_BadText) "__init__" = some (some (.ref f_BadText_init))
  i_BadText_init : PySem.W.isFn K (.ref f_BadText_init) = true
  f_HasRound_init : Addr
  d_HasRound_init : FuncData
  F_HasRound_init : Fun K "__init__" "HasRound.__init__" s_HasRound_init f_HasRound_init d_HasRound_init
  b_HasRound_init : Binds K d_HasRound_init ["self", "name"] []
  a_HasRound_init : PySem.W.findIn K (.ref f_HasRound) "__init__" = some (some (.ref f_HasRound_init))
  i_HasRound_init : PySem.W.isFn K (.ref f_HasRound_init) = true
  f_UselessLink_init : Addr
  d_UselessLink_init : FuncData
  F_UselessLink_init : Fun K "__init__" "UselessLink.__init__" s_UselessLink_init f_UselessLink_init d_UselessLink_init
  b_UselessLink_init : Binds K d_UselessLink_init ["self", "name"] []
  a_UselessLink_init : PySem.W.findIn K (.ref f_UselessLink) "__init__" = some (some (.ref f_UselessLink_init))
  i_UselessLink_init : PySem.W.isFn K (.ref f_UselessLink_init) = true
  f_BadJoint_init : Addr
  d_BadJoint_init : FuncData
  F_BadJoint_init : Fun K "__init__" "BadJoint.__init__" s_BadJoint_init f_BadJoint_init d_BadJoint_init
  b_BadJoint_init : Binds K d_BadJoint_init ["self", "place"] []
  a_BadJoint_init : PySem.W.findIn K (.ref f_BadJoint) "__init__" = some (some (.ref f_BadJoint_init))
  i_BadJoint_init : PySem.W.isFn K (.ref f_BadJoint_init) = true
  f_BadWay_init : Addr
  d_BadWay_init : FuncData
  F_BadWay_init : Fun K "__init__" "BadWay.__init__" s_BadWay_init f_BadWay_init d_BadWay_init
  b_BadWay_init : Binds K d_BadWay_init ["self", "way"] []
  a_BadWay_init : PySem.W.findIn K (.ref f_BadWay) "__init__" = some (some (.ref f_BadWay_init))
  i_BadWay_init : PySem.W.isFn K (.ref f_BadWay_init) = true
  f_NoHarm_init : Addr
  d_NoHarm_init : FuncData
  F_NoHarm_init : Fun K "__init__" "NoHarm.__init__" s_NoHarm_init f_NoHarm_init d_NoHarm_init
  b_NoHarm_init : Binds K d_NoHarm_init ["self", "kind"] []
  a_NoHarm_init : PySem.W.findIn K (.ref f_NoHarm) "__init__" = some (some (.ref f_NoHarm_init))
  i_NoHarm_init : PySem.W.isFn K (.ref f_NoHarm_init) = true
  f_Ratio_init : Addr
  d_Ratio_init : FuncData
  F_Ratio_init : FunD K "__init__" "Ratio.__init__" (defArgs s_Ratio_init) (defBody s_Ratio_init) (defScope s_Ratio_init) [V.int 1] [] f_Ratio_init d_Ratio_init
  a_Ratio_init : PySem.W.findIn K (.ref f_Ratio) "__init__" = some (some (.ref f_Ratio_init))
  i_Ratio_init : PySem.W.isFn K (.ref f_Ratio_init) = true
  mk_Ratio : Mk K f_Ratio f_Ratio_init
  e1_Ratio_init : List Value
  v1_Ratio_init : Vals [V.int 1] e1_Ratio_init
  b1_Ratio_init : Binds K d_Ratio_init ["self", "top", "bottom"] e1_Ratio_init
  e2_Ratio_init : List Value
  v2_Ratio_init : Vals [] e2_Ratio_init
  b2_Ratio_init : Binds K d_Ratio_init ["self", "top", "bottom"] e2_Ratio_init
  ox_BadName : OexC K f_BadName
  ix_BadName : PySem.W.findIn K (.ref f_BadName) "__init__" = some (some (.ref f_BadName_init))
  tx_BadName : PySem.W.typeIn K (.ref f_BadName_init) = some (.type "function")
  xf_BadName : XfC K f_BadName
  ec_BadName : ExcC K f_BadName
  no_BadName_name : PySem.W.findIn K (.ref f_BadName) "name" = some none
  ox_DuplicateName : OexC K f_DuplicateName
  ix_DuplicateName : PySem.W.findIn K (.ref f_DuplicateName) "__init__" = some (some (.ref f_DuplicateName_init))
  tx_DuplicateName : PySem.W.typeIn K (.ref f_DuplicateName_init) = some (.type "function")
  xf_DuplicateName : XfC K f_DuplicateName
  ec_DuplicateName : ExcC K f_DuplicateName
  no_DuplicateName_name : PySem.W.findIn K (.ref f_DuplicateName) "name" = some none
  ox_UnknownName : OexC K f_UnknownName
  ix_UnknownName : PySem.W.findIn K (.ref f_UnknownName) "__init__" = some (some (.ref f_UnknownName_init))
  tx_UnknownName : PySem.W.typeIn K (.ref f_UnknownName_init) = some (.type "function")
  xf_UnknownName : XfC K f_UnknownName
  ec_UnknownName : ExcC K f_UnknownName
  no_UnknownName_name : PySem.W.findIn K (.ref f_UnknownName) "name" = some none
  ox_BadCount : OexC K f_BadCount
  ix_BadCount : PySem.W.findIn K (.ref f_BadCount) "__init__" = some (some (.ref f_BadCount_init))
  tx_BadCount : PySem.W.typeIn K (.ref f_BadCount_init) = some (.type "function")
  xf_BadCount : XfC K f_BadCount
  ec_BadCount : ExcC K f_BadCount
  no_BadCount_count : PySem.W.findIn K (.ref f_BadCount) "count" = some none
  ox_OutOfRange : OexC K f_OutOfRange
  ix_OutOfRange : PySem.W.findIn K (.ref f_OutOfRange) "__init__" = some (some (.ref f_OutOfRange_init))
  tx_OutOfRange : PySem.W.typeIn K (.ref f_OutOfRange_init) = some (.type "function")
  xf_OutOfRange : XfC K f_OutOfRange
  ec_OutOfRange : ExcC K f_OutOfRange
  no_OutOfRange_value : PySem.W.findIn K (.ref f_OutOfRange) "value" = some none
  ox_BadLine : OexC K f_BadLine
  ix_BadLine : PySem.W.findIn K (.ref f_BadLine) "__init__" = some (some (.ref f_BadLine_init))
  tx_BadLine : PySem.W.typeIn K (.ref f_BadLine_init) = some (.type "function")
  xf_BadLine : XfC K f_BadLine
  ec_BadLine : ExcC K f_BadLine
  no_BadLine_number : PySem.W.findIn K (.ref f_BadLine) "number" = some none
  no_BadLine_text : PySem.W.findIn K (.ref f_BadLine) "text" = some none
  ox_BadText : OexC K f_BadText
  ix_BadText : PySem.W.findIn K (.ref f_BadText) "__init__" = some (some (.ref f_BadText_init))
  tx_BadText : PySem.W.typeIn K (.ref f_BadText_init) = some (.type "function")
  xf_BadText : XfC K f_BadText
  ec_BadText : ExcC K f_BadText
  no_BadText_text : PySem.W.findIn K (.ref f_BadText) "text" = some none
  ox_HasRound : OexC K f_HasRound
  ix_HasRound : PySem.W.findIn K (.ref f_HasRound) "__init__" = some (some (.ref f_HasRound_init))
  tx_HasRound : PySem.W.typeIn K (.ref f_HasRound_init) = some (.type "function")
  xf_HasRound : XfC K f_HasRound
  ec_HasRound : ExcC K f_HasRound
  no_HasRound_name : PySem.W.findIn K (.ref f_HasRound) "name" = some none
  ox_UselessLink : OexC K f_UselessLink
  ix_UselessLink : PySem.W.findIn K (.ref f_UselessLink) "__init__" = some (some (.ref f_UselessLink_init))
  tx_UselessLink : PySem.W.typeIn K (.ref f_UselessLink_init) = some (.type "function")
  xf_UselessLink : XfC K f_UselessLink
  ec_UselessLink : ExcC K f_UselessLink
  no_UselessLink_name : PySem.W.findIn K (.ref f_UselessLink) "name" = some none
  ox_BadJoint : OexC K f_BadJoint
  ix_BadJoint : PySem.W.findIn K (.ref f_BadJoint) "__init__" = some (some (.ref f_BadJoint_init))
  tx_BadJoint : PySem.W.typeIn K (.ref f_BadJoint_init) = some (.type "function")
  xf_BadJoint : XfC K f_BadJoint
  ec_BadJoint : ExcC K f_BadJoint
  no_BadJoint_place : PySem.W.findIn K (.ref f_BadJoint) "place" = some none
  ox_BadWay : OexC K f_BadWay
  ix_BadWay : PySem.W.findIn K (.ref f_BadWay) "__init__" = some (some (.ref f_BadWay_init))
  tx_BadWay : PySem.W.typeIn K (.ref f_BadWay_init) = some (.type "function")
  xf_BadWay : XfC K f_BadWay
  ec_BadWay : ExcC K f_BadWay
  no_BadWay_way : PySem.W.findIn K (.ref f_BadWay) "way" = some none
  ox_NoHarm : OexC K f_NoHarm
  ix_NoHarm : PySem.W.findIn K (.ref f_NoHarm) "__init__" = some (some (.ref f_NoHarm_init))
  tx_NoHarm : PySem.W.typeIn K (.ref f_NoHarm_init) = some (.type "function")
  xf_NoHarm : XfC K f_NoHarm
  ec_NoHarm : ExcC K f_NoHarm
  no_NoHarm_kind : PySem.W.findIn K (.ref f_NoHarm) "kind" = some none
  kx_BadName_init_name : ∀ (s : Shared) (u : Value) (ws : List Value), ws.length = (["name"] : List Str).length → BindsTo s d_BadName_init ⟨[u], (["name"] : List Str).zip ws⟩ ((["self", "name"] : List Str).zip (u :: permL [0] ws))
  kx_DuplicateName_init_name : ∀ (s : Shared) (u : Value) (ws : List Value), ws.length = (["name"] : List Str).length → BindsTo s d_DuplicateName_init ⟨[u], (["name"] : List Str).zip ws⟩ ((["self", "name"] : List Str).zip (u :: permL [0] ws))
  kx_UnknownName_init_name : ∀ (s : Shared) (u : Value) (ws : List Value), ws.length = (["name"] : List Str).length → BindsTo s d_UnknownName_init ⟨[u], (["name"] : List Str).zip ws⟩ ((["self", "name"] : List Str).zip (u :: permL [0] ws))
  kx_BadCount_init_count : ∀ (s : Shared) (u : Value) (ws : List Value), ws.length = (["count"] : List Str).length → BindsTo s d_BadCount_init ⟨[u], (["count"] : List Str).zip ws⟩ ((["self", "count"] : List Str).zip (u :: permL [0] ws))
  kx_OutOfRange_init_value : ∀ (s : Shared) (u : Value) (ws : List Value), ws.length = (["value"] : List Str).length → BindsTo s d_OutOfRange_init ⟨[u], (["value"] : List Str).zip ws⟩ ((["self", "value"] : List Str).zip (u :: permL [0] ws))
  kx_BadText_init_text : ∀ (s : Shared) (u : Value) (ws : List Value), ws.length = (["text"] : List Str).length → BindsTo s d_BadText_init ⟨[u], (["text"] : List Str).zip ws⟩ ((["self", "text"] : List Str).zip (u :: permL [0] ws))
  kx_HasRound_init_name : ∀ (s : Shared) (u : Value) (ws : List Value), ws.length = (["name"] : List Str).length → BindsTo s d_HasRound_init ⟨[u], (["name"] : List Str).zip ws⟩ ((["self", "name"] : List Str).zip (u :: permL [0] ws))
  kx_UselessLink_init_name : ∀ (s : Shared) (u : Value) (ws : List Value), ws.length = (["name"] : List Str).length → BindsTo s d_UselessLink_init ⟨[u], (["name"] : List Str).zip ws⟩ ((["self", "name"] : List Str).zip (u :: permL [0] ws))
  kx_BadJoint_init_place : ∀ (s : Shared) (u : Value) (ws : List Value), ws.length = (["place"] : List Str).length → BindsTo s d_BadJoint_init ⟨[u], (["place"] : List Str).zip ws⟩ ((["self", "place"] : List Str).zip (u :: permL [0] ws))
  kx_BadWay_init_way : ∀ (s : Shared) (u : Value) (ws : List Value), ws.length = (["way"] : List Str).length → BindsTo s d_BadWay_init ⟨[u], (["way"] : List Str).zip ws⟩ ((["self", "way"] : List Str).zip (u :: permL [0] ws))
  kx_NoHarm_init_kind : ∀ (s : Shared) (u : Value) (ws : List Value), ws.length = (["kind"] : List Str).length → BindsTo s d_NoHarm_init ⟨[u], (["kind"] : List Str).zip ws⟩ ((["self", "kind"] : List Str).zip (u :: permL [0] ws))
  kx_BadLine_init_text_number : ∀ (s : Shared) (u : Value) (ws : List Value), ws.length = (["text", "number"] : List Str).length → BindsTo s d_BadLine_init ⟨[u], (["text", "number"] : List Str).zip ws⟩ ((["self", "number", "text"] : List Str).zip (u :: permL [1, 0] ws))
  xq_NoWay : PySem.W.excIn K f_NoWay [.type "ValueError", .type "Exception", .type "BaseException", .type "object"] "ValueError.__new__" = true
  xk_NoWay : PySem.W.keepIn K (.ref f_NoWay) = true
  ec_NoWay : ExcC K f_NoWay
  xq_NotBuilding : PySem.W.excIn K f_NotBuilding [.type "ValueError", .type "Exception", .type "BaseException", .type "object"] "ValueError.__new__" = true
  xk_NotBuilding : PySem.W.keepIn K (.ref f_NotBuilding) = true
  ec_NotBuilding : ExcC K f_NotBuilding
  xq_NothingToUndo : PySem.W.excIn K f_NothingToUndo [.type "ValueError", .type "Exception", .type "BaseException", .type "object"] "ValueError.__new__" = true
  xk_NothingToUndo : PySem.W.keepIn K (.ref f_NothingToUndo) = true
  ec_NothingToUndo : ExcC K f_NothingToUndo
  er_BadName : ErrC K f_BadName f_ExtralinkError
  er_DuplicateName : ErrC K f_DuplicateName f_ExtralinkError
  er_UnknownName : ErrC K f_UnknownName f_ExtralinkError
  er_BadCount : ErrC K f_BadCount f_ExtralinkError
  er_OutOfRange : ErrC K f_OutOfRange f_ExtralinkError
  er_BadLine : ErrC K f_BadLine f_ExtralinkError
  er_BadText : ErrC K f_BadText f_ExtralinkError
  er_HasRound : ErrC K f_HasRound f_ExtralinkError
  er_UselessLink : ErrC K f_UselessLink f_ExtralinkError
  er_BadJoint : ErrC K f_BadJoint f_ExtralinkError
  er_BadWay : ErrC K f_BadWay f_ExtralinkError
  er_NoWay : ErrC K f_NoWay f_ExtralinkError
  er_NotBuilding : ErrC K f_NotBuilding f_ExtralinkError
  er_NoHarm : ErrC K f_NoHarm f_ExtralinkError
  er_NothingToUndo : ErrC K f_NothingToUndo f_ExtralinkError
  xi_ExtralinkError : PySem.W.isClsIn K f_ExtralinkError = true
  xt_ExtralinkError : PySem.W.typeIn K (.ref f_ExtralinkError) = some (.type "type")
  nq_all : ([f_ExtralinkError, f_BadName, f_DuplicateName, f_UnknownName, f_BadCount, f_OutOfRange, f_BadLine, f_BadText, f_HasRound, f_UselessLink, f_BadJoint, f_BadWay, f_NoWay, f_NotBuilding, f_NoHarm, f_NothingToUndo] : List Addr).Nodup
  g_gcd : mg "gcd" = some (.builtin "math.gcd")
  n_ValueError : mg "ValueError" = none
  n_abs : mg "abs" = none
  n_int : mg "int" = none
  n_isinstance : mg "isinstance" = none
  n_len : mg "len" = none
  n_list : mg "list" = none
  n_range : mg "range" = none
/-! ### the law's own draws: a list of great numbers, a list of cells, a count -/
section
variable {P : Program} {w : World} {K : PySem.W.Frag} {mg : Str → Option Value} {base : Heap}
/-- the state's objects as they stand; G is what else is known, the state is none of it -/
structure DS (G H : Hp) (s b c : Addr) (gs cs : List Int) (n : Nat) : Prop where
  same : Same G H
  fs : G s = none
  fb : G b = none
  fc : G c = none
  hs : H s = some (.lst [.ref b, .ref c, .int (n : Int)])
  hb : H b = some (.lst (gs.map V.int))
  hc : H c = some (.lst (cs.map V.int))
  ne : b ≠ c
  pos : 0 < cs.length
theorem DS.sb {G H : Hp} {s b c : Addr} {gs cs : List Int} {n : Nat} (d : DS G H s b c gs cs n) : s ≠ b := ne_of d.hs d.hb (by cases gs <;> simp)
theorem DS.sc {G H : Hp} {s b c : Addr} {gs cs : List Int} {n : Nat} (d : DS G H s b c gs cs n) : s ≠ c := ne_of d.hs d.hc (by cases cs <;> simp)
/-- at most m draws were made -/
def DSt (G H : Hp) (s : Addr) (m : Nat) : Prop := ∃ (b c : Addr) (gs cs : List Int) (n : Nat), DS G H s b c gs cs n ∧ n ≤ m
theorem DSt.same {G H : Hp} {s : Addr} {m : Nat} (d : DSt G H s m) : Same G H := let ⟨_, _, _, _, _, d, _⟩ := d; d.same
theorem DSt.mono {G H : Hp} {s : Addr} {m m' : Nat} (d : DSt G H s m) (h : m ≤ m') : DSt G H s m' := let ⟨b, c, gs, cs, n, d, hn⟩ := d; ⟨b, c, gs, cs, n, d, Nat.le_trans hn h⟩
/-- a new object comes beside, known from then on -/
theorem DSt.new {G H : Hp} {s : Addr} {m : Nat} {p : Addr} {o : HO} (d : DSt G H s m) (hp : H p = none) : DSt (upd G p o) (upd H p o) s m := by
  obtain ⟨b, c, gs, cs, n, d, hn⟩ := d
  have n1 : s ≠ p := ne_of_none d.hs hp
  have n2 : b ≠ p := ne_of_none d.hb hp
  have n3 : c ≠ p := ne_of_none d.hc hp
  refine ⟨b, c, gs, cs, n, ⟨fun a u e => ?_, ?_, ?_, ?_, ?_, ?_, ?_, d.ne, d.pos⟩, hn⟩
  · by_cases ha : a = p
    · subst ha; rw [upd_same] at e ⊢; exact e
    · rw [upd_ne ha] at e ⊢; exact d.same a u e
  · rw [upd_ne n1]; exact d.fs
  · rw [upd_ne n2]; exact d.fb
  · rw [upd_ne n3]; exact d.fc
  · rw [upd_ne n1]; exact d.hs
  · rw [upd_ne n2]; exact d.hb
  · rw [upd_ne n3]; exact d.hc
/-- a known object changes -/
theorem DSt.put {G H : Hp} {s : Addr} {m : Nat} {p : Addr} {o u : HO} (d : DSt G H s m) (hp : G p = some u) : DSt (upd G p o) (upd H p o) s m := by
  obtain ⟨b, c, gs, cs, n, d, hn⟩ := d
  have n1 : s ≠ p := fun e => by rw [← e, d.fs] at hp; cases hp
  have n2 : b ≠ p := fun e => by rw [← e, d.fb] at hp; cases hp
  have n3 : c ≠ p := fun e => by rw [← e, d.fc] at hp; cases hp
  refine ⟨b, c, gs, cs, n, ⟨fun a v e => ?_, ?_, ?_, ?_, ?_, ?_, ?_, d.ne, d.pos⟩, hn⟩
  · by_cases ha : a = p
    · subst ha; rw [upd_same] at e ⊢; exact e
    · rw [upd_ne ha] at e ⊢; exact d.same a v e
  · rw [upd_ne n1]; exact d.fs
  · rw [upd_ne n2]; exact d.fb
  · rw [upd_ne n3]; exact d.fc
  · rw [upd_ne n1]; exact d.hs
  · rw [upd_ne n2]; exact d.hb
  · rw [upd_ne n3]; exact d.hc
/-- what else is known of the heap may be less, the rest may be more -/
theorem DSt.less {G G' H : Hp} {s : Addr} {m : Nat} (d : DSt G H s m) (h : Same G' G) : DSt G' H s m := by
  obtain ⟨b, c, gs, cs, n, d, hn⟩ := d
  have fr : ∀ a, G a = none → G' a = none := fun a e => h.free e
  exact ⟨b, c, gs, cs, n, ⟨h.trans d.same, fr _ d.fs, fr _ d.fb, fr _ d.fc, d.hs, d.hb, d.hc, d.ne, d.pos⟩, hn⟩
/-- all that stands behind stays; known is what was known -/
theorem DSt.on {G H H' : Hp} {s : Addr} {m : Nat} (d : DSt G H s m) (h : Same H H') : DSt G H' s m := by
  obtain ⟨b, c, gs, cs, n, d, hn⟩ := d
  exact ⟨b, c, gs, cs, n, ⟨d.same.trans h, d.fs, d.fb, d.fc, h _ _ d.hs, h _ _ d.hb, h _ _ d.hc, d.ne, d.pos⟩, hn⟩
theorem DSt.free {G H : Hp} {s : Addr} {m : Nat} {p : Addr} (d : DSt G H s m) (hp : H p = none) : G p = none := d.same.free hp

def spStart (K : PySem.W.Frag) : Sp := fun vs H Q _ => ∃ (a : Addr) (ns : List Int), vs = [.ref a] ∧ SqL K H a (ns.map V.int) ∧ ns.length ≤ 63 ∧ ∀ (s : Addr) (H' : Hp), DSt H H' s 0 → Q (.ref s) H'
def spDraw : Sp := fun vs H Q _ => ∃ (G : Hp) (s : Addr) (m : Nat) (sz : Int), vs = [.ref s, .int sz] ∧ DSt G H s m ∧ m < 1000000 ∧ 0 < sz ∧ sz < 2 ^ 200 ∧
  ∀ (r : Int) (H' : Hp), 0 ≤ r → r < sz → DSt G H' s (m + 1) → Q (.int r) H'

theorem take_more {α : Type} : ∀ {l : List α} {i : Nat} {x : α}, l[i]? = some x → l.take (i + 1) = l.take i ++ [x]
  | [], i, x, h => by simp at h
  | a :: l, 0, x, h => by
    have e : a = x := Option.some.inj h
    subst e
    rfl
  | a :: l, i + 1, x, h => by
    have ih := take_more (l := l) (i := i) (x := x) h
    show a :: l.take (i + 1) = a :: l.take i ++ [x]
    rw [ih]
    rfl
theorem pow_lt (c n : Int) (hc : 0 ≤ c) (hc2 : c < 2147483647) (hn : 0 ≤ n) (hn2 : n ≤ 1000001) : (c * 48271 + n * 69621 + 7).natAbs < 2 ^ 64 := by omega
theorem pow_lt2 (c n : Int) (hc : 0 ≤ c) (hc2 : c < 2147483647) (hn : 0 ≤ n) (hn2 : n ≤ 1000001) : (c * 16807 + n * 40692 + 13).natAbs < 2 ^ 64 := by omega

theorem cut1 (xs : List V) : cutV xs (some 1) none = xs.drop 1 := by
  unfold cutV
  rw [show HT.sIx xs.length 0 (some 1) = min 1 xs.length from HT.sIx_nat xs.length 0 1, HT.sIx_none]
  cases xs with
  | nil => rfl
  | cons x r =>
    rw [show min 1 (x :: r).length = 1 by
      rw [List.length_cons]
      omega]
    show (List.take ((x :: r).length - 1) r) = r
    rw [List.length_cons, Nat.add_sub_cancel]
    exact List.take_length
theorem big1 : (0 : Int) < 2147483647 := by decide
theorem big2 : (0 : Int) < 2147483629 := by decide
theorem ok_start (T : Txt K mg) : FnOk P w K mg base CX0 1 T.f_start T.d_start ["_law_script"] (spStart K) := by
  refine T.F_start.ok sc_start (fun vs H Q E h => ?_) (fun cdv A outer s H vs Q E hr h => ?_)
  · obtain ⟨a, ns, rfl, _⟩ := h
    rfl
  · obtain ⟨a, ns, rfl, hS, hlen, k⟩ := h
    refine ⟨_, (pss_one (ps_ret (pe_lst (pa_cons (pe_lc (own := [("_law_cell", 1)]) (g := gName 1) rfl sc_start.nd (pi_list (pv 0)) (blkOk_by (N := ["_law_script", "_law_cell"]) (sc := defScope s_start) (by decide +kernel)) (fun _ _ _ _ _ => pg_name (i := 1) sc_start.nd rfl (Or.inl rfl)) (fun _ _ _ _ _ => pts_one (pt_cmpR op_ge (pe_callB call_abs (by rfl) T.n_abs (by decide +kernel) (pa_cons (pv 1) pa_nil)) (pe_op op_pow pe_int pe_int) (nomark _))) (fun _ _ _ _ _ => (pe_callB call_abs (by rfl) T.n_abs (by decide +kernel) (pa_cons (pv 1) pa_nil)))) (pa_cons (pe_op op_cat (pe_callTy call_list_of (by rfl) T.n_list (by decide +kernel) (pa_cons (pv 0) pa_nil)) (pe_lst (pa_cons pe_int pa_nil))) (pa_cons pe_int pa_nil)))))), ?_⟩
    refine ⟨_, rfl, a, rfl, ⟨_, hS⟩, fun D hD => ?_⟩
    refine lc_list (K := K) (a := a) (xs := ns.map V.int) (fun i H1 => ∃ gs : List Int, gs.length ≤ i ∧ H1 D = some (.lst (gs.map V.int)) ∧ Same H H1) ⟨[], Nat.le_refl _, upd_same, same_upd hD⟩ (fun i H1 _ ⟨_, _, _, sm⟩ => sm.seq hS) ?_ ?_
    · intro i x H1 hi ⟨gs, hg, eD, sm⟩
      obtain ⟨z, rfl⟩ : ∃ z, x = V.int z := by
        rw [List.getElem?_map] at hi
        cases e : ns[i]? with
        | none =>
          rw [e] at hi
          cases hi
        | some z =>
          rw [e] at hi
          exact ⟨z, (Option.some.inj hi).symm⟩
      have hi63 : i < 63 := by
        have := (List.getElem?_eq_some_iff.mp hi).1
        rw [List.length_map] at this
        omega
      refine ⟨rfl, _, rfl, z, rfl, 10, 18, rfl, rfl, ⟨by decide, by decide, by decide⟩, _, _, rfl, rfl, _, rfl, ?_⟩
      refine ite2 (fun _ => ?_) fun _ => ?_
      · refine ⟨_, rfl, z, rfl, gs.map V.int, eD, small1000 (by rw [List.length_map]; omega), gs ++ [if z < 0 then -z else z], by rw [List.length_append]; exact Nat.add_le_add_right hg 1, ?_, same_mut sm hD⟩
        rw [upd_same, List.map_append]
        rfl
      · exact ⟨gs, Nat.le_succ_of_le hg, eD, sm⟩
    · intro H1 ⟨gs, hg, eD, sm⟩
      refine ⟨_, rfl, a, _, rfl, .inl (sm.seq hS), fun l hl => ?_⟩
      refine ⟨by show 1 ≤ sizeLine; decide, fun o ho => ?_⟩
      have nlo : l ≠ o := fun e => by
        rw [← e, upd_same] at ho
        cases ho
      refine ⟨l, o, _, _, rfl, rfl, by rw [upd_ne nlo]; exact upd_same, upd_same, Nat.le_of_lt (small1000 ?_), fun c hc => ?_⟩
      · rw [List.length_map]
        show ns.length + 1 ≤ 1000
        omega
      refine ⟨by show 3 ≤ sizeLine; decide, fun st hst => ?_⟩
      have eDo : (upd (upd H1 l (.lst (ns.map V.int))) o (.lst [V.int 5])) D = some (.lst (gs.map V.int)) := same_upd ho _ _ (same_upd hl _ _ eD)
      have nDc : D ≠ c := ne_of_none eDo hc
      have hcs := hst
      have ncst : c ≠ st := fun e => by
        rw [← e, upd_same] at hst
        cases hst
      have nDst : D ≠ st := ne_of_none (same_upd hc _ _ eDo) hst
      have sm4 : Same H (upd (upd (upd H1 l (.lst (ns.map V.int))) o (.lst [V.int 5])) c (.lst (ns.map V.int ++ [V.int 5]))) := ((sm.trans (same_upd hl)).trans (same_upd ho)).trans (same_upd hc)
      refine k st _ ⟨D, c, gs, ns ++ [5], 0, ⟨sm4.trans (same_upd hst), sm4.free hst, hD, ((sm.trans (same_upd hl)).trans (same_upd ho)).free hc, upd_same, ?_, ?_, nDc, by rw [List.length_append]; exact Nat.succ_pos _⟩, Nat.le_refl _⟩
      · rw [upd_ne nDst]
        exact same_upd hc _ _ eDo
      · rw [upd_ne ncst, upd_same, List.map_append]
        rfl

theorem ok_draw (T : Txt K mg) : FnOk P w K mg base CX0 1 T.f_draw T.d_draw ["_law_state", "_law_size"] spDraw := by
  refine T.F_draw.ok sc_draw (fun vs H Q E h => ?_) (fun cdv A outer s H vs Q E hr h => ?_)
  · obtain ⟨G, a, m, sz, rfl, _⟩ := h
    rfl
  · obtain ⟨G, a, m, sz, rfl, ⟨b0, c, gs0, cs, n, d0, hn⟩, hm, hs0, hs2, k⟩ := h
    refine ⟨_, (pss_cons (ps_augS (pv 0) pe_int get_list pe_int ip_add set_list)
    (C8.pss_cut (ps_while PassesOwn.never (PW.pt (pw_and (pt_cmpR (op_neD hr.units) (pe_ix ix_list (pv 0) pe_int (fun _ _ => rfl)) (pe_lst pa_nil) (nomark _)) (pw_and1 (pt_cmpR op_eq (pe_ix ix_list (pe_ix ix_list (pv 0) pe_int (fun _ _ => rfl)) pe_int (fun _ _ => rfl)) pe_int (nomark _)))))
      (pss_one (ps_asg (pe_slice sl_list (pe_ix ix_list (pv 0) pe_int (fun _ _ => rfl)) (po_some pe_int) po_none) (pg_sub (pv 0) pe_int set_list))))
    (pss_cons (ps_if (pt_cmpR (op_neD hr.units) (pe_ix ix_list (pv 0) pe_int (fun _ _ => rfl)) (pe_lst pa_nil) (nomark _))
      (pss_cons (ps_set (i := 2) sc_draw.nd rfl (Or.inl rfl) (pe_op op_mod (pe_callTy call_int1 (by rfl) T.n_int (by decide +kernel) (pa_cons (pe_ix ix_list (pe_ix ix_list (pv 0) pe_int (fun _ _ => rfl)) pe_int (fun _ _ => rfl)) pa_nil)) (pv 1)))
    (pss_cons (ps_asg (pe_op op_fdivW (pe_ix ix_list (pe_ix ix_list (pv 0) pe_int (fun _ _ => rfl)) pe_int (fun _ _ => rfl)) (pv 1)) (pg_sub (pe_ix ix_list (pv 0) pe_int (fun _ _ => rfl)) pe_int set_list))
    (pss_one (ps_ret (pv 2)))))
      pss_nil)
    (pss_cons (ps_set (i := 3) sc_draw.nd rfl (Or.inl rfl) (pe_op op_mod (pe_callTy call_int1 (by rfl) T.n_int (by decide +kernel) (pa_cons (pe_ix ix_list (pe_ix ix_list (pv 0) pe_int (fun _ _ => rfl)) (pe_op op_mod (pe_callTy call_int1 (by rfl) T.n_int (by decide +kernel) (pa_cons (pe_ix ix_list (pv 0) pe_int (fun _ _ => rfl)) pa_nil)) (pe_callB call_len_seq (by rfl) T.n_len (by decide +kernel) (pa_cons (pe_ix ix_list (pv 0) pe_int (fun _ _ => rfl)) pa_nil))) (fun _ _ => rfl)) pa_nil)) pe_int))
    (pss_cons (ps_set (i := 4) sc_draw.nd rfl (Or.inl rfl) (pe_op op_mod (pe_callTy call_int1 (by rfl) T.n_int (by decide +kernel) (pa_cons (pe_op op_pow (pe_op op_add (pe_op op_add (pe_op op_mul (pv 3) pe_int) (pe_op op_mul (pe_ix ix_list (pv 0) pe_int (fun _ _ => rfl)) pe_int)) pe_int) pe_int) pa_nil)) pe_int))
    (pss_one (ps_ret (pe_op op_mod (pe_op op_mod (pe_callTy call_int1 (by rfl) T.n_int (by decide +kernel) (pa_cons (pe_op op_pow (pe_op op_add (pe_op op_add (pe_op op_mul (pv 4) pe_int) (pe_op op_mul (pe_ix ix_list (pv 0) pe_int (fun _ _ => rfl)) pe_int)) pe_int) pe_int) pa_nil)) pe_int) (pv 1))))))))), ?_⟩
    -- the count
    refine ⟨_, rfl, a, _, 2, _, rfl, rfl, SqL.of d0.hs, by decide, rfl, (n : Int), 1, rfl, rfl, a, _, 2, 2, rfl, rfl, d0.hs, rfl, ?_⟩
    have d1 : DS G (upd H a (.lst [V.ref b0, V.ref c, V.int ((n + 1 : Nat) : Int)])) a b0 c gs0 cs (n + 1) :=
      ⟨same_mut d0.same d0.fs, d0.fs, d0.fb, d0.fc, upd_same, by rw [upd_ne d0.sb.symm]; exact d0.hb, by rw [upd_ne d0.sc.symm]; exact d0.hc, d0.ne, d0.pos⟩
    -- the noughts ahead go
    refine ⟨fun σ H2 => σ = [some (.ref a), some (.int sz), none, none, none] ∧ ∃ (b : Addr) (gs : List Int), DS G H2 a b c gs cs (n + 1), ?_, ?_⟩
    · refine ⟨fun j σ H2 => σ = [some (.ref a), some (.int sz), none, none, none] ∧ ∃ (b : Addr) (gs : List Int), gs.length = j ∧ DS G H2 a b c gs cs (n + 1), ⟨_, rfl, b0, gs0, rfl, d1⟩, ?_⟩
      rintro j σ H2 ⟨rfl, b, gs, rfl, d⟩
      refine ⟨_, rfl, a, _, 0, _, rfl, rfl, SqL.of d.hs, rfl, Nat.zero_le _, fun p hp => ?_⟩
      have sp : Same H2 (upd H2 p (.lst [])) := same_upd hp
      have d2 : DS G (upd H2 p (.lst [])) a b c gs cs (n + 1) := ⟨d.same.trans sp, d.fs, d.fb, d.fc, sp _ _ d.hs, sp _ _ d.hb, sp _ _ d.hc, d.ne, d.pos⟩
      cases gs with
      | nil =>
        refine ⟨.list [], .list [], .lst (SqL.of d2.hb) .nil, .lst (SqL.of upd_same) .nil, shaped_ints [], shaped_ints [], false, by simp [PyData.eqv, PyData.eqvAll], iteF (iteF (⟨rfl, b, [], d2⟩))⟩
      | cons g r =>
        refine ⟨.list ((g :: r).map PyData.int), .list [], .lst (SqL.of d2.hb) (dp_ints _), .lst (SqL.of upd_same) .nil, shaped_ints _, shaped_ints [], true, by simp [PyData.eqv, PyData.eqvAll], iteT ?_⟩
        refine ⟨_, rfl, a, _, 0, _, rfl, rfl, SqL.of d2.hs, rfl, b, _, 0, .int g, rfl, rfl, SqL.of d2.hb, at0, rfl, _, rfl, ite2 (fun _ => ?_) fun _ => ⟨rfl, b, _, d2⟩⟩
        -- state[0] = state[0][1:]
        refine ⟨fun σ H3 => σ = [some (.ref a), some (.int sz), none, none, none] ∧ ∃ (b : Addr) (gs : List Int), gs.length = r.length ∧ DS G H3 a b c gs cs (n + 1), fun σ' H' h' => ⟨r.length, Nat.lt_succ_self _, h'⟩, ?_⟩
        refine ⟨_, rfl, a, _, 0, _, rfl, rfl, SqL.of d2.hs, rfl, 1, rfl, b, _, rfl, SqL.of d2.hb, fun q hq => ?_⟩
        have n1 : a ≠ q := ne_of_none d2.hs hq
        have n3 : c ≠ q := ne_of_none d2.hc hq
        refine ⟨_, rfl, a, _, 0, 0, rfl, rfl, by rw [upd_ne n1]; exact d2.hs, rfl, rfl, q, r, rfl, ?_⟩
        exact ⟨same_mut (d2.same.trans (same_upd hq)) d2.fs, d2.fs, d2.same.free hq, d2.fc, upd_same, by rw [upd_ne n1.symm, upd_same, cut1]; rfl, by rw [upd_ne d2.sc.symm, upd_ne n3]; exact d2.hc, n3.symm, d2.pos⟩
    · rintro σ H2 ⟨rfl, b, gs, d⟩
      refine ⟨_, rfl, a, _, 0, _, rfl, rfl, SqL.of d.hs, rfl, Nat.zero_le _, fun p hp => ?_⟩
      have sp : Same H2 (upd H2 p (.lst [])) := same_upd hp
      have d2 : DS G (upd H2 p (.lst [])) a b c gs cs (n + 1) := ⟨d.same.trans sp, d.fs, d.fb, d.fc, sp _ _ d.hs, sp _ _ d.hb, sp _ _ d.hc, d.ne, d.pos⟩
      cases gs with
      | cons g r =>
        refine ⟨.list ((g :: r).map PyData.int), .list [], .lst (SqL.of d2.hb) (dp_ints _), .lst (SqL.of upd_same) .nil, shaped_ints _, shaped_ints [], true, by simp [PyData.eqv, PyData.eqvAll], iteT ?_⟩
        refine ⟨_, rfl, a, _, 0, _, rfl, rfl, SqL.of d2.hs, rfl, b, _, 0, .int g, rfl, rfl, SqL.of d2.hb, at0, .inl ⟨g, rfl, ?_⟩⟩
        refine ⟨_, rfl, g, sz, rfl, rfl, hs0, ?_⟩
        refine ⟨_, rfl, a, _, 0, _, rfl, rfl, SqL.of d2.hs, rfl, b, _, 0, .int g, rfl, rfl, SqL.of d2.hb, at0, _, rfl, g, sz, rfl, rfl, wide_div (b := 200) hs0 (by omega) (by decide) (by decide), ?_⟩
        refine ⟨_, rfl, a, _, 0, _, rfl, rfl, SqL.of d2.hs, rfl, b, _, 0, 0, rfl, rfl, d2.hb, ix0 (Nat.succ_pos _), ?_⟩
        refine ⟨_, rfl, k _ _ (Int.emod_nonneg _ (by omega)) (Int.emod_lt_of_pos _ hs0) ⟨b, c, g / sz :: r, cs, n + 1, ?_, Nat.succ_le_succ hn⟩⟩
        exact ⟨same_mut d2.same d2.fb, d2.fs, d2.fb, d2.fc, by rw [upd_ne d2.sb]; exact d2.hs, upd_same, by rw [upd_ne d2.ne.symm]; exact d2.hc, d2.ne, d2.pos⟩
      | nil =>
        refine ⟨.list [], .list [], .lst (SqL.of d2.hb) .nil, .lst (SqL.of upd_same) .nil, shaped_ints [], shaped_ints [], false, by simp [PyData.eqv, PyData.eqvAll], iteF ?_⟩
        have hl : (0 : Int) < (cs.length : Int) := by have := d.pos; omega
        have i0 : 0 ≤ ((n + 1 : Nat) : Int) % (cs.length : Int) := Int.emod_nonneg _ (by omega)
        have i1 : ((n + 1 : Nat) : Int) % (cs.length : Int) < (cs.length : Int) := Int.emod_lt_of_pos _ hl
        obtain ⟨j, ej⟩ : ∃ j : Nat, ((n + 1 : Nat) : Int) % (cs.length : Int) = (j : Int) := ⟨(((n + 1 : Nat) : Int) % (cs.length : Int)).toNat, by omega⟩
        have hj : j < cs.length := by omega
        refine ⟨_, rfl, a, _, 1, _, rfl, rfl, SqL.of d2.hs, rfl, _, rfl, a, _, 2, _, rfl, rfl, SqL.of d2.hs, rfl, .inl ⟨_, rfl, ?_⟩⟩
        refine ⟨_, rfl, a, _, 1, _, rfl, rfl, SqL.of d2.hs, rfl, c, _, rfl, .inl (SqL.of d2.hc), _, _, rfl, rfl, by rw [List.length_map]; exact hl, ?_⟩
        refine ⟨c, _, _, .int cs[j], rfl, rfl, SqL.of d2.hc, by rw [List.length_map]; exact at_of ej (by rw [List.getElem?_map, List.getElem?_eq_getElem hj]; rfl), .inl ⟨_, rfl, _, _, rfl, rfl, big1, ?_⟩⟩
        have c0 : 0 ≤ cs[j] % 2147483647 := Int.emod_nonneg _ (by decide)
        have c1 : cs[j] % 2147483647 < 2147483647 := Int.emod_lt_of_pos _ (by decide)
        refine ⟨_, rfl, _, _, rfl, rfl, .inr ⟨by decide, by decide⟩, _, rfl, a, _, 2, _, rfl, rfl, SqL.of d2.hs, rfl, _, _, rfl, rfl, .inr ⟨by decide, by decide⟩, _, _, rfl, rfl, _, _, rfl, rfl, _, _, rfl, rfl, ⟨by decide, by decide, pow_lt _ _ c0 c1 (by omega) (by omega)⟩, .inl ⟨_, rfl, _, _, rfl, rfl, big1, ?_⟩⟩
        have e0 : ∀ z : Int, 0 ≤ z % 2147483647 := fun z => Int.emod_nonneg _ (by decide)
        have e1 : ∀ z : Int, z % 2147483647 < 2147483647 := fun z => Int.emod_lt_of_pos _ (by decide)
        refine ⟨_, rfl, _, _, rfl, rfl, .inr ⟨by decide, by decide⟩, _, rfl, a, _, 2, _, rfl, rfl, SqL.of d2.hs, rfl, _, _, rfl, rfl, .inr ⟨by decide, by decide⟩, _, _, rfl, rfl, _, _, rfl, rfl, _, _, rfl, rfl, ⟨by decide, by decide, pow_lt2 _ _ (e0 _) (e1 _) (by omega) (by omega)⟩, .inl ⟨_, rfl, _, _, rfl, rfl, big2, ?_⟩⟩
        refine ⟨_, rfl, _, sz, rfl, rfl, hs0, ?_⟩
        exact k _ _ (Int.emod_nonneg _ (by omega)) (Int.emod_lt_of_pos _ hs0) ⟨b, c, [], cs, n + 1, d2, Nat.succ_le_succ hn⟩
end

/-! ### ratios -/
section
variable {P : Program} {w : World} {K : PySem.W.Frag} {mg : Str → Option Value} {base : Heap}
/-- a ratio's attributes -/
def rf (t b : Int) : List (Str × V) := [("_top", .int t), ("_bottom", .int b)]
theorem rf_top (t b : Int) : (rf t b).lookup ("_top" : Str) = some (.int t) := by simp [rf, List.lookup]
theorem nTB : (("_bottom" : Str) == ("_top" : Str)) = false := by decide +kernel
theorem nBT : (("_top" : Str) == ("_bottom" : Str)) = false := by decide +kernel
theorem rf_bottom (t b : Int) : (rf t b).lookup ("_bottom" : Str) = some (.int b) := by simp [rf, List.lookup, nTB]
def RatAt (C : Addr) (H : Hp) (p : Addr) (t b : Int) : Prop := ∃ dx, H p = some (.ins C dx (rf t b))
/-- the divisor -/
def dvs (t b : Int) : Int := if b < 0 then -((Nat.gcd t.natAbs b.natAbs : Nat) : Int) else ((Nat.gcd t.natAbs b.natAbs : Nat) : Int)
def lowT (t b : Int) : Int := t.fdiv (dvs t b)
def lowB (t b : Int) : Int := b.fdiv (dvs t b)
def BIG (z : Int) : Prop := z.natAbs < 2 ^ 8000
theorem dvs_ne {t b : Int} (h : b ≠ 0) : dvs t b ≠ 0 := by
  have hg : 0 < Nat.gcd t.natAbs b.natAbs := Nat.gcd_pos_of_pos_right _ (by omega)
  unfold dvs
  split <;> omega
theorem dvs_le {t b : Int} (h : b ≠ 0) : (dvs t b).natAbs ≤ b.natAbs := by
  have hg : Nat.gcd t.natAbs b.natAbs ≤ b.natAbs := Nat.le_of_dvd (by omega) (Nat.gcd_dvd_right _ _)
  unfold dvs
  split <;> omega
/-- Ratio(t, b), b not 0 -/
def spInit (C : Addr) : Sp := fun vs H Q _ => ∃ (p dx : Addr) (t b : Int), vs = [.ref p, .int t, .int b] ∧ H p = some (.ins C dx []) ∧ b ≠ 0 ∧ BIG b ∧ ∀ H', RatAt C H' p (lowT t b) (lowB t b) → (∀ a o, H a = some o → a ≠ p → H' a = some o) → Q .non H'
theorem ok_init (T : Txt K mg) : FnOk P w K mg base CX0 1 T.f_Ratio_init T.d_Ratio_init ["self", "top", "bottom"] (spInit T.f_Ratio) := by
  refine T.F_Ratio_init.ok sc_Ratio_init (fun vs H Q E h => ?_) (fun cdv A outer s H vs Q E hr h => ?_)
  · obtain ⟨p, dx, t, b, rfl, _⟩ := h
    rfl
  · obtain ⟨p, dx, t, b, rfl, hp, hb, hB, k⟩ := h
    refine ⟨_, PSs.nox (pss_cons (ps_if (pt_cmpR op_eq (pv 2) pe_int (nomark _))
      (pss_one ps_never)
      pss_nil)
    (pss_cons (ps_set (i := 3) sc_Ratio_init.nd rfl (Or.inl rfl) (pe_callBfun cr_gcd rfl T.g_gcd (pa_cons (pv 1) (pa_cons (pv 2) pa_nil))))
    (C8.pss_cut (ps_if (pt_cmpR op_lt (pv 2) pe_int (nomark _))
      (pss_one (ps_set (i := 3) sc_Ratio_init.nd rfl (Or.inl rfl) (pe_un un_neg (pv 3))))
      pss_nil)
    (pss_cons (ps_fld (pv 0) (pe_op op_fdivZ (pv 1) (pv 3)) rfl)
    (pss_one (ps_fld (pv 0) (pe_op op_fdivZ (pv 2) (pv 3)) rfl)))))), ?_⟩
    refine ⟨_, rfl, rfl, _, rfl, ite2 (fun h0 => ?_) fun _ => ?_⟩
    · have e : V.int b = V.int 0 := of_decide_eq_true h0
      injection e with e
      exact absurd e hb
    refine ⟨_, rfl, _, rfl, t, b, rfl, ?_⟩
    refine ⟨fun σ H' => σ = [some (.ref p), some (.int t), some (.int b), some (.int (dvs t b))] ∧ H' = H, ?_, ?_⟩
    · refine ⟨_, rfl, b, 0, rfl, rfl, _, rfl, ite2 (fun h0 => ?_) fun h0 => ?_⟩
      · have h0' : b < 0 := of_decide_eq_true h0
        refine ⟨_, rfl, _, rfl, ?_, rfl⟩
        unfold dvs
        rw [if_pos h0']
        rfl
      · have h0' : ¬ b < 0 := fun q => h0 (decide_eq_true q)
        refine ⟨?_, rfl⟩
        unfold dvs
        rw [if_neg h0']
        rfl
    · rintro σ H' ⟨rfl, rfl⟩
      have hz : CDivZ t (dvs t b) := cdivZ (dvs_ne hb) (Nat.lt_of_le_of_lt (dvs_le hb) hB)
      have hz2 : CDivZ b (dvs t b) := cdivZ (dvs_ne hb) (Nat.lt_of_le_of_lt (dvs_le hb) hB)
      refine ⟨_, rfl, _, rfl, t, _, rfl, rfl, hz, _, rfl, p, T.f_Ratio, dx, [], rfl, hp, T.cl_Ratio, T.na_Ratio_top, (by show 0 < 1000; decide), ?_⟩
      refine ⟨_, rfl, _, rfl, b, _, rfl, rfl, hz2, _, rfl, p, T.f_Ratio, dx, _, rfl, upd_same, T.cl_Ratio, T.na_Ratio_bottom, (by show 1 < 1000; decide), ?_⟩
      refine k _ ⟨dx, Eq.trans upd_same ?_⟩ fun a o e ha => by rw [upd_ne ha, upd_ne ha]; exact e
      show some (HO.ins T.f_Ratio dx (if ("_top" : Str) = "_bottom" then _ else _)) = _
      rw [if_neg (by decide +kernel)]
      rfl
end

/-! ### texts of numbers and of ratios -/
def dec (n : Int) : Str := Str.ofString (toString n)
theorem tl_dec (n : Int) : TL.tl (dec n) = if n < 0 then 45 :: TL.numL n.natAbs else TL.numL n.natAbs := by
  cases n with
  | ofNat m => exact TL.tl_num m
  | negSucc m =>
    rw [if_pos (Int.negSucc_lt_zero m)]
    show TL.tl (Str.ofString ("-" ++ Nat.repr (m + 1))) = 45 :: TL.numL (m + 1)
    have h := TL.tl_num (m + 1)
    rw [TL.tl_ofString] at h ⊢
    rw [String.toList_append, List.map_append]
    have h' : (Nat.repr (m + 1)).toList.map Char.toNat = TL.numL (m + 1) := h
    rw [h']
    rfl
theorem dec_nn {n : Int} (h : ¬ n < 0) : TL.tl (dec n) = TL.numL n.natAbs := (tl_dec n).trans (if_neg h)
theorem dec_neg {n : Int} (h : n < 0) : TL.tl (dec n) = 45 :: TL.numL n.natAbs := (tl_dec n).trans (if_pos h)
theorem dec_len {n : Int} {k : Nat} (hk : 0 < k) (h : n.natAbs < 10 ^ k) : (dec n).length ≤ k + 1 := by
  rw [TL.len_tl, tl_dec]
  have := TL.numL_len hk h
  split
  · rw [List.length_cons]; omega
  · omega
/-- a number as it may stand before or behind a stroke -/
def numOk (l : List Nat) : Bool := decide (1 ≤ l.length ∧ l.length ≤ 9) && (!(decide (l.head? = some 48) && !decide (l = [48])) && l.all fun c => decide (48 ≤ c ∧ c ≤ 57))
def stripL : List Nat → List Nat
  | [] => []
  | c :: r => if c = 45 then r else c :: r
def negL (l : List Nat) : Bool := decide (l.head? = some 45)
def frontL (l : List Nat) : List Nat := (stripL l).takeWhile fun c => c != 47
def backL (l : List Nat) : List Nat := match (stripL l).dropWhile fun c => c != 47 with
  | [] => [49]
  | _ :: b => b
def goodL (l : List Nat) : Bool := numOk (frontL l) && (numOk (backL l) && !decide (backL l = [48]))
def topL (l : List Nat) : Int := if negL l then -((NumText.digitsVal (frontL l) : Nat) : Int) else ((NumText.digitsVal (frontL l) : Nat) : Int)
def botL (l : List Nat) : Int := ((NumText.digitsVal (backL l) : Nat) : Int)
theorem numOk_len {l : List Nat} (h : numOk l = true) : 1 ≤ l.length ∧ l.length ≤ 9 := of_decide_eq_true (Bool.and_eq_true_iff.mp h).1
theorem numOk_all {l : List Nat} (h : numOk l = true) : NumText.AllDigits l := fun c hc => of_decide_eq_true (List.all_eq_true.mp (Bool.and_eq_true_iff.mp (Bool.and_eq_true_iff.mp h).2).2 c hc)
theorem fold_ge (l : List Nat) : ∀ a : Nat, a ≤ l.foldl (fun acc c => acc * 10 + (c - 48)) a := by
  induction l with
  | nil => intro a; exact Nat.le_refl _
  | cons c r ih =>
    intro a
    have := ih (a * 10 + (c - 48))
    show a ≤ r.foldl _ (a * 10 + (c - 48))
    omega
theorem fold_lt (l : List Nat) (h : NumText.AllDigits l) : ∀ a : Nat, l.foldl (fun acc c => acc * 10 + (c - 48)) a < (a + 1) * 10 ^ l.length := by
  induction l with
  | nil => intro a; simp
  | cons c r ih =>
    intro a
    have hc := h.head
    have h1 := ih h.tail (a * 10 + (c - 48))
    show r.foldl _ (a * 10 + (c - 48)) < (a + 1) * 10 ^ (r.length + 1)
    have h2 : (a * 10 + (c - 48) + 1) * 10 ^ r.length ≤ ((a + 1) * 10) * 10 ^ r.length := Nat.mul_le_mul_right _ (by omega)
    have h3 : ((a + 1) * 10) * 10 ^ r.length = (a + 1) * 10 ^ (r.length + 1) := by rw [Nat.pow_succ, Nat.mul_assoc, Nat.mul_comm 10]
    omega
theorem val_lt {l : List Nat} (h : numOk l = true) : NumText.digitsVal l < 10 ^ 9 := by
  have h1 := fold_lt l (numOk_all h) 0
  have h2 : (0 + 1) * 10 ^ l.length ≤ 10 ^ 9 := by
    rw [Nat.zero_add, Nat.one_mul]
    exact Nat.pow_le_pow_right (by decide) (numOk_len h).2
  exact Nat.lt_of_lt_of_le h1 h2
theorem val_ne {l : List Nat} (h : numOk l = true) (h0 : l ≠ [48]) : NumText.digitsVal l ≠ 0 := by
  cases l with
  | nil => exact absurd (numOk_len h).1 (by decide)
  | cons c r =>
    have hc := (numOk_all h).head
    have h1 : c ≠ 48 := fun e => by
      have h2 := (Bool.and_eq_true_iff.mp (Bool.and_eq_true_iff.mp h).2).1
      rw [e, decide_eq_true (show (48 :: r).head? = some 48 from rfl), Bool.true_and, Bool.not_not] at h2
      exact h0 (by rw [e]; exact of_decide_eq_true h2)
    have h3 := fold_ge r (0 * 10 + (c - 48))
    show r.foldl _ (0 * 10 + (c - 48)) ≠ 0
    omega
theorem bot_ne {l : List Nat} (h : goodL l = true) : botL l ≠ 0 := by
  have h1 := (Bool.and_eq_true_iff.mp (Bool.and_eq_true_iff.mp h).2)
  have h2 : backL l ≠ [48] := by simpa using h1.2
  have := val_ne h1.1 h2
  unfold botL
  omega
theorem bot_big {l : List Nat} (h : goodL l = true) : BIG (botL l) := by
  have h1 := (Bool.and_eq_true_iff.mp (Bool.and_eq_true_iff.mp h).2)
  have := val_lt h1.1
  show (botL l).natAbs < 2 ^ 8000
  unfold botL
  rw [Int.natAbs_natCast]
  exact Nat.lt_of_lt_of_le this (by decide +kernel)
theorem reads {l : List Nat} (h : numOk l = true) : PySem.intText? ⟨l.toArray⟩ = some ((NumText.digitsVal l : Nat) : Int) := by
  have hl := numOk_len h
  have := PySem.intText_digits (x := ⟨l.toArray⟩) (by show NumText.AllDigits l; exact numOk_all h) (by show l ≠ []; intro e; rw [e] at hl; exact absurd hl.1 (by decide)) (by show l.toArray.size ≤ 4300; rw [List.size_toArray]; omega)
  exact this
/-! the text's methods -/
def dash : Str := "-"
def stroke : Str := "/"
theorem tl_dash : TL.tl dash = [45] := by decide +kernel
theorem tl_stroke : TL.tl stroke = [47] := by decide +kernel
theorem dash_eq : dash = ⟨#[45]⟩ := TL.ext_tl tl_dash
theorem strip_eq (z : Str) : Txt.removeprefix z dash = ⟨(stripL (TL.tl z)).toArray⟩ := by
  rw [← TL.mk_tl z, dash_eq]
  generalize TL.tl z = l
  cases l with
  | nil => rfl
  | cons c r =>
    unfold Txt.removeprefix stripL
    by_cases h : c = 45
    · subst h
      have e : Builtin.Str.subAt ⟨(45 :: r).toArray⟩ ⟨#[45]⟩ 0 = true := by
        show ((45 :: r).toArray.extract 0 (0 + 1) == #[45]) = true
        simp
      rw [e, if_pos rfl]
      show (if ((⟨(45 :: r).toArray⟩ : Str).length - 1 == (⟨(45 :: r).toArray⟩ : Str).length) = true then _ else _) = _
      rw [if_neg (by
        show ¬ (((45 :: r).toArray.size - 1 == (45 :: r).toArray.size) = true)
        rw [List.size_toArray, List.length_cons]
        simp)]
      refine TL.ext_tl ?_
      show TL.tl (Builtin.Str.strSub ⟨(45 :: r).toArray⟩ 1 (⟨(45 :: r).toArray⟩ : Str).length) = _
      rw [TL.tl_strSub_end]
      rfl
    · have e : Builtin.Str.subAt ⟨(c :: r).toArray⟩ ⟨#[45]⟩ 0 = false := by
        show ((c :: r).toArray.extract 0 (0 + 1) == #[45]) = false
        simp [h]
      rw [e, if_neg Bool.false_ne_true]
      show (⟨(c :: r).toArray⟩ : Str) = _
      simp [h]
theorem starts_eq (z : Str) : Txt.startswith z dash = negL (TL.tl z) := by
  rw [← TL.mk_tl z, dash_eq]
  generalize TL.tl z = l
  unfold Txt.startswith negL
  cases l with
  | nil => rfl
  | cons c r =>
    have e1 : decide (0 + (⟨#[45]⟩ : Str).length ≤ (⟨(c :: r).toArray⟩ : Str).length) = true := by
      refine decide_eq_true ?_
      show 0 + 1 ≤ (c :: r).toArray.size
      rw [List.size_toArray, List.length_cons]
      omega
    rw [e1, Bool.true_and]
    show ((c :: r).toArray.extract 0 (0 + 1) == #[45]) = decide (some c = some 45)
    by_cases h : c = 45
    · subst h; simp
    · simp [h]
theorem span_none {l : List Nat} (h : 47 ∉ l) : l.takeWhile (fun c => c != 47) = l ∧ l.dropWhile (fun c => c != 47) = [] := by
  induction l with
  | nil => exact ⟨rfl, rfl⟩
  | cons c r ih =>
    have h1 : c ≠ 47 := fun e => h (by rw [e]; exact List.mem_cons_self)
    have := ih fun q => h (List.mem_cons_of_mem _ q)
    rw [List.takeWhile_cons, List.dropWhile_cons]
    simp [h1, this]
theorem span_at {f b : List Nat} (h : 47 ∉ f) : (f ++ 47 :: b).takeWhile (fun c => c != 47) = f ∧ (f ++ 47 :: b).dropWhile (fun c => c != 47) = 47 :: b := by
  induction f with
  | nil => exact ⟨by simp, by simp⟩
  | cons c r ih =>
    have h1 : c ≠ 47 := fun e => h (by rw [e]; exact List.mem_cons_self)
    have := ih fun q => h (List.mem_cons_of_mem _ q)
    rw [List.cons_append, List.takeWhile_cons, List.dropWhile_cons]
    simp [h1, this]
/-- the text cut at its first stroke -/
theorem cut_eq (l : List Nat) : (∃ b, l.dropWhile (fun c => c != 47) = 47 :: b ∧ Txt.partition ⟨l.toArray⟩ stroke = (⟨(l.takeWhile fun c => c != 47).toArray⟩, stroke, ⟨b.toArray⟩)) ∨
    (l.dropWhile (fun c => c != 47) = [] ∧ l.takeWhile (fun c => c != 47) = l ∧ Txt.partition ⟨l.toArray⟩ stroke = (⟨l.toArray⟩, Str.empty, Str.empty)) := by
  by_cases h : 47 ∈ l
  · obtain ⟨f, b, e, hf⟩ : ∃ f b, l = f ++ 47 :: b ∧ 47 ∉ f := by
      induction l with
      | nil => cases h
      | cons c r ih =>
        by_cases hc : c = 47
        · exact ⟨[], r, by rw [hc]; rfl, by simp⟩
        · rcases List.mem_cons.mp h with h | h
          · exact absurd h.symm hc
          · obtain ⟨f, b, e, hf⟩ := ih h
            refine ⟨c :: f, b, by rw [e]; rfl, fun q => ?_⟩
            rcases List.mem_cons.mp q with q | q
            · exact hc q.symm
            · exact hf q
    obtain ⟨e1, e2⟩ := span_at (b := b) hf
    left
    refine ⟨b, by rw [e, e2], ?_⟩
    rw [e, e1]
    have e3 : (⟨(f ++ 47 :: b).toArray⟩ : Str) = ⟨f.toArray⟩ ++ stroke ++ ⟨b.toArray⟩ := TL.ext_tl (by rw [TL.tl_append, TL.tl_append, tl_stroke, List.append_assoc]; rfl)
    rw [e3]
    exact TL.partition_app tl_stroke hf
  · obtain ⟨e1, e2⟩ := span_none h
    exact .inr ⟨e2, e1, TL.partition_none tl_stroke h⟩
/-! a ratio's text -/
def ratText (t b : Int) : Str := if b = 1 then dec t else dec t ++ stroke ++ dec b
theorem numL_head {n : Nat} (h : (TL.numL n).head? = some 48) : TL.numL n = [48] := by
  induction n using Nat.strongRecOn with
  | _ n ih =>
    by_cases hn : n < 10
    · rw [TL.numL_lt hn] at h ⊢
      have : 48 + n = 48 := Option.some.inj h
      rw [this]
    · rw [TL.numL_step (by omega)] at h
      have h1 : (TL.numL (n / 10)).head? = some 48 := by
        cases e : TL.numL (n / 10) with
        | nil => exact absurd e (TL.numL_ne _)
        | cons c r =>
          rw [e] at h
          exact h
      have h2 := ih (n / 10) (by omega) h1
      have h3 := congrArg NumText.digitsVal h2
      rw [TL.numL_val] at h3
      have h4 : NumText.digitsVal [48] = 0 := rfl
      omega
theorem numOk_num {n : Nat} (h : n < 10 ^ 9) : numOk (TL.numL n) = true := by
  unfold numOk
  have h1 : 1 ≤ (TL.numL n).length ∧ (TL.numL n).length ≤ 9 := by
    refine ⟨?_, TL.numL_len (by decide) h⟩
    cases e : TL.numL n with
    | nil => exact absurd e (TL.numL_ne n)
    | cons c r => exact Nat.succ_pos _
  have h2 : (TL.numL n).all (fun c => decide (48 ≤ c ∧ c ≤ 57)) = true := List.all_eq_true.mpr fun c hc => decide_eq_true (TL.numL_digits n c hc)
  rw [decide_eq_true h1, h2, Bool.true_and, Bool.and_true]
  by_cases h3 : (TL.numL n).head? = some 48
  · rw [decide_eq_true (numL_head h3), Bool.not_true, Bool.and_false, Bool.not_false]
  · rw [decide_eq_false h3, Bool.false_and, Bool.not_false]
theorem num_no47 (n : Nat) : 47 ∉ TL.numL n := TL.numL_free (.inl (by decide))
theorem strip_num {n : Nat} {r : List Nat} : stripL (TL.numL n ++ r) = TL.numL n ++ r ∧ negL (TL.numL n ++ r) = false := by
  cases e : TL.numL n with
  | nil => exact absurd e (TL.numL_ne n)
  | cons c q =>
    have hc : c ≠ 45 := fun z => TL.numL_free (n := n) (s := 45) (.inl (by decide)) (by rw [e, z]; exact List.mem_cons_self)
    refine ⟨if_neg hc, decide_eq_false fun z => hc (Option.some.inj z)⟩
/-- the text of a ratio with small numbers is read back -/
theorem text_back {t b : Int} (ht : t.natAbs < 10 ^ 9) (hb0 : 0 < b) (hb : b.natAbs < 10 ^ 9) : goodL (TL.tl (ratText t b)) = true ∧ topL (TL.tl (ratText t b)) = t ∧ botL (TL.tl (ratText t b)) = b := by
  have key : ∀ r : List Nat, TL.tl (ratText t b) = TL.tl (dec t) ++ r → stripL (TL.tl (ratText t b)) = TL.numL t.natAbs ++ r ∧ negL (TL.tl (ratText t b)) = decide (t < 0) := by
    intro r e
    rw [e]
    by_cases h : t < 0
    · rw [dec_neg h, decide_eq_true h]
      exact ⟨rfl, rfl⟩
    · rw [dec_nn h, decide_eq_false h]
      exact strip_num
  have fin : frontL (TL.tl (ratText t b)) = TL.numL t.natAbs → backL (TL.tl (ratText t b)) = TL.numL b.natAbs → negL (TL.tl (ratText t b)) = decide (t < 0) → goodL (TL.tl (ratText t b)) = true ∧ topL (TL.tl (ratText t b)) = t ∧ botL (TL.tl (ratText t b)) = b := by
    intro e1 e2 e3
    refine ⟨?_, ?_, ?_⟩
    · unfold goodL
      rw [e1, e2, numOk_num ht, numOk_num hb, Bool.true_and, Bool.true_and]
      have : TL.numL b.natAbs ≠ [48] := fun q => by
        have := congrArg NumText.digitsVal q
        rw [TL.numL_val] at this
        have h4 : NumText.digitsVal [48] = 0 := rfl
        omega
      rw [decide_eq_false this, Bool.not_false]
    · unfold topL
      rw [e1, e3, TL.numL_val]
      by_cases h : t < 0
      · rw [decide_eq_true h, if_pos rfl]; omega
      · rw [decide_eq_false h, if_neg Bool.false_ne_true]; omega
    · unfold botL
      rw [e2, TL.numL_val]
      omega
  by_cases h1 : b = 1
  · have e : TL.tl (ratText t b) = TL.tl (dec t) ++ [] := by
      unfold ratText
      rw [if_pos h1, List.append_nil]
    obtain ⟨k1, k2⟩ := key [] e
    rw [List.append_nil] at k1
    obtain ⟨s1, s2⟩ := span_none (num_no47 t.natAbs)
    refine fin ?_ ?_ k2
    · unfold frontL
      rw [k1, s1]
    · unfold backL
      rw [k1, s2, h1]
      rfl
  · have e : TL.tl (ratText t b) = TL.tl (dec t) ++ (47 :: TL.numL b.natAbs) := by
      unfold ratText
      rw [if_neg h1, TL.tl_append, TL.tl_append, tl_stroke, dec_nn (n := b) (by omega), List.append_assoc]
      rfl
    obtain ⟨k1, k2⟩ := key _ e
    obtain ⟨s1, s2⟩ := span_at (b := TL.numL b.natAbs) (num_no47 t.natAbs)
    refine fin ?_ ?_ k2
    · unfold frontL
      rw [k1, s1]
    · unfold backL
      rw [k1, s2]
theorem ratText_len {t b : Int} (ht : t.natAbs < 10 ^ 64) (hb : b.natAbs < 10 ^ 64) : (ratText t b).length ≤ 200 := by
  have h1 := dec_len (by decide) ht
  have h2 := dec_len (by decide) hb
  unfold ratText
  split
  · omega
  · rw [TL.len_tl, TL.tl_append, TL.tl_append, tl_stroke, List.length_append, List.length_append, ← TL.len_tl, ← TL.len_tl]
    simp only [List.length_cons, List.length_nil]
    omega

/-! ### texts of a bounded length, of plain signs -/
section
variable {P : Program} {w : World} {K : PySem.W.Frag} {mg : Str → Option Value} {base : Heap}
/-- at most n signs, plain ones -/
def Wd (n : Nat) (z : Str) : Prop := z.length ≤ n ∧ ∀ c ∈ TL.tl z, c < 128
instance (n : Nat) (z : Str) : Decidable (Wd n z) := inferInstanceAs (Decidable (_ ∧ _))
theorem Wd.mono {n m : Nat} {z : Str} (h : Wd n z) (hn : n ≤ m) : Wd m z := ⟨Nat.le_trans h.1 hn, h.2⟩
theorem Wd.size {n : Nat} {z : Str} (h : Wd n z) (hn : n ≤ 100000) : z.length ≤ sizeLine := Nat.le_trans h.1 (Nat.le_trans hn (by decide))
theorem Wd.add {n m : Nat} {y z : Str} (h : Wd n y) (h' : Wd m z) : Wd (n + m) (y ++ z) := by
  refine ⟨by rw [Str.length_append]; exact Nat.add_le_add h.1 h'.1, fun c hc => ?_⟩
  rw [TL.tl_append] at hc
  rcases List.mem_append.mp hc with hc | hc
  · exact h.2 c hc
  · exact h'.2 c hc
theorem Wd.cut {n : Nat} {z : Str} (h : Wd n z) (lo hi : Option Int) : Wd n (cutS z lo hi) :=
  ⟨Nat.le_trans (cutS_length z lo hi) h.1, fun c hc => h.2 c (List.mem_of_mem_drop (List.mem_of_mem_take (show c ∈ (z.cps.toList.drop (HT.sIx z.length 0 lo)).take (HT.sIx z.length z.length hi - HT.sIx z.length 0 lo) from hc)))⟩
theorem Wd.one {c : Nat} (h : c < 128) : Wd 1 ⟨#[c]⟩ := ⟨Nat.le_refl _, fun d hd => by rw [List.mem_singleton.mp hd]; exact h⟩
theorem len_sum {n : Nat} : ∀ (zs : List Str), (∀ z ∈ zs, Wd n z) → (zs.map (·.length)).sum ≤ n * zs.length
  | [], _ => Nat.zero_le _
  | z :: r, h => by
    have := len_sum r fun y hy => h y (List.mem_cons_of_mem _ hy)
    have h1 := (h z List.mem_cons_self).1
    rw [List.map_cons, List.sum_cons, List.length_cons, Nat.mul_succ]
    omega
theorem Wd.join {n : Nat} : ∀ (zs : List Str), (∀ z ∈ zs, Wd n z) → Wd (n * zs.length) (Txt.join ⟨#[]⟩ zs) := by
  intro zs h
  rw [TL.join_eq]
  induction zs with
  | nil => exact ⟨Nat.zero_le _, fun c hc => by cases hc⟩
  | cons a r ih =>
    cases r with
    | nil =>
      refine (h a List.mem_cons_self).mono ?_
      show n ≤ n * 1
      omega
    | cons b q =>
      have h1 := (h a List.mem_cons_self)
      have h2 := ih fun z hz => h z (List.mem_cons_of_mem _ hz)
      show Wd _ (a ++ (⟨#[]⟩ : Str) ++ Str.join ⟨#[]⟩ (b :: q))
      have h0 : Wd 0 ⟨#[]⟩ := ⟨Nat.le_refl _, fun c hc => by cases hc⟩
      refine ((h1.add h0).add h2).mono ?_
      rw [List.length_cons (a := a), Nat.mul_succ]
      omega
theorem dec_digits {n : Int} : ∀ c ∈ TL.tl (dec n), c < 128 := by
  intro c hc
  rw [tl_dec] at hc
  split at hc
  · rcases List.mem_cons.mp hc with hc | hc
    · rw [hc]; decide
    · have := TL.numL_digits _ c hc; omega
  · have := TL.numL_digits _ c hc; omega
theorem at1 {α : Type} {x y : α} {xs : List α} : atI (x :: y :: xs) 1 = some y := atI_nat (j := 1) rfl
/-- one of some texts -/
theorem strs_at {n : Nat} {zs : List Str} {r : Int} (h0 : 0 ≤ r) (h1 : r < (zs.length : Int)) (h : ∀ z ∈ zs, Wd n z) : ∃ z, atI (zs.map V.str) r = some (.str z) ∧ Wd n z := by
  obtain ⟨j, rfl⟩ : ∃ j : Nat, r = (j : Int) := ⟨r.toNat, by omega⟩
  have hj : j < zs.length := by omega
  exact ⟨zs[j], atI_nat (by rw [List.getElem?_map, List.getElem?_eq_getElem hj]; rfl), h _ (List.getElem_mem hj)⟩
theorem sign_at {n : Nat} {z : Str} {r : Int} (h0 : 0 ≤ r) (h1 : r < (z.length : Int)) (h : Wd n z) : ∃ c, atI z.cps.toList r = some c ∧ c < 128 := by
  have hl := TL.len_tl z
  obtain ⟨j, rfl⟩ : ∃ j : Nat, r = (j : Int) := ⟨r.toNat, by omega⟩
  have hj : j < z.cps.toList.length := by
    have : (TL.tl z).length = z.cps.toList.length := rfl
    omega
  exact ⟨z.cps.toList[j], atI_nat (List.getElem?_eq_getElem hj), h.2 _ (List.getElem_mem hj)⟩
theorem shaped_signs (l : List Nat) (h : ∀ c ∈ l, c < 128) : SeqAt.shaped (.list ((l.map fun c => (⟨#[c]⟩ : Str)).map PyData.str)) = true := by
  have h1 : PyData.canLayAll0 ((l.map fun c => (⟨#[c]⟩ : Str)).map PyData.str) = true := by
    induction l with
    | nil => rfl
    | cons a r ih =>
      have ha := h a List.mem_cons_self
      have := ih fun c hc => h c (List.mem_cons_of_mem _ hc)
      show (PyData.canLay0 (.str ⟨#[a]⟩) && PyData.canLayAll0 _) = true
      rw [this, Bool.and_true]
      simp only [PyData.canLay0, PyData.strOk]
      simp
      omega
  have h2 : PyData.depthAll ((l.map fun c => (⟨#[c]⟩ : Str)).map PyData.str) = 0 := by
    induction l with
    | nil => rfl
    | cons a r ih =>
      have hh : PyData.canLayAll0 ((r.map fun c => (⟨#[c]⟩ : Str)).map PyData.str) = true := by
        have : (PyData.canLay0 (.str ⟨#[a]⟩) && PyData.canLayAll0 ((r.map fun c => (⟨#[c]⟩ : Str)).map PyData.str)) = true := h1
        exact (Bool.and_eq_true_iff.mp this).2
      have := ih (fun c hc => h c (List.mem_cons_of_mem _ hc)) hh
      show max (PyData.depth (.str ⟨#[a]⟩)) (PyData.depthAll _) = 0
      rw [this]
      simp [PyData.depth]
  unfold SeqAt.shaped
  rw [show PyData.canLay0 (.list ((l.map fun c => (⟨#[c]⟩ : Str)).map PyData.str)) = true by simp only [PyData.canLay0]; exact h1, Bool.true_and]
  refine decide_eq_true ?_
  simp only [PyData.depth]
  rw [h2]
  decide
end

section
variable {P : Program} {w : World} {K : PySem.W.Frag} {mg : Str → Option Value} {base : Heap}
/-- what stands behind and is no list is known from then on -/
theorem DSt.grow {G H : Hp} {s : Addr} {m : Nat} (d : DSt G H s m) : ∃ G', DSt G' H s m ∧ Same G G' ∧ ∀ a o, H a = some o → (∀ xs, o ≠ .lst xs) → G' a = some o := by
  obtain ⟨b, c, gs, cs, n, d, hn⟩ := d
  have gl : ∀ a xs, G a = none → H a = some (.lst xs) → (match G a with | some o => some o | none => match H a with | some (.lst _) => none | x => x) = none := fun a xs e1 e2 => by rw [e1, e2]
  refine ⟨fun a => match G a with | some o => some o | none => match H a with | some (.lst _) => none | x => x, ⟨b, c, gs, cs, n, ⟨fun a o e => ?_, gl _ _ d.fs d.hs, gl _ _ d.fb d.hb, gl _ _ d.fc d.hc, d.hs, d.hb, d.hc, d.ne, d.pos⟩, hn⟩, fun a o e => ?_, fun a o e ne => ?_⟩
  · cases eg : G a with
    | some o' =>
      simp only [eg] at e
      rw [← e]
      exact d.same a _ eg
    | none =>
      simp only [eg] at e
      cases eh : H a with
      | none => rw [eh] at e; cases e
      | some o' =>
        rw [eh] at e
        cases o' <;> first | exact e | cases e
  · show (match G a with | some o => some o | none => match H a with | some (.lst _) => none | x => x) = some o
    rw [e]
  · show (match G a with | some o => some o | none => match H a with | some (.lst _) => none | x => x) = some o
    cases eg : G a with
    | some o' =>
      have := d.same a _ eg
      rw [e] at this
      exact this.symm
    | none =>
      simp only
      rw [e]
      cases o with
      | lst xs => exact absurd rfl (ne xs)
      | _ => rfl
end

/-! ### the fifteen classes -/
section
variable {P : Program} {w : World} {K : PySem.W.Frag} {mg : Str → Option Value} {base : Heap}
def Cs (T : Txt K mg) : List Addr := [T.f_BadName, T.f_DuplicateName, T.f_UnknownName, T.f_BadCount, T.f_OutOfRange, T.f_BadLine, T.f_BadText, T.f_HasRound, T.f_UselessLink, T.f_BadJoint, T.f_BadWay, T.f_NoWay, T.f_NotBuilding, T.f_NoHarm, T.f_NothingToUndo]
theorem cs_all (T : Txt K mg) {i : Nat} {D : Addr} (h : (Cs T)[i]? = some D) : ErrC K D T.f_ExtralinkError := by
  have hi : i < 15 := (List.getElem?_eq_some_iff.mp h).1
  match i, hi, h with
  | 0, _, h => exact Option.some.inj h ▸ T.er_BadName
  | 1, _, h => exact Option.some.inj h ▸ T.er_DuplicateName
  | 2, _, h => exact Option.some.inj h ▸ T.er_UnknownName
  | 3, _, h => exact Option.some.inj h ▸ T.er_BadCount
  | 4, _, h => exact Option.some.inj h ▸ T.er_OutOfRange
  | 5, _, h => exact Option.some.inj h ▸ T.er_BadLine
  | 6, _, h => exact Option.some.inj h ▸ T.er_BadText
  | 7, _, h => exact Option.some.inj h ▸ T.er_HasRound
  | 8, _, h => exact Option.some.inj h ▸ T.er_UselessLink
  | 9, _, h => exact Option.some.inj h ▸ T.er_BadJoint
  | 10, _, h => exact Option.some.inj h ▸ T.er_BadWay
  | 11, _, h => exact Option.some.inj h ▸ T.er_NoWay
  | 12, _, h => exact Option.some.inj h ▸ T.er_NotBuilding
  | 13, _, h => exact Option.some.inj h ▸ T.er_NoHarm
  | 14, _, h => exact Option.some.inj h ▸ T.er_NothingToUndo
theorem kit_ij (T : Txt K mg) {i j : Nat} {D C : Addr} (hi : (Cs T)[i]? = some D) (hj : (Cs T)[j]? = some C) : PySem.W.kitOne K (.ref D) (.ref C) = some (decide (i = j)) := by
  have eD := cs_all T hi
  have eC := cs_all T hj
  have nd : (T.f_ExtralinkError :: Cs T).Nodup := T.nq_all
  obtain ⟨n1, n2⟩ := List.nodup_cons.mp nd
  by_cases h : i = j
  · subst h
    rw [hi] at hj
    obtain rfl : D = C := Option.some.inj hj
    rw [decide_eq_true rfl]
    exact kit_self
  · rw [decide_eq_false h]
    have hne : D ≠ C := fun e => by
      subst e
      obtain ⟨hi1, hi2⟩ := List.getElem?_eq_some_iff.mp hi
      obtain ⟨hj1, hj2⟩ := List.getElem?_eq_some_iff.mp hj
      exact h ((List.getElem?_inj hi1 n2).mp (hi.trans hj.symm))
    have hE : C ≠ T.f_ExtralinkError := fun e => n1 (by rw [← e]; exact List.mem_of_getElem? hj)
    refine kit_sub eC.ic eC.ty ?_ fun z => hne (Value.ref.inj z)
    show PySem.W.mroIn K D (.ref C) = some false
    rw [eD.sub]
    congr 1
    simp [List.contains_cons]
    exact ⟨fun e => hne e.symm, fun e => hE e⟩
theorem kit_E (T : Txt K mg) {i : Nat} {D : Addr} (hi : (Cs T)[i]? = some D) : PySem.W.kitOne K (.ref D) (.ref T.f_ExtralinkError) = some true := by
  have eD := cs_all T hi
  have nd : (T.f_ExtralinkError :: Cs T).Nodup := T.nq_all
  obtain ⟨n1, n2⟩ := List.nodup_cons.mp nd
  have hE : D ≠ T.f_ExtralinkError := fun e => n1 (by rw [← e]; exact List.mem_of_getElem? hi)
  refine kit_sub T.xi_ExtralinkError T.xt_ExtralinkError ?_ fun z => hE (Value.ref.inj z)
  show PySem.W.mroIn K D (.ref T.f_ExtralinkError) = some true
  rw [eD.sub]
  congr 1
  simp [List.contains_cons]
theorem kit_V (T : Txt K mg) {i : Nat} {D : Addr} (hi : (Cs T)[i]? = some D) : PySem.W.kitOne K (.ref D) (.type "ValueError") = some true := by
  refine kit_vty ?_ (by decide +kernel)
  rw [(cs_all T hi).sub]
  congr 1
def spKinds (T : Txt K mg) : Sp := fun vs H Q _ => ∃ (a D : Addr) (i : Nat), vs = [.ref a] ∧ (Cs T)[i]? = some D ∧ ErrV H a D ∧ ∀ p H', H p = none → Same H H' → H' p = some (.lst ((List.range 15).map fun j => V.bl (decide (i = j)))) → Q (.ref p) H'
theorem ok_kinds (T : Txt K mg) : FnOk P w K mg base CX0 1 T.f_kinds T.d_kinds ["_law_e"] (spKinds T) := by
  refine T.F_kinds.ok sc_kinds (fun vs H Q E h => ?_) (fun cdv A outer s H vs Q E hr h => ?_)
  · obtain ⟨a, D, i, rfl, _⟩ := h
    rfl
  · obtain ⟨a, D, i, rfl, hi, he, k⟩ := h
    refine ⟨_, (pss_cons (ps_set (i := 1) sc_kinds.nd rfl (Or.inl rfl) (pe_lst (pa_cons (pe_callB call_isV (by rfl) T.n_isinstance (by decide +kernel) (pa_cons (pv 0) (pa_cons (pe_glob (v := .ref T.f_BadName) rfl T.m_BadName rfl) pa_nil))) (pa_cons (pe_callB call_isV (by rfl) T.n_isinstance (by decide +kernel) (pa_cons (pv 0) (pa_cons (pe_glob (v := .ref T.f_DuplicateName) rfl T.m_DuplicateName rfl) pa_nil))) (pa_cons (pe_callB call_isV (by rfl) T.n_isinstance (by decide +kernel) (pa_cons (pv 0) (pa_cons (pe_glob (v := .ref T.f_UnknownName) rfl T.m_UnknownName rfl) pa_nil))) pa_nil)))))
    (pss_cons (ps_set (i := 1) sc_kinds.nd rfl (Or.inl rfl) (pe_op op_cat (pv 1) (pe_lst (pa_cons (pe_callB call_isV (by rfl) T.n_isinstance (by decide +kernel) (pa_cons (pv 0) (pa_cons (pe_glob (v := .ref T.f_BadCount) rfl T.m_BadCount rfl) pa_nil))) (pa_cons (pe_callB call_isV (by rfl) T.n_isinstance (by decide +kernel) (pa_cons (pv 0) (pa_cons (pe_glob (v := .ref T.f_OutOfRange) rfl T.m_OutOfRange rfl) pa_nil))) (pa_cons (pe_callB call_isV (by rfl) T.n_isinstance (by decide +kernel) (pa_cons (pv 0) (pa_cons (pe_glob (v := .ref T.f_BadLine) rfl T.m_BadLine rfl) pa_nil))) pa_nil))))))
    (pss_cons (ps_set (i := 1) sc_kinds.nd rfl (Or.inl rfl) (pe_op op_cat (pv 1) (pe_lst (pa_cons (pe_callB call_isV (by rfl) T.n_isinstance (by decide +kernel) (pa_cons (pv 0) (pa_cons (pe_glob (v := .ref T.f_BadText) rfl T.m_BadText rfl) pa_nil))) (pa_cons (pe_callB call_isV (by rfl) T.n_isinstance (by decide +kernel) (pa_cons (pv 0) (pa_cons (pe_glob (v := .ref T.f_HasRound) rfl T.m_HasRound rfl) pa_nil))) (pa_cons (pe_callB call_isV (by rfl) T.n_isinstance (by decide +kernel) (pa_cons (pv 0) (pa_cons (pe_glob (v := .ref T.f_UselessLink) rfl T.m_UselessLink rfl) pa_nil))) pa_nil))))))
    (pss_cons (ps_set (i := 1) sc_kinds.nd rfl (Or.inl rfl) (pe_op op_cat (pv 1) (pe_lst (pa_cons (pe_callB call_isV (by rfl) T.n_isinstance (by decide +kernel) (pa_cons (pv 0) (pa_cons (pe_glob (v := .ref T.f_BadJoint) rfl T.m_BadJoint rfl) pa_nil))) (pa_cons (pe_callB call_isV (by rfl) T.n_isinstance (by decide +kernel) (pa_cons (pv 0) (pa_cons (pe_glob (v := .ref T.f_BadWay) rfl T.m_BadWay rfl) pa_nil))) (pa_cons (pe_callB call_isV (by rfl) T.n_isinstance (by decide +kernel) (pa_cons (pv 0) (pa_cons (pe_glob (v := .ref T.f_NoWay) rfl T.m_NoWay rfl) pa_nil))) pa_nil))))))
    (pss_one (ps_ret (pe_op op_cat (pv 1) (pe_lst (pa_cons (pe_callB call_isV (by rfl) T.n_isinstance (by decide +kernel) (pa_cons (pv 0) (pa_cons (pe_glob (v := .ref T.f_NotBuilding) rfl T.m_NotBuilding rfl) pa_nil))) (pa_cons (pe_callB call_isV (by rfl) T.n_isinstance (by decide +kernel) (pa_cons (pv 0) (pa_cons (pe_glob (v := .ref T.f_NoHarm) rfl T.m_NoHarm rfl) pa_nil))) (pa_cons (pe_callB call_isV (by rfl) T.n_isinstance (by decide +kernel) (pa_cons (pv 0) (pa_cons (pe_glob (v := .ref T.f_NothingToUndo) rfl T.m_NothingToUndo rfl) pa_nil))) pa_nil))))))))))), ?_⟩
    have ec := (cs_all T hi).ec
    have three : 3 ≤ sizeLine := by decide
    have small : ∀ n : Nat, n ≤ 20 → n ≤ sizeLine := fun n h => Nat.le_trans h (by decide)
    refine ⟨_, rfl, a, D, _, _, _, rfl, ec, he, .own _, kit_ij T hi (j := 0) rfl, _, rfl, a, D, _, _, _, rfl, ec, he, .own _, kit_ij T hi (j := 1) rfl, _, rfl, a, D, _, _, _, rfl, ec, he, .own _, kit_ij T hi (j := 2) rfl, three, fun l0 n0 => ?_⟩
    have s0 := same_upd (o := .lst [V.bl (decide (i = 0)), .bl (decide (i = 1)), .bl (decide (i = 2))]) n0
    have e0 : upd H l0 (.lst [V.bl (decide (i = 0)), .bl (decide (i = 1)), .bl (decide (i = 2))]) l0 = some (.lst [V.bl (decide (i = 0)), .bl (decide (i = 1)), .bl (decide (i = 2))]) := upd_same
    refine ⟨_, rfl, _, rfl, a, D, _, _, _, rfl, ec, he.on s0, .own _, kit_ij T hi (j := 3) rfl, _, rfl, a, D, _, _, _, rfl, ec, he.on s0, .own _, kit_ij T hi (j := 4) rfl, _, rfl, a, D, _, _, _, rfl, ec, he.on s0, .own _, kit_ij T hi (j := 5) rfl, three, fun m1 nm1 => ?_⟩
    refine ⟨l0, m1, _, _, rfl, rfl, same_upd nm1 _ _ e0, upd_same, by show 3 + 3 ≤ sizeLine; exact small _ (by decide), fun l1 n1 => ?_⟩
    have s1 := (s0.trans (same_upd (o := .lst [V.bl (decide (i = 3)), V.bl (decide (i = 4)), V.bl (decide (i = 5))]) nm1)).trans (same_upd (o := .lst ([V.bl (decide (i = 0)), V.bl (decide (i = 1)), V.bl (decide (i = 2))] ++ [V.bl (decide (i = 3)), V.bl (decide (i = 4)), V.bl (decide (i = 5))])) n1)
    have e1 : ∀ {H : Hp}, upd H l1 (.lst [V.bl (decide (i = 0)), V.bl (decide (i = 1)), V.bl (decide (i = 2)), V.bl (decide (i = 3)), V.bl (decide (i = 4)), V.bl (decide (i = 5))]) l1 = some (.lst [V.bl (decide (i = 0)), V.bl (decide (i = 1)), V.bl (decide (i = 2)), V.bl (decide (i = 3)), V.bl (decide (i = 4)), V.bl (decide (i = 5))]) := upd_same
    refine ⟨_, rfl, _, rfl, a, D, _, _, _, rfl, ec, he.on s1, .own _, kit_ij T hi (j := 6) rfl, _, rfl, a, D, _, _, _, rfl, ec, he.on s1, .own _, kit_ij T hi (j := 7) rfl, _, rfl, a, D, _, _, _, rfl, ec, he.on s1, .own _, kit_ij T hi (j := 8) rfl, three, fun m2 nm2 => ?_⟩
    refine ⟨l1, m2, _, _, rfl, rfl, same_upd nm2 _ _ e1, upd_same, by show 6 + 3 ≤ sizeLine; exact small _ (by decide), fun l2 n2 => ?_⟩
    have s2 := (s1.trans (same_upd (o := .lst [V.bl (decide (i = 6)), V.bl (decide (i = 7)), V.bl (decide (i = 8))]) nm2)).trans (same_upd (o := .lst ([V.bl (decide (i = 0)), V.bl (decide (i = 1)), V.bl (decide (i = 2)), V.bl (decide (i = 3)), V.bl (decide (i = 4)), V.bl (decide (i = 5))] ++ [V.bl (decide (i = 6)), V.bl (decide (i = 7)), V.bl (decide (i = 8))])) n2)
    have e2 : ∀ {H : Hp}, upd H l2 (.lst [V.bl (decide (i = 0)), V.bl (decide (i = 1)), V.bl (decide (i = 2)), V.bl (decide (i = 3)), V.bl (decide (i = 4)), V.bl (decide (i = 5)), V.bl (decide (i = 6)), V.bl (decide (i = 7)), V.bl (decide (i = 8))]) l2 = some (.lst [V.bl (decide (i = 0)), V.bl (decide (i = 1)), V.bl (decide (i = 2)), V.bl (decide (i = 3)), V.bl (decide (i = 4)), V.bl (decide (i = 5)), V.bl (decide (i = 6)), V.bl (decide (i = 7)), V.bl (decide (i = 8))]) := upd_same
    refine ⟨_, rfl, _, rfl, a, D, _, _, _, rfl, ec, he.on s2, .own _, kit_ij T hi (j := 9) rfl, _, rfl, a, D, _, _, _, rfl, ec, he.on s2, .own _, kit_ij T hi (j := 10) rfl, _, rfl, a, D, _, _, _, rfl, ec, he.on s2, .own _, kit_ij T hi (j := 11) rfl, three, fun m3 nm3 => ?_⟩
    refine ⟨l2, m3, _, _, rfl, rfl, same_upd nm3 _ _ e2, upd_same, by show 9 + 3 ≤ sizeLine; exact small _ (by decide), fun l3 n3 => ?_⟩
    have s3 := (s2.trans (same_upd (o := .lst [V.bl (decide (i = 9)), V.bl (decide (i = 10)), V.bl (decide (i = 11))]) nm3)).trans (same_upd (o := .lst ([V.bl (decide (i = 0)), V.bl (decide (i = 1)), V.bl (decide (i = 2)), V.bl (decide (i = 3)), V.bl (decide (i = 4)), V.bl (decide (i = 5)), V.bl (decide (i = 6)), V.bl (decide (i = 7)), V.bl (decide (i = 8))] ++ [V.bl (decide (i = 9)), V.bl (decide (i = 10)), V.bl (decide (i = 11))])) n3)
    have e3 : ∀ {H : Hp}, upd H l3 (.lst [V.bl (decide (i = 0)), V.bl (decide (i = 1)), V.bl (decide (i = 2)), V.bl (decide (i = 3)), V.bl (decide (i = 4)), V.bl (decide (i = 5)), V.bl (decide (i = 6)), V.bl (decide (i = 7)), V.bl (decide (i = 8)), V.bl (decide (i = 9)), V.bl (decide (i = 10)), V.bl (decide (i = 11))]) l3 = some (.lst [V.bl (decide (i = 0)), V.bl (decide (i = 1)), V.bl (decide (i = 2)), V.bl (decide (i = 3)), V.bl (decide (i = 4)), V.bl (decide (i = 5)), V.bl (decide (i = 6)), V.bl (decide (i = 7)), V.bl (decide (i = 8)), V.bl (decide (i = 9)), V.bl (decide (i = 10)), V.bl (decide (i = 11))]) := upd_same
    refine ⟨_, rfl, _, rfl, a, D, _, _, _, rfl, ec, he.on s3, .own _, kit_ij T hi (j := 12) rfl, _, rfl, a, D, _, _, _, rfl, ec, he.on s3, .own _, kit_ij T hi (j := 13) rfl, _, rfl, a, D, _, _, _, rfl, ec, he.on s3, .own _, kit_ij T hi (j := 14) rfl, three, fun m4 nm4 => ?_⟩
    refine ⟨l3, m4, _, _, rfl, rfl, same_upd nm4 _ _ e3, upd_same, by show 12 + 3 ≤ sizeLine; exact small _ (by decide), fun l4 n4 => ?_⟩
    have s4 := (s3.trans (same_upd (o := .lst [V.bl (decide (i = 12)), V.bl (decide (i = 13)), V.bl (decide (i = 14))]) nm4)).trans (same_upd (o := .lst ([V.bl (decide (i = 0)), V.bl (decide (i = 1)), V.bl (decide (i = 2)), V.bl (decide (i = 3)), V.bl (decide (i = 4)), V.bl (decide (i = 5)), V.bl (decide (i = 6)), V.bl (decide (i = 7)), V.bl (decide (i = 8)), V.bl (decide (i = 9)), V.bl (decide (i = 10)), V.bl (decide (i = 11))] ++ [V.bl (decide (i = 12)), V.bl (decide (i = 13)), V.bl (decide (i = 14))])) n4)
    have e4 : ∀ {H : Hp}, upd H l4 (.lst [V.bl (decide (i = 0)), V.bl (decide (i = 1)), V.bl (decide (i = 2)), V.bl (decide (i = 3)), V.bl (decide (i = 4)), V.bl (decide (i = 5)), V.bl (decide (i = 6)), V.bl (decide (i = 7)), V.bl (decide (i = 8)), V.bl (decide (i = 9)), V.bl (decide (i = 10)), V.bl (decide (i = 11)), V.bl (decide (i = 12)), V.bl (decide (i = 13)), V.bl (decide (i = 14))]) l4 = some (.lst [V.bl (decide (i = 0)), V.bl (decide (i = 1)), V.bl (decide (i = 2)), V.bl (decide (i = 3)), V.bl (decide (i = 4)), V.bl (decide (i = 5)), V.bl (decide (i = 6)), V.bl (decide (i = 7)), V.bl (decide (i = 8)), V.bl (decide (i = 9)), V.bl (decide (i = 10)), V.bl (decide (i = 11)), V.bl (decide (i = 12)), V.bl (decide (i = 13)), V.bl (decide (i = 14))]) := upd_same
    exact k l4 _ ((s3.trans (same_upd nm4)).free n4) s4 upd_same
theorem dp_bools {H : Hp} : ∀ bs : List Bool, DpAll K H (bs.map V.bl) (bs.map PyData.bool)
  | [] => .nil
  | n :: r => .cons (.bl n) (dp_bools r)
theorem shaped_bools (bs : List Bool) : SeqAt.shaped (.list (bs.map PyData.bool)) = true := by
  have h1 : PyData.canLayAll0 (bs.map PyData.bool) = true := by
    induction bs with
    | nil => rfl
    | cons a r ih =>
      show (PyData.canLay0 (.bool a) && PyData.canLayAll0 _) = true
      rw [ih, Bool.and_true]
      simp only [PyData.canLay0]
  have h2 : PyData.depthAll (bs.map PyData.bool) = 0 := by
    clear h1
    induction bs with
    | nil => rfl
    | cons a r ih =>
      show max (PyData.depth (.bool a)) (PyData.depthAll _) = 0
      rw [ih]
      simp [PyData.depth]
  unfold SeqAt.shaped
  rw [show PyData.canLay0 (.list (bs.map PyData.bool)) = true by simp only [PyData.canLay0]; exact h1, Bool.true_and]
  refine decide_eq_true ?_
  simp only [PyData.depth]
  rw [h2]
  decide
def spRight (T : Txt K mg) : Sp := fun vs H Q _ => ∃ (a D : Addr) (i : Nat), vs = [.ref a, .int (i : Int)] ∧ (Cs T)[i]? = some D ∧ ErrV H a D ∧ ∀ H', Same H H' → Q (.bl true) H'
theorem ok_right (T : Txt K mg) : FnOk P w K mg base CX0 2 T.f_right T.d_right ["_law_e", "_law_amount"] (spRight T) := by
  have G_kinds : FnOk P w K mg base CX0 1 T.f_kinds T.d_kinds ["_law_e"] (spKinds T) := ok_kinds T
  refine T.F_right.ok sc_right (fun vs H Q E h => ?_) (fun cdv A outer s H vs Q E hr h => ?_)
  · obtain ⟨a, D, i, rfl, _⟩ := h
    rfl
  · obtain ⟨a, D, i, rfl, hi, he, k⟩ := h
    refine ⟨_, (pss_cons (ps_if (PW.pt (pw_or (pt_not (pt_val (pe_callB call_isV (by rfl) T.n_isinstance (by decide +kernel) (pa_cons (pv 0) (pa_cons (pe_glob (v := .ref T.f_ExtralinkError) rfl T.m_ExtralinkError rfl) pa_nil))))) (pw_or1 (pt_not (pt_val (pe_callB call_isV (by rfl) T.n_isinstance (by decide +kernel) (pa_cons (pv 0) (pa_cons (pe_bltn (v := .ty "ValueError") (u := .type "ValueError") (by rfl) T.n_ValueError (by decide +kernel) rfl) pa_nil))))))))
      (pss_one (ps_ret pe_bl))
      pss_nil)
    (pss_one (ps_ret (pe_cmpR (op_eqD hr.units) (pe_call G_kinds (hr.mono (by decide)) rfl T.m_kinds T.F_kinds.kp T.b_kinds .nil pass0 (pa_cons (pv 0) pa_nil)) (pe_lc (own := [("_law_k", 2)]) (g := gName 2) (tt := tYes) rfl sc_right.nd (pi_range1 rfl T.n_range (pa_cons pe_int pa_nil)) (blkOk_by (N := ["_law_e", "_law_amount", "_law_k"]) (sc := defScope s_right) (by decide +kernel)) (fun _ _ _ _ _ => pg_name (i := 2) sc_right.nd rfl (Or.inl rfl)) (fun _ _ _ _ _ => pts_nil) (fun _ _ _ _ _ => (pe_cmpR op_eq (pv 2) (pv 1) (nomark _)))) (nomark _))))), ?_⟩
    have ec := (cs_all T hi).ec
    refine ⟨_, rfl, a, D, _, _, _, rfl, ec, he, .own _, kit_E T hi, true, rfl, iteF ?_⟩
    refine ⟨_, rfl, a, D, _, _, _, rfl, ec, he, .ty _, kit_V T hi, true, rfl, iteF ?_⟩
    refine ⟨_, rfl, a, D, i, rfl, hi, he, fun p H1 np s1 ep => ?_⟩
    refine ⟨15, rfl, by decide, by decide, fun L hL => ?_⟩
    refine lc_range (lo := 0) (n := 15) (fun j H2 => H2 L = some (.lst ((List.range j).map fun j => V.bl (decide (i = j)))) ∧ Same H1 H2) ⟨upd_same, same_upd hL⟩ ?_ ?_
    · intro j H2 hj ⟨eL, s2⟩
      refine ⟨rfl, _, rfl, _, rfl, rfl, _, eL, small1000 (by rw [List.length_map, List.length_range]; omega), ?_, same_mut s2 hL⟩
      rw [upd_same, List.range_succ, List.map_append]
      have e : decide (V.int (0 + (j : Int)) = V.int (i : Int)) = decide (i = j) := decide_eq_decide.mpr ⟨fun q => by injection q with q; omega, fun q => by rw [q, Int.zero_add]⟩
      rw [e]
      rfl
    rintro H2 ⟨eL, s2⟩
    have em : ((List.range 15).map fun j => V.bl (decide (i = j))) = ((List.range 15).map fun j => decide (i = j)).map V.bl := by rw [List.map_map]; rfl
    rw [em] at eL ep
    refine ⟨.list (((List.range 15).map fun j => decide (i = j)).map PyData.bool), .list (((List.range 15).map fun j => decide (i = j)).map PyData.bool), .lst (SqL.of (s2 _ _ ep)) (dp_bools _), .lst (SqL.of eL) (dp_bools _), shaped_bools _, shaped_bools _, ?_⟩
    rw [SeqAt.eqv_refl _ (SeqAt.canLay_of_shaped (shaped_bools _))]
    exact k _ (s1.trans s2)
end

/-! ### errors that are made, what they keep -/
section
variable {P : Program} {w : World} {K : PySem.W.Frag} {mg : Str → Option Value} {base : Heap}
/-- one error of each class, made of thirteen values -/
structure MadeE (T : Txt K mg) (H : Hp) (e0 e1 e2 e3 e4 e5 e6 e7 e8 e9 e10 e11 e12 e13 e14 : Addr) (w0 w1 w2 w3 w4 w5 w6 w7 w8 w9 w10 w11 w12 : V) : Prop where
  q0 : ErrF H e0 T.f_BadName "name" w0
  q1 : ErrF H e1 T.f_DuplicateName "name" w1
  q2 : ErrF H e2 T.f_UnknownName "name" w2
  q3 : ErrF H e3 T.f_BadCount "count" w3
  q4 : ErrF H e4 T.f_OutOfRange "value" w4
  q5 : ErrF H e5 T.f_BadLine "number" w5
  q6 : ErrF H e5 T.f_BadLine "text" w6
  q7 : ErrF H e6 T.f_BadText "text" w7
  q8 : ErrF H e7 T.f_HasRound "name" w8
  q9 : ErrF H e8 T.f_UselessLink "name" w9
  q10 : ErrF H e9 T.f_BadJoint "place" w10
  q11 : ErrF H e10 T.f_BadWay "way" w11
  q12 : ErrV H e11 T.f_NoWay
  q13 : ErrV H e12 T.f_NotBuilding
  q14 : ErrF H e13 T.f_NoHarm "kind" w12
  q15 : ErrV H e14 T.f_NothingToUndo
theorem MadeE.on {T : Txt K mg} {H H' : Hp} {e0 e1 e2 e3 e4 e5 e6 e7 e8 e9 e10 e11 e12 e13 e14 : Addr} {w0 w1 w2 w3 w4 w5 w6 w7 w8 w9 w10 w11 w12 : V} (m : MadeE T H e0 e1 e2 e3 e4 e5 e6 e7 e8 e9 e10 e11 e12 e13 e14 w0 w1 w2 w3 w4 w5 w6 w7 w8 w9 w10 w11 w12) (s : Same H H') : MadeE T H' e0 e1 e2 e3 e4 e5 e6 e7 e8 e9 e10 e11 e12 e13 e14 w0 w1 w2 w3 w4 w5 w6 w7 w8 w9 w10 w11 w12 := ⟨m.q0.on s, m.q1.on s, m.q2.on s, m.q3.on s, m.q4.on s, m.q5.on s, m.q6.on s, m.q7.on s, m.q8.on s, m.q9.on s, m.q10.on s, m.q11.on s, m.q12.on s, m.q13.on s, m.q14.on s, m.q15.on s⟩
theorem exo_lst {e C : Addr} {d : Option Addr} {xs : List V} : exo e C d ≠ .lst xs := fun z => by
  have z' : HO.ext _ = HO.lst xs := z
  cases z'
theorem exd_lst {e : Addr} {fs : List (Str × V)} {xs : List V} : exd e fs ≠ .lst xs := fun z => by
  have z' : HO.ext _ = HO.lst xs := z
  cases z'
theorem exO_lst {e : Addr} {C : Value} {xs : List V} : ExO C e ≠ .lst xs := fun z => by
  have z' : HO.ext _ = HO.lst xs := z
  cases z'
theorem ErrF.put {H H' : Hp} {a D : Addr} {n : Str} {v : V} (e : ErrF H a D n v) (k : ∀ a o, H a = some o → (∀ xs, o ≠ .lst xs) → H' a = some o) : ErrF H' a D n v := let ⟨dx, fs, h1, h2, h3⟩ := e; ⟨dx, fs, k _ _ h1 fun _ => exo_lst, k _ _ h2 fun _ => exd_lst, h3⟩
theorem ErrV.put {H H' : Hp} {a D : Addr} (e : ErrV H a D) (k : ∀ a o, H a = some o → (∀ xs, o ≠ .lst xs) → H' a = some o) : ErrV H' a D := by
  rcases e with ⟨dx, fs, h1, h2⟩ | h
  · exact .inl ⟨dx, fs, k _ _ h1 fun _ => exo_lst, k _ _ h2 fun _ => exd_lst⟩
  · exact .inr (k _ _ h fun _ => exO_lst)
theorem MadeE.put {T : Txt K mg} {H H' : Hp} {e0 e1 e2 e3 e4 e5 e6 e7 e8 e9 e10 e11 e12 e13 e14 : Addr} {w0 w1 w2 w3 w4 w5 w6 w7 w8 w9 w10 w11 w12 : V} (m : MadeE T H e0 e1 e2 e3 e4 e5 e6 e7 e8 e9 e10 e11 e12 e13 e14 w0 w1 w2 w3 w4 w5 w6 w7 w8 w9 w10 w11 w12) (k : ∀ a o, H a = some o → (∀ xs, o ≠ .lst xs) → H' a = some o) : MadeE T H' e0 e1 e2 e3 e4 e5 e6 e7 e8 e9 e10 e11 e12 e13 e14 w0 w1 w2 w3 w4 w5 w6 w7 w8 w9 w10 w11 w12 := ⟨m.q0.put k, m.q1.put k, m.q2.put k, m.q3.put k, m.q4.put k, m.q5.put k, m.q6.put k, m.q7.put k, m.q8.put k, m.q9.put k, m.q10.put k, m.q11.put k, m.q12.put k, m.q13.put k, m.q14.put k, m.q15.put k⟩
theorem MadeE.nth {T : Txt K mg} {H : Hp} {e0 e1 e2 e3 e4 e5 e6 e7 e8 e9 e10 e11 e12 e13 e14 : Addr} {w0 w1 w2 w3 w4 w5 w6 w7 w8 w9 w10 w11 w12 : V} (m : MadeE T H e0 e1 e2 e3 e4 e5 e6 e7 e8 e9 e10 e11 e12 e13 e14 w0 w1 w2 w3 w4 w5 w6 w7 w8 w9 w10 w11 w12) {i : Nat} (hi : i < 15) : ∃ e D, ([.ref e0, .ref e1, .ref e2, .ref e3, .ref e4, .ref e5, .ref e6, .ref e7, .ref e8, .ref e9, .ref e10, .ref e11, .ref e12, .ref e13, .ref e14] : List V)[i]? = some (.ref e) ∧ (Cs T)[i]? = some D ∧ ErrV H e D := by
  match i, hi with
  | 0, _ => exact ⟨e0, T.f_BadName, rfl, rfl, m.q0.err⟩
  | 1, _ => exact ⟨e1, T.f_DuplicateName, rfl, rfl, m.q1.err⟩
  | 2, _ => exact ⟨e2, T.f_UnknownName, rfl, rfl, m.q2.err⟩
  | 3, _ => exact ⟨e3, T.f_BadCount, rfl, rfl, m.q3.err⟩
  | 4, _ => exact ⟨e4, T.f_OutOfRange, rfl, rfl, m.q4.err⟩
  | 5, _ => exact ⟨e5, T.f_BadLine, rfl, rfl, m.q5.err⟩
  | 6, _ => exact ⟨e6, T.f_BadText, rfl, rfl, m.q7.err⟩
  | 7, _ => exact ⟨e7, T.f_HasRound, rfl, rfl, m.q8.err⟩
  | 8, _ => exact ⟨e8, T.f_UselessLink, rfl, rfl, m.q9.err⟩
  | 9, _ => exact ⟨e9, T.f_BadJoint, rfl, rfl, m.q10.err⟩
  | 10, _ => exact ⟨e10, T.f_BadWay, rfl, rfl, m.q11.err⟩
  | 11, _ => exact ⟨e11, T.f_NoWay, rfl, rfl, m.q12⟩
  | 12, _ => exact ⟨e12, T.f_NotBuilding, rfl, rfl, m.q13⟩
  | 13, _ => exact ⟨e13, T.f_NoHarm, rfl, rfl, m.q14.err⟩
  | 14, _ => exact ⟨e14, T.f_NothingToUndo, rfl, rfl, m.q15⟩
/-- an error's own __init__ of one argument -/
def spI (C : Addr) (n : Str) : Sp := fun vs H Q _ => ∃ (a : Addr) (v : V), vs = [.ref a, v] ∧ H a = some (exo a C none) ∧ ∀ dx H', H dx = none → dx ≠ a → H' = upd (upd H dx (exd dx [(n, v)])) a (exo a C (some dx)) → Q .non H'
theorem made_err {C : Addr} {n : Str} {v : V} {H : Hp} {Q : VK} (k : ∀ a H', H a = none → Same H H' → ErrF H' a C n v → Q (.ref a) H') : ∀ a, H a = none → spI C n [.ref a, v] (upd H a (exo a C none)) (fun u H2 => u = .non ∧ Q (.ref a) H2) E0 := by
  intro a na
  refine ⟨a, v, rfl, upd_same, fun dx H' nd ne e => ⟨rfl, k a H' na ?_ ?_⟩⟩
  · rw [upd_ne ne] at nd
    intro b o hb
    have n1 : b ≠ dx := ne_of_none hb nd
    have n2 : b ≠ a := ne_of_none hb na
    rw [e, upd_ne n2, upd_ne n1, upd_ne n2]
    exact hb
  · refine ⟨dx, [(n, v)], by rw [e]; exact upd_same, by rw [e, upd_ne ne]; exact upd_same, by simp [List.lookup]⟩
theorem made_e {C : Addr} {n : Str} {v : V} {H : Hp} {Q : VK} (k : ∀ a H', H a = none → Same H H' → ErrF H' a C n v → Q (.ref a) H') : mkO C (spI C n) [v] H Q := ⟨by show 1 ≤ 1000; decide, made_err k⟩
theorem made_eK {C : Addr} {n : Str} {v : V} {H : Hp} {Q : VK} (k : ∀ a H', H a = none → Same H H' → ErrF H' a C n v → Q (.ref a) H') : mkOK C (spI C n) [0] 1 [v] H Q := ⟨rfl, made_err k⟩
def spI2 (C : Addr) : Sp := fun vs H Q _ => ∃ (a : Addr) (v u : V), vs = [.ref a, v, u] ∧ H a = some (exo a C none) ∧ ∀ dx H', H dx = none → dx ≠ a → H' = upd (upd (upd H dx (exd dx [("number", v)])) a (exo a C (some dx))) dx (exd dx [("text", u), ("number", v)]) → Q .non H'
theorem nTN : (("number" : Str) == ("text" : Str)) = false := by decide +kernel
theorem made_line {C : Addr} {v u : V} {H : Hp} {Q : VK} (k : ∀ a H', H a = none → Same H H' → ErrF H' a C "number" v → ErrF H' a C "text" u → Q (.ref a) H') : ∀ a, H a = none → spI2 C [.ref a, v, u] (upd H a (exo a C none)) (fun x H2 => x = .non ∧ Q (.ref a) H2) E0 := by
  intro a na
  refine ⟨a, v, u, rfl, upd_same, fun dx H' nd ne e => ⟨rfl, k a H' na ?_ ?_ ?_⟩⟩
  · rw [upd_ne ne] at nd
    intro b o hb
    have n1 : b ≠ dx := ne_of_none hb nd
    have n2 : b ≠ a := ne_of_none hb na
    rw [e, upd_ne n1, upd_ne n2, upd_ne n1, upd_ne n2]
    exact hb
  · exact ⟨dx, _, by rw [e, upd_ne ne.symm]; exact upd_same, by rw [e]; exact upd_same, by simp [List.lookup, nTN]⟩
  · exact ⟨dx, _, by rw [e, upd_ne ne.symm]; exact upd_same, by rw [e]; exact upd_same, by simp [List.lookup]⟩
theorem made_l {C : Addr} {v u : V} {H : Hp} {Q : VK} (k : ∀ a H', H a = none → Same H H' → ErrF H' a C "number" v → ErrF H' a C "text" u → Q (.ref a) H') : mkO C (spI2 C) [v, u] H Q := ⟨by show 2 ≤ 1000; decide, made_line k⟩
theorem made_lK {C : Addr} {v u : V} {H : Hp} {Q : VK} (k : ∀ a H', H a = none → Same H H' → ErrF H' a C "number" v → ErrF H' a C "text" u → Q (.ref a) H') : mkOK C (spI2 C) [1, 0] 2 [u, v] H Q := ⟨rfl, made_line k⟩
theorem ok_iBadName (T : Txt K mg) : FnOk P w K mg base CX0 1 T.f_BadName_init T.d_BadName_init ["self", "name"] (spI T.f_BadName "name") := by
  refine T.F_BadName_init.ok sc_BadName_init (fun vs H Q E h => ?_) (fun cdv A outer s H vs Q E hr h => ?_)
  · obtain ⟨a, v, rfl, _⟩ := h
    rfl
  · obtain ⟨a, v, rfl, ha, k⟩ := h
    refine ⟨_, (pss_one (ps_ost (pv 0) (pv 1))), ?_⟩
    exact ⟨_, rfl, _, rfl, a, T.f_BadName, rfl, T.ox_BadName, T.no_BadName_name, .inl ⟨ha, fun dx nd ne => k dx _ nd ne rfl⟩⟩
theorem ok_iDuplicateName (T : Txt K mg) : FnOk P w K mg base CX0 1 T.f_DuplicateName_init T.d_DuplicateName_init ["self", "name"] (spI T.f_DuplicateName "name") := by
  refine T.F_DuplicateName_init.ok sc_DuplicateName_init (fun vs H Q E h => ?_) (fun cdv A outer s H vs Q E hr h => ?_)
  · obtain ⟨a, v, rfl, _⟩ := h
    rfl
  · obtain ⟨a, v, rfl, ha, k⟩ := h
    refine ⟨_, (pss_one (ps_ost (pv 0) (pv 1))), ?_⟩
    exact ⟨_, rfl, _, rfl, a, T.f_DuplicateName, rfl, T.ox_DuplicateName, T.no_DuplicateName_name, .inl ⟨ha, fun dx nd ne => k dx _ nd ne rfl⟩⟩
theorem ok_iUnknownName (T : Txt K mg) : FnOk P w K mg base CX0 1 T.f_UnknownName_init T.d_UnknownName_init ["self", "name"] (spI T.f_UnknownName "name") := by
  refine T.F_UnknownName_init.ok sc_UnknownName_init (fun vs H Q E h => ?_) (fun cdv A outer s H vs Q E hr h => ?_)
  · obtain ⟨a, v, rfl, _⟩ := h
    rfl
  · obtain ⟨a, v, rfl, ha, k⟩ := h
    refine ⟨_, (pss_one (ps_ost (pv 0) (pv 1))), ?_⟩
    exact ⟨_, rfl, _, rfl, a, T.f_UnknownName, rfl, T.ox_UnknownName, T.no_UnknownName_name, .inl ⟨ha, fun dx nd ne => k dx _ nd ne rfl⟩⟩
theorem ok_iBadCount (T : Txt K mg) : FnOk P w K mg base CX0 1 T.f_BadCount_init T.d_BadCount_init ["self", "count"] (spI T.f_BadCount "count") := by
  refine T.F_BadCount_init.ok sc_BadCount_init (fun vs H Q E h => ?_) (fun cdv A outer s H vs Q E hr h => ?_)
  · obtain ⟨a, v, rfl, _⟩ := h
    rfl
  · obtain ⟨a, v, rfl, ha, k⟩ := h
    refine ⟨_, (pss_one (ps_ost (pv 0) (pv 1))), ?_⟩
    exact ⟨_, rfl, _, rfl, a, T.f_BadCount, rfl, T.ox_BadCount, T.no_BadCount_count, .inl ⟨ha, fun dx nd ne => k dx _ nd ne rfl⟩⟩
theorem ok_iOutOfRange (T : Txt K mg) : FnOk P w K mg base CX0 1 T.f_OutOfRange_init T.d_OutOfRange_init ["self", "value"] (spI T.f_OutOfRange "value") := by
  refine T.F_OutOfRange_init.ok sc_OutOfRange_init (fun vs H Q E h => ?_) (fun cdv A outer s H vs Q E hr h => ?_)
  · obtain ⟨a, v, rfl, _⟩ := h
    rfl
  · obtain ⟨a, v, rfl, ha, k⟩ := h
    refine ⟨_, (pss_one (ps_ost (pv 0) (pv 1))), ?_⟩
    exact ⟨_, rfl, _, rfl, a, T.f_OutOfRange, rfl, T.ox_OutOfRange, T.no_OutOfRange_value, .inl ⟨ha, fun dx nd ne => k dx _ nd ne rfl⟩⟩
theorem ok_iBadLine (T : Txt K mg) : FnOk P w K mg base CX0 1 T.f_BadLine_init T.d_BadLine_init ["self", "number", "text"] (spI2 T.f_BadLine) := by
  refine T.F_BadLine_init.ok sc_BadLine_init (fun vs H Q E h => ?_) (fun cdv A outer s H vs Q E hr h => ?_)
  · obtain ⟨a, v, u, rfl, _⟩ := h
    rfl
  · obtain ⟨a, v, u, rfl, ha, k⟩ := h
    refine ⟨_, (pss_cons (ps_ost (pv 0) (pv 1))
    (pss_one (ps_ost (pv 0) (pv 2)))), ?_⟩
    refine ⟨_, rfl, _, rfl, a, T.f_BadLine, rfl, T.ox_BadLine, T.no_BadLine_number, .inl ⟨ha, fun dx nd ne => ?_⟩⟩
    exact ⟨_, rfl, _, rfl, a, T.f_BadLine, rfl, T.ox_BadLine, T.no_BadLine_text, .inr ⟨dx, _, upd_same, by rw [upd_ne ne]; exact upd_same, (by show 1 ≤ 900; decide), k dx _ nd ne rfl⟩⟩
theorem ok_iBadText (T : Txt K mg) : FnOk P w K mg base CX0 1 T.f_BadText_init T.d_BadText_init ["self", "text"] (spI T.f_BadText "text") := by
  refine T.F_BadText_init.ok sc_BadText_init (fun vs H Q E h => ?_) (fun cdv A outer s H vs Q E hr h => ?_)
  · obtain ⟨a, v, rfl, _⟩ := h
    rfl
  · obtain ⟨a, v, rfl, ha, k⟩ := h
    refine ⟨_, (pss_one (ps_ost (pv 0) (pv 1))), ?_⟩
    exact ⟨_, rfl, _, rfl, a, T.f_BadText, rfl, T.ox_BadText, T.no_BadText_text, .inl ⟨ha, fun dx nd ne => k dx _ nd ne rfl⟩⟩
theorem ok_iHasRound (T : Txt K mg) : FnOk P w K mg base CX0 1 T.f_HasRound_init T.d_HasRound_init ["self", "name"] (spI T.f_HasRound "name") := by
  refine T.F_HasRound_init.ok sc_HasRound_init (fun vs H Q E h => ?_) (fun cdv A outer s H vs Q E hr h => ?_)
  · obtain ⟨a, v, rfl, _⟩ := h
    rfl
  · obtain ⟨a, v, rfl, ha, k⟩ := h
    refine ⟨_, (pss_one (ps_ost (pv 0) (pv 1))), ?_⟩
    exact ⟨_, rfl, _, rfl, a, T.f_HasRound, rfl, T.ox_HasRound, T.no_HasRound_name, .inl ⟨ha, fun dx nd ne => k dx _ nd ne rfl⟩⟩
theorem ok_iUselessLink (T : Txt K mg) : FnOk P w K mg base CX0 1 T.f_UselessLink_init T.d_UselessLink_init ["self", "name"] (spI T.f_UselessLink "name") := by
  refine T.F_UselessLink_init.ok sc_UselessLink_init (fun vs H Q E h => ?_) (fun cdv A outer s H vs Q E hr h => ?_)
  · obtain ⟨a, v, rfl, _⟩ := h
    rfl
  · obtain ⟨a, v, rfl, ha, k⟩ := h
    refine ⟨_, (pss_one (ps_ost (pv 0) (pv 1))), ?_⟩
    exact ⟨_, rfl, _, rfl, a, T.f_UselessLink, rfl, T.ox_UselessLink, T.no_UselessLink_name, .inl ⟨ha, fun dx nd ne => k dx _ nd ne rfl⟩⟩
theorem ok_iBadJoint (T : Txt K mg) : FnOk P w K mg base CX0 1 T.f_BadJoint_init T.d_BadJoint_init ["self", "place"] (spI T.f_BadJoint "place") := by
  refine T.F_BadJoint_init.ok sc_BadJoint_init (fun vs H Q E h => ?_) (fun cdv A outer s H vs Q E hr h => ?_)
  · obtain ⟨a, v, rfl, _⟩ := h
    rfl
  · obtain ⟨a, v, rfl, ha, k⟩ := h
    refine ⟨_, (pss_one (ps_ost (pv 0) (pv 1))), ?_⟩
    exact ⟨_, rfl, _, rfl, a, T.f_BadJoint, rfl, T.ox_BadJoint, T.no_BadJoint_place, .inl ⟨ha, fun dx nd ne => k dx _ nd ne rfl⟩⟩
theorem ok_iBadWay (T : Txt K mg) : FnOk P w K mg base CX0 1 T.f_BadWay_init T.d_BadWay_init ["self", "way"] (spI T.f_BadWay "way") := by
  refine T.F_BadWay_init.ok sc_BadWay_init (fun vs H Q E h => ?_) (fun cdv A outer s H vs Q E hr h => ?_)
  · obtain ⟨a, v, rfl, _⟩ := h
    rfl
  · obtain ⟨a, v, rfl, ha, k⟩ := h
    refine ⟨_, (pss_one (ps_ost (pv 0) (pv 1))), ?_⟩
    exact ⟨_, rfl, _, rfl, a, T.f_BadWay, rfl, T.ox_BadWay, T.no_BadWay_way, .inl ⟨ha, fun dx nd ne => k dx _ nd ne rfl⟩⟩
theorem ok_iNoHarm (T : Txt K mg) : FnOk P w K mg base CX0 1 T.f_NoHarm_init T.d_NoHarm_init ["self", "kind"] (spI T.f_NoHarm "kind") := by
  refine T.F_NoHarm_init.ok sc_NoHarm_init (fun vs H Q E h => ?_) (fun cdv A outer s H vs Q E hr h => ?_)
  · obtain ⟨a, v, rfl, _⟩ := h
    rfl
  · obtain ⟨a, v, rfl, ha, k⟩ := h
    refine ⟨_, (pss_one (ps_ost (pv 0) (pv 1))), ?_⟩
    exact ⟨_, rfl, _, rfl, a, T.f_NoHarm, rfl, T.ox_NoHarm, T.no_NoHarm_kind, .inl ⟨ha, fun dx nd ne => k dx _ nd ne rfl⟩⟩
def spAll (T : Txt K mg) : Sp := fun vs H Q _ => ∃ (t : Addr) (w0 w1 w2 w3 w4 w5 w6 w7 w8 w9 w10 w11 w12 : V), vs = [.ref t] ∧ SqL K H t [w0, w1, w2, w3, w4, w5, w6, w7, w8, w9, w10, w11, w12] ∧ ∀ m H' (e0 e1 e2 e3 e4 e5 e6 e7 e8 e9 e10 e11 e12 e13 e14 : Addr), H m = none → Same H H' → H' m = some (.lst [.ref e0, .ref e1, .ref e2, .ref e3, .ref e4, .ref e5, .ref e6, .ref e7, .ref e8, .ref e9, .ref e10, .ref e11, .ref e12, .ref e13, .ref e14]) → MadeE T H' e0 e1 e2 e3 e4 e5 e6 e7 e8 e9 e10 e11 e12 e13 e14 w0 w1 w2 w3 w4 w5 w6 w7 w8 w9 w10 w11 w12 → Q (.ref m) H'
theorem sqL_ext' {H H' : Hp} {t : Addr} {xs : List V} (h : SqL K H t xs) (s : Same H H') : SqL K H' t xs := s.seq h
theorem ok_all (T : Txt K mg) : FnOk P w K mg base CX0 3 T.f_all T.d_all ["_law_t"] (spAll T) := by
  have G_BadName_init : FnOk P w K mg base CX0 1 T.f_BadName_init T.d_BadName_init ["self", "name"] (spI T.f_BadName "name") := ok_iBadName T
  have G_DuplicateName_init : FnOk P w K mg base CX0 1 T.f_DuplicateName_init T.d_DuplicateName_init ["self", "name"] (spI T.f_DuplicateName "name") := ok_iDuplicateName T
  have G_UnknownName_init : FnOk P w K mg base CX0 1 T.f_UnknownName_init T.d_UnknownName_init ["self", "name"] (spI T.f_UnknownName "name") := ok_iUnknownName T
  have G_BadCount_init : FnOk P w K mg base CX0 1 T.f_BadCount_init T.d_BadCount_init ["self", "count"] (spI T.f_BadCount "count") := ok_iBadCount T
  have G_OutOfRange_init : FnOk P w K mg base CX0 1 T.f_OutOfRange_init T.d_OutOfRange_init ["self", "value"] (spI T.f_OutOfRange "value") := ok_iOutOfRange T
  have G_BadLine_init : FnOk P w K mg base CX0 1 T.f_BadLine_init T.d_BadLine_init ["self", "number", "text"] (spI2 T.f_BadLine) := ok_iBadLine T
  have G_BadText_init : FnOk P w K mg base CX0 1 T.f_BadText_init T.d_BadText_init ["self", "text"] (spI T.f_BadText "text") := ok_iBadText T
  have G_HasRound_init : FnOk P w K mg base CX0 1 T.f_HasRound_init T.d_HasRound_init ["self", "name"] (spI T.f_HasRound "name") := ok_iHasRound T
  have G_UselessLink_init : FnOk P w K mg base CX0 1 T.f_UselessLink_init T.d_UselessLink_init ["self", "name"] (spI T.f_UselessLink "name") := ok_iUselessLink T
  have G_BadJoint_init : FnOk P w K mg base CX0 1 T.f_BadJoint_init T.d_BadJoint_init ["self", "place"] (spI T.f_BadJoint "place") := ok_iBadJoint T
  have G_BadWay_init : FnOk P w K mg base CX0 1 T.f_BadWay_init T.d_BadWay_init ["self", "way"] (spI T.f_BadWay "way") := ok_iBadWay T
  have G_NoHarm_init : FnOk P w K mg base CX0 1 T.f_NoHarm_init T.d_NoHarm_init ["self", "kind"] (spI T.f_NoHarm "kind") := ok_iNoHarm T
  refine T.F_all.ok sc_all (fun vs H Q E h => ?_) (fun cdv A outer s H vs Q E hr h => ?_)
  · obtain ⟨t, w0, w1, w2, w3, w4, w5, w6, w7, w8, w9, w10, w11, w12, rfl, _⟩ := h
    rfl
  · obtain ⟨t, w0, w1, w2, w3, w4, w5, w6, w7, w8, w9, w10, w11, w12, rfl, ht, k⟩ := h
    refine ⟨_, (pss_cons (ps_set (i := 1) sc_all.nd rfl (Or.inl rfl) (pe_lst (pa_cons (pe_oex T.ox_BadName T.ix_BadName T.tx_BadName G_BadName_init (hr.mono (by decide)) T.b_BadName_init pass0 rfl T.m_BadName (pa_cons (pe_ix ix_list (pv 0) pe_int (fun _ _ => rfl)) pa_nil)) (pa_cons (pe_oex T.ox_DuplicateName T.ix_DuplicateName T.tx_DuplicateName G_DuplicateName_init (hr.mono (by decide)) T.b_DuplicateName_init pass0 rfl T.m_DuplicateName (pa_cons (pe_ix ix_list (pv 0) pe_int (fun _ _ => rfl)) pa_nil)) (pa_cons (pe_oex T.ox_UnknownName T.ix_UnknownName T.tx_UnknownName G_UnknownName_init (hr.mono (by decide)) T.b_UnknownName_init pass0 rfl T.m_UnknownName (pa_cons (pe_ix ix_list (pv 0) pe_int (fun _ _ => rfl)) pa_nil)) (pa_cons (pe_oex T.ox_BadCount T.ix_BadCount T.tx_BadCount G_BadCount_init (hr.mono (by decide)) T.b_BadCount_init pass0 rfl T.m_BadCount (pa_cons (pe_ix ix_list (pv 0) pe_int (fun _ _ => rfl)) pa_nil)) (pa_cons (pe_oex T.ox_OutOfRange T.ix_OutOfRange T.tx_OutOfRange G_OutOfRange_init (hr.mono (by decide)) T.b_OutOfRange_init pass0 rfl T.m_OutOfRange (pa_cons (pe_ix ix_list (pv 0) pe_int (fun _ _ => rfl)) pa_nil)) pa_nil)))))))
    (pss_cons (ps_set (i := 1) sc_all.nd rfl (Or.inl rfl) (pe_op op_cat (pv 1) (pe_lst (pa_cons (pe_oex T.ox_BadLine T.ix_BadLine T.tx_BadLine G_BadLine_init (hr.mono (by decide)) T.b_BadLine_init pass0 rfl T.m_BadLine (pa_cons (pe_ix ix_list (pv 0) pe_int (fun _ _ => rfl)) (pa_cons (pe_ix ix_list (pv 0) pe_int (fun _ _ => rfl)) pa_nil))) (pa_cons (pe_oex T.ox_BadText T.ix_BadText T.tx_BadText G_BadText_init (hr.mono (by decide)) T.b_BadText_init pass0 rfl T.m_BadText (pa_cons (pe_ix ix_list (pv 0) pe_int (fun _ _ => rfl)) pa_nil)) (pa_cons (pe_oex T.ox_HasRound T.ix_HasRound T.tx_HasRound G_HasRound_init (hr.mono (by decide)) T.b_HasRound_init pass0 rfl T.m_HasRound (pa_cons (pe_ix ix_list (pv 0) pe_int (fun _ _ => rfl)) pa_nil)) (pa_cons (pe_oex T.ox_UselessLink T.ix_UselessLink T.tx_UselessLink G_UselessLink_init (hr.mono (by decide)) T.b_UselessLink_init pass0 rfl T.m_UselessLink (pa_cons (pe_ix ix_list (pv 0) pe_int (fun _ _ => rfl)) pa_nil)) (pa_cons (pe_oex T.ox_BadJoint T.ix_BadJoint T.tx_BadJoint G_BadJoint_init (hr.mono (by decide)) T.b_BadJoint_init pass0 rfl T.m_BadJoint (pa_cons (pe_ix ix_list (pv 0) pe_int (fun _ _ => rfl)) pa_nil)) pa_nil))))))))
    (pss_one (ps_ret (pe_op op_cat (pv 1) (pe_lst (pa_cons (pe_oex T.ox_BadWay T.ix_BadWay T.tx_BadWay G_BadWay_init (hr.mono (by decide)) T.b_BadWay_init pass0 rfl T.m_BadWay (pa_cons (pe_ix ix_list (pv 0) pe_int (fun _ _ => rfl)) pa_nil)) (pa_cons (pe_exc0 PySem.F.excBase_ValueError T.xq_NoWay T.m_NoWay T.xk_NoWay rfl) (pa_cons (pe_exc0 PySem.F.excBase_ValueError T.xq_NotBuilding T.m_NotBuilding T.xk_NotBuilding rfl) (pa_cons (pe_oex T.ox_NoHarm T.ix_NoHarm T.tx_NoHarm G_NoHarm_init (hr.mono (by decide)) T.b_NoHarm_init pass0 rfl T.m_NoHarm (pa_cons (pe_ix ix_list (pv 0) pe_int (fun _ _ => rfl)) pa_nil)) (pa_cons (pe_exc0 PySem.F.excBase_ValueError T.xq_NothingToUndo T.m_NothingToUndo T.xk_NothingToUndo rfl) pa_nil))))))))))), ?_⟩
    have small : ∀ n : Nat, n ≤ 20 → n ≤ sizeLine := fun n h => Nat.le_trans h (by decide)
    have one : 1 ≤ 1000 := by decide
    have t0 : Same H H := Same.refl H
    refine ⟨_, rfl, t, _, 0, _, rfl, rfl, sqL_ext' ht t0, atI_nat (j := 0) rfl, made_e fun e0 H1 ne0 u1 f0 => ?_⟩
    have t1 := t0.trans u1
    refine ⟨_, rfl, t, _, 1, _, rfl, rfl, sqL_ext' ht t1, atI_nat (j := 1) rfl, made_e fun e1 H2 ne1 u2 f1 => ?_⟩
    have t2 := t1.trans u2
    refine ⟨_, rfl, t, _, 2, _, rfl, rfl, sqL_ext' ht t2, atI_nat (j := 2) rfl, made_e fun e2 H3 ne2 u3 f2 => ?_⟩
    have t3 := t2.trans u3
    refine ⟨_, rfl, t, _, 3, _, rfl, rfl, sqL_ext' ht t3, atI_nat (j := 3) rfl, made_e fun e3 H4 ne3 u4 f3 => ?_⟩
    have t4 := t3.trans u4
    refine ⟨_, rfl, t, _, 4, _, rfl, rfl, sqL_ext' ht t4, atI_nat (j := 4) rfl, made_e fun e4 H5 ne4 u5 f4 => ?_⟩
    have t5 := t4.trans u5
    refine ⟨small 5 (by decide), fun g0 ng0 => ?_⟩
    have u6 := same_upd (o := .lst [V.ref e0, .ref e1, .ref e2, .ref e3, .ref e4]) ng0
    have t6 := t5.trans u6
    have lat : ∀ {H : Hp}, upd H g0 (.lst [V.ref e0, .ref e1, .ref e2, .ref e3, .ref e4]) g0 = some (.lst [V.ref e0, .ref e1, .ref e2, .ref e3, .ref e4]) := upd_same
    refine ⟨_, rfl, ?_⟩
    refine ⟨_, rfl, t, _, 5, _, rfl, rfl, sqL_ext' ht t6, atI_nat (j := 5) rfl, _, rfl, t, _, 6, _, rfl, rfl, sqL_ext' ht t6, atI_nat (j := 6) rfl, made_l fun e5 H7 ne5 u7 f5 f5b => ?_⟩
    have t7 := t6.trans u7
    refine ⟨_, rfl, t, _, 7, _, rfl, rfl, sqL_ext' ht t7, atI_nat (j := 7) rfl, made_e fun e6 H8 ne6 u8 f6 => ?_⟩
    have t8 := t7.trans u8
    refine ⟨_, rfl, t, _, 8, _, rfl, rfl, sqL_ext' ht t8, atI_nat (j := 8) rfl, made_e fun e7 H9 ne7 u9 f7 => ?_⟩
    have t9 := t8.trans u9
    refine ⟨_, rfl, t, _, 9, _, rfl, rfl, sqL_ext' ht t9, atI_nat (j := 9) rfl, made_e fun e8 H10 ne8 u10 f8 => ?_⟩
    have t10 := t9.trans u10
    refine ⟨_, rfl, t, _, 10, _, rfl, rfl, sqL_ext' ht t10, atI_nat (j := 10) rfl, made_e fun e9 H11 ne9 u11 f9 => ?_⟩
    have t11 := t10.trans u11
    refine ⟨small 5 (by decide), fun g1 ng1 => ?_⟩
    have u12 := same_upd (o := .lst [V.ref e5, .ref e6, .ref e7, .ref e8, .ref e9]) ng1
    have t12 := t11.trans u12
    refine ⟨g0, g1, _, _, rfl, rfl, (((((u7.trans u8).trans u9).trans u10).trans u11).trans u12) _ _ lat, upd_same, small 10 (by decide), fun m1 nm1 => ?_⟩
    have u13 := same_upd (o := .lst [V.ref e0, .ref e1, .ref e2, .ref e3, .ref e4, .ref e5, .ref e6, .ref e7, .ref e8, .ref e9]) nm1
    have t13 := t12.trans u13
    have lat1 : ∀ {H : Hp}, upd H m1 (.lst [V.ref e0, .ref e1, .ref e2, .ref e3, .ref e4, .ref e5, .ref e6, .ref e7, .ref e8, .ref e9]) m1 = some (.lst [V.ref e0, .ref e1, .ref e2, .ref e3, .ref e4, .ref e5, .ref e6, .ref e7, .ref e8, .ref e9]) := upd_same
    refine ⟨_, rfl, ?_⟩
    refine ⟨_, rfl, t, _, 11, _, rfl, rfl, sqL_ext' ht t13, atI_nat (j := 11) rfl, made_e fun e10 H14 ne10 u14 f10 => ?_⟩
    have t14 := t13.trans u14
    refine fun e11 ne11 => ?_
    have t15 := t14.trans (same_upd (o := ExO (.ref T.f_NoWay) e11) ne11)
    have f11 : ∀ {H : Hp}, ErrV (upd H e11 (ExO (.ref T.f_NoWay) e11)) e11 T.f_NoWay := .inr upd_same
    have u15 := same_upd (o := ExO (.ref T.f_NoWay) e11) ne11
    refine fun e12 ne12 => ?_
    have t16 := t15.trans (same_upd (o := ExO (.ref T.f_NotBuilding) e12) ne12)
    have f12 : ∀ {H : Hp}, ErrV (upd H e12 (ExO (.ref T.f_NotBuilding) e12)) e12 T.f_NotBuilding := .inr upd_same
    have u16 := same_upd (o := ExO (.ref T.f_NotBuilding) e12) ne12
    refine ⟨_, rfl, t, _, 12, _, rfl, rfl, sqL_ext' ht t16, atI_nat (j := 12) rfl, made_e fun e13 H17 ne13 u17 f13 => ?_⟩
    have t17 := t16.trans u17
    refine fun e14 ne14 => ?_
    have t18 := t17.trans (same_upd (o := ExO (.ref T.f_NothingToUndo) e14) ne14)
    have f14 : ∀ {H : Hp}, ErrV (upd H e14 (ExO (.ref T.f_NothingToUndo) e14)) e14 T.f_NothingToUndo := .inr upd_same
    have u18 := same_upd (o := ExO (.ref T.f_NothingToUndo) e14) ne14
    refine ⟨small 5 (by decide), fun g2 ng2 => ?_⟩
    have u19 := same_upd (o := .lst [V.ref e10, .ref e11, .ref e12, .ref e13, .ref e14]) ng2
    have t19 := t18.trans u19
    refine ⟨m1, g2, _, _, rfl, rfl, (((((u14.trans u15).trans u16).trans u17).trans u18).trans u19) _ _ lat1, upd_same, small 15 (by decide), fun m2 nm2 => ?_⟩
    have u20 := same_upd (o := .lst [V.ref e0, .ref e1, .ref e2, .ref e3, .ref e4, .ref e5, .ref e6, .ref e7, .ref e8, .ref e9, .ref e10, .ref e11, .ref e12, .ref e13, .ref e14]) nm2
    have t20 := t19.trans u20
    have lat2 : ∀ {H : Hp}, upd H m2 (.lst [V.ref e0, .ref e1, .ref e2, .ref e3, .ref e4, .ref e5, .ref e6, .ref e7, .ref e8, .ref e9, .ref e10, .ref e11, .ref e12, .ref e13, .ref e14]) m2 = some (.lst [V.ref e0, .ref e1, .ref e2, .ref e3, .ref e4, .ref e5, .ref e6, .ref e7, .ref e8, .ref e9, .ref e10, .ref e11, .ref e12, .ref e13, .ref e14]) := upd_same
    have z19 := u20
    have z18 := u19.trans z19
    have z17 := u18.trans z18
    have z16 := u17.trans z17
    have z15 := u16.trans z16
    have z14 := u15.trans z15
    have z13 := u14.trans z14
    have z12 := u13.trans z13
    have z11 := u12.trans z12
    have z10 := u11.trans z11
    have z9 := u10.trans z10
    have z8 := u9.trans z9
    have z7 := u8.trans z8
    have z6 := u7.trans z7
    have z5 := u6.trans z6
    have z4 := u5.trans z5
    have z3 := u4.trans z4
    have z2 := u3.trans z3
    have z1 := u2.trans z2
    refine k m2 _ e0 e1 e2 e3 e4 e5 e6 e7 e8 e9 e10 e11 e12 e13 e14 ?_ t20 upd_same ⟨f0.on z1, f1.on z2, f2.on z3, f3.on z4, f4.on z5, f5.on z7, f5b.on z7, f6.on z8, f7.on z9, f8.on z10, f9.on z11, f10.on z14, f11.on z15, f12.on z16, f13.on z17, f14.on z18⟩
    exact t19.free nm2
theorem ok_named (T : Txt K mg) : FnOk P w K mg base CX0 3 T.f_named T.d_named ["_law_t"] (spAll T) := by
  have G_BadName_init : FnOk P w K mg base CX0 1 T.f_BadName_init T.d_BadName_init ["self", "name"] (spI T.f_BadName "name") := ok_iBadName T
  have G_DuplicateName_init : FnOk P w K mg base CX0 1 T.f_DuplicateName_init T.d_DuplicateName_init ["self", "name"] (spI T.f_DuplicateName "name") := ok_iDuplicateName T
  have G_UnknownName_init : FnOk P w K mg base CX0 1 T.f_UnknownName_init T.d_UnknownName_init ["self", "name"] (spI T.f_UnknownName "name") := ok_iUnknownName T
  have G_BadCount_init : FnOk P w K mg base CX0 1 T.f_BadCount_init T.d_BadCount_init ["self", "count"] (spI T.f_BadCount "count") := ok_iBadCount T
  have G_OutOfRange_init : FnOk P w K mg base CX0 1 T.f_OutOfRange_init T.d_OutOfRange_init ["self", "value"] (spI T.f_OutOfRange "value") := ok_iOutOfRange T
  have G_BadLine_init : FnOk P w K mg base CX0 1 T.f_BadLine_init T.d_BadLine_init ["self", "number", "text"] (spI2 T.f_BadLine) := ok_iBadLine T
  have G_BadText_init : FnOk P w K mg base CX0 1 T.f_BadText_init T.d_BadText_init ["self", "text"] (spI T.f_BadText "text") := ok_iBadText T
  have G_HasRound_init : FnOk P w K mg base CX0 1 T.f_HasRound_init T.d_HasRound_init ["self", "name"] (spI T.f_HasRound "name") := ok_iHasRound T
  have G_UselessLink_init : FnOk P w K mg base CX0 1 T.f_UselessLink_init T.d_UselessLink_init ["self", "name"] (spI T.f_UselessLink "name") := ok_iUselessLink T
  have G_BadJoint_init : FnOk P w K mg base CX0 1 T.f_BadJoint_init T.d_BadJoint_init ["self", "place"] (spI T.f_BadJoint "place") := ok_iBadJoint T
  have G_BadWay_init : FnOk P w K mg base CX0 1 T.f_BadWay_init T.d_BadWay_init ["self", "way"] (spI T.f_BadWay "way") := ok_iBadWay T
  have G_NoHarm_init : FnOk P w K mg base CX0 1 T.f_NoHarm_init T.d_NoHarm_init ["self", "kind"] (spI T.f_NoHarm "kind") := ok_iNoHarm T
  refine T.F_named.ok sc_named (fun vs H Q E h => ?_) (fun cdv A outer s H vs Q E hr h => ?_)
  · obtain ⟨t, w0, w1, w2, w3, w4, w5, w6, w7, w8, w9, w10, w11, w12, rfl, _⟩ := h
    rfl
  · obtain ⟨t, w0, w1, w2, w3, w4, w5, w6, w7, w8, w9, w10, w11, w12, rfl, ht, k⟩ := h
    refine ⟨_, (pss_cons (ps_set (i := 1) sc_named.nd rfl (Or.inl rfl) (pe_lst (pa_cons (pe_oexK (ks := ["name"]) (is := [0]) T.ox_BadName T.ix_BadName T.tx_BadName G_BadName_init (hr.mono (by decide)) T.kx_BadName_init_name pass0 rfl T.m_BadName (pk_cons (pe_ix ix_list (pv 0) pe_int (fun _ _ => rfl)) pk_nil)) (pa_cons (pe_oexK (ks := ["name"]) (is := [0]) T.ox_DuplicateName T.ix_DuplicateName T.tx_DuplicateName G_DuplicateName_init (hr.mono (by decide)) T.kx_DuplicateName_init_name pass0 rfl T.m_DuplicateName (pk_cons (pe_ix ix_list (pv 0) pe_int (fun _ _ => rfl)) pk_nil)) (pa_cons (pe_oexK (ks := ["name"]) (is := [0]) T.ox_UnknownName T.ix_UnknownName T.tx_UnknownName G_UnknownName_init (hr.mono (by decide)) T.kx_UnknownName_init_name pass0 rfl T.m_UnknownName (pk_cons (pe_ix ix_list (pv 0) pe_int (fun _ _ => rfl)) pk_nil)) (pa_cons (pe_oexK (ks := ["count"]) (is := [0]) T.ox_BadCount T.ix_BadCount T.tx_BadCount G_BadCount_init (hr.mono (by decide)) T.kx_BadCount_init_count pass0 rfl T.m_BadCount (pk_cons (pe_ix ix_list (pv 0) pe_int (fun _ _ => rfl)) pk_nil)) pa_nil))))))
    (pss_cons (ps_set (i := 1) sc_named.nd rfl (Or.inl rfl) (pe_op op_cat (pv 1) (pe_lst (pa_cons (pe_oexK (ks := ["value"]) (is := [0]) T.ox_OutOfRange T.ix_OutOfRange T.tx_OutOfRange G_OutOfRange_init (hr.mono (by decide)) T.kx_OutOfRange_init_value pass0 rfl T.m_OutOfRange (pk_cons (pe_ix ix_list (pv 0) pe_int (fun _ _ => rfl)) pk_nil)) (pa_cons (pe_oexK (ks := ["text", "number"]) (is := [1, 0]) T.ox_BadLine T.ix_BadLine T.tx_BadLine G_BadLine_init (hr.mono (by decide)) T.kx_BadLine_init_text_number pass0 rfl T.m_BadLine (pk_cons (pe_ix ix_list (pv 0) pe_int (fun _ _ => rfl)) (pk_cons (pe_ix ix_list (pv 0) pe_int (fun _ _ => rfl)) pk_nil))) (pa_cons (pe_oexK (ks := ["text"]) (is := [0]) T.ox_BadText T.ix_BadText T.tx_BadText G_BadText_init (hr.mono (by decide)) T.kx_BadText_init_text pass0 rfl T.m_BadText (pk_cons (pe_ix ix_list (pv 0) pe_int (fun _ _ => rfl)) pk_nil)) (pa_cons (pe_oexK (ks := ["name"]) (is := [0]) T.ox_HasRound T.ix_HasRound T.tx_HasRound G_HasRound_init (hr.mono (by decide)) T.kx_HasRound_init_name pass0 rfl T.m_HasRound (pk_cons (pe_ix ix_list (pv 0) pe_int (fun _ _ => rfl)) pk_nil)) pa_nil)))))))
    (pss_cons (ps_set (i := 1) sc_named.nd rfl (Or.inl rfl) (pe_op op_cat (pv 1) (pe_lst (pa_cons (pe_oexK (ks := ["name"]) (is := [0]) T.ox_UselessLink T.ix_UselessLink T.tx_UselessLink G_UselessLink_init (hr.mono (by decide)) T.kx_UselessLink_init_name pass0 rfl T.m_UselessLink (pk_cons (pe_ix ix_list (pv 0) pe_int (fun _ _ => rfl)) pk_nil)) (pa_cons (pe_oexK (ks := ["place"]) (is := [0]) T.ox_BadJoint T.ix_BadJoint T.tx_BadJoint G_BadJoint_init (hr.mono (by decide)) T.kx_BadJoint_init_place pass0 rfl T.m_BadJoint (pk_cons (pe_ix ix_list (pv 0) pe_int (fun _ _ => rfl)) pk_nil)) (pa_cons (pe_oexK (ks := ["way"]) (is := [0]) T.ox_BadWay T.ix_BadWay T.tx_BadWay G_BadWay_init (hr.mono (by decide)) T.kx_BadWay_init_way pass0 rfl T.m_BadWay (pk_cons (pe_ix ix_list (pv 0) pe_int (fun _ _ => rfl)) pk_nil)) (pa_cons (pe_exc0 PySem.F.excBase_ValueError T.xq_NoWay T.m_NoWay T.xk_NoWay rfl) (pa_cons (pe_exc0 PySem.F.excBase_ValueError T.xq_NotBuilding T.m_NotBuilding T.xk_NotBuilding rfl) pa_nil))))))))
    (pss_one (ps_ret (pe_op op_cat (pv 1) (pe_lst (pa_cons (pe_oexK (ks := ["kind"]) (is := [0]) T.ox_NoHarm T.ix_NoHarm T.tx_NoHarm G_NoHarm_init (hr.mono (by decide)) T.kx_NoHarm_init_kind pass0 rfl T.m_NoHarm (pk_cons (pe_ix ix_list (pv 0) pe_int (fun _ _ => rfl)) pk_nil)) (pa_cons (pe_exc0 PySem.F.excBase_ValueError T.xq_NothingToUndo T.m_NothingToUndo T.xk_NothingToUndo rfl) pa_nil))))))))), ?_⟩
    have small : ∀ n : Nat, n ≤ 20 → n ≤ sizeLine := fun n h => Nat.le_trans h (by decide)
    have one : 1 ≤ 1000 := by decide
    have t0 : Same H H := Same.refl H
    refine ⟨_, rfl, t, _, 0, _, rfl, rfl, sqL_ext' ht t0, atI_nat (j := 0) rfl, made_eK fun e0 H1 ne0 u1 f0 => ?_⟩
    have t1 := t0.trans u1
    refine ⟨_, rfl, t, _, 1, _, rfl, rfl, sqL_ext' ht t1, atI_nat (j := 1) rfl, made_eK fun e1 H2 ne1 u2 f1 => ?_⟩
    have t2 := t1.trans u2
    refine ⟨_, rfl, t, _, 2, _, rfl, rfl, sqL_ext' ht t2, atI_nat (j := 2) rfl, made_eK fun e2 H3 ne2 u3 f2 => ?_⟩
    have t3 := t2.trans u3
    refine ⟨_, rfl, t, _, 3, _, rfl, rfl, sqL_ext' ht t3, atI_nat (j := 3) rfl, made_eK fun e3 H4 ne3 u4 f3 => ?_⟩
    have t4 := t3.trans u4
    refine ⟨small 4 (by decide), fun g0 ng0 => ?_⟩
    have u5 := same_upd (o := .lst [V.ref e0, .ref e1, .ref e2, .ref e3]) ng0
    have t5 := t4.trans u5
    have lat : ∀ {H : Hp}, upd H g0 (.lst [V.ref e0, .ref e1, .ref e2, .ref e3]) g0 = some (.lst [V.ref e0, .ref e1, .ref e2, .ref e3]) := upd_same
    refine ⟨_, rfl, ?_⟩
    refine ⟨_, rfl, t, _, 4, _, rfl, rfl, sqL_ext' ht t5, atI_nat (j := 4) rfl, made_eK fun e4 H6 ne4 u6 f4 => ?_⟩
    have t6 := t5.trans u6
    refine ⟨_, rfl, t, _, 6, _, rfl, rfl, sqL_ext' ht t6, atI_nat (j := 6) rfl, _, rfl, t, _, 5, _, rfl, rfl, sqL_ext' ht t6, atI_nat (j := 5) rfl, made_lK fun e5 H7 ne5 u7 f5 f5b => ?_⟩
    have t7 := t6.trans u7
    refine ⟨_, rfl, t, _, 7, _, rfl, rfl, sqL_ext' ht t7, atI_nat (j := 7) rfl, made_eK fun e6 H8 ne6 u8 f6 => ?_⟩
    have t8 := t7.trans u8
    refine ⟨_, rfl, t, _, 8, _, rfl, rfl, sqL_ext' ht t8, atI_nat (j := 8) rfl, made_eK fun e7 H9 ne7 u9 f7 => ?_⟩
    have t9 := t8.trans u9
    refine ⟨small 4 (by decide), fun g1 ng1 => ?_⟩
    have u10 := same_upd (o := .lst [V.ref e4, .ref e5, .ref e6, .ref e7]) ng1
    have t10 := t9.trans u10
    refine ⟨g0, g1, _, _, rfl, rfl, ((((u6.trans u7).trans u8).trans u9).trans u10) _ _ lat, upd_same, small 8 (by decide), fun m1 nm1 => ?_⟩
    have u11 := same_upd (o := .lst [V.ref e0, .ref e1, .ref e2, .ref e3, .ref e4, .ref e5, .ref e6, .ref e7]) nm1
    have t11 := t10.trans u11
    have lat1 : ∀ {H : Hp}, upd H m1 (.lst [V.ref e0, .ref e1, .ref e2, .ref e3, .ref e4, .ref e5, .ref e6, .ref e7]) m1 = some (.lst [V.ref e0, .ref e1, .ref e2, .ref e3, .ref e4, .ref e5, .ref e6, .ref e7]) := upd_same
    refine ⟨_, rfl, ?_⟩
    refine ⟨_, rfl, t, _, 9, _, rfl, rfl, sqL_ext' ht t11, atI_nat (j := 9) rfl, made_eK fun e8 H12 ne8 u12 f8 => ?_⟩
    have t12 := t11.trans u12
    refine ⟨_, rfl, t, _, 10, _, rfl, rfl, sqL_ext' ht t12, atI_nat (j := 10) rfl, made_eK fun e9 H13 ne9 u13 f9 => ?_⟩
    have t13 := t12.trans u13
    refine ⟨_, rfl, t, _, 11, _, rfl, rfl, sqL_ext' ht t13, atI_nat (j := 11) rfl, made_eK fun e10 H14 ne10 u14 f10 => ?_⟩
    have t14 := t13.trans u14
    refine fun e11 ne11 => ?_
    have t15 := t14.trans (same_upd (o := ExO (.ref T.f_NoWay) e11) ne11)
    have f11 : ∀ {H : Hp}, ErrV (upd H e11 (ExO (.ref T.f_NoWay) e11)) e11 T.f_NoWay := .inr upd_same
    have u15 := same_upd (o := ExO (.ref T.f_NoWay) e11) ne11
    refine fun e12 ne12 => ?_
    have t16 := t15.trans (same_upd (o := ExO (.ref T.f_NotBuilding) e12) ne12)
    have f12 : ∀ {H : Hp}, ErrV (upd H e12 (ExO (.ref T.f_NotBuilding) e12)) e12 T.f_NotBuilding := .inr upd_same
    have u16 := same_upd (o := ExO (.ref T.f_NotBuilding) e12) ne12
    refine ⟨small 5 (by decide), fun g2 ng2 => ?_⟩
    have u17 := same_upd (o := .lst [V.ref e8, .ref e9, .ref e10, .ref e11, .ref e12]) ng2
    have t17 := t16.trans u17
    refine ⟨m1, g2, _, _, rfl, rfl, (((((u12.trans u13).trans u14).trans u15).trans u16).trans u17) _ _ lat1, upd_same, small 13 (by decide), fun m2 nm2 => ?_⟩
    have u18 := same_upd (o := .lst [V.ref e0, .ref e1, .ref e2, .ref e3, .ref e4, .ref e5, .ref e6, .ref e7, .ref e8, .ref e9, .ref e10, .ref e11, .ref e12]) nm2
    have t18 := t17.trans u18
    have lat2 : ∀ {H : Hp}, upd H m2 (.lst [V.ref e0, .ref e1, .ref e2, .ref e3, .ref e4, .ref e5, .ref e6, .ref e7, .ref e8, .ref e9, .ref e10, .ref e11, .ref e12]) m2 = some (.lst [V.ref e0, .ref e1, .ref e2, .ref e3, .ref e4, .ref e5, .ref e6, .ref e7, .ref e8, .ref e9, .ref e10, .ref e11, .ref e12]) := upd_same
    refine ⟨_, rfl, ?_⟩
    refine ⟨_, rfl, t, _, 12, _, rfl, rfl, sqL_ext' ht t18, atI_nat (j := 12) rfl, made_eK fun e13 H19 ne13 u19 f13 => ?_⟩
    have t19 := t18.trans u19
    refine fun e14 ne14 => ?_
    have t20 := t19.trans (same_upd (o := ExO (.ref T.f_NothingToUndo) e14) ne14)
    have f14 : ∀ {H : Hp}, ErrV (upd H e14 (ExO (.ref T.f_NothingToUndo) e14)) e14 T.f_NothingToUndo := .inr upd_same
    have u20 := same_upd (o := ExO (.ref T.f_NothingToUndo) e14) ne14
    refine ⟨small 2 (by decide), fun g3 ng3 => ?_⟩
    have u21 := same_upd (o := .lst [V.ref e13, .ref e14]) ng3
    have t21 := t20.trans u21
    refine ⟨m2, g3, _, _, rfl, rfl, ((u19.trans u20).trans u21) _ _ lat2, upd_same, small 15 (by decide), fun m3 nm3 => ?_⟩
    have u22 := same_upd (o := .lst [V.ref e0, .ref e1, .ref e2, .ref e3, .ref e4, .ref e5, .ref e6, .ref e7, .ref e8, .ref e9, .ref e10, .ref e11, .ref e12, .ref e13, .ref e14]) nm3
    have t22 := t21.trans u22
    have lat3 : ∀ {H : Hp}, upd H m3 (.lst [V.ref e0, .ref e1, .ref e2, .ref e3, .ref e4, .ref e5, .ref e6, .ref e7, .ref e8, .ref e9, .ref e10, .ref e11, .ref e12, .ref e13, .ref e14]) m3 = some (.lst [V.ref e0, .ref e1, .ref e2, .ref e3, .ref e4, .ref e5, .ref e6, .ref e7, .ref e8, .ref e9, .ref e10, .ref e11, .ref e12, .ref e13, .ref e14]) := upd_same
    have z21 := u22
    have z20 := u21.trans z21
    have z19 := u20.trans z20
    have z18 := u19.trans z19
    have z17 := u18.trans z18
    have z16 := u17.trans z17
    have z15 := u16.trans z16
    have z14 := u15.trans z15
    have z13 := u14.trans z14
    have z12 := u13.trans z13
    have z11 := u12.trans z12
    have z10 := u11.trans z11
    have z9 := u10.trans z10
    have z8 := u9.trans z9
    have z7 := u8.trans z8
    have z6 := u7.trans z7
    have z5 := u6.trans z6
    have z4 := u5.trans z5
    have z3 := u4.trans z4
    have z2 := u3.trans z3
    have z1 := u2.trans z2
    refine k m3 _ e0 e1 e2 e3 e4 e5 e6 e7 e8 e9 e10 e11 e12 e13 e14 ?_ t22 upd_same ⟨f0.on z1, f1.on z2, f2.on z3, f3.on z4, f4.on z6, f5.on z7, f5b.on z7, f6.on z8, f7.on z9, f8.on z12, f9.on z13, f10.on z14, f11.on z15, f12.on z16, f13.on z19, f14.on z20⟩
    exact t21.free nm3
def spKeeps (T : Txt K mg) : Sp := fun vs H Q _ => ∃ (m t : Addr) (e0 e1 e2 e3 e4 e5 e6 e7 e8 e9 e10 e11 e12 e13 e14 : Addr) (w0 w1 w2 w3 w4 w5 w6 w7 w8 w9 w10 w11 w12 : V), vs = [.ref m, .ref t] ∧ H m = some (.lst [.ref e0, .ref e1, .ref e2, .ref e3, .ref e4, .ref e5, .ref e6, .ref e7, .ref e8, .ref e9, .ref e10, .ref e11, .ref e12, .ref e13, .ref e14]) ∧ SqL K H t [w0, w1, w2, w3, w4, w5, w6, w7, w8, w9, w10, w11, w12] ∧ MadeE T H e0 e1 e2 e3 e4 e5 e6 e7 e8 e9 e10 e11 e12 e13 e14 w0 w1 w2 w3 w4 w5 w6 w7 w8 w9 w10 w11 w12 ∧ (∀ z ∈ [w0, w1, w2, w3, w4, w5, w6, w7, w8, w9, w10, w11, w12], plainW z = true) ∧ ∀ H', Same H H' → Q (.bl true) H'
theorem ok_keeps (T : Txt K mg) : FnOk P w K mg base CX0 3 T.f_keeps T.d_keeps ["_law_made", "_law_t"] (spKeeps T) := by
  have G_right : FnOk P w K mg base CX0 2 T.f_right T.d_right ["_law_e", "_law_amount"] (spRight T) := ok_right T
  refine T.F_keeps.ok sc_keeps (fun vs H Q E h => ?_) (fun cdv A outer s H vs Q E hr h => ?_)
  · obtain ⟨m, t, e0, e1, e2, e3, e4, e5, e6, e7, e8, e9, e10, e11, e12, e13, e14, w0, w1, w2, w3, w4, w5, w6, w7, w8, w9, w10, w11, w12, rfl, _⟩ := h
    rfl
  · obtain ⟨m, t, e0, e1, e2, e3, e4, e5, e6, e7, e8, e9, e10, e11, e12, e13, e14, w0, w1, w2, w3, w4, w5, w6, w7, w8, w9, w10, w11, w12, rfl, hm, ht, M, pl, k⟩ := h
    refine ⟨_, (C8.pss_cut (ps_for PassesOwn.never rfl (pi_range1 rfl T.n_range (pa_cons pe_int pa_nil)) (pg_name (i := 2) sc_keeps.nd rfl (Or.inl rfl))
      (pss_one (ps_if (pt_not (pt_val (pe_call G_right (hr.mono (by decide)) rfl T.m_right T.F_right.kp T.b_right .nil pass0 (pa_cons (pe_ix ix_list (pv 0) (pv 2) (fun _ _ => rfl)) (pa_cons (pv 2) pa_nil)))))
      (pss_one (ps_ret pe_bl))
      pss_nil)))
    (pss_cons (ps_if (pt_cmpR (op_neSameW hr.units0) (pe_lst (pa_cons (pe_xv T.xf_BadName T.no_BadName_name (pe_ix ix_list (pv 0) pe_int (fun _ _ => rfl))) (pa_cons (pe_xv T.xf_DuplicateName T.no_DuplicateName_name (pe_ix ix_list (pv 0) pe_int (fun _ _ => rfl))) (pa_cons (pe_xv T.xf_UnknownName T.no_UnknownName_name (pe_ix ix_list (pv 0) pe_int (fun _ _ => rfl))) (pa_cons (pe_xv T.xf_BadCount T.no_BadCount_count (pe_ix ix_list (pv 0) pe_int (fun _ _ => rfl))) (pa_cons (pe_xv T.xf_OutOfRange T.no_OutOfRange_value (pe_ix ix_list (pv 0) pe_int (fun _ _ => rfl))) pa_nil)))))) (pe_slice sl_list (pv 1) po_none (po_some pe_int)) (nomark _))
      (pss_one (ps_ret pe_bl))
      pss_nil)
    (pss_cons (ps_if (pt_cmpR (op_neSameW hr.units0) (pe_lst (pa_cons (pe_xv T.xf_BadLine T.no_BadLine_number (pe_ix ix_list (pv 0) pe_int (fun _ _ => rfl))) (pa_cons (pe_xv T.xf_BadLine T.no_BadLine_text (pe_ix ix_list (pv 0) pe_int (fun _ _ => rfl))) (pa_cons (pe_xv T.xf_BadText T.no_BadText_text (pe_ix ix_list (pv 0) pe_int (fun _ _ => rfl))) (pa_cons (pe_xv T.xf_HasRound T.no_HasRound_name (pe_ix ix_list (pv 0) pe_int (fun _ _ => rfl))) (pa_cons (pe_xv T.xf_UselessLink T.no_UselessLink_name (pe_ix ix_list (pv 0) pe_int (fun _ _ => rfl))) pa_nil)))))) (pe_slice sl_list (pv 1) (po_some pe_int) (po_some pe_int)) (nomark _))
      (pss_one (ps_ret pe_bl))
      pss_nil)
    (pss_one (ps_ret (pe_cmpR (op_eqSameW hr.units0) (pe_lst (pa_cons (pe_xv T.xf_BadJoint T.no_BadJoint_place (pe_ix ix_list (pv 0) pe_int (fun _ _ => rfl))) (pa_cons (pe_xv T.xf_BadWay T.no_BadWay_way (pe_ix ix_list (pv 0) pe_int (fun _ _ => rfl))) (pa_cons (pe_xv T.xf_NoHarm T.no_NoHarm_kind (pe_ix ix_list (pv 0) pe_int (fun _ _ => rfl))) pa_nil)))) (pe_slice sl_list (pv 1) (po_some pe_int) po_none) (nomark _))))))), ?_⟩
    refine ⟨fun σ H' => ∃ x, σ = [some (.ref m), some (.ref t), x] ∧ Same H H', ?_, ?_⟩
    · refine ⟨15, rfl, by decide, by decide, ?_⟩
      refine for_range (n := 15) (fun i σ H' => ∃ x, σ = [some (.ref m), some (.ref t), x] ∧ Same H H') ⟨none, rfl, Same.refl H⟩ ?_ (fun σ H' h => h)
      rintro i σ H' hi ⟨x, rfl, s1⟩
      obtain ⟨e, D, ee, eD, he⟩ := M.nth hi
      have e0 : (0 : Int) + (i : Int) = (i : Int) := Int.zero_add _
      refine ⟨_, rfl, _, rfl, m, _, _, _, rfl, rfl, SqL.of (s1 _ _ hm), by rw [e0]; exact atI_nat ee, ?_⟩
      refine ⟨_, rfl, e, D, i, by rw [e0]; rfl, eD, he.on s1, fun H2 s2 => ⟨true, rfl, iteF ⟨_, rfl, s1.trans s2⟩⟩⟩
    rintro σ H1 ⟨x, rfl, s1⟩
    have small : ∀ n : Nat, n ≤ 20 → n ≤ sizeLine := fun n h => Nat.le_trans h (by decide)
    refine ⟨_, rfl, m, _, 0, _, rfl, rfl, SqL.of (s1 _ _ hm), atI_nat (j := 0) rfl, e0, w0, rfl, M.q0.on s1, _, rfl, m, _, 1, _, rfl, rfl, SqL.of (s1 _ _ hm), atI_nat (j := 1) rfl, e1, w1, rfl, M.q1.on s1, _, rfl, m, _, 2, _, rfl, rfl, SqL.of (s1 _ _ hm), atI_nat (j := 2) rfl, e2, w2, rfl, M.q2.on s1, _, rfl, m, _, 3, _, rfl, rfl, SqL.of (s1 _ _ hm), atI_nat (j := 3) rfl, e3, w3, rfl, M.q3.on s1, _, rfl, m, _, 4, _, rfl, rfl, SqL.of (s1 _ _ hm), atI_nat (j := 4) rfl, e4, w4, rfl, M.q4.on s1, small 5 (by decide), fun l1 n1 => ?_⟩
    have s2 := s1.trans (same_upd (o := .lst [w0, w1, w2, w3, w4]) n1)
    refine ⟨_, rfl, 5, rfl, t, _, rfl, s2.seq ht, fun p1 np1 => ?_⟩
    have s3 := s2.trans (same_upd (o := .lst (cutV [w0, w1, w2, w3, w4, w5, w6, w7, w8, w9, w10, w11, w12] none (some 5))) np1)
    refine ⟨l1, p1, [w0, w1, w2, w3, w4], rfl, rfl, SqL.of (same_upd np1 _ _ upd_same), SqL.of upd_same, fun z hz => pl z ?_, _, rfl, iteF ?_⟩
    · simp only [List.mem_cons, List.not_mem_nil, or_false] at hz ⊢
      rcases hz with h | h | h | h | h <;> simp [h]
    refine ⟨_, rfl, m, _, 5, _, rfl, rfl, SqL.of (s3 _ _ hm), atI_nat (j := 5) rfl, e5, w5, rfl, M.q5.on s3, _, rfl, m, _, 5, _, rfl, rfl, SqL.of (s3 _ _ hm), atI_nat (j := 5) rfl, e5, w6, rfl, M.q6.on s3, _, rfl, m, _, 6, _, rfl, rfl, SqL.of (s3 _ _ hm), atI_nat (j := 6) rfl, e6, w7, rfl, M.q7.on s3, _, rfl, m, _, 7, _, rfl, rfl, SqL.of (s3 _ _ hm), atI_nat (j := 7) rfl, e7, w8, rfl, M.q8.on s3, _, rfl, m, _, 8, _, rfl, rfl, SqL.of (s3 _ _ hm), atI_nat (j := 8) rfl, e8, w9, rfl, M.q9.on s3, small 5 (by decide), fun l2 n2 => ?_⟩
    have s4 := s3.trans (same_upd (o := .lst [w5, w6, w7, w8, w9]) n2)
    refine ⟨_, rfl, 5, rfl, 10, rfl, t, _, rfl, s4.seq ht, fun p2 np2 => ?_⟩
    have s5 := s4.trans (same_upd (o := .lst (cutV [w0, w1, w2, w3, w4, w5, w6, w7, w8, w9, w10, w11, w12] (some 5) (some 10))) np2)
    refine ⟨l2, p2, [w5, w6, w7, w8, w9], rfl, rfl, SqL.of (same_upd np2 _ _ upd_same), SqL.of upd_same, fun z hz => pl z ?_, _, rfl, iteF ?_⟩
    · simp only [List.mem_cons, List.not_mem_nil, or_false] at hz ⊢
      rcases hz with h | h | h | h | h <;> simp [h]
    refine ⟨_, rfl, m, _, 9, _, rfl, rfl, SqL.of (s5 _ _ hm), atI_nat (j := 9) rfl, e9, w10, rfl, M.q10.on s5, _, rfl, m, _, 10, _, rfl, rfl, SqL.of (s5 _ _ hm), atI_nat (j := 10) rfl, e10, w11, rfl, M.q11.on s5, _, rfl, m, _, 13, _, rfl, rfl, SqL.of (s5 _ _ hm), atI_nat (j := 13) rfl, e13, w12, rfl, M.q14.on s5, small 3 (by decide), fun l3 n3 => ?_⟩
    have s6 := s5.trans (same_upd (o := .lst [w10, w11, w12]) n3)
    refine ⟨_, rfl, 10, rfl, t, _, rfl, s6.seq ht, fun p3 np3 => ?_⟩
    have s7 := s6.trans (same_upd (o := .lst (cutV [w0, w1, w2, w3, w4, w5, w6, w7, w8, w9, w10, w11, w12] (some 10) none)) np3)
    refine ⟨l3, p3, [w10, w11, w12], rfl, rfl, SqL.of (same_upd np3 _ _ upd_same), SqL.of upd_same, fun z hz => pl z ?_, k _ s7⟩
    simp only [List.mem_cons, List.not_mem_nil, or_false] at hz ⊢
    rcases hz with h | h | h <;> simp [h]
end

/-! ### things, the law -/
section
variable {P : Program} {w : World} {K : PySem.W.Frag} {mg : Str → Option Value} {base : Heap}
def signs : Str := (" !\"#$&'()*+,-./0123456789:;<=>?@ABCDEFGHIJKLMNOPQRSTUVWXYZ[\\]^_`" : Str) ++ ("abcdefghijklmnopqrstuvwxyz{|}~\n" : Str)
theorem wd_signs : Wd 200 signs := by decide +kernel
theorem signs_pos : 0 < signs.length := by decide +kernel
def spSigns (z : Str) : Sp := fun vs H Q _ => vs = [] ∧ Q (.str z) H
theorem ok_signs (T : Txt K mg) : FnOk P w K mg base CX0 1 T.f_signs T.d_signs [] (spSigns signs) := by
  refine T.F_signs.ok sc_signs (fun vs H Q E h => ?_) (fun cdv A outer s H vs Q E hr h => ?_)
  · obtain ⟨rfl, _⟩ := h
    rfl
  · obtain ⟨rfl, k⟩ := h
    refine ⟨_, (pss_cons (ps_set (i := 0) sc_signs.nd rfl (Or.inl rfl) pe_str)
    (pss_one (ps_ret (pe_op op_add_str (pv 0) pe_str)))), ?_⟩
    exact ⟨_, rfl, _, _, rfl, rfl, by decide +kernel, k⟩
theorem DSt.learn {G H H' : Hp} {s : Addr} {m : Nat} {p : Addr} {o : HO} (d : DSt G H s m) (sm : Same H H') (hp : H p = none) (hp' : H' p = some o) : DSt (upd G p o) H' s m := by
  obtain ⟨b, c, gs, cs, n, d, hn⟩ := d
  have n1 : s ≠ p := ne_of_none d.hs hp
  have n2 : b ≠ p := ne_of_none d.hb hp
  have n3 : c ≠ p := ne_of_none d.hc hp
  refine ⟨b, c, gs, cs, n, ⟨fun a u e => ?_, ?_, ?_, ?_, sm _ _ d.hs, sm _ _ d.hb, sm _ _ d.hc, d.ne, d.pos⟩, hn⟩
  · by_cases ha : a = p
    · subst ha; rw [upd_same] at e; rw [hp']; exact e
    · rw [upd_ne ha] at e; exact sm _ _ (d.same a u e)
  · rw [upd_ne n1]; exact d.fs
  · rw [upd_ne n2]; exact d.fb
  · rw [upd_ne n3]; exact d.fc
def spThing : Sp := fun vs H Q _ => ∃ (G : Hp) (s : Addr) (m : Nat), vs = [.ref s] ∧ DSt G H s m ∧ m + 10 < 1000000 ∧ ∀ (v : V) (H' : Hp), plainW v = true → DSt G H' s (m + 10) → Q v H'
theorem s200 {z : Int} (h : z ≤ 100000) : z < 2 ^ 200 := Int.lt_of_le_of_lt h (by decide)
theorem ok_thing (T : Txt K mg) : FnOk P w K mg base CX0 3 T.f_thing T.d_thing ["_law_state"] spThing := by
  have G_draw : FnOk P w K mg base CX0 1 T.f_draw T.d_draw ["_law_state", "_law_size"] spDraw := ok_draw T
  have G_signs : FnOk P w K mg base CX0 1 T.f_signs T.d_signs [] (spSigns signs) := ok_signs T
  have G_Ratio_init : FnOk P w K mg base CX0 1 T.f_Ratio_init T.d_Ratio_init ["self", "top", "bottom"] (spInit T.f_Ratio) := ok_init T
  refine T.F_thing.ok sc_thing (fun vs H Q E h => ?_) (fun cdv A outer s H vs Q E hr h => ?_)
  · obtain ⟨G, a, m, rfl, _⟩ := h
    rfl
  · obtain ⟨G, st, m, rfl, d, hm, k⟩ := h
    refine ⟨_, (pss_cons (ps_set (i := 1) sc_thing.nd rfl (Or.inl rfl) (pe_op op_sub (pe_call G_draw (hr.mono (by decide)) rfl T.m_draw T.F_draw.kp T.b_draw .nil pass0 (pa_cons (pv 0) (pa_cons pe_int pa_nil))) pe_int))
    (pss_cons (ps_set (i := 2) sc_thing.nd rfl (Or.inr rfl) (pe_call0 G_signs (hr.mono (by decide)) rfl T.m_signs T.F_signs.kp T.b_signs .nil pass0))
    (pss_cons (ps_set (i := 3) sc_thing.nd rfl (Or.inl rfl) (pe_join pe_str (pe_lc (own := [("_law_k", 5)]) (g := gName 5) (tt := tYes) rfl sc_thing.nd (pi_range1 rfl T.n_range (pa_cons (pe_call G_draw (hr.mono (by decide)) rfl T.m_draw T.F_draw.kp T.b_draw .nil pass0 (pa_cons (pv 0) (pa_cons pe_int pa_nil))) pa_nil)) (blkOk_by (N := ["_law_state", "_law_amount", "_law_signs_here", "_law_word", "_law_things", "_law_k"]) (sc := defScope s_thing) (by decide +kernel)) (fun _ _ _ _ _ => pg_name (i := 5) sc_thing.nd rfl (Or.inl rfl)) (fun _ _ _ _ _ => pts_nil) (fun _ _ _ _ _ => (pe_ix ix_str (pv 2) (pe_call G_draw (hr.mono (by decide)) rfl T.m_draw T.F_draw.kp T.b_draw .nil pass0 (pa_cons (pv 0) (pa_cons (pe_callB call_len_str (by rfl) T.n_len (by decide +kernel) (pa_cons (pv 2) pa_nil)) pa_nil))) (fun _ _ => rfl))))))
    (pss_cons (ps_set (i := 4) sc_thing.nd rfl (Or.inl rfl) (pe_lst (pa_cons (pv 3) (pa_cons (pv 1) (pa_cons pe_non (pa_cons (pe_tup (pa_cons (pv 3) (pa_cons (pv 1) (pa_cons pe_int pa_nil)))) (pa_cons (pe_op op_sub (pe_un un_neg (pe_op op_pow pe_int pe_int)) (pv 1)) (pa_cons pe_str (pa_cons pe_int (pa_cons (pe_make T.mk_Ratio G_Ratio_init (hr.mono (by decide)) rfl T.m_Ratio T.b2_Ratio_init T.v2_Ratio_init pass0 (pa_cons (pv 1) (pa_cons pe_int pa_nil))) pa_nil))))))))))
    (pss_one (ps_ret (pe_ix ix_list (pv 4) (pe_call G_draw (hr.mono (by decide)) rfl T.m_draw T.F_draw.kp T.b_draw .nil pass0 (pa_cons (pv 0) (pa_cons pe_int pa_nil))) (fun _ _ => rfl)))))))), ?_⟩
    refine ⟨_, rfl, G, st, m, 2000001, rfl, d, by omega, by decide, by decide, fun r H1 r0 r1 d1 => ?_⟩
    refine ⟨_, _, rfl, rfl, ?_⟩
    refine ⟨rfl, ?_⟩
    refine ⟨⟨_, rfl⟩, ?_⟩
    refine ⟨_, rfl, G, st, _, 6, rfl, d1, by omega, by decide, by decide, fun n H2 n0 n1 d2 => ?_⟩
    obtain ⟨j, rfl⟩ : ∃ j : Nat, n = (j : Int) := ⟨n.toNat, by omega⟩
    refine ⟨_, rfl, by omega, by omega, fun D hD => ?_⟩
    have hs0 := signs_pos
    have hs := wd_signs.1
    refine lc_range (lo := 0) (n := j) (fun i H6 => ∃ zs : List Str, zs.length = i ∧ (∀ z ∈ zs, Wd 1 z) ∧ DSt (upd G D (.lst (zs.map V.str))) H6 st (m + 2 + i)) ⟨[], rfl, by simp, d2.new hD⟩ ?_ ?_
    · intro i H6 hi ⟨zs, hc, hb, d6⟩
      refine ⟨rfl, _, rfl, _, rfl, _, rfl, signs, rfl, wd_signs.size (by decide), ?_⟩
      refine ⟨_, st, m + 2 + i, _, rfl, d6, by omega, by omega, s200 (by omega), fun z H7 z0 z1 d7 => ?_⟩
      obtain ⟨c, ec, c1⟩ := sign_at z0 z1 wd_signs
      refine ⟨signs, z, c, rfl, rfl, wd_signs.size (by decide), ec, zs.map V.str, d7.same _ _ upd_same, small1000 (by rw [List.length_map]; omega), zs ++ [⟨#[c]⟩], by rw [List.length_append, hc]; rfl, ?_, ?_⟩
      · intro x hx
        rcases List.mem_append.mp hx with hx | hx
        · exact hb x hx
        · rw [List.mem_singleton.mp hx]; exact .one c1
      · have := d7.put (o := .lst (zs.map V.str ++ [.str ⟨#[c]⟩])) upd_same
        rw [upd_upd] at this
        rw [List.map_append]
        exact this
    rintro H6 ⟨zs, hc, hb, d6⟩
    have hsum := len_sum zs hb
    refine ⟨⟨#[]⟩, D, zs, rfl, rfl, .inl (SqL.of (d6.same _ _ upd_same)), ?_, ?_⟩
    · show _ + _ * 0 ≤ _
      omega
    refine ⟨_, rfl, _, rfl, _, rfl, _, rfl, by show 3 ≤ sizeLine; decide, fun tp ntp => ?_⟩
    refine ⟨10, 28, rfl, rfl, ⟨by decide, by decide, by decide⟩, _, rfl, _, rfl, _, _, rfl, rfl, _, rfl, ?_⟩
    refine fun x dx nx ndx ne => ⟨x, dx, _, 7, rfl, upd_same, by decide, (by show (7 : Nat) < 2 ^ 8000; decide +kernel), fun H7 r7 st7 => ⟨rfl, ?_⟩⟩
    have s7 := Same.made nx ndx st7
    refine ⟨by show 8 ≤ sizeLine; decide, fun l hl => ?_⟩
    have d8 : ∀ {o : HO}, DSt (upd G l o) (upd H7 l o) st (m + 2 + j) := (((d6.less (same_upd (d2.free hD))).on (same_upd ntp)).on s7).new hl
    refine ⟨_, rfl, _, rfl, _, st, _, 8, rfl, d8, by omega, by decide, by decide, fun q H9 q0 q1 d9 => ?_⟩
    have fin : ∀ v, atI [V.str (Txt.join ⟨#[]⟩ zs), .int (r - 1000000), .non, .ref tp, .int (-10 ^ (28 : Int).toNat - (r - 1000000)), .str "", .int 0, .ref x] q = some v → plainW v = true := by
      intro v hv
      have h : q = 0 ∨ q = 1 ∨ q = 2 ∨ q = 3 ∨ q = 4 ∨ q = 5 ∨ q = 6 ∨ q = 7 := by omega
      rcases h with rfl | rfl | rfl | rfl | rfl | rfl | rfl | rfl <;> (injection hv with hv; rw [← hv]; rfl)
    have ex : ∃ v, atI [V.str (Txt.join ⟨#[]⟩ zs), .int (r - 1000000), .non, .ref tp, .int (-10 ^ (28 : Int).toNat - (r - 1000000)), .str "", .int 0, .ref x] q = some v := by
      have h : q = 0 ∨ q = 1 ∨ q = 2 ∨ q = 3 ∨ q = 4 ∨ q = 5 ∨ q = 6 ∨ q = 7 := by omega
      rcases h with rfl | rfl | rfl | rfl | rfl | rfl | rfl | rfl <;> exact ⟨_, rfl⟩
    obtain ⟨v, hv⟩ := ex
    refine ⟨l, _, q, v, rfl, rfl, SqL.of (d9.same _ _ upd_same), hv, k v H9 (fin v hv) ((d9.less ?_).mono (by omega))⟩
    exact same_upd ((((d6.less (same_upd (d2.free hD))).on (same_upd ntp)).on s7).free hl)
theorem len13 {α : Type} {xs : List α} (h : xs.length = 13) : ∃ w0 w1 w2 w3 w4 w5 w6 w7 w8 w9 w10 w11 w12, xs = [w0, w1, w2, w3, w4, w5, w6, w7, w8, w9, w10, w11, w12] := by
  match xs, h with
  | [w0, w1, w2, w3, w4, w5, w6, w7, w8, w9, w10, w11, w12], _ => exact ⟨w0, w1, w2, w3, w4, w5, w6, w7, w8, w9, w10, w11, w12, rfl⟩
def spLaw (K : PySem.W.Frag) : Sp := fun vs H Q _ => ∃ (a : Addr) (ns : List Int), vs = [.ref a] ∧ SqL K H a (ns.map V.int) ∧ ns.length ≤ 63 ∧ ∀ H', Q (.bl true) H'
theorem ok_law {f : Addr} {fd : FuncData} (T : Txt K mg) (F : Fun K "law" "law" s_law f fd) : FnOk P w K mg base CX0 4 f fd ["_law_script"] (spLaw K) := by
  have G_start : FnOk P w K mg base CX0 1 T.f_start T.d_start ["_law_script"] (spStart K) := ok_start T
  have G_draw : FnOk P w K mg base CX0 1 T.f_draw T.d_draw ["_law_state", "_law_size"] spDraw := ok_draw T
  have G_thing : FnOk P w K mg base CX0 3 T.f_thing T.d_thing ["_law_state"] spThing := ok_thing T
  have G_all : FnOk P w K mg base CX0 3 T.f_all T.d_all ["_law_t"] (spAll T) := ok_all T
  have G_named : FnOk P w K mg base CX0 3 T.f_named T.d_named ["_law_t"] (spAll T) := ok_named T
  have G_keeps : FnOk P w K mg base CX0 3 T.f_keeps T.d_keeps ["_law_made", "_law_t"] (spKeeps T) := ok_keeps T
  refine F.ok sc_law (fun vs H Q E h => ?_) (fun cdv A outer s H vs Q E hr h => ?_)
  · obtain ⟨a, ns, rfl, _⟩ := h
    rfl
  · obtain ⟨a, ns, rfl, hS, hlen, k⟩ := h
    refine ⟨_, (pss_cons (ps_set (i := 1) sc_law.nd rfl (Or.inr rfl) (pe_call G_start (hr.mono (by decide)) rfl T.m_start T.F_start.kp T.b_start .nil pass0 (pa_cons (pv 0) pa_nil)))
    (pss_cons (ps_setLc (i := 2) (own := [("_law_k", 6)]) (g := gName 6) (tt := tYes) rfl sc_law.nd rfl rfl (sw_true rfl rfl rfl (by decide +kernel)) (pi_range1 rfl T.n_range (pa_cons pe_int pa_nil)) (blkOk_by (N := ["_law_script", "_law_state", "_law_t", "_law_rows", "_law_both", "_law_row", "_law_k"]) (sc := defScope s_law) (by decide +kernel)) (fun _ _ _ _ _ => pg_name (i := 6) sc_law.nd rfl (Or.inl rfl)) (fun _ _ _ _ _ => pts_nil) (fun _ _ _ _ _ => (pe_call G_thing (hr.mono (by decide)) rfl T.m_thing T.F_thing.kp T.b_thing .nil pass0 (pa_cons (pv 1) pa_nil))))
    (pss_cons (ps_if (PW.pt (pw_or (pt_not (pt_val (pe_call G_keeps (hr.mono (by decide)) rfl T.m_keeps T.F_keeps.kp T.b_keeps .nil pass0 (pa_cons (pe_call G_all (hr.mono (by decide)) rfl T.m_all T.F_all.kp T.b_all .nil pass0 (pa_cons (pv 2) pa_nil)) (pa_cons (pv 2) pa_nil))))) (pw_or1 (pt_not (pt_val (pe_call G_keeps (hr.mono (by decide)) rfl T.m_keeps T.F_keeps.kp T.b_keeps .nil pass0 (pa_cons (pe_call G_named (hr.mono (by decide)) rfl T.m_named T.F_named.kp T.b_named .nil pass0 (pa_cons (pv 2) pa_nil)) (pa_cons (pv 2) pa_nil))))))))
      (pss_one (ps_ret pe_bl))
      pss_nil)
    (pss_cons (ps_setLc (i := 3) (own := [("_law_k", 6)]) (g := gName 6) (tt := tYes) rfl sc_law.nd rfl rfl (sw_true rfl rfl rfl (by decide +kernel)) (pi_range1 rfl T.n_range (pa_cons pe_int pa_nil)) (blkOk_by (N := ["_law_script", "_law_state", "_law_t", "_law_rows", "_law_both", "_law_row", "_law_k"]) (sc := defScope s_law) (by decide +kernel)) (fun _ _ _ _ _ => pg_name (i := 6) sc_law.nd rfl (Or.inl rfl)) (fun _ _ _ _ _ => pts_nil) (fun _ _ _ _ _ => (pe_lst (pa_cons (pe_call G_draw (hr.mono (by decide)) rfl T.m_draw T.F_draw.kp T.b_draw .nil pass0 (pa_cons (pv 1) (pa_cons pe_int pa_nil))) pa_nil))))
    (pss_cons (ps_set (i := 4) sc_law.nd rfl (Or.inl rfl) (pe_lst (pa_cons (pe_call G_all (hr.mono (by decide)) rfl T.m_all T.F_all.kp T.b_all .nil pass0 (pa_cons (pv 3) pa_nil)) (pa_cons (pe_call G_named (hr.mono (by decide)) rfl T.m_named T.F_named.kp T.b_named .nil pass0 (pa_cons (pv 3) pa_nil)) pa_nil))))
    (C8.pss_cut (ps_for PassesOwn.never rfl (pi_list (pv 3)) (pg_name (i := 5) sc_law.nd rfl (Or.inl rfl))
      (pss_one (ps_expr (pe_bm PySem.F.plainAttrs_list PySem.F.slot_list_append PySem.F.type_list_append mt_append (pv 5) (pa_cons (pe_call G_draw (hr.mono (by decide)) rfl T.m_draw T.F_draw.kp T.b_draw .nil pass0 (pa_cons (pv 1) (pa_cons pe_int pa_nil))) pa_nil)))))
    (pss_one (ps_ret (pe_and (pe_call G_keeps (hr.mono (by decide)) rfl T.m_keeps T.F_keeps.kp T.b_keeps .nil pass0 (pa_cons (pe_ix ix_list (pv 4) pe_int (fun _ _ => rfl)) (pa_cons (pv 3) pa_nil))) (pe_one (pe_call G_keeps (hr.mono (by decide)) rfl T.m_keeps T.F_keeps.kp T.b_keeps .nil pass0 (pa_cons (pe_ix ix_list (pv 4) pe_int (fun _ _ => rfl)) (pa_cons (pv 3) pa_nil))))))))))))), ?_⟩
    refine ⟨_, rfl, a, ns, rfl, hS, hlen, fun st H1 d1 => ?_⟩
    -- thirteen things
    refine ⟨13, rfl, by decide, by decide, fun D hD => ?_⟩
    refine lc_range (lo := 0) (n := 13) (fun i H2 => ∃ vs : List V, vs.length = i ∧ (∀ v ∈ vs, plainW v = true) ∧ DSt (upd H D (.lst vs)) H2 st (10 * i)) ⟨[], rfl, by simp, d1.new hD⟩ ?_ ?_
    · intro i H2 hi ⟨vs, hc, hb, d2⟩
      refine ⟨rfl, _, rfl, _, st, 10 * i, rfl, d2, by omega, fun v H3 pv d3 => ?_⟩
      refine ⟨vs, d3.same _ _ upd_same, small1000 (by omega), vs ++ [v], by rw [List.length_append, hc]; rfl, ?_, ?_⟩
      · intro x hx
        rcases List.mem_append.mp hx with hx | hx
        · exact hb x hx
        · rw [List.mem_singleton.mp hx]; exact pv
      · have := d3.put (o := .lst (vs ++ [v])) upd_same
        rw [upd_upd] at this
        exact this
    rintro H2 ⟨vs, hc, hb, d2⟩
    obtain ⟨w0, w1, w2, w3, w4, w5, w6, w7, w8, w9, w10, w11, w12, rfl⟩ := len13 hc
    have eD : H2 D = some (.lst [w0, w1, w2, w3, w4, w5, w6, w7, w8, w9, w10, w11, w12]) := d2.same _ _ upd_same
    refine ⟨_, rfl, D, w0, w1, w2, w3, w4, w5, w6, w7, w8, w9, w10, w11, w12, rfl, SqL.of eD, fun m1 H3 e0 e1 e2 e3 e4 e5 e6 e7 e8 e9 e10 e11 e12 e13 e14 nm1 s3 em1 M1 => ?_⟩
    refine ⟨_, rfl, m1, D, e0, e1, e2, e3, e4, e5, e6, e7, e8, e9, e10, e11, e12, e13, e14, w0, w1, w2, w3, w4, w5, w6, w7, w8, w9, w10, w11, w12, rfl, em1, SqL.of (s3 _ _ eD), M1, hb, fun H4 s4 => ⟨true, rfl, iteF ?_⟩⟩
    have s24 := s3.trans s4
    refine ⟨_, rfl, D, w0, w1, w2, w3, w4, w5, w6, w7, w8, w9, w10, w11, w12, rfl, SqL.of (s24 _ _ eD), fun m2 H5 e0 e1 e2 e3 e4 e5 e6 e7 e8 e9 e10 e11 e12 e13 e14 nm2 s5 em2 M2 => ?_⟩
    refine ⟨_, rfl, m2, D, e0, e1, e2, e3, e4, e5, e6, e7, e8, e9, e10, e11, e12, e13, e14, w0, w1, w2, w3, w4, w5, w6, w7, w8, w9, w10, w11, w12, rfl, em2, SqL.of (s5 _ _ (s24 _ _ eD)), M2, hb, fun H6 s6 => ⟨true, rfl, iteF ?_⟩⟩
    have d6 := (d2.less (same_upd (d1.free hD))).on ((s24.trans s5).trans s6)
    -- thirteen lists that grow
    refine ⟨13, rfl, by decide, by decide, fun R hR => ?_⟩
    refine lc_range (lo := 0) (n := 13) (fun i H7 => ∃ (ls : List Addr) (G : Hp), ls.length = i ∧ (∀ l ∈ ls, ∃ z, G l = some (.lst [V.int z])) ∧ G R = some (.lst (ls.map V.ref)) ∧ DSt G H7 st (200 + i)) ⟨[], _, rfl, by simp, upd_same, (d6.mono (by decide)).new hR⟩ ?_ ?_
    · intro i H7 hi ⟨ls, G, hc, hb, eR, d7⟩
      refine ⟨rfl, _, rfl, G, st, 200 + i, 9, rfl, d7, by omega, by decide, by decide, fun z H8 z0 z1 d8 => ?_⟩
      refine ⟨by show 1 ≤ sizeLine; decide, fun l nl => ?_⟩
      have gl := d8.free nl
      have nR : R ≠ l := ne_of_none eR gl
      have d9 := d8.new (o := .lst [V.int z]) nl
      refine ⟨ls.map V.ref, d9.same _ _ (by rw [upd_ne nR]; exact eR), small1000 (by rw [List.length_map]; omega), ls ++ [l], upd (upd G l (.lst [V.int z])) R (.lst ((ls ++ [l]).map V.ref)), by rw [List.length_append, hc]; rfl, ?_, upd_same, ?_⟩
      · intro x hx
        rcases List.mem_append.mp hx with hx | hx
        · obtain ⟨z', hz'⟩ := hb x hx
          have n1 : x ≠ R := fun e => by
            rw [e, eR] at hz'
            injection hz' with hz'
            injection hz' with hz'
            cases ls with
            | nil => cases hz'
            | cons y r => cases hz'
          exact ⟨z', by rw [upd_ne n1, upd_ne (ne_of_none hz' gl)]; exact hz'⟩
        · rw [List.mem_singleton.mp hx]
          exact ⟨z, by rw [upd_ne nR.symm]; exact upd_same⟩
      · rw [List.map_append]
        exact (d9.put (o := .lst (ls.map V.ref ++ [V.ref l])) (by rw [upd_ne nR]; exact eR)).mono (by omega)
    rintro H7 ⟨ls, G, hc, hb, eR, d7⟩
    obtain ⟨v0, v1, v2, v3, v4, v5, v6, v7, v8, v9, v10, v11, v12, ew⟩ := len13 (xs := ls.map V.ref) (by rw [List.length_map]; exact hc)
    have pl : ∀ z ∈ [v0, v1, v2, v3, v4, v5, v6, v7, v8, v9, v10, v11, v12], plainW z = true := fun z hz => by
      rw [← ew] at hz
      obtain ⟨l, _, rfl⟩ := List.mem_map.mp hz
      rfl
    have eR7 : H7 R = some (.lst [v0, v1, v2, v3, v4, v5, v6, v7, v8, v9, v10, v11, v12]) := by rw [← ew]; exact d7.same _ _ eR
    refine ⟨_, rfl, R, v0, v1, v2, v3, v4, v5, v6, v7, v8, v9, v10, v11, v12, rfl, SqL.of eR7, fun m1 H8 e0 e1 e2 e3 e4 e5 e6 e7 e8 e9 e10 e11 e12 e13 e14 nm1 s8 em1 M1 => ?_⟩
    refine ⟨_, rfl, R, v0, v1, v2, v3, v4, v5, v6, v7, v8, v9, v10, v11, v12, rfl, SqL.of (s8 _ _ eR7), fun m2 H9 f0 f1 f2 f3 f4 f5 f6 f7 f8 f9 f10 f11 f12 f13 f14 nm2 s9 em2 M2 => ?_⟩
    refine ⟨by show 2 ≤ sizeLine; decide, fun bo nbo => ?_⟩
    have d8 := d7.learn s8 nm1 em1
    have d9 := d8.learn s9 nm2 em2
    have d10 := d9.new (o := .lst [V.ref m1, .ref m2]) nbo
    obtain ⟨G2, dG, sG, gG⟩ := d10.grow
    have u10 := same_upd (o := .lst [V.ref m1, .ref m2]) nbo
    have P1 := ((M1.on s9).on u10).put gG
    have P2 := (M2.on u10).put gG
    have k1 := same_upd (o := .lst [V.ref e0, .ref e1, .ref e2, .ref e3, .ref e4, .ref e5, .ref e6, .ref e7, .ref e8, .ref e9, .ref e10, .ref e11, .ref e12, .ref e13, .ref e14]) (d7.free nm1)
    have k2 := same_upd (o := .lst [V.ref f0, .ref f1, .ref f2, .ref f3, .ref f4, .ref f5, .ref f6, .ref f7, .ref f8, .ref f9, .ref f10, .ref f11, .ref f12, .ref f13, .ref f14]) (d8.free nm2)
    have k3 := same_upd (o := .lst [V.ref m1, .ref m2]) (d9.free nbo)
    have gR := sG _ _ (k3 _ _ (k2 _ _ (k1 _ _ eR)))
    have gm1 := sG _ _ (k3 _ _ (k2 _ _ (upd_same (H := G) (a := m1) (o := .lst [V.ref e0, .ref e1, .ref e2, .ref e3, .ref e4, .ref e5, .ref e6, .ref e7, .ref e8, .ref e9, .ref e10, .ref e11, .ref e12, .ref e13, .ref e14]))))
    have gm2 := sG _ _ (k3 _ _ (upd_same (H := upd G m1 (.lst [V.ref e0, .ref e1, .ref e2, .ref e3, .ref e4, .ref e5, .ref e6, .ref e7, .ref e8, .ref e9, .ref e10, .ref e11, .ref e12, .ref e13, .ref e14])) (a := m2) (o := .lst [V.ref f0, .ref f1, .ref f2, .ref f3, .ref f4, .ref f5, .ref f6, .ref f7, .ref f8, .ref f9, .ref f10, .ref f11, .ref f12, .ref f13, .ref f14])))
    have gbo := sG _ _ (upd_same (H := upd (upd G m1 (.lst [V.ref e0, .ref e1, .ref e2, .ref e3, .ref e4, .ref e5, .ref e6, .ref e7, .ref e8, .ref e9, .ref e10, .ref e11, .ref e12, .ref e13, .ref e14])) m2 (.lst [V.ref f0, .ref f1, .ref f2, .ref f3, .ref f4, .ref f5, .ref f6, .ref f7, .ref f8, .ref f9, .ref f10, .ref f11, .ref f12, .ref f13, .ref f14])) (a := bo) (o := .lst [V.ref m1, .ref m2]))
    have gl : ∀ l ∈ ls, ∃ zs : List Int, G2 l = some (.lst (zs.map V.int)) ∧ zs.length ≤ 1 + 0 := fun l hl => by
      obtain ⟨z, hz⟩ := hb l hl
      exact ⟨[z], sG _ _ (k3 _ _ (k2 _ _ (k1 _ _ hz))), Nat.le_refl _⟩
    -- the lists grow
    refine ⟨fun σ H' => ∃ (x : Option V) (G3 : Hp), σ = [some (.ref a), some (.ref st), some (.ref D), some (.ref R), some (.ref bo), x, none] ∧ Same G3 H' ∧ G3 R = some (.lst (ls.map V.ref)) ∧ G3 m1 = some (.lst [V.ref e0, .ref e1, .ref e2, .ref e3, .ref e4, .ref e5, .ref e6, .ref e7, .ref e8, .ref e9, .ref e10, .ref e11, .ref e12, .ref e13, .ref e14]) ∧ G3 m2 = some (.lst [V.ref f0, .ref f1, .ref f2, .ref f3, .ref f4, .ref f5, .ref f6, .ref f7, .ref f8, .ref f9, .ref f10, .ref f11, .ref f12, .ref f13, .ref f14]) ∧ G3 bo = some (.lst [V.ref m1, .ref m2]) ∧ MadeE T G3 e0 e1 e2 e3 e4 e5 e6 e7 e8 e9 e10 e11 e12 e13 e14 v0 v1 v2 v3 v4 v5 v6 v7 v8 v9 v10 v11 v12 ∧ MadeE T G3 f0 f1 f2 f3 f4 f5 f6 f7 f8 f9 f10 f11 f12 f13 f14 v0 v1 v2 v3 v4 v5 v6 v7 v8 v9 v10 v11 v12, ?_, ?_⟩
    · refine ⟨_, rfl, R, rfl, ⟨_, SqL.of (dG.same _ _ gR)⟩, ?_⟩
      refine for_list (xs := ls.map V.ref) (fun i σ H' => ∃ (x : Option V) (G3 : Hp), σ = [some (.ref a), some (.ref st), some (.ref D), some (.ref R), some (.ref bo), x, none] ∧ DSt G3 H' st (300 + i) ∧ G3 R = some (.lst (ls.map V.ref)) ∧ G3 m1 = some (.lst [V.ref e0, .ref e1, .ref e2, .ref e3, .ref e4, .ref e5, .ref e6, .ref e7, .ref e8, .ref e9, .ref e10, .ref e11, .ref e12, .ref e13, .ref e14]) ∧ G3 m2 = some (.lst [V.ref f0, .ref f1, .ref f2, .ref f3, .ref f4, .ref f5, .ref f6, .ref f7, .ref f8, .ref f9, .ref f10, .ref f11, .ref f12, .ref f13, .ref f14]) ∧ G3 bo = some (.lst [V.ref m1, .ref m2]) ∧ MadeE T G3 e0 e1 e2 e3 e4 e5 e6 e7 e8 e9 e10 e11 e12 e13 e14 v0 v1 v2 v3 v4 v5 v6 v7 v8 v9 v10 v11 v12 ∧ MadeE T G3 f0 f1 f2 f3 f4 f5 f6 f7 f8 f9 f10 f11 f12 f13 f14 v0 v1 v2 v3 v4 v5 v6 v7 v8 v9 v10 v11 v12 ∧ ∀ l ∈ ls, ∃ zs : List Int, G3 l = some (.lst (zs.map V.int)) ∧ zs.length ≤ 1 + i)
        ⟨_, G2, rfl, dG.mono (by decide), gR, gm1, gm2, gbo, P1, P2, gl⟩ (fun i σ H' _ ⟨x, G3, _, d, g, _⟩ => SqL.of (d.same _ _ g)) ?_ (fun σ H' ⟨x, G3, e, d, g1, g2, g3, g4, g5, g6, _⟩ => ⟨x, G3, e, d.same, g1, g2, g3, g4, g5, g6⟩)
      rintro i x σ H' hi ⟨x5, G3, rfl, d, g1, g2, g3, g4, g5, g6, g7⟩
      obtain ⟨l, hl, rfl⟩ := List.mem_map.mp (List.mem_of_getElem? hi)
      have hi13 : i < 13 := by
        have := (List.getElem?_eq_some_iff.mp hi).1
        rw [List.length_map, hc] at this
        exact this
      obtain ⟨zs, ez, lz⟩ := g7 l hl
      refine ⟨_, rfl, .inl ⟨rfl, _, .inl (.inl (d.same _ _ ez))⟩, ?_⟩
      refine ⟨_, rfl, G3, st, 300 + i, 9, rfl, d, by omega, by decide, by decide, fun y H2 y0 y1 d2 => ?_⟩
      refine ⟨l, zs.map V.int, .int y, rfl, rfl, d2.same _ _ ez, small1000 (by rw [List.length_map]; omega), ?_⟩
      have ei : zs.map V.int ++ [V.int y] = (zs ++ [y]).map V.int := by rw [List.map_append]; rfl
      rw [ei]
      have ne : ∀ {p : Addr} {r : Addr} {xs : List V}, G3 p = some (.lst (.ref r :: xs)) → p ≠ l := fun {p r xs} hp e => by
        rw [e, ez] at hp
        injection hp with hp
        injection hp with hp
        cases zs with
        | nil => cases hp
        | cons z q => cases hp
      have nR : R ≠ l := by
        have h1 := g1
        cases ls with
        | nil => cases hl
        | cons y q => exact ne h1
      have kp : ∀ a o, G3 a = some o → (∀ xs, o ≠ .lst xs) → upd G3 l (.lst ((zs ++ [y]).map V.int)) a = some o := fun a o ha ho => by
        rw [upd_ne (fun e => by rw [e, ez] at ha; exact ho _ (Option.some.inj ha).symm)]
        exact ha
      refine ⟨some (.ref l), upd G3 l (.lst ((zs ++ [y]).map V.int)), rfl, (d2.put ez).mono (by omega), by rw [upd_ne nR]; exact g1, by rw [upd_ne (ne g2)]; exact g2, by rw [upd_ne (ne g3)]; exact g3, by rw [upd_ne (ne g4)]; exact g4, g5.put kp, g6.put kp, fun l' hl' => ?_⟩
      by_cases e : l' = l
      · subst e
        exact ⟨zs ++ [y], upd_same, by rw [List.length_append, List.length_singleton]; omega⟩
      · obtain ⟨zs', ez', lz'⟩ := g7 l' hl'
        exact ⟨zs', by rw [upd_ne e]; exact ez', by omega⟩
    rintro σ H' ⟨x, G3, rfl, d, g1, g2, g3, g4, g5, g6⟩
    have g1' : H' R = some (.lst [v0, v1, v2, v3, v4, v5, v6, v7, v8, v9, v10, v11, v12]) := by rw [← ew]; exact d _ _ g1
    refine ⟨_, rfl, bo, _, 0, _, rfl, rfl, SqL.of (d _ _ g4), at0, _, rfl, m1, R, e0, e1, e2, e3, e4, e5, e6, e7, e8, e9, e10, e11, e12, e13, e14, v0, v1, v2, v3, v4, v5, v6, v7, v8, v9, v10, v11, v12, rfl, d _ _ g2, SqL.of g1', g5.on d, pl, fun H2 s2 => ⟨true, rfl, iteT ?_⟩⟩
    exact ⟨_, rfl, bo, _, 1, _, rfl, rfl, SqL.of (s2 _ _ (d _ _ g4)), at1, _, rfl, m2, R, f0, f1, f2, f3, f4, f5, f6, f7, f8, f9, f10, f11, f12, f13, f14, v0, v1, v2, v3, v4, v5, v6, v7, v8, v9, v10, v11, v12, rfl, s2 _ _ (d _ _ g3), SqL.of (s2 _ _ g1'), (g6.on d).on s2, pl, fun H3 s3 => k H3⟩
end

set_option maxHeartbeats 0 in
theorem all_mk {l : PySem.W.OpenLaw} {w : World} {K : PySem.W.Frag} {h : Heap} {mg : Str → Option Value} {f_BadName f_DuplicateName f_UnknownName f_BadCount f_OutOfRange f_BadLine f_BadText f_HasRound f_UselessLink f_BadJoint f_BadWay f_NoHarm f_Ratio f_ExtralinkError f_NoWay f_NotBuilding f_NothingToUndo f_start f_draw f_signs f_kinds f_right f_thing f_all f_named f_keeps f_BadName_init f_DuplicateName_init f_UnknownName_init f_BadCount_init f_OutOfRange_init f_BadLine_init f_BadText_init f_HasRound_init f_UselessLink_init f_BadJoint_init f_BadWay_init f_NoHarm_init f_Ratio_init dT_Ratio_init fa f_law : Addr} {od_start an_start od_draw an_draw od_signs an_signs od_kinds an_kinds od_right an_right od_thing an_thing od_all an_all od_named an_named od_keeps an_keeps od_BadName_init an_BadName_init od_DuplicateName_init an_DuplicateName_init od_UnknownName_init an_UnknownName_init od_BadCount_init an_BadCount_init od_OutOfRange_init an_OutOfRange_init od_BadLine_init an_BadLine_init od_BadText_init an_BadText_init od_HasRound_init an_HasRound_init od_UselessLink_init an_UselessLink_init od_BadJoint_init an_BadJoint_init od_BadWay_init an_BadWay_init od_NoHarm_init an_NoHarm_init od_Ratio_init an_Ratio_init dd0_Ratio_init od_law an_law : Option Addr} {sl_start sl_draw sl_signs sl_kinds sl_right sl_thing sl_all sl_named sl_keeps sl_BadName_init sl_DuplicateName_init sl_UnknownName_init sl_BadCount_init sl_OutOfRange_init sl_BadLine_init sl_BadText_init sl_HasRound_init sl_UselessLink_init sl_BadJoint_init sl_BadWay_init sl_NoHarm_init sl_Ratio_init ds_Ratio_init sl_law : Array (Option Value)} {oc_start kV_start dc_start pm_start cd_start ct_start oc_draw kV_draw dc_draw pm_draw cd_draw ct_draw oc_signs kV_signs dc_signs pm_signs cd_signs ct_signs oc_kinds kV_kinds dc_kinds pm_kinds cd_kinds ct_kinds oc_right kV_right dc_right pm_right cd_right ct_right oc_thing kV_thing dc_thing pm_thing cd_thing ct_thing oc_all kV_all dc_all pm_all cd_all ct_all oc_named kV_named dc_named pm_named cd_named ct_named oc_keeps kV_keeps dc_keeps pm_keeps cd_keeps ct_keeps oc_BadName_init kV_BadName_init dc_BadName_init pm_BadName_init cd_BadName_init ct_BadName_init oc_DuplicateName_init kV_DuplicateName_init dc_DuplicateName_init pm_DuplicateName_init cd_DuplicateName_init ct_DuplicateName_init oc_UnknownName_init kV_UnknownName_init dc_UnknownName_init pm_UnknownName_init cd_UnknownName_init ct_UnknownName_init oc_BadCount_init kV_BadCount_init dc_BadCount_init pm_BadCount_init cd_BadCount_init ct_BadCount_init oc_OutOfRange_init kV_OutOfRange_init dc_OutOfRange_init pm_OutOfRange_init cd_OutOfRange_init ct_OutOfRange_init oc_BadLine_init kV_BadLine_init dc_BadLine_init pm_BadLine_init cd_BadLine_init ct_BadLine_init oc_BadText_init kV_BadText_init dc_BadText_init pm_BadText_init cd_BadText_init ct_BadText_init oc_HasRound_init kV_HasRound_init dc_HasRound_init pm_HasRound_init cd_HasRound_init ct_HasRound_init oc_UselessLink_init kV_UselessLink_init dc_UselessLink_init pm_UselessLink_init cd_UselessLink_init ct_UselessLink_init oc_BadJoint_init kV_BadJoint_init dc_BadJoint_init pm_BadJoint_init cd_BadJoint_init ct_BadJoint_init oc_BadWay_init kV_BadWay_init dc_BadWay_init pm_BadWay_init cd_BadWay_init ct_BadWay_init oc_NoHarm_init kV_NoHarm_init dc_NoHarm_init pm_NoHarm_init cd_NoHarm_init ct_NoHarm_init oc_Ratio_init kV_Ratio_init dc_Ratio_init pm_Ratio_init cd_Ratio_init ct_Ratio_init dc0_Ratio_init oc_law kV_law dc_law pm_law cd_law ct_law : Value} {dt_Ratio_init : Tok} {dn_Ratio_init : Nat} {cdx_BadName cdx_DuplicateName cdx_UnknownName cdx_BadCount cdx_OutOfRange cdx_BadLine cdx_BadText cdx_HasRound cdx_UselessLink cdx_BadJoint cdx_BadWay cdx_NoWay cdx_NotBuilding cdx_NoHarm cdx_NothingToUndo : ClassData} (X : K.In h) (G : h.Ns mainGlobals mg) (hfa : mg "law" = some (.ref fa))
    (a_BadName : PySem.W.nsIn K mainGlobals "BadName" = some (some (.ref f_BadName)))
    (a_DuplicateName : PySem.W.nsIn K mainGlobals "DuplicateName" = some (some (.ref f_DuplicateName)))
    (a_UnknownName : PySem.W.nsIn K mainGlobals "UnknownName" = some (some (.ref f_UnknownName)))
    (a_BadCount : PySem.W.nsIn K mainGlobals "BadCount" = some (some (.ref f_BadCount)))
    (a_OutOfRange : PySem.W.nsIn K mainGlobals "OutOfRange" = some (some (.ref f_OutOfRange)))
    (a_BadLine : PySem.W.nsIn K mainGlobals "BadLine" = some (some (.ref f_BadLine)))
    (a_BadText : PySem.W.nsIn K mainGlobals "BadText" = some (some (.ref f_BadText)))
    (a_HasRound : PySem.W.nsIn K mainGlobals "HasRound" = some (some (.ref f_HasRound)))
    (a_UselessLink : PySem.W.nsIn K mainGlobals "UselessLink" = some (some (.ref f_UselessLink)))
    (a_BadJoint : PySem.W.nsIn K mainGlobals "BadJoint" = some (some (.ref f_BadJoint)))
    (a_BadWay : PySem.W.nsIn K mainGlobals "BadWay" = some (some (.ref f_BadWay)))
    (a_NoHarm : PySem.W.nsIn K mainGlobals "NoHarm" = some (some (.ref f_NoHarm)))
    (a_Ratio : PySem.W.nsIn K mainGlobals "Ratio" = some (some (.ref f_Ratio)))
    (pg_Ratio : PySem.W.plainGet K f_Ratio Str.empty = true)
    (hd_Ratio : PySem.W.hasDictIn K f_Ratio = true)
    (po_Ratio : PySem.W.plainOver K f_Ratio = true)
    (sa_Ratio : PySem.W.findIn K (.ref f_Ratio) "__setattr__" = some (some (.builtin "object.__setattr__")))
    (mk_Ratio : PySem.W.makesIn K f_Ratio = true)
    (kc_Ratio : PySem.W.keepIn K (.ref f_Ratio) = true)
    (hc_Ratio : PySem.W.findIn K (.ref f_Ratio) "__class__" = some (some (.builtin "object.__class__")))
    (mo_Ratio : PySem.W.mroIn K f_Ratio (.type "object") = some true)
    (ic_Ratio : PySem.W.isClsIn K f_Ratio = true)
    (ty_Ratio : PySem.W.typeIn K (.ref f_Ratio) = some (.type "type"))
    (hn_class : PySem.W.specialIn K (.builtin "object.__class__") "__get__" = some (some (.builtin "getset_descriptor.__get__")))
    (ht_class : PySem.W.takesIn K (.builtin "object.__class__") = some true)
    (na_Ratio_top : PySem.W.findIn K (.ref f_Ratio) "_top" = some none)
    (na_Ratio_bottom : PySem.W.findIn K (.ref f_Ratio) "_bottom" = some none)
    (a_ExtralinkError : PySem.W.nsIn K mainGlobals "ExtralinkError" = some (some (.ref f_ExtralinkError)))
    (a_NoWay : PySem.W.nsIn K mainGlobals "NoWay" = some (some (.ref f_NoWay)))
    (a_NotBuilding : PySem.W.nsIn K mainGlobals "NotBuilding" = some (some (.ref f_NotBuilding)))
    (a_NothingToUndo : PySem.W.nsIn K mainGlobals "NothingToUndo" = some (some (.ref f_NothingToUndo)))
    (a_start : PySem.W.nsIn K mainGlobals "_law_start" = some (some (.ref f_start)))
    (l_start : K.lookup f_start = some ⟨oc_start, od_start, .func (PySem.W.fnOf "_law_start" "_law_start" (defArgs s_start) (defBody s_start) (defScope s_start) .none kV_start dc_start pm_start an_start cd_start ct_start), sl_start⟩)
    (c_start : PySem.W.codeIn K cd_start "_law_start" = true)
    (k_start : PySem.W.keepIn K (.ref f_start) = true)
    (a_draw : PySem.W.nsIn K mainGlobals "_law_draw" = some (some (.ref f_draw)))
    (l_draw : K.lookup f_draw = some ⟨oc_draw, od_draw, .func (PySem.W.fnOf "_law_draw" "_law_draw" (defArgs s_draw) (defBody s_draw) (defScope s_draw) .none kV_draw dc_draw pm_draw an_draw cd_draw ct_draw), sl_draw⟩)
    (c_draw : PySem.W.codeIn K cd_draw "_law_draw" = true)
    (k_draw : PySem.W.keepIn K (.ref f_draw) = true)
    (a_signs : PySem.W.nsIn K mainGlobals "_law_signs" = some (some (.ref f_signs)))
    (l_signs : K.lookup f_signs = some ⟨oc_signs, od_signs, .func (PySem.W.fnOf "_law_signs" "_law_signs" (defArgs s_signs) (defBody s_signs) (defScope s_signs) .none kV_signs dc_signs pm_signs an_signs cd_signs ct_signs), sl_signs⟩)
    (c_signs : PySem.W.codeIn K cd_signs "_law_signs" = true)
    (k_signs : PySem.W.keepIn K (.ref f_signs) = true)
    (a_kinds : PySem.W.nsIn K mainGlobals "_law_kinds" = some (some (.ref f_kinds)))
    (l_kinds : K.lookup f_kinds = some ⟨oc_kinds, od_kinds, .func (PySem.W.fnOf "_law_kinds" "_law_kinds" (defArgs s_kinds) (defBody s_kinds) (defScope s_kinds) .none kV_kinds dc_kinds pm_kinds an_kinds cd_kinds ct_kinds), sl_kinds⟩)
    (c_kinds : PySem.W.codeIn K cd_kinds "_law_kinds" = true)
    (k_kinds : PySem.W.keepIn K (.ref f_kinds) = true)
    (a_right : PySem.W.nsIn K mainGlobals "_law_right" = some (some (.ref f_right)))
    (l_right : K.lookup f_right = some ⟨oc_right, od_right, .func (PySem.W.fnOf "_law_right" "_law_right" (defArgs s_right) (defBody s_right) (defScope s_right) .none kV_right dc_right pm_right an_right cd_right ct_right), sl_right⟩)
    (c_right : PySem.W.codeIn K cd_right "_law_right" = true)
    (k_right : PySem.W.keepIn K (.ref f_right) = true)
    (a_thing : PySem.W.nsIn K mainGlobals "_law_thing" = some (some (.ref f_thing)))
    (l_thing : K.lookup f_thing = some ⟨oc_thing, od_thing, .func (PySem.W.fnOf "_law_thing" "_law_thing" (defArgs s_thing) (defBody s_thing) (defScope s_thing) .none kV_thing dc_thing pm_thing an_thing cd_thing ct_thing), sl_thing⟩)
    (c_thing : PySem.W.codeIn K cd_thing "_law_thing" = true)
    (k_thing : PySem.W.keepIn K (.ref f_thing) = true)
    (a_all : PySem.W.nsIn K mainGlobals "_law_all" = some (some (.ref f_all)))
    (l_all : K.lookup f_all = some ⟨oc_all, od_all, .func (PySem.W.fnOf "_law_all" "_law_all" (defArgs s_all) (defBody s_all) (defScope s_all) .none kV_all dc_all pm_all an_all cd_all ct_all), sl_all⟩)
    (c_all : PySem.W.codeIn K cd_all "_law_all" = true)
    (k_all : PySem.W.keepIn K (.ref f_all) = true)
    (a_named : PySem.W.nsIn K mainGlobals "_law_named" = some (some (.ref f_named)))
    (l_named : K.lookup f_named = some ⟨oc_named, od_named, .func (PySem.W.fnOf "_law_named" "_law_named" (defArgs s_named) (defBody s_named) (defScope s_named) .none kV_named dc_named pm_named an_named cd_named ct_named), sl_named⟩)
    (c_named : PySem.W.codeIn K cd_named "_law_named" = true)
    (k_named : PySem.W.keepIn K (.ref f_named) = true)
    (a_keeps : PySem.W.nsIn K mainGlobals "_law_keeps" = some (some (.ref f_keeps)))
    (l_keeps : K.lookup f_keeps = some ⟨oc_keeps, od_keeps, .func (PySem.W.fnOf "_law_keeps" "_law_keeps" (defArgs s_keeps) (defBody s_keeps) (defScope s_keeps) .none kV_keeps dc_keeps pm_keeps an_keeps cd_keeps ct_keeps), sl_keeps⟩)
    (c_keeps : PySem.W.codeIn K cd_keeps "_law_keeps" = true)
    (k_keeps : PySem.W.keepIn K (.ref f_keeps) = true)
    (a_BadName_init : PySem.W.findIn K (.ref f_BadName) "__init__" = some (some (.ref f_BadName_init)))
    (i_BadName_init : PySem.W.isFn K (.ref f_BadName_init) = true)
    (l_BadName_init : K.lookup f_BadName_init = some ⟨oc_BadName_init, od_BadName_init, .func (PySem.W.fnOf "__init__" "BadName.__init__" (defArgs s_BadName_init) (defBody s_BadName_init) (defScope s_BadName_init) .none kV_BadName_init dc_BadName_init pm_BadName_init an_BadName_init cd_BadName_init ct_BadName_init), sl_BadName_init⟩)
    (c_BadName_init : PySem.W.codeIn K cd_BadName_init "BadName.__init__" = true)
    (k_BadName_init : PySem.W.keepIn K (.ref f_BadName_init) = true)
    (a_DuplicateName_init : PySem.W.findIn K (.ref f_DuplicateName) "__init__" = some (some (.ref f_DuplicateName_init)))
    (i_DuplicateName_init : PySem.W.isFn K (.ref f_DuplicateName_init) = true)
    (l_DuplicateName_init : K.lookup f_DuplicateName_init = some ⟨oc_DuplicateName_init, od_DuplicateName_init, .func (PySem.W.fnOf "__init__" "DuplicateName.__init__" (defArgs s_DuplicateName_init) (defBody s_DuplicateName_init) (defScope s_DuplicateName_init) .none kV_DuplicateName_init dc_DuplicateName_init pm_DuplicateName_init an_DuplicateName_init cd_DuplicateName_init ct_DuplicateName_init), sl_DuplicateName_init⟩)
    (c_DuplicateName_init : PySem.W.codeIn K cd_DuplicateName_init "DuplicateName.__init__" = true)
    (k_DuplicateName_init : PySem.W.keepIn K (.ref f_DuplicateName_init) = true)
    (a_UnknownName_init : PySem.W.findIn K (.ref f_UnknownName) "__init__" = some (some (.ref f_UnknownName_init)))
    (i_UnknownName_init : PySem.W.isFn K (.ref f_UnknownName_init) = true)
    (l_UnknownName_init : K.lookup f_UnknownName_init = some ⟨oc_UnknownName_init, od_UnknownName_init, .func (PySem.W.fnOf "__init__" "UnknownName.__init__" (defArgs s_UnknownName_init) (defBody s_UnknownName_init) (defScope s_UnknownName_init) .none kV_UnknownName_init dc_UnknownName_init pm_UnknownName_init an_UnknownName_init cd_UnknownName_init ct_UnknownName_init), sl_UnknownName_init⟩)
    (c_UnknownName_init : PySem.W.codeIn K cd_UnknownName_init "UnknownName.__init__" = true)
    (k_UnknownName_init : PySem.W.keepIn K (.ref f_UnknownName_init) = true)
    (a_BadCount_init : PySem.W.findIn K (.ref f_BadCount) "__init__" = some (some (.ref f_BadCount_init)))
    (i_BadCount_init : PySem.W.isFn K (.ref f_BadCount_init) = true)
    (l_BadCount_init : K.lookup f_BadCount_init = some ⟨oc_BadCount_init, od_BadCount_init, .func (PySem.W.fnOf "__init__" "BadCount.__init__" (defArgs s_BadCount_init) (defBody s_BadCount_init) (defScope s_BadCount_init) .none kV_BadCount_init dc_BadCount_init pm_BadCount_init an_BadCount_init cd_BadCount_init ct_BadCount_init), sl_BadCount_init⟩)
    (c_BadCount_init : PySem.W.codeIn K cd_BadCount_init "BadCount.__init__" = true)
    (k_BadCount_init : PySem.W.keepIn K (.ref f_BadCount_init) = true)
    (a_OutOfRange_init : PySem.W.findIn K (.ref f_OutOfRange) "__init__" = some (some (.ref f_OutOfRange_init)))
    (i_OutOfRange_init : PySem.W.isFn K (.ref f_OutOfRange_init) = true)
    (l_OutOfRange_init : K.lookup f_OutOfRange_init = some ⟨oc_OutOfRange_init, od_OutOfRange_init, .func (PySem.W.fnOf "__init__" "OutOfRange.__init__" (defArgs s_OutOfRange_init) (defBody s_OutOfRange_init) (defScope s_OutOfRange_init) .none kV_OutOfRange_init dc_OutOfRange_init pm_OutOfRange_init an_OutOfRange_init cd_OutOfRange_init ct_OutOfRange_init), sl_OutOfRange_init⟩)
    (c_OutOfRange_init : PySem.W.codeIn K cd_OutOfRange_init "OutOfRange.__init__" = true)
    (k_OutOfRange_init : PySem.W.keepIn K (.ref f_OutOfRange_init) = true)
    (a_BadLine_init : PySem.W.findIn K (.ref f_BadLine) "__init__" = some (some (.ref f_BadLine_init)))
    (i_BadLine_init : PySem.W.isFn K (.ref f_BadLine_init) = true)
    (l_BadLine_init : K.lookup f_BadLine_init = some ⟨oc_BadLine_init, od_BadLine_init, .func (PySem.W.fnOf "__init__" "BadLine.__init__" (defArgs s_BadLine_init) (defBody s_BadLine_init) (defScope s_BadLine_init) .none kV_BadLine_init dc_BadLine_init pm_BadLine_init an_BadLine_init cd_BadLine_init ct_BadLine_init), sl_BadLine_init⟩)
    (c_BadLine_init : PySem.W.codeIn K cd_BadLine_init "BadLine.__init__" = true)
    (k_BadLine_init : PySem.W.keepIn K (.ref f_BadLine_init) = true)
    (a_BadText_init : PySem.W.findIn K (.ref f_BadText) "__init__" = some (some (.ref f_BadText_init)))
    (i_BadText_init : PySem.W.isFn K (.ref f_BadText_init) = true)
    (l_BadText_init : K.lookup f_BadText_init = some ⟨oc_BadText_init, od_BadText_init, .func (PySem.W.fnOf "__init__" "BadText.__init__" (defArgs s_BadText_init) (defBody s_BadText_init) (defScope s_BadText_init) .none kV_BadText_init dc_BadText_init pm_BadText_init an_BadText_init cd_BadText_init ct_BadText_init), sl_BadText_init⟩)
    (c_BadText_init : PySem.W.codeIn K cd_BadText_init "BadText.__init__" = true)
    (k_BadText_init : PySem.W.keepIn K (.ref f_BadText_init) = true)
    (a_HasRound_init : PySem.W.findIn K (.ref f_HasRound) "__init__" = some (some (.ref f_HasRound_init)))
    (i_HasRound_init : PySem.W.isFn K (.ref f_HasRound_init) = true)
    (l_HasRound_init : K.lookup f_HasRound_init = some ⟨oc_HasRound_init, od_HasRound_init, .func (PySem.W.fnOf "__init__" "HasRound.__init__" (defArgs s_HasRound_init) (defBody s_HasRound_init) (defScope s_HasRound_init) .none kV_HasRound_init dc_HasRound_init pm_HasRound_init an_HasRound_init cd_HasRound_init ct_HasRound_init), sl_HasRound_init⟩)
    (c_HasRound_init : PySem.W.codeIn K cd_HasRound_init "HasRound.__init__" = true)
    (k_HasRound_init : PySem.W.keepIn K (.ref f_HasRound_init) = true)
    (a_UselessLink_init : PySem.W.findIn K (.ref f_UselessLink) "__init__" = some (some (.ref f_UselessLink_init)))
    (i_UselessLink_init : PySem.W.isFn K (.ref f_UselessLink_init) = true)
    (l_UselessLink_init : K.lookup f_UselessLink_init = some ⟨oc_UselessLink_init, od_UselessLink_init, .func (PySem.W.fnOf "__init__" "UselessLink.__init__" (defArgs s_UselessLink_init) (defBody s_UselessLink_init) (defScope s_UselessLink_init) .none kV_UselessLink_init dc_UselessLink_init pm_UselessLink_init an_UselessLink_init cd_UselessLink_init ct_UselessLink_init), sl_UselessLink_init⟩)
    (c_UselessLink_init : PySem.W.codeIn K cd_UselessLink_init "UselessLink.__init__" = true)
    (k_UselessLink_init : PySem.W.keepIn K (.ref f_UselessLink_init) = true)
    (a_BadJoint_init : PySem.W.findIn K (.ref f_BadJoint) "__init__" = some (some (.ref f_BadJoint_init)))
    (i_BadJoint_init : PySem.W.isFn K (.ref f_BadJoint_init) = true)
    (l_BadJoint_init : K.lookup f_BadJoint_init = some ⟨oc_BadJoint_init, od_BadJoint_init, .func (PySem.W.fnOf "__init__" "BadJoint.__init__" (defArgs s_BadJoint_init) (defBody s_BadJoint_init) (defScope s_BadJoint_init) .none kV_BadJoint_init dc_BadJoint_init pm_BadJoint_init an_BadJoint_init cd_BadJoint_init ct_BadJoint_init), sl_BadJoint_init⟩)
    (c_BadJoint_init : PySem.W.codeIn K cd_BadJoint_init "BadJoint.__init__" = true)
    (k_BadJoint_init : PySem.W.keepIn K (.ref f_BadJoint_init) = true)
    (a_BadWay_init : PySem.W.findIn K (.ref f_BadWay) "__init__" = some (some (.ref f_BadWay_init)))
    (i_BadWay_init : PySem.W.isFn K (.ref f_BadWay_init) = true)
    (l_BadWay_init : K.lookup f_BadWay_init = some ⟨oc_BadWay_init, od_BadWay_init, .func (PySem.W.fnOf "__init__" "BadWay.__init__" (defArgs s_BadWay_init) (defBody s_BadWay_init) (defScope s_BadWay_init) .none kV_BadWay_init dc_BadWay_init pm_BadWay_init an_BadWay_init cd_BadWay_init ct_BadWay_init), sl_BadWay_init⟩)
    (c_BadWay_init : PySem.W.codeIn K cd_BadWay_init "BadWay.__init__" = true)
    (k_BadWay_init : PySem.W.keepIn K (.ref f_BadWay_init) = true)
    (a_NoHarm_init : PySem.W.findIn K (.ref f_NoHarm) "__init__" = some (some (.ref f_NoHarm_init)))
    (i_NoHarm_init : PySem.W.isFn K (.ref f_NoHarm_init) = true)
    (l_NoHarm_init : K.lookup f_NoHarm_init = some ⟨oc_NoHarm_init, od_NoHarm_init, .func (PySem.W.fnOf "__init__" "NoHarm.__init__" (defArgs s_NoHarm_init) (defBody s_NoHarm_init) (defScope s_NoHarm_init) .none kV_NoHarm_init dc_NoHarm_init pm_NoHarm_init an_NoHarm_init cd_NoHarm_init ct_NoHarm_init), sl_NoHarm_init⟩)
    (c_NoHarm_init : PySem.W.codeIn K cd_NoHarm_init "NoHarm.__init__" = true)
    (k_NoHarm_init : PySem.W.keepIn K (.ref f_NoHarm_init) = true)
    (a_Ratio_init : PySem.W.findIn K (.ref f_Ratio) "__init__" = some (some (.ref f_Ratio_init)))
    (i_Ratio_init : PySem.W.isFn K (.ref f_Ratio_init) = true)
    (l_Ratio_init : K.lookup f_Ratio_init = some ⟨oc_Ratio_init, od_Ratio_init, .func (PySem.W.fnOf "__init__" "Ratio.__init__" (defArgs s_Ratio_init) (defBody s_Ratio_init) (defScope s_Ratio_init) (.ref dT_Ratio_init) kV_Ratio_init dc_Ratio_init pm_Ratio_init an_Ratio_init cd_Ratio_init ct_Ratio_init), sl_Ratio_init⟩)
    (c_Ratio_init : PySem.W.codeIn K cd_Ratio_init "Ratio.__init__" = true)
    (k_Ratio_init : PySem.W.keepIn K (.ref f_Ratio_init) = true)
    (t_Ratio_init : K.lookup dT_Ratio_init = some ⟨dc0_Ratio_init, dd0_Ratio_init, .seq #[.int 1 dt_Ratio_init] dn_Ratio_init, ds_Ratio_init⟩)
    (x_BadName : ∃ nm q N bs bm sn sub ab col dd k0 k1 k2 k3 k5, K.lookup f_BadName = some (excClassObj nm q f_BadName N bs bm true sn sub ab col dd k0 k1 k2 k3 k5 "ValueError.__new__") ∧ PySem.HandSPX.refsVE bm = true)
    (xs_BadName : PySem.W.findIn K (.ref f_BadName) "__setattr__" = some (some (.builtin "object.__setattr__")))
    (xe_BadName : PySem.W.subIn K (.ref f_BadName) (.type "BaseException") = some true)
    (xt_BadName : PySem.W.typeIn K (.ref f_BadName) = some (.type "type"))
    (xk_BadName : PySem.W.keepIn K (.ref f_BadName) = true)
    (xg_BadName : PySem.W.findIn K (.ref f_BadName) "__getattribute__" = some (some (.builtin "BaseException.__getattribute__")))
    (xh_BadName : PySem.W.findIn K (.ref f_BadName) "__getattr__" = some none)
    (xd_BadName : PySem.W.hasDictIn K f_BadName = true)
    (xc_BadName : PySem.W.findIn K (.ref f_BadName) "__class__" = some (some (.builtin "object.__class__")))
    (xm_BadName : PySem.W.mroIn K f_BadName (.type "object") = some true)
    (xi_BadName : PySem.W.isClsIn K f_BadName = true)
    (xf_BadName : PySem.W.typeIn K (.ref f_BadName_init) = some (.type "function"))
    (no_BadName_name : PySem.W.findIn K (.ref f_BadName) "name" = some none)
    (x_DuplicateName : ∃ nm q N bs bm sn sub ab col dd k0 k1 k2 k3 k5, K.lookup f_DuplicateName = some (excClassObj nm q f_DuplicateName N bs bm true sn sub ab col dd k0 k1 k2 k3 k5 "ValueError.__new__") ∧ PySem.HandSPX.refsVE bm = true)
    (xs_DuplicateName : PySem.W.findIn K (.ref f_DuplicateName) "__setattr__" = some (some (.builtin "object.__setattr__")))
    (xe_DuplicateName : PySem.W.subIn K (.ref f_DuplicateName) (.type "BaseException") = some true)
    (xt_DuplicateName : PySem.W.typeIn K (.ref f_DuplicateName) = some (.type "type"))
    (xk_DuplicateName : PySem.W.keepIn K (.ref f_DuplicateName) = true)
    (xg_DuplicateName : PySem.W.findIn K (.ref f_DuplicateName) "__getattribute__" = some (some (.builtin "BaseException.__getattribute__")))
    (xh_DuplicateName : PySem.W.findIn K (.ref f_DuplicateName) "__getattr__" = some none)
    (xd_DuplicateName : PySem.W.hasDictIn K f_DuplicateName = true)
    (xc_DuplicateName : PySem.W.findIn K (.ref f_DuplicateName) "__class__" = some (some (.builtin "object.__class__")))
    (xm_DuplicateName : PySem.W.mroIn K f_DuplicateName (.type "object") = some true)
    (xi_DuplicateName : PySem.W.isClsIn K f_DuplicateName = true)
    (xf_DuplicateName : PySem.W.typeIn K (.ref f_DuplicateName_init) = some (.type "function"))
    (no_DuplicateName_name : PySem.W.findIn K (.ref f_DuplicateName) "name" = some none)
    (x_UnknownName : ∃ nm q N bs bm sn sub ab col dd k0 k1 k2 k3 k5, K.lookup f_UnknownName = some (excClassObj nm q f_UnknownName N bs bm true sn sub ab col dd k0 k1 k2 k3 k5 "ValueError.__new__") ∧ PySem.HandSPX.refsVE bm = true)
    (xs_UnknownName : PySem.W.findIn K (.ref f_UnknownName) "__setattr__" = some (some (.builtin "object.__setattr__")))
    (xe_UnknownName : PySem.W.subIn K (.ref f_UnknownName) (.type "BaseException") = some true)
    (xt_UnknownName : PySem.W.typeIn K (.ref f_UnknownName) = some (.type "type"))
    (xk_UnknownName : PySem.W.keepIn K (.ref f_UnknownName) = true)
    (xg_UnknownName : PySem.W.findIn K (.ref f_UnknownName) "__getattribute__" = some (some (.builtin "BaseException.__getattribute__")))
    (xh_UnknownName : PySem.W.findIn K (.ref f_UnknownName) "__getattr__" = some none)
    (xd_UnknownName : PySem.W.hasDictIn K f_UnknownName = true)
    (xc_UnknownName : PySem.W.findIn K (.ref f_UnknownName) "__class__" = some (some (.builtin "object.__class__")))
    (xm_UnknownName : PySem.W.mroIn K f_UnknownName (.type "object") = some true)
    (xi_UnknownName : PySem.W.isClsIn K f_UnknownName = true)
    (xf_UnknownName : PySem.W.typeIn K (.ref f_UnknownName_init) = some (.type "function"))
    (no_UnknownName_name : PySem.W.findIn K (.ref f_UnknownName) "name" = some none)
    (x_BadCount : ∃ nm q N bs bm sn sub ab col dd k0 k1 k2 k3 k5, K.lookup f_BadCount = some (excClassObj nm q f_BadCount N bs bm true sn sub ab col dd k0 k1 k2 k3 k5 "ValueError.__new__") ∧ PySem.HandSPX.refsVE bm = true)
    (xs_BadCount : PySem.W.findIn K (.ref f_BadCount) "__setattr__" = some (some (.builtin "object.__setattr__")))
    (xe_BadCount : PySem.W.subIn K (.ref f_BadCount) (.type "BaseException") = some true)
    (xt_BadCount : PySem.W.typeIn K (.ref f_BadCount) = some (.type "type"))
    (xk_BadCount : PySem.W.keepIn K (.ref f_BadCount) = true)
    (xg_BadCount : PySem.W.findIn K (.ref f_BadCount) "__getattribute__" = some (some (.builtin "BaseException.__getattribute__")))
    (xh_BadCount : PySem.W.findIn K (.ref f_BadCount) "__getattr__" = some none)
    (xd_BadCount : PySem.W.hasDictIn K f_BadCount = true)
    (xc_BadCount : PySem.W.findIn K (.ref f_BadCount) "__class__" = some (some (.builtin "object.__class__")))
    (xm_BadCount : PySem.W.mroIn K f_BadCount (.type "object") = some true)
    (xi_BadCount : PySem.W.isClsIn K f_BadCount = true)
    (xf_BadCount : PySem.W.typeIn K (.ref f_BadCount_init) = some (.type "function"))
    (no_BadCount_count : PySem.W.findIn K (.ref f_BadCount) "count" = some none)
    (x_OutOfRange : ∃ nm q N bs bm sn sub ab col dd k0 k1 k2 k3 k5, K.lookup f_OutOfRange = some (excClassObj nm q f_OutOfRange N bs bm true sn sub ab col dd k0 k1 k2 k3 k5 "ValueError.__new__") ∧ PySem.HandSPX.refsVE bm = true)
    (xs_OutOfRange : PySem.W.findIn K (.ref f_OutOfRange) "__setattr__" = some (some (.builtin "object.__setattr__")))
    (xe_OutOfRange : PySem.W.subIn K (.ref f_OutOfRange) (.type "BaseException") = some true)
    (xt_OutOfRange : PySem.W.typeIn K (.ref f_OutOfRange) = some (.type "type"))
    (xk_OutOfRange : PySem.W.keepIn K (.ref f_OutOfRange) = true)
    (xg_OutOfRange : PySem.W.findIn K (.ref f_OutOfRange) "__getattribute__" = some (some (.builtin "BaseException.__getattribute__")))
    (xh_OutOfRange : PySem.W.findIn K (.ref f_OutOfRange) "__getattr__" = some none)
    (xd_OutOfRange : PySem.W.hasDictIn K f_OutOfRange = true)
    (xc_OutOfRange : PySem.W.findIn K (.ref f_OutOfRange) "__class__" = some (some (.builtin "object.__class__")))
    (xm_OutOfRange : PySem.W.mroIn K f_OutOfRange (.type "object") = some true)
    (xi_OutOfRange : PySem.W.isClsIn K f_OutOfRange = true)
    (xf_OutOfRange : PySem.W.typeIn K (.ref f_OutOfRange_init) = some (.type "function"))
    (no_OutOfRange_value : PySem.W.findIn K (.ref f_OutOfRange) "value" = some none)
    (x_BadLine : ∃ nm q N bs bm sn sub ab col dd k0 k1 k2 k3 k5, K.lookup f_BadLine = some (excClassObj nm q f_BadLine N bs bm true sn sub ab col dd k0 k1 k2 k3 k5 "ValueError.__new__") ∧ PySem.HandSPX.refsVE bm = true)
    (xs_BadLine : PySem.W.findIn K (.ref f_BadLine) "__setattr__" = some (some (.builtin "object.__setattr__")))
    (xe_BadLine : PySem.W.subIn K (.ref f_BadLine) (.type "BaseException") = some true)
    (xt_BadLine : PySem.W.typeIn K (.ref f_BadLine) = some (.type "type"))
    (xk_BadLine : PySem.W.keepIn K (.ref f_BadLine) = true)
    (xg_BadLine : PySem.W.findIn K (.ref f_BadLine) "__getattribute__" = some (some (.builtin "BaseException.__getattribute__")))
    (xh_BadLine : PySem.W.findIn K (.ref f_BadLine) "__getattr__" = some none)
    (xd_BadLine : PySem.W.hasDictIn K f_BadLine = true)
    (xc_BadLine : PySem.W.findIn K (.ref f_BadLine) "__class__" = some (some (.builtin "object.__class__")))
    (xm_BadLine : PySem.W.mroIn K f_BadLine (.type "object") = some true)
    (xi_BadLine : PySem.W.isClsIn K f_BadLine = true)
    (xf_BadLine : PySem.W.typeIn K (.ref f_BadLine_init) = some (.type "function"))
    (no_BadLine_number : PySem.W.findIn K (.ref f_BadLine) "number" = some none)
    (no_BadLine_text : PySem.W.findIn K (.ref f_BadLine) "text" = some none)
    (x_BadText : ∃ nm q N bs bm sn sub ab col dd k0 k1 k2 k3 k5, K.lookup f_BadText = some (excClassObj nm q f_BadText N bs bm true sn sub ab col dd k0 k1 k2 k3 k5 "ValueError.__new__") ∧ PySem.HandSPX.refsVE bm = true)
    (xs_BadText : PySem.W.findIn K (.ref f_BadText) "__setattr__" = some (some (.builtin "object.__setattr__")))
    (xe_BadText : PySem.W.subIn K (.ref f_BadText) (.type "BaseException") = some true)
    (xt_BadText : PySem.W.typeIn K (.ref f_BadText) = some (.type "type"))
    (xk_BadText : PySem.W.keepIn K (.ref f_BadText) = true)
    (xg_BadText : PySem.W.findIn K (.ref f_BadText) "__getattribute__" = some (some (.builtin "BaseException.__getattribute__")))
    (xh_BadText : PySem.W.findIn K (.ref f_BadText) "__getattr__" = some none)
    (xd_BadText : PySem.W.hasDictIn K f_BadText = true)
    (xc_BadText : PySem.W.findIn K (.ref f_BadText) "__class__" = some (some (.builtin "object.__class__")))
    (xm_BadText : PySem.W.mroIn K f_BadText (.type "object") = some true)
    (xi_BadText : PySem.W.isClsIn K f_BadText = true)
    (xf_BadText : PySem.W.typeIn K (.ref f_BadText_init) = some (.type "function"))
    (no_BadText_text : PySem.W.findIn K (.ref f_BadText) "text" = some none)
    (x_HasRound : ∃ nm q N bs bm sn sub ab col dd k0 k1 k2 k3 k5, K.lookup f_HasRound = some (excClassObj nm q f_HasRound N bs bm true sn sub ab col dd k0 k1 k2 k3 k5 "ValueError.__new__") ∧ PySem.HandSPX.refsVE bm = true)
    (xs_HasRound : PySem.W.findIn K (.ref f_HasRound) "__setattr__" = some (some (.builtin "object.__setattr__")))
    (xe_HasRound : PySem.W.subIn K (.ref f_HasRound) (.type "BaseException") = some true)
    (xt_HasRound : PySem.W.typeIn K (.ref f_HasRound) = some (.type "type"))
    (xk_HasRound : PySem.W.keepIn K (.ref f_HasRound) = true)
    (xg_HasRound : PySem.W.findIn K (.ref f_HasRound) "__getattribute__" = some (some (.builtin "BaseException.__getattribute__")))
    (xh_HasRound : PySem.W.findIn K (.ref f_HasRound) "__getattr__" = some none)
    (xd_HasRound : PySem.W.hasDictIn K f_HasRound = true)
    (xc_HasRound : PySem.W.findIn K (.ref f_HasRound) "__class__" = some (some (.builtin "object.__class__")))
    (xm_HasRound : PySem.W.mroIn K f_HasRound (.type "object") = some true)
    (xi_HasRound : PySem.W.isClsIn K f_HasRound = true)
    (xf_HasRound : PySem.W.typeIn K (.ref f_HasRound_init) = some (.type "function"))
    (no_HasRound_name : PySem.W.findIn K (.ref f_HasRound) "name" = some none)
    (x_UselessLink : ∃ nm q N bs bm sn sub ab col dd k0 k1 k2 k3 k5, K.lookup f_UselessLink = some (excClassObj nm q f_UselessLink N bs bm true sn sub ab col dd k0 k1 k2 k3 k5 "ValueError.__new__") ∧ PySem.HandSPX.refsVE bm = true)
    (xs_UselessLink : PySem.W.findIn K (.ref f_UselessLink) "__setattr__" = some (some (.builtin "object.__setattr__")))
    (xe_UselessLink : PySem.W.subIn K (.ref f_UselessLink) (.type "BaseException") = some true)
    (xt_UselessLink : PySem.W.typeIn K (.ref f_UselessLink) = some (.type "type"))
    (xk_UselessLink : PySem.W.keepIn K (.ref f_UselessLink) = true)
    (xg_UselessLink : PySem.W.findIn K (.ref f_UselessLink) "__getattribute__" = some (some (.builtin "BaseException.__getattribute__")))
    (xh_UselessLink : PySem.W.findIn K (.ref f_UselessLink) "__getattr__" = some none)
    (xd_UselessLink : PySem.W.hasDictIn K f_UselessLink = true)
    (xc_UselessLink : PySem.W.findIn K (.ref f_UselessLink) "__class__" = some (some (.builtin "object.__class__")))
    (xm_UselessLink : PySem.W.mroIn K f_UselessLink (.type "object") = some true)
    (xi_UselessLink : PySem.W.isClsIn K f_UselessLink = true)
    (xf_UselessLink : PySem.W.typeIn K (.ref f_UselessLink_init) = some (.type "function"))
    (no_UselessLink_name : PySem.W.findIn K (.ref f_UselessLink) "name" = some none)
    (x_BadJoint : ∃ nm q N bs bm sn sub ab col dd k0 k1 k2 k3 k5, K.lookup f_BadJoint = some (excClassObj nm q f_BadJoint N bs bm true sn sub ab col dd k0 k1 k2 k3 k5 "ValueError.__new__") ∧ PySem.HandSPX.refsVE bm = true)
    (xs_BadJoint : PySem.W.findIn K (.ref f_BadJoint) "__setattr__" = some (some (.builtin "object.__setattr__")))
    (xe_BadJoint : PySem.W.subIn K (.ref f_BadJoint) (.type "BaseException") = some true)
    (xt_BadJoint : PySem.W.typeIn K (.ref f_BadJoint) = some (.type "type"))
    (xk_BadJoint : PySem.W.keepIn K (.ref f_BadJoint) = true)
    (xg_BadJoint : PySem.W.findIn K (.ref f_BadJoint) "__getattribute__" = some (some (.builtin "BaseException.__getattribute__")))
    (xh_BadJoint : PySem.W.findIn K (.ref f_BadJoint) "__getattr__" = some none)
    (xd_BadJoint : PySem.W.hasDictIn K f_BadJoint = true)
    (xc_BadJoint : PySem.W.findIn K (.ref f_BadJoint) "__class__" = some (some (.builtin "object.__class__")))
    (xm_BadJoint : PySem.W.mroIn K f_BadJoint (.type "object") = some true)
    (xi_BadJoint : PySem.W.isClsIn K f_BadJoint = true)
    (xf_BadJoint : PySem.W.typeIn K (.ref f_BadJoint_init) = some (.type "function"))
    (no_BadJoint_place : PySem.W.findIn K (.ref f_BadJoint) "place" = some none)
    (x_BadWay : ∃ nm q N bs bm sn sub ab col dd k0 k1 k2 k3 k5, K.lookup f_BadWay = some (excClassObj nm q f_BadWay N bs bm true sn sub ab col dd k0 k1 k2 k3 k5 "ValueError.__new__") ∧ PySem.HandSPX.refsVE bm = true)
    (xs_BadWay : PySem.W.findIn K (.ref f_BadWay) "__setattr__" = some (some (.builtin "object.__setattr__")))
    (xe_BadWay : PySem.W.subIn K (.ref f_BadWay) (.type "BaseException") = some true)
    (xt_BadWay : PySem.W.typeIn K (.ref f_BadWay) = some (.type "type"))
    (xk_BadWay : PySem.W.keepIn K (.ref f_BadWay) = true)
    (xg_BadWay : PySem.W.findIn K (.ref f_BadWay) "__getattribute__" = some (some (.builtin "BaseException.__getattribute__")))
    (xh_BadWay : PySem.W.findIn K (.ref f_BadWay) "__getattr__" = some none)
    (xd_BadWay : PySem.W.hasDictIn K f_BadWay = true)
    (xc_BadWay : PySem.W.findIn K (.ref f_BadWay) "__class__" = some (some (.builtin "object.__class__")))
    (xm_BadWay : PySem.W.mroIn K f_BadWay (.type "object") = some true)
    (xi_BadWay : PySem.W.isClsIn K f_BadWay = true)
    (xf_BadWay : PySem.W.typeIn K (.ref f_BadWay_init) = some (.type "function"))
    (no_BadWay_way : PySem.W.findIn K (.ref f_BadWay) "way" = some none)
    (x_NoHarm : ∃ nm q N bs bm sn sub ab col dd k0 k1 k2 k3 k5, K.lookup f_NoHarm = some (excClassObj nm q f_NoHarm N bs bm true sn sub ab col dd k0 k1 k2 k3 k5 "ValueError.__new__") ∧ PySem.HandSPX.refsVE bm = true)
    (xs_NoHarm : PySem.W.findIn K (.ref f_NoHarm) "__setattr__" = some (some (.builtin "object.__setattr__")))
    (xe_NoHarm : PySem.W.subIn K (.ref f_NoHarm) (.type "BaseException") = some true)
    (xt_NoHarm : PySem.W.typeIn K (.ref f_NoHarm) = some (.type "type"))
    (xk_NoHarm : PySem.W.keepIn K (.ref f_NoHarm) = true)
    (xg_NoHarm : PySem.W.findIn K (.ref f_NoHarm) "__getattribute__" = some (some (.builtin "BaseException.__getattribute__")))
    (xh_NoHarm : PySem.W.findIn K (.ref f_NoHarm) "__getattr__" = some none)
    (xd_NoHarm : PySem.W.hasDictIn K f_NoHarm = true)
    (xc_NoHarm : PySem.W.findIn K (.ref f_NoHarm) "__class__" = some (some (.builtin "object.__class__")))
    (xm_NoHarm : PySem.W.mroIn K f_NoHarm (.type "object") = some true)
    (xi_NoHarm : PySem.W.isClsIn K f_NoHarm = true)
    (xf_NoHarm : PySem.W.typeIn K (.ref f_NoHarm_init) = some (.type "function"))
    (no_NoHarm_kind : PySem.W.findIn K (.ref f_NoHarm) "kind" = some none)
    (xe_NoWay : PySem.W.subIn K (.ref f_NoWay) (.type "BaseException") = some true)
    (xt_NoWay : PySem.W.typeIn K (.ref f_NoWay) = some (.type "type"))
    (xk_NoWay : PySem.W.keepIn K (.ref f_NoWay) = true)
    (xg_NoWay : PySem.W.findIn K (.ref f_NoWay) "__getattribute__" = some (some (.builtin "BaseException.__getattribute__")))
    (xh_NoWay : PySem.W.findIn K (.ref f_NoWay) "__getattr__" = some none)
    (xd_NoWay : PySem.W.hasDictIn K f_NoWay = true)
    (xc_NoWay : PySem.W.findIn K (.ref f_NoWay) "__class__" = some (some (.builtin "object.__class__")))
    (xm_NoWay : PySem.W.mroIn K f_NoWay (.type "object") = some true)
    (xi_NoWay : PySem.W.isClsIn K f_NoWay = true)
    (xq_NoWay : PySem.W.excIn K f_NoWay [.type "ValueError", .type "Exception", .type "BaseException", .type "object"] "ValueError.__new__" = true)
    (xe_NotBuilding : PySem.W.subIn K (.ref f_NotBuilding) (.type "BaseException") = some true)
    (xt_NotBuilding : PySem.W.typeIn K (.ref f_NotBuilding) = some (.type "type"))
    (xk_NotBuilding : PySem.W.keepIn K (.ref f_NotBuilding) = true)
    (xg_NotBuilding : PySem.W.findIn K (.ref f_NotBuilding) "__getattribute__" = some (some (.builtin "BaseException.__getattribute__")))
    (xh_NotBuilding : PySem.W.findIn K (.ref f_NotBuilding) "__getattr__" = some none)
    (xd_NotBuilding : PySem.W.hasDictIn K f_NotBuilding = true)
    (xc_NotBuilding : PySem.W.findIn K (.ref f_NotBuilding) "__class__" = some (some (.builtin "object.__class__")))
    (xm_NotBuilding : PySem.W.mroIn K f_NotBuilding (.type "object") = some true)
    (xi_NotBuilding : PySem.W.isClsIn K f_NotBuilding = true)
    (xq_NotBuilding : PySem.W.excIn K f_NotBuilding [.type "ValueError", .type "Exception", .type "BaseException", .type "object"] "ValueError.__new__" = true)
    (xe_NothingToUndo : PySem.W.subIn K (.ref f_NothingToUndo) (.type "BaseException") = some true)
    (xt_NothingToUndo : PySem.W.typeIn K (.ref f_NothingToUndo) = some (.type "type"))
    (xk_NothingToUndo : PySem.W.keepIn K (.ref f_NothingToUndo) = true)
    (xg_NothingToUndo : PySem.W.findIn K (.ref f_NothingToUndo) "__getattribute__" = some (some (.builtin "BaseException.__getattribute__")))
    (xh_NothingToUndo : PySem.W.findIn K (.ref f_NothingToUndo) "__getattr__" = some none)
    (xd_NothingToUndo : PySem.W.hasDictIn K f_NothingToUndo = true)
    (xc_NothingToUndo : PySem.W.findIn K (.ref f_NothingToUndo) "__class__" = some (some (.builtin "object.__class__")))
    (xm_NothingToUndo : PySem.W.mroIn K f_NothingToUndo (.type "object") = some true)
    (xi_NothingToUndo : PySem.W.isClsIn K f_NothingToUndo = true)
    (xq_NothingToUndo : PySem.W.excIn K f_NothingToUndo [.type "ValueError", .type "Exception", .type "BaseException", .type "object"] "ValueError.__new__" = true)
    (cx_BadName : PySem.W.clsIn K f_BadName = some cdx_BadName)
    (mr_BadName : cdx_BadName.mro = [.ref f_BadName, .ref f_ExtralinkError, .type "ValueError", .type "Exception", .type "BaseException", .type "object"])
    (cx_DuplicateName : PySem.W.clsIn K f_DuplicateName = some cdx_DuplicateName)
    (mr_DuplicateName : cdx_DuplicateName.mro = [.ref f_DuplicateName, .ref f_ExtralinkError, .type "ValueError", .type "Exception", .type "BaseException", .type "object"])
    (cx_UnknownName : PySem.W.clsIn K f_UnknownName = some cdx_UnknownName)
    (mr_UnknownName : cdx_UnknownName.mro = [.ref f_UnknownName, .ref f_ExtralinkError, .type "ValueError", .type "Exception", .type "BaseException", .type "object"])
    (cx_BadCount : PySem.W.clsIn K f_BadCount = some cdx_BadCount)
    (mr_BadCount : cdx_BadCount.mro = [.ref f_BadCount, .ref f_ExtralinkError, .type "ValueError", .type "Exception", .type "BaseException", .type "object"])
    (cx_OutOfRange : PySem.W.clsIn K f_OutOfRange = some cdx_OutOfRange)
    (mr_OutOfRange : cdx_OutOfRange.mro = [.ref f_OutOfRange, .ref f_ExtralinkError, .type "ValueError", .type "Exception", .type "BaseException", .type "object"])
    (cx_BadLine : PySem.W.clsIn K f_BadLine = some cdx_BadLine)
    (mr_BadLine : cdx_BadLine.mro = [.ref f_BadLine, .ref f_ExtralinkError, .type "ValueError", .type "Exception", .type "BaseException", .type "object"])
    (cx_BadText : PySem.W.clsIn K f_BadText = some cdx_BadText)
    (mr_BadText : cdx_BadText.mro = [.ref f_BadText, .ref f_ExtralinkError, .type "ValueError", .type "Exception", .type "BaseException", .type "object"])
    (cx_HasRound : PySem.W.clsIn K f_HasRound = some cdx_HasRound)
    (mr_HasRound : cdx_HasRound.mro = [.ref f_HasRound, .ref f_ExtralinkError, .type "ValueError", .type "Exception", .type "BaseException", .type "object"])
    (cx_UselessLink : PySem.W.clsIn K f_UselessLink = some cdx_UselessLink)
    (mr_UselessLink : cdx_UselessLink.mro = [.ref f_UselessLink, .ref f_ExtralinkError, .type "ValueError", .type "Exception", .type "BaseException", .type "object"])
    (cx_BadJoint : PySem.W.clsIn K f_BadJoint = some cdx_BadJoint)
    (mr_BadJoint : cdx_BadJoint.mro = [.ref f_BadJoint, .ref f_ExtralinkError, .type "ValueError", .type "Exception", .type "BaseException", .type "object"])
    (cx_BadWay : PySem.W.clsIn K f_BadWay = some cdx_BadWay)
    (mr_BadWay : cdx_BadWay.mro = [.ref f_BadWay, .ref f_ExtralinkError, .type "ValueError", .type "Exception", .type "BaseException", .type "object"])
    (cx_NoWay : PySem.W.clsIn K f_NoWay = some cdx_NoWay)
    (mr_NoWay : cdx_NoWay.mro = [.ref f_NoWay, .ref f_ExtralinkError, .type "ValueError", .type "Exception", .type "BaseException", .type "object"])
    (cx_NotBuilding : PySem.W.clsIn K f_NotBuilding = some cdx_NotBuilding)
    (mr_NotBuilding : cdx_NotBuilding.mro = [.ref f_NotBuilding, .ref f_ExtralinkError, .type "ValueError", .type "Exception", .type "BaseException", .type "object"])
    (cx_NoHarm : PySem.W.clsIn K f_NoHarm = some cdx_NoHarm)
    (mr_NoHarm : cdx_NoHarm.mro = [.ref f_NoHarm, .ref f_ExtralinkError, .type "ValueError", .type "Exception", .type "BaseException", .type "object"])
    (cx_NothingToUndo : PySem.W.clsIn K f_NothingToUndo = some cdx_NothingToUndo)
    (mr_NothingToUndo : cdx_NothingToUndo.mro = [.ref f_NothingToUndo, .ref f_ExtralinkError, .type "ValueError", .type "Exception", .type "BaseException", .type "object"])
    (xi_ExtralinkError : PySem.W.isClsIn K f_ExtralinkError = true)
    (xt_ExtralinkError : PySem.W.typeIn K (.ref f_ExtralinkError) = some (.type "type"))
    (nq_all : decide (([f_ExtralinkError, f_BadName, f_DuplicateName, f_UnknownName, f_BadCount, f_OutOfRange, f_BadLine, f_BadText, f_HasRound, f_UselessLink, f_BadJoint, f_BadWay, f_NoWay, f_NotBuilding, f_NoHarm, f_NothingToUndo] : List Addr).Nodup) = true)
    (g_gcd : PySem.W.nsIn K mainGlobals "gcd" = some (some (.builtin "math.gcd")))
    (z_ValueError : PySem.W.nsIn K mainGlobals "ValueError" = some none)
    (z_abs : PySem.W.nsIn K mainGlobals "abs" = some none)
    (z_int : PySem.W.nsIn K mainGlobals "int" = some none)
    (z_isinstance : PySem.W.nsIn K mainGlobals "isinstance" = some none)
    (z_len : PySem.W.nsIn K mainGlobals "len" = some none)
    (z_list : PySem.W.nsIn K mainGlobals "list" = some none)
    (z_range : PySem.W.nsIn K mainGlobals "range" = some none)
    (a_law : PySem.W.nsIn K mainGlobals "law" = some (some (.ref f_law)))
    (l_law : K.lookup f_law = some ⟨oc_law, od_law, .func (PySem.W.fnOf "law" "law" (defArgs s_law) (defBody s_law) (defScope s_law) .none kV_law dc_law pm_law an_law cd_law ct_law), sl_law⟩)
    (c_law : PySem.W.codeIn K cd_law "law" = true)
    (k_law : PySem.W.keepIn K (.ref f_law) = true)
    : ∃ fd : FuncData, (∀ (s : Shared) (v : Value), BindsTo s fd ⟨[v], []⟩ [("_law_script", v)]) ∧ ∀ base : Heap, K.In base → base.Ns mainGlobals mg → FnOk l.prog w K mg base CX0 4 fa fd ["_law_script"] (spLaw K) := by
  have e := hfa.symm.trans (PySem.W.mg_of X G a_law)
  cases e
  obtain ⟨e1_Ratio_init, ev1_Ratio_init, eb1_Ratio_init⟩ := FunD.binds1 (K := K) (f := f_Ratio_init) (fd := PySem.W.fnOf "__init__" "Ratio.__init__" (defArgs s_Ratio_init) (defBody s_Ratio_init) (defScope s_Ratio_init) (.ref dT_Ratio_init) kV_Ratio_init dc_Ratio_init pm_Ratio_init an_Ratio_init cd_Ratio_init ct_Ratio_init) (dvs := [V.int 1]) (kws := []) (ps := ["self", "top", "bottom"]) ⟨⟨_, _, _, _, _, _, _, _, _, _, rfl, l_Ratio_init, c_Ratio_init, .inr ⟨by simp, _, _, [.int 1 dt_Ratio_init], _, rfl, t_Ratio_init, rfl, .cons ⟨_, rfl⟩ .nil⟩, .inl rfl⟩, k_Ratio_init⟩ 2 0 (by simp) rfl fun _ _ _ _ _ _ _ us its hl hi => match us, hl, its, hi with | [_, _], _, [_], _ => ⟨_, rfl, rfl⟩
  obtain ⟨e2_Ratio_init, ev2_Ratio_init, eb2_Ratio_init⟩ := FunD.binds1 (K := K) (f := f_Ratio_init) (fd := PySem.W.fnOf "__init__" "Ratio.__init__" (defArgs s_Ratio_init) (defBody s_Ratio_init) (defScope s_Ratio_init) (.ref dT_Ratio_init) kV_Ratio_init dc_Ratio_init pm_Ratio_init an_Ratio_init cd_Ratio_init ct_Ratio_init) (dvs := [V.int 1]) (kws := []) (ps := ["self", "top", "bottom"]) ⟨⟨_, _, _, _, _, _, _, _, _, _, rfl, l_Ratio_init, c_Ratio_init, .inr ⟨by simp, _, _, [.int 1 dt_Ratio_init], _, rfl, t_Ratio_init, rfl, .cons ⟨_, rfl⟩ .nil⟩, .inl rfl⟩, k_Ratio_init⟩ 3 1 (by simp) rfl fun _ _ _ _ _ _ _ us its hl hi => match us, hl, its, hi with | [_, _, _], _, [_], _ => ⟨_, rfl, rfl⟩
  have ec_BadName_ : ExcC K f_BadName := ⟨xg_BadName, xh_BadName, xe_BadName, xd_BadName, xc_BadName, hn_class, ht_class, xm_BadName⟩
  have ec_DuplicateName_ : ExcC K f_DuplicateName := ⟨xg_DuplicateName, xh_DuplicateName, xe_DuplicateName, xd_DuplicateName, xc_DuplicateName, hn_class, ht_class, xm_DuplicateName⟩
  have ec_UnknownName_ : ExcC K f_UnknownName := ⟨xg_UnknownName, xh_UnknownName, xe_UnknownName, xd_UnknownName, xc_UnknownName, hn_class, ht_class, xm_UnknownName⟩
  have ec_BadCount_ : ExcC K f_BadCount := ⟨xg_BadCount, xh_BadCount, xe_BadCount, xd_BadCount, xc_BadCount, hn_class, ht_class, xm_BadCount⟩
  have ec_OutOfRange_ : ExcC K f_OutOfRange := ⟨xg_OutOfRange, xh_OutOfRange, xe_OutOfRange, xd_OutOfRange, xc_OutOfRange, hn_class, ht_class, xm_OutOfRange⟩
  have ec_BadLine_ : ExcC K f_BadLine := ⟨xg_BadLine, xh_BadLine, xe_BadLine, xd_BadLine, xc_BadLine, hn_class, ht_class, xm_BadLine⟩
  have ec_BadText_ : ExcC K f_BadText := ⟨xg_BadText, xh_BadText, xe_BadText, xd_BadText, xc_BadText, hn_class, ht_class, xm_BadText⟩
  have ec_HasRound_ : ExcC K f_HasRound := ⟨xg_HasRound, xh_HasRound, xe_HasRound, xd_HasRound, xc_HasRound, hn_class, ht_class, xm_HasRound⟩
  have ec_UselessLink_ : ExcC K f_UselessLink := ⟨xg_UselessLink, xh_UselessLink, xe_UselessLink, xd_UselessLink, xc_UselessLink, hn_class, ht_class, xm_UselessLink⟩
  have ec_BadJoint_ : ExcC K f_BadJoint := ⟨xg_BadJoint, xh_BadJoint, xe_BadJoint, xd_BadJoint, xc_BadJoint, hn_class, ht_class, xm_BadJoint⟩
  have ec_BadWay_ : ExcC K f_BadWay := ⟨xg_BadWay, xh_BadWay, xe_BadWay, xd_BadWay, xc_BadWay, hn_class, ht_class, xm_BadWay⟩
  have ec_NoWay_ : ExcC K f_NoWay := ⟨xg_NoWay, xh_NoWay, xe_NoWay, xd_NoWay, xc_NoWay, hn_class, ht_class, xm_NoWay⟩
  have ec_NotBuilding_ : ExcC K f_NotBuilding := ⟨xg_NotBuilding, xh_NotBuilding, xe_NotBuilding, xd_NotBuilding, xc_NotBuilding, hn_class, ht_class, xm_NotBuilding⟩
  have ec_NoHarm_ : ExcC K f_NoHarm := ⟨xg_NoHarm, xh_NoHarm, xe_NoHarm, xd_NoHarm, xc_NoHarm, hn_class, ht_class, xm_NoHarm⟩
  have ec_NothingToUndo_ : ExcC K f_NothingToUndo := ⟨xg_NothingToUndo, xh_NothingToUndo, xe_NothingToUndo, xd_NothingToUndo, xc_NothingToUndo, hn_class, ht_class, xm_NothingToUndo⟩
  have T : Txt K mg := {
    f_BadName := f_BadName,
    m_BadName := PySem.W.mg_of X G a_BadName,
    f_DuplicateName := f_DuplicateName,
    m_DuplicateName := PySem.W.mg_of X G a_DuplicateName,
    f_UnknownName := f_UnknownName,
    m_UnknownName := PySem.W.mg_of X G a_UnknownName,
    f_BadCount := f_BadCount,
    m_BadCount := PySem.W.mg_of X G a_BadCount,
    f_OutOfRange := f_OutOfRange,
    m_OutOfRange := PySem.W.mg_of X G a_OutOfRange,
    f_BadLine := f_BadLine,
    m_BadLine := PySem.W.mg_of X G a_BadLine,
    f_BadText := f_BadText,
    m_BadText := PySem.W.mg_of X G a_BadText,
    f_HasRound := f_HasRound,
    m_HasRound := PySem.W.mg_of X G a_HasRound,
    f_UselessLink := f_UselessLink,
    m_UselessLink := PySem.W.mg_of X G a_UselessLink,
    f_BadJoint := f_BadJoint,
    m_BadJoint := PySem.W.mg_of X G a_BadJoint,
    f_BadWay := f_BadWay,
    m_BadWay := PySem.W.mg_of X G a_BadWay,
    f_NoHarm := f_NoHarm,
    m_NoHarm := PySem.W.mg_of X G a_NoHarm,
    f_Ratio := f_Ratio,
    m_Ratio := PySem.W.mg_of X G a_Ratio,
    cl_Ratio := ⟨pg_Ratio, hd_Ratio, po_Ratio, sa_Ratio⟩,
    ic_Ratio := ⟨⟨pg_Ratio, hd_Ratio, po_Ratio, sa_Ratio⟩, hc_Ratio, hn_class, ht_class, mo_Ratio, kit_self⟩,
    na_Ratio_top := na_Ratio_top,
    na_Ratio_bottom := na_Ratio_bottom,
    f_ExtralinkError := f_ExtralinkError,
    m_ExtralinkError := PySem.W.mg_of X G a_ExtralinkError,
    f_NoWay := f_NoWay,
    m_NoWay := PySem.W.mg_of X G a_NoWay,
    f_NotBuilding := f_NotBuilding,
    m_NotBuilding := PySem.W.mg_of X G a_NotBuilding,
    f_NothingToUndo := f_NothingToUndo,
    m_NothingToUndo := PySem.W.mg_of X G a_NothingToUndo,
    f_start := f_start,
    d_start := PySem.W.fnOf "_law_start" "_law_start" (defArgs s_start) (defBody s_start) (defScope s_start) .none kV_start dc_start pm_start an_start cd_start ct_start,
    F_start := fun_mk (st := s_start) l_start c_start k_start,
    b_start := (fun_mk (st := s_start) l_start c_start k_start).binds (ps := ["_law_script"]) fun _ _ _ _ _ _ us hl => match us, hl with | [_], _ => rfl,
    m_start := PySem.W.mg_of X G a_start,
    f_draw := f_draw,
    d_draw := PySem.W.fnOf "_law_draw" "_law_draw" (defArgs s_draw) (defBody s_draw) (defScope s_draw) .none kV_draw dc_draw pm_draw an_draw cd_draw ct_draw,
    F_draw := fun_mk (st := s_draw) l_draw c_draw k_draw,
    b_draw := (fun_mk (st := s_draw) l_draw c_draw k_draw).binds (ps := ["_law_state", "_law_size"]) fun _ _ _ _ _ _ us hl => match us, hl with | [_, _], _ => rfl,
    m_draw := PySem.W.mg_of X G a_draw,
    f_signs := f_signs,
    d_signs := PySem.W.fnOf "_law_signs" "_law_signs" (defArgs s_signs) (defBody s_signs) (defScope s_signs) .none kV_signs dc_signs pm_signs an_signs cd_signs ct_signs,
    F_signs := fun_mk (st := s_signs) l_signs c_signs k_signs,
    b_signs := (fun_mk (st := s_signs) l_signs c_signs k_signs).binds (ps := []) fun _ _ _ _ _ _ us hl => match us, hl with | [], _ => rfl,
    m_signs := PySem.W.mg_of X G a_signs,
    f_kinds := f_kinds,
    d_kinds := PySem.W.fnOf "_law_kinds" "_law_kinds" (defArgs s_kinds) (defBody s_kinds) (defScope s_kinds) .none kV_kinds dc_kinds pm_kinds an_kinds cd_kinds ct_kinds,
    F_kinds := fun_mk (st := s_kinds) l_kinds c_kinds k_kinds,
    b_kinds := (fun_mk (st := s_kinds) l_kinds c_kinds k_kinds).binds (ps := ["_law_e"]) fun _ _ _ _ _ _ us hl => match us, hl with | [_], _ => rfl,
    m_kinds := PySem.W.mg_of X G a_kinds,
    f_right := f_right,
    d_right := PySem.W.fnOf "_law_right" "_law_right" (defArgs s_right) (defBody s_right) (defScope s_right) .none kV_right dc_right pm_right an_right cd_right ct_right,
    F_right := fun_mk (st := s_right) l_right c_right k_right,
    b_right := (fun_mk (st := s_right) l_right c_right k_right).binds (ps := ["_law_e", "_law_amount"]) fun _ _ _ _ _ _ us hl => match us, hl with | [_, _], _ => rfl,
    m_right := PySem.W.mg_of X G a_right,
    f_thing := f_thing,
    d_thing := PySem.W.fnOf "_law_thing" "_law_thing" (defArgs s_thing) (defBody s_thing) (defScope s_thing) .none kV_thing dc_thing pm_thing an_thing cd_thing ct_thing,
    F_thing := fun_mk (st := s_thing) l_thing c_thing k_thing,
    b_thing := (fun_mk (st := s_thing) l_thing c_thing k_thing).binds (ps := ["_law_state"]) fun _ _ _ _ _ _ us hl => match us, hl with | [_], _ => rfl,
    m_thing := PySem.W.mg_of X G a_thing,
    f_all := f_all,
    d_all := PySem.W.fnOf "_law_all" "_law_all" (defArgs s_all) (defBody s_all) (defScope s_all) .none kV_all dc_all pm_all an_all cd_all ct_all,
    F_all := fun_mk (st := s_all) l_all c_all k_all,
    b_all := (fun_mk (st := s_all) l_all c_all k_all).binds (ps := ["_law_t"]) fun _ _ _ _ _ _ us hl => match us, hl with | [_], _ => rfl,
    m_all := PySem.W.mg_of X G a_all,
    f_named := f_named,
    d_named := PySem.W.fnOf "_law_named" "_law_named" (defArgs s_named) (defBody s_named) (defScope s_named) .none kV_named dc_named pm_named an_named cd_named ct_named,
    F_named := fun_mk (st := s_named) l_named c_named k_named,
    b_named := (fun_mk (st := s_named) l_named c_named k_named).binds (ps := ["_law_t"]) fun _ _ _ _ _ _ us hl => match us, hl with | [_], _ => rfl,
    m_named := PySem.W.mg_of X G a_named,
    f_keeps := f_keeps,
    d_keeps := PySem.W.fnOf "_law_keeps" "_law_keeps" (defArgs s_keeps) (defBody s_keeps) (defScope s_keeps) .none kV_keeps dc_keeps pm_keeps an_keeps cd_keeps ct_keeps,
    F_keeps := fun_mk (st := s_keeps) l_keeps c_keeps k_keeps,
    b_keeps := (fun_mk (st := s_keeps) l_keeps c_keeps k_keeps).binds (ps := ["_law_made", "_law_t"]) fun _ _ _ _ _ _ us hl => match us, hl with | [_, _], _ => rfl,
    m_keeps := PySem.W.mg_of X G a_keeps,
    f_BadName_init := f_BadName_init,
    d_BadName_init := PySem.W.fnOf "__init__" "BadName.__init__" (defArgs s_BadName_init) (defBody s_BadName_init) (defScope s_BadName_init) .none kV_BadName_init dc_BadName_init pm_BadName_init an_BadName_init cd_BadName_init ct_BadName_init,
    F_BadName_init := fun_mk (st := s_BadName_init) l_BadName_init c_BadName_init k_BadName_init,
    b_BadName_init := (fun_mk (st := s_BadName_init) l_BadName_init c_BadName_init k_BadName_init).binds (ps := ["self", "name"]) fun _ _ _ _ _ _ us hl => match us, hl with | [_, _], _ => rfl,
    a_BadName_init := a_BadName_init,
    i_BadName_init := i_BadName_init,
    f_DuplicateName_init := f_DuplicateName_init,
    d_DuplicateName_init := PySem.W.fnOf "__init__" "DuplicateName.__init__" (defArgs s_DuplicateName_init) (defBody s_DuplicateName_init) (defScope s_DuplicateName_init) .none kV_DuplicateName_init dc_DuplicateName_init pm_DuplicateName_init an_DuplicateName_init cd_DuplicateName_init ct_DuplicateName_init,
    F_DuplicateName_init := fun_mk (st := s_DuplicateName_init) l_DuplicateName_init c_DuplicateName_init k_DuplicateName_init,
    b_DuplicateName_init := (fun_mk (st := s_DuplicateName_init) l_DuplicateName_init c_DuplicateName_init k_DuplicateName_init).binds (ps := ["self", "name"]) fun _ _ _ _ _ _ us hl => match us, hl with | [_, _], _ => rfl,
    a_DuplicateName_init := a_DuplicateName_init,
    i_DuplicateName_init := i_DuplicateName_init,
    f_UnknownName_init := f_UnknownName_init,
    d_UnknownName_init := PySem.W.fnOf "__init__" "UnknownName.__init__" (defArgs s_UnknownName_init) (defBody s_UnknownName_init) (defScope s_UnknownName_init) .none kV_UnknownName_init dc_UnknownName_init pm_UnknownName_init an_UnknownName_init cd_UnknownName_init ct_UnknownName_init,
    F_UnknownName_init := fun_mk (st := s_UnknownName_init) l_UnknownName_init c_UnknownName_init k_UnknownName_init,
    b_UnknownName_init := (fun_mk (st := s_UnknownName_init) l_UnknownName_init c_UnknownName_init k_UnknownName_init).binds (ps := ["self", "name"]) fun _ _ _ _ _ _ us hl => match us, hl with | [_, _], _ => rfl,
    a_UnknownName_init := a_UnknownName_init,
    i_UnknownName_init := i_UnknownName_init,
    f_BadCount_init := f_BadCount_init,
    d_BadCount_init := PySem.W.fnOf "__init__" "BadCount.__init__" (defArgs s_BadCount_init) (defBody s_BadCount_init) (defScope s_BadCount_init) .none kV_BadCount_init dc_BadCount_init pm_BadCount_init an_BadCount_init cd_BadCount_init ct_BadCount_init,
    F_BadCount_init := fun_mk (st := s_BadCount_init) l_BadCount_init c_BadCount_init k_BadCount_init,
    b_BadCount_init := (fun_mk (st := s_BadCount_init) l_BadCount_init c_BadCount_init k_BadCount_init).binds (ps := ["self", "count"]) fun _ _ _ _ _ _ us hl => match us, hl with | [_, _], _ => rfl,
    a_BadCount_init := a_BadCount_init,
    i_BadCount_init := i_BadCount_init,
    f_OutOfRange_init := f_OutOfRange_init,
    d_OutOfRange_init := PySem.W.fnOf "__init__" "OutOfRange.__init__" (defArgs s_OutOfRange_init) (defBody s_OutOfRange_init) (defScope s_OutOfRange_init) .none kV_OutOfRange_init dc_OutOfRange_init pm_OutOfRange_init an_OutOfRange_init cd_OutOfRange_init ct_OutOfRange_init,
    F_OutOfRange_init := fun_mk (st := s_OutOfRange_init) l_OutOfRange_init c_OutOfRange_init k_OutOfRange_init,
    b_OutOfRange_init := (fun_mk (st := s_OutOfRange_init) l_OutOfRange_init c_OutOfRange_init k_OutOfRange_init).binds (ps := ["self", "value"]) fun _ _ _ _ _ _ us hl => match us, hl with | [_, _], _ => rfl,
    a_OutOfRange_init := a_OutOfRange_init,
    i_OutOfRange_init := i_OutOfRange_init,
    f_BadLine_init := f_BadLine_init,
    d_BadLine_init := PySem.W.fnOf "__init__" "BadLine.__init__" (defArgs s_BadLine_init) (defBody s_BadLine_init) (defScope s_BadLine_init) .none kV_BadLine_init dc_BadLine_init pm_BadLine_init an_BadLine_init cd_BadLine_init ct_BadLine_init,
    F_BadLine_init := fun_mk (st := s_BadLine_init) l_BadLine_init c_BadLine_init k_BadLine_init,
    b_BadLine_init := (fun_mk (st := s_BadLine_init) l_BadLine_init c_BadLine_init k_BadLine_init).binds (ps := ["self", "number", "text"]) fun _ _ _ _ _ _ us hl => match us, hl with | [_, _, _], _ => rfl,
    a_BadLine_init := a_BadLine_init,
    i_BadLine_init := i_BadLine_init,
    f_BadText_init := f_BadText_init,
    d_BadText_init := PySem.W.fnOf "__init__" "BadText.__init__" (defArgs s_BadText_init) (defBody s_BadText_init) (defScope s_BadText_init) .none kV_BadText_init dc_BadText_init pm_BadText_init an_BadText_init cd_BadText_init ct_BadText_init,
    F_BadText_init := fun_mk (st := s_BadText_init) l_BadText_init c_BadText_init k_BadText_init,
    b_BadText_init := (fun_mk (st := s_BadText_init) l_BadText_init c_BadText_init k_BadText_init).binds (ps := ["self", "text"]) fun _ _ _ _ _ _ us hl => match us, hl with | [_, _], _ => rfl,
    a_BadText_init := a_BadText_init,
    i_BadText_init := i_BadText_init,
    f_HasRound_init := f_HasRound_init,
    d_HasRound_init := PySem.W.fnOf "__init__" "HasRound.__init__" (defArgs s_HasRound_init) (defBody s_HasRound_init) (defScope s_HasRound_init) .none kV_HasRound_init dc_HasRound_init pm_HasRound_init an_HasRound_init cd_HasRound_init ct_HasRound_init,
    F_HasRound_init := fun_mk (st := s_HasRound_init) l_HasRound_init c_HasRound_init k_HasRound_init,
    b_HasRound_init := (fun_mk (st := s_HasRound_init) l_HasRound_init c_HasRound_init k_HasRound_init).binds (ps := ["self", "name"]) fun _ _ _ _ _ _ us hl => match us, hl with | [_, _], _ => rfl,
    a_HasRound_init := a_HasRound_init,
    i_HasRound_init := i_HasRound_init,
    f_UselessLink_init := f_UselessLink_init,
    d_UselessLink_init := PySem.W.fnOf "__init__" "UselessLink.__init__" (defArgs s_UselessLink_init) (defBody s_UselessLink_init) (defScope s_UselessLink_init) .none kV_UselessLink_init dc_UselessLink_init pm_UselessLink_init an_UselessLink_init cd_UselessLink_init ct_UselessLink_init,
    F_UselessLink_init := fun_mk (st := s_UselessLink_init) l_UselessLink_init c_UselessLink_init k_UselessLink_init,
    b_UselessLink_init := (fun_mk (st := s_UselessLink_init) l_UselessLink_init c_UselessLink_init k_UselessLink_init).binds (ps := ["self", "name"]) fun _ _ _ _ _ _ us hl => match us, hl with | [_, _], _ => rfl,
    a_UselessLink_init := a_UselessLink_init,
    i_UselessLink_init := i_UselessLink_init,
    f_BadJoint_init := f_BadJoint_init,
    d_BadJoint_init := PySem.W.fnOf "__init__" "BadJoint.__init__" (defArgs s_BadJoint_init) (defBody s_BadJoint_init) (defScope s_BadJoint_init) .none kV_BadJoint_init dc_BadJoint_init pm_BadJoint_init an_BadJoint_init cd_BadJoint_init ct_BadJoint_init,
    F_BadJoint_init := fun_mk (st := s_BadJoint_init) l_BadJoint_init c_BadJoint_init k_BadJoint_init,
    b_BadJoint_init := (fun_mk (st := s_BadJoint_init) l_BadJoint_init c_BadJoint_init k_BadJoint_init).binds (ps := ["self", "place"]) fun _ _ _ _ _ _ us hl => match us, hl with | [_, _], _ => rfl,
    a_BadJoint_init := a_BadJoint_init,
    i_BadJoint_init := i_BadJoint_init,
    f_BadWay_init := f_BadWay_init,
    d_BadWay_init := PySem.W.fnOf "__init__" "BadWay.__init__" (defArgs s_BadWay_init) (defBody s_BadWay_init) (defScope s_BadWay_init) .none kV_BadWay_init dc_BadWay_init pm_BadWay_init an_BadWay_init cd_BadWay_init ct_BadWay_init,
    F_BadWay_init := fun_mk (st := s_BadWay_init) l_BadWay_init c_BadWay_init k_BadWay_init,
    b_BadWay_init := (fun_mk (st := s_BadWay_init) l_BadWay_init c_BadWay_init k_BadWay_init).binds (ps := ["self", "way"]) fun _ _ _ _ _ _ us hl => match us, hl with | [_, _], _ => rfl,
    a_BadWay_init := a_BadWay_init,
    i_BadWay_init := i_BadWay_init,
    f_NoHarm_init := f_NoHarm_init,
    d_NoHarm_init := PySem.W.fnOf "__init__" "NoHarm.__init__" (defArgs s_NoHarm_init) (defBody s_NoHarm_init) (defScope s_NoHarm_init) .none kV_NoHarm_init dc_NoHarm_init pm_NoHarm_init an_NoHarm_init cd_NoHarm_init ct_NoHarm_init,
    F_NoHarm_init := fun_mk (st := s_NoHarm_init) l_NoHarm_init c_NoHarm_init k_NoHarm_init,
    b_NoHarm_init := (fun_mk (st := s_NoHarm_init) l_NoHarm_init c_NoHarm_init k_NoHarm_init).binds (ps := ["self", "kind"]) fun _ _ _ _ _ _ us hl => match us, hl with | [_, _], _ => rfl,
    a_NoHarm_init := a_NoHarm_init,
    i_NoHarm_init := i_NoHarm_init,
    f_Ratio_init := f_Ratio_init,
    d_Ratio_init := PySem.W.fnOf "__init__" "Ratio.__init__" (defArgs s_Ratio_init) (defBody s_Ratio_init) (defScope s_Ratio_init) (.ref dT_Ratio_init) kV_Ratio_init dc_Ratio_init pm_Ratio_init an_Ratio_init cd_Ratio_init ct_Ratio_init,
    F_Ratio_init := ⟨⟨_, _, _, _, _, _, _, _, _, _, rfl, l_Ratio_init, c_Ratio_init, .inr ⟨by simp, _, _, [.int 1 dt_Ratio_init], _, rfl, t_Ratio_init, rfl, .cons ⟨_, rfl⟩ .nil⟩, .inl rfl⟩, k_Ratio_init⟩,
    a_Ratio_init := a_Ratio_init,
    i_Ratio_init := i_Ratio_init,
    mk_Ratio := ⟨mk_Ratio, a_Ratio_init, i_Ratio_init, kc_Ratio⟩,
    e1_Ratio_init := e1_Ratio_init,
    v1_Ratio_init := ev1_Ratio_init,
    b1_Ratio_init := eb1_Ratio_init,
    e2_Ratio_init := e2_Ratio_init,
    v2_Ratio_init := ev2_Ratio_init,
    b2_Ratio_init := eb2_Ratio_init,
    ox_BadName := ⟨x_BadName, xs_BadName, xe_BadName, xt_BadName, xk_BadName⟩,
    ix_BadName := a_BadName_init,
    tx_BadName := xf_BadName,
    xf_BadName := ⟨xg_BadName, xh_BadName, xe_BadName, xd_BadName⟩,
    ec_BadName := ⟨xg_BadName, xh_BadName, xe_BadName, xd_BadName, xc_BadName, hn_class, ht_class, xm_BadName⟩,
    no_BadName_name := no_BadName_name,
    ox_DuplicateName := ⟨x_DuplicateName, xs_DuplicateName, xe_DuplicateName, xt_DuplicateName, xk_DuplicateName⟩,
    ix_DuplicateName := a_DuplicateName_init,
    tx_DuplicateName := xf_DuplicateName,
    xf_DuplicateName := ⟨xg_DuplicateName, xh_DuplicateName, xe_DuplicateName, xd_DuplicateName⟩,
    ec_DuplicateName := ⟨xg_DuplicateName, xh_DuplicateName, xe_DuplicateName, xd_DuplicateName, xc_DuplicateName, hn_class, ht_class, xm_DuplicateName⟩,
    no_DuplicateName_name := no_DuplicateName_name,
    ox_UnknownName := ⟨x_UnknownName, xs_UnknownName, xe_UnknownName, xt_UnknownName, xk_UnknownName⟩,
    ix_UnknownName := a_UnknownName_init,
    tx_UnknownName := xf_UnknownName,
    xf_UnknownName := ⟨xg_UnknownName, xh_UnknownName, xe_UnknownName, xd_UnknownName⟩,
    ec_UnknownName := ⟨xg_UnknownName, xh_UnknownName, xe_UnknownName, xd_UnknownName, xc_UnknownName, hn_class, ht_class, xm_UnknownName⟩,
    no_UnknownName_name := no_UnknownName_name,
    ox_BadCount := ⟨x_BadCount, xs_BadCount, xe_BadCount, xt_BadCount, xk_BadCount⟩,
    ix_BadCount := a_BadCount_init,
    tx_BadCount := xf_BadCount,
    xf_BadCount := ⟨xg_BadCount, xh_BadCount, xe_BadCount, xd_BadCount⟩,
    ec_BadCount := ⟨xg_BadCount, xh_BadCount, xe_BadCount, xd_BadCount, xc_BadCount, hn_class, ht_class, xm_BadCount⟩,
    no_BadCount_count := no_BadCount_count,
    ox_OutOfRange := ⟨x_OutOfRange, xs_OutOfRange, xe_OutOfRange, xt_OutOfRange, xk_OutOfRange⟩,
    ix_OutOfRange := a_OutOfRange_init,
    tx_OutOfRange := xf_OutOfRange,
    xf_OutOfRange := ⟨xg_OutOfRange, xh_OutOfRange, xe_OutOfRange, xd_OutOfRange⟩,
    ec_OutOfRange := ⟨xg_OutOfRange, xh_OutOfRange, xe_OutOfRange, xd_OutOfRange, xc_OutOfRange, hn_class, ht_class, xm_OutOfRange⟩,
    no_OutOfRange_value := no_OutOfRange_value,
    ox_BadLine := ⟨x_BadLine, xs_BadLine, xe_BadLine, xt_BadLine, xk_BadLine⟩,
    ix_BadLine := a_BadLine_init,
    tx_BadLine := xf_BadLine,
    xf_BadLine := ⟨xg_BadLine, xh_BadLine, xe_BadLine, xd_BadLine⟩,
    ec_BadLine := ⟨xg_BadLine, xh_BadLine, xe_BadLine, xd_BadLine, xc_BadLine, hn_class, ht_class, xm_BadLine⟩,
    no_BadLine_number := no_BadLine_number,
    no_BadLine_text := no_BadLine_text,
    ox_BadText := ⟨x_BadText, xs_BadText, xe_BadText, xt_BadText, xk_BadText⟩,
    ix_BadText := a_BadText_init,
    tx_BadText := xf_BadText,
    xf_BadText := ⟨xg_BadText, xh_BadText, xe_BadText, xd_BadText⟩,
    ec_BadText := ⟨xg_BadText, xh_BadText, xe_BadText, xd_BadText, xc_BadText, hn_class, ht_class, xm_BadText⟩,
    no_BadText_text := no_BadText_text,
    ox_HasRound := ⟨x_HasRound, xs_HasRound, xe_HasRound, xt_HasRound, xk_HasRound⟩,
    ix_HasRound := a_HasRound_init,
    tx_HasRound := xf_HasRound,
    xf_HasRound := ⟨xg_HasRound, xh_HasRound, xe_HasRound, xd_HasRound⟩,
    ec_HasRound := ⟨xg_HasRound, xh_HasRound, xe_HasRound, xd_HasRound, xc_HasRound, hn_class, ht_class, xm_HasRound⟩,
    no_HasRound_name := no_HasRound_name,
    ox_UselessLink := ⟨x_UselessLink, xs_UselessLink, xe_UselessLink, xt_UselessLink, xk_UselessLink⟩,
    ix_UselessLink := a_UselessLink_init,
    tx_UselessLink := xf_UselessLink,
    xf_UselessLink := ⟨xg_UselessLink, xh_UselessLink, xe_UselessLink, xd_UselessLink⟩,
    ec_UselessLink := ⟨xg_UselessLink, xh_UselessLink, xe_UselessLink, xd_UselessLink, xc_UselessLink, hn_class, ht_class, xm_UselessLink⟩,
    no_UselessLink_name := no_UselessLink_name,
    ox_BadJoint := ⟨x_BadJoint, xs_BadJoint, xe_BadJoint, xt_BadJoint, xk_BadJoint⟩,
    ix_BadJoint := a_BadJoint_init,
    tx_BadJoint := xf_BadJoint,
    xf_BadJoint := ⟨xg_BadJoint, xh_BadJoint, xe_BadJoint, xd_BadJoint⟩,
    ec_BadJoint := ⟨xg_BadJoint, xh_BadJoint, xe_BadJoint, xd_BadJoint, xc_BadJoint, hn_class, ht_class, xm_BadJoint⟩,
    no_BadJoint_place := no_BadJoint_place,
    ox_BadWay := ⟨x_BadWay, xs_BadWay, xe_BadWay, xt_BadWay, xk_BadWay⟩,
    ix_BadWay := a_BadWay_init,
    tx_BadWay := xf_BadWay,
    xf_BadWay := ⟨xg_BadWay, xh_BadWay, xe_BadWay, xd_BadWay⟩,
    ec_BadWay := ⟨xg_BadWay, xh_BadWay, xe_BadWay, xd_BadWay, xc_BadWay, hn_class, ht_class, xm_BadWay⟩,
    no_BadWay_way := no_BadWay_way,
    ox_NoHarm := ⟨x_NoHarm, xs_NoHarm, xe_NoHarm, xt_NoHarm, xk_NoHarm⟩,
    ix_NoHarm := a_NoHarm_init,
    tx_NoHarm := xf_NoHarm,
    xf_NoHarm := ⟨xg_NoHarm, xh_NoHarm, xe_NoHarm, xd_NoHarm⟩,
    ec_NoHarm := ⟨xg_NoHarm, xh_NoHarm, xe_NoHarm, xd_NoHarm, xc_NoHarm, hn_class, ht_class, xm_NoHarm⟩,
    no_NoHarm_kind := no_NoHarm_kind,
    kx_BadName_init_name := fun _ _ ws hl => match ws, hl with | [_], _ => .of_eq rfl,
    kx_DuplicateName_init_name := fun _ _ ws hl => match ws, hl with | [_], _ => .of_eq rfl,
    kx_UnknownName_init_name := fun _ _ ws hl => match ws, hl with | [_], _ => .of_eq rfl,
    kx_BadCount_init_count := fun _ _ ws hl => match ws, hl with | [_], _ => .of_eq rfl,
    kx_OutOfRange_init_value := fun _ _ ws hl => match ws, hl with | [_], _ => .of_eq rfl,
    kx_BadText_init_text := fun _ _ ws hl => match ws, hl with | [_], _ => .of_eq rfl,
    kx_HasRound_init_name := fun _ _ ws hl => match ws, hl with | [_], _ => .of_eq rfl,
    kx_UselessLink_init_name := fun _ _ ws hl => match ws, hl with | [_], _ => .of_eq rfl,
    kx_BadJoint_init_place := fun _ _ ws hl => match ws, hl with | [_], _ => .of_eq rfl,
    kx_BadWay_init_way := fun _ _ ws hl => match ws, hl with | [_], _ => .of_eq rfl,
    kx_NoHarm_init_kind := fun _ _ ws hl => match ws, hl with | [_], _ => .of_eq rfl,
    kx_BadLine_init_text_number := fun _ _ ws hl => match ws, hl with | [_, _], _ => .of_eq rfl,
    xq_NoWay := xq_NoWay,
    xk_NoWay := xk_NoWay,
    ec_NoWay := ⟨xg_NoWay, xh_NoWay, xe_NoWay, xd_NoWay, xc_NoWay, hn_class, ht_class, xm_NoWay⟩,
    xq_NotBuilding := xq_NotBuilding,
    xk_NotBuilding := xk_NotBuilding,
    ec_NotBuilding := ⟨xg_NotBuilding, xh_NotBuilding, xe_NotBuilding, xd_NotBuilding, xc_NotBuilding, hn_class, ht_class, xm_NotBuilding⟩,
    xq_NothingToUndo := xq_NothingToUndo,
    xk_NothingToUndo := xk_NothingToUndo,
    ec_NothingToUndo := ⟨xg_NothingToUndo, xh_NothingToUndo, xe_NothingToUndo, xd_NothingToUndo, xc_NothingToUndo, hn_class, ht_class, xm_NothingToUndo⟩,
    er_BadName := ⟨ec_BadName_, xi_BadName, xt_BadName, ⟨_, cx_BadName, mr_BadName⟩⟩,
    er_DuplicateName := ⟨ec_DuplicateName_, xi_DuplicateName, xt_DuplicateName, ⟨_, cx_DuplicateName, mr_DuplicateName⟩⟩,
    er_UnknownName := ⟨ec_UnknownName_, xi_UnknownName, xt_UnknownName, ⟨_, cx_UnknownName, mr_UnknownName⟩⟩,
    er_BadCount := ⟨ec_BadCount_, xi_BadCount, xt_BadCount, ⟨_, cx_BadCount, mr_BadCount⟩⟩,
    er_OutOfRange := ⟨ec_OutOfRange_, xi_OutOfRange, xt_OutOfRange, ⟨_, cx_OutOfRange, mr_OutOfRange⟩⟩,
    er_BadLine := ⟨ec_BadLine_, xi_BadLine, xt_BadLine, ⟨_, cx_BadLine, mr_BadLine⟩⟩,
    er_BadText := ⟨ec_BadText_, xi_BadText, xt_BadText, ⟨_, cx_BadText, mr_BadText⟩⟩,
    er_HasRound := ⟨ec_HasRound_, xi_HasRound, xt_HasRound, ⟨_, cx_HasRound, mr_HasRound⟩⟩,
    er_UselessLink := ⟨ec_UselessLink_, xi_UselessLink, xt_UselessLink, ⟨_, cx_UselessLink, mr_UselessLink⟩⟩,
    er_BadJoint := ⟨ec_BadJoint_, xi_BadJoint, xt_BadJoint, ⟨_, cx_BadJoint, mr_BadJoint⟩⟩,
    er_BadWay := ⟨ec_BadWay_, xi_BadWay, xt_BadWay, ⟨_, cx_BadWay, mr_BadWay⟩⟩,
    er_NoWay := ⟨ec_NoWay_, xi_NoWay, xt_NoWay, ⟨_, cx_NoWay, mr_NoWay⟩⟩,
    er_NotBuilding := ⟨ec_NotBuilding_, xi_NotBuilding, xt_NotBuilding, ⟨_, cx_NotBuilding, mr_NotBuilding⟩⟩,
    er_NoHarm := ⟨ec_NoHarm_, xi_NoHarm, xt_NoHarm, ⟨_, cx_NoHarm, mr_NoHarm⟩⟩,
    er_NothingToUndo := ⟨ec_NothingToUndo_, xi_NothingToUndo, xt_NothingToUndo, ⟨_, cx_NothingToUndo, mr_NothingToUndo⟩⟩,
    xi_ExtralinkError := xi_ExtralinkError,
    xt_ExtralinkError := xt_ExtralinkError,
    nq_all := of_decide_eq_true nq_all,
    g_gcd := PySem.W.mg_of X G g_gcd,
    n_ValueError := PySem.W.mg_none_of X G z_ValueError,
    n_abs := PySem.W.mg_none_of X G z_abs,
    n_int := PySem.W.mg_none_of X G z_int,
    n_isinstance := PySem.W.mg_none_of X G z_isinstance,
    n_len := PySem.W.mg_none_of X G z_len,
    n_list := PySem.W.mg_none_of X G z_list,
    n_range := PySem.W.mg_none_of X G z_range }
  exact ⟨PySem.W.fnOf "law" "law" (defArgs s_law) (defBody s_law) (defScope s_law) .none kV_law dc_law pm_law an_law cd_law ct_law, fun s v => .of_eq rfl, fun base _ _ => ok_law T (fun_mk (st := s_law) l_law c_law k_law)⟩
end My
open PySem PySem.W PyProof.Rows
set_option maxRecDepth 100000 in
set_option maxHeartbeats 0 in
theorem PySem.Challenge.cw_extralink_k07_errors_holds : PySem.Challenge.rw_extralink_k07_errors.Holds := by
  w_on; o_law; k_head; (case hw => w_witness2)
  k_fill
  refine L2.walk_of (l := PySem.Challenge.rw_extralink_k07_errors) (n := 63) (k := 4) (x := "_law_script") (CX := fun _ => L2.CX0) (sp := fun w => My.spLaw _) rfl (by decide) rfl ⟨rfl, by decide, by decide⟩ (fun w h Y => PySem.W.kIn_of Y) ?F (fun _ _ a ns hl _ hS => ⟨a, ns, rfl, hS, hl, fun _ => rfl⟩) (fun _ _ _ _ _ h => h)
  case F =>
    intro w mg fa h KX G hmg
    refine' My.all_mk KX G hmg ?a_BadName ?a_DuplicateName ?a_UnknownName ?a_BadCount ?a_OutOfRange ?a_BadLine ?a_BadText ?a_HasRound ?a_UselessLink ?a_BadJoint ?a_BadWay ?a_NoHarm ?a_Ratio ?pg_Ratio ?hd_Ratio ?po_Ratio ?sa_Ratio ?mk_Ratio ?kc_Ratio ?hc_Ratio ?mo_Ratio ?ic_Ratio ?ty_Ratio ?hn_class ?ht_class ?na_Ratio_top ?na_Ratio_bottom ?a_ExtralinkError ?a_NoWay ?a_NotBuilding ?a_NothingToUndo ?a_start ?l_start ?c_start ?k_start ?a_draw ?l_draw ?c_draw ?k_draw ?a_signs ?l_signs ?c_signs ?k_signs ?a_kinds ?l_kinds ?c_kinds ?k_kinds ?a_right ?l_right ?c_right ?k_right ?a_thing ?l_thing ?c_thing ?k_thing ?a_all ?l_all ?c_all ?k_all ?a_named ?l_named ?c_named ?k_named ?a_keeps ?l_keeps ?c_keeps ?k_keeps ?a_BadName_init ?i_BadName_init ?l_BadName_init ?c_BadName_init ?k_BadName_init ?a_DuplicateName_init ?i_DuplicateName_init ?l_DuplicateName_init ?c_DuplicateName_init ?k_DuplicateName_init ?a_UnknownName_init ?i_UnknownName_init ?l_UnknownName_init ?c_UnknownName_init ?k_UnknownName_init ?a_BadCount_init ?i_BadCount_init ?l_BadCount_init ?c_BadCount_init ?k_BadCount_init ?a_OutOfRange_init ?i_OutOfRange_init ?l_OutOfRange_init ?c_OutOfRange_init ?k_OutOfRange_init ?a_BadLine_init ?i_BadLine_init ?l_BadLine_init ?c_BadLine_init ?k_BadLine_init ?a_BadText_init ?i_BadText_init ?l_BadText_init ?c_BadText_init ?k_BadText_init ?a_HasRound_init ?i_HasRound_init ?l_HasRound_init ?c_HasRound_init ?k_HasRound_init ?a_UselessLink_init ?i_UselessLink_init ?l_UselessLink_init ?c_UselessLink_init ?k_UselessLink_init ?a_BadJoint_init ?i_BadJoint_init ?l_BadJoint_init ?c_BadJoint_init ?k_BadJoint_init ?a_BadWay_init ?i_BadWay_init ?l_BadWay_init ?c_BadWay_init ?k_BadWay_init ?a_NoHarm_init ?i_NoHarm_init ?l_NoHarm_init ?c_NoHarm_init ?k_NoHarm_init ?a_Ratio_init ?i_Ratio_init ?l_Ratio_init ?c_Ratio_init ?k_Ratio_init ?t_Ratio_init ?x_BadName ?xs_BadName ?xe_BadName ?xt_BadName ?xk_BadName ?xg_BadName ?xh_BadName ?xd_BadName ?xc_BadName ?xm_BadName ?xi_BadName ?xf_BadName ?no_BadName_name ?x_DuplicateName ?xs_DuplicateName ?xe_DuplicateName ?xt_DuplicateName ?xk_DuplicateName ?xg_DuplicateName ?xh_DuplicateName ?xd_DuplicateName ?xc_DuplicateName ?xm_DuplicateName ?xi_DuplicateName ?xf_DuplicateName ?no_DuplicateName_name ?x_UnknownName ?xs_UnknownName ?xe_UnknownName ?xt_UnknownName ?xk_UnknownName ?xg_UnknownName ?xh_UnknownName ?xd_UnknownName ?xc_UnknownName ?xm_UnknownName ?xi_UnknownName ?xf_UnknownName ?no_UnknownName_name ?x_BadCount ?xs_BadCount ?xe_BadCount ?xt_BadCount ?xk_BadCount ?xg_BadCount ?xh_BadCount ?xd_BadCount ?xc_BadCount ?xm_BadCount ?xi_BadCount ?xf_BadCount ?no_BadCount_count ?x_OutOfRange ?xs_OutOfRange ?xe_OutOfRange ?xt_OutOfRange ?xk_OutOfRange ?xg_OutOfRange ?xh_OutOfRange ?xd_OutOfRange ?xc_OutOfRange ?xm_OutOfRange ?xi_OutOfRange ?xf_OutOfRange ?no_OutOfRange_value ?x_BadLine ?xs_BadLine ?xe_BadLine ?xt_BadLine ?xk_BadLine ?xg_BadLine ?xh_BadLine ?xd_BadLine ?xc_BadLine ?xm_BadLine ?xi_BadLine ?xf_BadLine ?no_BadLine_number ?no_BadLine_text ?x_BadText ?xs_BadText ?xe_BadText ?xt_BadText ?xk_BadText ?xg_BadText ?xh_BadText ?xd_BadText ?xc_BadText ?xm_BadText ?xi_BadText ?xf_BadText ?no_BadText_text ?x_HasRound ?xs_HasRound ?xe_HasRound ?xt_HasRound ?xk_HasRound ?xg_HasRound ?xh_HasRound ?xd_HasRound ?xc_HasRound ?xm_HasRound ?xi_HasRound ?xf_HasRound ?no_HasRound_name ?x_UselessLink ?xs_UselessLink ?xe_UselessLink ?xt_UselessLink ?xk_UselessLink ?xg_UselessLink ?xh_UselessLink ?xd_UselessLink ?xc_UselessLink ?xm_UselessLink ?xi_UselessLink ?xf_UselessLink ?no_UselessLink_name ?x_BadJoint ?xs_BadJoint ?xe_BadJoint ?xt_BadJoint ?xk_BadJoint ?xg_BadJoint ?xh_BadJoint ?xd_BadJoint ?xc_BadJoint ?xm_BadJoint ?xi_BadJoint ?xf_BadJoint ?no_BadJoint_place ?x_BadWay ?xs_BadWay ?xe_BadWay ?xt_BadWay ?xk_BadWay ?xg_BadWay ?xh_BadWay ?xd_BadWay ?xc_BadWay ?xm_BadWay ?xi_BadWay ?xf_BadWay ?no_BadWay_way ?x_NoHarm ?xs_NoHarm ?xe_NoHarm ?xt_NoHarm ?xk_NoHarm ?xg_NoHarm ?xh_NoHarm ?xd_NoHarm ?xc_NoHarm ?xm_NoHarm ?xi_NoHarm ?xf_NoHarm ?no_NoHarm_kind ?xe_NoWay ?xt_NoWay ?xk_NoWay ?xg_NoWay ?xh_NoWay ?xd_NoWay ?xc_NoWay ?xm_NoWay ?xi_NoWay ?xq_NoWay ?xe_NotBuilding ?xt_NotBuilding ?xk_NotBuilding ?xg_NotBuilding ?xh_NotBuilding ?xd_NotBuilding ?xc_NotBuilding ?xm_NotBuilding ?xi_NotBuilding ?xq_NotBuilding ?xe_NothingToUndo ?xt_NothingToUndo ?xk_NothingToUndo ?xg_NothingToUndo ?xh_NothingToUndo ?xd_NothingToUndo ?xc_NothingToUndo ?xm_NothingToUndo ?xi_NothingToUndo ?xq_NothingToUndo ?cx_BadName ?mr_BadName ?cx_DuplicateName ?mr_DuplicateName ?cx_UnknownName ?mr_UnknownName ?cx_BadCount ?mr_BadCount ?cx_OutOfRange ?mr_OutOfRange ?cx_BadLine ?mr_BadLine ?cx_BadText ?mr_BadText ?cx_HasRound ?mr_HasRound ?cx_UselessLink ?mr_UselessLink ?cx_BadJoint ?mr_BadJoint ?cx_BadWay ?mr_BadWay ?cx_NoWay ?mr_NoWay ?cx_NotBuilding ?mr_NotBuilding ?cx_NoHarm ?mr_NoHarm ?cx_NothingToUndo ?mr_NothingToUndo ?xi_ExtralinkError ?xt_ExtralinkError ?nq_all ?g_gcd ?z_ValueError ?z_abs ?z_int ?z_isinstance ?z_len ?z_list ?z_range ?a_law ?l_law ?c_law ?k_law
    (case a_BadName => k_is)
    (case a_DuplicateName => k_is)
    (case a_UnknownName => k_is)
    (case a_BadCount => k_is)
    (case a_OutOfRange => k_is)
    (case a_BadLine => k_is)
    (case a_BadText => k_is)
    (case a_HasRound => k_is)
    (case a_UselessLink => k_is)
    (case a_BadJoint => k_is)
    (case a_BadWay => k_is)
    (case a_NoHarm => k_is)
    (case a_Ratio => k_is)
    (case pg_Ratio => k_is)
    (case hd_Ratio => k_is)
    (case po_Ratio => k_is)
    (case sa_Ratio => k_is)
    (case mk_Ratio => k_is)
    (case kc_Ratio => k_is)
    (case hc_Ratio => k_is)
    (case mo_Ratio => k_is)
    (case ic_Ratio => k_is)
    (case ty_Ratio => k_is)
    (case hn_class => k_is)
    (case ht_class => k_is)
    (case na_Ratio_top => k_is)
    (case na_Ratio_bottom => k_is)
    (case a_ExtralinkError => k_is)
    (case a_NoWay => k_is)
    (case a_NotBuilding => k_is)
    (case a_NothingToUndo => k_is)
    (case a_start => k_is)
    (case l_start => k_is)
    (case c_start => k_is)
    (case k_start => k_is)
    (case a_draw => k_is)
    (case l_draw => k_is)
    (case c_draw => k_is)
    (case k_draw => k_is)
    (case a_signs => k_is)
    (case l_signs => k_is)
    (case c_signs => k_is)
    (case k_signs => k_is)
    (case a_kinds => k_is)
    (case l_kinds => k_is)
    (case c_kinds => k_is)
    (case k_kinds => k_is)
    (case a_right => k_is)
    (case l_right => k_is)
    (case c_right => k_is)
    (case k_right => k_is)
    (case a_thing => k_is)
    (case l_thing => k_is)
    (case c_thing => k_is)
    (case k_thing => k_is)
    (case a_all => k_is)
    (case l_all => k_is)
    (case c_all => k_is)
    (case k_all => k_is)
    (case a_named => k_is)
    (case l_named => k_is)
    (case c_named => k_is)
    (case k_named => k_is)
    (case a_keeps => k_is)
    (case l_keeps => k_is)
    (case c_keeps => k_is)
    (case k_keeps => k_is)
    (case a_BadName_init => k_is)
    (case i_BadName_init => k_is)
    (case l_BadName_init => k_is)
    (case c_BadName_init => k_is)
    (case k_BadName_init => k_is)
    (case a_DuplicateName_init => k_is)
    (case i_DuplicateName_init => k_is)
    (case l_DuplicateName_init => k_is)
    (case c_DuplicateName_init => k_is)
    (case k_DuplicateName_init => k_is)
    (case a_UnknownName_init => k_is)
    (case i_UnknownName_init => k_is)
    (case l_UnknownName_init => k_is)
    (case c_UnknownName_init => k_is)
    (case k_UnknownName_init => k_is)
    (case a_BadCount_init => k_is)
    (case i_BadCount_init => k_is)
    (case l_BadCount_init => k_is)
    (case c_BadCount_init => k_is)
    (case k_BadCount_init => k_is)
    (case a_OutOfRange_init => k_is)
    (case i_OutOfRange_init => k_is)
    (case l_OutOfRange_init => k_is)
    (case c_OutOfRange_init => k_is)
    (case k_OutOfRange_init => k_is)
    (case a_BadLine_init => k_is)
    (case i_BadLine_init => k_is)
    (case l_BadLine_init => k_is)
    (case c_BadLine_init => k_is)
    (case k_BadLine_init => k_is)
    (case a_BadText_init => k_is)
    (case i_BadText_init => k_is)
    (case l_BadText_init => k_is)
    (case c_BadText_init => k_is)
    (case k_BadText_init => k_is)
    (case a_HasRound_init => k_is)
    (case i_HasRound_init => k_is)
    (case l_HasRound_init => k_is)
    (case c_HasRound_init => k_is)
    (case k_HasRound_init => k_is)
    (case a_UselessLink_init => k_is)
    (case i_UselessLink_init => k_is)
    (case l_UselessLink_init => k_is)
    (case c_UselessLink_init => k_is)
    (case k_UselessLink_init => k_is)
    (case a_BadJoint_init => k_is)
    (case i_BadJoint_init => k_is)
    (case l_BadJoint_init => k_is)
    (case c_BadJoint_init => k_is)
    (case k_BadJoint_init => k_is)
    (case a_BadWay_init => k_is)
    (case i_BadWay_init => k_is)
    (case l_BadWay_init => k_is)
    (case c_BadWay_init => k_is)
    (case k_BadWay_init => k_is)
    (case a_NoHarm_init => k_is)
    (case i_NoHarm_init => k_is)
    (case l_NoHarm_init => k_is)
    (case c_NoHarm_init => k_is)
    (case k_NoHarm_init => k_is)
    (case a_Ratio_init => k_is)
    (case i_Ratio_init => k_is)
    (case l_Ratio_init => k_is)
    (case c_Ratio_init => k_is)
    (case k_Ratio_init => k_is)
    (case t_Ratio_init => k_is)
    (case x_BadName => exact ⟨_, _, _, _, _, _, _, _, _, _, _, _, _, _, _, by k_is, by decide +kernel⟩)
    (case xs_BadName => k_is)
    (case xe_BadName => k_is)
    (case xt_BadName => k_is)
    (case xk_BadName => k_is)
    (case xg_BadName => k_is)
    (case xh_BadName => k_is)
    (case xd_BadName => k_is)
    (case xc_BadName => k_is)
    (case xm_BadName => k_is)
    (case xi_BadName => k_is)
    (case xf_BadName => k_is)
    (case no_BadName_name => k_is)
    (case x_DuplicateName => exact ⟨_, _, _, _, _, _, _, _, _, _, _, _, _, _, _, by k_is, by decide +kernel⟩)
    (case xs_DuplicateName => k_is)
    (case xe_DuplicateName => k_is)
    (case xt_DuplicateName => k_is)
    (case xk_DuplicateName => k_is)
    (case xg_DuplicateName => k_is)
    (case xh_DuplicateName => k_is)
    (case xd_DuplicateName => k_is)
    (case xc_DuplicateName => k_is)
    (case xm_DuplicateName => k_is)
    (case xi_DuplicateName => k_is)
    (case xf_DuplicateName => k_is)
    (case no_DuplicateName_name => k_is)
    (case x_UnknownName => exact ⟨_, _, _, _, _, _, _, _, _, _, _, _, _, _, _, by k_is, by decide +kernel⟩)
    (case xs_UnknownName => k_is)
    (case xe_UnknownName => k_is)
    (case xt_UnknownName => k_is)
    (case xk_UnknownName => k_is)
    (case xg_UnknownName => k_is)
    (case xh_UnknownName => k_is)
    (case xd_UnknownName => k_is)
    (case xc_UnknownName => k_is)
    (case xm_UnknownName => k_is)
    (case xi_UnknownName => k_is)
    (case xf_UnknownName => k_is)
    (case no_UnknownName_name => k_is)
    (case x_BadCount => exact ⟨_, _, _, _, _, _, _, _, _, _, _, _, _, _, _, by k_is, by decide +kernel⟩)
    (case xs_BadCount => k_is)
    (case xe_BadCount => k_is)
    (case xt_BadCount => k_is)
    (case xk_BadCount => k_is)
    (case xg_BadCount => k_is)
    (case xh_BadCount => k_is)
    (case xd_BadCount => k_is)
    (case xc_BadCount => k_is)
    (case xm_BadCount => k_is)
    (case xi_BadCount => k_is)
    (case xf_BadCount => k_is)
    (case no_BadCount_count => k_is)
    (case x_OutOfRange => exact ⟨_, _, _, _, _, _, _, _, _, _, _, _, _, _, _, by k_is, by decide +kernel⟩)
    (case xs_OutOfRange => k_is)
    (case xe_OutOfRange => k_is)
    (case xt_OutOfRange => k_is)
    (case xk_OutOfRange => k_is)
    (case xg_OutOfRange => k_is)
    (case xh_OutOfRange => k_is)
    (case xd_OutOfRange => k_is)
    (case xc_OutOfRange => k_is)
    (case xm_OutOfRange => k_is)
    (case xi_OutOfRange => k_is)
    (case xf_OutOfRange => k_is)
    (case no_OutOfRange_value => k_is)
    (case x_BadLine => exact ⟨_, _, _, _, _, _, _, _, _, _, _, _, _, _, _, by k_is, by decide +kernel⟩)
    (case xs_BadLine => k_is)
    (case xe_BadLine => k_is)
    (case xt_BadLine => k_is)
    (case xk_BadLine => k_is)
    (case xg_BadLine => k_is)
    (case xh_BadLine => k_is)
    (case xd_BadLine => k_is)
    (case xc_BadLine => k_is)
    (case xm_BadLine => k_is)
    (case xi_BadLine => k_is)
    (case xf_BadLine => k_is)
    (case no_BadLine_number => k_is)
    (case no_BadLine_text => k_is)
    (case x_BadText => exact ⟨_, _, _, _, _, _, _, _, _, _, _, _, _, _, _, by k_is, by decide +kernel⟩)
    (case xs_BadText => k_is)
    (case xe_BadText => k_is)
    (case xt_BadText => k_is)
    (case xk_BadText => k_is)
    (case xg_BadText => k_is)
    (case xh_BadText => k_is)
    (case xd_BadText => k_is)
    (case xc_BadText => k_is)
    (case xm_BadText => k_is)
    (case xi_BadText => k_is)
    (case xf_BadText => k_is)
    (case no_BadText_text => k_is)
    (case x_HasRound => exact ⟨_, _, _, _, _, _, _, _, _, _, _, _, _, _, _, by k_is, by decide +kernel⟩)
    (case xs_HasRound => k_is)
    (case xe_HasRound => k_is)
    (case xt_HasRound => k_is)
    (case xk_HasRound => k_is)
    (case xg_HasRound => k_is)
    (case xh_HasRound => k_is)
    (case xd_HasRound => k_is)
    (case xc_HasRound => k_is)
    (case xm_HasRound => k_is)
    (case xi_HasRound => k_is)
    (case xf_HasRound => k_is)
    (case no_HasRound_name => k_is)
    (case x_UselessLink => exact ⟨_, _, _, _, _, _, _, _, _, _, _, _, _, _, _, by k_is, by decide +kernel⟩)
    (case xs_UselessLink => k_is)
    (case xe_UselessLink => k_is)
    (case xt_UselessLink => k_is)
    (case xk_UselessLink => k_is)
    (case xg_UselessLink => k_is)
    (case xh_UselessLink => k_is)
    (case xd_UselessLink => k_is)
    (case xc_UselessLink => k_is)
    (case xm_UselessLink => k_is)
    (case xi_UselessLink => k_is)
    (case xf_UselessLink => k_is)
    (case no_UselessLink_name => k_is)
    (case x_BadJoint => exact ⟨_, _, _, _, _, _, _, _, _, _, _, _, _, _, _, by k_is, by decide +kernel⟩)
    (case xs_BadJoint => k_is)
    (case xe_BadJoint => k_is)
    (case xt_BadJoint => k_is)
    (case xk_BadJoint => k_is)
    (case xg_BadJoint => k_is)
    (case xh_BadJoint => k_is)
    (case xd_BadJoint => k_is)
    (case xc_BadJoint => k_is)
    (case xm_BadJoint => k_is)
    (case xi_BadJoint => k_is)
    (case xf_BadJoint => k_is)
    (case no_BadJoint_place => k_is)
    (case x_BadWay => exact ⟨_, _, _, _, _, _, _, _, _, _, _, _, _, _, _, by k_is, by decide +kernel⟩)
    (case xs_BadWay => k_is)
    (case xe_BadWay => k_is)
    (case xt_BadWay => k_is)
    (case xk_BadWay => k_is)
    (case xg_BadWay => k_is)
    (case xh_BadWay => k_is)
    (case xd_BadWay => k_is)
    (case xc_BadWay => k_is)
    (case xm_BadWay => k_is)
    (case xi_BadWay => k_is)
    (case xf_BadWay => k_is)
    (case no_BadWay_way => k_is)
    (case x_NoHarm => exact ⟨_, _, _, _, _, _, _, _, _, _, _, _, _, _, _, by k_is, by decide +kernel⟩)
    (case xs_NoHarm => k_is)
    (case xe_NoHarm => k_is)
    (case xt_NoHarm => k_is)
    (case xk_NoHarm => k_is)
    (case xg_NoHarm => k_is)
    (case xh_NoHarm => k_is)
    (case xd_NoHarm => k_is)
    (case xc_NoHarm => k_is)
    (case xm_NoHarm => k_is)
    (case xi_NoHarm => k_is)
    (case xf_NoHarm => k_is)
    (case no_NoHarm_kind => k_is)
    (case xe_NoWay => k_is)
    (case xt_NoWay => k_is)
    (case xk_NoWay => k_is)
    (case xg_NoWay => k_is)
    (case xh_NoWay => k_is)
    (case xd_NoWay => k_is)
    (case xc_NoWay => k_is)
    (case xm_NoWay => k_is)
    (case xi_NoWay => k_is)
    (case xq_NoWay => k_exc)
    (case xe_NotBuilding => k_is)
    (case xt_NotBuilding => k_is)
    (case xk_NotBuilding => k_is)
    (case xg_NotBuilding => k_is)
    (case xh_NotBuilding => k_is)
    (case xd_NotBuilding => k_is)
    (case xc_NotBuilding => k_is)
    (case xm_NotBuilding => k_is)
    (case xi_NotBuilding => k_is)
    (case xq_NotBuilding => k_exc)
    (case xe_NothingToUndo => k_is)
    (case xt_NothingToUndo => k_is)
    (case xk_NothingToUndo => k_is)
    (case xg_NothingToUndo => k_is)
    (case xh_NothingToUndo => k_is)
    (case xd_NothingToUndo => k_is)
    (case xc_NothingToUndo => k_is)
    (case xm_NothingToUndo => k_is)
    (case xi_NothingToUndo => k_is)
    (case xq_NothingToUndo => k_exc)
    (case cx_BadName => k_is)
    (case mr_BadName => rfl)
    (case cx_DuplicateName => k_is)
    (case mr_DuplicateName => rfl)
    (case cx_UnknownName => k_is)
    (case mr_UnknownName => rfl)
    (case cx_BadCount => k_is)
    (case mr_BadCount => rfl)
    (case cx_OutOfRange => k_is)
    (case mr_OutOfRange => rfl)
    (case cx_BadLine => k_is)
    (case mr_BadLine => rfl)
    (case cx_BadText => k_is)
    (case mr_BadText => rfl)
    (case cx_HasRound => k_is)
    (case mr_HasRound => rfl)
    (case cx_UselessLink => k_is)
    (case mr_UselessLink => rfl)
    (case cx_BadJoint => k_is)
    (case mr_BadJoint => rfl)
    (case cx_BadWay => k_is)
    (case mr_BadWay => rfl)
    (case cx_NoWay => k_is)
    (case mr_NoWay => rfl)
    (case cx_NotBuilding => k_is)
    (case mr_NotBuilding => rfl)
    (case cx_NoHarm => k_is)
    (case mr_NoHarm => rfl)
    (case cx_NothingToUndo => k_is)
    (case mr_NothingToUndo => rfl)
    (case xi_ExtralinkError => k_is)
    (case xt_ExtralinkError => k_is)
    (case nq_all => decide)
    (case g_gcd => k_is)
    (case z_ValueError => k_is)
    (case z_abs => k_is)
    (case z_int => k_is)
    (case z_isinstance => k_is)
    (case z_len => k_is)
    (case z_list => k_is)
    (case z_range => k_is)
    (case a_law => k_is)
    (case l_law => k_is)
    (case c_law => k_is)
    (case k_law => k_is)
