import PyProof.Rows.All
import Wide.All
import OpenK.AllK
import Wide.FinOn
import HandS.Base
import HandS.Call
import HandS.List
import HandS.Comp
import HandS.Ends
import HandS.Dict
import HandS.Iter
import HandS.Text
import HandS.Words
import HandS.WordsList
import HandS.WordsDict
import HandS.Wide
import HandS.IsInst
import HandS.Codes
import HandS.Property
import HandS.ClsMeth
import HandS.Defaults
import HandS.MakeKw
import HandS.CallLocal
import HandS.CallSlots
import HandS.Exc
import HandS.ExcInit
import HandS.ExcField
import HandS.ExcIs
import HandS.ExcOwn
import HandS.TryOnly
import HandS.WordsExc
import HandS.Gcd
import HandS.FStr
import HandS.StrMore
import HandS.WideBits
import HandS.Style
import HandS.OwnEq
import OpenK.KMeth
import KE.KOpsOwn
import HandS.TupAny
import PyProof.InstEq
import HandS.HotCalls
import HandS.ExcValue
import HandS.Star
import HandS.Zip
import HandS.Walk
import HandS.DictComp
import HandS.Conv
import KE.KDictZip
import HandS.Deep
import HandS.TryMany
import OpenK.KOps
import HandS.Small
import PySem.Challenge.RW_extralink_k94_undo_all
set_option Elab.async false
set_option linter.all false
set_option maxRecDepth 100000
/-! My own rules beside the hand layer's: an item of a list read for a store in place, a text backwards, a call by keywords alone; what is said of lists of ints as data. -/
namespace My
open PySem PySem.Spec PyProof.Rows L2

/-! ### rules -/
section
variable {X : Cx}
def rGetL (K : PySem.W.Frag) : V → V → Hp → VK → Prop := fun x y H Q => ∃ p xs i v, x = .ref p ∧ y = .int i ∧ SqL K H p xs ∧ 0 ≤ i ∧ atI xs i = some v ∧ Q v H
theorem get_list : PGet X (rGetL X.K) := by
  intro pins s σ H o i ov iv Q I ro ri h
  obtain ⟨p, xs, k, z, rfl, rfl, hq, h0, he, q⟩ := h
  cases ro
  obtain ⟨t, rfl⟩ := ri
  obtain ⟨its, r, pl, hz⟩ := I.list hq
  obtain ⟨j, h1, h2, h3, h4, h5⟩ := atI_get he
  obtain ⟨w, ew, rw'⟩ := r.get h2
  have hl := r.length
  have hn := line63
  have hj : k.toNat = j := by
    rw [seqIndex_of h0 h5] at h1
    exact Option.some.inj h1
  exact wpAny_getItem_list pl.isList h0 (by omega) (by rw [hj]; simpa using ew) ⟨z, H, I, rw', q⟩

def revS (z : Str) : Str := ⟨z.cps.reverse⟩
def tRevS (te : TE) : TE := fun σ H Q => te σ H fun x H1 => ∃ z, x = .str z ∧ z.length ≤ sizeLine ∧ Q (.str (revS z)) H1
theorem range_back (n : Nat) : sliceRange ((n : Int) - 1) (-1) (-1) = (List.range n).map fun k => n - 1 - k := by
  unfold sliceRange
  have e : (if (-1 : Int) > 0 then (if ((n : Int) - 1) < -1 then (-1 - ((n : Int) - 1) + -1 - 1) / -1 else 0) else (if ((n : Int) - 1) > -1 then (((n : Int) - 1) - -1 - -1 - 1) / (- -1) else 0)).toNat = n := by
    rw [if_neg (by decide)]
    by_cases h : ((n : Int) - 1) > -1
    · rw [if_pos h, show (- -1 : Int) = 1 by decide, Int.ediv_one]
      omega
    · rw [if_neg h]
      omega
  show List.map (fun (k : Nat) => (((n : Int) - 1) + (-1) * (k : Int)).toNat) (List.range (Int.toNat (if (-1 : Int) > 0 then (if ((n : Int) - 1) < -1 then (-1 - ((n : Int) - 1) + -1 - 1) / -1 else 0) else (if ((n : Int) - 1) > -1 then (((n : Int) - 1) - -1 - -1 - 1) / (- -1) else 0)))) = _
  rw [e]
  refine List.map_congr_left fun k hk => ?_
  have := List.mem_range.mp hk
  omega
theorem filterMap_back (z : Array Nat) : (((List.range z.size).map fun k => z.size - 1 - k).filterMap (z[·]?)) = z.toList.reverse := by
  refine List.ext_getElem? fun i => ?_
  have e : (((List.range z.size).map fun k => z.size - 1 - k).filterMap (z[·]?)) = (List.range z.size).map fun k => z.getD (z.size - 1 - k) 0 := by
    rw [List.filterMap_map]
    have : ∀ l : List Nat, (∀ k ∈ l, k < z.size) → l.filterMap ((fun x => z[x]?) ∘ fun k => z.size - 1 - k) = l.map fun k => z.getD (z.size - 1 - k) 0 := by
      intro l
      induction l with
      | nil => intro _; rfl
      | cons a r ih =>
        intro h
        have ha := h a List.mem_cons_self
        have hb : z.size - 1 - a < z.size := by omega
        rw [List.filterMap_cons]
        have e1 : ((fun x => z[x]?) ∘ fun k => z.size - 1 - k) a = some (z.getD (z.size - 1 - a) 0) := by
          show z[z.size - 1 - a]? = _
          rw [Array.getElem?_eq_getElem hb]
          simp [Array.getD, hb]
        rw [e1, List.map_cons, ih fun k hk => h k (List.mem_cons_of_mem _ hk)]
    exact this _ fun k hk => List.mem_range.mp hk
  rw [e, List.getElem?_map]
  by_cases hi : i < z.size
  · rw [List.getElem?_range hi, List.getElem?_reverse (by simpa using hi)]
    have hb : z.size - 1 - i < z.size := by omega
    simp [Array.getD, hb]
  · rw [List.getElem?_eq_none (by simpa using hi), List.getElem?_eq_none (by simpa using hi)]
    rfl
theorem pe_revS {e : Expr} {te : TE} {k : Nat} {p1 p2 p3 pos : Pos} (he : PE X e te) : PE X (.Subscript e (.Slice none none (some (.UnaryOp .USub (.Constant (.int 1) k p1) p2)) p3) pos) (tRevS te) := by
  refine ⟨fun pins s σ H Q I h => ?_⟩
  refine Subscript_ (thn (he.run pins s σ H _ I h) fun v s1 ⟨x, H1, I1, r1, q1⟩ => ?_)
  obtain ⟨z, ex, hz, q⟩ := q1
  subst ex
  obtain ⟨tz, rfl⟩ := r1
  have hst : PO X (some (.UnaryOp .USub (.Constant (.int 1) k p1) p2)) (tPart (tUn (rU fun i => .int (-i)) (tC (.int 1)))) := po_some (pe_un un_neg pe_int)
  refine wpAny_Slice (thn (po_none.run pins s1 σ H1 (fun o H2 => o = none ∧ H2 = H1) I1 ⟨rfl, rfl⟩) fun vl s2 ⟨l, H2, I2, pl, el, e2⟩ => ?_)
  subst el e2
  refine thn (po_none.run pins s2 σ H2 (fun o H3 => o = none ∧ H3 = H2) I2 ⟨rfl, rfl⟩) fun vu s3 ⟨u, H3, I3, pu, eu, e3⟩ => ?_
  subst eu e3
  refine thn (hst.run pins s3 σ H3 (fun o H4 => o = some (-1) ∧ H4 = H3) I3 ⟨1, rfl, -1, rfl, rfl, rfl⟩) fun vs s4 ⟨o, H4, I4, ps, eo, e4⟩ => ?_
  subst eo e4
  have I5 : Inv X pins σ H4 { s4 with heap := s4.heap.push { cls := .type "slice", data := .fields #[vl, vu, vs] } } := I4.kept (t' := s4.toks) fun b ob q => Heap.get?_push_of_some _ q
  obtain ⟨l, rfl, el⟩ := IsPart.raw pl
  obtain ⟨u, rfl, eu⟩ := IsPart.raw pu
  obtain ⟨st, rfl, est⟩ := IsPart.raw ps
  cases l with
  | some _ => cases el
  | none =>
  cases u with
  | some _ => cases eu
  | none =>
  cases st with
  | none => cases est
  | some st =>
  obtain ⟨k1, tk⟩ := st
  have ek : k1 = -1 := Option.some.inj est
  subst ek
  show wpAny (model X.prog X.w) X.A (subscriptTail e (.Slice none none (some (.UnaryOp .USub (.Constant (.int 1) k p1) p2)) p3) (.str z tz) (.ref s4.heap.objs.size)) (EP X pins σ Q) X.xe { s4 with heap := s4.heap.push { cls := .type "slice", data := .fields #[.none, .none, .int (-1) tk] } }
  refine tail_any (ops := [.ref s4.heap.objs.size, .str z tz]) (typeIs_str _ _ _) F.slot_str_getitem.lookup ?_ (by with_unfolding_all rfl)
  refine wpAny_getItem_str_slice (l := none) (u := none) (st := some (-1, tk)) ⟨_, Heap.get?_push_size _ rfl, rfl, rfl⟩ rfl ?_
  have hp : slicePicked z none none (some (-1, tk)) = (List.range z.cps.size).map fun k => z.cps.size - 1 - k := by
    show Builtin.Str.strSliceIndices none none (-1) z.length = _
    unfold Builtin.Str.strSliceIndices
    exact range_back z.length
  have hr : (⟨((slicePicked z none none (some (-1, tk))).filterMap (z.cps[·]?)).toArray⟩ : Str) = revS z := by
    rw [hp, filterMap_back]
    unfold revS
    congr 1
    apply Array.ext'
    simp
  show Made.post (if ((-1 : Int) == 1 && (slicePicked z none none (some (-1, tk))).length == z.length) = true then Made.val (.str z tz) else Made.str ⟨((slicePicked z none none (some (-1, tk))).filterMap (z.cps[·]?)).toArray⟩) (EP X pins σ Q) _
  rw [if_neg (by rw [show ((-1 : Int) == 1) = false by decide, Bool.false_and]; exact Bool.false_ne_true), hr]
  refine ⟨?_, .str _, H4, I5.tok _, ⟨_, rfl⟩, q⟩
  show (revS z).cps.size ≤ sizeLine
  unfold revS
  rw [Array.size_reverse]
  exact hz

section
variable {CX : CXT} {k : Nat} {f : Addr} {fd : FuncData} {ps ks : List Str} {sp : Sp} {E : XK} {x : Str} {p pos : Pos} {kws : List Keyword} {tk : TA} {g : List Value → List Value → List Value} {gV : List V → List V → List V}
def tCallK0 (sp : Sp) (gV : List V → List V → List V) (E : XK) (tk : TA) : TE := fun σ H Q => tk σ H fun zs H2 => sp (gV [] zs) H2 Q E
/-- f(k = v, ..), nothing by place -/
theorem pe_callK0 (F : FnOk X.prog X.w X.K X.mg X.base CX k f fd ps sp) (hr : Room k X.A) (hg : Gl X x) (hm : X.mg x = some (.ref f)) (hk : PySem.W.keepIn X.K (.ref f) = true) (hb : KBinds X.K fd ps ks g gV) (hx : Passes CX X E)
    (hkw : PK X kws tk) (hall : (backToKw pos (keywordEach kws X.env)).all (·.1.isSome) = true := by rfl) (hks : (backToKw pos (keywordEach kws X.env)).filterMap (·.1) = ks := by rfl)
    (hdb : (x == ("__debug__" : Str)) = false := by decide)
    (hpl : ((backTo pos (starEach [] X.env)).any (·.1) || (backToKw pos (keywordEach kws X.env)).any (·.1.isNone)) = false := by rfl) :
    PE X (.Call (.Name x p) [] kws pos) (tCallK0 sp gV E tk) := by
  refine ⟨fun pins s σ H Q I h => ?_⟩
  refine wpAny_Call_Name_kw (ld_glob I hg hm ?_ hdb)
  refine PySem.W.callWith_KW0 (h₀ := X.base) I.ok.mod.kin hk hall (thn (hkw.run pos pins s σ H _ I h) fun ws s2 ⟨zs, H2, I2, rz, q2⟩ => ⟨I2.kIn, ?_⟩) hpl
  rw [hks]
  exact run_fnk (us := []) (vs := []) F hr hb hx I2 .nil rz q2
end
end

/-- all parameters by keyword, in their order -/
def kAll {α : Type} : List α → List α → List α
  | [], zs => zs
  | _ :: _, _ => []
theorem kbinds_all {K : PySem.W.Frag} {fd : FuncData} {ps ks : List Str} (h0 : 0 < ps.length) (h : ∀ (s : Shared) (ws : List Value), K.In s.heap → ws.length = ps.length → BindsTo s fd ⟨[], ks.zip ws⟩ (ps.zip ws)) : KBinds K fd ps ks kAll kAll where
  to := fun s us ws hK hl => by
    cases us with
    | nil => exact h s ws hK hl
    | cons u r =>
      have z : (0 : Nat) = ps.length := hl
      omega
  rel := fun {vs us zs ws} r rz => by
    cases r with
    | nil => exact rz
    | cons _ _ => exact .nil

/-! ### places -/
theorem at0 {α : Type} {x : α} {xs : List α} : atI (x :: xs) 0 = some x := atI_nat (j := 0) rfl
theorem ix_nat {n j : Nat} (h : j < n) : ixN n (j : Int) = some j := by
  unfold ixN
  rw [if_pos (by omega), if_pos (by omega), Int.toNat_natCast]
theorem ix0 {n : Nat} (h : 0 < n) : ixN n 0 = some 0 := ix_nat h

/-! ### walks over a text -/
theorem lc_str {x : Str} {g : TG} {tt : TT} {te : TE} {vs : List Nat} {σ : L2.St} {H1 : Hp} {D : Addr} {Qd : Hp → Prop} (Pv : Nat → Hp → Prop) (h0 : Pv 0 (upd H1 D (.lst [])))
    (hs : ∀ i c H, x.cps.toList[i]? = some c → Pv i H → g (.str ⟨#[c]⟩) (wipe σ vs) H fun σ2 H2 => wipe σ2 vs = wipe σ vs ∧ tt σ2 H2 fun b H3 =>
      if b = true then te σ2 H3 fun y H4 => ∃ acc, H4 D = some (.lst acc) ∧ acc.length < sizeLine ∧ Pv (i + 1) (upd H4 D (.lst (acc ++ [y]))) else Pv (i + 1) H3) (hd : ∀ H, Pv x.cps.size H → Qd H) :
    ∃ W : Nat → Nat → Hp → Prop, (∃ m, W 0 m (upd H1 D (.lst []))) ∧ ∀ i m H, W i m H →
      ((Its x).stop i H ∧ Qd H) ∨ ((Its x).go i H ∧ ∃ Nx : Hp → Prop, (∀ H', Nx H' → ∃ m', m' < m ∧ W (i + 1) m' H') ∧ ∀ y H', (Its x).yld i H y H' → g y (wipe σ vs) H' fun σ2 H2 => wipe σ2 vs = wipe σ vs ∧ tt σ2 H2 fun b H3 =>
        if b = true then te σ2 H3 fun y H4 => ∃ acc, H4 D = some (.lst acc) ∧ acc.length < sizeLine ∧ Nx (upd H4 D (.lst (acc ++ [y]))) else Nx H3) := by
  refine ⟨fun i m H => m = x.cps.size - i ∧ i ≤ x.cps.size ∧ Pv i H, ⟨_, rfl, Nat.zero_le _, h0⟩, ?_⟩
  rintro i m H ⟨rfl, hi, p⟩
  by_cases hlt : i < x.cps.size
  · refine .inr ⟨hlt, Pv (i + 1), fun H' p' => ⟨x.cps.size - (i + 1), by omega, rfl, hlt, p'⟩, fun y H' q => ?_⟩
    obtain ⟨e, c, hc, ey⟩ := q
    subst e
    subst ey
    exact hs i c _ (by rw [Array.getElem?_toList]; exact hc) p
  · have e : i = x.cps.size := by omega
    subst e
    exact .inl ⟨Nat.le_refl _, hd H p⟩

/-! ### lists of ints, of texts as data -/
theorem dp_ints {K : PySem.W.Frag} {H : Hp} : ∀ ns : List Int, DpAll K H (ns.map V.int) (ns.map PyData.int)
  | [] => .nil
  | n :: r => .cons (.int n) (dp_ints r)
theorem dp_strs {K : PySem.W.Frag} {H : Hp} : ∀ ns : List Str, DpAll K H (ns.map V.str) (ns.map PyData.str)
  | [] => .nil
  | n :: r => .cons (.str n) (dp_strs r)
theorem shaped_ints (ns : List Int) : SeqAt.shaped (.list (ns.map PyData.int)) = true := PySem.W.ke_shaped_ints ns
theorem eqv_nil : PyData.eqv (.list []) (.list []) = true := by simp [PyData.eqv, PyData.eqvAll]
theorem eqv_cons {a : PyData} {r : List PyData} : PyData.eqv (.list (a :: r)) (.list []) = false := by simp [PyData.eqv, PyData.eqvAll]
theorem same_upd {H : Hp} {p : Addr} {o : HO} (h : H p = none) : Same H (upd H p o) := fun b x e => by
  rw [upd_ne (ne_of_none e h)]
  exact e
/-- what G doesn't know may change -/
theorem same_mut {G H : Hp} {p : Addr} {o : HO} (e : Same G H) (h : G p = none) : Same G (upd H p o) := fun b x q => by
  rw [upd_ne (ne_of_none q h)]
  exact e b x q
end My

/-! My own rules about instances of own classes: texts of them, making them by names and in a try, operators; errors with a dict in an except suite. -/
namespace My
open PySem PySem.Spec PyProof.Rows L2

section
variable {X : Cx}
/-! ### floor division by any divisor that is not 0 -/
def CDivZ (_ j : Int) : Prop := j ≠ 0 ∧ j.natAbs.log2 < 9000
theorem op_fdivZ : OpR X (binaryOp .FloorDiv) (rI CDivZ fun i j => .int (i.fdiv j)) := opI fun _ _ _ _ _ _ _ hc q => floordiv_int hc.1 q (.inl (PyProof.noPylong_of_log2 hc.2))
theorem cdivZ {i j : Int} (h : j ≠ 0) (hb : j.natAbs < 2 ^ 8000) : CDivZ i j := ⟨h, Nat.lt_of_lt_of_le (PySem.Flt.log2_lt_of (by decide) hb) (by decide)⟩

/-! ### str(o), o of an own class with __str__ -/
def rStrO (C : Addr) (sp : Sp) : List V → Hp → VK → Prop := fun xs H Q => ∃ a dx fs, xs = [.ref a] ∧ H a = some (.ins C dx fs) ∧ sp [.ref a] H (fun v H' => ∃ z, v = .str z ∧ Q (.str z) H') E0
theorem call_strO {CX : CXT} {k : Nat} {C f : Addr} {fd : FuncData} {ps : List Str} {sp : Sp} (hs : PySem.W.findIn X.K (.ref C) "__str__" = some (some (.ref f))) (hf : PySem.W.isFn X.K (.ref f) = true)
    (F : FnOk X.prog X.w X.K X.mg X.base CX k f fd ps sp) (hr : Room (k + 2) X.A) (hb : Binds X.K fd ps []) (hx : Passes CX X.nox E0) : CallR X (.type "str") (rStrO C sp) := by
  intro pins s σ H xs us Q I r h
  obtain ⟨a, dx, fs, rfl, ea, q⟩ := h
  obtain ⟨u, rfl, ru⟩ := vals1 r
  obtain rfl : u = Value.ref a := ru
  obtain ⟨mA, O, _, _, _, _⟩ := ins_get I.hok ea
  obtain ⟨od, J, _⟩ := O.look
  have hl : ([Value.ref a] ++ []).length = ps.length := by rw [← F.len _ _ _ _ q]; rfl
  refine PySem.W.kso_call hr.in1.in1.units0 I.kIn J hs hf (wpAny_call ?_)
  refine codeAny_mono (F.run X.A.in1.in1 X.stack s H ⟨[.ref a], []⟩ [.ref a] [.ref a] _ E0 hr.in1.in1 I.env0.in1.in1 (hb _ [.ref a] I.kIn hl) (.cons rfl .nil) q) fun r s' hq => ?_
  cases r with
  | error er => exact False.elim (hx pins σ H s er s' (I.wish _) hq)
  | ok fl =>
    cases fl with
    | ret u =>
      obtain ⟨v, H', I3, rv, z, ez, q3⟩ := I.after hq
      subst ez
      obtain ⟨t, rfl⟩ := rv
      exact ⟨.str z, H', I3, ⟨t, rfl⟩, q3⟩
    | next => exact False.elim hq
    | brk => exact False.elim hq
    | cont => exact False.elim hq

/-! ### C(k = v, ..), nothing by place -/
section
variable {CX : CXT} {k : Nat} {f C : Addr} {fd : FuncData} {ps ks : List Str} {sp : Sp} {E : XK} {x : Str} {p pos : Pos} {e : Expr} {es : List Expr} {kws : List Keyword} {t tk : TA} {g : List Value → List Value → List Value} {gV : List V → List V → List V}
theorem pe_makeK0 (M : Mk X.K C f) (F : FnOk X.prog X.w X.K X.mg X.base CX k f fd ps sp) (hr : Room (k + 1) X.A) (hg : Gl X x) (hm : X.mg x = some (.ref C)) (hb : KBn X.K fd ps (0 + 1) ks g gV) (hx : Passes CX X E)
    (hkw : PK X kws tk) (hall : (backToKw pos (keywordEach kws X.env)).all (·.1.isSome) = true := by rfl) (hks : (backToKw pos (keywordEach kws X.env)).filterMap (·.1) = ks := by rfl)
    (hdb : (x == ("__debug__" : Str)) = false := by decide)
    (hpl : ((backTo pos (starEach [] X.env)).any (·.1) || (backToKw pos (keywordEach kws X.env)).any (·.1.isNone)) = false := by rfl) :
    PE X (.Call (.Name x p) [] kws pos) (tMakeN C 0 ks.length sp gV E tNil tk) := by
  refine ⟨fun pins s σ H Q I h => ?_⟩
  refine wpAny_Call_Name_kw (ld_glob I hg hm ?_ hdb)
  refine PySem.W.callWith_KW0 (h₀ := X.base) I.ok.mod.kin M.kp hall (thn (hkw.run pos pins s σ H _ I h) fun ws s2 ⟨zs, H2, I2, rz, l1, l2, q2⟩ => ⟨I2.kIn, ?_⟩) hpl
  rw [hks]
  exact run_makeN M F hr hb hx I2 .nil rz rfl l2 q2

/-! ### cls(e, ..), the class under a name of the frame -/
def tMakeL (C : Addr) (i : Nat) (sp : Sp) (dvs : List V) (E : XK) (t : TA) : TE := fun σ H Q => σ[i]? = some (some (.ref C)) ∧ tMake C sp dvs E t σ H Q
theorem pe_makeL {i : Nat} {dvs : List V} {ds : List Value} (M : Mk X.K C f) (F : FnOk X.prog X.w X.K X.mg X.base CX k f fd ps sp) (hr : Room (k + 1) X.A) (hN : X.N[i]? = some x) (hv : Vis X.env.scope x) (hb : Binds X.K fd ps ds) (hd : Vals dvs ds) (hx : Passes CX X E)
    (ha : PA X (e :: es) t) (hd1 : (x == ("__debug__" : Str)) = false := by decide) (hcd : (x == ("__classdict__" : Str)) = false := by decide)
    (he : starEach (e :: es) X.env = (false, eval e X.env) :: starEach es X.env := by rfl) (hpl : (backTo pos (starEach es X.env)).any (·.1) = false := by rfl) :
    PE X (.Call (.Name x p) (e :: es) [] pos) (tMakeL C i sp dvs E t) := by
  refine ⟨fun pins s σ H Q I h => ?_⟩
  obtain ⟨hs, h⟩ := h
  refine wpAny_Call_Name_kw (thn ((pe_var (pos := p) hN hv hd1 hcd).run pins s σ H (fun v H1 => v = .ref C ∧ H1 = H) I ⟨.ref C, hs, rfl, rfl⟩) fun u s1 ⟨v, H1, I1, r1, q1⟩ => ?_)
  obtain ⟨rfl, rfl⟩ := q1
  cases r1
  refine PySem.W.callWith_K (h₀ := X.base) I.ok.mod.kin M.kp (thn (ha.run pos pins s1 σ _ _ I1 h) fun us s2 ⟨vs, H2, I2, r, q⟩ => ⟨I2.kIn, ?_⟩) he hpl
  exact run_make M F hr hb hd hx I2 r q

/-! ### C(e, ..) where what is raised is wished for at the caller's slots -/
def tMakeS (C : Addr) (sp : Sp) (dvs : List V) (E : L2.St → XK) (t : TA) : TE := fun σ H Q => tMake C sp dvs (E σ) t σ H Q
theorem run_makeS {pins : List (Addr × Obj)} {σ : L2.St} {H : Hp} {s : Shared} {Q : VK} {us : List Value} {vs : List V} {dvs : List V} {ds : List Value} (M : Mk X.K C f) (F : FnOk X.prog X.w X.K X.mg X.base CX k f fd ps sp) (hr : Room (k + 1) X.A) (hb : Binds X.K fd ps ds) (hd : Vals dvs ds)
    (hx : PassesAt CX X σ E) (I : Inv X pins σ H s) (r : Vals vs us)
    (h : ∀ x dx, H x = none → H dx = none → dx ≠ x → sp (.ref x :: (vs ++ dvs)) (upd (upd H dx (.own x)) x (.ins C dx [])) (fun v H2 => v = .non ∧ Q (.ref x) H2) E) :
    wpAny (model X.prog X.w) X.A (call (.ref C) us) (EP X pins σ Q) X.xe s := by
  have hq := h (s.heap.objs.size + 1) s.heap.objs.size (I.hok.fresh (Nat.le_succ _)) (I.hok.fresh (Nat.le_refl _)) (Nat.ne_of_lt (Nat.lt_succ_self _))
  have I2 := Inv.made (C := C) I
  have r2 : Vals (V.ref (s.heap.objs.size + 1) :: (vs ++ dvs)) (Value.ref (s.heap.objs.size + 1) :: (us ++ ds)) := .cons rfl (r.append hd)
  have hl : (Value.ref (s.heap.objs.size + 1) :: us ++ ds).length = ps.length := by
    have e := r2.length
    rw [F.len _ _ _ _ hq] at e
    exact e.symm
  refine wpAny_call (make_map (f := f) I.kIn M.makes M.init (beq_iff_eq.mp M.fn) (codeAny_mono (F.run _ X.stack _ _ ⟨Value.ref (s.heap.objs.size + 1) :: us, []⟩ (Value.ref (s.heap.objs.size + 1) :: (us ++ ds)) _ _ E (hr.make C us [])
    (I2.env0.make C us []) (hb _ (Value.ref (s.heap.objs.size + 1) :: us) I2.kIn hl) r2 hq) fun r s' hq' => ?_))
  cases r with
  | error e => exact hx pins _ _ e s' I2 hq'
  | ok fl =>
    cases fl with
    | ret u =>
      obtain ⟨v, H', I3, rv, ev, q3⟩ := I2.after hq'
      subst ev
      exact ⟨rv, ⟨V.ref (s.heap.objs.size + 1), H', I3, rfl, q3⟩⟩
    | next => exact False.elim hq'
    | brk => exact False.elim hq'
    | cont => exact False.elim hq'
theorem pe_makeS {E : L2.St → XK} {dvs : List V} {ds : List Value} (M : Mk X.K C f) (F : FnOk X.prog X.w X.K X.mg X.base CX k f fd ps sp) (hr : Room (k + 1) X.A) (hg : Gl X x) (hm : X.mg x = some (.ref C)) (hb : Binds X.K fd ps ds) (hd : Vals dvs ds) (hx : ∀ σ, PassesAt CX X σ (E σ))
    (ha : PA X (e :: es) t) (hdb : (x == ("__debug__" : Str)) = false := by decide) (he : starEach (e :: es) X.env = (false, eval e X.env) :: starEach es X.env := by rfl) (hpl : (backTo pos (starEach es X.env)).any (·.1) = false := by rfl) :
    PE X (.Call (.Name x p) (e :: es) [] pos) (tMakeS C sp dvs E t) := by
  refine ⟨fun pins s σ H Q I h => ?_⟩
  refine wpAny_Call_Name_kw (ld_glob I hg hm ?_ hdb)
  refine PySem.W.callWith_K (h₀ := X.base) I.ok.mod.kin M.kp (thn (ha.run pos pins s σ H _ I h) fun us s1 ⟨vs, H1, I1, r, q⟩ => ⟨I1.kIn, ?_⟩) he hpl
  exact run_makeS M F hr hb hd (hx σ) I1 r q
end

/-! ### C.m(k = v, ..), m a classmethod -/
section
variable {CX : CXT} {k : Nat} {C q0 g : Addr} {mc : Value} {fd : FuncData} {ps ks : List Str} {sp : Sp} {E : XK} {o : Expr} {m : Str} {pos apos : Pos} {kws : List Keyword} {ta : TE} {tk : TA} {pl : Sem Bool}
def tCMethK (C : Addr) (n : Nat) (sp : Sp) (E : XK) (ta : TE) (tk : TA) : TE := fun σ H Q => ta σ H fun x H1 => x = .ref C ∧ tk σ H1 fun zs H2 => zs.length = n ∧ sp (.ref C :: zs) H2 Q E
theorem pe_cmethK0 (he : PE X o ta) (r : ClX.CRead X.K C mc) (c : ClX.CMet X.K C mc m q0 g) (F : FnOk X.prog X.w X.K X.mg X.base CX k g fd ps sp) (hr : Room k X.A) (hx : Passes CX X E) (hkw : PK X kws tk)
    (hb : ∀ (s : Shared) (ws : List Value), X.K.In s.heap → ws.length = ks.length → BindsTo s fd ⟨Value.ref C :: [], ks.zip ws⟩ (ps.zip (Value.ref C :: ws)))
    (hall : (backToKw pos (keywordEach kws X.env)).all (·.1.isSome) = true := by rfl) (hks : (backToKw pos (keywordEach kws X.env)).filterMap (·.1) = ks := by rfl)
    (hpl : ((backTo pos (starEach [] X.env)).any (·.1) || (backToKw pos (keywordEach kws X.env)).any (·.1.isNone)) = false := by rfl)
    (ht : eval (.Call (.Attribute o m apos) [] kws pos) X.env = (do
      let ov ← eval o X.env
      standAt apos.atName
      let (f, first) ← holding [ov] (getMethod ov m pl)
      callWith pos f first (backTo pos (starEach [] X.env)) (backToKw pos (keywordEach kws X.env))) := by rfl) :
    PE X (.Call (.Attribute o m apos) [] kws pos) (tCMethK C ks.length sp E ta tk) := by
  refine ⟨fun pins s σ H Q I h => ?_⟩
  refine PySem.W.methodCall_KW (pl := pl) (thn (he.run pins s σ H _ I h) fun u s1 ⟨x, H1, I1, rx, ex, h2⟩ => ?_) ht
  subst ex
  obtain rfl : u = Value.ref C := rx
  refine ClX.getmethcm_ok I1 r c fun s2 I2 => ?_
  refine PySem.W.callWith_of hpl (PySem.W.keeps_M (K := X.K) (self := Value.ref C) c.fi) (evalArgs_kw2_nil hall (thn (hkw.run pos _ s2 σ H1 _ I2 h2) fun ws s3 ⟨zs, H2, I3, rz, hl, h3⟩ => ⟨⟨ClX.pin_at I3, I3.kIn⟩, ?_⟩))
  rw [hks]
  suffices z : wpAny (model X.prog X.w) X.A (call (.ref s1.heap.objs.size) [] (ks.zip ws)) (EP X ((s1.heap.objs.size, PySem.W.methodObj (.ref g) (.ref C)) :: pins) σ Q) X.xe s3 from thn z fun _ _ y => ClX.unpinE y
  refine wpAny_call (PySem.W.method_call (ClX.pin_at I3) ?_)
  have r2 : Vals (V.ref C :: zs) (Value.ref C :: ws) := .cons rfl rz
  refine codeAny_mono (F.run X.A X.stack s3 H2 ⟨Value.ref C :: [], ks.zip ws⟩ (Value.ref C :: ws) (V.ref C :: zs) Q E hr I3.env0 (hb s3 ws I3.kIn (rz.length.symm.trans hl)) r2 h3) fun r s' hq => ?_
  cases r with
  | error er => exact hx _ σ H2 s3 er s' I3 hq
  | ok fl =>
    cases fl with
    | ret u => exact I3.after hq
    | next => exact False.elim hq
    | brk => exact False.elim hq
    | cont => exact False.elim hq
end

/-! ### an error with a dict of its own, asked for its class in an except suite -/
theorem class_of_err {prog : Program} {w : World} {A : Around} {E : Value → Shared → Prop} {s : Shared} {K : PySem.W.Frag} {x D : Addr} {ox od : Obj} {Q : Option Value → Shared → Prop} (C : ExcC K D) (hK : K.In s.heap) (J : PySem.W.InstAt s.heap x ox D (some od))
    (h : Q (some (.ref D)) { s with toks := s.toks + 1 }) : wpAny (model prog w) A (getAttr? (.ref x) "__class__") Q E s := by
  have hcd : (PySem.W.clsIn K D).isSome = true := by
    obtain ⟨cd, hc, _⟩ := PySem.W.any_some C.hd
    rw [hc]
    rfl
  have hf : PySem.W.findObj K D (some od) "__class__" = some (.bind (.builtin "getset_descriptor.__get__") (.builtin "object.__class__")) := PySem.W.findObj_data hcd C.ha C.hn C.ht
  obtain ⟨hp, gg, dr, tt, os⟩ := s
  have T0 := J.type (M := model prog w)
  have T1 := PySem.W.looks_findIn (M := model prog w) hK C.hg
  have T2 := PySem.W.looks_findIn (M := model prog w) hK C.hk
  have T3 := PySem.W.looks_find (M := model prog w) hK J hf
  have below : PySem.W.Looks (model prog w) hp (isInstance (.ref x) (.type "BaseException")) true := T0.andThen (PySem.W.looks_subIn hK C.hs)
  have b0 : (false && onTheHeap (Value.builtin "BaseException.__getattribute__")) = false := rfl
  have b2 : (Value.builtin "BaseException.__getattribute__" == Value.builtin "object.__getattribute__") = false := by decide +kernel
  have b1 : (onTheHeap (Value.ref D) && Value.builtin "BaseException.__getattribute__" == Value.builtin "object.__getattribute__") = false := by rw [b2]; rfl
  unfold getAttr? getAttrBy? getAttrBy
  refine wpAny_bind (wpAny_mkText (wpAny_bind (wpAny_attempt (wpAny_holding (wpAny_bind (T0.at (wpAny_bind (T1.at ?_))))))))
  show wpAny _ _ (if (onTheHeap (Value.ref D) && Value.builtin "BaseException.__getattribute__" == Value.builtin "object.__getattribute__") = true then _ else _) _ _ _
  rw [b1, if_neg Bool.false_ne_true]
  unfold getAttrByItsOwn hookBefore
  refine wpAny_bind ?_
  rw [if_pos (show onTheHeap (Value.ref D) = true from rfl)]
  refine T2.at ?_
  refine wpAny_bind (wpAny_attempt (wpAny_holding ?_))
  unfold callGetattribute
  rw [b0, if_neg Bool.false_ne_true]
  unfold boundAndCalled
  rw [PySem.F.excAttr_ValueError.ga.bind (.ref x)]
  refine wpAny_bind (wpAny_pure ?_)
  show wpAny _ _ (call (.builtin "BaseException.__getattribute__") [.ref x, .str "__class__" tt]) _ _ _
  refine wpAny_call (codeAny_call_builtin PySem.F.excAttr_ValueError.ga.plain PySem.F.entry_bexc_ga ?_)
  refine @PySem.W.check_slot (model prog w) _ _ ⟨hp, gg, dr, tt + 1, os⟩ "BaseException.__getattribute__" "BaseException" "__getattribute__" (.ref x) [.str "__class__" tt] [] _ (by decide +kernel) (by decide +kernel) below (PySem.F.args_bexc_ga (.ref x) (.str "__class__" tt)) ?_
  unfold Builtin.«object.__getattribute__»
  refine wpAny_bind (wpAny_of_eq (a := ((Value.ref x : Value), [Value.str "__class__" tt])) (by first | rfl | (simp only [slotArgs]; rfl)) ?_)
  refine wpAny_bind (wpAny_pure (wpAny_bind (T0.at (wpAny_bind (T3.at ?_)))))
  show wpAny _ _ (holding [Value.builtin "object.__class__"] (call (.builtin "getset_descriptor.__get__") [.builtin "object.__class__", .ref x, .ref D]) >>= ret) _ _ _
  refine wpAny_bind (wpAny_holding (wpAny_call (PySem.W.class_get (s := ⟨hp, gg, dr, tt + 1, os⟩) (ox := ox) (od := some od) hK J C.hm ?_)))
  refine wpAny_pure ?_
  show wpAny _ _ (handedOut (.ref D)) _ _ _
  rw [PySem.W.handedOut_of (v := .ref D) rfl]
  first
    | exact wpAny_pure (wpAny_pure h)
    | exact wpAny_pure h
    | exact wpAny_pure (wpAny_bind (wpAny_pure (wpAny_pure h)))
theorem kit_err {K : PySem.W.Frag} {x D : Addr} {ox od : Obj} (C : ExcC K D) : PySem.W.KitX K (.ref x) (.ref D) (fun h => PySem.W.InstAt h x ox D (some od)) where
  ty := fun _ _ _ J => J.type
  it := fun _ _ hK _ => by
    obtain ⟨cdD, hcD, _⟩ := PySem.W.any_some C.hd
    unfold PySem.W.clsIn at hcD
    split at hcD
    · rename_i c' d' cd' sl' ho
      intro A' Q' E' s' kk q
      unfold isType loadHead
      exact wpAny_bind (wpAny_loadPart (kk _ _ (hK _ _ ho)) (wpAny_pure q))
    · cases hcD
  ne := fun h tp dd its n sl hK htp => by
    obtain ⟨cdD, hcD, _⟩ := PySem.W.any_some C.hd
    refine Bool.eq_false_iff.mpr fun q => ?_
    have e : D = tp := Value.ref.inj (beq_iff_eq.mp q)
    subst e
    unfold PySem.W.clsIn at hcD
    split at hcD
    · rename_i c' d' cd' sl' ho
      have z := (hK _ _ ho).symm.trans htp
      cases z
    · cases hcD
  ca := fun hK J q => class_of_err C hK J q
def rIsEd (K : PySem.W.Frag) (a : Addr) (cls : Value) (d : Option Addr) (D : Addr) : List V → Hp → VK → Prop := fun xs H Q => ∃ (c : V) (cv : Value) (b : Bool) (dd : Addr) (fs : List (Str × V)), xs = [.ref a, c] ∧ cls = .ref D ∧ d = some dd ∧ ClsV c cv ∧ PySem.W.kitOne K (.ref D) cv = some b ∧ H dd = some (.xd fs) ∧ Q (.bl b) H
theorem call_isEd {a D : Addr} {cls : Value} {d : Option Addr} {oe : Obj} {pn : List (Addr × Obj)} (C : ExcC X.K D) (hz : Zc cls d oe) (hf : ∃ vs, oe.data = .fields vs) : CallR (X.suite a ((a, oe) :: pn)) (.builtin "isinstance") (rIsEd X.K a cls d D) := by
  intro pins s σ H xs us Q I r h
  obtain ⟨c, cv, b, dd, fs, rfl, e1, e2, hcv, e, hd, q⟩ := h
  subst e1
  subst e2
  obtain ⟨u, w', rfl, ru, rw'⟩ := vals2 r
  obtain rfl : u = Value.ref a := ru
  obtain rfl := hcv.eq rw'
  obtain ⟨hget, _⟩ := I.pin (a, oe) (List.mem_append.mpr (.inl List.mem_cons_self))
  obtain ⟨vs, hv⟩ := hf
  have hx : ObjOk X.prog X.w H s.heap dd (.xd fs) := I.hok dd _ hd
  obtain ⟨mA, hns, hrel⟩ := hx
  obtain ⟨od, ho, hl⟩ := lookIn_ns hns
  have J : PySem.W.InstAt s.heap a oe D (some od) := ⟨hget, hz.1, by unfold PySem.W.notCls; rw [hv] <;> rfl, by rw [hz.2]; exact ho⟩
  exact PySem.W.kia_one (kit_err C) I.kIn J e (fun z => nomatch z) fun tk => ⟨.bl b, H, I.kept (t' := tk) fun _ _ z => z, rfl, q⟩
end

/-! ### isinstance by the written part; keywords in another order -/
theorem kit_self {K : PySem.W.Frag} {C : Addr} : PySem.W.kitOne K (.ref C) (.ref C) = some true := by
  unfold PySem.W.kitOne
  rw [if_pos (by simp)]
theorem kit_sub {K : PySem.W.Frag} {t : Value} {C : Addr} {b : Bool} (ic : PySem.W.isClsIn K C = true) (ty : PySem.W.typeIn K (.ref C) = some (.type "type")) (su : PySem.W.subIn K t (.ref C) = some b) (ne : t ≠ .ref C) : PySem.W.kitOne K t (.ref C) = some b := by
  unfold PySem.W.kitOne
  rw [if_neg (by simpa using ne)]
  show (if ((PySem.W.clsIn K C).isSome && PySem.W.typeIn K (.ref C) == some (.type "type")) = true then PySem.W.subIn K t (.ref C) else none) = some b
  rw [ty, show (PySem.W.clsIn K C).isSome = true from ic, if_pos (by simp)]
  exact su
theorem kit_not {K : PySem.W.Frag} {t : Value} {C : Addr} (ic : PySem.W.isClsIn K C = true) (ty : PySem.W.typeIn K (.ref C) = some (.type "type")) (su : PySem.W.subIn K t (.ref C) = some false) (ne : t ≠ .ref C) : PySem.W.kitOne K t (.ref C) = some false := kit_sub ic ty su ne
def permL {α : Type} (is : List Nat) (ws : List α) : List α := is.filterMap fun i => ws[i]?
theorem permL_rel (is : List Nat) {zs : List V} {ws : List Value} (r : Vals zs ws) : Vals (permL is zs) (permL is ws) := by
  induction is with
  | nil => exact .nil
  | cons i is ih =>
    unfold permL at ih ⊢
    rw [List.filterMap_cons, List.filterMap_cons]
    cases e : zs[i]? with
    | none =>
      rw [r.none_of e]
      exact ih
    | some x =>
      obtain ⟨u, hu, ru⟩ := r.get e
      rw [hu]
      exact .cons ru ih
end My

/-! My own rules about operators of own classes: + - * with an instance or an int on either side, in place, unary minus, == with either answer, != of two lists with the same items. -/
namespace My
open PySem PySem.Spec PyProof.Rows L2

section
variable {X : Cx} {CX : CXT} {k : Nat} {C f : Addr} {fd : FuncData} {ps : List Str} {sp : Sp} {E : XK}
theorem run_own {pins : List (Addr × Obj)} {s : Shared} {σ : L2.St} {H : Hp} {Q : VK} {us : List Value} {vs : List V} (F : FnOk X.prog X.w X.K X.mg X.base CX k f fd ps sp) (hr : Room k X.A) (hb : Binds X.K fd ps []) (hx : Passes CX X E)
    (I : Inv X pins σ H s) (r : Vals vs us) (h : sp vs H Q E) : wpAny (model X.prog X.w) X.A (call (.ref f) us) (EP X pins σ Q) X.xe s := by
  have hl : (us ++ []).length = ps.length := by
    rw [List.append_nil, ← F.len _ _ _ _ h]
    exact r.length.symm
  refine wpAny_call (codeAny_mono (F.run X.A X.stack s H ⟨us, []⟩ us vs _ E hr I.env0 (by
    have := hb s us I.kIn hl
    rw [List.append_nil] at this
    exact this) r h) fun r s' hq => ?_)
  cases r with
  | error e => exact hx pins σ H s e s' I hq
  | ok fl =>
    cases fl with
    | ret w => exact I.after hq
    | next => exact False.elim hq
    | brk => exact False.elim hq
    | cont => exact False.elim hq
/-- what is handed back is no NotImplemented -/
theorem back_of {pins : List (Addr × Obj)} {σ : L2.St} {Q : VK} {v : Value} {s : Shared} (h : EP X pins σ Q v s) : PySem.W.CmpBack (EP X pins σ Q) v s := by
  obtain ⟨x, H, I, r, q⟩ := id h
  cases x with
  | non => obtain rfl : v = Value.none := r; exact h
  | bl b => obtain rfl : v = Value.bool b := r; exact h
  | int i => obtain ⟨t, rfl⟩ := r; exact h
  | str i => obtain ⟨t, rfl⟩ := r; exact h
  | byt i => obtain ⟨t, rfl⟩ := r; exact h
  | flt i => obtain ⟨t, rfl⟩ := r; exact h
  | ref a => obtain rfl : v = Value.ref a := r; exact h
  | ty n => obtain rfl : v = Value.type n := r; exact h

/-! ### the unary minus -/
def rNegO (C : Addr) (sp : Sp) (E : XK) : V → Hp → VK → Prop := fun x H Q => ∃ a dx fs, x = .ref a ∧ H a = some (.ins C dx fs) ∧ sp [.ref a] H Q E
theorem un_negO (hs : PySem.W.findIn X.K (.ref C) "__neg__" = some (some (.ref f))) (hf : PySem.W.isFn X.K (.ref f) = true) (F : FnOk X.prog X.w X.K X.mg X.base CX k f fd ps sp) (hr : Room k X.A) (hb : Binds X.K fd ps []) (hx : Passes CX X E) :
    UnR X (unaryOp .USub) (rNegO C sp E) := by
  intro pins s σ H x v Q I rx h
  obtain ⟨a, dx, fs, rfl, ea, q⟩ := h
  obtain rfl : v = Value.ref a := rx
  obtain ⟨mA, J, _⟩ := ins_get I.hok ea
  obtain ⟨od, J, _⟩ := J.look
  obtain ⟨m, hF⟩ := I.fr
  exact PySem.W.ksp_neg hF I.ok.mod.kin J hs hf (run_own (vs := [V.ref a]) F hr hb hx I (.cons rfl .nil) q)

/-! ### the operators with two sides -/
/-- what of the text an operator must have -/
structure OpO (K : PySem.W.Frag) (C : Addr) (nm : String) (f g : Addr) : Prop where
  sf : PySem.W.selfFirst K C = true
  ls : PySem.W.findIn K (.ref C) (PySem.dunder nm) = some (some (.ref f))
  lf : PySem.W.isFn K (.ref f) = true
  rs : PySem.W.findIn K (.ref C) (dunderR nm) = some (some (.ref g))
  rf : PySem.W.isFn K (.ref g) = true
  i1 : ∃ fo, PySem.W.findIn K (.type "int") (PySem.dunder nm) = some fo
  i2 : ∃ ro, PySem.W.findIn K (.type "int") (dunderR nm) = some ro
  su : PySem.W.subIn K (.type "int") (.ref C) = some false
  us : PySem.W.subIn K (.ref C) (.type "int") = some false
/-- int declines -/
structure Dec (nm : String) (id : String) (B : Builtin) : Prop where
  slot : Slot "int" (PySem.dunder nm) id
  entry : entryFor table id = some B
  args : ∀ a b, argsOk id ⟨[a, b], []⟩
  fills : fillsNumberSlot (.type "int") nm = pure true
  body : ∀ (a : Int) (t : Tok) (l C dx : Addr), Meets (B ⟨[.int a t, .ref l], []⟩) (fun _ R s => s.heap.get? l = some (PySem.W.instObj C dx) ∧ R (.ok (.ret Value.notImplemented)) s)
theorem dec_add : Dec "add" "int.__add__" Builtin.«int.__add__» := ⟨F.slot_int_add, F.entry_int_add, F.args_int_add_2, F.fills_int_add, fun a t l C dx => .of_wp fun prog w A R s h => by obtain ⟨hp, g, d, tk, os⟩ := s; obtain ⟨hl, h⟩ := h; wp_walk; exact ⟨_, rfl, h⟩⟩
theorem dec_sub : Dec "sub" "int.__sub__" Builtin.«int.__sub__» := ⟨F.slot_int_sub, F.entry_int_sub, F.args_int_sub_2, F.fills_int_sub, fun a t l C dx => .of_wp fun prog w A R s h => by obtain ⟨hp, g, d, tk, os⟩ := s; obtain ⟨hl, h⟩ := h; wp_walk; exact ⟨_, rfl, h⟩⟩
theorem dec_mul : Dec "mul" "int.__mul__" Builtin.«int.__mul__» := ⟨F.slot_int_mul, F.entry_int_mul, F.args_int_mul_2, F.fills_int_mul, fun a t l C dx => .of_wp fun prog w A R s h => by obtain ⟨hp, g, d, tk, os⟩ := s; obtain ⟨hl, h⟩ := h; wp_walk; exact ⟨_, rfl, h⟩⟩

section
variable {prog : Program} {w : World} {A : Around} {Ex : Value → Shared → Prop} {s : Shared} {K : PySem.W.Frag} {C f g : Addr} {nm : String}
open PySem.W
theorem b1_own {x y : Addr} {odx ody : Option Obj} {ox oy : Obj} {Q : Value → Shared → Prop} (X : K.In s.heap) (O : OpO K C nm f g) (I : InstAt s.heap x ox C odx) (J : InstAt s.heap y oy C ody)
    (h : wpAny (model prog w) A (call (.ref f) [.ref x, .ref y]) (PySem.W.CmpBack Q) Ex s) : wpAny (model prog w) A (binaryOp1 nm (.ref x) (.ref y)) (fun r s' => ∃ v, r = some v ∧ Q v s') Ex s := by
  obtain ⟨cd, rest, hcd, hm⟩ := ksp_first O.sf
  unfold binaryOp1
  refine wpAny_bind (I.type.here (wpAny_bind (J.type.here (wpAny_bind ((fills_K X hcd hm O.ls).here ?_)))))
  simp only [beq_self_eq_true, if_true]
  refine wpAny_bind (wpAny_pure ?_)
  simp only [Bool.and_false, Bool.false_eq_true, if_false, Bool.false_and]
  refine wpAny_bind (wpAny_pure ?_)
  simp only [Bool.false_eq_true, if_false]
  refine wpAny_bind (m := tryMethod (.ref x) _ (.ref y)) (wpAny_mono (ksp_try X I O.ls O.lf h) (fun r s' hr => ?_) fun _ _ e => e)
  obtain ⟨v, rfl, hq⟩ := hr
  exact wpAny_pure ⟨v, rfl, hq⟩
theorem b1_int {x : Addr} {i : Int} {t : Tok} {odx : Option Obj} {ox : Obj} {Q : Value → Shared → Prop} (X : K.In s.heap) (O : OpO K C nm f g) (I : InstAt s.heap x ox C odx)
    (h : wpAny (model prog w) A (call (.ref f) [.ref x, .int i t]) (PySem.W.CmpBack Q) Ex s) : wpAny (model prog w) A (binaryOp1 nm (.ref x) (.int i t)) (fun r s' => ∃ v, r = some v ∧ Q v s') Ex s := by
  obtain ⟨cd, rest, hcd, hm⟩ := ksp_first O.sf
  obtain ⟨fo, h1⟩ := O.i1
  obtain ⟨ro, h2⟩ := O.i2
  have one := ksp_try X I O.ls O.lf h
  obtain ⟨hh, gg, d, tt, os⟩ := s
  have L1 : Looks (model prog w) hh (typeOf (.ref x)) (.ref C) := I.type
  have L2 : Looks (model prog w) hh (typeOf (.int i t)) (.type "int") := Looks.of_pure rfl
  have L3 : Looks (model prog w) hh (fillsNumberSlot (.ref C) nm) true := fills_K X hcd hm O.ls
  have L4 : Looks (model prog w) hh (fillsNumberSlot (.type "int") nm) ((fo.isSome && !isSeqSlot fo) || (ro.isSome && !isSeqSlot ro)) := ksp_fillsT X h1 h2
  have L5 : Looks (model prog w) hh (isSubtype (.type "int") (.ref C)) false := looks_subIn X O.su
  have L6 : Looks (model prog w) hh (numberSlotInPython (.ref C) nm) true := ksp_inPy X O.ls O.rs (.inr ⟨_, rfl⟩)
  have L7 : Looks (model prog w) hh (numberSlotInPython (.type "int") nm) false := Looks.of_pure rfl
  have L8 : Looks (model prog w) hh (typeLookup (.type "int") (dunderR nm)) ro := looks_findIn X h2
  generalize ((fo.isSome && !isSeqSlot fo) || (ro.isSome && !isSeqSlot ro)) = right at L4
  have hne : (Value.ref C == Value.type "int") = false := Bool.eq_false_iff.mpr fun q => by cases beq_iff_eq.mp q
  unfold binaryOp1
  refine wpAny_bind (L1.at (wpAny_bind (L2.at (wpAny_bind (L3.at ?_)))))
  simp only [hne, Bool.false_eq_true, if_false]
  cases right with
  | false =>
    ksp_lk
    refine wpAny_mono one (fun r s' hr' => ?_) fun _ _ e => e
    obtain ⟨v, rfl, hq⟩ := hr'
    ksp_lk
    exact ⟨v, rfl, hq⟩
  | true =>
    ksp_lk
    refine wpAny_mono one (fun r s' hr' => ?_) fun _ _ e => e
    obtain ⟨v, rfl, hq⟩ := hr'
    ksp_lk
    exact ⟨v, rfl, hq⟩
theorem b1_rint {x dx : Addr} {i : Int} {t : Tok} {odx : Option Obj} {id : String} {B : Builtin} {Q : Value → Shared → Prop} (D : Dec nm id B) (X : K.In s.heap) (O : OpO K C nm f g) (I : InstAt s.heap x (instObj C dx) C odx)
    (h : wpAny (model prog w) A (call (.ref g) [.ref x, .int i t]) (PySem.W.CmpBack Q) Ex s) : wpAny (model prog w) A (binaryOp1 nm (.int i t) (.ref x)) (fun r s' => ∃ v, r = some v ∧ Q v s') Ex s := by
  obtain ⟨cd, rest, hcd, hm⟩ := ksp_first O.sf
  have one := ksp_try X I O.rs O.rf h
  have two : wpAny (model prog w) A (tryMethod (.int i t) (PySem.dunder nm) (.ref x)) (fun r s' => r = none ∧ s' = s) Ex s :=
    wpAny_tryMethod_declines (typeIs_int s i t) D.slot (call_meets D.slot (typeIs_int s i t) D.entry (D.args _ _) (D.body i t x C dx) ⟨I.at_, rfl, rfl, rfl⟩)
  have L1 : Looks (model prog w) s.heap (typeOf (.ref x)) (.ref C) := I.type
  have L3 : Looks (model prog w) s.heap (fillsNumberSlot (.ref C) nm) true := fills_K X hcd hm O.ls
  have L5 : Looks (model prog w) s.heap (isSubtype (.ref C) (.type "int")) false := looks_subIn X O.us
  have hne : (Value.type "int" == Value.ref C) = false := Bool.eq_false_iff.mpr fun q => by cases beq_iff_eq.mp q
  have hpy : numberSlotInPython (.type "int") nm = pure false := rfl
  unfold binaryOp1
  refine wpAny_bind (wpAny_typeOf (typeIs_int s i t) (wpAny_bind (L1.here (wpAny_bind (wpAny_of_eq D.fills ?_)))))
  simp only [hne, Bool.false_eq_true, if_false]
  refine wpAny_bind (L3.here ?_)
  simp only [Bool.and_self, if_true]
  refine wpAny_bind (L5.here ?_)
  simp only [Bool.false_eq_true, if_false, pure_bind, Bool.not_false, Bool.and_self, if_true, hpy]
  refine wpAny_bind (wpAny_mono two (fun r s' hr => ?_) fun _ _ e => e)
  obtain ⟨rfl, rfl⟩ := hr
  refine wpAny_bind (wpAny_mono one (fun r s' hr => ?_) fun _ _ e => e)
  obtain ⟨v, rfl, hq⟩ := hr
  ksp_lk
  exact ⟨v, rfl, hq⟩
end

/-! ### the operators as rules -/
section
variable {X : Cx} {CX CX' : CXT} {k k' : Nat} {C f g : Addr} {fd fd' : FuncData} {ps ps' : List Str} {sp sp' : Sp} {E : XK} {op : Operator}
theorem op_or {F : Value → Value → Sem Value} {r1 r2 : R2} (a : OpR X F r1) (b : OpR X F r2) : OpR X F (fun x y H Q => r1 x y H Q ∨ r2 x y H Q) := by
  intro pins s σ H x y v u Q I rx ry h
  rcases h with h | h
  · exact a pins s σ H x y v u Q I rx ry h
  · exact b pins s σ H x y v u Q I rx ry h
theorem un_or {F : Value → Sem Value} {r1 r2 : V → Hp → VK → Prop} (a : UnR X F r1) (b : UnR X F r2) : UnR X F (fun x H Q => r1 x H Q ∨ r2 x H Q) := by
  intro pins s σ H x v Q I rx h
  rcases h with h | h
  · exact a pins s σ H x v Q I rx h
  · exact b pins s σ H x v Q I rx h
def rOO (C : Addr) (sp : Sp) (E : XK) : R2 := fun x y H Q => ∃ a dx fs b dy gs, x = .ref a ∧ y = .ref b ∧ H a = some (.ins C dx fs) ∧ H b = some (.ins C dy gs) ∧ sp [.ref a, .ref b] H Q E
def rOI (C : Addr) (sp : Sp) (E : XK) : R2 := fun x y H Q => ∃ a dx fs i, x = .ref a ∧ y = .int i ∧ H a = some (.ins C dx fs) ∧ sp [.ref a, .int i] H Q E
def rIO (C : Addr) (sp : Sp) (E : XK) : R2 := fun x y H Q => ∃ b dy gs i, x = .int i ∧ y = .ref b ∧ H b = some (.ins C dy gs) ∧ sp [.ref b, .int i] H Q E
theorem b1_oo {nm : String} (O : OpO X.K C nm f g) (F : FnOk X.prog X.w X.K X.mg X.base CX k f fd ps sp) (hr : Room k X.A) (hb : Binds X.K fd ps []) (hx : Passes CX X E)
    {pins : List (Addr × Obj)} {s : Shared} {σ : L2.St} {H : Hp} {x y : V} {v u : Value} {Q : VK} (I : Inv X pins σ H s) (rx : RelV x v) (ry : RelV y u) (h : rOO C sp E x y H Q) :
    wpAny (model X.prog X.w) X.A (binaryOp1 nm v u) (fun r s' => ∃ z, r = some z ∧ EP X pins σ Q z s') X.xe s := by
  obtain ⟨a, dx, fs, b, dy, gs, rfl, rfl, ea, eb, q⟩ := h
  obtain rfl : v = Value.ref a := rx
  obtain rfl : u = Value.ref b := ry
  obtain ⟨mA, J, _⟩ := ins_get I.hok ea
  obtain ⟨od, J, _⟩ := J.look
  obtain ⟨mB, J', _⟩ := ins_get I.hok eb
  obtain ⟨od', J', _⟩ := J'.look
  exact b1_own I.kIn O J J' (wpAny_mono (run_own (vs := [V.ref a, V.ref b]) F hr hb hx I (.cons rfl (.cons rfl .nil)) q) (fun _ _ z => back_of z) fun _ _ e => e)
theorem b1_oi {nm : String} (O : OpO X.K C nm f g) (F : FnOk X.prog X.w X.K X.mg X.base CX k f fd ps sp) (hr : Room k X.A) (hb : Binds X.K fd ps []) (hx : Passes CX X E)
    {pins : List (Addr × Obj)} {s : Shared} {σ : L2.St} {H : Hp} {x y : V} {v u : Value} {Q : VK} (I : Inv X pins σ H s) (rx : RelV x v) (ry : RelV y u) (h : rOI C sp E x y H Q) :
    wpAny (model X.prog X.w) X.A (binaryOp1 nm v u) (fun r s' => ∃ z, r = some z ∧ EP X pins σ Q z s') X.xe s := by
  obtain ⟨a, dx, fs, i, rfl, rfl, ea, q⟩ := h
  obtain rfl : v = Value.ref a := rx
  obtain ⟨t, rfl⟩ := ry
  obtain ⟨mA, J, _⟩ := ins_get I.hok ea
  obtain ⟨od, J, _⟩ := J.look
  exact b1_int I.kIn O J (wpAny_mono (run_own (vs := [V.ref a, V.int i]) F hr hb hx I (.cons rfl (.cons ⟨t, rfl⟩ .nil)) q) (fun _ _ z => back_of z) fun _ _ e => e)
theorem b1_io {nm : String} {id : String} {B : Builtin} (D : Dec nm id B) (O : OpO X.K C nm f g) (F : FnOk X.prog X.w X.K X.mg X.base CX k g fd ps sp) (hr : Room k X.A) (hb : Binds X.K fd ps []) (hx : Passes CX X E)
    {pins : List (Addr × Obj)} {s : Shared} {σ : L2.St} {H : Hp} {x y : V} {v u : Value} {Q : VK} (I : Inv X pins σ H s) (rx : RelV x v) (ry : RelV y u) (h : rIO C sp E x y H Q) :
    wpAny (model X.prog X.w) X.A (binaryOp1 nm v u) (fun r s' => ∃ z, r = some z ∧ EP X pins σ Q z s') X.xe s := by
  obtain ⟨b, dx, fs, i, rfl, rfl, ea, q⟩ := h
  obtain rfl : u = Value.ref b := ry
  obtain ⟨t, rfl⟩ := rx
  obtain ⟨mA, J, _⟩ := ins_get I.hok ea
  obtain ⟨od, J, _⟩ := J.look
  exact b1_rint D I.kIn O J (wpAny_mono (run_own (vs := [V.ref b, V.int i]) F hr hb hx I (.cons rfl (.cons ⟨t, rfl⟩ .nil)) q) (fun _ _ z => back_of z) fun _ _ e => e)
theorem bin_of {M : Model} {A : Around} {Ex : Value → Shared → Prop} {s : Shared} {nm : String} (hn : op.info.2 = nm) {v u : Value} {R : Value → Shared → Prop} (h : wpAny M A (binaryOp1 nm v u) (fun r s' => ∃ z, r = some z ∧ R z s') Ex s) : wpAny M A (binaryOp op v u) R Ex s := by
  unfold binaryOp
  refine wpAny_holding (wpAny_bind ?_)
  subst hn
  refine wpAny_mono (show wpAny M A (binaryOp1 op.info.2 v u) _ _ _ from h) (fun r s' hr => ?_) fun _ _ e => e
  obtain ⟨z, rfl, q⟩ := hr
  exact wpAny_pure q
theorem op_oo {nm : String} (hn : op.info.2 = nm) (O : OpO X.K C nm f g) (F : FnOk X.prog X.w X.K X.mg X.base CX k f fd ps sp) (hr : Room k X.A) (hb : Binds X.K fd ps []) (hx : Passes CX X E) : OpR X (binaryOp op) (rOO C sp E) :=
  fun _ _ _ _ _ _ _ _ _ I rx ry h => bin_of hn (b1_oo O F hr hb hx I rx ry h)
theorem op_oi {nm : String} (hn : op.info.2 = nm) (O : OpO X.K C nm f g) (F : FnOk X.prog X.w X.K X.mg X.base CX k f fd ps sp) (hr : Room k X.A) (hb : Binds X.K fd ps []) (hx : Passes CX X E) : OpR X (binaryOp op) (rOI C sp E) :=
  fun _ _ _ _ _ _ _ _ _ I rx ry h => bin_of hn (b1_oi O F hr hb hx I rx ry h)
theorem op_io {nm : String} {id : String} {B : Builtin} (hn : op.info.2 = nm) (D : Dec nm id B) (O : OpO X.K C nm f g) (F : FnOk X.prog X.w X.K X.mg X.base CX k g fd ps sp) (hr : Room k X.A) (hb : Binds X.K fd ps []) (hx : Passes CX X E) : OpR X (binaryOp op) (rIO C sp E) :=
  fun _ _ _ _ _ _ _ _ _ I rx ry h => bin_of hn (b1_io D O F hr hb hx I rx ry h)
/-! ### in place, without a method of its own for it -/
structure NoI (K : PySem.W.Frag) (C : Addr) (nm : String) : Prop where
  mro : ∃ cd, PySem.W.clsIn K C = some cd ∧ cd.mro = [.ref C, .type "object"]
  own : PySem.W.findIn K (.ref C) (dunderI nm) = some none
  obj : PySem.W.findIn K (.type "object") (dunderI nm) = some none
open PySem.W in
theorem looks_noI {M : Model} {h : Heap} {nm : String} {add : Bool} {K : Frag} (X : K.In h) (N : NoI K C nm) : Looks M h (fillsInplaceSlot (.ref C) nm add) false := by
  intro A Q E s k q
  obtain ⟨cd, hc, hm⟩ := N.mro
  have Lm : Looks M h (mroOf (.ref C)) cd.mro := (looks_clsIn X hc).andThen (f := fun cd => pure cd.mro) .now
  have Lm' := Lm.keeps k
  obtain ⟨hh, g, d, tt, os⟩ := s
  have X' : K.In hh := X.keeps k
  have L1 : Looks M hh (typeLookup (.ref C) (dunderI nm)) none := looks_findIn X' N.own
  have L2 : Looks M hh (typeLookup (.type "object") (dunderI nm)) none := looks_findIn X' N.obj
  unfold fillsInplaceSlot
  refine wpAny_bind (Lm'.at ?_)
  rw [hm, List.anyM_cons]
  refine wpAny_bind (wpAny_bind (L1.at ?_))
  refine wpAny_pure ?_
  rw [if_neg Bool.false_ne_true, List.anyM_cons]
  refine wpAny_bind (wpAny_bind (L2.at ?_))
  refine wpAny_pure ?_
  rw [if_neg Bool.false_ne_true]
  exact wpAny_pure q
theorem inp_of {M : Model} {A : Around} {Ex : Value → Shared → Prop} {s : Shared} {nm : String} {K : PySem.W.Frag} {a dx : Addr} {ox : Obj} {od : Option Obj} (hn : op.info.2 = nm) (X : K.In s.heap) (I : PySem.W.InstAt s.heap a ox C od) (N : NoI K C nm) {u : Value} {R : Value → Shared → Prop}
    (h : wpAny M A (binaryOp1 nm (.ref a) u) (fun r s' => ∃ z, r = some z ∧ R z s') Ex s) : wpAny M A (inplaceOp op (.ref a) u) R Ex s := by
  subst hn
  unfold inplaceOp
  refine wpAny_holding ?_
  refine wpAny_bind (I.type.here ?_)
  refine wpAny_bind ((looks_noI X N).here ?_)
  rw [if_neg Bool.false_ne_true]
  refine wpAny_bind (wpAny_mono h (fun r s' hr => ?_) fun _ _ e => e)
  obtain ⟨z, rfl, q⟩ := hr
  exact wpAny_pure q
theorem iop_oo {nm : String} (hn : op.info.2 = nm) (N : NoI X.K C nm) (O : OpO X.K C nm f g) (F : FnOk X.prog X.w X.K X.mg X.base CX k f fd ps sp) (hr : Room k X.A) (hb : Binds X.K fd ps []) (hx : Passes CX X E) : OpR X (inplaceOp op) (rOO C sp E) := by
  intro pins s σ H x y v u Q I rx ry h
  have h' := b1_oo O F hr hb hx I rx ry h
  obtain ⟨a, dx, fs, b, dy, gs, rfl, rfl, ea, eb, q⟩ := h
  obtain rfl : v = Value.ref a := rx
  obtain ⟨mA, J, _⟩ := ins_get I.hok ea
  obtain ⟨od, J, _⟩ := J.look
  exact inp_of (dx := dx) hn I.kIn J N h'
theorem iop_oi {nm : String} (hn : op.info.2 = nm) (N : NoI X.K C nm) (O : OpO X.K C nm f g) (F : FnOk X.prog X.w X.K X.mg X.base CX k f fd ps sp) (hr : Room k X.A) (hb : Binds X.K fd ps []) (hx : Passes CX X E) : OpR X (inplaceOp op) (rOI C sp E) := by
  intro pins s σ H x y v u Q I rx ry h
  have h' := b1_oi O F hr hb hx I rx ry h
  obtain ⟨a, dx, fs, i, rfl, rfl, ea, q⟩ := h
  obtain rfl : v = Value.ref a := rx
  obtain ⟨mA, J, _⟩ := ins_get I.hok ea
  obtain ⟨od, J, _⟩ := J.look
  exact inp_of (dx := dx) hn I.kIn J N h'
/-! ### == by the class's own method, with either answer -/
theorem cmp_own (hs : PySem.W.findIn X.K (.ref C) "__eq__" = some (some (.ref f))) (hf : PySem.W.isFn X.K (.ref f) = true) (F : FnOk X.prog X.w X.K X.mg X.base CX k f fd ps sp) (hr : Room k X.A) (hb : Binds X.K fd ps []) (hx : Passes CX X E) : OpR X (compareOp .Eq) (rOO C sp E) := by
  intro pins s σ H x y v u Q I rx ry h
  obtain ⟨a, dx, fs, b, dy, gs, rfl, rfl, ea, eb, q⟩ := h
  obtain rfl : v = Value.ref a := rx
  obtain rfl : u = Value.ref b := ry
  obtain ⟨mA, J, _⟩ := ins_get I.hok ea
  obtain ⟨od, J, _⟩ := J.look
  obtain ⟨mB, J', _⟩ := ins_get I.hok eb
  obtain ⟨od', J', _⟩ := J'.look
  obtain ⟨m, hF⟩ := I.fr
  show wpAny (model X.prog X.w) X.A (richCompare .Eq (.ref a) (.ref b)) (EP X pins σ Q) X.xe s
  refine PySem.W.cmp_K (op := .Eq) (tb := .ref C) hr.units0 hF I.ok.mod.kin J J'.type (by simp [PySem.W.notFirst]) hs hf ?_
  exact wpAny_mono (run_own (vs := [V.ref a, V.ref b]) F hr hb hx I (.cons rfl (.cons rfl .nil)) q) (fun _ _ z => back_of z) fun _ _ e => e
/-! ### != of two lists with the same items -/
def plainV : V → Bool
  | .int _ => true
  | .ref _ => true
  | _ => false
def rNeSame (K : PySem.W.Frag) : R2 := fun x y H Q => ∃ a b xs, x = .ref a ∧ y = .ref b ∧ SqL K H a xs ∧ SqL K H b xs ∧ (∀ z ∈ xs, plainV z = true) ∧ Q (.bl false) H
theorem eqAt_same {A : Around} {s : Shared} {z : V} {u v : Value} (h : plainV z = true) (r : RelV z u) (r' : RelV z v) : SeqAt.EqAt A s u v true := by
  cases z with
  | int i =>
    have := eqAt_V (A := A) (s := s) r r' rfl rfl
    have e : eqV (.int i) (.int i) = true := by simp [eqV]
    rw [e] at this
    exact this
  | ref a =>
    obtain rfl : u = Value.ref a := r
    obtain rfl : v = Value.ref a := r'
    exact SeqAt.EqAt.same _
  | _ => cases h
theorem op_neSame (hu : X.A.units < cLine) : OpR X (compareOp .NotEq) (rNeSame X.K) := by
  intro pins s σ H x y v u Q I rx ry h
  obtain ⟨a, b, xs, rfl, rfl, ha, hb, hp, q⟩ := h
  obtain rfl : v = Value.ref a := rx
  obtain rfl : u = Value.ref b := ry
  obtain ⟨its, r, ⟨o, n, e, c, d, dt⟩, _⟩ := I.list ha
  obtain ⟨its2, r2, ⟨o2, n2, e2, c2, d2, dt2⟩, _⟩ := I.list hb
  have hsz : its.toArray.size = its2.toArray.size := by rw [List.size_toArray, List.size_toArray, ← r.length, ← r2.length]
  show wpAny (model X.prog X.w) X.A (richCompare .NotEq (.ref a) (.ref b)) (EP X pins σ Q) X.xe s
  refine SeqAt.RcNeAt.lists (e := fun _ => true) ⟨o, e, c, n, dt⟩ ⟨o2, e2, c2, n2, dt2⟩ hsz hu (fun j h1 h2 => ?_) _ _ _ _ ?_
  · have k1 : j < xs.length := by rw [r.length]; simpa using h1
    obtain ⟨w1, hw1, rw1⟩ := r.get (List.getElem?_eq_getElem k1)
    obtain ⟨w2, hw2, rw2⟩ := r2.get (List.getElem?_eq_getElem k1)
    have g1 : its[j]? = some its.toArray[j] := by
      have h1' : j < its.length := by simpa using h1
      rw [List.getElem?_eq_getElem h1'] <;> simp
    have g2 : its2[j]? = some its2.toArray[j] := by
      have h2' : j < its2.length := by simpa using h2
      rw [List.getElem?_eq_getElem h2'] <;> simp
    rw [g1] at hw1
    rw [g2] at hw2
    rw [Option.some.inj hw1, Option.some.inj hw2]
    exact eqAt_same (hp _ (List.getElem_mem k1)) rw1 rw2
  · have e : (!(List.range its.toArray.size).all fun _ => true) = false := by simp
    rw [e]
    exact ⟨.bl false, H, I, rfl, q⟩
end
/-! ### list or tuple -/
section
variable {X : Cx}
theorem ix_or {r1 r2 : R2} (a : IxR X r1) (b : IxR X r2) : IxR X (fun x y H Q => r1 x y H Q ∨ r2 x y H Q) := by
  intro value slice pins s σ H x y v u Q I rx ry h
  rcases h with h | h
  · exact a value slice pins s σ H x y v u Q I rx ry h
  · exact b value slice pins s σ H x y v u Q I rx ry h
def iSeq (K : PySem.W.Frag) (tl : TE) : TI := fun σ H R => tl σ H fun x H1 => ∃ a, x = .ref a ∧ (((∃ xs, SqL K H1 a xs) ∧ R (Itl K a) H1) ∨ ((∃ xs, SqT K H1 a xs) ∧ R (Itt K a) H1))
theorem pi_seq {tg l : Expr} {tl : TE} (hl : PE X l tl) : PI X tg l (iSeq X.K tl) := by
  refine ⟨fun pins s σ H R I h => ?_⟩
  refine thn (hl.run pins s σ H _ I h) fun v s1 ⟨x, H1, I1, r1, q1⟩ => ?_
  obtain ⟨a, e, ⟨⟨xs, hq⟩, q⟩ | ⟨⟨xs, hq⟩, q⟩⟩ := q1
  · subst e
    cases r1
    obtain ⟨its, rv, p, hz⟩ := I1.list hq
    refine wpAny_pyIter_list p.isList ?_
    refine ⟨s1.heap.objs.size, [s1.heap.objs.size], _, _, H1, rfl, I1.kept (t' := s1.toks) fun b o e => Heap.get?_push_of_some _ e, turn_list a _, ⟨_, Heap.get?_push_size _ rfl, rfl, rfl⟩, fun b hb => ?_, q⟩
    have e : b = s1.heap.objs.size := by simpa using hb
    subst e
    exact I1.fpOk (Nat.le_refl _) (I1.hok.fresh (Nat.le_refl _))
  · subst e
    cases r1
    obtain ⟨its, rv, p, hz⟩ := I1.tuple hq
    refine wpAny_pyIter_tuple (show s1.heap.IsTuple a its.toArray from p) ?_
    refine ⟨s1.heap.objs.size, [s1.heap.objs.size], _, _, H1, rfl, I1.kept (t' := s1.toks) fun b o e => Heap.get?_push_of_some _ e, turn_tuple a _, ⟨_, Heap.get?_push_size _ rfl, rfl, rfl⟩, fun b hb => ?_, q⟩
    have e : b = s1.heap.objs.size := by simpa using hb
    subst e
    exact I1.fpOk (Nat.le_refl _) (I1.hok.fresh (Nat.le_refl _))
end
end
end My

/-! My own rules about calls that raise: by keywords alone, at the caller's slots; through a def's body. -/
namespace My
open PySem PySem.Spec PyProof.Rows L2
section
variable {X : Cx} {CX : CXT} {k : Nat} {f : Addr} {fd : FuncData} {ps ks : List Str} {sp : Sp} {E : L2.St → XK} {x : Str} {p pos : Pos} {kws : List Keyword} {tk : TA} {g : List Value → List Value → List Value} {gV : List V → List V → List V}
theorem run_fnkS {pins : List (Addr × Obj)} {σ : L2.St} {H : Hp} {s : Shared} {Q : VK} {us ws : List Value} {vs zs : List V} (F : FnOk X.prog X.w X.K X.mg X.base CX k f fd ps sp) (hr : Room k X.A) (hb : KBinds X.K fd ps ks g gV) (hx : PassesAt CX X σ (E σ))
    (I : Inv X pins σ H s) (r : Vals vs us) (rz : Vals zs ws) (h : sp (gV vs zs) H Q (E σ)) : wpAny (model X.prog X.w) X.A (call (.ref f) us (ks.zip ws)) (EP X pins σ Q) X.xe s := by
  have r2 := hb.rel r rz
  have hl : (g us ws).length = ps.length := by rw [← r2.length]; exact F.len _ _ _ _ h
  refine wpAny_call (codeAny_mono (F.run X.A X.stack s H ⟨us, ks.zip ws⟩ (g us ws) (gV vs zs) Q (E σ) hr I.env0 (hb.to s us ws I.kIn hl) r2 h) fun r s' hq => ?_)
  cases r with
  | error e => exact hx pins H s e s' I hq
  | ok fl =>
    cases fl with
    | ret u => exact I.after hq
    | next => exact False.elim hq
    | brk => exact False.elim hq
    | cont => exact False.elim hq
def tCallK0S (sp : Sp) (gV : List V → List V → List V) (E : L2.St → XK) (tk : TA) : TE := fun σ H Q => tk σ H fun zs H2 => sp (gV [] zs) H2 Q (E σ)
theorem pe_callK0S (F : FnOk X.prog X.w X.K X.mg X.base CX k f fd ps sp) (hr : Room k X.A) (hg : Gl X x) (hm : X.mg x = some (.ref f)) (hk : PySem.W.keepIn X.K (.ref f) = true) (hb : KBinds X.K fd ps ks g gV) (hx : ∀ σ, PassesAt CX X σ (E σ))
    (hkw : PK X kws tk) (hall : (backToKw pos (keywordEach kws X.env)).all (·.1.isSome) = true := by rfl) (hks : (backToKw pos (keywordEach kws X.env)).filterMap (·.1) = ks := by rfl)
    (hdb : (x == ("__debug__" : Str)) = false := by decide)
    (hpl : ((backTo pos (starEach [] X.env)).any (·.1) || (backToKw pos (keywordEach kws X.env)).any (·.1.isNone)) = false := by rfl) :
    PE X (.Call (.Name x p) [] kws pos) (tCallK0S sp gV E tk) := by
  refine ⟨fun pins s σ H Q I h => ?_⟩
  refine wpAny_Call_Name_kw (ld_glob I hg hm ?_ hdb)
  refine PySem.W.callWith_KW0 (h₀ := X.base) I.ok.mod.kin hk hall (thn (hkw.run pos pins s σ H _ I h) fun ws s2 ⟨zs, H2, I2, rz, q2⟩ => ⟨I2.kIn, ?_⟩) hpl
  rw [hks]
  exact run_fnkS (us := []) (vs := []) F hr hb (hx σ) I2 .nil rz q2
end
section
variable {X : Cx} {E E' : XK}
/-- what a callee lets out leaves this def too -/
theorem passX (tk : Takes X (fun cls d _ H => E cls d H)) : Passes (L2.CX X.prog X.w) X E := fun pins σ H s e s' I c => L2.passes_call tk (fun _ _ _ _ h => h) pins σ H s e s' I c
end
end My

/-! My own rules: != by object.__ne__ over an own ==, x is a bool, o.m(k = v). -/
namespace My
open PySem PySem.Spec PyProof.Rows L2

section
variable {X : Cx} {CX : CXT} {k : Nat} {C f : Addr} {fd : FuncData} {ps : List Str} {sp : Sp} {E : XK}
/-- a method run below a built-in -/
theorem run_own1 {pins : List (Addr × Obj)} {s : Shared} {σ : L2.St} {H : Hp} {Q : VK} {us : List Value} {vs : List V} (F : FnOk X.prog X.w X.K X.mg X.base CX k f fd ps sp) (hr : Room (k + 1) X.A) (hb : Binds X.K fd ps []) (hx : Passes CX X E)
    (I : Inv X pins σ H s) (r : Vals vs us) (h : sp vs H Q E) : wpAny (model X.prog X.w) X.A.in1 (call (.ref f) us) (EP X pins σ Q) X.xe s := by
  have hl : (us ++ []).length = ps.length := by
    rw [List.append_nil, ← F.len _ _ _ _ h]
    exact r.length.symm
  refine wpAny_call (codeAny_mono (F.run X.A.in1 X.stack s H ⟨us, []⟩ us vs _ E hr.in1 I.env0.in1 (by
    have := hb s us I.kIn hl
    rw [List.append_nil] at this
    exact this) r h) fun r s' hq => ?_)
  cases r with
  | error e => exact hx pins σ H s e s' I hq
  | ok fl =>
    cases fl with
    | ret w => exact I.after hq
    | next => exact False.elim hq
    | brk => exact False.elim hq
    | cont => exact False.elim hq
/-- C has no != of its own -/
structure NoNe (K : PySem.W.Frag) (C f : Addr) : Prop where
  ne : PySem.W.findIn K (.ref C) "__ne__" = some (some (.builtin "object.__ne__"))
  ob : PySem.W.subIn K (.ref C) (.type "object") = some true
  eq : PySem.W.findIn K (.ref C) "__eq__" = some (some (.ref f))
  fn : PySem.W.isFn K (.ref f) = true
theorem ne_K {prog : Program} {w : World} {A : Around} {Ex : Value → Shared → Prop} {s : Shared} {K : PySem.W.Frag} {a b : Addr} {oa ob : Obj} {oda odb : Option Obj} {Q : Value → Shared → Prop} (hu : A.units + 1 < cLine) (X : K.In s.heap) (N : NoNe K C f)
    (I : PySem.W.InstAt s.heap a oa C oda) (J : PySem.W.InstAt s.heap b ob C odb) (h : wpAny (model prog w) A.in1 (call (.ref f) [.ref a, .ref b]) (fun v s' => ∃ r, v = .bool r ∧ Q (.bool (!r)) s') Ex s) :
    wpAny (model prog w) A (richCompare .NotEq (.ref a) (.ref b)) Q Ex s := by
  have body : wpAny (model prog w) A.in1 (Builtin.«object.__ne__» ⟨[.ref a, .ref b], []⟩) (fun fin s' => ∃ r, fin = .done (.ret (.bool (!r))) ∧ Q (.bool (!r)) s') Ex s := by
    unfold Builtin.«object.__ne__»
    refine wpAny_bind (wpAny_of_eq (a := ((Value.ref a : Value), [Value.ref b])) (by first | rfl | (simp only [slotArgs]; rfl)) ?_)
    refine wpAny_bind (wpAny_cRoomFor hu ?_)
    refine wpAny_bind (PySem.W.ifBound_K X I N.eq N.fn (wpAny_mono h (fun v s' hv => ?_) fun _ _ e => e))
    obtain ⟨r, rfl, q⟩ := hv
    refine wpAny_bind (wpAny_truthy_bool ?_)
    exact wpAny_pure ⟨r, rfl, q⟩
  have below : PySem.W.Looks (model prog w) s.heap (isInstance (.ref a) (.type "object")) true := I.type.andThen (PySem.W.looks_subIn X N.ob)
  have one : wpAny (model prog w) A (tryCompare (.ref a) "__ne__" (.ref b)) (fun r s' => ∃ t, r = some (.bool (!t)) ∧ Q (.bool (!t)) s') Ex s := by
    unfold tryCompare
    simp only [callSpecialIfBound?, bindSpecialIfBound?]
    refine wpAny_bind (wpAny_holding (wpAny_bind (wpAny_bind (wpAny_bind (I.type.here ((PySem.W.looks_findIn X N.ne).here ?_))))))
    simp only [F.cmp_object.ne.bind]
    refine wpAny_bind (wpAny_askSetting (wpAny_ite ?_))
    have fin : wpAny (model prog w) A (call (.builtin "object.__ne__") ([.ref a] ++ [.ref b]) >>= fun v => pure (some v)) (fun r s' => ∃ t, r = some (.bool (!t)) ∧ Q (.bool (!t)) s') Ex s := by
      refine wpAny_bind (wpAny_call (codeAny_call_builtin F.cmp_object.ne.plain F.cmpEntry_ne (PySem.W.check_slot F.cmpKind_ne F.cmpSplit_ne below (F.cmpArgs_ne _ _) (wpAny_mono body (fun fin s' hf => ?_) fun _ _ e => e))))
      obtain ⟨r, rfl, q⟩ := hf
      exact wpAny_pure ⟨r, rfl, q⟩
    have fin2 := wpAny_mono fin (Q' := fun a s' => wpAny (model prog w) A (match a with
        | some Value.notImplemented => pure none
        | none => pure none
        | some v => pure (some v)) (fun r s' => ∃ t, r = some (Value.bool !t) ∧ Q (Value.bool !t) s') Ex s') (fun r s' hr => by
      obtain ⟨t, rfl, q⟩ := hr
      exact wpAny_pure ⟨t, rfl, q⟩) fun _ _ e => e
    split
    · exact wpAny_pure (by exact fin2)
    · exact wpAny_tryCatch (wpAny_pure (by exact fin2))
  unfold richCompare
  simp only [oneThing_ref]
  refine wpAny_holding (wpAny_bind (wpAny_cRoomFor (by omega) ?_))
  refine wpAny_bind (I.type.here (wpAny_bind (J.type.here ?_)))
  split
  · rename_i q
    simp at q
  · refine wpAny_bind (wpAny_pure ?_)
    simp only [Bool.false_eq_true, if_false]
    refine wpAny_bind (wpAny_mono one (fun r s' z => ?_) fun _ _ e => e)
    obtain ⟨t, rfl, hq⟩ := z
    exact wpAny_pure hq
/-- x is y, two bools -/
theorem op_isB : OpR X (compareOp .Is) (fun x y H Q => ∃ a b, x = .bl a ∧ y = .bl b ∧ Q (.bl (decide (a = b))) H) := by
  intro pins s σ H x y v u Q I rx ry h
  obtain ⟨a, b, rfl, rfl, q⟩ := h
  cases rx
  cases ry
  show wpAny (model X.prog X.w) X.A (do return .bool (← isSame (.bool a) (.bool b))) (EP X pins σ Q) X.xe s
  refine wpAny_bind ?_
  unfold isSame
  cases a <;> cases b <;> exact wpAny_pure (wpAny_pure ⟨.bl (decide _), H, I, by rfl, q⟩)
section
variable {ks : List Str} {g : List Value → List Value → List Value} {gV : List V → List V → List V} {o : Expr} {m : Str} {pos apos : Pos} {kws : List Keyword} {ta : TE} {tk : TA}
/-- o.m(k = v, ..), nothing by place -/
def tMethK0 (C : Addr) (m : Str) (sp : Sp) (gV : List V → List V → List V) (E : XK) (ta : TE) (tk : TA) : TE := fun σ H Q => ta σ H fun x H1 => ∃ a dx fs, x = .ref a ∧ H1 a = some (.ins C dx fs) ∧ fs.lookup m = none ∧ tk σ H1 fun zs H2 => sp (gV [x] zs) H2 Q E
theorem pe_methK0 {pl : Sem Bool} (he : PE X o ta) (c : Cls X.K C) (hm : Meth X.K C m f) (F : FnOk X.prog X.w X.K X.mg X.base CX k f fd ps sp) (hr : Room k X.A) (hb : KBinds X.K fd ps ks g gV) (hx : Passes CX X E) (hkw : PK X kws tk)
    (hall : (backToKw pos (keywordEach kws X.env)).all (·.1.isSome) = true := by rfl) (hks : (backToKw pos (keywordEach kws X.env)).filterMap (·.1) = ks := by rfl)
    (hpl : ((backTo pos (starEach [] X.env)).any (·.1) || (backToKw pos (keywordEach kws X.env)).any (·.1.isNone)) = false := by rfl)
    (ht : eval (.Call (.Attribute o m apos) [] kws pos) X.env = (do
      let ov ← eval o X.env
      standAt apos.atName
      let (f, first) ← holding [ov] (getMethod ov m pl)
      callWith pos f first (backTo pos (starEach [] X.env)) (backToKw pos (keywordEach kws X.env))) := by rfl) :
    PE X (.Call (.Attribute o m apos) [] kws pos) (tMethK0 C m sp gV E ta tk) := by
  refine ⟨fun pins s σ H Q I h => ?_⟩
  refine PySem.W.methodCall_KW (pl := pl) (thn (he.run pins s σ H _ I h) fun u s1 ⟨x, H1, I1, rx, a, dx, fs, ex, ea, l, q⟩ => ?_) ht
  subst ex
  obtain rfl : u = Value.ref a := rx
  refine getmeth_ok I1 ea c hm l ?_
  refine PySem.W.callWith_KW0 (first := [.ref a]) (h₀ := X.base) I.ok.mod.kin hm.kp hall (thn (hkw.run pos pins s1 σ H1 _ I1 q) fun ws s2 ⟨zs, H2, I2, rz, q2⟩ => ⟨I2.kIn, ?_⟩) hpl
  rw [hks]
  exact run_fnk (us := [.ref a]) (vs := [.ref a]) F hr hb hx I2 (.cons rfl .nil) rz q2
end
/-! ### a built-in value == an instance: the instance's own == answers -/
theorem eq_right {prog : Program} {w : World} {A : Around} {Ex : Value → Shared → Prop} {s : Shared} {K : PySem.W.Frag} {a : Value} {b : Addr} {ob : Obj} {odb : Option Obj} {Ta ida : String} {Q : Value → Shared → Prop} (hu : A.units < cLine) (X : K.In s.heap)
    (he : PySem.W.findIn K (.ref C) "__eq__" = some (some (.ref f))) (hf : PySem.W.isFn K (.ref f) = true) (ha : s.TypeIs a Ta) (J : PySem.W.InstAt s.heap b ob C odb) (hsub : PySem.W.subIn K (.ref C) (.type Ta) = some false)
    (h1 : Slot Ta (cmpInfo .Eq).2.1 ida) (hc1 : ∀ Q' : Value → Shared → Prop, Q' .notImplemented s → wpAny (model prog w) A (call (.builtin ida) [a, .ref b]) Q' Ex s)
    (h : wpAny (model prog w) A (call (.ref f) [.ref b, a]) (fun v s' => ∃ r, v = .bool r ∧ Q (.bool r) s') Ex s) : wpAny (model prog w) A (richCompare .Eq a (.ref b)) Q Ex s := by
  have hne : (Value.type Ta != Value.ref C) = true := by
    rw [bne_iff_ne]
    exact fun z => nomatch z
  rcases hi : cmpInfo CmpOp.Eq with ⟨sym, n1, n2⟩
  have e1 : n1 = "__eq__" := by cases hi; rfl
  have e2 : n2 = "__eq__" := by cases hi; rfl
  rw [hi] at h1
  have one : wpAny (model prog w) A (tryCompare (.ref b) n2 a) (fun r s' => ∃ t, r = some (.bool t) ∧ Q (.bool t) s') Ex s := by
    rw [e2]
    unfold tryCompare
    refine wpAny_bind (PySem.W.ifBound_K X J he hf (wpAny_mono h (fun v s' hv => ?_) fun _ _ e => e))
    obtain ⟨r, rfl, q⟩ := hv
    exact wpAny_pure ⟨r, rfl, q⟩
  simp only [richCompare, hi, ha.oneThing_none]
  try with_reducible refine wpAny_holding ?_
  refine wpAny_bind (wpAny_cRoomFor hu ?_)
  refine wpAny_bind (wpAny_typeOf ha (wpAny_bind (J.type.here ?_)))
  simp only [hne, if_true]
  refine wpAny_bind ((PySem.W.looks_subIn X hsub).here ?_)
  simp only [Bool.false_eq_true, if_false, Bool.not_false, if_true]
  refine wpAny_bind (m := tryCompare a _ (.ref b)) (wpAny_tryCompare_declines ha h1 (hc1 _ ⟨rfl, ?_⟩))
  refine wpAny_bind (m := tryCompare (.ref b) _ a) (wpAny_mono one (fun r s' hr => ?_) fun _ _ e => e)
  obtain ⟨t, rfl, q⟩ := hr
  exact wpAny_pure q
theorem dec_int_eq (a : Int) (t : Tok) (l C dx : Addr) : Meets (Builtin.«int.__eq__» ⟨[.int a t, .ref l], []⟩) (fun _ R s => s.heap.get? l = some (PySem.W.instObj C dx) ∧ R (.ok (.ret Value.notImplemented)) s) := .of_wp fun prog w A R s h => by obtain ⟨hp, g, d, tk, os⟩ := s; obtain ⟨hl, h⟩ := h; wp_walk; exact ⟨_, rfl, h⟩
theorem dec_str_eq (a : Str) (t : Tok) (l C dx : Addr) : Meets (Builtin.«str.__eq__» ⟨[.str a t, .ref l], []⟩) (fun _ R s => s.heap.get? l = some (PySem.W.instObj C dx) ∧ R (.ok (.ret Value.notImplemented)) s) := .of_wp fun prog w A R s h => by obtain ⟨hp, g, d, tk, os⟩ := s; obtain ⟨hl, h⟩ := h; wp_walk; exact ⟨_, rfl, h⟩
theorem dec_none_eq (l : Addr) : Gives (Builtin.«NoneType.__eq__» ⟨[.none, .ref l], []⟩) (.val (Value.notImplemented)) := .of_wp fun M A E s Q h => by obtain ⟨hp, g, d, tk, os⟩ := s; wp_walk; exact ⟨_, rfl, h⟩
section
variable {prog : Program} {w : World} {A : Around} {Ex : Value → Shared → Prop} {s : Shared}
theorem dec_list_eq {l b : Addr} {Q : Value → Shared → Prop} (hl : s.TypeIs (.ref l) "list") (hb : PySem.W.Looks (model prog w) s.heap (isInstance (.ref b) (.type "list")) false) (q : Q .notImplemented s) : wpAny (model prog w) A (call (.builtin "list.__eq__") [.ref l, .ref b]) Q Ex s := by
  refine GQ.call_here F.slot_list_eq hl F.entry_list_eq (F.args_list_eq_2 _ _) ?_
  obtain ⟨hp, g, d, tk, os⟩ := s
  wp_walk using hb.at
  exact q
theorem dec_tuple_eq {l b : Addr} {Q : Value → Shared → Prop} (hl : s.TypeIs (.ref l) "tuple") (hb : PySem.W.Looks (model prog w) s.heap (isInstance (.ref b) (.type "tuple")) false) (q : Q .notImplemented s) : wpAny (model prog w) A (call (.builtin "tuple.__eq__") [.ref l, .ref b]) Q Ex s := by
  refine GQ.call_here F.slot_tuple_eq hl F.entry_tuple_eq (F.args_tuple_eq_2 _ _) ?_
  obtain ⟨hp, g, d, tk, os⟩ := s
  wp_walk using hb.at
  exact q
end
/-! ### an instance in a list of other things, by its own == -/
section
open PySem.SeqAt MeetsSeq MeetsSeq2 MeetsSeq3 SeqRoads2
variable {prog : Program} {w : World} {A : Around} {R : Result → Shared → Prop}
theorem contains_loopG (l : Addr) (x : Value) (N : Nat) (I : Shared → Prop)
    (hl : ∀ s, I s → ∃ (items : Array Value) (n : Nat), s.heap.get? l = some { cls := .type "list", data := .seq items n } ∧ items.size = N ∧ ∀ i (h : i < items.size), wpAny (model prog w) A.in1 (eqBool items[i] x) (fun r s' => r = false ∧ I s') (fun e s' => R (.error e) s') s)
    (fin : ∀ s, I s → R (.ok (.ret (.bool false))) s) (k : Nat) :
    ∀ i : Nat, N - i = k → i ≤ N → ∀ s, I s → wpAny (model prog w) A.in1 (Builtin.«list.__contains__.loop» ⟨[.ref l, x, rawInt i], []⟩) (GQ.FinOf prog w A R) (fun e s' => R (.error e) s') s := by
  induction k with
  | zero =>
    intro i hk hi s h
    obtain ⟨items, n, hl1, hs1, _⟩ := hl _ h
    have hR : R (.ok (.ret (.bool false))) s := fin s h
    obtain ⟨hp, g, d, tk, os⟩ := s
    wp_walk using AutoSeq1.wpAny_loadPart' hl1
    have hi1 : items[((i : Nat) : Int).toNat]? = none := by simp; omega
    rw [hi1]
    wp_walk
    exact hR
  | succ k ih =>
    intro i hk hi s h
    obtain ⟨items, n, hl1, hs1, turn⟩ := hl _ h
    have hlt : i < items.size := by omega
    have ht := turn i hlt
    obtain ⟨hp, g, d, tk, os⟩ := s
    wp_walk using AutoSeq1.wpAny_loadPart' hl1
    have hi1 : items[((i : Nat) : Int).toNat]? = some items[i] := by simp [hlt]
    have hc : ((i : Int) + 1) = ((i + 1 : Nat) : Int) := by omega
    rw [hi1]
    refine wpAny_bind (wpAny_mono ht (fun r s2 h2 => ?_) fun _ _ x => x)
    obtain ⟨hr, h2⟩ := h2
    subst hr
    have hrec := ih (i + 1) (by omega) (by omega) s2 h2
    obtain ⟨hp2, g2, d2, tk2, os2⟩ := s2
    wp_walk
    rw [hc]
    exact ⟨plainId_quiet plain_contains_loop _, codeAny_builtin entry_contains_loop (by
      rw [Around.under_plainId plain_contains_loop _]
      exact hrec)⟩
theorem list_containsG (l : Addr) (x : Value) (N : Nat) (I : Shared → Prop)
    (hl : ∀ s, I s → ∃ (items : Array Value) (n : Nat), s.heap.get? l = some { cls := .type "list", data := .seq items n } ∧ items.size = N ∧ ∀ i (h : i < items.size), wpAny (model prog w) A.in1 (eqBool items[i] x) (fun r s' => r = false ∧ I s') (fun e s' => R (.error e) s') s)
    (fin : ∀ s, I s → R (.ok (.ret (.bool false))) s) {s : Shared} (h : I s) : wpAny (model prog w) A.in1 (Builtin.«list.__contains__» ⟨[.ref l, x], []⟩) (GQ.FinOf prog w A R) (fun e s' => R (.error e) s') s := by
  have hrec := contains_loopG (A := A) (R := R) l x N I hl fin _ 0 rfl (Nat.zero_le _) s h
  obtain ⟨items, n, hl1, _, _⟩ := hl _ h
  obtain ⟨hp, g, d, tk, os⟩ := s
  wp_walk using AutoSeq1.wpAny_loadPart' hl1
  exact ⟨plainId_quiet plain_contains_loop _, codeAny_builtin entry_contains_loop (by
    rw [Around.under_plainId plain_contains_loop _]
    exact hrec)⟩
end
theorem eqBool_any {prog : Program} {w : World} {A : Around} {Ex : Value → Shared → Prop} {s : Shared} {a : Value} {b : Addr} {Q : Bool → Shared → Prop} (hne : a ≠ .ref b) (h : wpAny (model prog w) A (richCompare .Eq a (.ref b)) (fun v s' => ∃ r, v = .bool r ∧ Q r s') Ex s) : wpAny (model prog w) A (eqBool a (.ref b)) Q Ex s := by
  unfold eqBool
  refine wpAny_holding ?_
  refine wpAny_ite_split (fun hab => absurd (eq_of_beq hab) hne) (fun _ => ?_)
  cases a <;> exact wpAny_bind (wpAny_mono h (fun v s' hv => by
    obtain ⟨r, rfl, q⟩ := hv
    exact wpAny_truthy_bool q) fun _ _ x => x)
/-- another thing than an instance -/
def Oth (K : PySem.W.Frag) (H : Hp) (y : V) : Prop := (∃ i, y = .int i) ∨ (∃ z, y = .str z) ∨ y = .non ∨ (∃ p xs, y = .ref p ∧ H p = some (.tup xs)) ∨ (∃ p xs, y = .ref p ∧ H p = some (.lst xs))
structure OthC (K : PySem.W.Frag) (C f : Addr) : Prop where
  eq : PySem.W.findIn K (.ref C) "__eq__" = some (some (.ref f))
  fn : PySem.W.isFn K (.ref f) = true
  i : PySem.W.subIn K (.ref C) (.type "int") = some false
  s : PySem.W.subIn K (.ref C) (.type "str") = some false
  n : PySem.W.subIn K (.ref C) (.type "NoneType") = some false
  t : PySem.W.subIn K (.ref C) (.type "tuple") = some false
  l : PySem.W.subIn K (.ref C) (.type "list") = some false
def rInO (K : PySem.W.Frag) (C : Addr) (sp : Sp) (E : XK) : R2 := fun x y H Q => ∃ a dx fs l ys, x = .ref a ∧ y = .ref l ∧ H a = some (.ins C dx fs) ∧ H l = some (.lst ys) ∧ (∀ z ∈ ys, Oth K H z ∧ sp [.ref a, z] H (fun v H' => v = .bl false ∧ H' = H) E) ∧ Q (.bl false) H
theorem in_own (O : OthC X.K C f) (Fk : FnOk X.prog X.w X.K X.mg X.base CX k f fd ps sp) (hr : Room (k + 1) X.A) (hb : Binds X.K fd ps []) (hx : Passes CX X E) : OpR X (compareOp .In) (rInO X.K C sp E) := by
  intro pins s σ H x y v u Q I rx ry h
  obtain ⟨a, dx, fs, l, ys, rfl, rfl, ea, el, hz, q⟩ := h
  obtain rfl : v = Value.ref a := rx
  obtain rfl : u = Value.ref l := ry
  obtain ⟨z0, its0, n0, r0, e0⟩ := I.hok l _ el
  show wpAny (model X.prog X.w) X.A (do return .bool (← contains (.ref l) (.ref a))) (EP X pins σ Q) X.xe s
  have hT : s.TypeIs (.ref l) "list" := ⟨_, e0, rfl⟩
  refine wpAny_bind (wpAny_contains_slot hT F.slot_list_contains (wpAny_mono (GQ.call_here (Q := fun v s' => v = .bool false ∧ Inv X pins σ H s') F.slot_list_contains hT F.entry_list_contains (F.args_list_contains_2 _ _)
    (list_containsG l (.ref a) ys.length (fun s' => Inv X pins σ H s') (fun s' I' => ?_) (fun s' I' => ⟨rfl, I'⟩) I)) (fun v s' hv => ?_) fun _ _ e => e))
  · obtain ⟨z1, its, n, r, e⟩ := I'.hok l _ el
    refine ⟨its.toArray, n, e, by rw [List.size_toArray]; exact r.length.symm, fun i hi => ?_⟩
    have k1 : i < ys.length := by rw [r.length]; simpa using hi
    obtain ⟨u, hu, ru⟩ := r.get (List.getElem?_eq_getElem k1)
    have g1 : its[i]? = some its.toArray[i] := by
      have h1' : i < its.length := by simpa using hi
      rw [List.getElem?_eq_getElem h1'] <;> simp
    rw [g1] at hu
    rw [Option.some.inj hu]
    obtain ⟨ho, hsp⟩ := hz _ (List.getElem_mem k1)
    obtain ⟨mA, J, _⟩ := ins_get I'.hok ea
    obtain ⟨od, J, _⟩ := J.look
    have own : wpAny (model X.prog X.w) X.A.in1 (call (.ref f) [.ref a, u]) (fun v s' => ∃ r, v = .bool r ∧ ∃ t, Value.bool r = .bool t ∧ (t = false ∧ Inv X pins σ H s')) X.xe s' := by
      refine wpAny_mono (run_own1 (vs := [V.ref a, ys[i]]) Fk hr hb hx I' (.cons rfl (.cons ru .nil)) hsp) (fun v s2 hv => ?_) fun _ _ e => e
      obtain ⟨x, H2, I2, rv, ex, eH⟩ := hv
      subst ex
      subst eH
      obtain rfl : v = Value.bool false := rv
      exact ⟨false, rfl, false, rfl, rfl, I2⟩
    have hu1 : X.A.in1.units < cLine := hr.in1.units0
    rcases ho with ⟨i', ei⟩ | ⟨z', ez⟩ | en | ⟨p, xs, ep, hp⟩ | ⟨p, xs, ep, hp⟩
    · rw [ei] at ru
      obtain ⟨t, rfl⟩ := ru
      exact eqBool_any (fun z => nomatch z) (eq_right hu1 I'.kIn O.eq O.fn (typeIs_int s' i' t) J O.i F.slot_int_eq (fun Q' q' => call_meets F.slot_int_eq (typeIs_int s' i' t) F.entry_int_eq (F.args_int_eq_2 _ _) (dec_int_eq i' t a C dx) ⟨J.at_, q'⟩) own)
    · rw [ez] at ru
      obtain ⟨t, rfl⟩ := ru
      exact eqBool_any (fun z => nomatch z) (eq_right hu1 I'.kIn O.eq O.fn (typeIs_str s' z' t) J O.s F.slot_str_eq (fun Q' q' => call_meets F.slot_str_eq (typeIs_str s' z' t) F.entry_str_eq (F.args_str_eq_2 _ _) (dec_str_eq z' t a C dx) ⟨J.at_, q'⟩) own)
    · rw [en] at ru
      obtain rfl : u = Value.none := ru
      exact eqBool_any (fun z => nomatch z) (eq_right hu1 I'.kIn O.eq O.fn (typeIs_none s') J O.n F.slot_NoneType_eq (fun Q' q' => call_gives F.slot_NoneType_eq (typeIs_none s') F.entry_NoneType_eq (F.args_NoneType_eq_2 _ _) (dec_none_eq a) q') own)
    · rw [ep] at ru
      obtain rfl : u = Value.ref p := ru
      obtain ⟨its2, r2, pt, _⟩ := I'.tuple (SqT.of hp)
      obtain ⟨ot, et, ct, _⟩ := id pt
      have hTp : s'.TypeIs (.ref p) "tuple" := ⟨ot, et, ct⟩
      have below : PySem.W.Looks (model X.prog X.w) s'.heap (isInstance (.ref a) (.type "tuple")) false := J.type.andThen (PySem.W.looks_subIn I'.kIn O.t)
      refine eqBool_any (fun z => ?_) (eq_right hu1 I'.kIn O.eq O.fn hTp J O.t F.slot_tuple_eq (fun Q' q' => dec_tuple_eq hTp below q') own)
      injection z with z
      rw [z, ea] at hp
      cases hp
    · rw [ep] at ru
      obtain rfl : u = Value.ref p := ru
      obtain ⟨z2, its2, n2, r2, e2⟩ := I'.hok p _ hp
      have hTp : s'.TypeIs (.ref p) "list" := ⟨_, e2, rfl⟩
      have below : PySem.W.Looks (model X.prog X.w) s'.heap (isInstance (.ref a) (.type "list")) false := J.type.andThen (PySem.W.looks_subIn I'.kIn O.l)
      refine eqBool_any (fun z => ?_) (eq_right hu1 I'.kIn O.eq O.fn hTp J O.l F.slot_list_eq (fun Q' q' => dec_list_eq hTp below q') own)
      injection z with z
      rw [z, ea] at hp
      cases hp
  · obtain ⟨rfl, I'⟩ := hv
    exact wpAny_truthy_bool (wpAny_pure ⟨.bl false, H, I', rfl, q⟩)
/-- != of two instances -/
theorem ne_own (N : NoNe X.K C f) (F : FnOk X.prog X.w X.K X.mg X.base CX k f fd ps sp) (hr : Room (k + 1) X.A) (hb : Binds X.K fd ps []) (hx : Passes CX X E) :
    OpR X (compareOp .NotEq) (fun x y H Q => rOO C sp E x y H (fun v H' => ∃ b, v = .bl b ∧ Q (.bl (!b)) H')) := by
  intro pins s σ H x y v u Q I rx ry h
  obtain ⟨a, dx, fs, b, dy, gs, rfl, rfl, ea, eb, q⟩ := h
  obtain rfl : v = Value.ref a := rx
  obtain rfl : u = Value.ref b := ry
  obtain ⟨mA, J, _⟩ := ins_get I.hok ea
  obtain ⟨od, J, _⟩ := J.look
  obtain ⟨mB, J', _⟩ := ins_get I.hok eb
  obtain ⟨od', J', _⟩ := J'.look
  show wpAny (model X.prog X.w) X.A (richCompare .NotEq (.ref a) (.ref b)) (EP X pins σ Q) X.xe s
  refine ne_K (by have := hr.un; omega) I.kIn N J J' (wpAny_mono (run_own1 (vs := [V.ref a, V.ref b]) F hr hb hx I (.cons rfl (.cons rfl .nil)) q) (fun v s2 hv => ?_) fun _ _ e => e)
  obtain ⟨x, H2, I2, rv, t, ex, q2⟩ := hv
  subst ex
  obtain rfl : v = Value.bool t := rv
  exact ⟨t, rfl, .bl (!t), H2, I2, rfl, q2⟩
section
variable {E : L2.St → XK} {o e : Expr} {es : List Expr} {m : Str} {pos apos : Pos} {ta : TE} {t : TA}
/-- o.m(e, ..), what is let out wished for at the caller's slots -/
def tMethE (C : Addr) (m : Str) (sp : Sp) (E : L2.St → XK) (ta : TE) (t : TA) : TE := fun σ H Q => ta σ H fun x H1 => ∃ a dx fs, x = .ref a ∧ H1 a = some (.ins C dx fs) ∧ fs.lookup m = none ∧ t σ H1 fun vs H2 => sp (x :: vs) H2 Q (E σ)
theorem pe_methE {pl : Sem Bool} (he : PE X o ta) (c : Cls X.K C) (hm : Meth X.K C m f) (F : FnOk X.prog X.w X.K X.mg X.base CX k f fd ps sp) (hr : Room k X.A) (hb : Binds X.K fd ps []) (hx : ∀ σ, PassesAt CX X σ (E σ)) (ha : PA X (e :: es) t)
    (hst : starEach (e :: es) X.env = (false, eval e X.env) :: starEach es X.env := by rfl) (hpl : (backTo pos (starEach es X.env)).any (·.1) = false := by rfl)
    (ht : eval (.Call (.Attribute o m apos) (e :: es) [] pos) X.env = (do
      let ov ← eval o X.env
      standAt apos.atName
      let (f, first) ← holding [ov] (getMethod ov m pl)
      callWith pos f first (backTo pos (starEach (e :: es) X.env)) (backToKw pos (keywordEach [] X.env))) := by rfl) :
    PE X (.Call (.Attribute o m apos) (e :: es) [] pos) (tMethE C m sp E ta t) := by
  refine ⟨fun pins s σ H Q I h => ?_⟩
  refine PySem.W.methodCall_KW (pl := pl) (thn (he.run pins s σ H _ I h) fun u s1 ⟨x, H1, I1, rx, a, dx, fs, ex, ea, l, q⟩ => ?_) ht
  subst ex
  obtain rfl : u = Value.ref a := rx
  refine getmeth_ok I1 ea c hm l ?_
  refine PySem.W.callWith_K (first := [.ref a]) (h₀ := X.base) I.ok.mod.kin hm.kp (thn (ha.run pos pins s1 σ H1 _ I1 q) fun us s2 ⟨vs, H2, I2, r, q2⟩ => ⟨I2.kIn, ?_⟩) hst hpl
  exact run_fnS (us := .ref a :: us) (vs := .ref a :: vs) F hr hb (hx σ) I2 (.cons rfl r) q2
end
/-- the receiver by place, the other by its name -/
def kSelf {α : Type} : List α → List α → List α
  | [u], ws => u :: ws
  | _, _ => []
theorem kbinds_self {K : PySem.W.Frag} {fd : FuncData} {p1 p2 k : Str} (h : ∀ (s : Shared) (u w : Value), BindsTo s fd ⟨[u], [(k, w)]⟩ [(p1, u), (p2, w)]) : KBinds K fd [p1, p2] [k] kSelf kSelf where
  to := fun s us ws _ hl => match us, ws, hl with
    | [u], [w], _ => h s u w
    | [], _, hl => nomatch hl
    | [_], [], hl => nomatch hl
    | [_], _ :: _ :: _, hl => by simp [kSelf] at hl
    | _ :: _ :: _, _, hl => nomatch hl
  rel := fun r rz => by
    cases r with
    | nil => exact .nil
    | cons a r =>
      cases r with
      | nil => exact .cons a rz
      | cons => exact .nil
end
end My

/-! My own rule: the own == of two instances within an except suite. -/
namespace My
open PySem PySem.Spec PyProof.Rows L2
/-- a def that may be called while an error is handled: the error stands at p, out of reach -/
structure FnP (P : Program) (w : World) (K : PySem.W.Frag) (mg : Str → Option Value) (base : Heap) (k : Nat) (f : Addr) (fd : FuncData) (ps : List Str) (sp : Sp) : Prop where
  len : ∀ vs H Q E, sp vs H Q E → vs.length = ps.length
  run : ∀ (A : Around) (outer : List Env) (s : Shared) (H : Hp) (args : Args) (us : List Value) (vs : List V) (Q : VK) (E : XK) (p : Addr × Obj), L2H.RoomH k A → L2H.PinOk outer H s p → Env0 P w K mg base A outer s H → BindsTo s fd args (ps.zip us) → Vals vs us → sp vs H Q E →
    codeAny (model P w) A (.call (.ref f) args) (CR CX0 outer P w H s Q E) s
theorem fnP_of {P : Program} {w : World} {K : PySem.W.Frag} {mg : Str → Option Value} {base : Heap} {x qual : Str} {st : Stmt} {f : Addr} {fd : FuncData} {N ps : List Str} {k : Nat} {sp : Sp} (F : Fun K x qual st f fd) (S : FnScope N ps (defScope st)) (len : ∀ vs H Q E, sp vs H Q E → vs.length = ps.length)
    (hbody : ∀ (cdv : Value) (A : Around) (outer : List Env) (s : Shared) (H : Hp) (vs : List V) (Q : VK) (E : XK) (p : Addr × Obj), sp vs H Q E →
      ∃ t, PSs (L2H.cxH CX0 P w K mg base N qual (defScope st) f cdv A outer s H E p) (defBody st) t ∧ t { nx := fun _ H' => Q .non H', rt := Q } (L2.start N vs) H) : FnP P w K mg base (k + 1) f fd ps sp := by
  obtain ⟨oc, od, kV, doc, pm, an, cdv, ct, osl, rfl, lk, hcd⟩ := F.ex
  refine ⟨len, fun A outer s H args us vs Q E p hr hpin e0 hb r hsp => ?_⟩
  have up : ∀ b o, base.get? b = some o → s.heap.get? b = some o := fun b o e => (e0.bs b o e).1
  refine codeAny_call_function hr.depth (e0.mod.kin.keeps up _ _ lk) rfl S.co S.gen rfl (PySem.W.codeRec_of (e0.mod.kin.keeps up) hcd) (hb _ _ _ _ ?_)
  refine wpAny_newFunctionEnv_cells S.kind (fun q hq => (S.par q.1 (List.of_mem_zip hq).1).elim .inl fun c => .inr ⟨c, PySem.W.cellsFrom_some _ _ _ (.inl c)⟩) fun env he s1 y => ?_
  subst he
  refine ⟨(e0.mod.nolimit.keeps up).keeps y.toInCall.keep, codeAny_func ?_⟩
  obtain ⟨t, ht, hq⟩ := hbody cdv A outer s H vs Q E p hsp
  refine wpAny_mono (ht.run [] s1 (L2.start N vs) H _ (L2H.inv_startH S hpin e0 (len _ _ _ _ hsp) r y) hq) (fun fl s' hs => ?_) fun e s' hs => hs
  cases fl with
  | ret u =>
    obtain ⟨v, σ', H', J, rv, q⟩ := hs
    exact ⟨v, H', J.os, J.bare, J.base, J.hok, rv, q⟩
  | next =>
    obtain ⟨σ', H', J, q⟩ := hs
    exact ⟨.non, H', J.os, J.bare, J.base, J.hok, rfl, q⟩
  | brk => exact hs.elim fun _ h => h.elim fun _ h => False.elim h.2
  | cont => exact hs.elim fun _ h => h.elim fun _ h => False.elim h.2
section
variable {X : Cx} {k : Nat} {C f : Addr} {fd : FuncData} {ps : List Str} {sp : Sp} {E : XK} {p : Addr × Obj}
theorem cmp_ownP (hs : PySem.W.findIn X.K (.ref C) "__eq__" = some (some (.ref f))) (hf : PySem.W.isFn X.K (.ref f) = true) (F : FnP X.prog X.w X.K X.mg X.base k f fd ps sp) (hr : L2H.RoomH k X.A) (hp : p ∈ X.pn) (hb : Binds X.K fd ps []) : OpR X (compareOp .Eq) (rOO C sp E) := by
  intro pins s σ H x y v u Q I rx ry h
  obtain ⟨a, dx, fs, b, dy, gs, rfl, rfl, ea, eb, q⟩ := h
  obtain rfl : v = Value.ref a := rx
  obtain rfl : u = Value.ref b := ry
  obtain ⟨mA, J, _⟩ := ins_get I.hok ea
  obtain ⟨od, J, _⟩ := J.look
  obtain ⟨mB, J', _⟩ := ins_get I.hok eb
  obtain ⟨od', J', _⟩ := J'.look
  obtain ⟨m, hF⟩ := I.fr
  have hl : ([Value.ref a, Value.ref b] ++ []).length = ps.length := by rw [← F.len _ _ _ _ q]; rfl
  have b2 := hb s [.ref a, .ref b] I.kIn hl
  have P1 := I.pin p (List.mem_append_left _ hp)
  have hpin : L2H.PinOk X.stack H s p := ⟨P1.1, P1.2.1, fun hm => (List.mem_cons.mp (I.stkSub p.1 hm)).elim P1.2.2.1 P1.2.2.2.1, P1.2.2.2.2⟩
  show wpAny (model X.prog X.w) X.A (richCompare .Eq (.ref a) (.ref b)) (EP X pins σ Q) X.xe s
  refine PySem.W.cmp_K (op := .Eq) (tb := .ref C) (by have := hr.un; omega) hF I.ok.mod.kin J J'.type (by simp [PySem.W.notFirst]) hs hf ?_
  refine wpAny_call (codeAny_mono (F.run X.A X.stack s H ⟨[.ref a, .ref b], []⟩ [.ref a, .ref b] [.ref a, .ref b] Q E p hr hpin I.env0 b2 (.cons rfl (.cons rfl .nil)) q) fun r s' hq => ?_)
  cases r with
  | error e => exact hq.elim
  | ok fl =>
    cases fl with
    | ret w => exact back_of (I.after hq)
    | next => exact False.elim hq
    | brk => exact False.elim hq
    | cont => exact False.elim hq
end
end My

/-! My own rules: a text times a number; a class method's call that raises, at the caller's slots. -/
namespace My
open PySem PySem.Spec PyProof.Rows L2
section
variable {X : Cx}
/-- z * k, only the length is told -/
def rRepS : R2 := fun x y H Q => ∃ (z : Str) (k : Int), x = .str z ∧ y = .int k ∧ 2 ≤ k ∧ k < 2 ^ 30 ∧ 1 ≤ z.length ∧ z.length * k.toNat ≤ sizeLine ∧ ∀ u : Str, u.length = k.toNat * z.length → (∀ c ∈ u.cps.toList, c ∈ z.cps.toList) → Q (.str u) H
theorem rep_size (x : Array Nat) : ∀ (n : Nat) (a : Array Nat), ((List.replicate n x).foldl (· ++ ·) a).size = a.size + n * x.size
  | 0, a => by simp
  | n + 1, a => by
    show ((List.replicate n x).foldl (· ++ ·) (a ++ x)).size = _
    rw [rep_size x n (a ++ x), Array.size_append, Nat.add_mul]
    omega
theorem rep_mem (x : Array Nat) : ∀ (n : Nat) (a : Array Nat) (c : Nat), c ∈ (List.replicate n x).foldl (· ++ ·) a → c ∈ a ∨ c ∈ x
  | 0, a, c, h => .inl h
  | n + 1, a, c, h => by
    rcases rep_mem x n (a ++ x) c h with h | h
    · exact Array.mem_append.mp h
    · exact .inr h
theorem op_repS : OpR X (binaryOp .Mult) rRepS := by
  intro pins s σ H x y v u Q I rx ry h
  obtain ⟨z, k, rfl, rfl, h2, h30, h1, hz, q⟩ := h
  obtain ⟨t, rfl⟩ := rx
  obtain ⟨t', rfl⟩ := ry
  have hl : Builtin.Str.tooLong (z.length * k.toNat) = false := decide_eq_false (by omega)
  have hs : sizeLine = 2 ^ 24 := rfl
  have hb : ¬ ((z.length : Int) > (2 ^ 63 - 1) / k) := by
    have e1 : z.length ≤ z.length * k.toNat := Nat.le_mul_of_pos_right _ (by omega)
    have e2 : (2 ^ 24 : Int) ≤ (2 ^ 63 - 1) / k := by
      rw [Int.le_ediv_iff_mul_le (by omega)]
      omega
    omega
  refine P.mul_str (by rw [decide_eq_false (by omega), decide_eq_false (by omega)]; rfl) (fun _ _ => hb) (fun _ _ => hl) ?_
  rw [if_neg (by omega), if_neg (by
    have a1 : (k == 1) = false := by simp; omega
    have a2 : (z.length == 0) = false := by simp; omega
    rw [a1, a2]
    exact Bool.false_ne_true)]
  have e : (⟨(List.replicate k.toNat z.cps).foldl (· ++ ·) #[]⟩ : Str).length = k.toNat * z.length := by
    show ((List.replicate k.toNat z.cps).foldl (· ++ ·) #[]).size = _
    rw [rep_size]
    show 0 + _ = _
    rw [Nat.zero_add]
    rfl
  refine ⟨?_, .str _, H, I.tok _, ⟨_, rfl⟩, q _ e fun c hc => ?_⟩
  rotate_left
  · rcases rep_mem z.cps k.toNat #[] c (Array.mem_toList_iff.mp hc) with h | h
    · exact absurd h (by simp)
    · exact Array.mem_toList_iff.mpr h
  show (⟨(List.replicate k.toNat z.cps).foldl (· ++ ·) #[]⟩ : Str).length ≤ sizeLine
  rw [e, Nat.mul_comm]
  exact hz
end
section
variable {X : Cx} {CX : CXT} {k : Nat} {C p g : Addr} {mc : Value} {fd : FuncData} {ps : List Str} {sp : Sp} {E : L2.St → XK} {o e : Expr} {es : List Expr} {m : Str} {pos apos : Pos} {ta : TE} {t : TA} {pl : Sem Bool}
def tCMethE (C : Addr) (sp : Sp) (E : L2.St → XK) (ta : TE) (t : TA) : TE := fun σ H Q => ta σ H fun x H1 => x = .ref C ∧ t σ H1 fun vs H2 => sp (.ref C :: vs) H2 Q (E σ)
theorem pe_cmethE (he : PE X o ta) (r : ClX.CRead X.K C mc) (c : ClX.CMet X.K C mc m p g) (F : FnOk X.prog X.w X.K X.mg X.base CX k g fd ps sp) (hr : Room k X.A) (hb : Binds X.K fd ps []) (hx : ∀ σ, PassesAt CX X σ (E σ)) (ha : PA X (e :: es) t)
    (hst : starEach (e :: es) X.env = (false, eval e X.env) :: starEach es X.env := by rfl) (hpl : (backTo pos (starEach es X.env)).any (·.1) = false := by rfl)
    (ht : eval (.Call (.Attribute o m apos) (e :: es) [] pos) X.env = (do
      let ov ← eval o X.env
      standAt apos.atName
      let (f, first) ← holding [ov] (getMethod ov m pl)
      callWith pos f first (backTo pos (starEach (e :: es) X.env)) (backToKw pos (keywordEach [] X.env))) := by rfl) :
    PE X (.Call (.Attribute o m apos) (e :: es) [] pos) (tCMethE C sp E ta t) := by
  refine ⟨fun pins s σ H Q I h => ?_⟩
  refine PySem.W.methodCall_KW (pl := pl) (thn (he.run pins s σ H _ I h) fun u s1 ⟨x, H1, I1, rx, ex, q⟩ => ?_) ht
  subst ex
  obtain rfl : u = Value.ref C := rx
  refine ClX.getmethcm_ok I1 r c fun s2 I2 => ?_
  refine ClX.callwith_cm I2 (ClX.base_none I1 (Nat.le_refl _)) c.fi (thn (ha.run pos _ s2 σ H1 _ I2 q) fun us s3 ⟨vs, H2, I3, rv, q2⟩ => ⟨⟨ClX.pin_at I3, I3.kIn⟩, ?_⟩) hst hpl
  suffices z : wpAny (model X.prog X.w) X.A (call (.ref s1.heap.objs.size) us) (EP X ((s1.heap.objs.size, PySem.W.methodObj (.ref g) (.ref C)) :: pins) σ Q) X.xe s3 from thn z fun _ _ y => ClX.unpinE y
  refine wpAny_call (PySem.W.method_call (ClX.pin_at I3) ?_)
  have r2 : Vals (V.ref C :: vs) (Value.ref C :: us) := .cons rfl rv
  have hl : (Value.ref C :: us).length = ps.length := by rw [← r2.length]; exact F.len _ _ _ _ q2
  have b := hb s3 (Value.ref C :: us) I3.kIn (by rw [List.append_nil]; exact hl)
  rw [List.append_nil] at b
  refine codeAny_mono (F.run X.A X.stack s3 H2 ⟨Value.ref C :: us, []⟩ (Value.ref C :: us) (V.ref C :: vs) Q (E σ) hr I3.env0 b r2 q2) fun r s' hq => ?_
  cases r with
  | error er => exact hx σ _ H2 s3 er s' I3 hq
  | ok fl =>
    cases fl with
    | ret u => exact I3.after hq
    | next => exact False.elim hq
    | brk => exact False.elim hq
    | cont => exact False.elim hq
end
theorem kit_vty {K : PySem.W.Frag} {C : Addr} {T : String} {b : Bool} (h : PySem.W.mroIn K C (.type T) = some b) (hm : PySem.W.kitMeta T = true) : PySem.W.kitOne K (.ref C) (.type T) = some b := by
  unfold PySem.W.kitOne
  rw [if_neg (by simp)]
  show (if PySem.W.kitMeta T = true then PySem.W.subIn K (.ref C) (.type T) else none) = some b
  rw [if_pos hm]
  exact h
end My

set_option maxHeartbeats 4000000
/-! My own rules: errors held as values: made, asked for their class, their attributes read. -/
namespace PySem
namespace HandSPX2
open PySem.W PySem.Calls PyProof.Rows PySem.HandSPX
section
variable {M : Model} {A : Around} {E : Value → Shared → Prop} {h : Heap} {g : Array GenState} {d : Drawn} {t : Nat} {os : OsState}
variable {nm q : Str} {C N : Addr} {bs bm bmB : List Value} {hdct : Bool} {sn : List Str} {sub : List Value} {ab : Bool} {col : Option Bool} {dd : Option Addr} {k0 k1 k2 k3 k5 : Option Value} {B newId initId : String}
theorem check_new_ownK (F : ExcBaseFacts B newId initId bmB) (hT : ∀ X : String, bm.contains (.type X) = bmB.contains (.type X)) {rest : List Value} {kws : List (Str × Value)} {Q : Unit → Shared → Prop}
    (hC : h.get? C = some (excClassObj nm q C N bs bm hdct sn sub ab col dd k0 k1 k2 k3 k5 newId)) (hq : Q () ⟨h, g, d, t, os⟩) : wpAny M A (checkBuiltinCall newId ⟨.ref C :: rest, kws⟩) Q E ⟨h, g, d, t, os⟩ := by
  have hcont : (Value.ref C :: bm).contains (.type B) = true := by rw [List.contains_cons, hT, F.hasB, Bool.or_true]
  have hstar := F.noStar
  simp only [checkBuiltinCall, F.newKind, F.newSplit, F.newRow]
  repeat (first | refine wpAny_loadPart_at hC ?_ | (refine wpAny_isSubtype_exc hC ?_; rw [hcont]) | refine wpAny_staticBase_exc hC ?_ | refine wpAny_madeBy_exc hC ?_ | simp only [bne_self_eq_false, Bool.false_eq_true, if_false] | wp_step)
  exact hq
end
section
variable {prog : Program} {w : World} {A : Around} {E : Value → Shared → Prop} {R : Result → Shared → Prop} {h : Heap} {g : Array GenState} {d : Drawn} {t : Nat} {os : OsState}
variable {nm q : Str} {C N : Addr} {bs bm bmB : List Value} {hdct : Bool} {sn : List Str} {sub : List Value} {ab : Bool} {col : Option Bool} {dd : Option Addr} {k0 k1 k2 k3 k5 : Option Value} {B newId initId : String}
theorem new_ownK (F : ExcBaseFacts B newId initId bmB) (hT : ∀ X : String, bm.contains (.type X) = bmB.contains (.type X)) {rest : List Value} {kws : List (Str × Value)}
    (hC : h.get? C = some (excClassObj nm q C N bs bm hdct sn sub ab col dd k0 k1 k2 k3 k5 newId))
    (hq : R (.ok (.ret (.ref (h.objs.size + 1)))) ⟨(h.push { cls := .type "tuple", data := .seq rest.toArray }).push
      { cls := .ref C, data := .fields #[.ref h.objs.size, .none, .none, .none, .bool false, .none] }, g, d, t, os⟩) (hrest : rest.length ≤ sizeLine) :
    codeAny (model prog w) A (.builtin newId ⟨.ref C :: rest, kws⟩) R ⟨h, g, d, t, os⟩ := by
  have hends := F.ends
  have hcB : (Value.ref C :: bm).contains (.type B) = true := by rw [List.contains_cons, hT, F.hasB, Bool.or_true]
  have hcA : (Value.ref C :: bm).contains (.type "AttributeError") = false := by rw [List.contains_cons, hT, F.noAttr]; rfl
  have hcN : (Value.ref C :: bm).contains (.type "NameError") = false := by rw [List.contains_cons, hT, F.noName]; rfl
  refine codeAny_builtinAt F.entry ?_
  unfold Builtin.«BaseException.__new__»
  refine wpAt_bind ?_
  show wpAt _ _ _ (stack >>= _) _ _ _
  refine wpAt_bind (wpAt_stack fun p below => wpAt_of_wpAny ?_)
  wp_walk
  refine wpAt_of_wpAny ?_
  rw [F.owner]
  repeat (first | with_reducible refine wpAny_madeHere_exc F.canon hC ?_ | with_reducible refine wpAny_loadPart_at hC ?_ | (with_reducible refine wpAny_isSubtype_exc hC ?_; first | rw [hcB] | rw [hcA] | rw [hcN]) | wp_step)
  show R _ _
  rw [Heap.size_push]
  exact hq
theorem type_call_ownK (F : ExcBaseFacts B newId initId bmB) (hT : ∀ X : String, bm.contains (.type X) = bmB.contains (.type X)) {rest : List Value} {kws : List (Str × Value)} {fI : Addr} {Q : Fin → Shared → Prop}
    (hC : h.get? C = some (excClassObj nm q C N bs bm hdct sn sub ab col dd k0 k1 k2 k3 k5 newId))
    (hi : W.Looks (model prog w) h (typeLookup (.ref C) "__init__") (some (.ref fI))) (hb : ∀ self, W.Looks (model prog w) h (bindSpecial (.ref fI) self) (.ref fI, [self])) (hrest : rest.length ≤ sizeLine)
    (hq : codeAny (model prog w) A (.call (.ref fI) ⟨.ref (h.objs.size + 1) :: rest, kws⟩)
      (fun r s' => match r with | .ok (.ret v) => v = .none ∧ Q (.done (.ret (.ref (h.objs.size + 1)))) s' | .ok _ => False | .error e => E e s')
      ⟨(h.push (W.kdv_tup rest)).push (excO C h.objs.size), g, d, t, os⟩) :
    wpAny (model prog w) A (Builtin.«type.__call__» ⟨.ref C :: rest, kws⟩) Q E ⟨h, g, d, t, os⟩ := by
  repeat (first | with_reducible refine wpAny_loadPart_at hC ?_ | with_reducible refine wpAny_madeBy_exc hC ?_ | wp_step)
  refine codeAny_call_builtin_code (Code.quiet_builtin _ F.quiet) (check_new_ownK F hT hC ?_)
  refine new_ownK F hT hC ?_ hrest
  show wpAny _ _ _ _ _ _
  have k : ∀ b o, h.get? b = some o → ((h.push (W.kdv_tup rest)).push (excO C h.objs.size)).get? b = some o := fun b o e => Heap.get?_push_of_some _ (Heap.get?_push_of_some _ e)
  have hC₁ := k _ _ hC
  have hget : ((h.push (W.kdv_tup rest)).push (excO C h.objs.size)).get? (h.objs.size + 1) = some (excO C h.objs.size) := by heap_get
  have hcC : (Value.ref C :: bm).contains (.ref C) = true := by simp
  have i1 := hi.keeps k
  have b1 := (hb (.ref (h.objs.size + 1))).keeps k
  unfold isInstance
  repeat (first | with_reducible refine wpAny_loadPart_at hget ?_ | (with_reducible refine wpAny_isSubtype_exc hC₁ ?_; rw [hcC]) | wp_step)
  show wpAny _ _ (typeLookup (.ref C) _) _ _ _
  refine i1.at ?_
  refine wpAny_holding (wpAny_bind (b1.at ?_))
  refine wpAny_bind (wpAny_call (codeAny_mono hq fun r s' z => ?_))
  rcases r with e | (v | _ | _ | _) <;> first | exact z | exact z.elim | skip
  obtain ⟨rfl, z⟩ := z
  first
    | exact wpAny_pure (wpAny_pure z)
    | (wp_walk; exact z)
theorem call_ownK (F : ExcBaseFacts B newId initId bmB) (hT : ∀ X : String, bm.contains (.type X) = bmB.contains (.type X)) {rest : List Value} {kws : List (Str × Value)} {fI : Addr}
    (hC : h.get? C = some (excClassObj nm q C N bs bm hdct sn sub ab col dd k0 k1 k2 k3 k5 newId))
    (hi : W.Looks (model prog w) h (typeLookup (.ref C) "__init__") (some (.ref fI))) (hb : ∀ self, W.Looks (model prog w) h (bindSpecial (.ref fI) self) (.ref fI, [self])) (hrest : rest.length ≤ sizeLine)
    (hq : codeAny (model prog w) (A.under (.builtin "type.__call__" ⟨.ref C :: rest, kws⟩)) (.call (.ref fI) ⟨.ref (h.objs.size + 1) :: rest, kws⟩) (W.InitBack (h.objs.size + 1) R)
      ⟨(h.push (W.kdv_tup rest)).push (excO C h.objs.size), g, d, t, os⟩) :
    codeAny (model prog w) A (.call (.ref C) ⟨rest, kws⟩) R ⟨h, g, d, t, os⟩ := by
  have f1 := tc_lookup
  have f2 := tc_bind (.ref C)
  have hTy : (⟨h, g, d, t, os⟩ : Shared).TypeIs (.ref C) "type" := ⟨_, hC, rfl⟩
  refine codeAny_of_tree ?_
  show wpAny _ _ (callAny (.ref C) _) _ _ _
  repeat (any_goals (first | assumption | with_reducible refine wpAny_loadPart_at hC ?_ | wp_step))
  refine ⟨rfl, ?_⟩
  refine codeAny_call_builtin_at (Code.quiet_builtin _ (by decide +kernel)) entry_typeCall (wpAny_check_type_call_sub hC (type_call_ownK F hT hC hi hb hrest ?_))
  refine codeAny_mono hq fun r s' z => ?_
  rcases r with e | (v | _ | _ | _) <;> exact z
end
end HandSPX2
end PySem
namespace My
open PySem PySem.Spec PyProof.Rows L2
/-- an error as a value: with its dict, or without one -/
def ErrV (H : Hp) (a D : Addr) : Prop := (∃ dx fs, H a = some (exo a D (some dx)) ∧ H dx = some (exd dx fs)) ∨ H a = some (ExO (.ref D) a)
theorem ErrV.on {H H' : Hp} {a D : Addr} (e : ErrV H a D) (s : Same H H') : ErrV H' a D := by
  rcases e with ⟨dx, fs, h1, h2⟩ | h
  · exact .inl ⟨dx, fs, s _ _ h1, s _ _ h2⟩
  · exact .inr (s _ _ h)
/-- an attribute of it -/
def ErrF (H : Hp) (a D : Addr) (n : Str) (v : V) : Prop := ∃ dx fs, H a = some (exo a D (some dx)) ∧ H dx = some (exd dx fs) ∧ fs.lookup n = some v
theorem ErrF.on {H H' : Hp} {a D : Addr} {n : Str} {v : V} (e : ErrF H a D n v) (s : Same H H') : ErrF H' a D n v := let ⟨dx, fs, h1, h2, h3⟩ := e; ⟨dx, fs, s _ _ h1, s _ _ h2, h3⟩
theorem ErrF.err {H : Hp} {a D : Addr} {n : Str} {v : V} (e : ErrF H a D n v) : ErrV H a D := let ⟨dx, fs, h1, h2, _⟩ := e; .inl ⟨dx, fs, h1, h2⟩
def rIsV (K : PySem.W.Frag) : List V → Hp → VK → Prop := fun xs H Q => ∃ (a D : Addr) (c : V) (cv : Value) (b : Bool), xs = [.ref a, c] ∧ ExcC K D ∧ ErrV H a D ∧ ClsV c cv ∧ PySem.W.kitOne K (.ref D) cv = some b ∧ Q (.bl b) H
theorem call_isV {X : Cx} : CallR X (.builtin "isinstance") (rIsV X.K) := by
  intro pins s σ H xs us Q I r h
  obtain ⟨a, D, c, cv, b, rfl, C, he, hcv, e, q⟩ := h
  obtain ⟨u, w', rfl, ru, rw'⟩ := vals2 r
  obtain rfl : u = Value.ref a := ru
  obtain rfl := hcv.eq rw'
  rcases he with ⟨dx, fs, h1, h2⟩ | h1
  · obtain ⟨t1, hget⟩ := exo_at I.hok h1
    obtain ⟨mA, hns, hrel⟩ := exd_at I.hok h2
    obtain ⟨od, ho, hl⟩ := lookIn_ns hns
    have J : PySem.W.InstAt s.heap a { cls := .ref D, dict := some dx, data := .fields #[.ref t1, .none, .none, .none, .bool false, .none] } D (some od) := ⟨hget, rfl, rfl, ho⟩
    exact PySem.W.kia_one (kit_err C) I.kIn J e (fun z => nomatch z) fun tk => ⟨.bl b, H, I.kept (t' := tk) fun _ _ z => z, rfl, q⟩
  · obtain ⟨⟨oe, vs, hget, hz, hv, _⟩, _, _⟩ := I.hok a _ h1
    have J : PySem.W.InstAt s.heap a oe D none := by
      obtain ⟨oc, od, oda, osl⟩ := oe
      obtain ⟨h1, h2⟩ := hz
      dsimp only at h1 h2 hv
      subst h1 h2 hv
      exact ⟨hget, rfl, rfl, trivial⟩
    exact PySem.W.kia_one (PySem.W.handS_kitx_exc C.hg C.hk C.hs C.hd C.ha C.hn C.ht C.hm) I.kIn J e (fun z => nomatch z) fun tk => ⟨.bl b, H, I.kept (t' := tk) fun _ _ z => z, rfl, q⟩
/-- o.f of an error held as a value -/
def tXv (D : Addr) (n : Str) (te : TE) : TE := fun σ H Q => te σ H fun x H1 => ∃ (a : Addr) (v : V), x = .ref a ∧ ErrF H1 a D n v ∧ Q v H1
theorem pe_xv {X : Cx} {D : Addr} {e : Expr} {te : TE} {pos : Pos} {n : Str} (T : XfC X.K D) (hno : PySem.W.findIn X.K (.ref D) n = some none) (he : PE X e te) (hb : attributeBase e n X.env (eval e X.env) = eval e X.env := by rfl) :
    PE X (.Attribute e n pos) (tXv D n te) := by
  refine ⟨fun pins s σ H Q I h => ?_⟩
  refine attr_of hb (thn (he.run pins s σ H _ I h) fun u s1 hh => ?_)
  obtain ⟨x, H1, I1, rx, a, v, ex, ⟨dd, fs, ea, ed, l⟩, q⟩ := hh
  subst ex
  obtain rfl : u = Value.ref a := rx
  obtain ⟨t1, hget⟩ := exo_at I1.hok ea
  obtain ⟨mA, hns, hr⟩ := exd_at I1.hok ed
  obtain ⟨od, ho, hl⟩ := lookIn_ns hns
  obtain ⟨u, hu, ru⟩ := RelO.some_of (v := v) (o := mA n) (by rw [← l]; exact hr n)
  have J : PySem.W.InstAt s1.heap a { cls := .ref D, dict := some dd, data := .fields #[.ref t1, .none, .none, .none, .bool false, .none] } D (some od) := ⟨hget, rfl, rfl, ho⟩
  exact HandSPX.exc_get I1.kIn J T.ga T.gg T.exC (PySem.W.findObj_own T.hdC hno rfl (by rw [hl, hu])) (handed_of ru) ⟨v, H1, I1.tok _, ru, q⟩
/-- C(e, ..), an own error class with an own __init__, as a value -/
structure mkO (C : Addr) (sp : Sp) (vs : List V) (H : Hp) (Q : VK) : Prop where
  len : vs.length ≤ 1000
  k : ∀ a, H a = none → sp (.ref a :: vs) (upd H a (exo a C none)) (fun v H2 => v = .non ∧ Q (.ref a) H2) E0
def tMkV (C : Addr) (sp : Sp) (ta : TA) : TE := fun σ H Q => ta σ H fun vs H1 => mkO C sp vs H1 Q
section
variable {X : Cx} {CX : CXT} {x : Str} {C fI : Addr} {k : Nat} {fd : FuncData} {ps ks : List Str} {sp : Sp} {p pos : Pos} {e : Expr} {es : List Expr} {ta tk : TA} {kws : List Keyword}
theorem run_oexK {pins : List (Addr × Obj)} {σ : L2.St} {H1 : Hp} {s1 : Shared} {Q : VK} {us : List Value} {kws0 : List (Str × Value)} {us2 : List Value} {vs : List V} (T : OexC X.K C) (iC : PySem.W.findIn X.K (.ref C) "__init__" = some (some (.ref fI))) (tI : PySem.W.typeIn X.K (.ref fI) = some (.type "function"))
    (F1 : FnOk X.prog X.w X.K X.mg X.base CX k fI fd ps sp) (hr : Room (k + 1) X.A) (hb : ∀ (s : Shared) (u : Value), X.K.In s.heap → BindsTo s fd ⟨u :: us, kws0⟩ (ps.zip (u :: us2))) (hx : Passes CX X E0) (I1 : Inv X pins σ H1 s1) (r1 : Vals vs us2) (hz : us.length ≤ 1000)
    (q1 : ∀ a, H1 a = none → sp (.ref a :: vs) (upd H1 a (exo a C none)) (fun v H2 => v = .non ∧ Q (.ref a) H2) E0) : wpAny (model X.prog X.w) X.A (call (.ref C) us kws0) (EP X pins σ Q) X.xe s1 := by
  obtain ⟨nm, q, N, bs, bm, sn, sub, ab, col, dd, k0, k1, k2, k3, k5, hC, hbm⟩ := T.cls
  obtain ⟨hp, g, dr, tk, os⟩ := s1
  have hsz : hp.objs.size ≤ hp.objs.size + 1 := Nat.le_succ _
  have hn : H1 (hp.objs.size + 1) = none := I1.hok.fresh hsz
  have hq := q1 (hp.objs.size + 1) hn
  have kk : ∀ b o, hp.get? b = some o → ((hp.push (PySem.W.kdv_tup us)).push (PySem.HandSPX.excO C hp.objs.size)).get? b = some o := fun b o e => Heap.get?_push_of_some _ (Heap.get?_push_of_some _ e)
  have hget : ((hp.push (PySem.W.kdv_tup us)).push (PySem.HandSPX.excO C hp.objs.size)).get? (hp.objs.size + 1) = some (PySem.HandSPX.excO C hp.objs.size) := by heap_get
  have I2 : Inv X pins σ (upd H1 (hp.objs.size + 1) (exo (hp.objs.size + 1) C none)) ⟨(hp.push (PySem.W.kdv_tup us)).push (PySem.HandSPX.excO C hp.objs.size), g, dr, tk, os⟩ :=
    I1.laid (t' := tk) (a := hp.objs.size + 1) (o := exo (hp.objs.size + 1) C none) (h' := (hp.push (PySem.W.kdv_tup us)).push (PySem.HandSPX.excO C hp.objs.size)) kk hsz (exo_ok hget)
  have r2 : Vals (V.ref (hp.objs.size + 1) :: vs) (Value.ref (hp.objs.size + 1) :: us2) := .cons rfl r1
  have b := hb ⟨(hp.push (PySem.W.kdv_tup us)).push (PySem.HandSPX.excO C hp.objs.size), g, dr, tk, os⟩ (Value.ref (hp.objs.size + 1)) I2.kIn
  have hus : us.length ≤ sizeLine := by
    rw [sizeLine_eq]
    omega
  refine wpAny_call (PySem.HandSPX2.call_ownK F.excBase_ValueError (fun Y => PySem.HandSPX.refsVE_contains Y bm hbm) (I1.kIn _ _ hC) (PySem.W.looks_findIn I1.kIn iC) (fun self => PySem.W.bind_fn I1.kIn self tI) hus
    (codeAny_mono (F1.run _ X.stack _ _ ⟨Value.ref (hp.objs.size + 1) :: us, kws0⟩ (Value.ref (hp.objs.size + 1) :: us2) _ _ E0 (hr.make C us kws0) (I2.env0.make C us kws0) b r2 hq) fun r s' hq' => ?_))
  cases r with
  | error er => exact hx pins σ _ _ er s' I2 hq'
  | ok fl =>
    cases fl with
    | ret u =>
      obtain ⟨v, H2, os2, bare2, un2, hok2, rv, ev, q2⟩ := hq'
      subst ev
      obtain ⟨h2, g2, d2, t2, os'⟩ := s'
      obtain rfl : os' = os := os2
      refine ⟨rv, ?_⟩
      exact ⟨.ref (hp.objs.size + 1), H2, I1.call (h' := h2) (g' := g2) (d' := d2) (t' := t2) (ch := []) (.trans (Un.laidN (fs := frs X.stack) (ex := []) (o := exo (hp.objs.size + 1) C none) kk (Heap.get?_none_of_le hsz) hn) un2) hok2 bare2 (fun b z => absurd z (by simp)), rfl, q2⟩
    | next => exact False.elim hq'
    | brk => exact False.elim hq'
    | cont => exact False.elim hq'
theorem pe_oex (T : OexC X.K C) (iC : PySem.W.findIn X.K (.ref C) "__init__" = some (some (.ref fI))) (tI : PySem.W.typeIn X.K (.ref fI) = some (.type "function"))
    (F1 : FnOk X.prog X.w X.K X.mg X.base CX k fI fd ps sp) (hr : Room (k + 1) X.A) (hb : Binds X.K fd ps []) (hx : Passes CX X E0) (hg : Gl X x) (hm : X.mg x = some (.ref C)) (ha : PA X (e :: es) ta)
    (hdb : (x == ("__debug__" : Str)) = false := by decide) (he : starEach (e :: es) X.env = (false, eval e X.env) :: starEach es X.env := by rfl) (hpl : (backTo pos (starEach es X.env)).any (·.1) = false := by rfl) :
    PE X (.Call (.Name x p) (e :: es) [] pos) (tMkV C sp ta) := by
  refine ⟨fun pins s σ H Q I h => ?_⟩
  refine wpAny_Call_Name_kw (ld_glob I hg hm ?_ hdb)
  refine PySem.W.callWith_K (h₀ := X.base) I.ok.mod.kin T.kC (thn (ha.run pos pins s σ H _ I h) fun us s1 ⟨vs, H1, I1, r1, hz, q1⟩ => ⟨I1.kIn, ?_⟩) he hpl
  refine run_oexK (us := us) (us2 := us) (kws0 := []) T iC tI F1 hr (fun s' u hK => ?_) hx I1 r1 (by rw [← Paired.length r1]; exact hz) q1
  have hl : (u :: us).length = ps.length := by
    have e := F1.len _ _ _ _ (q1 s1.heap.objs.size (I1.hok.fresh (Nat.le_refl _)))
    rw [← e, List.length_cons, List.length_cons, Paired.length r1]
  have b := hb s' (u :: us) hK (by rw [List.append_nil]; exact hl)
  rw [List.append_nil] at b
  exact b
/-- C(k = e, ..) -/
structure mkOK (C : Addr) (sp : Sp) (is : List Nat) (n : Nat) (zs : List V) (H : Hp) (Q : VK) : Prop where
  len : zs.length = n
  k : ∀ a, H a = none → sp (.ref a :: permL is zs) (upd H a (exo a C none)) (fun v H2 => v = .non ∧ Q (.ref a) H2) E0
def tMkVK (C : Addr) (sp : Sp) (is : List Nat) (n : Nat) (tk : TA) : TE := fun σ H Q => tk σ H fun zs H1 => mkOK C sp is n zs H1 Q
theorem pe_oexK {is : List Nat} (T : OexC X.K C) (iC : PySem.W.findIn X.K (.ref C) "__init__" = some (some (.ref fI))) (tI : PySem.W.typeIn X.K (.ref fI) = some (.type "function"))
    (F1 : FnOk X.prog X.w X.K X.mg X.base CX k fI fd ps sp) (hr : Room (k + 1) X.A) (hb : ∀ (s : Shared) (u : Value) (ws : List Value), ws.length = ks.length → BindsTo s fd ⟨[u], ks.zip ws⟩ (ps.zip (u :: permL is ws))) (hx : Passes CX X E0) (hg : Gl X x) (hm : X.mg x = some (.ref C))
    (hkw : PK X kws tk) (hall : (backToKw pos (keywordEach kws X.env)).all (·.1.isSome) = true := by rfl) (hks : (backToKw pos (keywordEach kws X.env)).filterMap (·.1) = ks := by rfl)
    (hdb : (x == ("__debug__" : Str)) = false := by decide)
    (hpl : ((backTo pos (starEach [] X.env)).any (·.1) || (backToKw pos (keywordEach kws X.env)).any (·.1.isNone)) = false := by rfl) :
    PE X (.Call (.Name x p) [] kws pos) (tMkVK C sp is ks.length tk) := by
  refine ⟨fun pins s σ H Q I h => ?_⟩
  refine wpAny_Call_Name_kw (ld_glob I hg hm ?_ hdb)
  refine PySem.W.callWith_KW0 (h₀ := X.base) I.ok.mod.kin T.kC hall (thn (hkw.run pos pins s σ H _ I h) fun ws s2 ⟨zs, H2, I2, rz, hz, q2⟩ => ⟨I2.kIn, ?_⟩) hpl
  rw [hks]
  exact run_oexK (us := []) (us2 := permL is ws) T iC tI F1 hr (fun s' u hK => hb s' u ws (by rw [← Paired.length rz]; exact hz)) hx I2 (permL_rel is rz) (Nat.zero_le _) q2
/-- C(), an own error class without an own __init__ -/
theorem pe_exc0 {bmB : List Value} {B newId initId : String} (F : ExcBaseFacts B newId initId bmB) (q : PySem.W.excIn X.K C bmB newId = true) (gC : X.mg x = some (.ref C)) (kC : PySem.W.keepIn X.K (.ref C) = true) (hg : Gl X x) (hdb : (x == ("__debug__" : Str)) = false := by decide) :
    PE X (.Call (.Name x p) [] [] pos) (fun σ H Q => ∀ a, H a = none → Q (.ref a) (upd H a (ExO (.ref C) a))) := by
  refine ⟨fun pins s σ H Q I h => ?_⟩
  refine wpAny_Call_Name_kw (ld_glob I hg gC ?_ hdb)
  refine PySem.W.callWith_KW0 (h₀ := X.base) I.ok.mod.kin kC (by rfl) (thn (pk_nil.run pos pins s σ H (fun vs H1 => vs = [] ∧ H1 = H) I ⟨rfl, rfl⟩) fun ws s2 ⟨zs, H2, I2, rz, ez, eH⟩ => ⟨I2.kIn, ?_⟩) (by rfl)
  subst eH
  show wpAny _ _ (call (.ref C) []) _ _ _
  obtain ⟨bm, N, nm, qn, bs, hdct, sn, sub, ab, col, dd, k0, k1, k2, k3, k5, mN, hC, hN, hni, T⟩ := exc_obj I2.kIn q
  refine wpAny_call_exc_subT F T hC hN hni (fun h' a hm => ?_) (Nat.zero_le _)
  have hn : H2 a = none := I2.hok.gone hm.new
  obtain ⟨t, ht, _, _⟩ := hm.there
  exact ⟨.ref a, upd H2 a (ExO (.ref C) a), I2.laidN hm.keeps hm.new hn (exO_ok ht ⟨rfl, rfl⟩ rfl rfl rfl (show 4 < 6 by decide)), rfl, h a hn⟩
end
/-! ### != of two lists of the same things -/
section
variable {X : Cx}
def plainW : V → Bool
  | .int _ => true
  | .ref _ => true
  | .str _ => true
  | .non => true
  | _ => false
def rNeSameW (K : PySem.W.Frag) : R2 := fun x y H Q => ∃ a b xs, x = .ref a ∧ y = .ref b ∧ SqL K H a xs ∧ SqL K H b xs ∧ (∀ z ∈ xs, plainW z = true) ∧ Q (.bl false) H
theorem eqAt_sameW {A : Around} {s : Shared} {z : V} {u v : Value} (h : plainW z = true) (r : RelV z u) (r' : RelV z v) : SeqAt.EqAt A s u v true := by
  cases z with
  | int i =>
    have := eqAt_V (A := A) (s := s) r r' rfl rfl
    have e : eqV (.int i) (.int i) = true := by simp [eqV]
    rw [e] at this
    exact this
  | str i =>
    have := eqAt_V (A := A) (s := s) r r' rfl rfl
    have e : eqV (.str i) (.str i) = true := by simp [eqV]
    rw [e] at this
    exact this
  | non =>
    have := eqAt_V (A := A) (s := s) r r' rfl rfl
    have e : eqV .non .non = true := by simp [eqV]
    rw [e] at this
    exact this
  | ref a =>
    obtain rfl : u = Value.ref a := r
    obtain rfl : v = Value.ref a := r'
    exact SeqAt.EqAt.same _
  | _ => cases h
theorem op_neSameW (hu : X.A.units < cLine) : OpR X (compareOp .NotEq) (rNeSameW X.K) := by
  intro pins s σ H x y v u Q I rx ry h
  obtain ⟨a, b, xs, rfl, rfl, ha, hb, hp, q⟩ := h
  obtain rfl : v = Value.ref a := rx
  obtain rfl : u = Value.ref b := ry
  obtain ⟨its, r, ⟨o, n, e, c, d, dt⟩, _⟩ := I.list ha
  obtain ⟨its2, r2, ⟨o2, n2, e2, c2, d2, dt2⟩, _⟩ := I.list hb
  have hsz : its.toArray.size = its2.toArray.size := by rw [List.size_toArray, List.size_toArray, ← r.length, ← r2.length]
  show wpAny (model X.prog X.w) X.A (richCompare .NotEq (.ref a) (.ref b)) (EP X pins σ Q) X.xe s
  refine SeqAt.RcNeAt.lists (e := fun _ => true) ⟨o, e, c, n, dt⟩ ⟨o2, e2, c2, n2, dt2⟩ hsz hu (fun j h1 h2 => ?_) _ _ _ _ ?_
  · have k1 : j < xs.length := by rw [r.length]; simpa using h1
    obtain ⟨w1, hw1, rw1⟩ := r.get (List.getElem?_eq_getElem k1)
    obtain ⟨w2, hw2, rw2⟩ := r2.get (List.getElem?_eq_getElem k1)
    have g1 : its[j]? = some its.toArray[j] := by
      have h1' : j < its.length := by simpa using h1
      rw [List.getElem?_eq_getElem h1'] <;> simp
    have g2 : its2[j]? = some its2.toArray[j] := by
      have h2' : j < its2.length := by simpa using h2
      rw [List.getElem?_eq_getElem h2'] <;> simp
    rw [g1] at hw1
    rw [g2] at hw2
    rw [Option.some.inj hw1, Option.some.inj hw2]
    exact eqAt_sameW (hp _ (List.getElem_mem k1)) rw1 rw2
  · have e : (!(List.range its.toArray.size).all fun _ => true) = false := by simp
    rw [e]
    exact ⟨.bl false, H, I, rfl, q⟩
def rEqSameW (K : PySem.W.Frag) : R2 := fun x y H Q => ∃ a b xs, x = .ref a ∧ y = .ref b ∧ SqL K H a xs ∧ SqL K H b xs ∧ (∀ z ∈ xs, plainW z = true) ∧ Q (.bl true) H
theorem op_eqSameW (hu : X.A.units < cLine) : OpR X (compareOp .Eq) (rEqSameW X.K) := by
  intro pins s σ H x y v u Q I rx ry h
  obtain ⟨a, b, xs, rfl, rfl, ha, hb, hp, q⟩ := h
  obtain rfl : v = Value.ref a := rx
  obtain rfl : u = Value.ref b := ry
  obtain ⟨its, r, ⟨o, n, e, c, d, dt⟩, _⟩ := I.list ha
  obtain ⟨its2, r2, ⟨o2, n2, e2, c2, d2, dt2⟩, _⟩ := I.list hb
  have hsz : its.toArray.size = its2.toArray.size := by rw [List.size_toArray, List.size_toArray, ← r.length, ← r2.length]
  show wpAny (model X.prog X.w) X.A (richCompare .Eq (.ref a) (.ref b)) (EP X pins σ Q) X.xe s
  refine SeqAt.RcAt.lists (e := fun _ => true) ⟨o, e, c, n, dt⟩ ⟨o2, e2, c2, n2, dt2⟩ hsz hu (fun j h1 h2 => ?_) _ _ _ _ ?_
  · have k1 : j < xs.length := by rw [r.length]; simpa using h1
    obtain ⟨w1, hw1, rw1⟩ := r.get (List.getElem?_eq_getElem k1)
    obtain ⟨w2, hw2, rw2⟩ := r2.get (List.getElem?_eq_getElem k1)
    have g1 : its[j]? = some its.toArray[j] := by
      have h1' : j < its.length := by simpa using h1
      rw [List.getElem?_eq_getElem h1'] <;> simp
    have g2 : its2[j]? = some its2.toArray[j] := by
      have h2' : j < its2.length := by simpa using h2
      rw [List.getElem?_eq_getElem h2'] <;> simp
    rw [g1] at hw1
    rw [g2] at hw2
    rw [Option.some.inj hw1, Option.some.inj hw2]
    exact eqAt_sameW (hp _ (List.getElem_mem k1)) rw1 rw2
  · have e : ((List.range its.toArray.size).all fun _ => true) = true := by simp
    rw [e]
    exact ⟨.bl true, H, I, rfl, q⟩
end
/-! ### an error class right under the common one -/
structure ErrC (K : PySem.W.Frag) (C EE : Addr) : Prop where
  ec : ExcC K C
  ic : PySem.W.isClsIn K C = true
  ty : PySem.W.typeIn K (.ref C) = some (.type "type")
  cl : ∃ cd, PySem.W.clsIn K C = some cd ∧ cd.mro = [.ref C, .ref EE, .type "ValueError", .type "Exception", .type "BaseException", .type "object"]
theorem ErrC.sub {K : PySem.W.Frag} {C EE : Addr} (e : ErrC K C EE) (base : Value) : PySem.W.mroIn K C base = some ([Value.ref C, .ref EE, .type "ValueError", .type "Exception", .type "BaseException", .type "object"].contains base) := by
  obtain ⟨cd, hc, hm⟩ := e.cl
  unfold PySem.W.mroIn
  rw [hc, Option.bind_some, hm]
  rfl
end My

set_option maxHeartbeats 4000000
/-! My own rules: an instance that is called, also by keywords, also where it raises; a class method by keywords in any order; a dict comprehension over any walk. -/
namespace My
open PySem PySem.Spec PyProof.Rows L2
section
variable {X : Cx} {CX : CXT} {k : Nat} {C g : Addr} {fd : FuncData} {ps ks : List Str} {sp : Sp} {E : L2.St → XK} {fe e : Expr} {es : List Expr} {kws : List Keyword} {pos : Pos} {tf : TE} {t tk : TA}
/-- f(e, ..), f an instance of C, what is let out wished for at the caller's slots -/
def tCallOE (X : Cx) (C : Addr) (sp : Sp) (E : L2.St → XK) (tf : TE) (t : TA) : TE := fun σ H Q => tf σ H fun y H1 => ∃ a, y = V.ref a ∧ t σ H1 fun vs H2 => StX.InsC X H2 a C ∧ sp (V.ref a :: vs) H2 Q (E σ)
theorem pe_callOE (hf : PE X fe tf) (c : StX.CallO X.K C g) (F : FnOk X.prog X.w X.K X.mg X.base CX k g fd ps sp) (hr : Room k X.A) (hb : Binds X.K fd ps []) (hx : ∀ σ, PassesAt CX X σ (E σ)) (ha : PA X (e :: es) t)
    (ht : eval (.Call fe (e :: es) [] pos) X.env = (do callWith pos (← eval fe X.env) [] (backTo pos (starEach (e :: es) X.env)) (backToKw pos (keywordEach [] X.env))) := by rfl)
    (he : starEach (e :: es) X.env = (false, eval e X.env) :: starEach es X.env := by rfl) (hpl : (backTo pos (starEach es X.env)).any (·.1) = false := by rfl) : PE X (.Call fe (e :: es) [] pos) (tCallOE X C sp E tf t) := by
  refine ⟨fun pins s σ H Q I h => ?_⟩
  refine Call_ (thn (hf.run pins s σ H _ I h) fun u s1 ⟨y, H1, I1, ry, a, ey, q⟩ => ?_) ht
  subst ey
  obtain rfl : u = Value.ref a := ry
  refine StX.callO_with (thn (ha.run pos pins s1 σ H1 _ I1 q) fun us s2 ⟨vs, H2, I2, r, hi, q2⟩ => ?_) he hpl
  obtain ⟨ox, od, J, hd⟩ := StX.insC_at I2 hi
  refine ⟨⟨C, ox, od, J, hd⟩, wpAny_call (PySem.W.kco_code I2.kIn J hd c.at_ c.fn c.fi ?_)⟩
  have r2 : Vals (V.ref a :: vs) (Value.ref a :: us) := .cons rfl r
  have hl : (Value.ref a :: us).length = ps.length := by rw [← r2.length]; exact F.len _ _ _ _ q2
  have b := hb s2 (Value.ref a :: us) I2.kIn (by rw [List.append_nil]; exact hl)
  rw [List.append_nil] at b
  refine codeAny_mono (F.run X.A X.stack s2 H2 ⟨Value.ref a :: us, []⟩ (Value.ref a :: us) (V.ref a :: vs) Q (E σ) hr I2.env0 b r2 q2) fun r s' hq => ?_
  cases r with
  | error er => exact hx σ _ H2 s2 er s' I2 hq
  | ok fl =>
    cases fl with
    | ret u => exact I2.after hq
    | next => exact False.elim hq
    | brk => exact False.elim hq
    | cont => exact False.elim hq
end
section
variable {X : Cx} {CX : CXT} {k : Nat} {C q0 g : Addr} {mc : Value} {fd : FuncData} {ps ks : List Str} {sp : Sp} {E : XK} {o : Expr} {m : Str} {pos apos : Pos} {kws : List Keyword} {ta : TE} {tk : TA} {pl : Sem Bool} {gg : List Value → List Value → List Value} {gV : List V → List V → List V}
def tCMethKN (C : Addr) (n : Nat) (sp : Sp) (gV : List V → List V → List V) (E : XK) (ta : TE) (tk : TA) : TE := fun σ H Q => ta σ H fun x H1 => x = .ref C ∧ tk σ H1 fun zs H2 => zs.length = n ∧ sp (gV [.ref C] zs) H2 Q E
theorem pe_cmethKN (he : PE X o ta) (r : ClX.CRead X.K C mc) (c : ClX.CMet X.K C mc m q0 g) (F : FnOk X.prog X.w X.K X.mg X.base CX k g fd ps sp) (hr : Room k X.A) (hx : Passes CX X E) (hkw : PK X kws tk)
    (hb : KBn X.K fd ps (0 + 1) ks gg gV)
    (hall : (backToKw pos (keywordEach kws X.env)).all (·.1.isSome) = true := by rfl) (hks : (backToKw pos (keywordEach kws X.env)).filterMap (·.1) = ks := by rfl)
    (hpl : ((backTo pos (starEach [] X.env)).any (·.1) || (backToKw pos (keywordEach kws X.env)).any (·.1.isNone)) = false := by rfl)
    (ht : eval (.Call (.Attribute o m apos) [] kws pos) X.env = (do
      let ov ← eval o X.env
      standAt apos.atName
      let (f, first) ← holding [ov] (getMethod ov m pl)
      callWith pos f first (backTo pos (starEach [] X.env)) (backToKw pos (keywordEach kws X.env))) := by rfl) :
    PE X (.Call (.Attribute o m apos) [] kws pos) (tCMethKN C ks.length sp gV E ta tk) := by
  refine ⟨fun pins s σ H Q I h => ?_⟩
  refine PySem.W.methodCall_KW (pl := pl) (thn (he.run pins s σ H _ I h) fun u s1 ⟨x, H1, I1, rx, ex, h2⟩ => ?_) ht
  subst ex
  obtain rfl : u = Value.ref C := rx
  refine ClX.getmethcm_ok I1 r c fun s2 I2 => ?_
  refine PySem.W.callWith_of hpl (PySem.W.keeps_M (K := X.K) (self := Value.ref C) c.fi) (evalArgs_kw2_nil hall (thn (hkw.run pos _ s2 σ H1 _ I2 h2) fun ws s3 ⟨zs, H2, I3, rz, hl, h3⟩ => ⟨⟨ClX.pin_at I3, I3.kIn⟩, ?_⟩))
  rw [hks]
  suffices z : wpAny (model X.prog X.w) X.A (call (.ref s1.heap.objs.size) [] (ks.zip ws)) (EP X ((s1.heap.objs.size, PySem.W.methodObj (.ref g) (.ref C)) :: pins) σ Q) X.xe s3 from thn z fun _ _ y => ClX.unpinE y
  refine wpAny_call (PySem.W.method_call (ClX.pin_at I3) ?_)
  have r1 : Vals [V.ref C] [Value.ref C] := .cons rfl .nil
  have r2 := hb.rel r1 rz
  refine codeAny_mono (F.run X.A X.stack s3 H2 ⟨Value.ref C :: [], ks.zip ws⟩ (gg [Value.ref C] ws) (gV [V.ref C] zs) Q E hr I3.env0 (hb.to s3 [Value.ref C] ws I3.kIn rfl (rz.length.symm.trans hl)) r2 h3) fun r s' hq => ?_
  cases r with
  | error er => exact hx _ σ H2 s3 er s' I3 hq
  | ok fl =>
    cases fl with
    | ret u => exact I3.after hq
    | next => exact False.elim hq
    | brk => exact False.elim hq
    | cont => exact False.elim hq
end
/-! ### an instance called by keywords -/
theorem callOK_of {M : Model} {A : Around} {E : Value → Shared → Prop} {s : Shared} {a : Addr} {pos : Pos} {Q : Value → Shared → Prop} {args : List (Bool × Sem Value)} {kws : List (Option Str × Sem Value)} (hplain : (args.any (·.1) || kws.any (·.1.isNone)) = false)
    (h : wpAny M A (evalArgs (.ref a) true args kws) (fun z s₁ => (∃ C ox od, PySem.W.InstAt s₁.heap a ox C od ∧ ox.data = .plain) ∧ wpAny M A (call (.ref a) ([] ++ z.pos) z.kw) Q E s₁) E s) : wpAny M A (callWith pos (.ref a) [] args kws) Q E s := by
  unfold callWith
  have h1 := (Bool.or_eq_false_iff.mp hplain).1
  have h2 := (Bool.or_eq_false_iff.mp hplain).2
  refine wpAny_bind (wpAny_holding (wpAny_mono (by first | exact h | (simp only [h1, h2]; exact h)) (fun z s₁ h₁ => wpAny_bind (wpAny_standAt ?_)) fun _ _ y => y))
  obtain ⟨⟨C, ox, od, J, hd⟩, h₁⟩ := h₁
  have L := PySem.W.kco_keeper (M := M) J hd
  simp only [h1, h2]
  refine wpAny_bind (L.here ?_)
  have tail : ∀ {t : Sem Value}, wpAny M A t Q E s₁ → wpAny M A (t >>= fun r => holding [r] point >>= fun _ => pure r) Q E s₁ :=
    fun ht => wpAny_bind (wpAny_mono ht (fun r s₂ hr => wpAny_bind (wpAny_holding (wpAny_point (wpAny_pure hr)))) fun _ _ y => y)
  exact tail (wpAny_operateT h₁)
section
variable {X : Cx} {CX : CXT} {k : Nat} {C g : Addr} {fd : FuncData} {ps ks : List Str} {sp : Sp} {E : XK} {fe : Expr} {kws : List Keyword} {pos : Pos} {tf : TE} {tk : TA}
def tCallOK (X : Cx) (C : Addr) (n : Nat) (sp : Sp) (E : XK) (tf : TE) (tk : TA) : TE := fun σ H Q => tf σ H fun y H1 => ∃ a, y = V.ref a ∧ tk σ H1 fun zs H2 => zs.length = n ∧ StX.InsC X H2 a C ∧ sp (V.ref a :: zs) H2 Q E
theorem pe_callOK (hf : PE X fe tf) (c : StX.CallO X.K C g) (F : FnOk X.prog X.w X.K X.mg X.base CX k g fd ps sp) (hr : Room k X.A) (hx : Passes CX X E) (hkw : PK X kws tk)
    (hb : ∀ (s : Shared) (u : Value) (ws : List Value), X.K.In s.heap → ws.length = ks.length → BindsTo s fd ⟨[u], ks.zip ws⟩ (ps.zip (u :: ws)))
    (hall : (backToKw pos (keywordEach kws X.env)).all (·.1.isSome) = true := by rfl) (hks : (backToKw pos (keywordEach kws X.env)).filterMap (·.1) = ks := by rfl)
    (hpl : ((backTo pos (starEach [] X.env)).any (·.1) || (backToKw pos (keywordEach kws X.env)).any (·.1.isNone)) = false := by rfl)
    (ht : eval (.Call fe [] kws pos) X.env = (do callWith pos (← eval fe X.env) [] (backTo pos (starEach [] X.env)) (backToKw pos (keywordEach kws X.env))) := by rfl) :
    PE X (.Call fe [] kws pos) (tCallOK X C ks.length sp E tf tk) := by
  refine ⟨fun pins s σ H Q I h => ?_⟩
  show wpAny _ _ (eval (.Call fe [] kws pos) X.env) _ _ _
  rw [ht]
  refine wpAny_bind (thn (hf.run pins s σ H _ I h) fun u s1 ⟨y, H1, I1, ry, a, ey, q⟩ => ?_)
  subst ey
  obtain rfl : u = Value.ref a := ry
  refine callOK_of hpl (evalArgs_kw2_nil hall (thn (hkw.run pos pins s1 σ H1 _ I1 q) fun ws s2 ⟨zs, H2, I2, rz, hl, hi, q2⟩ => ?_))
  rw [hks]
  obtain ⟨ox, od, J, hd⟩ := StX.insC_at I2 hi
  refine ⟨⟨C, ox, od, J, hd⟩, wpAny_call (PySem.W.kco_code I2.kIn J hd c.at_ c.fn c.fi ?_)⟩
  have r2 : Vals (V.ref a :: zs) (Value.ref a :: ws) := .cons rfl rz
  refine codeAny_mono (F.run X.A X.stack s2 H2 ⟨Value.ref a :: [], ks.zip ws⟩ (Value.ref a :: ws) (V.ref a :: zs) Q E hr I2.env0 (hb s2 (.ref a) ws I2.kIn (rz.length.symm.trans hl)) r2 q2) fun r s' hq => ?_
  cases r with
  | error er => exact hx _ σ H2 s2 er s' I2 hq
  | ok fl =>
    cases fl with
    | ret u => exact I2.after hq
    | next => exact False.elim hq
    | brk => exact False.elim hq
    | cont => exact False.elim hq
end
end My

/-! My own rules: an instance in a list of ints and itself, != an int, within an except suite. -/
namespace My
open PySem PySem.Spec PyProof.Rows L2
section
open PySem.SeqAt MeetsSeq MeetsSeq2 MeetsSeq3 SeqRoads2
variable {prog : Program} {w : World} {A : Around} {R : Result → Shared → Prop}
theorem eqBool_same {A : Around} {Ex : Value → Shared → Prop} {s : Shared} {a : Addr} {Q : Bool → Shared → Prop} (h : Q true s) : wpAny (model prog w) A (eqBool (.ref a) (.ref a)) Q Ex s := by
  unfold eqBool
  refine wpAny_holding ?_
  refine wpAny_ite_split (fun _ => ?_) (fun hab => absurd (beq_self_eq_true _) hab)
  wp_walk
  exact h
theorem contains_loopT (l : Addr) (x : Value) (j : Nat) (I : Shared → Prop)
    (hl : ∀ s, I s → ∃ (items : Array Value) (n : Nat), s.heap.get? l = some { cls := .type "list", data := .seq items n } ∧ j < items.size ∧ ∀ i (h : i < items.size), i ≤ j → wpAny (model prog w) A.in1 (eqBool items[i] x) (fun r s' => r = decide (i = j) ∧ I s') (fun e s' => R (.error e) s') s)
    (fin : ∀ s, I s → R (.ok (.ret (.bool true))) s) (k : Nat) :
    ∀ i : Nat, j - i = k → i ≤ j → ∀ s, I s → wpAny (model prog w) A.in1 (Builtin.«list.__contains__.loop» ⟨[.ref l, x, rawInt i], []⟩) (GQ.FinOf prog w A R) (fun e s' => R (.error e) s') s := by
  induction k with
  | zero =>
    intro i hk hi s h
    obtain ⟨items, n, hl1, hs1, turn⟩ := hl _ h
    have hlt : i < items.size := by omega
    have ht := turn i hlt hi
    obtain ⟨hp, g, d, tk, os⟩ := s
    wp_walk using AutoSeq1.wpAny_loadPart' hl1
    have hi1 : items[((i : Nat) : Int).toNat]? = some items[i] := by simp [hlt]
    rw [hi1]
    refine wpAny_bind (wpAny_mono ht (fun r s2 h2 => ?_) fun _ _ x => x)
    obtain ⟨hr, h2⟩ := h2
    rw [decide_eq_true (show i = j by omega)] at hr
    subst hr
    have hR := fin s2 h2
    obtain ⟨hp2, g2, d2, tk2, os2⟩ := s2
    wp_walk
    exact hR
  | succ k ih =>
    intro i hk hi s h
    obtain ⟨items, n, hl1, hs1, turn⟩ := hl _ h
    have hlt : i < items.size := by omega
    have ht := turn i hlt hi
    obtain ⟨hp, g, d, tk, os⟩ := s
    wp_walk using AutoSeq1.wpAny_loadPart' hl1
    have hi1 : items[((i : Nat) : Int).toNat]? = some items[i] := by simp [hlt]
    have hc : ((i : Int) + 1) = ((i + 1 : Nat) : Int) := by omega
    rw [hi1]
    refine wpAny_bind (wpAny_mono ht (fun r s2 h2 => ?_) fun _ _ x => x)
    obtain ⟨hr, h2⟩ := h2
    rw [decide_eq_false (show ¬ i = j by omega)] at hr
    subst hr
    have hrec := ih (i + 1) (by omega) (by omega) s2 h2
    obtain ⟨hp2, g2, d2, tk2, os2⟩ := s2
    wp_walk
    rw [hc]
    exact ⟨plainId_quiet plain_contains_loop _, codeAny_builtin entry_contains_loop (by
      rw [Around.under_plainId plain_contains_loop _]
      exact hrec)⟩
theorem list_containsT (l : Addr) (x : Value) (j : Nat) (I : Shared → Prop)
    (hl : ∀ s, I s → ∃ (items : Array Value) (n : Nat), s.heap.get? l = some { cls := .type "list", data := .seq items n } ∧ j < items.size ∧ ∀ i (h : i < items.size), i ≤ j → wpAny (model prog w) A.in1 (eqBool items[i] x) (fun r s' => r = decide (i = j) ∧ I s') (fun e s' => R (.error e) s') s)
    (fin : ∀ s, I s → R (.ok (.ret (.bool true))) s) {s : Shared} (h : I s) : wpAny (model prog w) A.in1 (Builtin.«list.__contains__» ⟨[.ref l, x], []⟩) (GQ.FinOf prog w A R) (fun e s' => R (.error e) s') s := by
  have hrec := contains_loopT (A := A) (R := R) l x j I hl fin _ 0 rfl (Nat.zero_le _) s h
  obtain ⟨items, n, hl1, _, _⟩ := hl _ h
  obtain ⟨hp, g, d, tk, os⟩ := s
  wp_walk using AutoSeq1.wpAny_loadPart' hl1
  exact ⟨plainId_quiet plain_contains_loop _, codeAny_builtin entry_contains_loop (by
    rw [Around.under_plainId plain_contains_loop _]
    exact hrec)⟩
end
/-- an instance != an int -/
theorem ne_KI {prog : Program} {w : World} {A : Around} {Ex : Value → Shared → Prop} {s : Shared} {K : PySem.W.Frag} {C f a : Addr} {oa : Obj} {oda : Option Obj} {i : Int} {tk : Tok} {Q : Value → Shared → Prop} (hu : A.units + 1 < cLine) (X : K.In s.heap) (N : NoNe K C f)
    (hi : PySem.W.subIn K (.type "int") (.ref C) = some false) (I : PySem.W.InstAt s.heap a oa C oda) (h : wpAny (model prog w) A.in1 (call (.ref f) [.ref a, .int i tk]) (fun v s' => ∃ r, v = .bool r ∧ Q (.bool (!r)) s') Ex s) :
    wpAny (model prog w) A (richCompare .NotEq (.ref a) (.int i tk)) Q Ex s := by
  have body : wpAny (model prog w) A.in1 (Builtin.«object.__ne__» ⟨[.ref a, .int i tk], []⟩) (fun fin s' => ∃ r, fin = .done (.ret (.bool (!r))) ∧ Q (.bool (!r)) s') Ex s := by
    unfold Builtin.«object.__ne__»
    refine wpAny_bind (wpAny_of_eq (a := ((Value.ref a : Value), [Value.int i tk])) (by first | rfl | (simp only [slotArgs]; rfl)) ?_)
    refine wpAny_bind (wpAny_cRoomFor hu ?_)
    refine wpAny_bind (PySem.W.ifBound_K X I N.eq N.fn (wpAny_mono h (fun v s' hv => ?_) fun _ _ e => e))
    obtain ⟨r, rfl, q⟩ := hv
    refine wpAny_bind (wpAny_truthy_bool ?_)
    exact wpAny_pure ⟨r, rfl, q⟩
  have below : PySem.W.Looks (model prog w) s.heap (isInstance (.ref a) (.type "object")) true := I.type.andThen (PySem.W.looks_subIn X N.ob)
  have one : wpAny (model prog w) A (tryCompare (.ref a) "__ne__" (.int i tk)) (fun r s' => ∃ t, r = some (.bool (!t)) ∧ Q (.bool (!t)) s') Ex s := by
    unfold tryCompare
    simp only [callSpecialIfBound?, bindSpecialIfBound?]
    refine wpAny_bind (wpAny_holding (wpAny_bind (wpAny_bind (wpAny_bind (I.type.here ((PySem.W.looks_findIn X N.ne).here ?_))))))
    simp only [F.cmp_object.ne.bind]
    refine wpAny_bind (wpAny_askSetting (wpAny_ite ?_))
    have fin : wpAny (model prog w) A (call (.builtin "object.__ne__") ([.ref a] ++ [.int i tk]) >>= fun v => pure (some v)) (fun r s' => ∃ t, r = some (.bool (!t)) ∧ Q (.bool (!t)) s') Ex s := by
      refine wpAny_bind (wpAny_call (codeAny_call_builtin F.cmp_object.ne.plain F.cmpEntry_ne (PySem.W.check_slot F.cmpKind_ne F.cmpSplit_ne below (F.cmpArgs_ne _ _) (wpAny_mono body (fun fin s' hf => ?_) fun _ _ e => e))))
      obtain ⟨r, rfl, q⟩ := hf
      exact wpAny_pure ⟨r, rfl, q⟩
    have fin2 := wpAny_mono fin (Q' := fun a s' => wpAny (model prog w) A (match a with
        | some Value.notImplemented => pure none
        | none => pure none
        | some v => pure (some v)) (fun r s' => ∃ t, r = some (Value.bool !t) ∧ Q (Value.bool !t) s') Ex s') (fun r s' hr => by
      obtain ⟨t, rfl, q⟩ := hr
      exact wpAny_pure ⟨t, rfl, q⟩) fun _ _ e => e
    split
    · exact wpAny_pure (by exact fin2)
    · exact wpAny_tryCatch (wpAny_pure (by exact fin2))
  unfold richCompare
  simp only [oneThing_ref]
  refine wpAny_holding (wpAny_bind (wpAny_cRoomFor (by omega) ?_))
  refine wpAny_bind (I.type.here (wpAny_bind (wpAny_typeOf (typeIs_int s i tk) ?_)))
  split
  · refine wpAny_bind ((PySem.W.looks_subIn X hi).here ?_)
    simp only [Bool.false_eq_true, if_false]
    refine wpAny_bind (wpAny_mono one (fun r s' z => ?_) fun _ _ e => e)
    obtain ⟨t, rfl, hq⟩ := z
    exact wpAny_pure hq
  · refine wpAny_bind (wpAny_pure ?_)
    simp only [Bool.false_eq_true, if_false]
    refine wpAny_bind (wpAny_mono one (fun r s' z => ?_) fun _ _ e => e)
    obtain ⟨t, rfl, hq⟩ := z
    exact wpAny_pure hq
section
variable {X : Cx} {k : Nat} {C f : Addr} {fd : FuncData} {ps : List Str} {sp : Sp} {E : XK} {p : Addr × Obj}
theorem run_own1P {pins : List (Addr × Obj)} {s : Shared} {σ : L2.St} {H : Hp} {Q : VK} {us : List Value} {vs : List V} (F : FnP X.prog X.w X.K X.mg X.base k f fd ps sp) (hr : L2H.RoomH (k + 1) X.A) (hp : p ∈ X.pn) (hb : Binds X.K fd ps [])
    (I : Inv X pins σ H s) (r : Vals vs us) (h : sp vs H Q E) : wpAny (model X.prog X.w) X.A.in1 (call (.ref f) us) (EP X pins σ Q) X.xe s := by
  have hl : (us ++ []).length = ps.length := by
    rw [List.append_nil, ← F.len _ _ _ _ h]
    exact r.length.symm
  have P1 := I.pin p (List.mem_append_left _ hp)
  have hpin : L2H.PinOk X.stack H s p := ⟨P1.1, P1.2.1, fun hm => (List.mem_cons.mp (I.stkSub p.1 hm)).elim P1.2.2.1 P1.2.2.2.1, P1.2.2.2.2⟩
  have hr1 : L2H.RoomH k X.A.in1 := ⟨by have := hr.dp; show X.A.depth + 3 * k + 5 < _; omega, by have := hr.un; show X.A.units + 1 + 16 * k + 200 < _; omega⟩
  refine wpAny_call (codeAny_mono (F.run X.A.in1 X.stack s H ⟨us, []⟩ us vs _ E p hr1 hpin I.env0.in1 (by
    have := hb s us I.kIn hl
    rw [List.append_nil] at this
    exact this) r h) fun r s' hq => ?_)
  cases r with
  | error e => exact hq.elim
  | ok fl =>
    cases fl with
    | ret w => exact I.after hq
    | next => exact False.elim hq
    | brk => exact False.elim hq
    | cont => exact False.elim hq
/-- an instance in a list that holds it behind some ints that are not equal to it -/
def rInP (sp : Sp) (E : XK) (C : Addr) : R2 := fun x y H Q => ∃ a dx fs l, ∃ ys : List V, ∃ j : Nat, x = .ref a ∧ y = .ref l ∧ H a = some (.ins C dx fs) ∧ H l = some (.lst ys) ∧ ys[j]? = some (V.ref a) ∧ (∀ i, i < j → ∃ n : Int, ys[i]? = some (V.int n) ∧ sp [.ref a, .int n] H (fun v H' => v = .bl false ∧ H' = H) E) ∧ Q (.bl true) H
theorem in_ownP (O : OthC X.K C f) (Fk : FnP X.prog X.w X.K X.mg X.base k f fd ps sp) (hr : L2H.RoomH (k + 1) X.A) (hp : p ∈ X.pn) (hb : Binds X.K fd ps []) : OpR X (compareOp .In) (rInP sp E C) := by
  intro pins s σ H x y v u Q I rx ry h
  obtain ⟨a, dx, fs, l, ys, j, rfl, rfl, ea, el, hj, hz, q⟩ := h
  obtain rfl : v = Value.ref a := rx
  obtain rfl : u = Value.ref l := ry
  obtain ⟨z0, its0, n0, r0, e0⟩ := I.hok l _ el
  show wpAny (model X.prog X.w) X.A (do return .bool (← contains (.ref l) (.ref a))) (EP X pins σ Q) X.xe s
  have hT : s.TypeIs (.ref l) "list" := ⟨_, e0, rfl⟩
  have hjl := (List.getElem?_eq_some_iff.mp hj).1
  refine wpAny_bind (wpAny_contains_slot hT F.slot_list_contains (wpAny_mono (GQ.call_here (Q := fun v s' => v = .bool true ∧ Inv X pins σ H s') F.slot_list_contains hT F.entry_list_contains (F.args_list_contains_2 _ _)
    (list_containsT l (.ref a) j (fun s' => Inv X pins σ H s') (fun s' I' => ?_) (fun s' I' => ⟨rfl, I'⟩) I)) (fun v s' hv => ?_) fun _ _ e => e))
  · obtain ⟨z1, its, n, r, e⟩ := I'.hok l _ el
    refine ⟨its.toArray, n, e, by rw [List.size_toArray, ← r.length]; exact hjl, fun i hi hij => ?_⟩
    have k1 : i < ys.length := by rw [r.length]; simpa using hi
    obtain ⟨u, hu, ru⟩ := r.get (List.getElem?_eq_getElem k1)
    have g1 : its[i]? = some its.toArray[i] := by
      have h1' : i < its.length := by simpa using hi
      rw [List.getElem?_eq_getElem h1'] <;> simp
    rw [g1] at hu
    rw [Option.some.inj hu]
    by_cases hE : i = j
    · subst hE
      rw [List.getElem?_eq_getElem k1] at hj
      rw [Option.some.inj hj] at ru
      obtain rfl : u = Value.ref a := ru
      exact eqBool_same ⟨(decide_eq_true rfl).symm, I'⟩
    · obtain ⟨m, em, hsp⟩ := hz i (by omega)
      rw [List.getElem?_eq_getElem k1] at em
      rw [Option.some.inj em] at ru
      obtain ⟨mA, J, _⟩ := ins_get I'.hok ea
      obtain ⟨od, J, _⟩ := J.look
      obtain ⟨t, rfl⟩ := ru
      have own : wpAny (model X.prog X.w) X.A.in1 (call (.ref f) [.ref a, .int m t]) (fun v s' => ∃ r, v = .bool r ∧ ∃ t, Value.bool r = .bool t ∧ (t = decide (i = j) ∧ Inv X pins σ H s')) X.xe s' := by
        refine wpAny_mono (run_own1P (vs := [V.ref a, V.int m]) Fk hr hp hb I' (.cons rfl (.cons ⟨t, rfl⟩ .nil)) hsp) (fun v s2 hv => ?_) fun _ _ e => e
        obtain ⟨x, H2, I2, rv, ex, eH⟩ := hv
        subst ex
        subst eH
        obtain rfl : v = Value.bool false := rv
        exact ⟨false, rfl, false, rfl, (decide_eq_false hE).symm, I2⟩
      have hu1 : X.A.in1.units < cLine := by have := hr.un; show X.A.units + 1 < _; omega
      exact eqBool_any (fun z => nomatch z) (eq_right hu1 I'.kIn O.eq O.fn (typeIs_int s' m t) J O.i F.slot_int_eq (fun Q' q' => call_meets F.slot_int_eq (typeIs_int s' m t) F.entry_int_eq (F.args_int_eq_2 _ _) (dec_int_eq m t a C dx) ⟨J.at_, q'⟩) own)
  · obtain ⟨rfl, I'⟩ := hv
    exact wpAny_truthy_bool (wpAny_pure ⟨.bl true, H, I', rfl, q⟩)
/-- an instance != an int, in a suite -/
def rNeP (sp : Sp) (E : XK) (C : Addr) : R2 := fun x y H Q => ∃ a dx fs, ∃ n : Int, x = .ref a ∧ y = .int n ∧ H a = some (.ins C dx fs) ∧ sp [.ref a, .int n] H (fun v H' => ∃ b, v = .bl b ∧ Q (.bl (!b)) H') E
theorem ne_ownP (N : NoNe X.K C f) (hi : PySem.W.subIn X.K (.type "int") (.ref C) = some false) (Fk : FnP X.prog X.w X.K X.mg X.base k f fd ps sp) (hr : L2H.RoomH (k + 1) X.A) (hp : p ∈ X.pn) (hb : Binds X.K fd ps []) : OpR X (compareOp .NotEq) (rNeP sp E C) := by
  intro pins s σ H x y v u Q I rx ry h
  obtain ⟨a, dx, fs, n, rfl, rfl, ea, q⟩ := h
  obtain rfl : v = Value.ref a := rx
  obtain ⟨t, rfl⟩ := ry
  obtain ⟨mA, J, _⟩ := ins_get I.hok ea
  obtain ⟨od, J, _⟩ := J.look
  show wpAny (model X.prog X.w) X.A (richCompare .NotEq (.ref a) (.int n t)) (EP X pins σ Q) X.xe s
  refine ne_KI (by have := hr.un; omega) I.kIn N hi J (wpAny_mono (run_own1P (vs := [V.ref a, V.int n]) Fk hr hp hb I (.cons rfl (.cons ⟨t, rfl⟩ .nil)) q) (fun v s2 hv => ?_) fun _ _ e => e)
  obtain ⟨x, H2, I2, rv, b, ex, q2⟩ := hv
  subst ex
  obtain rfl : v = Value.bool b := rv
  exact ⟨b, rfl, .bl (!b), H2, I2, rfl, q2⟩
end
/-- all is written: no defaults are left -/
theorem binds_nil {K : PySem.W.Frag} {fd : FuncData} {ps : List Str} {e : List Value} (b : Binds K fd ps e) (v : Vals [] e) : Binds K fd ps [] := by
  cases v
  exact b
section
variable {X : Cx} {CX : CXT} {k : Nat} {C g : Addr} {fd : FuncData} {ps ks : List Str} {sp : Sp} {E : L2.St → XK} {fe e : Expr} {es : List Expr} {kws : List Keyword} {pos : Pos} {tf : TE} {t tk : TA}
/-- f(e, ..), f an instance of C, what is let out wished for at the caller's slots (also in a try body) -/
def tCallO2 (C : Addr) (sp : Sp) (E : L2.St → XK) (tf : TE) (t : TA) : TE := fun σ H Q => tf σ H fun y H1 => ∃ a, y = V.ref a ∧ t σ H1 fun vs H2 => (∃ dx fs, H2 a = some (.ins C dx fs)) ∧ sp (V.ref a :: vs) H2 Q (E σ)
theorem pe_callO2 (hf : PE X fe tf) (c : StX.CallO X.K C g) (F : FnOk X.prog X.w X.K X.mg X.base CX k g fd ps sp) (hr : Room k X.A) (hb : Binds X.K fd ps []) (hx : ∀ σ, PassesAt CX X σ (E σ)) (ha : PA X (e :: es) t)
    (ht : eval (.Call fe (e :: es) [] pos) X.env = (do callWith pos (← eval fe X.env) [] (backTo pos (starEach (e :: es) X.env)) (backToKw pos (keywordEach [] X.env))) := by rfl)
    (he : starEach (e :: es) X.env = (false, eval e X.env) :: starEach es X.env := by rfl) (hpl : (backTo pos (starEach es X.env)).any (·.1) = false := by rfl) : PE X (.Call fe (e :: es) [] pos) (tCallO2 C sp E tf t) := by
  refine ⟨fun pins s σ H Q I h => ?_⟩
  refine Call_ (thn (hf.run pins s σ H _ I h) fun u s1 ⟨y, H1, I1, ry, a, ey, q⟩ => ?_) ht
  subst ey
  obtain rfl : u = Value.ref a := ry
  refine StX.callO_with (thn (ha.run pos pins s1 σ H1 _ I1 q) fun us s2 ⟨vs, H2, I2, r, hi, q2⟩ => ?_) he hpl
  obtain ⟨ox, od, J, hd⟩ := StX.insC_at I2 (.inr hi)
  refine ⟨⟨C, ox, od, J, hd⟩, wpAny_call (PySem.W.kco_code I2.kIn J hd c.at_ c.fn c.fi ?_)⟩
  have r2 : Vals (V.ref a :: vs) (Value.ref a :: us) := .cons rfl r
  have hl : (Value.ref a :: us).length = ps.length := by rw [← r2.length]; exact F.len _ _ _ _ q2
  have b := hb s2 (Value.ref a :: us) I2.kIn (by rw [List.append_nil]; exact hl)
  rw [List.append_nil] at b
  refine codeAny_mono (F.run X.A X.stack s2 H2 ⟨Value.ref a :: us, []⟩ (Value.ref a :: us) (V.ref a :: vs) Q (E σ) hr I2.env0 b r2 q2) fun r s' hq => ?_
  cases r with
  | error er => exact hx σ _ H2 s2 er s' I2 hq
  | ok fl =>
    cases fl with
    | ret u => exact I2.after hq
    | next => exact False.elim hq
    | brk => exact False.elim hq
    | cont => exact False.elim hq
end
end My

/-! My own rules: == of two tuples of instances with an own ==, whatever it answers. -/
namespace My
open PySem PySem.Spec PyProof.Rows L2
section
open PySem PySem.SeqAt
open MeetsSeq MeetsSeq2 MeetsSeq3 SeqRoads2
variable {prog : Program} {w : World} {A : Around} {R : Result → Shared → Prop}
theorem tuple_eqB (l b : Addr) (items items2 : Array Value) (n n2 : Nat) (dd dd2 : Option Addr) (sl sl2 : Array (Option Value)) (t : Nat → Bool) (I : Nat → Shared → Prop)
    (turn : ∀ i (h1 : i < items.size) (h2 : i < items2.size) s, I i s → wpAny (model prog w) A.in1 (eqBool items[i] items2[i]) (fun r s' => r = t i ∧ I (i + 1) s') (fun e s' => R (.error e) s') s)
    (ans : Bool) (hans : ans = true ↔ items.size = items2.size ∧ ∀ i, i < items.size → i < items2.size → t i = true)
    (fin : ∀ i s, I i s → R (.ok (.ret (.bool ans))) s) {s : Shared} (hl1 : s.heap.get? l = some { cls := .type "tuple", dict := dd, data := .seq items n, slots := sl }) (hb1 : s.heap.get? b = some { cls := .type "tuple", dict := dd2, data := .seq items2 n2, slots := sl2 }) (h : I 0 s) :
    wpAny (model prog w) A.in1 (Builtin.«tuple.__eq__» ⟨[.ref l, .ref b], []⟩) (GQ.FinOf prog w A R) (fun e s' => R (.error e) s') s := by
  have f2 := AutoSeq1.sub_tuple_tuple
  have hZ : (items.toList.zip items2.toList).length = min items.size items2.size := by simp
  have h0 := h
  obtain ⟨hp, g, d, tk, os⟩ := s
  wp_walk using wpAny_loadPart' hl1, wpAny_loadPart' hb1, wpAny_forIn_list _ (fun rest b s' => b.1 = none ∧ ∃ i, rest = (items.toList.zip items2.toList).drop i ∧ i ≤ min items.size items2.size ∧ I i s' ∧ ∀ j, j < i → t j = true) _
  case turn =>
    rintro ⟨y, x⟩ rest b s' ⟨hb', i, hz, hi, hI, hall⟩
    have hlt : i < (items.toList.zip items2.toList).length := by
      rcases Nat.lt_or_ge i (items.toList.zip items2.toList).length with h' | h'
      · exact h'
      · rw [List.drop_of_length_le h'] at hz; cases hz
    have hlt' := hlt
    rw [hZ] at hlt'
    have h1 : i < items.size := by omega
    have h2 : i < items2.size := by omega
    rw [List.drop_eq_getElem_cons hlt] at hz
    injection hz with hyx hrest
    have hy : y = items[i] := by have := congrArg Prod.fst hyx; simpa using this
    have hx : x = items2[i] := by have := congrArg Prod.snd hyx; simpa using this
    subst hy hx
    refine wpAny_bind (wpAny_mono (turn i h1 h2 s' hI) (fun r s2 q2 => ?_) fun _ _ x => x)
    obtain ⟨hr, q2⟩ := q2
    cases ht : t i with
    | true =>
      rw [ht] at hr
      subst hr
      wp_walk
      exact ⟨rfl, i + 1, hrest, by omega, q2, fun j hj => by
        by_cases e : j = i
        · rw [e]; exact ht
        · exact hall j (by omega)⟩
    | false =>
      rw [ht] at hr
      subst hr
      have ha : ans = false := by
        cases ha : ans with
        | false => rfl
        | true =>
          have := (hans.mp ha).2 i h1 h2
          rw [ht] at this
          cases this
      have hR := fin _ _ q2
      rw [ha] at hR
      wp_walk
      exact hR
  case fin =>
    rintro ⟨b1, b2⟩ s' ⟨hb', i, hz, hi, hI, hall⟩
    simp only at hb'
    subst hb'
    have hge : min items.size items2.size ≤ i := by
      rcases Nat.lt_or_ge i (items.toList.zip items2.toList).length with h' | h'
      · rw [List.drop_eq_getElem_cons h'] at hz; cases hz
      · exact hZ ▸ h'
    have hR : R (.ok (.ret (.bool ans))) s' := fin _ _ hI
    have ha : ans = (items.size == items2.size) := by
      cases hq : ans with
      | true => exact (beq_iff_eq.mpr (hans.mp hq).1).symm
      | false =>
        refine Eq.symm ?_
        rw [Bool.eq_false_iff]
        intro e
        have e := beq_iff_eq.mp e
        have := hans.mpr ⟨e, fun j h1 h2 => hall j (by omega)⟩
        rw [hq] at this
        cases this
    rw [ha] at hR
    wp_walk
    simpa [Builtin.Tuple.tupleCompareSizes] using hR
  case h =>
    exact ⟨rfl, 0, rfl, Nat.zero_le _, h0, fun j hj => absurd hj (Nat.not_lt_zero _)⟩
end
section
variable {X : Cx} {CX : CXT} {k : Nat} {C f : Addr} {fd : FuncData} {ps : List Str} {sp : Sp} {E : XK}
/-- two tuples of instances; t tells which pairs are equal -/
def rTupB (K : PySem.W.Frag) (C : Addr) (sp : Sp) (E : XK) : R2 := fun x y H Q => ∃ a b, ∃ xs ys : List V, ∃ t : Nat → Bool, ∃ ans : Bool, x = .ref a ∧ y = .ref b ∧ SqT K H a xs ∧ SqT K H b ys ∧
  (∀ (i : Nat) u v, xs[i]? = some u → ys[i]? = some v → ∃ p q dx dy fs gs, u = .ref p ∧ v = .ref q ∧ H p = some (.ins C dx fs) ∧ H q = some (.ins C dy gs) ∧ (p = q → t i = true) ∧ sp [.ref p, .ref q] H (fun w H' => w = .bl (t i) ∧ H' = H) E) ∧
  (ans = true ↔ xs.length = ys.length ∧ ∀ i, i < xs.length → i < ys.length → t i = true) ∧ Q (.bl ans) H
theorem op_tupB (hs : PySem.W.findIn X.K (.ref C) "__eq__" = some (some (.ref f))) (hf : PySem.W.isFn X.K (.ref f) = true) (Fk : FnOk X.prog X.w X.K X.mg X.base CX k f fd ps sp) (hr : Room (k + 1) X.A) (hb : Binds X.K fd ps []) (hx : Passes CX X E) : OpR X (compareOp .Eq) (rTupB X.K C sp E) := by
  intro pins s σ H x y v u Q I rx ry h
  obtain ⟨a, b, xs, ys, t, ans, rfl, rfl, ha, hb', hi, hans, q⟩ := h
  cases rx
  cases ry
  obtain ⟨its, r, e, z⟩ := I.tuple ha
  obtain ⟨its2, r2, e2, z2⟩ := I.tuple hb'
  show wpAny (model X.prog X.w) X.A (richCompare .Eq (.ref a) (.ref b)) (EP X pins σ Q) X.xe s
  obtain ⟨⟨cls, dd, data, sl⟩, ho, hc, n, hd⟩ := id e
  obtain ⟨⟨cls2, dd2, data2, sl2⟩, ho2, hc2, n2, hd2⟩ := id e2
  simp only at hc hd hc2 hd2
  subst hc hd hc2 hd2
  have hu : X.A.units < cLine := hr.units0
  refine wpAny_richCompare_same_room (op := .Eq) ⟨_, ho, rfl⟩ ⟨_, ho2, rfl⟩ F.slot_tuple_eq (GQ.call_here F.slot_tuple_eq ⟨_, ho, rfl⟩ F.entry_tuple_eq (F.args_tuple_eq_2 _ _) ?_) hu
  refine tuple_eqB (R := wants (fun v s' => v ≠ .notImplemented ∧ EP X pins σ Q v s') X.xe) a b its.toArray its2.toArray n n2 dd dd2 sl sl2 t (fun _ s' => Inv X pins σ H s') (fun i h1 h2 s' I' => ?_) ans (by rw [hans, List.size_toArray, List.size_toArray, r.length, r2.length]) (fun i s' I' => ⟨(fun x => nomatch x), .bl ans, H, I', rfl, q⟩) ho ho2 I
  have k1 : i < xs.length := by rw [r.length]; simpa using h1
  have k2 : i < ys.length := by rw [r2.length]; simpa using h2
  obtain ⟨u, hu1, ru⟩ := r.get (List.getElem?_eq_getElem k1)
  obtain ⟨v, hv1, rv⟩ := r2.get (List.getElem?_eq_getElem k2)
  have g1 : its[i]? = some its.toArray[i] := by
    have h1' : i < its.length := by simpa using h1
    rw [List.getElem?_eq_getElem h1'] <;> simp
  have g2 : its2[i]? = some its2.toArray[i] := by
    have h2' : i < its2.length := by simpa using h2
    rw [List.getElem?_eq_getElem h2'] <;> simp
  rw [g1] at hu1
  rw [g2] at hv1
  rw [Option.some.inj hu1, Option.some.inj hv1]
  obtain ⟨p', q', dx, dy, fs, gs, eu, evv, hp, hq, hsame, hsp⟩ := hi i _ _ (List.getElem?_eq_getElem k1) (List.getElem?_eq_getElem k2)
  rw [eu] at ru
  rw [evv] at rv
  obtain rfl : u = Value.ref p' := ru
  obtain rfl : v = Value.ref q' := rv
  by_cases hab : p' = q'
  · subst hab
    exact eqBool_same ⟨(hsame rfl).symm, I'⟩
  · obtain ⟨mA, J, _⟩ := ins_get I'.hok hp
    obtain ⟨mB, J', _⟩ := ins_get I'.hok hq
    obtain ⟨od, J, _⟩ := J.look
    obtain ⟨od', J', _⟩ := J'.look
    obtain ⟨m, hF⟩ := I'.fr
    refine GQ.eqBool_refG hab (PySem.W.cmp_K (op := .Eq) (tb := .ref C) hr.in1.units0 hF I'.ok.mod.kin J J'.type (by simp [PySem.W.notFirst]) hs hf (wpAny_mono (run_own1 (vs := [V.ref p', V.ref q']) Fk hr hb hx I' (.cons rfl (.cons rfl .nil)) hsp) (fun v s2 hv => ?_) fun _ _ e => e))
    obtain ⟨x, H2, I2, rv, ex, eH⟩ := hv
    subst ex
    subst eH
    obtain rfl : v = Value.bool (t i) := rv
    exact ⟨t i, rfl, rfl, I2⟩
end
end My

/-! My own rules: != of two tuples that are equal item by item. -/
namespace My
open PySem PySem.Spec PyProof.Rows L2
section
open PySem PySem.SeqAt
open MeetsSeq MeetsSeq2 MeetsSeq3 SeqRoads2
variable {prog : Program} {w : World} {A : Around} {R : Result → Shared → Prop}
theorem tuple_neG (l b : Addr) (items items2 : Array Value) (n n2 : Nat) (dd dd2 : Option Addr) (sl sl2 : Array (Option Value)) (hsz : items.size = items2.size) (I : Shared → Prop)
    (turn : ∀ i (h1 : i < items.size) (h2 : i < items2.size) s, I s → wpAny (model prog w) A.in1 (eqBool items[i] items2[i]) (fun r s' => r = true ∧ I s') (fun e s' => R (.error e) s') s)
    (fin : ∀ s, I s → R (.ok (.ret (.bool false))) s) {s : Shared} (hl1 : s.heap.get? l = some { cls := .type "tuple", dict := dd, data := .seq items n, slots := sl }) (hb1 : s.heap.get? b = some { cls := .type "tuple", dict := dd2, data := .seq items2 n2, slots := sl2 }) (h : I s) :
    wpAny (model prog w) A.in1 (Builtin.«tuple.__ne__» ⟨[.ref l, .ref b], []⟩) (GQ.FinOf prog w A R) (fun e s' => R (.error e) s') s := by
  have f2 := AutoSeq1.sub_tuple_tuple
  have hZ : (items.toList.zip items2.toList).length = items.size := by simp [hsz]
  have h0 := h
  obtain ⟨hp, g, d, tk, os⟩ := s
  wp_walk using wpAny_loadPart' hl1, wpAny_loadPart' hb1, wpAny_forIn_list _ (fun rest b s' => b.1 = none ∧ ∃ i, rest = (items.toList.zip items2.toList).drop i ∧ i ≤ items.size ∧ I s') _
  case turn =>
    rintro ⟨y, x⟩ rest b s' ⟨hb', i, hz, hi, hI⟩
    have hlt : i < (items.toList.zip items2.toList).length := by
      rcases Nat.lt_or_ge i (items.toList.zip items2.toList).length with h' | h'
      · exact h'
      · rw [List.drop_of_length_le h'] at hz; cases hz
    have h1 : i < items.size := hZ ▸ hlt
    have h2 : i < items2.size := hsz ▸ h1
    rw [List.drop_eq_getElem_cons hlt] at hz
    injection hz with hyx hrest
    have hy : y = items[i] := by have := congrArg Prod.fst hyx; simpa using this
    have hx : x = items2[i] := by have := congrArg Prod.snd hyx; simpa using this
    subst hy hx
    refine wpAny_bind (wpAny_mono (turn i h1 h2 s' hI) (fun r s2 q2 => ?_) fun _ _ x => x)
    obtain ⟨hr, q2⟩ := q2
    subst hr
    wp_walk
    exact ⟨rfl, i + 1, hrest, h1, q2⟩
  case fin =>
    rintro ⟨b1, b2⟩ s' ⟨hb', i, hz, hi, hI⟩
    simp only at hb'
    subst hb'
    have hR : R (.ok (.ret (.bool false))) s' := fin s' hI
    wp_walk
    simpa [Builtin.Tuple.tupleCompareSizes, hsz] using hR
  case h =>
    exact ⟨rfl, 0, rfl, Nat.zero_le _, h0⟩
end
section
variable {X : Cx} {n : Nat} {D : Eqv}
/-- != of two tuples that are equal item by item -/
def rNeG (K : PySem.W.Frag) (D : Eqv) : R2 := fun x y H Q => DTup K D x y H ∧ ∀ H', Ext H H' → Q (.bl false) H'
theorem op_neG (hD : Mon D) (h : EqG X n D) (hr : Room (n + 1) X.A) : OpR X (compareOp .NotEq) (rNeG X.K D) := by
  intro pins s σ H x y v u Q I rx ry hq
  obtain ⟨⟨a, b, xs, ys, rfl, rfl, ha, hb, p⟩, q⟩ := hq
  cases rx
  cases ry
  show wpAny (model X.prog X.w) X.A (richCompare .NotEq (.ref a) (.ref b)) (EP X pins σ Q) X.xe s
  obtain ⟨its, r, e, z⟩ := I.tuple ha
  obtain ⟨its2, r2, e2, z2⟩ := I.tuple hb
  have hsz : its.toArray.size = its2.toArray.size := by rw [List.size_toArray, List.size_toArray, ← r.length, ← r2.length]; exact p.1
  obtain ⟨⟨cls, dd, data, sl⟩, ho, hc, n1, hd⟩ := id e
  obtain ⟨⟨cls2, dd2, data2, sl2⟩, ho2, hc2, n2, hd2⟩ := id e2
  simp only at hc hd hc2 hd2
  subst hc hd hc2 hd2
  refine wpAny_richCompare_same_room (op := .NotEq) ⟨_, ho, rfl⟩ ⟨_, ho2, rfl⟩ F.slot_tuple_ne (GQ.call_here F.slot_tuple_ne ⟨_, ho, rfl⟩ F.entry_tuple_ne (F.args_tuple_ne_2 _ _) ?_) hr.units0
  exact tuple_neG (R := wants (fun v s' => v ≠ .notImplemented ∧ EP X pins σ Q v s') X.xe) a b its.toArray its2.toArray n1 n2 dd dd2 sl sl2 hsz (fun s' => LoopI X pins σ H s') (fun i h1 h2 s' l => turnG hD h ⟨hr, rfl⟩ p r r2 i h1 h2 s' l) (fun s' ⟨H', I', e⟩ => ⟨(fun x => nomatch x), .bl false, H', I', rfl, q H' e⟩) ho ho2 ⟨H, I, Ext.rfl'⟩
end
end My

/-! My own rules: tuple(zip(a, b)) of two tuples. -/
namespace My
open PySem PySem.Spec PyProof.Rows L2 RZ
section
open PySem PySem.W
variable {prog : Program} {w : World} {A : Around} {E : Value → Shared → Prop} {s : Shared}
theorem zipT_item_held {z TI TO T i1 i2 l1 l2 : Addr} {f : Bool} {oT : Obj} {k1 k2 : Nat} {xs ys : Array Value} {x y : Value} {Q : Value → Shared → Prop} (D : ZipApart z TI TO i1 i2 l1 l2)
    (hz : IsZipHeld s.heap z TI TO T f) (hT : s.heap.get? T = some oT) (hTI : IsPair s.heap TI (.ref i1) (.ref i2))
    (h1 : s.heap.IsTupleIter i1 l1 k1) (h2 : s.heap.IsTupleIter i2 l2 k2) (hl1 : s.heap.IsTuple l1 xs) (hl2 : s.heap.IsTuple l2 ys) (hx : xs[k1]? = some x) (hy : ys[k2]? = some y)
    (hQ : ∀ h', IsZipHeld h' z TI TO T true → h'.IsTupleIter i1 l1 (k1 + 1) → h'.IsTupleIter i2 l2 (k2 + 1) → IsPair h' s.heap.objs.size x y → h'.objs.size = s.heap.objs.size + 1 →
      (∀ c o, c ≠ z → c ≠ i1 → c ≠ i2 → s.heap.get? c = some o → h'.get? c = some o) → Q (.ref s.heap.objs.size) { s with heap := h' }) :
    wpAny (model prog w) A (Builtin.«zip.__next__» ⟨[.ref z], []⟩) (fun fin s' => ∃ v, fin = .done (.ret v) ∧ Q v s') E s := by
  show wpAny _ _ (field (.ref z) 2 >>= _) _ _ _
  refine wpAny_bind (wpAny_field hz rfl (x := .bool false) rfl ?_)
  show wpAny _ _ (field (.ref z) 3 >>= _) _ _ _
  refine wpAny_bind (wpAny_field hz rfl (x := .ref TI) rfl ?_)
  refine wpAny_bind (wpAny_seqItems hTI rfl ?_)
  show wpAny _ _ (Builtin.SmallTypes.ownedTupleIsFree (.ref z) >>= _) _ _ _
  refine wpAny_bind (wpAny_tupleHeld_zip hz hT fun h₁ hz₁ hs₁ => ?_)
  simp only [Bool.false_eq_true, if_false]
  refine wpAny_bind ?_
  rw [← Array.forIn_toList]
  simp only [List.forIn_cons, List.forIn_nil]
  refine wpAny_bind (wpAny_bind (wpAny_holding ?_))
  show wpAny _ _ (Builtin.SmallTypes.nextOf (.ref i1) >>= _) _ _ _
  refine wpAny_bind (nextOf_tuple_item (s := { s with heap := h₁ }) (h1.extBut hs₁.extBut D.i1z) (hl1.extBut hs₁.extBut D.l1z) hx fun h₂ h1₂ hs₂ => wpAny_pure ?_)
  refine wpAny_pure ?_
  refine wpAny_bind (wpAny_bind (wpAny_holding ?_))
  show wpAny _ _ (Builtin.SmallTypes.nextOf (.ref i2) >>= _) _ _ _
  refine wpAny_bind (nextOf_tuple_item (s := { s with heap := h₂ }) ((h2.extBut hs₁.extBut D.i2z).extBut hs₂.extBut D.i12.symm) ((hl2.extBut hs₁.extBut D.l2z).extBut hs₂.extBut D.l2i1) hy fun h₃ h2₃ hs₃ => wpAny_pure ?_)
  refine wpAny_pure (wpAny_pure ?_)
  show wpAny _ _ (newTuple [x, y] >>= _) _ _ _
  refine wpAny_bind (wpAny_newTuple ?_)
  have hsz : h₃.objs.size = s.heap.objs.size := by rw [hs₃.1, hs₂.1, hs₁.1]
  have hz₃ : IsZipHeld h₃ z TI TO T true := hs₃.extBut _ _ D.i2z.symm (hs₂.extBut _ _ D.i1z.symm hz₁)
  have hk : ∀ c o, c ≠ z → c ≠ i1 → c ≠ i2 → s.heap.get? c = some o → h₃.get? c = some o := fun c o c1 c2 c3 e => hs₃.extBut _ _ c3 (hs₂.extBut _ _ c2 (hs₁.extBut _ _ c1 e))
  have h1₃ : h₃.IsTupleIter i1 l1 (k1 + 1) := h1₂.extBut hs₃.extBut D.i12
  refine wpAny_pure ⟨_, rfl, ?_⟩
  show Q (.ref h₃.objs.size) _
  have hp : IsPair (h₃.push { cls := .type "tuple", data := .seq #[x, y] }) h₃.objs.size x y := Heap.get?_push_size _ rfl
  have hz4 : (h₃.push { cls := .type "tuple", data := .seq #[x, y] }).objs.size = h₃.objs.size + 1 := Heap.size_push ..
  rw [hsz] at hp hz4 ⊢
  exact hQ _ (Heap.get?_push_of_some _ hz₃) (h1₃.at fun o e => Heap.get?_push_of_some _ e) (h2₃.at fun o e => Heap.get?_push_of_some _ e) hp hz4 fun c o c1 c2 c3 e => Heap.get?_push_of_some _ (hk c o c1 c2 c3 e)
theorem zipT_end_held {z TI TO T i1 i2 l1 l2 : Addr} {f : Bool} {oT : Obj} {k1 k2 : Nat} {xs ys : Array Value} {Q : Fin → Shared → Prop} (hh : A.handled = none) (D : ZipApart z TI TO i1 i2 l1 l2)
    (hz : IsZipHeld s.heap z TI TO T f) (hT : s.heap.get? T = some oT) (hTI : IsPair s.heap TI (.ref i1) (.ref i2))
    (h1 : s.heap.IsTupleIter i1 l1 k1) (h2 : s.heap.IsTupleIter i2 l2 k2) (hl1 : s.heap.IsTuple l1 xs) (hl2 : s.heap.IsTuple l2 ys) (hend : xs[k1]? = none ∨ ys[k2]? = none)
    (hE : ∀ h' e, (∀ c o, c ≠ z → c ≠ i1 → c ≠ i2 → s.heap.get? c = some o → h'.get? c = some o) → (∃ o, h'.get? e = some o ∧ o.cls = .type "StopIteration") → E (.ref e) { s with heap := h' }) :
    wpAny (model prog w) A (Builtin.«zip.__next__» ⟨[.ref z], []⟩) Q E s := by
  show wpAny _ _ (field (.ref z) 2 >>= _) _ _ _
  refine wpAny_bind (wpAny_field hz rfl (x := .bool false) rfl ?_)
  show wpAny _ _ (field (.ref z) 3 >>= _) _ _ _
  refine wpAny_bind (wpAny_field hz rfl (x := .ref TI) rfl ?_)
  refine wpAny_bind (wpAny_seqItems hTI rfl ?_)
  show wpAny _ _ (Builtin.SmallTypes.ownedTupleIsFree (.ref z) >>= _) _ _ _
  refine wpAny_bind (wpAny_tupleHeld_zip hz hT fun h₁ hz₁ hs₁ => ?_)
  simp only [Bool.false_eq_true, if_false]
  refine wpAny_bind ?_
  rw [← Array.forIn_toList]
  simp only [List.forIn_cons, List.forIn_nil]
  refine wpAny_bind (wpAny_bind (wpAny_holding ?_))
  show wpAny _ _ (Builtin.SmallTypes.nextOf (.ref i1) >>= _) _ _ _
  cases hx : xs[k1]? with
  | none =>
    refine wpAny_bind (nextOf_tuple_end (s := { s with heap := h₁ }) hh (h1.extBut hs₁.extBut D.i1z) (hl1.extBut hs₁.extBut D.l1z) hx fun h₂ e hs₂ he => ?_)
    exact hE h₂ e (fun c o c1 c2 _ x => hs₂ _ _ c2 (hs₁.extBut _ _ c1 x)) he
  | some x =>
    have hy : ys[k2]? = none := by rcases hend with h | h; rw [hx] at h; cases h; exact h
    refine wpAny_bind (nextOf_tuple_item (s := { s with heap := h₁ }) (h1.extBut hs₁.extBut D.i1z) (hl1.extBut hs₁.extBut D.l1z) hx fun h₂ h1₂ hs₂ => wpAny_pure ?_)
    refine wpAny_pure ?_
    refine wpAny_bind (wpAny_bind (wpAny_holding ?_))
    show wpAny _ _ (Builtin.SmallTypes.nextOf (.ref i2) >>= _) _ _ _
    refine wpAny_bind (nextOf_tuple_end (s := { s with heap := h₂ }) hh ((h2.extBut hs₁.extBut D.i2z).extBut hs₂.extBut D.i12.symm) ((hl2.extBut hs₁.extBut D.l2z).extBut hs₂.extBut D.l2i1) hy fun h₃ e hs₃ he => ?_)
    exact hE h₃ e (fun c o c1 c2 c3 x => hs₃ _ _ c3 (hs₂.extBut _ _ c2 (hs₁.extBut _ _ c1 x))) he
theorem pyNext_zipT_item_held {z TI TO T i1 i2 l1 l2 : Addr} {f : Bool} {oT : Obj} {k1 k2 : Nat} {xs ys : Array Value} {x y : Value} {Q : Option Value → Shared → Prop} (D : ZipApart z TI TO i1 i2 l1 l2)
    (hz : IsZipHeld s.heap z TI TO T f) (hT : s.heap.get? T = some oT) (hTI : IsPair s.heap TI (.ref i1) (.ref i2))
    (h1 : s.heap.IsTupleIter i1 l1 k1) (h2 : s.heap.IsTupleIter i2 l2 k2) (hl1 : s.heap.IsTuple l1 xs) (hl2 : s.heap.IsTuple l2 ys) (hx : xs[k1]? = some x) (hy : ys[k2]? = some y)
    (hQ : ∀ h', IsZipHeld h' z TI TO T true → h'.IsTupleIter i1 l1 (k1 + 1) → h'.IsTupleIter i2 l2 (k2 + 1) → IsPair h' s.heap.objs.size x y → h'.objs.size = s.heap.objs.size + 1 →
      (∀ c o, c ≠ z → c ≠ i1 → c ≠ i2 → s.heap.get? c = some o → h'.get? c = some o) → Q (some (.ref s.heap.objs.size)) { s with heap := h' }) :
    wpAny (model prog w) A (pyNext (.ref z)) Q E s := by
  have hTy : s.TypeIs (.ref z) "zip" := ⟨_, hz, rfl⟩
  unfold pyNext
  exact wpAny_bind (wpAny_attempt (wpAny_callSpecial?_slot (name := Str.ofString "__next__") hTy F.slot_zip_next
    (wpAny_call_entry F.slot_zip_next hTy F.entry_zip_next
      (zipT_item_held D hz hT hTI h1 h2 hl1 hl2 hx hy fun h' a1 a3 a4 a5 a6 a7 => wpAny_pure (hQ h' a1 a3 a4 a5 a6 a7)) (F.args_zip_next_1 _))))
theorem pyNext_zipT_end_held {z TI TO T i1 i2 l1 l2 : Addr} {f : Bool} {oT : Obj} {k1 k2 : Nat} {xs ys : Array Value} {Q : Option Value → Shared → Prop} (hh : A.handled = none) (D : ZipApart z TI TO i1 i2 l1 l2)
    (hz : IsZipHeld s.heap z TI TO T f) (hT : s.heap.get? T = some oT) (hTI : IsPair s.heap TI (.ref i1) (.ref i2))
    (h1 : s.heap.IsTupleIter i1 l1 k1) (h2 : s.heap.IsTupleIter i2 l2 k2) (hl1 : s.heap.IsTuple l1 xs) (hl2 : s.heap.IsTuple l2 ys) (hend : xs[k1]? = none ∨ ys[k2]? = none)
    (hQ : ∀ h', (∀ c o, c ≠ z → c ≠ i1 → c ≠ i2 → s.heap.get? c = some o → h'.get? c = some o) → Q none { s with heap := h' }) : wpAny (model prog w) A (pyNext (.ref z)) Q E s := by
  have hTy : s.TypeIs (.ref z) "zip" := ⟨_, hz, rfl⟩
  unfold pyNext
  refine wpAny_bind (wpAny_attempt (wpAny_callSpecial?_slot (name := Str.ofString "__next__") hTy F.slot_zip_next
    (wpAny_call_entry F.slot_zip_next hTy F.entry_zip_next (zipT_end_held hh D hz hT hTI h1 h2 hl1 hl2 hend fun h' e hk he => ?_) (F.args_zip_next_1 _))))
  obtain ⟨o, ho, hc⟩ := he
  refine wpAny_bind (wpAny_isInstance (T := "StopIteration") (b := true) ⟨o, ho, hc⟩ isSubtype_stop ?_)
  exact wpAny_pure (hQ _ hk)
end
/-- the zip at turn i; the list that takes its tuples is at d -/
def ZSt (h : Heap) (z TI TO i1 i2 a b d : Addr) (i : Nat) : Prop := IsPair h TI (.ref i1) (.ref i2) ∧ h.IsTupleIter i1 a i ∧ h.IsTupleIter i2 b i ∧
  ((IsZip h z TI TO .none ∧ ∃ x y, IsPair h TO x y) ∨ ∃ T f oT, IsZipHeld h z TI TO T f ∧ h.get? T = some oT ∧ T ≠ z ∧ T ≠ i1 ∧ T ≠ i2 ∧ T ≠ d)
section
open PySem PySem.W
variable {prog : Program} {w : World} {A : Around} {E : Value → Shared → Prop} {s : Shared}
theorem zst_item {z TI TO i1 i2 a b d : Addr} {i : Nat} {xs ys : Array Value} {u v : Value} {Q : Option Value → Shared → Prop} (D : ZipApart z TI TO i1 i2 a b) (st : ZSt s.heap z TI TO i1 i2 a b d i) (p : s.heap.IsTuple a xs) (p2 : s.heap.IsTuple b ys) (hx : xs[i]? = some u) (hy : ys[i]? = some v) (hd : d < s.heap.objs.size)
    (hQ : ∀ h', ZSt h' z TI TO i1 i2 a b d (i + 1) → IsPair h' s.heap.objs.size u v → h'.objs.size = s.heap.objs.size + 1 → (∀ c o, c ≠ z → c ≠ TO → c ≠ i1 → c ≠ i2 → s.heap.get? c = some o → h'.get? c = some o) → Q (some (.ref s.heap.objs.size)) { s with heap := h' }) :
    wpAny (model prog w) A (pyNext (.ref z)) Q E s := by
  obtain ⟨hTI, h1, h2, hz⟩ := st
  have lt : ∀ {c o}, s.heap.get? c = some o → s.heap.objs.size ≠ c := fun e => Nat.ne_of_gt (Heap.lt_size e)
  have n1 : s.heap.objs.size ≠ i1 := let ⟨_, e, _⟩ := h1; lt e
  have n2 : s.heap.objs.size ≠ i2 := let ⟨_, e, _⟩ := h2; lt e
  rcases hz with ⟨hz, x, y, hTO⟩ | ⟨T, f, oT, hz, hT, r1, r2, r3, r4⟩
  · refine pyNext_zipT_item D hz hTI hTO h1 h2 p p2 hx hy fun h' a1 a2 a3 a4 a5 a6 hk => ?_
    exact hQ h' ⟨hk _ _ D.TIz D.TITO D.TIi1 D.TIi2 hTI, a3, a4, .inr ⟨s.heap.objs.size, false, _, a1, a5, lt hz, n1, n2, Nat.ne_of_gt hd⟩⟩ a5 a6 hk
  · refine pyNext_zipT_item_held D hz hT hTI h1 h2 p p2 hx hy fun h' a1 a3 a4 a5 a6 hk => ?_
    exact hQ h' ⟨hk _ _ D.TIz D.TIi1 D.TIi2 hTI, a3, a4, .inr ⟨T, true, oT, a1, hk _ _ r1 r2 r3 hT, r1, r2, r3, r4⟩⟩ a5 a6 fun c o c1 _ c3 c4 e => hk c o c1 c3 c4 e
theorem zst_done {z TI TO i1 i2 a b d : Addr} {i : Nat} {xs ys : Array Value} {Q : Option Value → Shared → Prop} (hh : A.handled = none) (D : ZipApart z TI TO i1 i2 a b) (st : ZSt s.heap z TI TO i1 i2 a b d i) (p : s.heap.IsTuple a xs) (p2 : s.heap.IsTuple b ys) (he : xs[i]? = none ∨ ys[i]? = none)
    (hQ : ∀ h', (∀ c o, c ≠ z → c ≠ TO → c ≠ i1 → c ≠ i2 → s.heap.get? c = some o → h'.get? c = some o) → Q none { s with heap := h' }) :
    wpAny (model prog w) A (pyNext (.ref z)) Q E s := by
  obtain ⟨hTI, h1, h2, hz⟩ := st
  rcases hz with ⟨hz, x, y, hTO⟩ | ⟨T, f, oT, hz, hT, r1, r2, r3, r4⟩
  · exact pyNext_zipT_end hh D hz hTI hTO h1 h2 p p2 he fun h' hk => hQ h' hk
  · exact pyNext_zipT_end_held hh D hz hT hTI h1 h2 p p2 he fun h' hk => hQ h' fun c o c1 _ c3 c4 e => hk c o c1 c3 c4 e
theorem ZSt.on {h h' : Heap} {z TI TO i1 i2 a b d : Addr} {i : Nat} (st : ZSt h z TI TO i1 i2 a b d i) (D : ZipApart z TI TO i1 i2 a b) (hd : d ≠ z ∧ d ≠ TI ∧ d ≠ TO ∧ d ≠ i1 ∧ d ≠ i2) (k : ∀ c o, c ≠ d → h.get? c = some o → h'.get? c = some o) : ZSt h' z TI TO i1 i2 a b d i := by
  obtain ⟨hTI, h1, h2, hz⟩ := st
  obtain ⟨d1, d2, d3, d4, d5⟩ := hd
  refine ⟨k _ _ (Ne.symm d2) hTI, h1.at fun o e => k _ o (Ne.symm d4) e, h2.at fun o e => k _ o (Ne.symm d5) e, ?_⟩
  rcases hz with ⟨hz, x, y, hTO⟩ | ⟨T, f, oT, hz, hT, r1, r2, r3, r4⟩
  · exact .inl ⟨k _ _ (Ne.symm d1) hz, x, y, k _ _ (Ne.symm d3) hTO⟩
  · exact .inr ⟨T, f, oT, k _ _ (Ne.symm d1) hz, k _ _ r4 hT, r1, r2, r3, r4⟩
end
/-- the pairs that stand so far -/
def Zs (H : Hp) (xs ys : List V) (ts : List Addr) : Prop := ∀ (j : Nat) t x y, ts[j]? = some t → xs[j]? = some x → ys[j]? = some y → H t = some (.tup [x, y])
theorem Zs.on {H H' : Hp} {xs ys : List V} {ts : List Addr} (r : Zs H xs ys ts) (s : Same H H') : Zs H' xs ys ts := fun j t x y h1 h2 h3 => s _ _ (r j t x y h1 h2 h3)
theorem sqT_on {K : PySem.W.Frag} {H H' : Hp} {a : Addr} {xs : List V} (e : Same H H') (h : SqT K H a xs) : SqT K H' a xs := by
  rcases h with (h | ⟨o, h⟩) | h
  · exact .inl (.inl (e _ _ h))
  · exact .inl (.inr ⟨o, e _ _ h⟩)
  · exact .inr h
theorem nolen_zip : typeLookup (.type "zip") "__len__" = pure none := by rw [typeLookup_type, builtinLookup_eq_fast]; kernel_rfl
theorem hint_zip : typeLookup (.type "zip") "__length_hint__" = pure none := by rw [typeLookup_type, builtinLookup_eq_fast]; kernel_rfl
section
variable {X : Cx} {pins : List (Addr × Obj)} {σ : L2.St}
theorem ext_zip {A : Around} {R : Result → Shared → Prop} {S z TI TO i1 i2 a b : Addr} {res : Value} (hh : A.in1.handled = none) (D : ZipApart z TI TO i1 i2 a b) (hS : S ≠ z ∧ S ≠ TI ∧ S ≠ TO ∧ S ≠ i1 ∧ S ≠ i2) {xs ys : List V} (hl : xs.length = ys.length) (hn : xs.length ≤ sizeLine) :
    ∀ (k i : Nat) (s : Shared) (H : Hp) (acc : Array Value) (c : Nat) (ts : List Addr), xs.length - i = k → i ≤ xs.length → Inv X pins σ H s → SqT X.K H a xs → SqT X.K H b ys → ZSt s.heap z TI TO i1 i2 a b S i →
      (∀ c ∈ [S, z, TO, i1, i2], FpOk X pins H c ∧ c < s.heap.objs.size) → s.heap.get? S = some { cls := .type "list", dict := none, data := .seq acc c, slots := #[] } → acc.toList = ts.map Value.ref → ts.length = i → Zs H xs ys ts →
      (∀ (s' : Shared) (H' : Hp) (acc' : Array Value) (c' : Nat) (ts' : List Addr), Inv X pins σ H' s' → Same H H' → s'.heap.get? S = some { cls := .type "list", dict := none, data := .seq acc' c', slots := #[] } → acc'.toList = ts'.map Value.ref → ts'.length = xs.length → Zs H' xs ys ts' → R (.ok (.ret res)) s') →
      codeAny (model X.prog X.w) A (.builtin "list.extend.loop" ⟨[.ref S, .ref z, res], []⟩) R s := by
  intro k
  induction k with
  | zero =>
    intro i s H acc c ts hk hi I qa qb st hf hL ha ht hz hR
    have hin : i = xs.length := by omega
    subst hin
    refine codeAny_builtin F.entry_extend_loop ?_
    rw [Around.under_plainId F.plain_extend_loop _]
    show wpAny _ A.in1 (pyNext (.ref z) >>= _) _ _ s
    obtain ⟨its, rv, p, _⟩ := I.tuple qa
    obtain ⟨its2, rv2, p2, _⟩ := I.tuple qb
    have l1 := rv.length
    refine wpAny_bind (zst_done hh D st p p2 (.inl (by simp; omega)) fun h' hk' => wpAny_pure ?_)
    exact hR { s with heap := h' } H acc c ts (I.turnedL (t' := s.toks) (ch := [z, TO, i1, i2]) (fun c o hb q => hk' c o (fun e => hb (by simp [e])) (fun e => hb (by simp [e])) (fun e => hb (by simp [e])) (fun e => hb (by simp [e])) q)
        (fun c hc => (hf c (List.mem_cons_of_mem _ hc)).1)) (fun _ _ e => e) (hk' S _ hS.1 hS.2.2.1 hS.2.2.2.1 hS.2.2.2.2 hL) ha ht hz
  | succ k ih =>
    intro i s H acc c ts hk hi I qa qb st hf hL ha ht hz hR
    have hlt : i < xs.length := by omega
    refine codeAny_builtin F.entry_extend_loop ?_
    rw [Around.under_plainId F.plain_extend_loop _]
    show wpAny _ A.in1 (pyNext (.ref z) >>= _) _ _ s
    obtain ⟨its, rv, p, _⟩ := I.tuple qa
    obtain ⟨its2, rv2, p2, _⟩ := I.tuple qb
    have hx : xs[i]? = some xs[i] := List.getElem?_eq_getElem hlt
    have hy : ys[i]? = some (ys[i]'(by omega)) := List.getElem?_eq_getElem (by omega)
    obtain ⟨u, hu, ru⟩ := rv.get hx
    obtain ⟨u2, hu2, ru2⟩ := rv2.get hy
    have fl : ∀ c ∈ [S, z, TO, i1, i2], c ≠ s.heap.objs.size := fun c hc => Nat.ne_of_lt (hf c hc).2
    have hsz0 : acc.size = i := by rw [← Array.length_toList, ha, List.length_map, ht]
    refine wpAny_bind (zst_item D st p p2 (u := u) (v := u2) (by simpa using hu) (by simpa using hu2) (hf S List.mem_cons_self).2 fun h' st' hT hsz hk' => ?_)
    have hL' := hk' S _ hS.1 hS.2.2.1 hS.2.2.2.1 hS.2.2.2.2 hL
    show wpAny _ A.in1 (updateSeq S (·.push (.ref s.heap.objs.size)) >>= _) _ _ _
    refine wpAny_bind ?_
    have new : ObjOk X.prog X.w (upd H s.heap.objs.size (.tup [xs[i], ys[i]'(by omega)])) h' s.heap.objs.size (.tup [xs[i], ys[i]'(by omega)]) :=
      ⟨by show 2 ≤ sizeLine; decide, [u, u2], .cons ru (.cons ru2 .nil), ⟨_, hT, rfl, _, rfl⟩⟩
    have I1 : Inv X pins σ (upd H s.heap.objs.size (.tup [xs[i], ys[i]'(by omega)])) { s with heap := h' } :=
      I.turnedNew (t' := s.toks) (ch := [z, TO, i1, i2]) (fun c o hb q => hk' c o (fun e => hb (by simp [e])) (fun e => hb (by simp [e])) (fun e => hb (by simp [e])) (fun e => hb (by simp [e])) q) (fun c hc => (hf c (List.mem_cons_of_mem _ hc)).1) (Nat.le_refl _) new
    have hnone : H s.heap.objs.size = none := I.hok.fresh (Nat.le_refl _)
    have sm : Same H (upd H s.heap.objs.size (.tup [xs[i], ys[i]'(by omega)])) := same_upd hnone
    have hf1 : ∀ c ∈ [S, z, TO, i1, i2], FpOk X pins (upd H s.heap.objs.size (.tup [xs[i], ys[i]'(by omega)])) c := fun c hc => by
      obtain ⟨q, r⟩ := (hf c hc).1
      exact ⟨by rw [upd_ne (fl c hc)]; exact q, r⟩
    refine wpAny_updateSeq hL' rfl (wpAny_pure ⟨plainId_quiet F.plain_extend_loop _, ih (i + 1) _ (upd H s.heap.objs.size (.tup [xs[i], ys[i]'(by omega)])) (acc.push (.ref s.heap.objs.size)) _ (ts ++ [s.heap.objs.size]) (by omega) hlt
      (I1.turnedL (t' := s.toks) (ch := [S]) (fun c o hb q => (Heap.get?_update_other _ _ (fun e : S = c => hb (by simp [e]))).trans q) (fun c hc => hf1 c (by rw [List.mem_singleton.mp hc]; exact List.mem_cons_self)))
      (sqT_on sm qa) (sqT_on sm qb) (st'.on D hS fun c o hc q => (Heap.get?_update_other _ _ (Ne.symm hc)).trans q) (fun c hc => ⟨hf1 c hc, ?_⟩) (Heap.get?_update_self _ hL' rfl) (by rw [Array.toList_push, ha, List.map_append]; rfl) (by rw [List.length_append, ht]; rfl) (fun j t x y h1 h2 h3 => ?_) fun s' H' acc' c' ts' I' sm' => hR s' H' acc' c' ts' I' (sm.trans sm')⟩)
      (by rw [hsz0]; omega) (by show (acc.push _).size ≤ sizeLine + 1; rw [Array.size_push, hsz0]; omega)
    · have h1 := (hf c hc).2
      show c < ((h'.update S _).objs.size)
      rw [Heap.size_update, hsz]
      exact Nat.lt_succ_of_lt h1
    · by_cases hj : j < ts.length
      · rw [List.getElem?_append_left hj] at h1
        exact sm _ _ (hz j t x y h1 h2 h3)
      · have hj' := (List.getElem?_eq_some_iff.mp h1).1
        rw [List.length_append, List.length_singleton] at hj'
        have e1 : j = i := by omega
        subst e1
        rw [List.getElem?_append_right (by omega), show j - ts.length = 0 by omega] at h1
        rw [hx] at h2
        rw [hy] at h3
        have e1 : s.heap.objs.size = t := Option.some.inj h1
        rw [← Option.some.inj h2, ← Option.some.inj h3, ← e1]
        exact upd_same

theorem collect_zip {A : Around} {E : Value → Shared → Prop} {s : Shared} {H : Hp} {z TI TO i1 i2 a b : Addr} {x0 y0 : Value} {xs ys : List V} {Q : List Value → Shared → Prop} (hh : A.handled = none) (D : ZipApart z TI TO i1 i2 a b) (hl : xs.length = ys.length) (hn : xs.length ≤ sizeLine)
    (I : Inv X pins σ H s) (qa : SqT X.K H a xs) (qb : SqT X.K H b ys) (hz : IsZip s.heap z TI TO .none) (hTI : IsPair s.heap TI (.ref i1) (.ref i2)) (hTO : IsPair s.heap TO x0 y0) (h1 : s.heap.IsTupleIter i1 a 0) (h2 : s.heap.IsTupleIter i2 b 0)
    (hf : ∀ c ∈ [z, TO, i1, i2], FpOk X pins H c) (hQ : ∀ (s' : Shared) (H' : Hp) (ts : List Addr), Inv X pins σ H' s' → Same H H' → ts.length = xs.length → Zs H' xs ys ts → Q (ts.map Value.ref) s') :
    wpAny (model X.prog X.w) A (collect (.ref z)) Q E s := by
  obtain ⟨oi1, ho1, hc1, hd1⟩ := id h1
  obtain ⟨oi2, ho2, hc2, hd2⟩ := id h2
  have lt : ∀ {c o}, s.heap.get? c = some o → s.heap.objs.size ≠ c := fun e => Nat.ne_of_gt (Heap.lt_size e)
  have hS : s.heap.objs.size ≠ z ∧ s.heap.objs.size ≠ TI ∧ s.heap.objs.size ≠ TO ∧ s.heap.objs.size ≠ i1 ∧ s.heap.objs.size ≠ i2 := ⟨lt hz, lt hTI, lt hTO, lt ho1, lt ho2⟩
  have hSf : FpOk X pins H s.heap.objs.size := I.fpOk (Nat.le_refl _) (I.hok.fresh (Nat.le_refl _))
  unfold collect
  refine wpAny_bind (wpAny_runValue (codeAny_builtin F.entry_proto_collect ?_))
  rw [Around.under_plainId F.plain_proto_collect _]
  show wpAny _ A.in1 (newList [] >>= fun l' => again (.builtin "list.__iadd__" ⟨[l', .ref z], []⟩)) _ _ s
  refine wpAny_bind (wpAny_newObj_type ?_)
  refine wpAny_pure ⟨plainId_quiet F.plain_list_iadd _, codeAny_builtin F.entry_list_iadd ?_⟩
  rw [Around.under_plainId F.plain_list_iadd _]
  have hz1 : IsZip (s.heap.push { cls := .type "list", data := .seq ([] : List Value).toArray }) z TI TO .none := Heap.get?_push_of_some _ hz
  have hT1 : ({ s with heap := s.heap.push { cls := .type "list", data := .seq ([] : List Value).toArray } } : Shared).TypeIs (.ref z) "zip" := ⟨_, hz1, rfl⟩
  show wpAny _ A.in1 (Builtin.List.listExtendWith (.ref s.heap.objs.size) (.ref z) (.ref s.heap.objs.size)) _ _ _
  unfold Builtin.List.listExtendWith
  refine wpAny_bind (wpAny_typeOf hT1 ?_)
  have e1 : Builtin.List.listSameRef (.ref s.heap.objs.size) (.ref z) = false := by simp [Builtin.List.listSameRef, hS.1]
  have e2 : (Value.type "zip" == Value.type "list") = false := by decide
  have e3 : (Value.type "zip" == Value.type "tuple") = false := by decide
  simp only [e1, e2, e3, Bool.or_false, Bool.false_eq_true, if_false]
  refine wpAny_bind (wpAny_pyIter_zip (s := { s with heap := s.heap.push { cls := .type "list", data := .seq ([] : List Value).toArray } }) hz1 ?_)
  refine wpAny_bind (wpAny_holding ?_)
  unfold Builtin.List.listLengthHint
  refine wpAny_bind (wpAny_specialOf hT1 nolen_zip ?_)
  show wpAny _ A.in1 (specialOf (Value.ref z) (Str.ofString "__length_hint__") >>= _) _ _ _
  refine wpAny_bind (wpAny_specialOf hT1 hint_zip ?_)
  refine wpAny_pure ?_
  show wpAny _ A.in1 (rule "list.extend.makes-room" >>= fun _ => Builtin.List.listTouch (.ref s.heap.objs.size) >>= fun _ =>
    again (.builtin "list.extend.loop" ⟨[.ref s.heap.objs.size, .ref z, .ref s.heap.objs.size], []⟩)) _ _ _
  refine wpAny_bind (wpAny_rule ?_)
  have hS₁ : (s.heap.push { cls := .type "list", data := .seq ([] : List Value).toArray }).get? s.heap.objs.size = some { cls := .type "list", data := .seq ([] : List Value).toArray } := Heap.get?_push_size _ rfl
  refine wpAny_bind ?_
  show wpAny _ A.in1 (updateSeq s.heap.objs.size (·.push .none) >>= fun _ => updateSeq s.heap.objs.size (·.pop)) _ _ _
  refine wpAny_bind (wpAny_updateSeq hS₁ rfl ?_)
  have hS₂ := Heap.get?_update_self (Obj.mapSeq (·.push Value.none)) hS₁ rfl
  refine wpAny_updateSeq hS₂ rfl ?_
  have hS₃ := Heap.get?_update_self (Obj.mapSeq (·.pop)) hS₂ rfl
  have oth : ∀ b o, b ≠ s.heap.objs.size → s.heap.get? b = some o →
      (((s.heap.push { cls := .type "list", data := .seq ([] : List Value).toArray }).update s.heap.objs.size (Obj.mapSeq (·.push Value.none))).update s.heap.objs.size (Obj.mapSeq (·.pop))).get? b = some o :=
    fun b o hb e => (Heap.get?_update_other _ _ (Ne.symm hb)).trans ((Heap.get?_update_other _ _ (Ne.symm hb)).trans (Heap.get?_push_of_some _ e))
  have I1 : Inv X pins σ H { s with heap := ((s.heap.push { cls := .type "list", data := .seq ([] : List Value).toArray }).update s.heap.objs.size (Obj.mapSeq (·.push Value.none))).update s.heap.objs.size (Obj.mapSeq (·.pop)) } :=
    I.turnedL (t' := s.toks) (ch := [s.heap.objs.size]) (fun b o hb e => oth b o (fun q => hb (by simp [q])) e) (fun c hc => by rw [List.mem_singleton.mp hc]; exact hSf)
  have hsz : (((s.heap.push { cls := .type "list", data := .seq ([] : List Value).toArray }).update s.heap.objs.size (Obj.mapSeq (·.push Value.none))).update s.heap.objs.size (Obj.mapSeq (·.pop))).objs.size = s.heap.objs.size + 1 := by
    rw [Heap.size_update, Heap.size_update, Heap.size_push]
  refine wpAny_pure ⟨plainId_quiet F.plain_extend_loop _, ext_zip (X := X) (pins := pins) (σ := σ) (A := A) hh D hS hl hn xs.length 0 _ H _ _ [] (by omega) (Nat.zero_le _) I1 qa qb
    ⟨oth _ _ (Ne.symm hS.2.1) hTI, ⟨oi1, oth _ _ (Ne.symm hS.2.2.2.1) ho1, hc1, hd1⟩, ⟨oi2, oth _ _ (Ne.symm hS.2.2.2.2) ho2, hc2, hd2⟩, .inl ⟨oth _ _ (Ne.symm hS.1) hz, _, _, oth _ _ (Ne.symm hS.2.2.1) hTO⟩⟩ (fun c hc => ?_) hS₃ rfl rfl (fun j t x y h => by simp at h) fun s' H' acc' c' ts' I' sm hL' ha hl' hz' => ?_⟩
  · show FpOk X pins H c ∧ c < (((s.heap.push { cls := .type "list", data := .seq ([] : List Value).toArray }).update s.heap.objs.size (Obj.mapSeq (·.push Value.none))).update s.heap.objs.size (Obj.mapSeq (·.pop))).objs.size
    rw [hsz]
    rcases List.mem_cons.mp hc with rfl | hc
    · exact ⟨hSf, Nat.lt_succ_self _⟩
    · refine ⟨hf c hc, ?_⟩
      have e' : c = z ∨ c = TO ∨ c = i1 ∨ c = i2 := by simpa using hc
      refine Nat.lt_succ_of_lt ?_
      rcases e' with q | q | q | q
      · rw [q]; exact Heap.lt_size hz
      · rw [q]; exact Heap.lt_size hTO
      · rw [q]; exact Heap.lt_size ho1
      · rw [q]; exact Heap.lt_size ho2
  · show wpAny _ A (load s.heap.objs.size >>= _) _ _ s'
    refine wpAny_bind (wpAny_load hL' ?_)
    refine wpAny_pure ?_
    show Q acc'.toList s'
    rw [ha]
    exact hQ s' H' ts' I' sm hl' hz'
theorem code_tuple_new_zip {A : Around} {E : Value → Shared → Prop} {s : Shared} {H : Hp} {z TI TO i1 i2 a b : Addr} {x0 y0 : Value} {xs ys : List V} {Q₁ : Value → Shared → Prop} (hh : A.handled = none) (D : ZipApart z TI TO i1 i2 a b) (hl : xs.length = ys.length) (hn : xs.length ≤ sizeLine)
    (I : Inv X pins σ H s) (qa : SqT X.K H a xs) (qb : SqT X.K H b ys) (hz : IsZip s.heap z TI TO .none) (hTI : IsPair s.heap TI (.ref i1) (.ref i2)) (hTO : IsPair s.heap TO x0 y0) (h1 : s.heap.IsTupleIter i1 a 0) (h2 : s.heap.IsTupleIter i2 b 0)
    (hf : ∀ c ∈ [z, TO, i1, i2], FpOk X pins H c) (h : ∀ (s' : Shared) (H' : Hp) (ts : List Addr), Inv X pins σ H' s' → Same H H' → ts.length = xs.length → Zs H' xs ys ts → Q₁ (.ref s'.heap.objs.size) { s' with heap := s'.heap.push { cls := .type "tuple", data := .seq (ts.map Value.ref).toArray } }) :
    codeAny (model X.prog X.w) A (.call (.builtin "tuple.__new__") ⟨[.type "tuple", .ref z], []⟩) (wants Q₁ E) s := by
  refine codeAny_of_tree ?_
  show wpAny _ A.in1 (do checkBuiltinCall "tuple.__new__" ⟨[.type "tuple", .ref z], []⟩; again (.builtin "tuple.__new__" ⟨[.type "tuple", .ref z], []⟩)) _ _ s
  refine wpAny_bind (wpAny_of_eq (F.newCall_tuple_1 _) (wpAny_pure ⟨plainId_quiet F.plain_tuple_new _, codeAny_builtin F.entry_tuple_new ?_⟩))
  rw [Around.under_plainId F.plain_tuple_new _]
  have hsub := sub_tuple_self
  have hinit := init_tuple_lookup
  have hmh := madeHere_tuple
  have hTI' : s.TypeIs (.ref z) "zip" := ⟨_, hz, rfl⟩
  have hh1 : A.in1.handled = none := hh
  wp_walk using wpAny_typeOf hTI', collect_zip (A := A.in1) hh1 D hl hn I qa qb hz hTI hTO h1 h2 hf
  intro s' H' ts I' sm hl' hz'
  show wpAny _ _ (Builtin.Tuple.tupleExact (ts.map Value.ref).toArray >>= fun v => ret v) _ _ _
  unfold Builtin.Tuple.tupleExact
  refine wpAny_bind (wpAny_newObj_type ?_ (by show (ts.map Value.ref).toArray.size ≤ sizeLine; rw [List.size_toArray, List.length_map, hl']; exact hn))
  exact wpAny_pure (h s' H' ts I' sm hl' hz')
theorem call_tuple_zip {A : Around} {E : Value → Shared → Prop} {s : Shared} {H : Hp} {z TI TO i1 i2 a b : Addr} {x0 y0 : Value} {xs ys : List V} {Q : Value → Shared → Prop} (hh : A.handled = none) (D : ZipApart z TI TO i1 i2 a b) (hl : xs.length = ys.length) (hn : xs.length ≤ sizeLine)
    (I : Inv X pins σ H s) (qa : SqT X.K H a xs) (qb : SqT X.K H b ys) (hz : IsZip s.heap z TI TO .none) (hTI : IsPair s.heap TI (.ref i1) (.ref i2)) (hTO : IsPair s.heap TO x0 y0) (h1 : s.heap.IsTupleIter i1 a 0) (h2 : s.heap.IsTupleIter i2 b 0)
    (hf : ∀ c ∈ [z, TO, i1, i2], FpOk X pins H c) (hQ : ∀ (s' : Shared) (H' : Hp) (ts : List Addr), Inv X pins σ H' s' → Same H H' → ts.length = xs.length → Zs H' xs ys ts → Q (.ref s'.heap.objs.size) { s' with heap := s'.heap.push { cls := .type "tuple", data := .seq (ts.map Value.ref).toArray } }) :
    wpAny (model X.prog X.w) A (call (.type "tuple") [.ref z]) Q E s := by
  refine callType_codes (Q₁ := fun obj s₁ => s₁.TypeIs obj "tuple" ∧ Q obj s₁) F.called_tuple (F.typeCall_tuple_1 _) F.entry_object_init
    (code_tuple_new_zip (A := A.in1) hh D hl hn I qa qb hz hTI hTO h1 h2 hf fun s' H' ts I' sm hl' hz' => ⟨⟨_, Heap.get?_push_size _ rfl, rfl⟩, hQ s' H' ts I' sm hl' hz'⟩) fun obj s₁ h₁ => ?_
  exact ⟨h₁.1, F.args_object_init_2 obj _, object_init_meets F.called_tuple.init.lookup F.called_tuple.made (by decide) X.prog X.w A.in1 _ s₁ ⟨h₁.1, rfl, h₁.2⟩⟩
end
section
variable {X : Cx}
/-- tuple(zip(a, b)) of two tuples of one length -/
def tTupZip (K : PySem.W.Frag) (ta : TA) : TE := fun σ H Q => ta σ H fun vs H1 => ∃ a b xs ys, vs = [V.ref a, V.ref b] ∧ SqT K H1 a xs ∧ SqT K H1 b ys ∧ xs.length = ys.length ∧ xs.length ≤ sizeLine ∧
  ∀ (p : Addr) (ts : List Addr) H2, Same H1 H2 → H2 p = some (.tup (ts.map V.ref)) → ts.length = xs.length → Zs H2 xs ys ts → Q (.ref p) H2
theorem vals_refs : ∀ ts : List Addr, Vals (ts.map V.ref) (ts.map Value.ref)
  | [] => .nil
  | t :: r => .cons rfl (vals_refs r)
/-- a fresh zip of two tuples -/
def AtZip (X : Cx) (pins : List (Addr × Obj)) (σ : L2.St) (R : List V → List V → Hp → Prop) : Value → Shared → Prop := fun x s1 => ∃ (z TI TO i1 i2 a b : Addr) (x0 y0 : Value) (xs ys : List V) (H1 : Hp), x = .ref z ∧ ZipApart z TI TO i1 i2 a b ∧ Inv X pins σ H1 s1 ∧ SqT X.K H1 a xs ∧ SqT X.K H1 b ys ∧
  IsZip s1.heap z TI TO .none ∧ IsPair s1.heap TI (.ref i1) (.ref i2) ∧ IsPair s1.heap TO x0 y0 ∧ s1.heap.IsTupleIter i1 a 0 ∧ s1.heap.IsTupleIter i2 b 0 ∧ (∀ c ∈ [z, TO, i1, i2], FpOk X pins H1 c) ∧ R xs ys H1
theorem eval_zip {e e2 : Expr} {ta : TA} {p pos : Pos} {pins : List (Addr × Obj)} {σ : L2.St} {H : Hp} {s : Shared} {R : List V → List V → Hp → Prop} (hg : Gl X "zip") (hm : X.mg "zip" = none) (ha : PA X [e, e2] ta) (I : Inv X pins σ H s)
    (h : ta σ H fun vs H1 => ∃ a b xs ys, vs = [V.ref a, V.ref b] ∧ SqT X.K H1 a xs ∧ SqT X.K H1 b ys ∧ R xs ys H1)
    (hs : starEach [e, e2] X.env = (false, eval e X.env) :: starEach [e2] X.env := by rfl) (hpl : (backTo pos (starEach [e2] X.env)).any (·.1) = false := by rfl) :
    wpAny (model X.prog X.w) X.A (eval (.Call (.Name "zip" p) [e, e2] [] pos) X.env) (AtZip X pins σ R) X.xe s := by
  refine Call_ (ld_blt I hg hm PyProof.Rows.boot_zip (PyProof.Rows.callWith_type1 (thn (ha.run pos pins s σ H _ I h) fun us s1 ⟨vs, H1, I1, r1, q1⟩ => ?_) hs hpl))
  obtain ⟨a, b, xs, ys, ex, qa, qb, q⟩ := q1
  subst ex
  cases r1 with
  | cons r rr =>
    cases rr with
    | cons r' rr =>
      cases rr
      cases r
      cases r'
      obtain ⟨its, rv, p1, _⟩ := I1.tuple qa
      obtain ⟨its2, rv2, p2, _⟩ := I1.tuple qb
      obtain ⟨o1, ho1, _⟩ := id p1
      obtain ⟨o2, ho2, _⟩ := id p2
      refine call_zipT (show s1.heap.IsTuple a its.toArray from p1) (show s1.heap.IsTuple b its2.toArray from p2) fun h' hz hTI hTO h1 h2 hsz hk => ?_
      have I2 : Inv X pins σ H1 { s1 with heap := h' } := I1.kept (t' := s1.toks) hk
      refine ⟨s1.heap.objs.size + 4, s1.heap.objs.size + 2, s1.heap.objs.size + 3, s1.heap.objs.size, s1.heap.objs.size + 1, a, b, _, _, xs, ys, H1, rfl, PySem.W.ktu_apart s1.heap.objs.size a b (Heap.lt_size ho1) (Heap.lt_size ho2), I2, qa, qb, hz, hTI, hTO, h1, h2, fun c hcm => ?_, q⟩
      have e' : c = s1.heap.objs.size + 4 ∨ c = s1.heap.objs.size + 3 ∨ c = s1.heap.objs.size ∨ c = s1.heap.objs.size + 1 := by simpa using hcm
      have hle : s1.heap.objs.size ≤ c := by
        rcases e' with z | z | z | z
        · rw [z]; exact Nat.le_add_right _ _
        · rw [z]; exact Nat.le_add_right _ _
        · rw [z]; exact Nat.le_refl _
        · rw [z]; exact Nat.le_add_right _ _
      exact I1.fpOk hle (I1.hok.fresh hle)
theorem pe_tupZip {e e2 : Expr} {ta : TA} {p p2 pos pos2 : Pos} (hc : X.calm = true) (hg : Gl X "tuple") (hm : X.mg "tuple" = none) (hg2 : Gl X "zip") (hm2 : X.mg "zip" = none) (ha : PA X [e, e2] ta)
    (hs : starEach [e, e2] X.env = (false, eval e X.env) :: starEach [e2] X.env := by rfl) (hpl : (backTo pos2 (starEach [e2] X.env)).any (·.1) = false := by rfl)
    (na : starEach [.Call (.Name "zip" p2) [e, e2] [] pos2] X.env = (false, eval (.Call (.Name "zip" p2) [e, e2] [] pos2) X.env) :: starEach [] X.env := by rfl) :
    PE X (.Call (.Name "tuple" p) [.Call (.Name "zip" p2) [e, e2] [] pos2] [] pos) (tTupZip X.K ta) := by
  refine ⟨fun pins s σ H Q I h => ?_⟩
  refine Call_ (ld_blt I hg hm boot_tuple (PyProof.Rows.callWith_type1 (args_cons (thn (eval_zip (R := fun xs ys H1 => xs.length = ys.length ∧ xs.length ≤ sizeLine ∧ ∀ (p : Addr) (ts : List Addr) H2, Same H1 H2 → H2 p = some (.tup (ts.map V.ref)) → ts.length = xs.length → Zs H2 xs ys ts → Q (.ref p) H2) hg2 hm2 ha I h hs hpl) fun x s1 hx => args_nil ?_) na) na))
  obtain ⟨z, TI, TO, i1, i2, a, b, x0, y0, xs, ys, H1, rfl, D, I1, qa, qb, hz, hTI, hTO, h1, h2, hf, hl, hn, q⟩ := hx
  refine call_tuple_zip (I1.ok.hd hc) D hl hn I1 qa qb hz hTI hTO h1 h2 hf fun s' H' ts I' sm hl' hz' => ?_
  have hno : H' s'.heap.objs.size = none := I'.hok.fresh (Nat.le_refl _)
  have sm2 := same_upd (o := .tup (ts.map V.ref)) hno
  exact ⟨.ref s'.heap.objs.size, upd H' s'.heap.objs.size (.tup (ts.map V.ref)), I'.laid (t' := s'.toks) (fun b o e => Heap.get?_push_of_some _ e) (Nat.le_refl _) (show ObjOk X.prog X.w _ _ _ (.tup (ts.map V.ref)) from ⟨by rw [List.length_map, hl']; exact hn, ts.map Value.ref, vals_refs ts, IsTup.new _ _⟩), rfl,
    q _ ts _ (sm.trans sm2) upd_same hl' (hz'.on sm2)⟩
end
end My

/-! My own rules: an operator between two instances of a class that has no reflected method for it. -/
namespace My
open PySem PySem.Spec PyProof.Rows L2
structure OpN (K : PySem.W.Frag) (C : Addr) (nm : String) (f : Addr) : Prop where
  sf : PySem.W.selfFirst K C = true
  ls : PySem.W.findIn K (.ref C) (PySem.dunder nm) = some (some (.ref f))
  lf : PySem.W.isFn K (.ref f) = true
section
variable {prog : Program} {w : World} {A : Around} {Ex : Value → Shared → Prop} {s : Shared} {K : PySem.W.Frag} {C f : Addr} {nm : String}
open PySem.W
theorem b1_ownN {x y : Addr} {odx ody : Option Obj} {ox oy : Obj} {Q : Value → Shared → Prop} (X : K.In s.heap) (O : OpN K C nm f) (I : InstAt s.heap x ox C odx) (J : InstAt s.heap y oy C ody)
    (h : wpAny (model prog w) A (call (.ref f) [.ref x, .ref y]) (PySem.W.CmpBack Q) Ex s) : wpAny (model prog w) A (binaryOp1 nm (.ref x) (.ref y)) (fun r s' => ∃ v, r = some v ∧ Q v s') Ex s := by
  obtain ⟨cd, rest, hcd, hm⟩ := ksp_first O.sf
  unfold binaryOp1
  refine wpAny_bind (I.type.here (wpAny_bind (J.type.here (wpAny_bind ((fills_K X hcd hm O.ls).here ?_)))))
  simp only [beq_self_eq_true, if_true]
  refine wpAny_bind (wpAny_pure ?_)
  simp only [Bool.and_false, Bool.false_eq_true, if_false, Bool.false_and]
  refine wpAny_bind (wpAny_pure ?_)
  simp only [Bool.false_eq_true, if_false]
  refine wpAny_bind (m := tryMethod (.ref x) _ (.ref y)) (wpAny_mono (ksp_try X I O.ls O.lf h) (fun r s' hr => ?_) fun _ _ e => e)
  obtain ⟨v, rfl, hq⟩ := hr
  exact wpAny_pure ⟨v, rfl, hq⟩
end
section
variable {X : Cx} {CX : CXT} {k : Nat} {C f : Addr} {fd : FuncData} {ps : List Str} {sp : Sp} {E : XK} {op : Operator}
theorem op_nn {nm : String} (hn : op.info.2 = nm) (O : OpN X.K C nm f) (F : FnOk X.prog X.w X.K X.mg X.base CX k f fd ps sp) (hr : Room k X.A) (hb : Binds X.K fd ps []) (hx : Passes CX X E) : OpR X (binaryOp op) (rOO C sp E) := by
  intro pins s σ H x y v u Q I rx ry h
  refine bin_of hn ?_
  obtain ⟨a, dx, fs, b, dy, gs, rfl, rfl, ea, eb, q⟩ := h
  obtain rfl : v = Value.ref a := rx
  obtain rfl : u = Value.ref b := ry
  obtain ⟨mA, J, _⟩ := ins_get I.hok ea
  obtain ⟨od, J, _⟩ := J.look
  obtain ⟨mB, J', _⟩ := ins_get I.hok eb
  obtain ⟨od', J', _⟩ := J'.look
  exact b1_ownN I.kIn O J J' (wpAny_mono (run_own (vs := [V.ref a, V.ref b]) F hr hb hx I (.cons rfl (.cons rfl .nil)) q) (fun _ _ z => back_of z) fun _ _ e => e)
theorem op_notInR {j : Nat} (hr : Room j X.A) : OpR X (compareOp .NotIn) (rNotInD X.K) := op_notInD (by have := hr.un; omega)
end
end My

/-! My own rule: several except clauses, each with a name of its own. -/
namespace My
open PySem PySem.Spec PyProof.Rows L2
/-- a clause: the class, the slot of its name, what its suite asks -/
abbrev Clause := Value × Nat × (Addr → Value → Option Addr → TS)
def wAsMany (K : PySem.W.Frag) (Wout : WX) (D : Ends) : List Clause → WX
  | [] => Wout
  | (c, i, ts) :: r => wAs K c i ts (wAsMany K Wout D r) D
inductive HdsAs (X : Cx) : List ExceptHandler → List Clause → Prop
  | nil : HdsAs X [] []
  | cons {x n : Str} {c : Value} {i : Nat} {ts : Addr → Value → Option Addr → TS} {b0 : Stmt} {suite : List Stmt} {np pos' : Pos} {hds : List ExceptHandler} {l : List Clause} (hi : X.N[i]? = some n) (hln : X.env.kindOf n = some .local) (hc : Names X x c)
      (hsu : ∀ (a : Addr) (oe : Obj) (cls : Value) (d : Option Addr) (pn : List (Addr × Obj)), Zc cls d oe → (∃ vs, oe.data = .fields vs) → PSs (X.suite a ((a, oe) :: pn)) (b0 :: suite) (ts a cls d)) (r : HdsAs X hds l) :
      HdsAs X (.ExceptHandler (some (.Name x np)) (some n) (b0 :: suite) pos' :: hds) ((c, i, ts) :: l)
section
variable {X : Cx} {body : List Stmt} {h0 : ExceptHandler} {hds : List ExceptHandler} {l : List Clause} {pos : Pos} {tb : WX → TS} {Wout : WX}
theorem ps_try_asMany (hs : X.stack = X.env :: X.outer) (hf : X.env.frame = some X.env.locals) (hN : X.N.Nodup) (tk : Takes X Wout)
    (hb : ∀ (W : WX) (pn : List (Addr × Obj)) (xe : Value → Shared → Prop), Takes (X.tr pn xe) W → PassesOwn (model X.prog X.w) X.A X.env xe → PSs (X.tr pn xe) body (tb W))
    (hh : HdsAs X (h0 :: hds) l) : PS X (.Try body (h0 :: hds) [] [] pos) (fun D σ H => tb (wAsMany X.K Wout D l) D σ H) := by
  refine ⟨fun pins s σ H D I h => ?_⟩
  have ok := I.ok
  have hfr : X.A.frames = some (X.env :: X.outer) := by rw [ok.frames, hs]
  refine wpAny_Try_except ?_
  refine wpAny_mono ((hb (wAsMany X.K Wout D l) (X.pn ++ pins) (fun e s1 => wpAny (model X.prog X.w) X.A (noteFrame e X.env) (fun _ s2 => wpAny (model X.prog X.w) X.A (setFlight e none) (fun _ s3 =>
    wpAny (model X.prog X.w) X.A (handleBy e X.env (h0 :: hds)) (SP X pins D) X.xe s3) X.xe s2) X.xe s1) (fun u s' xx => ?_) PassesOwn.looking).run [] s σ H D (I.toTry _) h) (fun f s1 hsp => ?_) (fun e s1 he => he)
  · obtain ⟨a, B, sI, pins', σ', H', cls, d, rfl, J', nb, up, sky, na, os, ag, w⟩ := xx
    have J : Inv X pins σ' H' sI := J'.ofTry ok
    have sky' : Sky B (X.env :: X.outer) a (Zc cls d) X.env.locals s'.heap := by rw [← hs]; exact sky
    show wpAny (model X.prog X.w) X.A (noteFrame (.ref a) X.env) _ _ _
    refine Sky.land Zc.steady hfr hf sky' fun h3 fl3 up3 => ?_
    have J3 : Inv X pins σ' H' { s' with heap := h3 } := J.landed nb fl3.1 (up.trans up3) os ag
    obtain ⟨oe3, vs3, he3, hz3, hd3⟩ := fl3.there
    have nfr : a ∉ frs (X.env :: X.outer) := fun hm => by
      obtain ⟨_, o', e', hnf⟩ := fl3.2.2.1.mem hm
      rw [he3] at e'; cases e'
      exact hnf _ hd3
    have nL : a ≠ X.env.locals := fun z => nfr (List.mem_filterMap.mpr ⟨X.env, List.mem_cons_self, by rw [hf, z]⟩)
    have nF : a ∉ X.fs := fun hm => by
      obtain ⟨e, he, q⟩ := List.mem_filterMap.mp hm
      exact nfr (List.mem_filterMap.mpr ⟨e, List.mem_cons_of_mem _ he, q⟩)
    have S3 := J3.suite he3 hd3 na nL nF
    have go : ∀ {hds' : List ExceptHandler} {l' : List Clause}, HdsAs X hds' l' → wAsMany X.K Wout D l' cls d σ' H' →
        wpAny (model X.prog X.w) X.A (handleBy (.ref a) X.env hds') (SP X pins D) X.xe { s' with heap := h3 } := by
      intro hds' l' hk
      induction hk with
      | nil =>
        intro w
        refine wpAny_handleBy_nil ?_
        obtain ⟨k1, k2, k3, oe, vs, T, oT, ts', he, hz, hd, h1, hr⟩ := id fl3
        unfold PySem.passOn
        refine wpAny_bind (wpAny_field he hd h1 ?_)
        rw [if_neg (show ¬ ((Value.ref T == Value.none) = true) from by simp)]
        have fin : wpAny (model X.prog X.w) X.A (setFlight (.ref a) X.env.frame) (fun _ s4 => wpAny (model X.prog X.w) X.A (throw (.ref a) : Sem Flow) (SP X pins D) X.xe s4) X.xe { s' with heap := h3 } := by
          rw [hf]
          refine HandSPX.setFlight_upZ fl3 fun h4 hh4 up4 => wpAny_throw (tk _ _ ?_)
          exact ⟨a, B, sI, pins, σ', H', cls, d, rfl, J, nb, (up.trans up3).trans up4, .inr (.inr (by rw [hs]; exact hh4)), na, os, ag, w⟩
        first
          | exact wpAny_bind (wpAny_pure (wpAny_bind fin))
          | exact wpAny_bind fin
      | @cons x n c i ts b0 suite np pos' hds2 l2 hi hln hc hsu r ih =>
        intro w
        obtain ⟨b, hb1, hyes, hno⟩ := w
        have hloc : Loc X.env.scope n := .inl hln
        refine wpAny_handleBy_cons (codeAny_handlers_test ?_) (by intro q; cases q)
        have LT : PySem.W.Looks (model X.prog X.w) h3 (typeOf (.ref a)) cls := fun A Q E s k q => wpAny_typeOf_ref (k _ _ he3) (by rw [hz3.1]; exact q)
        have LM := PySem.W.exm_one (M := model X.prog X.w) (J3.kIn) LT hb1
        have test : ∀ {Q : Value → Shared → Prop} {E : Value → Shared → Prop}, Q c { s' with heap := h3 } → wpAny (model X.prog X.w) (X.A.mark (some (.ref a))) (eval (.Name x np) X.env) Q E { s' with heap := h3 } := fun {Q E} q => by
          obtain ⟨hg, hdbg, hm | ⟨hm, hv, hnn⟩⟩ := hc
          · exact ld_glob (X := X.suite a ((a, oe3) :: (X.pn ++ pins))) S3 hg hm q hdbg
          · exact ld_blt (X := X.suite a ((a, oe3) :: (X.pn ++ pins))) S3 hg hm hv q hnn hdbg
        refine test (LM.here ?_)
        cases b with
        | true =>
          refine codeAny_handlers_suite_as ?_
          refine HandSPX.lands_againZ fl3 fun h4 fl4 up4 => ?_
          have J4 : Inv X pins σ' H' { s' with heap := h4 } := J.landed nb fl4.1 ((up.trans up3).trans up4) os ag
          obtain ⟨oe4, vs4, he4, hz4, hd4⟩ := fl4.there
          have S4 := J4.suite he4 hd4 na nL nF
          refine store_ok (X := X.suite a ((a, oe4) :: (X.pn ++ pins))) (v := .ref a) S4 hN hi hloc rfl (fun s5 S5 => ?_) (.inr hln)
          refine wpAny_mono ((hsu a oe4 cls d (X.pn ++ pins) hz4 ⟨_, hd4⟩).run [] s5 _ H' _ S5 (hyes rfl a na)) (fun f s6 hsp => ?_) (fun _ _ z => False.elim z)
          have end_ : ∀ {σ6 : L2.St} {H6 : Hp} {Q : Shared → Prop}, Inv (X.suite a ((a, oe4) :: (X.pn ++ pins))) [] σ6 H6 s6 → (∀ s7, Inv X pins (σ6.set i none) H6 s7 → Q s7) →
              wpAny (model X.prog X.w) X.A (do bindName X.env n .none; unbindBehindTheSuite X.env n pos') (fun _ s7 => Q s7) X.xe s6 := fun {σ6 H6 Q} S6 hq => gone_ok (S6.unsuite ok) hN hi hln hq
          cases f with
          | next =>
            obtain ⟨σ6, H6, S6, q6⟩ := hsp
            exact end_ S6 fun s7 J7 => ⟨_, _, J7, q6⟩
          | brk =>
            obtain ⟨σ6, H6, S6, q6⟩ := hsp
            exact end_ S6 fun s7 J7 => ⟨_, _, J7, q6⟩
          | cont =>
            obtain ⟨σ6, H6, S6, q6⟩ := hsp
            exact end_ S6 fun s7 J7 => ⟨_, _, J7, q6⟩
          | ret u =>
            obtain ⟨v6, σ6, H6, S6, r6, q6⟩ := hsp
            exact end_ S6 fun s7 J7 => ⟨_, _, _, J7, r6, q6⟩
        | false =>
          show wpAny _ X.A (handleBy (.ref a) X.env hds2) _ _ _
          exact ih (hno rfl)
    exact go hh w
  · cases f with
    | next =>
      obtain ⟨σ', H', J', q⟩ := hsp
      exact wpAny_execs_nil ⟨σ', H', J'.ofTry ok, q⟩
    | brk =>
      obtain ⟨σ', H', J', q⟩ := hsp
      exact ⟨σ', H', J'.ofTry ok, q⟩
    | cont =>
      obtain ⟨σ', H', J', q⟩ := hsp
      exact ⟨σ', H', J'.ofTry ok, q⟩
    | ret u =>
      obtain ⟨v, σ', H', J', r, q⟩ := hsp
      exact ⟨v, σ', H', J'.ofTry ok, r, q⟩
end
end My

/-! My own rules: o[k], o[k] = v, k in o, len(o) by the methods of an own class, also where they raise. -/
namespace My
open PySem PySem.Spec PyProof.Rows L2
/-- a method of the class for an operator -/
structure DunC (K : PySem.W.Frag) (C : Addr) (nm : Str) (f : Addr) : Prop where
  at_ : PySem.W.findIn K (.ref C) nm = some (some (.ref f))
  fn : PySem.W.isFn K (.ref f) = true
  fi : PySem.W.fnIn K f = true
  ns : PySem.W.noSeq K C = true
section
variable {X : Cx} {CX : CXT} {k : Nat} {C f : Addr} {fd : FuncData} {ps : List Str} {sp : Sp} {E : XK}
theorem passesAtOf {E : XK} (h : Passes CX X E) (σ : L2.St) : PassesAt CX X σ E := fun pins H s e s' I c => h pins σ H s e s' I c
theorem run_ownS {pins : List (Addr × Obj)} {s : Shared} {σ : L2.St} {H : Hp} {Q : VK} {us : List Value} {vs : List V} (F : FnOk X.prog X.w X.K X.mg X.base CX k f fd ps sp) (hr : Room k X.A) (hb : Binds X.K fd ps []) (hx : PassesAt CX X σ E)
    (I : Inv X pins σ H s) (r : Vals vs us) (h : sp vs H Q E) : wpAny (model X.prog X.w) X.A (call (.ref f) us) (EP X pins σ Q) X.xe s := by
  have hl : (us ++ []).length = ps.length := by
    rw [List.append_nil, ← F.len _ _ _ _ h]
    exact r.length.symm
  refine wpAny_call (codeAny_mono (F.run X.A X.stack s H ⟨us, []⟩ us vs _ E hr I.env0 (by
    have := hb s us I.kIn hl
    rw [List.append_nil] at this
    exact this) r h) fun r s' hq => ?_)
  cases r with
  | error e => exact hx pins H s e s' I hq
  | ok fl =>
    cases fl with
    | ret w => exact I.after hq
    | next => exact False.elim hq
    | brk => exact False.elim hq
    | cont => exact False.elim hq
theorem run_own1S {pins : List (Addr × Obj)} {s : Shared} {σ : L2.St} {H : Hp} {Q : VK} {us : List Value} {vs : List V} (F : FnOk X.prog X.w X.K X.mg X.base CX k f fd ps sp) (hr : Room (k + 1) X.A) (hb : Binds X.K fd ps []) (hx : PassesAt CX X σ E)
    (I : Inv X pins σ H s) (r : Vals vs us) (h : sp vs H Q E) : wpAny (model X.prog X.w) X.A.in1 (call (.ref f) us) (EP X pins σ Q) X.xe s := by
  have hl : (us ++ []).length = ps.length := by
    rw [List.append_nil, ← F.len _ _ _ _ h]
    exact r.length.symm
  refine wpAny_call (codeAny_mono (F.run X.A.in1 X.stack s H ⟨us, []⟩ us vs _ E hr.in1 I.env0.in1 (by
    have := hb s us I.kIn hl
    rw [List.append_nil] at this
    exact this) r h) fun r s' hq => ?_)
  cases r with
  | error e => exact hx pins H s e s' I hq
  | ok fl =>
    cases fl with
    | ret w => exact I.after hq
    | next => exact False.elim hq
    | brk => exact False.elim hq
    | cont => exact False.elim hq
/-! ### o[k] -/
def tGetO (C : Addr) (sp : Sp) (E : L2.St → XK) (ta tb : TE) : TE := fun σ H Q => ta σ H fun x H1 => tb σ H1 fun y H2 => ∃ a dx fs, x = V.ref a ∧ H2 a = some (.ins C dx fs) ∧ sp [.ref a, y] H2 Q (E σ)
theorem pe_getO {E : L2.St → XK} {a b : Expr} {ta tb : TE} {pos : Pos} (D : DunC X.K C "__getitem__" f) (F : FnOk X.prog X.w X.K X.mg X.base CX k f fd ps sp) (hr : Room (k + 1) X.A) (hb : Binds X.K fd ps []) (hx : ∀ σ, PassesAt CX X σ (E σ)) (pa : PE X a ta) (pb : PE X b tb)
    (hs : ∀ (x : Addr) (u : Value), subscripted b true (.ref x) u = runValue (.builtin "lifetime.subscript" ⟨[.ref x, u], []⟩)) : PE X (.Subscript a b pos) (tGetO C sp E ta tb) := by
  refine ⟨fun pins s σ H Q I h => ?_⟩
  refine Subscript_ (binT pa pb I (R := fun x y H2 => ∃ a dx fs, x = V.ref a ∧ H2 a = some (.ins C dx fs) ∧ sp [.ref a, y] H2 Q (E σ)) h fun v u s2 x y H2 I2 rx ry q => ?_)
  obtain ⟨p, dx, fs, rfl, ea, q⟩ := q
  obtain rfl : v = Value.ref p := rx
  obtain ⟨mA, J, _⟩ := ins_get I2.hok ea
  obtain ⟨od, J, _⟩ := J.look
  obtain ⟨m, hF⟩ := I2.fr
  exact PySem.W.sub_K hF I2.ok.mod.kin J D.at_ D.fi D.fn (run_own1S (vs := [V.ref p, y]) F hr hb (hx σ) I2 (.cons rfl (.cons ry .nil)) q) (hs p u)
/-! ### k in o -/
def rInI (C : Addr) (sp : Sp) (E : XK) (neg : Bool) : R2 := fun x y H Q => ∃ a dx fs, y = V.ref a ∧ H a = some (.ins C dx fs) ∧ sp [.ref a, x] H (fun v H' => ∃ b, v = .bl b ∧ Q (.bl (if neg then !b else b)) H') E
theorem op_inO (D : DunC X.K C "__contains__" f) (F : FnOk X.prog X.w X.K X.mg X.base CX k f fd ps sp) (hr : Room k X.A) (hb : Binds X.K fd ps []) (hx : Passes CX X E) : OpR X (compareOp .In) (rInI C sp E false) := by
  intro pins s σ H x y v u Q I rx ry h
  obtain ⟨p, dx, fs, rfl, ea, q⟩ := h
  obtain rfl : u = Value.ref p := ry
  obtain ⟨mA, J, _⟩ := ins_get I.hok ea
  obtain ⟨od, J, _⟩ := J.look
  obtain ⟨m, hF⟩ := I.fr
  refine PySem.W.in_K hF I.ok.mod.kin J D.at_ D.fn (wpAny_mono (run_ownS (vs := [V.ref p, x]) F hr hb (passesAtOf hx σ) I (.cons rfl (.cons rx .nil)) q) (fun r s' hr' => ?_) fun _ _ e => e)
  obtain ⟨z, H2, I2, rz, b, ez, q2⟩ := hr'
  subst ez
  obtain rfl : r = Value.bool b := rz
  exact wpAny_truthy_bool ⟨.bl b, H2, I2, rfl, q2⟩
theorem op_notInO (D : DunC X.K C "__contains__" f) (F : FnOk X.prog X.w X.K X.mg X.base CX k f fd ps sp) (hr : Room k X.A) (hb : Binds X.K fd ps []) (hx : Passes CX X E) : OpR X (compareOp .NotIn) (rInI C sp E true) := by
  intro pins s σ H x y v u Q I rx ry h
  obtain ⟨p, dx, fs, rfl, ea, q⟩ := h
  obtain rfl : u = Value.ref p := ry
  obtain ⟨mA, J, _⟩ := ins_get I.hok ea
  obtain ⟨od, J, _⟩ := J.look
  obtain ⟨m, hF⟩ := I.fr
  refine PySem.W.notIn_K hF I.ok.mod.kin J D.at_ D.fn (wpAny_mono (run_ownS (vs := [V.ref p, x]) F hr hb (passesAtOf hx σ) I (.cons rfl (.cons rx .nil)) q) (fun r s' hr' => ?_) fun _ _ e => e)
  obtain ⟨z, H2, I2, rz, b, ez, q2⟩ := hr'
  subst ez
  obtain rfl : r = Value.bool b := rz
  exact wpAny_truthy_bool ⟨.bl (!b), H2, I2, rfl, q2⟩
/-! ### len(o) -/
def rLenO (C : Addr) (sp : Sp) (E : XK) : List V → Hp → VK → Prop := fun xs H Q => ∃ a dx fs, xs = [V.ref a] ∧ H a = some (.ins C dx fs) ∧ sp [.ref a] H (fun v H' => ∃ n : Int, v = .int n ∧ 0 ≤ n ∧ n < 2 ^ 63 ∧ Q (.int n) H') E
theorem call_lenO (D : DunC X.K C "__len__" f) (F : FnOk X.prog X.w X.K X.mg X.base CX k f fd ps sp) (hr : Room (k + 1) X.A) (hb : Binds X.K fd ps []) (hx : Passes CX X E) : CallR X (.builtin "len") (rLenO C sp E) := by
  intro pins s σ H xs us Q I r h
  obtain ⟨p, dx, fs, rfl, ea, q⟩ := h
  obtain ⟨u, rfl, rx⟩ := vals1 r
  obtain rfl : u = Value.ref p := rx
  obtain ⟨mA, J, _⟩ := ins_get I.hok ea
  obtain ⟨od, J, _⟩ := J.look
  obtain ⟨m, hF⟩ := I.fr
  refine PySem.W.len_K hF I.ok.mod.kin J D.at_ D.fn (wpAny_mono (run_own1S (vs := [V.ref p]) F hr hb (passesAtOf hx σ) I (.cons rfl .nil) q) (fun r s' hr' => ?_) fun _ _ e => e)
  obtain ⟨z, H2, I2, rz, n, ez, n0, n1, q2⟩ := hr'
  subst ez
  obtain ⟨t, rfl⟩ := rz
  exact ⟨⟨n0, n1⟩, .int n, H2, I2.tok _, ⟨_, rfl⟩, q2⟩
/-! ### o[k] = v -/
def gSetO (C : Addr) (sp : Sp) (E : L2.St → XK) (to ti : TE) : TG := fun v σ H Q => to σ H fun o H1 => ti σ H1 fun i H2 => ∃ a dx fs, o = V.ref a ∧ H2 a = some (.ins C dx fs) ∧ sp [.ref a, i, v] H2 (fun _ H3 => Q σ H3) (E σ)
theorem pg_setO {E : L2.St → XK} {o i : Expr} {to ti : TE} {pos : Pos} (D : DunC X.K C "__setitem__" f) (F : FnOk X.prog X.w X.K X.mg X.base CX k f fd ps sp) (hr : Room k X.A) (hb : Binds X.K fd ps []) (hx : ∀ σ, PassesAt CX X σ (E σ)) (ho : PE X o to) (hi : PE X i ti)
    (ha : ∀ v, assign (.Subscript o i pos) X.env v = (do
      let ov ← holding [v] (eval o X.env)
      let iv ← holding [v, ov] (eval i X.env)
      standAt pos
      holding [v, ov, iv] (setItem ov iv v)
      release [v, ov, iv] []) := by intro _; rfl) : PG X (.Subscript o i pos) (gSetO C sp E to ti) := by
  refine ⟨fun pins s σ H v u Q I r h => ?_⟩
  rw [ha]
  refine wpAny_bind (wpAny_holding (thn (ho.run pins s σ H _ I h) fun ov s1 ⟨x, H1, I1, r1, q1⟩ => ?_))
  refine wpAny_bind (wpAny_holding (thn (hi.run pins s1 σ H1 _ I1 q1) fun iv s2 ⟨y, H2, I2, r2, q2⟩ => ?_))
  obtain ⟨p, dx, fs, rfl, ea, q⟩ := q2
  obtain rfl : ov = Value.ref p := r1
  obtain ⟨mA, J, _⟩ := ins_get I2.hok ea
  obtain ⟨od, J, _⟩ := J.look
  obtain ⟨m, hF⟩ := I2.fr
  refine wpAny_bind (wpAny_standAt (wpAny_bind (wpAny_holding (PySem.W.ksp_setItem hF I2.ok.mod.kin J D.ns D.at_ D.fn (wpAny_mono (run_ownS (vs := [V.ref p, y, v]) F hr hb (hx σ) I2 (.cons rfl (.cons r2 (.cons r .nil))) q) (fun r s3 hr' => ?_) fun _ _ e => e)))))
  obtain ⟨z, H3, I3, rz, q3⟩ := hr'
  exact wpAny_release ⟨σ, H3, I3, q3⟩
end
end My

/-! My own rules: a dict's display that begins with another dict; tuple(d) of a dict. -/
namespace My
open PySem PySem.Spec PyProof.Rows L2
section
variable {prog : Program} {w : World} {K : Type} [DecidableEq K] {knd : KeyKind prog w K} {A : Around} {E : Value → Shared → Prop} {s : Shared}
/-- one entry laid by the display's merge -/
theorem put_kv {a : Addr} {ps : List (K × Value)} {x : K} {u y : Value} {R : Unit → Shared → Prop} (hx : knd.is x u = true) (D : s.heap.DictOf knd a ps) (hl : ps.length ≤ sizeLine)
    (q : ∀ g, g.DictOf knd a (stored ps x y) → Heap.SameBut a s.heap g → R () { s with heap := g }) : wpAny (model prog w) A (dictPut a (knd.hash x) u y) R E s := by
  obtain ⟨ob, en, ep, e1, e2, e3, e4, e5, e6⟩ := D
  have len : en.size ≤ sizeLine := by
    have t := e5.length
    rw [Array.length_toList] at t
    omega
  have same : (en.findIdx? fun z => knd.is x z.key) = ps.findIdx? fun z => decide (z.1 = x) := by
    have t := e5.findIdx x
    obtain ⟨l⟩ := en
    simpa using t
  unfold dictPut
  refine wpAny_bind (wpAny_dictFind_of hx e1 e3 e4 ?_)
  cases hi : en.findIdx? fun z => knd.is x z.key with
  | none =>
    have out : x ∉ ps.map (·.1) := not_mem_of_findIdx_none (same ▸ hi)
    have none' : ¬ (ps.any fun z => decide (z.1 = x)) = true := fun t => by
      obtain ⟨z, z1, z2⟩ := List.any_eq_true.mp t
      exact out (List.mem_map.mpr ⟨z, z1, of_decide_eq_true z2⟩)
    refine wpAny_updateDictKeys (hz := len) e1 e3 (q _ ?_ (Heap.SameBut.update ..))
    refine ⟨_, _, ep + 1, Heap.get?_update_self _ e1 (Obj.isFreed_of_dict (Obj.data_mapDictKeys e3 _)), e2.mapDictKeys _, Obj.data_mapDictKeys e3 _, e4.push hx _, ?_, ?_⟩
    · rw [stored, if_neg none']
      have t := e5.append hx (knd.hash x) y
      obtain ⟨l⟩ := en
      simpa using t
    · rw [stored, if_neg none', List.map_append]
      refine List.nodup_append.mpr ⟨e6, by simp, fun c hc b hb => ?_⟩
      simp only [List.map_cons, List.map_nil, List.mem_singleton] at hb
      rw [hb]
      exact fun t => out (t ▸ hc)
  | some i =>
    have there := any_of_findIdx_some (same ▸ hi)
    have hi' : (en.toList.findIdx? fun z => knd.is x z.key) = some i := by
      rw [← hi]
      obtain ⟨l⟩ := en
      simp
    refine wpAny_updateDict e1 e3 (q _ ?_ (Heap.SameBut.update ..))
    refine ⟨_, _, ep, Heap.get?_update_self _ e1 (Obj.isFreed_of_dict (Obj.data_mapDict e3 _)), e2.mapDict _, Obj.data_mapDict e3 _, e4.modify _ _, ?_, ?_⟩
    · rw [stored, if_pos there]
      have t := e5.modify e6 hi' y
      obtain ⟨l⟩ := en
      simpa using t
    · rw [stored, if_pos there, keys_map_store]
      exact e6
theorem not_ref {P : Program} {W : World} {T : Type} [DecidableEq T] {kd : KeyKind P W T} {en : Array DictEntry} (h : KeysOf kd en) : ∀ z ∈ en.toList, ∀ a, z.key ≠ .ref a := fun z hz a e => by
  obtain ⟨x, hx, _⟩ := h z (by simpa using hz)
  have t := kd.byValue x z.key hx
  rw [e] at t
  cases t
/-- the display's merge of a whole dict into another -/
theorem merge_kv {a b : Addr} {ps qs : List (K × Value)} {R : Unit → Shared → Prop} (hab : a ≠ b) (hb : (b == sysModules) = false) (Da : s.heap.DictOf knd a ps) (Db : s.heap.DictOf knd b qs)
    (hl : ps.length + qs.length ≤ sizeLine) (q : ∀ g, g.DictOf knd a (merged ps qs) → Heap.SameBut a s.heap g → R () { s with heap := g }) :
    wpAny (model prog w) A (mergeMapping a (.ref b) false) R E s := by
  obtain ⟨oa, ea, epa, a1, a2, a3, a4, a5, a6⟩ := id Da
  obtain ⟨ob, eb, epb, b1, b2, b3, b4, b5, b6⟩ := id Db
  have lenb : eb.size = qs.length := by rw [← b5.length, Array.length_toList]
  unfold mergeMapping
  refine wpAny_bind (wpAny_isInstance Db.typeIs isSubtype_dict_dict ?_)
  dsimp only
  simp only [if_true]
  refine wpAny_bind (wpAny_specialOf Db.typeIs F.slot_dict_iter.lookup (wpAny_bind (wpAny_pure ?_)))
  rw [show (some (Value.builtin "dict.__iter__") == some (Value.builtin "dict.__iter__")) = true from beq_self_eq_true _]
  simp only [hb, Bool.false_eq_true, if_false]
  refine wpAny_bind (wpAny_dictEntries a1 a3 ?_)
  have main : ∀ s0 : Shared, s0 = s → wpAny (model prog w) A (do
      let l ← dictEntries b
      let e0 ← dictEpoch b
      forIn (List.range l.size) PUnit.unit fun i (_ : PUnit) => (do
          let l2 ← dictEntries b
          match l2[i]? with
            | some z => do
              holding [z.key, z.val] (dictPut a z.hash z.key z.val)
              let e2 ← dictEpoch b
              if (e2 != e0) = true then do
                  (unsupported "dict.changed-during-merge" : Sem PUnit)
                  pure (ForInStep.yield PUnit.unit)
                else pure (ForInStep.yield PUnit.unit)
            | _ => do
              (unsupported "dict.changed-during-merge" : Sem PUnit)
              pure (ForInStep.yield PUnit.unit) : Sem (ForInStep PUnit))
      pure ()) R E s0 := by
    intro s0 e0
    rw [e0]
    clear e0 s0
    refine wpAny_bind (wpAny_dictEntries b1 b3 ?_)
    refine wpAny_bind (wpAny_dictEpoch b1 b3 ?_)
    refine wpAny_bind ?_
    rw [List.range_eq_range']
    refine wpAny_forIn_list _ (fun left _ t => ∃ g n, t = { s with heap := g } ∧ left = List.range' n (eb.size - n) ∧ n ≤ eb.size ∧ g.DictOf knd a (merged ps (qs.take n)) ∧ g.get? b = some ob ∧ Heap.SameBut a s.heap g)
      _ ?_ ?_ _ _ ⟨s.heap, 0, rfl, by simp, Nat.zero_le _, by simpa [merged] using Da, b1, Heap.SameBut.refl _ _⟩
    · rintro n0 left _ t ⟨g, n, rfl, hr, hn, Dg, bg, sg⟩
      have lt : n < eb.size := by
        refine Nat.lt_of_le_of_ne hn fun e => ?_
        rw [e, Nat.sub_self] at hr
        cases hr
      have hr2 : n0 :: left = n :: List.range' (n + 1) (eb.size - (n + 1)) := by
        rw [hr, show eb.size - n = (eb.size - (n + 1)) + 1 from by omega, List.range'_succ]
      injection hr2 with r1 r2
      subst r1
      refine wpAny_bind (wpAny_dictEntries bg b3 ?_)
      rw [Array.getElem?_eq_getElem lt]
      have ltq : n0 < qs.length := by omega
      obtain ⟨⟨x, y⟩, hq⟩ : ∃ z, qs[n0]? = some z := ⟨qs[n0]'ltq, List.getElem?_eq_getElem _⟩
      obtain ⟨hk, hv⟩ := b5.get? (e := eb[n0]) (by simp [lt]) hq
      obtain ⟨x2, hk2, hh⟩ := b4 eb[n0] (Array.getElem_mem lt)
      have ex : x2 = x := knd.inj _ _ _ hk2 hk
      subst ex
      have few : (merged ps (qs.take n0)).length ≤ sizeLine := by
        have t1 := merged_length_le ps (qs.take n0)
        rw [List.length_take] at t1
        omega
      show wpAny _ _ (holding [eb[n0].key, eb[n0].val] (dictPut a eb[n0].hash eb[n0].key eb[n0].val) >>= _) _ _ _
      rw [hh, hv]
      refine wpAny_bind (wpAny_holding (put_kv hk Dg few fun g2 D2 s2 => ?_))
      have bg2 : g2.get? b = some ob := (s2.2 b (Ne.symm hab)).trans bg
      refine wpAny_bind (wpAny_dictEpoch bg2 b3 ?_)
      rw [if_neg (by simp)]
      exact wpAny_pure ⟨g2, n0 + 1, rfl, r2, lt, by rw [merged_take_succ ps qs n0 (x2, y) hq]; exact D2, bg2, sg.trans s2⟩
    · rintro _ t ⟨g, n, rfl, hr, hn, Dg, bg, sg⟩
      have en : n = eb.size := by
        refine Nat.le_antisymm hn (Nat.le_of_not_lt fun lt => ?_)
        rw [show eb.size - n = (eb.size - (n + 1)) + 1 from by omega, List.range'_succ] at hr
        cases hr
      refine wpAny_pure (q g ?_ sg)
      rw [en, lenb, List.take_length] at Dg
      exact Dg
  split
  · refine wpAny_bind (wpAny_dictEntries b1 b3 ?_)
    refine wpAny_bind ?_
    rw [← Array.forIn_toList]
    refine wpAny_forIn_list _ (fun left _ t => t = s ∧ ∀ z ∈ left, ∀ c, z.key ≠ .ref c) _ ?_ ?_ _ _ ⟨rfl, not_ref b4⟩
    · rintro z left _ t ⟨rfl, hz⟩
      split
      · rename_i c hc
        exact absurd hc (hz z List.mem_cons_self c)
      · exact wpAny_pure ⟨rfl, fun z2 h2 => hz z2 (List.mem_cons_of_mem _ h2)⟩
    · rintro _ t ⟨ht, _⟩
      exact main t ht
  · exact main _ rfl
end
section
variable {prog : Program} {w : World} {K : Type} [DecidableEq K] {knd : KeyKind prog w K} {A : Around} {E : Value → Shared → Prop} {s : Shared}
theorem display_kv {m k v : Sem Value} {R : Value → Shared → Prop}
    (h : wpAny (model prog w) A m (fun x s1 => ∃ b qs, x = .ref b ∧ s.heap.objs.size ≠ b ∧ (b == sysModules) = false ∧ s1.heap.DictOf knd s.heap.objs.size [] ∧ s1.heap.DictOf knd b qs ∧ qs.length < sizeLine ∧
      ∀ g, g.DictOf knd s.heap.objs.size qs → Heap.SameBut s.heap.objs.size s1.heap g →
        wpAny (model prog w) A k (fun y s2 => wpAny (model prog w) A v (fun z s3 => s.heap.objs.size ≠ g.objs.size ∧ (g.objs.size == sysModules) = false ∧ s3.heap.DictOf knd g.objs.size [] ∧ ∃ rs, s3.heap.DictOf knd s.heap.objs.size rs ∧ rs.length < sizeLine ∧ ∃ x0, knd.is x0 y = true ∧
          ∀ g2 g3, g2.DictOf knd g.objs.size [(x0, z)] → Heap.SameBut g.objs.size s3.heap g2 → g3.DictOf knd s.heap.objs.size (stored rs x0 z) → Heap.SameBut s.heap.objs.size g2 g3 →
            R (.ref s.heap.objs.size) { s3 with heap := g3, toks := s3.toks + 1 }) E s2) E { s1 with heap := g.push { cls := .type "dict", data := .dict #[] } }) E
      { s with heap := s.heap.push { cls := .type "dict", data := .dict #[] } }) :
    wpAny (model prog w) A (dictDisplay [(none, m), (some k, v)]) R E s := by
  unfold dictDisplay
  dsimp only
  simp only [List.forIn_cons, List.forIn_nil, List.isEmpty_nil, if_true, pure_bind, bind_pure_comp, bind_assoc]
  refine wpAny_bind (wpAny_alloc ?_)
  refine wpAny_bind (wpAny_holding (wpAny_mono h (fun x s1 h1 => ?_) fun _ _ e => e))
  obtain ⟨b, qs, rfl, hb, hsm, d0, db, hl, h1⟩ := h1
  refine wpAny_bind (wpAny_map (wpAny_onRaise (wpAny_tryCatch (wpAny_onRaise (wpAny_holding (merge_kv (knd := knd) hb hsm d0 db ?_ fun g dg sg => ?_))))))
  · rw [List.length_nil]; omega
  have nd : (qs.map (·.1)).Nodup := let ⟨_, _, _, _, _, _, _, _, hn⟩ := db; hn
  rw [merged_nil_of_nodup qs nd] at dg
  have h2 := h1 g dg sg
  clear h1
  dsimp only
  simp only [List.nil_append, List.length_cons, List.length_nil, show ((0 + 1 : Nat) == 17) = false from rfl, Bool.false_eq_true, if_false, pure_bind, List.isEmpty_cons]
  refine wpAny_bind (wpAny_bind (wpAny_holding (wpAny_subDict (knd := knd) (show 1 ≤ 15 from by decide) (evalPairs_cons (wpAny_mono h2 (fun y s2 h3 => wpAny_mono h3 (fun z s3 h4 => evalPairs_nil ?_) fun _ _ e => e) fun _ _ e => e)))))
  obtain ⟨ne, lo, d3, rs, p3, hr, x0, hx, fin⟩ := h4
  refine ⟨[(x0, z)], ⟨hx, rfl, True.intro⟩, d3, fun g2 d2 s2' => wpAny_map (wpAny_onRaise (wpAny_holding (merge_kv (knd := knd) (ps := rs) (qs := [(x0, z)]) ne lo (p3.sameBut s2' ne) d2 ?_ fun g3 d3' s3' => wpAny_pure (fin g2 g3 d2 s2' d3' s3'))))⟩
  rw [List.length_singleton]
  omega
end
section
variable {X : Cx}
/-- {**d, k: v}: p the new dict, q the one of the pair behind it -/
def tDispD (td tk tv : TE) : TE := fun σ H Q => ∀ p, H p = none → td σ (upd H p (.dK [])) fun x H1 => ∃ a kvs, x = .ref a ∧ H1 a = some (.dK kvs) ∧ a ≠ p ∧ H1 p = some (.dK []) ∧ kvs.length < sizeLine ∧
  ∀ q, (upd H1 p (.dK kvs)) q = none → tk σ (upd (upd H1 p (.dK kvs)) q (.dK [])) fun y H2 => tv σ H2 fun z H3 => H3 p = some (.dK kvs) ∧ H3 q = some (.dK []) ∧ ∃ k, y = kV k ∧ Q (.ref p) (upd (upd H3 q (.dK [(k, z)])) p (.dK (putK kvs k z)))
theorem pe_dispD {d k v : Expr} {pos : Pos} {td tk tv : TE} (hd : PE X d td) (hk : PE X k tk) (hv : PE X v tv) : PE X (.Dict [none, some k] [d, v] pos) (tDispD td tk tv) := by
  refine ⟨fun pins s σ H Q I h => ?_⟩
  have hn := I.hok.fresh (Nat.le_refl s.heap.objs.size)
  have I1 := I.laid (a := s.heap.objs.size) (o := .dK []) (h' := s.heap.push { cls := .type "dict", data := .dict #[] }) (t' := s.toks) (fun _ _ q => Heap.get?_push_of_some _ q) (Nat.le_refl _) (dk_empty s.heap I.big)
  rw [arm_eval_Dict]
  refine wpAny_bind (wpAny_standAt ?_)
  show wpAny _ _ (dictDisplay [(none, do let x ← eval d X.env; standAt pos; pure x), (some (eval k X.env), do let x ← eval v X.env; standAt pos; pure x)]) _ _ _
  refine display_kv (knd := mixKind X.prog X.w) (wpAny_bind (thn (hd.run pins _ σ _ _ I1 (h _ hn)) fun u s1 ⟨x, H1, I2, rel, a, kvs, ex, ea, hap, ep, hl, q⟩ => wpAny_bind (wpAny_standAt (wpAny_pure ?_))))
  subst ex
  cases rel
  obtain ⟨z1, lo, vs, r1, da⟩ := dk_of I2.hok ea
  obtain ⟨z2, lo2, vs2, r2, dp⟩ := dk_of I2.hok ep
  cases r2
  refine ⟨a, vs, rfl, Ne.symm hap, lo, dp, da, by rw [← r1.length]; exact hl, fun g dg sg => ?_⟩
  have hz : kvs.length ≤ sizeLine := Nat.le_of_lt hl
  have stays : ∀ {g : Heap} {b : Addr} {ps : List (Key × Value)}, g.DictOf (mixKind X.prog X.w) b ps → ∃ q, g.get? b = some q := fun t => let ⟨q, _, _, hq, _⟩ := t; ⟨q, hq⟩
  have I3 : Inv X pins σ (upd H1 s.heap.objs.size (.dK kvs)) { s1 with heap := g, toks := s1.toks } := d_write I2 (by rw [ep]; exact True.intro) sg (stays dg) (dk_new hz lo2 r1 dg)
  have hn2 := I3.hok.fresh (Nat.le_refl g.objs.size)
  have I4 := I3.laid (a := g.objs.size) (o := .dK []) (h' := g.push { cls := .type "dict", data := .dict #[] }) (t' := s1.toks) (fun _ _ q => Heap.get?_push_of_some _ q) (Nat.le_refl _) (dk_empty g I3.big)
  refine thn (hk.run pins _ σ _ _ I4 (q _ hn2)) fun y s2 ⟨y', H2, I5, ry, q2⟩ => wpAny_bind (thn (hv.run pins s2 σ H2 _ I5 q2) fun w' s3 ⟨z', H3, I6, rz, hp, hq, k0, ek, q3⟩ => wpAny_bind (wpAny_standAt (wpAny_pure ?_)))
  subst ek
  obtain ⟨z4, lo4, vs4, r4, d4⟩ := dk_of I6.hok hq
  cases r4
  obtain ⟨z5, lo5, vs5, r5, d5⟩ := dk_of I6.hok hp
  have ne : s.heap.objs.size ≠ g.objs.size := fun e => by
    rw [← e, upd_same] at hn2
    cases hn2
  have hz5 : vs5.length < sizeLine := by rw [← r5.length]; exact hl
  refine ⟨ne, lo4, d4, vs5, d5, hz5, k0, kV_is ry, fun g2 g3 e2 t2 e3 t3 => ?_⟩
  have I7 : Inv X pins σ (upd H3 g.objs.size (.dK [(k0, z')])) { s3 with heap := g2, toks := s3.toks } :=
    d_write I6 (by rw [hq]; exact True.intro) t2 (stays e2) (dk_new (by rw [List.length_singleton, sizeLine_eq]; omega) lo4 (.cons ⟨rfl, rz⟩ .nil) e2)
  have I8 : Inv X pins σ (upd (upd H3 g.objs.size (.dK [(k0, z')])) s.heap.objs.size (.dK (putK kvs k0 z'))) { s3 with heap := g3, toks := s3.toks + 1 } := by
    have len := length_putK kvs k0 z'
    have t := d_write (t' := s3.toks + 1) I7 (by rw [upd_ne ne, hp]; exact True.intro) t3 (stays e3) (dk_new (by omega) lo5 (r5.put k0 rz) e3)
    exact t
  exact ⟨.ref s.heap.objs.size, _, I8, rfl, q3⟩
end
section
open PySem.W
variable {prog : Program} {w : World} {A : Around} {E : Value → Shared → Prop} {s : Shared} {T : String} {r d : Addr} {n : Nat} {P : Nat → Value → Prop} {OK : Heap → Prop}
/-- what a source of keys gives, gathered -/
theorem gather_src {R : List Value → Shared → Prop} (C : KdlSrc prog w T r d n P OK) (hh : A.handled = none) (ok : OK s.heap) (hn : n ≤ sizeLine)
    (q : ∀ (g : Heap) (tk : Nat) (got : Array Value), (∀ b o, s.heap.get? b = some o → g.get? b = some o) → ItemsOf P got n → R got.toList { s with heap := g, toks := tk }) : wpAny (model prog w) A (collect (.ref r)) R E s := by
  unfold collect
  refine wpAny_bind (wpAny_runValue (codeAny_builtin F.entry_proto_collect ?_))
  rw [Around.under_plainId F.plain_proto_collect _]
  show wpAny _ A.in1 (newList [] >>= fun l => again (.builtin "list.__iadd__" ⟨[l, .ref r], []⟩)) _ _ s
  refine wpAny_bind (wpAny_newObj_type (wpAny_pure ⟨plainId_quiet F.plain_list_iadd _, codeAny_builtin F.entry_list_iadd ?_⟩))
  rw [Around.under_plainId F.plain_list_iadd _]
  show wpAny _ A.in1 (Builtin.List.listExtendWith (.ref s.heap.objs.size) (.ref r) (.ref s.heap.objs.size)) _ _ _
  have lt := C.there _ ok
  have at0 : (s.heap.push { cls := .type "list", data := .seq ([] : List Value).toArray }).get? s.heap.objs.size = some { cls := .type "list", data := .seq #[] 0 } := Heap.get?_push_size _ rfl
  refine wpAny_mono (kdl_extend (A := A) (s := { s with heap := s.heap.push { cls := .type "list", data := .seq ([] : List Value).toArray } })
    (R := fun z t => z = .ok (.ret (.ref s.heap.objs.size)) ∧ ∃ (g : Heap) (tk : Nat) (got : Array Value) (c : Nat), t = { s with heap := g, toks := tk } ∧ (∀ b o, s.heap.get? b = some o → g.get? b = some o) ∧
      g.get? s.heap.objs.size = some { cls := .type "list", dict := none, data := .seq got c, slots := #[] } ∧ ItemsOf P got n)
    C hh (C.keep _ _ ok fun b _ o e => Heap.get?_push_of_some _ e) s.heap.objs.size (Nat.ne_of_gt lt.1) (Nat.ne_of_gt lt.2) _ 0 at0
    (fun g tk got c hk e hi => ⟨rfl, g, tk, got, c, rfl, fun b o u => hk b o (Nat.ne_of_lt (Heap.lt_size u)) (Heap.get?_push_of_some _ u), e, hi⟩) hn) (fun fin t h => ?_) fun e t h => ?_
  · cases fin with
    | done f =>
      obtain ⟨e, g, tk, got, c, rfl, hk, hS, hi⟩ := h
      cases e
      show wpAny _ A (load s.heap.objs.size >>= _) _ _ _
      exact wpAny_bind (wpAny_load hS (wpAny_pure (q g tk got hk hi)))
    | again c' =>
      refine ⟨h.1, codeAny_mono h.2 fun z t' h' => ?_⟩
      obtain ⟨rfl, g, tk, got, c, rfl, hk, hS, hi⟩ := h'
      show wpAny _ A (load s.heap.objs.size >>= _) _ _ _
      exact wpAny_bind (wpAny_load hS (wpAny_pure (q g tk got hk hi)))
  · exact absurd h.1 (by simp)
theorem new_tup_src {R : Value → Shared → Prop} (C : KdlSrc prog w T r d n P OK) (hh : A.handled = none) (ok : OK s.heap) (hn : n ≤ sizeLine)
    (q : ∀ (g : Heap) (tk : Nat) (got : Array Value), (∀ b o, s.heap.get? b = some o → g.get? b = some o) → ItemsOf P got n → R (.ref g.objs.size) { s with heap := g.push { cls := .type "tuple", data := .seq got }, toks := tk }) :
    codeAny (model prog w) A (.call (.builtin "tuple.__new__") ⟨[.type "tuple", .ref r], []⟩) (wants R E) s := by
  refine codeAny_of_tree ?_
  show wpAny _ A.in1 (do checkBuiltinCall "tuple.__new__" ⟨[.type "tuple", .ref r], []⟩; again (.builtin "tuple.__new__" ⟨[.type "tuple", .ref r], []⟩)) _ _ s
  refine wpAny_bind (wpAny_of_eq (F.newCall_tuple_1 _) (wpAny_pure ⟨plainId_quiet F.plain_tuple_new _, codeAny_builtin F.entry_tuple_new ?_⟩))
  rw [Around.under_plainId F.plain_tuple_new _]
  have t1 := sub_tuple_self
  have t2 := init_tuple_lookup
  have t3 := madeHere_tuple
  have t4 := C.type s ok
  have t5 : A.in1.handled = none := hh
  have t6 := C.notTuple
  have t7 := C.notList
  wp_walk using wpAny_typeOf t4, gather_src (A := A.in1) C t5 ok hn
  intro g tk got hk hi
  show wpAny _ _ (Builtin.Tuple.tupleExact got.toList.toArray >>= fun v => ret v) _ _ _
  have e : got.toList.toArray = got := by simp
  unfold Builtin.Tuple.tupleExact
  rw [e]
  exact wpAny_bind (wpAny_newObj_type (wpAny_pure (q g tk got hk hi)) (by show got.size ≤ sizeLine; rw [hi.1]; exact hn))
theorem call_tup_src {R : Value → Shared → Prop} (C : KdlSrc prog w T r d n P OK) (hh : A.handled = none) (ok : OK s.heap) (hn : n ≤ sizeLine)
    (q : ∀ (g : Heap) (tk : Nat) (got : Array Value), (∀ b o, s.heap.get? b = some o → g.get? b = some o) → ItemsOf P got n → R (.ref g.objs.size) { s with heap := g.push { cls := .type "tuple", data := .seq got }, toks := tk }) :
    wpAny (model prog w) A (call (.type "tuple") [.ref r]) R E s := by
  refine callType_codes (Q₁ := fun u t => t.TypeIs u "tuple" ∧ R u t) F.called_tuple (F.typeCall_tuple_1 _) F.entry_object_init
    (new_tup_src (A := A.in1) C hh ok hn fun g tk got hk hi => ⟨⟨_, Heap.get?_push_size _ rfl, rfl⟩, q g tk got hk hi⟩) fun u t h => ?_
  exact ⟨h.1, F.args_object_init_2 u _, object_init_meets F.called_tuple.init.lookup F.called_tuple.made (by decide) prog w A.in1 _ t ⟨h.1, rfl, h.2⟩⟩
end
section
variable {X : Cx}
/-- tuple(d): a dict's keys -/
theorem call_tupD (hc : X.calm = true) : CallR X (.type "tuple") (fun xs H Q => ∃ (a : Addr) (kvs : List (Key × V)), xs = [.ref a] ∧ Rd H a (.dK kvs) ∧ ∀ p, H p = none → Q (.ref p) (upd H p (.tup (kvs.map fun kv => kV kv.1)))) := by
  intro pins s σ H xs us Q I r q
  obtain ⟨a, kvs, ex, hd, q⟩ := q
  subst ex
  obtain ⟨u, eu, rx⟩ := vals1 r
  subst eu
  cases rx
  obtain ⟨z, lo, vs, rel, dd⟩ := dk_rd I.hok hd
  obtain ⟨ep, hat⟩ := dd.dictAt
  have same : (kvs.map fun kv => kV kv.1) = vs.map fun p => kV p.1 := by
    have t := congrArg (List.map kV) rel.keys
    rw [List.map_map, List.map_map] at t
    exact t
  refine call_tup_src (PySem.W.kdl_dict (knd := mixKind X.prog X.w) (kvs := vs) (ep := ep) lo) (I.ok.hd hc) hat (by rw [← rel.length]; exact z) fun g tk got hk hi => ?_
  have rv : Vals (vs.map fun p => kV p.1) got.toList := keys_at (by rw [Array.length_toList]; exact hi.1) fun j v t => hi.2 j v (by rw [← Array.getElem?_toList]; exact t)
  have I1 : Inv X pins σ H { s with heap := g, toks := tk } := I.kept (t' := tk) hk
  have I2 : Inv X pins σ (upd H g.objs.size (.tup (kvs.map fun kv => kV kv.1))) { s with heap := g.push { cls := .type "tuple", data := .seq got }, toks := tk } :=
    I1.laid (t' := tk) (fun b o e => Heap.get?_push_of_some _ e) (Nat.le_refl _) (show ObjOk X.prog X.w _ _ _ (.tup (kvs.map fun kv => kV kv.1)) from ⟨by rw [List.length_map]; exact z, got.toList, by rw [same]; exact rv, by
      have e : got.toList.toArray = got := by simp
      rw [e]
      exact IsTup.new _ _⟩)
  exact ⟨.ref g.objs.size, _, I2, rfl, q _ (I1.hok.fresh (Nat.le_refl _))⟩
end
end My

/-! My own rules: o.m(k = v, ..) where the method may raise; a comprehension over d.items(). -/
namespace My
open PySem PySem.Spec PyProof.Rows L2
section
variable {X : Cx} {CX : CXT} {k : Nat} {C f : Addr} {fd : FuncData} {ps : List Str} {sp : Sp} {E : L2.St → XK}
variable {ks : List Str} {g : List Value → List Value → List Value} {gV : List V → List V → List V} {o : Expr} {m : Str} {pos apos : Pos} {kws : List Keyword} {ta : TE} {tk : TA}
/-- o.m(k = v, ..), nothing by place, what is let out wished for at the caller's slots -/
def tMethKE (C : Addr) (m : Str) (sp : Sp) (gV : List V → List V → List V) (E : L2.St → XK) (ta : TE) (tk : TA) : TE := fun σ H Q => ta σ H fun x H1 => ∃ a dx fs, x = .ref a ∧ H1 a = some (.ins C dx fs) ∧ fs.lookup m = none ∧ tk σ H1 fun zs H2 => sp (gV [x] zs) H2 Q (E σ)
theorem pe_methKE {pl : Sem Bool} (he : PE X o ta) (c : Cls X.K C) (hm : Meth X.K C m f) (F : FnOk X.prog X.w X.K X.mg X.base CX k f fd ps sp) (hr : Room k X.A) (hb : KBinds X.K fd ps ks g gV) (hx : ∀ σ, PassesAt CX X σ (E σ)) (hkw : PK X kws tk)
    (hall : (backToKw pos (keywordEach kws X.env)).all (·.1.isSome) = true := by rfl) (hks : (backToKw pos (keywordEach kws X.env)).filterMap (·.1) = ks := by rfl)
    (hpl : ((backTo pos (starEach [] X.env)).any (·.1) || (backToKw pos (keywordEach kws X.env)).any (·.1.isNone)) = false := by rfl)
    (ht : eval (.Call (.Attribute o m apos) [] kws pos) X.env = (do
      let ov ← eval o X.env
      standAt apos.atName
      let (f, first) ← holding [ov] (getMethod ov m pl)
      callWith pos f first (backTo pos (starEach [] X.env)) (backToKw pos (keywordEach kws X.env))) := by rfl) :
    PE X (.Call (.Attribute o m apos) [] kws pos) (tMethKE C m sp gV E ta tk) := by
  refine ⟨fun pins s σ H Q I h => ?_⟩
  refine PySem.W.methodCall_KW (pl := pl) (thn (he.run pins s σ H _ I h) fun u s1 ⟨x, H1, I1, rx, a, dx, fs, ex, ea, l, q⟩ => ?_) ht
  subst ex
  obtain rfl : u = Value.ref a := rx
  refine getmeth_ok I1 ea c hm l ?_
  refine PySem.W.callWith_KW0 (first := [.ref a]) (h₀ := X.base) I.ok.mod.kin hm.kp hall (thn (hkw.run pos pins s1 σ H1 _ I1 q) fun ws s2 ⟨zs, H2, I2, rz, q2⟩ => ⟨I2.kIn, ?_⟩) hpl
  rw [hks]
  exact run_fnkS (us := [.ref a]) (vs := [.ref a]) F hr hb (hx σ) I2 (.cons rfl .nil) rz q2
end
/-- a dict's comprehension over the items of a dict that is locked -/
theorem dc_items {d : Addr} {o : Obj} {kvs : List (Key × V)} {g : TG} {tt : TT} {tk tv : TE} {vs : List Nat} {σ : L2.St} {H1 : Hp} {D : Addr} {Qd : Hp → Prop} (Pv : Nat → Hp → Prop) (h0 : Pv 0 (upd H1 D (.dK []))) (hl : ∀ i H, i ≤ kvs.length → Pv i H → H d = some (.frz o (.dK kvs)))
    (hs : ∀ i k v T H, kvs[i]? = some (k, v) → Pv i H → H T = none → g (.ref T) (wipe σ vs) (upd H T (.tup [kV k, v])) fun σ2 H2 => wipe σ2 vs = wipe σ vs ∧ tt σ2 H2 fun b H3 =>
      if b = true then tk σ2 H3 fun y H4 => tv σ2 H4 fun z H5 => ∃ kvs k, y = kV k ∧ H5 D = some (.dK kvs) ∧ kvs.length < sizeLine ∧ Pv (i + 1) (upd H5 D (.dK (putK kvs k z))) else Pv (i + 1) H3) (hd : ∀ H, Pv kvs.length H → Qd H) :
    ∃ W : Nat → Nat → Hp → Prop, (∃ m, W 0 m (upd H1 D (.dK []))) ∧ ∀ i m H, W i m H →
      ((Iti d o kvs).stop i H ∧ Qd H) ∨ ((Iti d o kvs).go i H ∧ ∃ Nx : Hp → Prop, (∀ H', Nx H' → ∃ m', m' < m ∧ W (i + 1) m' H') ∧ ∀ x H', (Iti d o kvs).yld i H x H' → g x (wipe σ vs) H' fun σ2 H2 => wipe σ2 vs = wipe σ vs ∧ tt σ2 H2 fun b H3 =>
        if b = true then tk σ2 H3 fun y H4 => tv σ2 H4 fun z H5 => ∃ kvs k, y = kV k ∧ H5 D = some (.dK kvs) ∧ kvs.length < sizeLine ∧ Nx (upd H5 D (.dK (putK kvs k z))) else Nx H3) := by
  refine ⟨fun i m H => m = kvs.length - i ∧ i ≤ kvs.length ∧ Pv i H, ⟨kvs.length, by simp, Nat.zero_le _, h0⟩, ?_⟩
  rintro i m H ⟨rfl, hi, p⟩
  have q := hl i H hi p
  rcases Nat.lt_or_ge i kvs.length with lt | ge
  · refine .inr ⟨⟨q, lt⟩, Pv (i + 1), fun H' p' => ⟨kvs.length - (i + 1), by omega, rfl, lt, p'⟩, ?_⟩
    rintro x H' ⟨T, k, v, e, rfl, nT, rfl⟩
    exact hs i k v T H e p nT
  · have e : i = kvs.length := by omega
    subst e
    exact .inl ⟨⟨q, Nat.le_refl _⟩, hd H p⟩
end My

/-! My own rules: raise X(), X an own exception class without an own __init__; o.m() that may raise. -/
namespace My
open PySem PySem.Spec PyProof.Rows L2
section
variable {X : Cx}
theorem pmk_own0 {C : Addr} {bmB : List Value} {B newId initId : String} {x : Str} {p pos : Pos} (F : ExcBaseFacts B newId initId bmB) (q : PySem.W.excIn X.K C bmB newId = true) (gC : X.mg x = some (.ref C)) (kC : PySem.W.keepIn X.K (.ref C) = true) (r : Raises X (.ref C)) (hg : Gl X x) (hdb : (x == ("__debug__" : Str)) = false := by decide) :
    PMk X (.Call (.Name x p) [] [] pos) (fun _ H Q => Q (.ref C) none H) := by
  intro pins s σ H Q I h
  refine wpAny_Call_Name_kw (ld_glob I hg gC ?_ hdb)
  refine PySem.W.callWith_KW0 (h₀ := X.base) I.ok.mod.kin kC (by rfl) (thn (pk_nil.run pos pins s σ H (fun vs H1 => vs = [] ∧ H1 = H) I ⟨rfl, rfl⟩) fun ws s2 ⟨zs, H2, I2, rz, ez, eH⟩ => ⟨I2.kIn, ?_⟩) (by rfl)
  subst eH
  show wpAny _ _ (call (.ref C) []) _ _ _
  obtain ⟨bm, N, nm, qn, bs, hdct, sn, sub, ab, col, dd, k0, k1, k2, k3, k5, mN, hC, hN, hni, T⟩ := exc_obj I2.kIn q
  exact wpAny_call_exc_subT F T hC hN hni (fun h' e hm => mk_of I2 hm r h (I2.hok.gone hm.new)) (Nat.zero_le _)
end
/-- the receiver alone -/
def kFst {α : Type} (us _ : List α) : List α := us
theorem kbinds_alone {K : PySem.W.Frag} {fd : FuncData} {p1 : Str} (h : ∀ (s : Shared) (u : Value), BindsTo s fd ⟨[u], []⟩ [(p1, u)]) : KBinds K fd [p1] [] kFst kFst where
  to := fun s us ws _ hl => match us, hl with
    | [u], _ => h s u
  rel := fun r _ => r
end My

namespace My
open PySem PySem.Spec PyProof.Rows L2
def topS (i : Nat) : Stmt := PySem.Challenge.pw_extralink_k94_undo_all.main.body.getD i (.Pass ⟨0, 0, 0, 0⟩)
abbrev s_valid_name : Stmt := topS 16
theorem sc_valid_name : FnScope ["text", "char"] ["text"] (defScope s_valid_name) := ⟨rfl, rfl, rfl, by decide +kernel, rfl, by decide +kernel, by decide +kernel⟩
abbrev s_check_ends : Stmt := topS 23
theorem sc_check_ends : FnScope ["start", "end", "place"] ["start", "end"] (defScope s_check_ends) := ⟨rfl, rfl, rfl, by decide +kernel, rfl, by decide +kernel, by decide +kernel⟩
abbrev s_start : Stmt := topS 32
theorem sc_start : FnScope ["_law_script", "_law_cell"] ["_law_script"] (defScope s_start) := ⟨rfl, rfl, rfl, by decide +kernel, rfl, by decide +kernel, by decide +kernel⟩
abbrev s_take : Stmt := topS 33
theorem sc_take : FnScope ["_law_state", "_law_limit", "_law_cells", "_law_at", "_law_cell", "_law_number"] ["_law_state", "_law_limit"] (defScope s_take) := ⟨rfl, rfl, rfl, by decide +kernel, rfl, by decide +kernel, by decide +kernel⟩
abbrev s_good : Stmt := topS 34
theorem sc_good : FnScope ["_law_text", "_law_letters", "_law_char"] ["_law_text"] (defScope s_good) := ⟨rfl, rfl, rfl, by decide +kernel, rfl, by decide +kernel, by decide +kernel⟩
abbrev s_store : Stmt := topS 35
theorem sc_store : FnScope ["_law_book", "_law_name", "_law_ends_here", "e"] ["_law_book", "_law_name", "_law_ends_here"] (defScope s_store) := ⟨rfl, rfl, rfl, by decide +kernel, rfl, by decide +kernel, by decide +kernel⟩
abbrev s_drop : Stmt := topS 36
theorem sc_drop : FnScope ["_law_book", "_law_name", "e"] ["_law_book", "_law_name"] (defScope s_drop) := ⟨rfl, rfl, rfl, by decide +kernel, rfl, by decide +kernel, by decide +kernel⟩
abbrev s_undo : Stmt := topS 37
theorem sc_undo : FnScope ["_law_book"] ["_law_book"] (defScope s_undo) := ⟨rfl, rfl, rfl, by decide +kernel, rfl, by decide +kernel, by decide +kernel⟩
abbrev s_due_store : Stmt := topS 38
theorem sc_due_store : FnScope ["_law_entries", "_law_name", "_law_ends_here", "_law_text", "_law_item"] ["_law_entries", "_law_name", "_law_ends_here"] (defScope s_due_store) := ⟨rfl, rfl, rfl, by decide +kernel, rfl, by decide +kernel, by decide +kernel⟩
abbrev s_stored : Stmt := topS 39
theorem sc_stored : FnScope ["_law_entries", "_law_name", "_law_ends_here", "_law_item"] ["_law_entries", "_law_name", "_law_ends_here"] (defScope s_stored) := ⟨rfl, rfl, rfl, by decide +kernel, rfl, by decide +kernel, by decide +kernel⟩
abbrev s_missing : Stmt := topS 40
theorem sc_missing : FnScope ["_law_book", "_law_name", "_law_answer", "e"] ["_law_book", "_law_name"] (defScope s_missing) := ⟨rfl, rfl, rfl, by decide +kernel, rfl, by decide +kernel, by decide +kernel⟩
abbrev s_shows : Stmt := topS 41
theorem sc_shows : FnScope ["_law_book", "_law_entries", "_law_words", "_law_known", "_law_item", "_law_name"] ["_law_book", "_law_entries", "_law_words"] (defScope s_shows) := ⟨rfl, rfl, rfl, by decide +kernel, rfl, by decide +kernel, by decide +kernel⟩
abbrev s_ends : Stmt := topS 42
theorem sc_ends : FnScope ["_law_state", "_law_spots", "_law_low", "_law_high"] ["_law_state"] (defScope s_ends) := ⟨rfl, rfl, rfl, by decide +kernel, rfl, by decide +kernel, by decide +kernel⟩
abbrev s_change : Stmt := topS 43
theorem sc_change : FnScope ["_law_state", "_law_book", "_law_past", "_law_words", "_law_entries", "_law_name", "_law_known", "_law_ends_here", "_law_due", "_law_item"] ["_law_state", "_law_book", "_law_past", "_law_words"] (defScope s_change) := ⟨rfl, rfl, rfl, by decide +kernel, rfl, by decide +kernel, by decide +kernel⟩
abbrev s_back : Stmt := topS 44
theorem sc_back : FnScope ["_law_book", "_law_past"] ["_law_book", "_law_past"] (defScope s_back) := ⟨rfl, rfl, rfl, by decide +kernel, rfl, by decide +kernel, by decide +kernel⟩
abbrev s_law : Stmt := topS 45
theorem sc_law : FnScope ["_law_script", "_law_state", "_law_words", "_law_books", "_law_pasts", "_law_turn", "_law_k", "_law_j"] ["_law_script"] (defScope s_law) := ⟨rfl, rfl, rfl, by decide +kernel, rfl, by decide +kernel, by decide +kernel⟩
abbrev s_BadName_init : Stmt := inClass (topS 3) 0
theorem sc_BadName_init : FnScope ["self", "name"] ["self", "name"] (defScope s_BadName_init) := ⟨rfl, rfl, rfl, by decide +kernel, rfl, by decide +kernel, by decide +kernel⟩
abbrev s_DuplicateName_init : Stmt := inClass (topS 4) 0
theorem sc_DuplicateName_init : FnScope ["self", "name"] ["self", "name"] (defScope s_DuplicateName_init) := ⟨rfl, rfl, rfl, by decide +kernel, rfl, by decide +kernel, by decide +kernel⟩
abbrev s_UnknownName_init : Stmt := inClass (topS 5) 0
theorem sc_UnknownName_init : FnScope ["self", "name"] ["self", "name"] (defScope s_UnknownName_init) := ⟨rfl, rfl, rfl, by decide +kernel, rfl, by decide +kernel, by decide +kernel⟩
abbrev s_BadCount_init : Stmt := inClass (topS 6) 0
theorem sc_BadCount_init : FnScope ["self", "count"] ["self", "count"] (defScope s_BadCount_init) := ⟨rfl, rfl, rfl, by decide +kernel, rfl, by decide +kernel, by decide +kernel⟩
abbrev s_Book_init : Stmt := inClass (topS 30) 0
theorem sc_Book_init : FnScope ["self", "start", "end"] ["self", "start", "end"] (defScope s_Book_init) := ⟨rfl, rfl, rfl, by decide +kernel, rfl, by decide +kernel, by decide +kernel⟩
abbrev s_Book_order : Stmt := inClass (topS 30) 1
theorem sc_Book_order : FnScope ["self"] ["self"] (defScope s_Book_order) := ⟨rfl, rfl, rfl, by decide +kernel, rfl, by decide +kernel, by decide +kernel⟩
abbrev s_Book_drop : Stmt := inClass (topS 30) 2
theorem sc_Book_drop : FnScope ["self", "name", "other", "ends"] ["self", "name"] (defScope s_Book_drop) := ⟨rfl, rfl, rfl, by decide +kernel, rfl, by decide +kernel, by decide +kernel⟩
abbrev s_Book_undo : Stmt := inClass (topS 30) 3
theorem sc_Book_undo : FnScope ["self"] ["self"] (defScope s_Book_undo) := ⟨rfl, rfl, rfl, by decide +kernel, rfl, by decide +kernel, by decide +kernel⟩
abbrev s_Book_getitem : Stmt := inClass (topS 30) 7
theorem sc_Book_getitem : FnScope ["self", "name"] ["self", "name"] (defScope s_Book_getitem) := ⟨rfl, rfl, rfl, by decide +kernel, rfl, by decide +kernel, by decide +kernel⟩
abbrev s_Book_setitem : Stmt := inClass (topS 30) 8
theorem sc_Book_setitem : FnScope ["self", "name", "ends", "tail", "head", "word"] ["self", "name", "ends"] (defScope s_Book_setitem) := ⟨rfl, rfl, rfl, by decide +kernel, rfl, by decide +kernel, by decide +kernel⟩
abbrev s_Book_contains : Stmt := inClass (topS 30) 10
theorem sc_Book_contains : FnScope ["self", "name"] ["self", "name"] (defScope s_Book_contains) := ⟨rfl, rfl, rfl, by decide +kernel, rfl, by decide +kernel, by decide +kernel⟩
abbrev s_Book_len : Stmt := inClass (topS 30) 11
theorem sc_Book_len : FnScope ["self"] ["self"] (defScope s_Book_len) := ⟨rfl, rfl, rfl, by decide +kernel, rfl, by decide +kernel, by decide +kernel⟩
set_option maxHeartbeats 0 in
structure Txt (K : PySem.W.Frag) (mg : Str → Option Value) where
  f_BadName : Addr
  m_BadName : mg "BadName" = some (.ref f_BadName)
  f_DuplicateName : Addr
  m_DuplicateName : mg "DuplicateName" = some (.ref f_DuplicateName)
  f_UnknownName : Addr
  m_UnknownName : mg "UnknownName" = some (.ref f_UnknownName)
  f_BadCount : Addr
  m_BadCount : mg "BadCount" = some (.ref f_BadCount)
  f_Book : Addr
  m_Book : mg "Book" = some (.ref f_Book)
  cl_Book : Cls K f_Book
  ic_Book : C8.InsC K f_Book
  na_Book_start : NoAttr K f_Book "_start"
  na_Book_end : NoAttr K f_Book "_end"
  na_Book_links : NoAttr K f_Book "_links"
  na_Book_past : NoAttr K f_Book "_past"
  f_Network : Addr
  m_Network : mg "Network" = some (.ref f_Network)
  f_NothingToUndo : Addr
  m_NothingToUndo : mg "NothingToUndo" = some (.ref f_NothingToUndo)
  f_valid_name : Addr
  d_valid_name : FuncData
  F_valid_name : Fun K "valid_name" "valid_name" s_valid_name f_valid_name d_valid_name
  b_valid_name : Binds K d_valid_name ["text"] []
  m_valid_name : mg "valid_name" = some (.ref f_valid_name)
  f_check_ends : Addr
  d_check_ends : FuncData
  F_check_ends : Fun K "check_ends" "check_ends" s_check_ends f_check_ends d_check_ends
  b_check_ends : Binds K d_check_ends ["start", "end"] []
  m_check_ends : mg "check_ends" = some (.ref f_check_ends)
  f_start : Addr
  d_start : FuncData
  F_start : Fun K "_law_start" "_law_start" s_start f_start d_start
  b_start : Binds K d_start ["_law_script"] []
  m_start : mg "_law_start" = some (.ref f_start)
  f_take : Addr
  d_take : FuncData
  F_take : Fun K "_law_take" "_law_take" s_take f_take d_take
  b_take : Binds K d_take ["_law_state", "_law_limit"] []
  m_take : mg "_law_take" = some (.ref f_take)
  f_good : Addr
  d_good : FuncData
  F_good : Fun K "_law_good" "_law_good" s_good f_good d_good
  b_good : Binds K d_good ["_law_text"] []
  m_good : mg "_law_good" = some (.ref f_good)
  f_store : Addr
  d_store : FuncData
  F_store : Fun K "_law_store" "_law_store" s_store f_store d_store
  b_store : Binds K d_store ["_law_book", "_law_name", "_law_ends_here"] []
  m_store : mg "_law_store" = some (.ref f_store)
  f_drop : Addr
  d_drop : FuncData
  F_drop : Fun K "_law_drop" "_law_drop" s_drop f_drop d_drop
  b_drop : Binds K d_drop ["_law_book", "_law_name"] []
  m_drop : mg "_law_drop" = some (.ref f_drop)
  f_undo : Addr
  d_undo : FuncData
  F_undo : Fun K "_law_undo" "_law_undo" s_undo f_undo d_undo
  b_undo : Binds K d_undo ["_law_book"] []
  m_undo : mg "_law_undo" = some (.ref f_undo)
  f_due_store : Addr
  d_due_store : FuncData
  F_due_store : Fun K "_law_due_store" "_law_due_store" s_due_store f_due_store d_due_store
  b_due_store : Binds K d_due_store ["_law_entries", "_law_name", "_law_ends_here"] []
  m_due_store : mg "_law_due_store" = some (.ref f_due_store)
  f_stored : Addr
  d_stored : FuncData
  F_stored : Fun K "_law_stored" "_law_stored" s_stored f_stored d_stored
  b_stored : Binds K d_stored ["_law_entries", "_law_name", "_law_ends_here"] []
  m_stored : mg "_law_stored" = some (.ref f_stored)
  f_missing : Addr
  d_missing : FuncData
  F_missing : Fun K "_law_missing" "_law_missing" s_missing f_missing d_missing
  b_missing : Binds K d_missing ["_law_book", "_law_name"] []
  m_missing : mg "_law_missing" = some (.ref f_missing)
  f_shows : Addr
  d_shows : FuncData
  F_shows : Fun K "_law_shows" "_law_shows" s_shows f_shows d_shows
  b_shows : Binds K d_shows ["_law_book", "_law_entries", "_law_words"] []
  m_shows : mg "_law_shows" = some (.ref f_shows)
  f_ends : Addr
  d_ends : FuncData
  F_ends : Fun K "_law_ends" "_law_ends" s_ends f_ends d_ends
  b_ends : Binds K d_ends ["_law_state"] []
  m_ends : mg "_law_ends" = some (.ref f_ends)
  f_change : Addr
  d_change : FuncData
  F_change : Fun K "_law_change" "_law_change" s_change f_change d_change
  b_change : Binds K d_change ["_law_state", "_law_book", "_law_past", "_law_words"] []
  m_change : mg "_law_change" = some (.ref f_change)
  f_back : Addr
  d_back : FuncData
  F_back : Fun K "_law_back" "_law_back" s_back f_back d_back
  b_back : Binds K d_back ["_law_book", "_law_past"] []
  m_back : mg "_law_back" = some (.ref f_back)
  f_BadName_init : Addr
  d_BadName_init : FuncData
  F_BadName_init : Fun K "__init__" "BadName.__init__" s_BadName_init f_BadName_init d_BadName_init
  b_BadName_init : Binds K d_BadName_init ["self", "name"] []
  a_BadName_init : PySem.W.findIn K (.ref f_BadName) "__init__" = some (some (.ref f_BadName_init))
  i_BadName_init : PySem.W.isFn K (.ref f_BadName_init) = true
  f_DuplicateName_init : Addr
  d_DuplicateName_init : FuncData
  F_DuplicateName_init : Fun K "__init__" "DuplicateName.__init__" s_DuplicateName_init f_DuplicateName_init d_DuplicateName_init
  b_DuplicateName_init : Binds K d_DuplicateName_init ["self", "name"] []
  a_DuplicateName_init : PySem.W.findIn K (.ref f_DuplicateName) "__init__" = some (some (.ref f_DuplicateName_init))
  i_DuplicateName_init : PySem.W.isFn K (.ref f_DuplicateName_init) = true
  f_UnknownName_init : Addr
  d_UnknownName_init : FuncData
  F_UnknownName_init : Fun K "__init__" "UnknownName.__init__" s_UnknownName_init f_UnknownName_init d_UnknownName_init
  b_UnknownName_init : Binds K d_UnknownName_init ["self", "name"] []
  a_UnknownName_init : PySem.W.findIn K (.ref f_UnknownName) "__init__" = some (some (.ref f_UnknownName_init))
  i_UnknownName_init : PySem.W.isFn K (.ref f_UnknownName_init) = true
  f_BadCount_init : Addr
  d_BadCount_init : FuncData
  F_BadCount_init : Fun K "__init__" "BadCount.__init__" s_BadCount_init f_BadCount_init d_BadCount_init
  b_BadCount_init : Binds K d_BadCount_init ["self", "count"] []
  a_BadCount_init : PySem.W.findIn K (.ref f_BadCount) "__init__" = some (some (.ref f_BadCount_init))
  i_BadCount_init : PySem.W.isFn K (.ref f_BadCount_init) = true
  f_Book_init : Addr
  d_Book_init : FuncData
  F_Book_init : Fun K "__init__" "Book.__init__" s_Book_init f_Book_init d_Book_init
  b_Book_init : Binds K d_Book_init ["self", "start", "end"] []
  a_Book_init : PySem.W.findIn K (.ref f_Book) "__init__" = some (some (.ref f_Book_init))
  i_Book_init : PySem.W.isFn K (.ref f_Book_init) = true
  mk_Book : Mk K f_Book f_Book_init
  f_Book_order : Addr
  d_Book_order : FuncData
  F_Book_order : Fun K "order" "Book.order" s_Book_order f_Book_order d_Book_order
  b_Book_order : Binds K d_Book_order ["self"] []
  p0_Book_order : Addr
  p_Book_order : PropOf K f_Book "order" p0_Book_order f_Book_order
  f_Book_drop : Addr
  d_Book_drop : FuncData
  F_Book_drop : Fun K "drop" "Book.drop" s_Book_drop f_Book_drop d_Book_drop
  b_Book_drop : Binds K d_Book_drop ["self", "name"] []
  a_Book_drop : PySem.W.findIn K (.ref f_Book) "drop" = some (some (.ref f_Book_drop))
  i_Book_drop : PySem.W.isFn K (.ref f_Book_drop) = true
  f_Book_undo : Addr
  d_Book_undo : FuncData
  F_Book_undo : Fun K "undo" "Book.undo" s_Book_undo f_Book_undo d_Book_undo
  b_Book_undo : Binds K d_Book_undo ["self"] []
  a_Book_undo : PySem.W.findIn K (.ref f_Book) "undo" = some (some (.ref f_Book_undo))
  i_Book_undo : PySem.W.isFn K (.ref f_Book_undo) = true
  f_Book_getitem : Addr
  d_Book_getitem : FuncData
  F_Book_getitem : Fun K "__getitem__" "Book.__getitem__" s_Book_getitem f_Book_getitem d_Book_getitem
  b_Book_getitem : Binds K d_Book_getitem ["self", "name"] []
  a_Book_getitem : PySem.W.findIn K (.ref f_Book) "__getitem__" = some (some (.ref f_Book_getitem))
  i_Book_getitem : PySem.W.isFn K (.ref f_Book_getitem) = true
  f_Book_setitem : Addr
  d_Book_setitem : FuncData
  F_Book_setitem : Fun K "__setitem__" "Book.__setitem__" s_Book_setitem f_Book_setitem d_Book_setitem
  b_Book_setitem : Binds K d_Book_setitem ["self", "name", "ends"] []
  a_Book_setitem : PySem.W.findIn K (.ref f_Book) "__setitem__" = some (some (.ref f_Book_setitem))
  i_Book_setitem : PySem.W.isFn K (.ref f_Book_setitem) = true
  f_Book_contains : Addr
  d_Book_contains : FuncData
  F_Book_contains : Fun K "__contains__" "Book.__contains__" s_Book_contains f_Book_contains d_Book_contains
  b_Book_contains : Binds K d_Book_contains ["self", "name"] []
  a_Book_contains : PySem.W.findIn K (.ref f_Book) "__contains__" = some (some (.ref f_Book_contains))
  i_Book_contains : PySem.W.isFn K (.ref f_Book_contains) = true
  f_Book_len : Addr
  d_Book_len : FuncData
  F_Book_len : Fun K "__len__" "Book.__len__" s_Book_len f_Book_len d_Book_len
  b_Book_len : Binds K d_Book_len ["self"] []
  a_Book_len : PySem.W.findIn K (.ref f_Book) "__len__" = some (some (.ref f_Book_len))
  i_Book_len : PySem.W.isFn K (.ref f_Book_len) = true
  me_Book_drop : Meth K f_Book "drop" f_Book_drop
  me_Book_undo : Meth K f_Book "undo" f_Book_undo
  cr_Network : ClX.CRead K f_Network (.type "type")
  tv_Network_MOST_LINKS : Tok
  cv_Network_MOST_LINKS : ClX.CVal K f_Network (.type "type") "MOST_LINKS" (V.int 10) (.int 10 tv_Network_MOST_LINKS)
  dn_Book_getitem : DunC K f_Book "__getitem__" f_Book_getitem
  dn_Book_setitem : DunC K f_Book "__setitem__" f_Book_setitem
  dn_Book_contains : DunC K f_Book "__contains__" f_Book_contains
  dn_Book_len : DunC K f_Book "__len__" f_Book_len
  kbm_Book_undo : KBinds K d_Book_undo ["self"] [] kFst kFst
  ox_BadName : OexC K f_BadName
  ix_BadName : PySem.W.findIn K (.ref f_BadName) "__init__" = some (some (.ref f_BadName_init))
  tx_BadName : PySem.W.typeIn K (.ref f_BadName_init) = some (.type "function")
  xf_BadName : XfC K f_BadName
  ec_BadName : ExcC K f_BadName
  no_BadName_name : PySem.W.findIn K (.ref f_BadName) "name" = some none
  ox_DuplicateName : OexC K f_DuplicateName
  ix_DuplicateName : PySem.W.findIn K (.ref f_DuplicateName) "__init__" = some (some (.ref f_DuplicateName_init))
  tx_DuplicateName : PySem.W.typeIn K (.ref f_DuplicateName_init) = some (.type "function")
  xf_DuplicateName : XfC K f_DuplicateName
  ec_DuplicateName : ExcC K f_DuplicateName
  no_DuplicateName_name : PySem.W.findIn K (.ref f_DuplicateName) "name" = some none
  ox_UnknownName : OexC K f_UnknownName
  ix_UnknownName : PySem.W.findIn K (.ref f_UnknownName) "__init__" = some (some (.ref f_UnknownName_init))
  tx_UnknownName : PySem.W.typeIn K (.ref f_UnknownName_init) = some (.type "function")
  xf_UnknownName : XfC K f_UnknownName
  ec_UnknownName : ExcC K f_UnknownName
  no_UnknownName_name : PySem.W.findIn K (.ref f_UnknownName) "name" = some none
  ox_BadCount : OexC K f_BadCount
  ix_BadCount : PySem.W.findIn K (.ref f_BadCount) "__init__" = some (some (.ref f_BadCount_init))
  tx_BadCount : PySem.W.typeIn K (.ref f_BadCount_init) = some (.type "function")
  xf_BadCount : XfC K f_BadCount
  ec_BadCount : ExcC K f_BadCount
  no_BadCount_count : PySem.W.findIn K (.ref f_BadCount) "count" = some none
  xq_NothingToUndo : PySem.W.excIn K f_NothingToUndo [.type "ValueError", .type "Exception", .type "BaseException", .type "object"] "ValueError.__new__" = true
  xk_NothingToUndo : PySem.W.keepIn K (.ref f_NothingToUndo) = true
  xt_NothingToUndo : PySem.W.typeIn K (.ref f_NothingToUndo) = some (.type "type")
  ec_NothingToUndo : ExcC K f_NothingToUndo
  es_BadName_BadName : PySem.W.subIn K (.ref f_BadName) (.ref f_BadName) = some true
  xi_BadName_BadName : PySem.W.isClsIn K f_BadName = true
  xt_BadName_BadName : PySem.W.typeIn K (.ref f_BadName) = some (.type "type")
  es_UnknownName_UnknownName : PySem.W.subIn K (.ref f_UnknownName) (.ref f_UnknownName) = some true
  xi_UnknownName_UnknownName : PySem.W.isClsIn K f_UnknownName = true
  xt_UnknownName_UnknownName : PySem.W.typeIn K (.ref f_UnknownName) = some (.type "type")
  es_BadCount_BadCount : PySem.W.subIn K (.ref f_BadCount) (.ref f_BadCount) = some true
  xi_BadCount_BadCount : PySem.W.isClsIn K f_BadCount = true
  xt_BadCount_BadCount : PySem.W.typeIn K (.ref f_BadCount) = some (.type "type")
  es_BadCount_BadName : PySem.W.subIn K (.ref f_BadCount) (.ref f_BadName) = some false
  neq_BadCount_BadName : Value.ref f_BadCount ≠ Value.ref f_BadName
  xi_BadCount_BadName : PySem.W.isClsIn K f_BadName = true
  xt_BadCount_BadName : PySem.W.typeIn K (.ref f_BadName) = some (.type "type")
  es_NothingToUndo_NothingToUndo : PySem.W.subIn K (.ref f_NothingToUndo) (.ref f_NothingToUndo) = some true
  xi_NothingToUndo_NothingToUndo : PySem.W.isClsIn K f_NothingToUndo = true
  xt_NothingToUndo_NothingToUndo : PySem.W.typeIn K (.ref f_NothingToUndo) = some (.type "type")
  t_DIGITS : Tok
  c_DIGITS : mg "DIGITS" = some (.str ("0123456789" : Str) t_DIGITS)
  t_LETTERS : Tok
  c_LETTERS : mg "LETTERS" = some (.str ("abcdefghijklmnopqrstuvwxyz" : Str) t_LETTERS)
  t_LONGEST_NAME : Tok
  c_LONGEST_NAME : mg "LONGEST_NAME" = some (.int 6 t_LONGEST_NAME)
  n_abs : mg "abs" = none
  n_all : mg "all" = none
  n_int : mg "int" = none
  n_len : mg "len" = none
  n_max : mg "max" = none
  n_range : mg "range" = none
  n_tuple : mg "tuple" = none
/-! ### the law's own draws: a list of cells, a place, a count -/
section
variable {P : Program} {w : World} {K : PySem.W.Frag} {mg : Str → Option Value} {base : Heap}
/-- the state's objects as they stand; G is what else is known, the state is none of it -/
structure DS (G H : Hp) (s b : Addr) (cs : List Int) (i n : Nat) : Prop where
  same : Same G H
  fs : G s = none
  fb : G b = none
  hs : H s = some (.lst [.ref b, .int (i : Int), .int (n : Int)])
  hb : H b = some (.lst (cs.map V.int))
  len : cs.length ≤ 63
theorem DS.sb {G H : Hp} {s b : Addr} {cs : List Int} {i n : Nat} (d : DS G H s b cs i n) : s ≠ b := ne_of d.hs d.hb (by cases cs <;> simp)
/-- at most m draws were made -/
def DSt (G H : Hp) (s : Addr) (m : Nat) : Prop := ∃ (b : Addr) (cs : List Int) (i n : Nat), DS G H s b cs i n ∧ n ≤ m
theorem DSt.same {G H : Hp} {s : Addr} {m : Nat} (d : DSt G H s m) : Same G H := let ⟨_, _, _, _, d, _⟩ := d; d.same
theorem DSt.mono {G H : Hp} {s : Addr} {m m' : Nat} (d : DSt G H s m) (h : m ≤ m') : DSt G H s m' := let ⟨b, cs, i, n, d, hn⟩ := d; ⟨b, cs, i, n, d, Nat.le_trans hn h⟩
/-- what else is known of the heap may be less, the rest may be more -/
theorem DSt.less {G G' H : Hp} {s : Addr} {m : Nat} (d : DSt G H s m) (h : Same G' G) : DSt G' H s m := by
  obtain ⟨b, cs, i, n, d, hn⟩ := d
  have fr : ∀ a, G a = none → G' a = none := fun a e => h.free e
  exact ⟨b, cs, i, n, ⟨h.trans d.same, fr _ d.fs, fr _ d.fb, d.hs, d.hb, d.len⟩, hn⟩
/-- all that stands behind stays; known is what was known -/
theorem DSt.on {G H H' : Hp} {s : Addr} {m : Nat} (d : DSt G H s m) (h : Same H H') : DSt G H' s m := by
  obtain ⟨b, cs, i, n, d, hn⟩ := d
  exact ⟨b, cs, i, n, ⟨d.same.trans h, d.fs, d.fb, h _ _ d.hs, h _ _ d.hb, d.len⟩, hn⟩
theorem DSt.free {G H : Hp} {s : Addr} {m : Nat} {p : Addr} (d : DSt G H s m) (hp : H p = none) : G p = none := d.same.free hp
/-- a new thing is known from now on -/
theorem DSt.learn {G H H' : Hp} {s : Addr} {m : Nat} {p : Addr} {o : HO} (d : DSt G H s m) (sm : Same H H') (hp : H p = none) (hp' : H' p = some o) : DSt (upd G p o) H' s m := by
  obtain ⟨b, cs, i, n, d, hn⟩ := d
  have n1 : s ≠ p := ne_of_none d.hs hp
  have n2 : b ≠ p := ne_of_none d.hb hp
  refine ⟨b, cs, i, n, ⟨fun a u e => ?_, ?_, ?_, sm _ _ d.hs, sm _ _ d.hb, d.len⟩, hn⟩
  · by_cases ha : a = p
    · subst ha; rw [upd_same] at e; rw [hp']; exact e
    · rw [upd_ne ha] at e; exact sm _ _ (d.same a u e)
  · rw [upd_ne n1]; exact d.fs
  · rw [upd_ne n2]; exact d.fb
/-- all but some known things stays: what stands now, but for the state, is known from then on -/
def lessOf (H : Hp) (s b : Addr) : Hp := fun c => if c = s ∨ c = b then none else H c
theorem DSt.moved {G H H' : Hp} {s : Addr} {m : Nat} (d : DSt G H s m) (ch : Addr → Prop) (hc : ∀ c, ch c → G c ≠ none) (h : ∀ c o, ¬ ch c → H c = some o → H' c = some o) :
    ∃ G', DSt G' H' s m ∧ (∀ c o, H' c = some o → (∀ xs, o ≠ .lst xs) → G' c = some o) ∧ (∀ c o, H' c = some o → G c ≠ none → G' c = some o) ∧ (∀ c o, H' c = some o → H c = none → G' c = some o) := by
  obtain ⟨b, cs, i, n, d, hn⟩ := d
  have ns : ¬ ch s := fun z => hc s z d.fs
  have nb : ¬ ch b := fun z => hc b z d.fb
  have es := h s _ ns d.hs
  have eb := h b _ nb d.hb
  refine ⟨lessOf H' s b, ⟨b, cs, i, n, ⟨fun c o e => ?_, by unfold lessOf; rw [if_pos (.inl rfl)], by unfold lessOf; rw [if_pos (.inr rfl)], es, eb, d.len⟩, hn⟩, fun c o e hx => ?_, fun c o e hx => ?_, fun c o e hx => ?_⟩
  · unfold lessOf at e
    by_cases hq : c = s ∨ c = b
    · rw [if_pos hq] at e; cases e
    · rw [if_neg hq] at e; exact e
  · unfold lessOf
    rw [if_neg]
    · exact e
    · rintro (q | q)
      · rw [q, es] at e; exact hx _ (Option.some.inj e).symm
      · rw [q, eb] at e; exact hx _ (Option.some.inj e).symm
  · unfold lessOf
    rw [if_neg]
    · exact e
    · rintro (q | q)
      · exact hx (q ▸ d.fs)
      · exact hx (q ▸ d.fb)
  · unfold lessOf
    rw [if_neg]
    · exact e
    · rintro (q | q)
      · rw [q, d.hs] at hx; cases hx
      · rw [q, d.hb] at hx; cases hx
def spStart (K : PySem.W.Frag) : Sp := fun vs H Q _ => ∃ (a : Addr) (ns : List Int), vs = [.ref a] ∧ SqL K H a (ns.map V.int) ∧ ns.length ≤ 63 ∧ ∀ (s : Addr) (H' : Hp), DSt H H' s 0 → Q (.ref s) H'
def spTake : Sp := fun vs H Q _ => ∃ (G : Hp) (s : Addr) (m : Nat) (sz : Int), vs = [.ref s, .int sz] ∧ DSt G H s m ∧ m < 1000000 ∧ 0 < sz ∧ sz < 2 ^ 200 ∧
  ∀ (r : Int) (H' : Hp), 0 ≤ r → r < sz → DSt G H' s (m + 1) → Q (.int r) H'
theorem take_more {α : Type} : ∀ {l : List α} {i : Nat} {x : α}, l[i]? = some x → l.take (i + 1) = l.take i ++ [x]
  | [], i, x, h => by simp at h
  | a :: l, 0, x, h => by
    have e : a = x := Option.some.inj h
    subst e
    rfl
  | a :: l, i + 1, x, h => by
    have ih := take_more (l := l) (i := i) (x := x) h
    show a :: l.take (i + 1) = a :: l.take i ++ [x]
    rw [ih]
    rfl
theorem ok_start (T : Txt K mg) : FnOk P w K mg base CX0 1 T.f_start T.d_start ["_law_script"] (spStart K) := by
  refine T.F_start.ok sc_start (fun vs H Q E h => ?_) (fun cdv A outer s H vs Q E hr h => ?_)
  · obtain ⟨a, ns, rfl, _⟩ := h
    rfl
  · obtain ⟨a, ns, rfl, hS, hlen, k⟩ := h
    refine ⟨_, (pss_one (ps_ret (pe_lst (pa_cons (pe_lc (own := [("_law_cell", 1)]) (g := gName 1) (tt := tYes) rfl sc_start.nd (pi_list (pv 0)) (blkOk_by (N := ["_law_script", "_law_cell"]) (sc := defScope s_start) (by decide +kernel)) (fun _ _ _ _ _ => pg_name (i := 1) sc_start.nd rfl (Or.inl rfl)) (fun _ _ _ _ _ => pts_nil) (fun _ _ _ _ _ => (pe_callTy call_int1 (by rfl) T.n_int (by decide +kernel) (pa_cons (pv 1) pa_nil)))) (pa_cons pe_int (pa_cons pe_int pa_nil)))))), ?_⟩
    refine ⟨_, rfl, a, rfl, ⟨_, hS⟩, fun D hD => ?_⟩
    refine lc_list (K := K) (a := a) (xs := ns.map V.int) (fun i H1 => H1 D = some (.lst ((ns.take i).map V.int)) ∧ Same H H1) ⟨upd_same, same_upd hD⟩ (fun i H1 _ ⟨_, sm⟩ => sm.seq hS) ?_ ?_
    · intro i x H1 hi ⟨eD, sm⟩
      obtain ⟨z, ez, rfl⟩ : ∃ z, ns[i]? = some z ∧ x = V.int z := by
        rw [List.getElem?_map] at hi
        cases e : ns[i]? with
        | none => rw [e] at hi; cases hi
        | some z => rw [e] at hi; exact ⟨z, rfl, (Option.some.inj hi).symm⟩
      have hi63 := (List.getElem?_eq_some_iff.mp ez).1
      refine ⟨rfl, _, rfl, .inl ⟨z, rfl, _, eD, small1000 (by rw [List.length_map, List.length_take]; omega), ?_, same_mut sm hD⟩⟩
      rw [upd_same, take_more ez, List.map_append]
      rfl
    · intro H1 ⟨eD, sm⟩
      have et : ns.take (ns.map V.int).length = ns := by rw [List.length_map]; exact List.take_length
      rw [et] at eD
      refine ⟨by show 3 ≤ sizeLine; decide, fun st hst => ?_⟩
      have nDst : D ≠ st := ne_of_none eD hst
      refine k st _ ⟨D, ns, 0, 0, ⟨sm.trans (same_upd hst), sm.free hst, hD, upd_same, by rw [upd_ne nDst]; exact eD, hlen⟩, Nat.le_refl _⟩
theorem big1 : (0 : Int) < 2147483647 := by decide
theorem big2 : (0 : Int) < 2147483629 := by decide
theorem big3 : (0 : Int) < 16 := by decide
theorem pw2 (c n : Int) (hc : 0 ≤ c) (hc2 : c < 2147483647) (hn : 0 ≤ n) (hn2 : n ≤ 1000001) : (c * 16807 + n * 40692 + 7).natAbs < 2 ^ 64 := by omega
theorem ok_take (T : Txt K mg) : FnOk P w K mg base CX0 1 T.f_take T.d_take ["_law_state", "_law_limit"] spTake := by
  refine T.F_take.ok sc_take (fun vs H Q E h => ?_) (fun cdv A outer s H vs Q E hr h => ?_)
  · obtain ⟨G, a, m, sz, rfl, _⟩ := h
    rfl
  · obtain ⟨G, a, m, sz, rfl, ⟨b, cs, i, n, d, hn⟩, hm, hs0, hs2, k⟩ := h
    refine ⟨_, (pss_cons (ps_set (i := 2) sc_take.nd rfl (Or.inl rfl) (pe_ix ix_list (pv 0) pe_int (fun _ _ => rfl)))
    (pss_cons (ps_asg (pe_op op_add (pe_ix ix_list (pv 0) pe_int (fun _ _ => rfl)) pe_int) (pg_sub (pv 0) pe_int set_list))
    (pss_cons (ps_set (i := 3) sc_take.nd rfl (Or.inl rfl) (pe_op op_mod (pe_callTy call_int1 (by rfl) T.n_int (by decide +kernel) (pa_cons (pe_ix ix_list (pv 0) pe_int (fun _ _ => rfl)) pa_nil)) (pe_callB (call_max2 rfl) (by rfl) T.n_max (by decide +kernel) (pa_cons pe_int (pa_cons (pe_callB call_len_seq (by rfl) T.n_len (by decide +kernel) (pa_cons (pv 2) pa_nil)) pa_nil)))))
    (pss_cons (ps_set (i := 4) sc_take.nd rfl (Or.inl rfl) pe_int)
    (C8.pss_cut (ps_if (pt_truth (pv 2) (by intro _; rfl))
      (pss_one (ps_set (i := 4) sc_take.nd rfl (Or.inl rfl) (pe_ix ix_list (pv 2) (pv 3) (fun _ _ => rfl))))
      pss_nil)
    (pss_cons (ps_if (pt_cmpR op_ge (pe_callB call_abs (by rfl) T.n_abs (by decide +kernel) (pa_cons (pv 4) pa_nil)) (pe_op op_pow pe_int pe_int) (nomark _))
      (pss_cons (ps_asg (pe_op op_fdivW (pe_callB call_abs (by rfl) T.n_abs (by decide +kernel) (pa_cons (pv 4) pa_nil)) (pv 1)) (pg_sub (pv 2) (pv 3) set_list))
    (pss_one (ps_ret (pe_op op_mod (pe_callB call_abs (by rfl) T.n_abs (by decide +kernel) (pa_cons (pv 4) pa_nil)) (pv 1)))))
      pss_nil)
    (pss_cons (ps_asg (pe_op op_add (pe_ix ix_list (pv 0) pe_int (fun _ _ => rfl)) pe_int) (pg_sub (pv 0) pe_int set_list))
    (pss_cons (ps_set (i := 5) sc_take.nd rfl (Or.inl rfl) (pe_op op_mod (pe_op op_pow (pe_callTy call_int1 (by rfl) T.n_int (by decide +kernel) (pa_cons (pe_op op_add (pe_op op_add (pe_op op_mul (pe_op op_mod (pe_callTy call_int1 (by rfl) T.n_int (by decide +kernel) (pa_cons (pv 4) pa_nil)) pe_int) pe_int) (pe_op op_mul (pe_ix ix_list (pv 0) pe_int (fun _ _ => rfl)) pe_int)) pe_int) pa_nil)) pe_int) pe_int))
    (pss_cons (ps_set (i := 5) sc_take.nd rfl (Or.inl rfl) (pe_op op_mod (pe_op op_pow (pe_callTy call_int1 (by rfl) T.n_int (by decide +kernel) (pa_cons (pe_op op_add (pe_op op_add (pe_op op_mul (pv 5) pe_int) (pe_op op_mul (pe_ix ix_list (pv 0) pe_int (fun _ _ => rfl)) pe_int)) pe_int) pa_nil)) pe_int) pe_int))
    (pss_one (ps_ret (pe_op op_mod (pe_op op_fdivW (pv 5) pe_int) (pv 1))))))))))))), ?_⟩
    refine ⟨_, rfl, a, _, 0, _, rfl, rfl, SqL.of d.hs, rfl, ?_⟩
    refine ⟨_, rfl, a, _, 2, _, rfl, rfl, SqL.of d.hs, rfl, _, _, rfl, rfl, ?_⟩
    refine ⟨_, rfl, a, _, 2, 2, rfl, rfl, d.hs, rfl, ?_⟩
    have d1 : DS G (upd H a (.lst [V.ref b, V.int (i : Int), V.int ((n + 1 : Nat) : Int)])) a b cs i (n + 1) :=
      ⟨same_mut d.same d.fs, d.fs, d.fb, upd_same, by rw [upd_ne d.sb.symm]; exact d.hb, d.len⟩
    refine ⟨_, rfl, a, _, 1, _, rfl, rfl, SqL.of d1.hs, rfl, .inl ⟨_, rfl, ?_⟩⟩
    refine ⟨_, rfl, b, _, rfl, .inl (SqL.of d1.hb), _, _, rfl, _, _, rfl, rfl, ?_, ?_⟩
    · split <;> omega
    have lm : (cs.map V.int).length = cs.length := List.length_map _
    obtain ⟨j, ej, hj⟩ : ∃ j : Nat, (i : Int) % (if (cs.length : Int) > 1 then (cs.length : Int) else 1) = (j : Int) ∧ (cs ≠ [] → j < cs.length) := by
      generalize hz : (if (cs.length : Int) > 1 then (cs.length : Int) else 1) = z
      have p : 0 < z := by rw [← hz]; split <;> omega
      have q : cs ≠ [] → z = (cs.length : Int) := fun hne => by
        have hp : 0 < cs.length := List.length_pos_iff.mpr hne
        rw [← hz]; split <;> omega
      have h0 := Int.emod_nonneg (i : Int) (show z ≠ 0 by omega)
      have h1 := Int.emod_lt_of_pos (i : Int) p
      refine ⟨((i : Int) % z).toNat, by omega, fun hne => ?_⟩
      have := q hne
      omega
    rw [← lm] at ej
    refine ⟨fun σ H' => ∃ c jv : Int, σ = [some (.ref a), some (.int sz), some (.ref b), some (.int jv), some (.int c), none] ∧ jv = (j : Int) ∧ DS G H' a b cs i (n + 1) ∧ (cs = [] ∧ c = 0 ∨ cs[j]? = some c), ?_, ?_⟩
    · refine ⟨_, rfl, !(cs.map V.int).isEmpty, .inl ⟨_, SqL.of d1.hb, rfl⟩, ?_⟩
      by_cases he : cs = []
      · rw [show (!(cs.map V.int).isEmpty) = false by rw [he]; rfl]
        exact iteF ⟨0, _, rfl, ej, d1, .inl ⟨he, rfl⟩⟩
      · rw [show (!(cs.map V.int).isEmpty) = true by cases cs with | nil => exact absurd rfl he | cons _ _ => rfl]
        have hjl := hj he
        refine iteT ⟨_, rfl, _, rfl, b, _, _, _, rfl, rfl, SqL.of d1.hb, at_of ej (by rw [List.getElem?_map, List.getElem?_eq_getElem hjl]; rfl), ?_⟩
        exact ⟨cs[j], _, rfl, ej, d1, .inr (List.getElem?_eq_getElem hjl)⟩
    rintro σ H' ⟨c, jv, rfl, ejv, d2, hc⟩
    refine ⟨_, rfl, c, rfl, 10, 18, rfl, rfl, ⟨by decide, by decide, by decide⟩, _, _, rfl, rfl, _, rfl, ite2 (fun hbig => ?_) fun _ => ?_⟩
    · have hbig' := of_decide_eq_true hbig
      have hcj : cs[j]? = some c := by
        rcases hc with ⟨_, e⟩ | e
        · exfalso
          rw [e] at hbig'
          revert hbig'
          decide
        · exact e
      have hjl := (List.getElem?_eq_some_iff.mp hcj).1
      refine ⟨_, rfl, c, rfl, _, rfl, _, sz, rfl, rfl, wide_div (b := 200) hs0 (by omega) (by decide) (by decide), ?_⟩
      refine ⟨_, rfl, _, rfl, b, _, jv, j, rfl, rfl, d2.hb, by rw [ejv, lm]; exact ix_nat hjl, ?_⟩
      generalize hq : (if c < 0 then -c else c) = q
      have q0 : 0 ≤ q := by rw [← hq]; split <;> omega
      refine ⟨_, rfl, c, rfl, _, rfl, q, sz, by rw [← hq], rfl, hs0, ?_⟩
      refine k _ _ (Int.emod_nonneg _ (by omega)) (Int.emod_lt_of_pos _ hs0) ⟨b, cs.set j (q / sz), i, n + 1, ?_, Nat.succ_le_succ hn⟩
      refine ⟨same_mut d2.same d2.fb, d2.fs, d2.fb, by rw [upd_ne d2.sb]; exact d2.hs, ?_, by rw [List.length_set]; exact d2.len⟩
      rw [upd_same, ← hq, List.map_set]
    refine ⟨_, rfl, a, _, 1, _, rfl, rfl, SqL.of d2.hs, rfl, _, _, rfl, rfl, ?_⟩
    refine ⟨_, rfl, a, _, 1, 1, rfl, rfl, d2.hs, rfl, ?_⟩
    have d3 : DS G (upd H' a (.lst [V.ref b, V.int ((i + 1 : Nat) : Int), V.int ((n + 1 : Nat) : Int)])) a b cs (i + 1) (n + 1) :=
      ⟨same_mut d2.same d2.fs, d2.fs, d2.fb, upd_same, by rw [upd_ne d2.sb.symm]; exact d2.hb, d2.len⟩
    have c0 : 0 ≤ c % 2147483647 := Int.emod_nonneg _ (by decide)
    have c1 : c % 2147483647 < 2147483647 := Int.emod_lt_of_pos _ (by decide)
    refine ⟨_, rfl, .inl ⟨_, rfl, _, _, rfl, rfl, big1, ?_⟩⟩
    refine ⟨_, _, rfl, rfl, .inr ⟨by decide, by decide⟩, ?_⟩
    refine ⟨_, rfl, a, _, 2, _, rfl, rfl, SqL.of d3.hs, rfl, _, _, rfl, rfl, .inr ⟨by decide, by decide⟩, _, _, rfl, rfl, _, _, rfl, rfl, .inl ⟨_, rfl, _, _, rfl, rfl, ⟨by decide, by decide, ?_⟩, ?_⟩⟩
    · omega
    have e0 : ∀ z : Int, 0 ≤ z % 2147483647 := fun z => Int.emod_nonneg _ (by decide)
    have e1 : ∀ z : Int, z % 2147483647 < 2147483647 := fun z => Int.emod_lt_of_pos _ (by decide)
    refine ⟨_, _, rfl, rfl, big1, ?_⟩
    refine ⟨_, rfl, _, _, rfl, rfl, .inr ⟨by decide, by decide⟩, _, rfl, a, _, 2, _, rfl, rfl, SqL.of d3.hs, rfl, _, _, rfl, rfl, .inr ⟨by decide, by decide⟩, _, _, rfl, rfl, _, _, rfl, rfl, .inl ⟨_, rfl, _, _, rfl, rfl, ⟨by decide, by decide, pw2 _ _ (e0 _) (e1 _) (by omega) (by omega)⟩, _, _, rfl, rfl, big2, ?_⟩⟩
    refine ⟨_, rfl, _, _, rfl, rfl, wide_div (b := 200) big3 (by decide) (by decide) (by decide), _, rfl, _, sz, rfl, rfl, hs0, ?_⟩
    exact k _ _ (Int.emod_nonneg _ (by omega)) (Int.emod_lt_of_pos _ hs0) ⟨b, cs, i + 1, n + 1, d3, Nat.succ_le_succ hn⟩
end

/-! ### names -/
def lets : Str := "abcdefghijklmnopqrstuvwxyz"
def digs : Str := "0123456789"
def inNm (c : Nat) : Bool := decide (c ∈ lets.cps.toList) || decide (c ∈ digs.cps.toList)
def vnL : List Nat → Bool
  | [] => false
  | c :: r => decide (c ∈ lets.cps.toList) && (c :: r).all inNm
def vn (z : Str) : Bool := decide (1 ≤ z.length ∧ z.length ≤ 6) && vnL z.cps.toList
section
variable {P : Program} {w : World} {K : PySem.W.Frag} {mg : Str → Option Value} {base : Heap}
def spName : Sp := fun vs H Q _ => ∃ z : Str, vs = [.str z] ∧ z.length ≤ 1000 ∧ (∀ c ∈ z.cps.toList, c < 128) ∧ ∀ H', Same H H' → Q (.bl (vn z)) H'
theorem head_of {z : Str} (h : 1 ≤ z.length) : ∃ c r, z.cps.toList = c :: r := by
  cases e : z.cps.toList with
  | nil =>
    have : z.length = z.cps.toList.length := by simp [Str.length]
    rw [e] at this
    rw [this] at h
    exact absurd h (by decide)
  | cons c r => exact ⟨c, r, rfl⟩
theorem len_of (z : Str) : z.length = z.cps.toList.length := by simp [Str.length]
theorem ok_valid (T : Txt K mg) : FnOk P w K mg base CX0 1 T.f_valid_name T.d_valid_name ["text"] spName := by
  refine T.F_valid_name.ok sc_valid_name (fun vs H Q E h => ?_) (fun cdv A outer s H vs Q E hr h => ?_)
  · obtain ⟨z, rfl, _⟩ := h
    rfl
  · obtain ⟨z, rfl, hz, hc, k⟩ := h
    refine ⟨_, (pss_cons (ps_if (pt_not (pt_chain op_le op_le pe_int (pe_callB call_len_str (by rfl) T.n_len (by decide +kernel) (pa_cons (pv 0) pa_nil)) (pe_glob (v := V.int 6) rfl T.c_LONGEST_NAME ⟨_, rfl⟩)))
      (pss_one (ps_ret pe_bl))
      pss_nil)
    (pss_one (ps_ret (pe_and (pe_cmpR op_in_sign (pe_ix ix_str (pv 0) pe_int (fun _ _ => rfl)) (pe_glob (v := V.str "abcdefghijklmnopqrstuvwxyz") rfl T.c_LETTERS ⟨_, rfl⟩) rfl) (pe_one (pe_callB (cr_all rfl) (by rfl) T.n_all (by decide +kernel) (pa_cons (pe_lc (own := [("char", 1)]) (g := gName 1) (tt := tYes) rfl sc_valid_name.nd (pi_str (pv 0)) (blkOk_by (N := ["text", "char"]) (sc := defScope s_valid_name) (by decide +kernel)) (fun _ _ _ _ _ => pg_name (i := 1) sc_valid_name.nd rfl (Or.inl rfl)) (fun _ _ _ _ _ => pts_nil) (fun _ _ _ _ _ => (pe_or (pe_cmpR op_in_sign (pv 1) (pe_glob (v := V.str "abcdefghijklmnopqrstuvwxyz") rfl T.c_LETTERS ⟨_, rfl⟩) rfl) (pe_one (pe_cmpR op_in_sign (pv 1) (pe_glob (v := V.str "0123456789") rfl T.c_DIGITS ⟨_, rfl⟩) rfl))))) pa_nil))))))), ?_⟩
    have hzl : z.length ≤ sizeLine := Nat.le_of_lt (small1000 hz)
    -- the length
    refine ⟨_, rfl, z, rfl, hzl, 1, (z.length : Int), rfl, rfl, _, rfl, ite2 (fun h1 => ?_) fun h1 => ?_⟩
    · have h1' : (1 : Int) ≤ z.length := of_decide_eq_true h1
      refine ⟨_, 6, rfl, rfl, _, rfl, ite2 (fun h2 => ?_) fun h2 => ?_⟩
      · have h2' : ¬ (z.length : Int) ≤ 6 := by simpa using h2
        have e : vn z = false := by
          unfold vn
          rw [decide_eq_false (by omega), Bool.false_and]
        have := k H (Same.refl H)
        rw [e] at this
        exact this
      · have h2' : (z.length : Int) ≤ 6 := by simpa using h2
        obtain ⟨c, r, ez⟩ := head_of (z := z) (by omega)
        have ev : vn z = vnL (c :: r) := by
          unfold vn
          rw [decide_eq_true (by omega), Bool.true_and, ez]
        refine ⟨_, rfl, z, 0, c, rfl, rfl, hzl, by rw [ez]; exact at0, c, lets, rfl, rfl, _, rfl, ite2 (fun hl => ?_) fun hl => ?_⟩
        · refine ⟨_, rfl, z, rfl, fun D hD => ?_⟩
          refine lc_str (fun i H1 => H1 D = some (.lst ((z.cps.toList.take i).map fun c => V.bl (inNm c))) ∧ Same H H1) ⟨upd_same, same_upd hD⟩ ?_ ?_
          · intro i d H1 hi ⟨eD, sm⟩
            have hi2 : i < 1000 := by
              have := (List.getElem?_eq_some_iff.mp hi).1
              rw [← len_of] at this
              omega
            have fin : ∀ b : Bool, b = inNm d → ∃ acc, H1 D = some (.lst acc) ∧ acc.length < sizeLine ∧ (upd H1 D (.lst (acc ++ [V.bl b]))) D = some (.lst ((z.cps.toList.take (i + 1)).map fun c => V.bl (inNm c))) ∧ Same H (upd H1 D (.lst (acc ++ [V.bl b]))) := by
              intro b eb
              refine ⟨_, eD, small1000 (by rw [List.length_map, List.length_take]; omega), ?_, same_mut sm hD⟩
              rw [upd_same, take_more hi, List.map_append, eb]
              rfl
            refine ⟨rfl, _, rfl, d, lets, rfl, rfl, _, rfl, ite2 (fun h => ?_) fun h => ?_⟩
            · exact fin true (by unfold inNm; rw [h, Bool.true_or])
            · exact ⟨_, rfl, d, digs, rfl, rfl, fin _ (by unfold inNm; rw [Bool.eq_false_iff.mpr h, Bool.false_or])⟩
          · intro H1 ⟨eD, sm⟩
            have et : z.cps.toList.take z.cps.size = z.cps.toList := List.take_of_length_le (by simp)
            rw [et] at eD
            refine ⟨D, z.cps.toList.map inNm, rfl, SqL.of (by rw [eD, List.map_map]; rfl), ?_⟩
            have e2 : vn z = ((z.cps.toList.map inNm).all id) := by
              rw [ev, ez]
              show (decide (c ∈ lets.cps.toList) && (c :: r).all inNm) = _
              rw [hl, Bool.true_and, List.all_map]
              rfl
            rw [← e2]
            exact k H1 sm
        · have e : vn z = false := by
            rw [ev]
            show (decide (c ∈ lets.cps.toList) && (c :: r).all inNm) = false
            rw [Bool.eq_false_iff.mpr hl, Bool.false_and]
          have := k H (Same.refl H)
          rw [e] at this
          exact this
    · have h1' : ¬ (1 : Int) ≤ z.length := fun q => h1 (decide_eq_true q)
      refine ⟨_, rfl, iteT ?_⟩
      have e : vn z = false := by
        unfold vn
        rw [decide_eq_false (by omega), Bool.false_and]
      have := k H (Same.refl H)
      rw [e] at this
      exact this
theorem vn_eq {z : Str} {c : Nat} {r : List Nat} (h : 1 ≤ z.length ∧ z.length ≤ 6) (ez : z.cps.toList = c :: r) (hl : decide (c ∈ lets.cps.toList) = true) : vn z = (c :: r).all inNm := by
  unfold vn
  rw [decide_eq_true h, Bool.true_and, ez]
  show (decide (c ∈ lets.cps.toList) && (c :: r).all inNm) = _
  rw [hl, Bool.true_and]
theorem vn_no {z : Str} {c : Nat} {r : List Nat} (ez : z.cps.toList = c :: r) (hl : ¬ decide (c ∈ lets.cps.toList) = true) : vn z = false := by
  unfold vn
  rw [ez]
  show (_ && (decide (c ∈ lets.cps.toList) && (c :: r).all inNm)) = false
  rw [Bool.eq_false_iff.mpr hl, Bool.false_and, Bool.and_false]
theorem vn_len {z : Str} (h : ¬ (1 ≤ z.length ∧ z.length ≤ 6)) : vn z = false := by
  unfold vn
  rw [decide_eq_false h, Bool.false_and]
theorem ok_good (T : Txt K mg) : FnOk P w K mg base CX0 1 T.f_good T.d_good ["_law_text"] spName := by
  refine T.F_good.ok sc_good (fun vs H Q E h => ?_) (fun cdv A outer s H vs Q E hr h => ?_)
  · obtain ⟨z, rfl, _⟩ := h
    rfl
  · obtain ⟨z, rfl, hz, hc, k⟩ := h
    have hzl : z.length ≤ sizeLine := Nat.le_of_lt (small1000 hz)
    refine ⟨_, (pss_cons (ps_set (i := 1) sc_good.nd rfl (Or.inr rfl) pe_str)
    (pss_cons (ps_if (PW.pt (pw_or (pt_cmpR op_lt (pe_callB call_len_str (by rfl) T.n_len (by decide +kernel) (pa_cons (pv 0) pa_nil)) pe_int (nomark _)) (pw_or (pt_cmpR op_gt (pe_callB call_len_str (by rfl) T.n_len (by decide +kernel) (pa_cons (pv 0) pa_nil)) pe_int (nomark _)) (pw_or1 (pt_cmpR op_notIn_sign (pe_ix ix_str (pv 0) pe_int (fun _ _ => rfl)) (pv 1) rfl)))))
      (pss_one (ps_ret pe_bl))
      pss_nil)
    (pss_one (ps_ret (pe_callB (cr_all rfl) (by rfl) T.n_all (by decide +kernel) (pa_cons (pe_lc (own := [("_law_char", 2)]) (g := gName 2) (tt := tYes) rfl sc_good.nd (pi_str (pv 0)) (blkOk_by (N := ["_law_text", "_law_letters", "_law_char"]) (sc := defScope s_good) (by decide +kernel)) (fun _ _ _ _ _ => pg_name (i := 2) sc_good.nd rfl (Or.inl rfl)) (fun _ _ _ _ _ => pts_nil) (fun _ _ _ _ _ => (pe_or (pe_cmpR op_in_sign (pv 2) (pv 1) rfl) (pe_one (pe_cmpR op_in_sign (pv 2) pe_str rfl))))) pa_nil)))))), ?_⟩
    have no : vn z = false → Q (.bl false) H := fun e => by
      have := k H (Same.refl H)
      rw [e] at this
      exact this
    refine ⟨_, rfl, z, rfl, hzl, (z.length : Int), 1, rfl, rfl, _, rfl, ite2 (fun h1 => ?_) fun h1 => ?_⟩
    · have h1' : (z.length : Int) < 1 := of_decide_eq_true h1
      exact iteT (no (vn_len (by omega)))
    · have h1' : ¬ (z.length : Int) < 1 := fun q => h1 (decide_eq_true q)
      refine ⟨_, rfl, z, rfl, hzl, (z.length : Int), 6, rfl, rfl, _, rfl, ite2 (fun h2 => ?_) fun h2 => ?_⟩
      · have h2' : (6 : Int) < z.length := of_decide_eq_true h2
        exact iteT (no (vn_len (by omega)))
      · have h2' : ¬ (6 : Int) < z.length := fun q => h2 (decide_eq_true q)
        obtain ⟨c, r, ez⟩ := head_of (z := z) (by omega)
        refine ⟨_, rfl, z, 0, c, rfl, rfl, hzl, by rw [ez]; exact at0, _, rfl, c, lets, rfl, rfl, _, rfl, ite2 (fun hl => ?_) fun hl => ?_⟩
        · exact no (vn_no ez (by simpa using hl))
        · have hl' : decide (c ∈ lets.cps.toList) = true := by simpa using hl
          refine ⟨_, rfl, z, rfl, fun D hD => ?_⟩
          refine lc_str (fun i H1 => H1 D = some (.lst ((z.cps.toList.take i).map fun c => V.bl (inNm c))) ∧ Same H H1) ⟨upd_same, same_upd hD⟩ ?_ ?_
          · intro i d H1 hi ⟨eD, sm⟩
            have hi2 : i < 1000 := by
              have := (List.getElem?_eq_some_iff.mp hi).1
              rw [← len_of] at this
              omega
            have fin : ∀ b : Bool, b = inNm d → ∃ acc, H1 D = some (.lst acc) ∧ acc.length < sizeLine ∧ (upd H1 D (.lst (acc ++ [V.bl b]))) D = some (.lst ((z.cps.toList.take (i + 1)).map fun c => V.bl (inNm c))) ∧ Same H (upd H1 D (.lst (acc ++ [V.bl b]))) := by
              intro b eb
              refine ⟨_, eD, small1000 (by rw [List.length_map, List.length_take]; omega), ?_, same_mut sm hD⟩
              rw [upd_same, take_more hi, List.map_append, eb]
              rfl
            refine ⟨rfl, _, rfl, _, rfl, d, lets, rfl, rfl, _, rfl, ite2 (fun h => ?_) fun h => ?_⟩
            · exact fin true (by unfold inNm; rw [h, Bool.true_or])
            · exact ⟨_, rfl, d, digs, rfl, rfl, fin _ (by unfold inNm; rw [Bool.eq_false_iff.mpr h, Bool.false_or])⟩
          · intro H1 ⟨eD, sm⟩
            have et : z.cps.toList.take z.cps.size = z.cps.toList := List.take_of_length_le (by simp)
            rw [et] at eD
            refine ⟨D, z.cps.toList.map inNm, rfl, SqL.of (by rw [eD, List.map_map]; rfl), ?_⟩
            have e2 : vn z = ((z.cps.toList.map inNm).all id) := by
              rw [vn_eq (by omega) ez hl', ez, List.all_map]
              rfl
            rw [← e2]
            exact k H1 sm
end

/-! ### the errors' own constructors -/
section
variable {P : Program} {w : World} {K : PySem.W.Frag} {mg : Str → Option Value} {base : Heap}
def spErr (nm : Str) (C : Addr) : Sp := fun vs H Q _ => ∃ (a : Addr) (v : V), vs = [.ref a, v] ∧ H a = some (exo a C none) ∧ ∀ dx H', H dx = none → dx ≠ a → H' = upd (upd H dx (exd dx [(nm, v)])) a (exo a C (some dx)) → Q .non H'
theorem ok_eBadName (T : Txt K mg) : FnOk P w K mg base CX0 1 T.f_BadName_init T.d_BadName_init ["self", "name"] (spErr "name" T.f_BadName) := by
  refine T.F_BadName_init.ok sc_BadName_init (fun vs H Q E h => ?_) (fun cdv A outer s H vs Q E hr h => ?_)
  · obtain ⟨a, v, rfl, _⟩ := h
    rfl
  · obtain ⟨a, v, rfl, ha, k⟩ := h
    refine ⟨_, (pss_one (ps_ost (pv 0) (pv 1))), ?_⟩
    exact ⟨_, rfl, _, rfl, a, T.f_BadName, rfl, T.ox_BadName, T.no_BadName_name, .inl ⟨ha, fun dx nd ne => k dx _ nd ne rfl⟩⟩
theorem ok_eDuplicateName (T : Txt K mg) : FnOk P w K mg base CX0 1 T.f_DuplicateName_init T.d_DuplicateName_init ["self", "name"] (spErr "name" T.f_DuplicateName) := by
  refine T.F_DuplicateName_init.ok sc_DuplicateName_init (fun vs H Q E h => ?_) (fun cdv A outer s H vs Q E hr h => ?_)
  · obtain ⟨a, v, rfl, _⟩ := h
    rfl
  · obtain ⟨a, v, rfl, ha, k⟩ := h
    refine ⟨_, (pss_one (ps_ost (pv 0) (pv 1))), ?_⟩
    exact ⟨_, rfl, _, rfl, a, T.f_DuplicateName, rfl, T.ox_DuplicateName, T.no_DuplicateName_name, .inl ⟨ha, fun dx nd ne => k dx _ nd ne rfl⟩⟩
theorem ok_eUnknownName (T : Txt K mg) : FnOk P w K mg base CX0 1 T.f_UnknownName_init T.d_UnknownName_init ["self", "name"] (spErr "name" T.f_UnknownName) := by
  refine T.F_UnknownName_init.ok sc_UnknownName_init (fun vs H Q E h => ?_) (fun cdv A outer s H vs Q E hr h => ?_)
  · obtain ⟨a, v, rfl, _⟩ := h
    rfl
  · obtain ⟨a, v, rfl, ha, k⟩ := h
    refine ⟨_, (pss_one (ps_ost (pv 0) (pv 1))), ?_⟩
    exact ⟨_, rfl, _, rfl, a, T.f_UnknownName, rfl, T.ox_UnknownName, T.no_UnknownName_name, .inl ⟨ha, fun dx nd ne => k dx _ nd ne rfl⟩⟩
theorem ok_eBadCount (T : Txt K mg) : FnOk P w K mg base CX0 1 T.f_BadCount_init T.d_BadCount_init ["self", "count"] (spErr "count" T.f_BadCount) := by
  refine T.F_BadCount_init.ok sc_BadCount_init (fun vs H Q E h => ?_) (fun cdv A outer s H vs Q E hr h => ?_)
  · obtain ⟨a, v, rfl, _⟩ := h
    rfl
  · obtain ⟨a, v, rfl, ha, k⟩ := h
    refine ⟨_, (pss_one (ps_ost (pv 0) (pv 1))), ?_⟩
    exact ⟨_, rfl, _, rfl, a, T.f_BadCount, rfl, T.ox_BadCount, T.no_BadCount_count, .inl ⟨ha, fun dx nd ne => k dx _ nd ne rfl⟩⟩
/-- an exception's own dict, new -/
def Raised (H : Hp) (nm : Str) (v : V) (D : Addr) (E : XK) : Prop := ∀ d H', H d = none → Same H H' → H' d = some (.xd [(nm, v)]) → E (.ref D) (some d) H'
theorem Raised.on {H H2 : Hp} {nm : Str} {v : V} {D : Addr} {E : XK} (r : Raised H nm v D E) (s : Same H H2) : Raised H2 nm v D E := fun d H' nd sm e => r d H' (s.free nd) (s.trans sm) e
/-- what a raise asks -/
theorem raise_asks {H : Hp} {nm : Str} {v : V} {D a : Addr} {E : XK} (na : H a = none) (k : Raised H nm v D E) (d : Addr) (H' : Hp) (nd : (upd H a (exo a D none)) d = none) (ne : d ≠ a) (e : H' = upd (upd (upd H a (exo a D none)) d (exd d [(nm, v)])) a (exo a D (some d))) :
    H' a = some (exo a D (some d)) ∧ H' d = some (exd d [(nm, v)]) ∧ H d = none ∧ E (.ref D) (some d) (upd (del H' a) d (.xd [(nm, v)])) := by
  have nd' : H d = none := by rw [upd_ne ne] at nd; exact nd
  refine ⟨by rw [e]; exact upd_same, by rw [e, upd_ne ne]; exact upd_same, nd', k d _ nd' (fun b o hb => ?_) upd_same⟩
  have n1 : b ≠ d := ne_of_none hb nd'
  have n2 : b ≠ a := ne_of_none hb na
  rw [upd_ne n1, del_ne n2, e, upd_ne n2, upd_ne n1, upd_ne n2]
  exact hb
/-- of the raising reading the calm one -/
theorem calm_of {k : Nat} {f : Addr} {fd : FuncData} {ps : List Str} {sp : Sp} (F : FnOk P w K mg base (L2.CX P w) k f fd ps sp) : FnOk P w K mg base CX0 k f fd ps (fun vs H Q _ => sp vs H Q E0) := by
  refine ⟨fun vs H Q E q => F.len vs H Q E0 q, fun A outer s H args us vs Q E hr he hb hv hs => codeAny_mono (F.run A outer s H args us vs Q E0 hr he hb hv hs) fun r s' q => ?_⟩
  cases r with
  | ok fl => cases fl <;> exact q
  | error e =>
    obtain ⟨_, _, _, _, _, _, _, _, _, _, _, _, z⟩ := q
    exact z.elim
end

/-! ### books -/
/-- a link: its name, its ends -/
abbrev Ent := Str × Str × Str
section
variable {P : Program} {w : World} {K : PySem.W.Frag} {mg : Str → Option Value} {base : Heap}
/-- an entry of a dict: the name, the tuple of both ends -/
def EntOk (H : Hp) (q : Key × V) (e : Ent) : Prop := q.1 = .inr e.1 ∧ ∃ p, q.2 = .ref p ∧ H p = some (.tup [.str e.2.1, .str e.2.2])
theorem EntOk.on {H H' : Hp} {q : Key × V} {e : Ent} (r : EntOk H q e) (s : ∀ c o, H c = some (.tup o) → H' c = some (.tup o)) : EntOk H' q e := let ⟨h1, p, h2, h3⟩ := r; ⟨h1, p, h2, s _ _ h3⟩
/-- the links as a dict -/
def DictAt (H : Hp) (d : Addr) (es : List Ent) : Prop := ∃ kvs, H d = some (.dK kvs) ∧ Paired (EntOk H) kvs es
def names (es : List Ent) : List Str := es.map (·.1)
/-- fine links: names that differ, at most ten -/
structure FineE (es : List Ent) : Prop where
  nd : (names es).Nodup
  few : es.length ≤ 10
theorem paired_on {α β : Type} {F G : α → β → Prop} (h : ∀ a b, F a b → G a b) : ∀ {xs : List α} {ys : List β}, Paired F xs ys → Paired G xs ys
  | _, _, .nil => .nil
  | _, _, .cons a r => .cons (h _ _ a) (paired_on h r)
theorem DictAt.on {H H' : Hp} {d : Addr} {es : List Ent} (r : DictAt H d es) (s : ∀ c o, H c = some (.tup o) → H' c = some (.tup o)) (hd : ∀ kvs, H d = some (.dK kvs) → H' d = some (.dK kvs)) : DictAt H' d es :=
  let ⟨kvs, h1, h2⟩ := r; ⟨kvs, hd _ h1, paired_on (fun _ _ e => e.on s) h2⟩
theorem DictAt.same {H H' : Hp} {d : Addr} {es : List Ent} (r : DictAt H d es) (s : Same H H') : DictAt H' d es := r.on (fun c o e => s c _ e) fun _ e => s _ _ e
/-- a book at b with its list of changes at l: its ends, its links, the links before each change -/
def BookAt (C : Addr) (H : Hp) (b l : Addr) (s t : Str) (es : List Ent) (past : List (List Ent)) : Prop :=
  ∃ (dx d : Addr) (as : List Addr), H b = some (.ins C dx [("_start", .str s), ("_end", .str t), ("_links", .ref d), ("_past", .ref l)]) ∧ DictAt H d es ∧ H l = some (.lst (as.map V.ref)) ∧ Paired (DictAt H) as past
theorem BookAt.on {C : Addr} {H H' : Hp} {b l : Addr} {s t : Str} {es : List Ent} {past : List (List Ent)} (r : BookAt C H b l s t es past) (sm : ∀ c o, (∀ xs, o ≠ .lst xs) → H c = some o → H' c = some o) (hl : ∀ xs, H l = some (.lst xs) → H' l = some (.lst xs)) : BookAt C H' b l s t es past := by
  obtain ⟨dx, d, as, h1, h2, h3, h4⟩ := r
  have on : ∀ {d : Addr} {es : List Ent}, DictAt H d es → DictAt H' d es := fun r => r.on (fun _ _ e => sm _ _ (fun _ z => nomatch z) e) fun _ e => sm _ _ (fun _ z => nomatch z) e
  exact ⟨dx, d, as, sm _ _ (fun _ z => nomatch z) h1, on h2, hl _ h3, paired_on (fun _ _ e => on e) h4⟩
theorem BookAt.same {C : Addr} {H H' : Hp} {b l : Addr} {s t : Str} {es : List Ent} {past : List (List Ent)} (r : BookAt C H b l s t es past) (sm : Same H H') : BookAt C H' b l s t es past := r.on (fun c o _ e => sm c o e) fun _ e => sm _ _ e
theorem lf_links {s t : Str} {d l : Addr} : ([("_start", V.str s), ("_end", .str t), ("_links", .ref d), ("_past", .ref l)] : List (Str × V)).lookup ("_links" : Str) = some (.ref d) := by
  rfl
theorem lf_past {s t : Str} {d l : Addr} : ([("_start", V.str s), ("_end", .str t), ("_links", .ref d), ("_past", .ref l)] : List (Str × V)).lookup ("_past" : Str) = some (.ref l) := by
  rfl
/-- what a dict tells of a name -/
def found (es : List Ent) (n : Str) : Option (Str × Str) := (es.find? fun e => decide (e.1 = n)).map (·.2)
theorem val_found {H : Hp} {n : Str} : ∀ {kvs : List (Key × V)} {es : List Ent}, Paired (EntOk H) kvs es →
    (found es n = none ∧ valV kvs (.inr n : Key) = none) ∨ ∃ e p, found es n = some e ∧ valV kvs (.inr n : Key) = some (.ref p) ∧ H p = some (.tup [.str e.1, .str e.2])
  | _, _, .nil => .inl ⟨rfl, rfl⟩
  | (k, v) :: kvs, e :: es, .cons a r => by
    obtain ⟨h1, p, h2, h3⟩ := a
    have h1 : k = .inr e.1 := h1
    have h2 : v = .ref p := h2
    subst h1 h2
    by_cases q : e.1 = n
    · right
      refine ⟨e.2, p, ?_, valV_pos (by rw [q]), h3⟩
      unfold found
      rw [List.find?_cons_of_pos (by simp [q])]
      rfl
    · have f : found (e :: es) n = found es n := by
        unfold found
        rw [List.find?_cons_of_neg (by simp [q])]
      have g : valV ((.inr e.1, V.ref p) :: kvs) (.inr n : Key) = valV kvs (.inr n) := valV_neg (fun z => q (Sum.inr.inj z))
      rw [f, g]
      exact val_found r
theorem found_some {es : List Ent} {n : Str} : (found es n).isSome = decide (n ∈ names es) := by
  unfold found names
  induction es with
  | nil => rfl
  | cons e r ih =>
    by_cases q : e.1 = n
    · rw [List.find?_cons_of_pos (by simp [q])]
      simp [q]
    · rw [List.find?_cons_of_neg (by simp [q]), ih]
      have : ¬ n = e.1 := fun z => q z.symm
      simp [this]
def spContains (C : Addr) : Sp := fun vs H Q _ => ∃ (b l : Addr) (s t : Str) (es : List Ent) (past : List (List Ent)) (n : Str), vs = [.ref b, .str n] ∧ BookAt C H b l s t es past ∧ Q (.bl (decide (n ∈ names es))) H
theorem ok_contains (T : Txt K mg) : FnOk P w K mg base CX0 1 T.f_Book_contains T.d_Book_contains ["self", "name"] (spContains T.f_Book) := by
  refine T.F_Book_contains.ok sc_Book_contains (fun vs H Q E h => ?_) (fun cdv A outer s H vs Q E hr h => ?_)
  · obtain ⟨b, l, s, t, es, past, n, rfl, _⟩ := h
    rfl
  · obtain ⟨b, l, s, t, es, past, n, rfl, hb, k⟩ := h
    refine ⟨_, (pss_one (ps_ret (pe_cmp (pc_din (hu_of hr) (pv 1) (pe_fld (pv 0) rfl))))), ?_⟩
    obtain ⟨dx, d, as, h1, ⟨kvs, h2, hp⟩, h3, h4⟩ := hb
    refine ⟨_, rfl, _, rfl, b, T.f_Book, dx, _, _, rfl, h1, T.cl_Book, T.na_Book_links, lf_links, ?_⟩
    refine ⟨d, valV kvs (.inr n : Key), rfl, DGet.k (k := .inr n) h2, ?_⟩
    have e : (valV kvs (.inr n : Key)).isSome = decide (n ∈ names es) := by
      rw [← found_some]
      rcases val_found (n := n) hp with ⟨e1, e2⟩ | ⟨e, p, e1, e2, _⟩ <;> rw [e1, e2] <;> rfl
    rw [e]
    exact k
def spLen (C : Addr) : Sp := fun vs H Q _ => ∃ (b l : Addr) (s t : Str) (es : List Ent) (past : List (List Ent)), vs = [.ref b] ∧ BookAt C H b l s t es past ∧ Q (.int (es.length : Int)) H
theorem ok_len (T : Txt K mg) : FnOk P w K mg base CX0 1 T.f_Book_len T.d_Book_len ["self"] (spLen T.f_Book) := by
  refine T.F_Book_len.ok sc_Book_len (fun vs H Q E h => ?_) (fun cdv A outer s H vs Q E hr h => ?_)
  · obtain ⟨b, l, s, t, es, past, rfl, _⟩ := h
    rfl
  · obtain ⟨b, l, s, t, es, past, rfl, hb, k⟩ := h
    refine ⟨_, (pss_one (ps_ret (pe_callB call_lenD (by rfl) T.n_len (by decide +kernel) (pa_cons (pe_fld (pv 0) rfl) pa_nil)))), ?_⟩
    obtain ⟨dx, d, as, h1, ⟨kvs, h2, hp⟩, h3, h4⟩ := hb
    refine ⟨_, rfl, b, T.f_Book, dx, _, _, rfl, h1, T.cl_Book, T.na_Book_links, lf_links, d, kvs, rfl, h2, ?_⟩
    rw [hp.length]
    exact k
def spOrder (C : Addr) : Sp := fun vs H Q _ => ∃ (b l : Addr) (s t : Str) (es : List Ent) (past : List (List Ent)), vs = [.ref b] ∧ BookAt C H b l s t es past ∧ ∀ p H', H p = none → Same H H' → H' p = some (.tup ((names es).map V.str)) → Q (.ref p) H'
theorem keys_of {H : Hp} : ∀ {kvs : List (Key × V)} {es : List Ent}, Paired (EntOk H) kvs es → (kvs.map fun kv => kV kv.1) = (names es).map V.str
  | _, _, .nil => rfl
  | (k, v) :: kvs, e :: es, .cons a r => by
    have h1 : k = .inr e.1 := a.1
    subst h1
    show kV (.inr e.1) :: (kvs.map fun kv => kV kv.1) = _
    rw [keys_of r]
    rfl
theorem ok_order (T : Txt K mg) : FnOk P w K mg base CX0 1 T.f_Book_order T.d_Book_order ["self"] (spOrder T.f_Book) := by
  refine T.F_Book_order.ok sc_Book_order (fun vs H Q E h => ?_) (fun cdv A outer s H vs Q E hr h => ?_)
  · obtain ⟨b, l, s, t, es, past, rfl, _⟩ := h
    rfl
  · obtain ⟨b, l, s, t, es, past, rfl, hb, k⟩ := h
    refine ⟨_, (pss_one (ps_ret (pe_callTy (call_tupD rfl) (by rfl) T.n_tuple (by decide +kernel) (pa_cons (pe_fld (pv 0) rfl) pa_nil)))), ?_⟩
    obtain ⟨dx, d, as, h1, ⟨kvs, h2, hp⟩, h3, h4⟩ := hb
    refine ⟨_, rfl, b, T.f_Book, dx, _, _, rfl, h1, T.cl_Book, T.na_Book_links, lf_links, d, kvs, rfl, .inl h2, fun p np => ?_⟩
    rw [keys_of hp]
    exact k p _ np (same_upd np) upd_same
/-- book[name]: the tuple of both ends; UnknownName if it isn't there -/
def spGet (C D : Addr) : Sp := fun vs H Q E => ∃ (b l : Addr) (s t : Str) (es : List Ent) (past : List (List Ent)) (n : Str), vs = [.ref b, .str n] ∧ BookAt C H b l s t es past ∧
  (∀ e p, found es n = some e → H p = some (.tup [.str e.1, .str e.2]) → Q (.ref p) H) ∧ (found es n = none → Raised H "name" (.str n) D E)
theorem ok_get (T : Txt K mg) : FnOk P w K mg base (L2.CX P w) 3 T.f_Book_getitem T.d_Book_getitem ["self", "name"] (spGet T.f_Book T.f_UnknownName) := by
  have G_UnknownName_init : FnOk P w K mg base CX0 1 T.f_UnknownName_init T.d_UnknownName_init ["self", "name"] (spErr "name" T.f_UnknownName) := ok_eUnknownName T
  refine T.F_Book_getitem.okX sc_Book_getitem (fun vs H Q E h => ?_) (fun cdv A outer s H vs Q E hr h => ?_)
  · obtain ⟨b, l, s, t, es, past, n, rfl, _⟩ := h
    rfl
  · obtain ⟨b, l, s, t, es, past, n, rfl, hb, k, k2⟩ := h
    refine ⟨_, (pss_cons (ps_if (pt_cmp (pc_dnotin (hu_of hr) (pv 1) (pe_fld (pv 0) rfl)))
      (pss_one (ps_raise rfl (takes_of rfl rfl rfl rfl) (pmk_oex T.ox_UnknownName T.ix_UnknownName T.tx_UnknownName G_UnknownName_init (hr.mono (by decide)) T.b_UnknownName_init .nil pass0 rfl T.m_UnknownName (pa_cons (pv 1) pa_nil))))
      pss_nil)
    (pss_one (ps_ret (pe_dget (hu_of hr) (pe_fld (pv 0) rfl) (pv 1) (fun _ _ => rfl))))), ?_⟩
    obtain ⟨dx, d, as, h1, ⟨kvs, h2, hp⟩, h3, h4⟩ := hb
    refine ⟨_, rfl, _, rfl, b, T.f_Book, dx, _, _, rfl, h1, T.cl_Book, T.na_Book_links, lf_links, ?_⟩
    refine ⟨d, valV kvs (.inr n : Key), rfl, DGet.k (k := .inr n) h2, ?_⟩
    rcases val_found (n := n) hp with ⟨e1, e2⟩ | ⟨e, p, e1, e2, hpp⟩
    · rw [e2]
      refine ⟨_, rfl, iteT ?_⟩
      refine ⟨_, rfl, (by show 1 ≤ 1000; decide), fun a na => ?_⟩
      refine ⟨a, .str n, rfl, upd_same, fun d H' nd ne e => ⟨rfl, d, [("name", .str n)], ?_⟩⟩
      exact raise_asks na (k2 e1) d H' nd ne e
    · rw [e2]
      refine ⟨_, rfl, iteF ?_⟩
      refine ⟨_, rfl, b, T.f_Book, dx, _, _, rfl, h1, T.cl_Book, T.na_Book_links, lf_links, _, rfl, d, .ref p, rfl, ?_, k e p e1 hpp⟩
      rw [← e2]
      exact DGet.k (k := .inr n) h2
end

/-! ### changes of a book -/
section
variable {P : Program} {w : World} {K : PySem.W.Frag} {mg : Str → Option Value} {base : Heap}
/-- all but two objects stays -/
def But2 (b l : Addr) (H H' : Hp) : Prop := ∀ c o, c ≠ b → c ≠ l → H c = some o → H' c = some o
def without (es : List Ent) (n : Str) : List Ent := es.filter fun e => decide (e.1 ≠ n)
theorem pair_at {α β : Type} {F : α → β → Prop} : ∀ {xs : List α} {ys : List β}, Paired F xs ys → ∀ {i : Nat} {x : α}, xs[i]? = some x → ∃ y, ys[i]? = some y ∧ F x y
  | _, _, .nil, i, x, h => by simp at h
  | _, _, .cons a r, 0, x, h => ⟨_, rfl, by rw [← Option.some.inj h]; exact a⟩
  | _, _, .cons a r, i + 1, x, h => pair_at r (i := i) h
theorem paired_filter {α β : Type} {F : α → β → Prop} {p : α → Bool} {q : β → Bool} (h : ∀ a b, F a b → p a = q b) : ∀ {xs : List α} {ys : List β}, Paired F xs ys → Paired F (xs.filter p) (ys.filter q)
  | _, _, .nil => .nil
  | x :: xs, y :: ys, .cons a r => by
    rw [List.filter_cons, List.filter_cons, h _ _ a]
    split
    · exact .cons a (paired_filter h r)
    · exact paired_filter h r
theorem paired_snoc {α β : Type} {F : α → β → Prop} {a : α} {b : β} (h : F a b) : ∀ {xs : List α} {ys : List β}, Paired F xs ys → Paired F (xs ++ [a]) (ys ++ [b])
  | _, _, .nil => .cons h .nil
  | _, _, .cons a r => .cons a (paired_snoc h r)
theorem keys_map {H : Hp} : ∀ {kvs : List (Key × V)} {es : List Ent}, Paired (EntOk H) kvs es → kvs.map (·.1) = (names es).map (Sum.inr : Str → Key)
  | _, _, .nil => rfl
  | (k, v) :: kvs, e :: es, .cons a r => by
    have h1 : k = .inr e.1 := a.1
    subst h1
    show Sum.inr e.1 :: kvs.map (·.1) = _
    rw [keys_map r]
    rfl
theorem val_fresh {kvs : List (Key × V)} {i : Nat} {k : Key} {v : V} (p : Key × V → Bool) (nd : (kvs.map (·.1)).Nodup) (hi : kvs[i]? = some (k, v)) : valV ((kvs.take i).filter p) k = none := by
  unfold valV
  rw [List.find?_eq_none.mpr, Option.map_none]
  intro x hx hk
  have hx := (List.mem_filter.mp hx).1
  have ek : x.1 = k := of_decide_eq_true hk
  have sp : kvs = kvs.take i ++ kvs.drop i := (List.take_append_drop i kvs).symm
  have hd : (k, v) ∈ kvs.drop i := List.mem_of_getElem? (i := 0) (by rw [List.getElem?_drop]; exact hi)
  rw [sp, List.map_append, List.nodup_append] at nd
  exact nd.2.2 x.1 (List.mem_map.mpr ⟨x, hx, rfl⟩) k (List.mem_map.mpr ⟨_, hd, rfl⟩) ek
theorem nodup_keys {H : Hp} {kvs : List (Key × V)} {es : List Ent} (h : Paired (EntOk H) kvs es) (nd : (names es).Nodup) : (kvs.map (·.1)).Nodup := by
  rw [keys_map h]
  unfold List.Nodup
  rw [List.pairwise_map]
  exact List.Pairwise.imp (fun hne z => hne (Sum.inr.inj z)) nd
def spDrop (C D : Addr) : Sp := fun vs H Q E => ∃ (b l : Addr) (s t : Str) (es : List Ent) (past : List (List Ent)) (n : Str), vs = [.ref b, .str n] ∧ BookAt C H b l s t es past ∧ past.length ≤ 1000 ∧ FineE es ∧
  (n ∈ names es → ∀ H', But2 b l H H' → BookAt C H' b l s t (without es n) (past ++ [es]) → Q .non H') ∧ (n ∉ names es → Raised H "name" (.str n) D E)
theorem ok_drop (T : Txt K mg) : FnOk P w K mg base (L2.CX P w) 3 T.f_Book_drop T.d_Book_drop ["self", "name"] (spDrop T.f_Book T.f_UnknownName) := by
  have G_UnknownName_init : FnOk P w K mg base CX0 1 T.f_UnknownName_init T.d_UnknownName_init ["self", "name"] (spErr "name" T.f_UnknownName) := ok_eUnknownName T
  refine T.F_Book_drop.okX sc_Book_drop (fun vs H Q E h => ?_) (fun cdv A outer s H vs Q E hr h => ?_)
  · obtain ⟨b, l, s, t, es, past, n, rfl, _⟩ := h
    rfl
  · obtain ⟨b, l, s, t, es, past, n, rfl, hb, hpl, hf, k, k2⟩ := h
    refine ⟨_, (pss_cons (ps_if (pt_cmp (pc_dnotin (hu_of hr) (pv 1) (pe_fld (pv 0) rfl)))
      (pss_one (ps_raise rfl (takes_of rfl rfl rfl rfl) (pmk_oex T.ox_UnknownName T.ix_UnknownName T.tx_UnknownName G_UnknownName_init (hr.mono (by decide)) T.b_UnknownName_init .nil pass0 rfl T.m_UnknownName (pa_cons (pv 1) pa_nil))))
      pss_nil)
    (pss_cons (ps_expr (pe_bm PySem.F.plainAttrs_list PySem.F.slot_list_append PySem.F.type_list_append mt_append (pe_fld (pv 0) rfl) (pa_cons (pe_fld (pv 0) rfl) pa_nil)))
    (pss_one (ps_fld (pv 0) (pe_lock (pe_dc (own := [("other", 2), ("ends", 3)]) (g := gTup K 2 (gCons (gName 2) (gCons (gName 3) gNil))) rfl sc_Book_drop.nd (pi_items (pe_fld (pv 0) rfl)) (blkOk_by (N := ["self", "name", "other", "ends"]) (sc := defScope s_Book_drop) (by decide +kernel)) (fun _ _ _ _ _ => (pg_tup rfl (pgs_cons (pg_name (i := 2) sc_Book_drop.nd rfl (Or.inl rfl)) (pgs_cons (pg_name (i := 3) sc_Book_drop.nd rfl (Or.inl rfl)) pgs_nil)))) (fun _ _ _ _ _ => pts_one (pt_cmpR op_ne (pv 2) (pv 1) (nomark _))) (fun _ _ _ _ _ => (pv 2)) (fun _ _ _ _ _ => (pv 3)))) rfl)))), ?_⟩
    obtain ⟨dx, d, as, h1, ⟨kvs, h2, hp⟩, h3, h4⟩ := hb
    refine ⟨_, rfl, _, rfl, b, T.f_Book, dx, _, _, rfl, h1, T.cl_Book, T.na_Book_links, lf_links, ?_⟩
    refine ⟨d, valV kvs (.inr n : Key), rfl, DGet.k (k := .inr n) h2, ?_⟩
    rcases val_found (n := n) hp with ⟨e1, e2⟩ | ⟨e, p, e1, e2, hpp⟩
    · have hn : n ∉ names es := by
        have := found_some (es := es) (n := n)
        rw [e1] at this
        exact of_decide_eq_false this.symm
      rw [e2]
      refine ⟨_, rfl, iteT ?_⟩
      refine ⟨_, rfl, (by show 1 ≤ 1000; decide), fun a na => ?_⟩
      refine ⟨a, .str n, rfl, upd_same, fun d H' nd ne e => ⟨rfl, d, [("name", .str n)], ?_⟩⟩
      exact raise_asks na (k2 hn) d H' nd ne e
    · have hn : n ∈ names es := by
        have := found_some (es := es) (n := n)
        rw [e1] at this
        exact of_decide_eq_true this.symm
      rw [e2]
      refine ⟨_, rfl, iteF ?_⟩
      have bl : b ≠ l := ne_of h1 h3 (by intro z; cases z)
      have bd : b ≠ d := ne_of h1 h2 (by intro z; cases z)
      have ld : l ≠ d := ne_of h3 h2 (by intro z; cases z)
      have hl2 : as.length = past.length := h4.length
      refine ⟨_, rfl, b, T.f_Book, dx, _, _, rfl, h1, T.cl_Book, T.na_Book_past, lf_past, .inl ⟨rfl, _, SqL.of h3⟩, ?_⟩
      refine ⟨_, rfl, b, T.f_Book, dx, _, _, rfl, h1, T.cl_Book, T.na_Book_links, lf_links, l, _, .ref d, rfl, rfl, h3, small1000 (by rw [List.length_map]; omega), ?_⟩
      generalize hH1 : upd H l (.lst (as.map V.ref ++ [V.ref d])) = H1
      have g1 : H1 b = H b := by rw [← hH1, upd_ne bl]
      have gd : H1 d = H d := by rw [← hH1, upd_ne (Ne.symm ld)]
      refine ⟨d, .dK kvs, by rw [gd]; exact h2, True.intro, fun od => ?_⟩
      have g2 : (upd H1 d (.frz od (.dK kvs))) b = some (.ins T.f_Book dx [("_start", .str s), ("_end", .str t), ("_links", .ref d), ("_past", .ref l)]) := by rw [upd_ne bd, g1]; exact h1
      refine ⟨_, rfl, b, T.f_Book, dx, _, _, rfl, g2, T.cl_Book, T.na_Book_links, lf_links, d, od, kvs, rfl, upd_same, fun D nD => ?_⟩
      generalize hH2 : upd H1 d (.frz od (.dK kvs)) = H2 at g2 nD
      have g3 : H2 d = some (.frz od (.dK kvs)) := by rw [← hH2]; exact upd_same
      refine dc_items (fun i H' => H' D = some (.dK ((kvs.take i).filter fun q => decide (q.1 ≠ (.inr n : Key)))) ∧ Same H2 H') ⟨upd_same, same_upd nD⟩ (fun i H' _ q => q.2 _ _ g3) ?_ ?_
      · intro i k' v T' H' hi ⟨q1, q2⟩ nT
        have DT : D ≠ T' := ne_of_none q1 nT
        refine ⟨T', _, rfl, SqT.of upd_same, rfl, kV k', [v], rfl, v, [], rfl, rfl, rfl, ?_⟩
        obtain ⟨e', he', hk', p', hv', hp'⟩ := pair_at hp hi
        have hk' : k' = .inr e'.1 := hk'
        have hv' : v = .ref p' := hv'
        subst hk' hv'
        have q3 : (upd H' T' (.tup [kV (.inr e'.1), V.ref p'])) D = some (.dK ((kvs.take i).filter fun q => decide (q.1 ≠ (.inr n : Key)))) := by rw [upd_ne DT]; exact q1
        have q4 : Same H2 (upd H' T' (.tup [kV (.inr e'.1), V.ref p'])) := q2.trans (same_upd nT)
        have ilt : i < kvs.length := (List.getElem?_eq_some_iff.mp hi).1
        have ten : kvs.length ≤ 10 := by rw [hp.length]; exact hf.few
        by_cases hen : e'.1 = n
        · refine ⟨_, rfl, _, rfl, rfl, false, by rw [show kV (.inr e'.1) = V.str e'.1 from rfl, hen]; simp, iteF ⟨?_, q4⟩⟩
          rw [q3, take_more hi, List.filter_append]
          congr 2
          simp [hen]
        · refine ⟨_, rfl, _, rfl, rfl, true, by rw [show kV (.inr e'.1) = V.str e'.1 from rfl]; simp [hen], iteT ?_⟩
          refine ⟨_, rfl, _, rfl, _, .inr e'.1, rfl, q3, small1000 (Nat.le_trans (List.length_filter_le _ _) (by rw [List.length_take]; omega)), ?_, fun c o hc => ?_⟩
          · have nin := val_fresh (fun q => decide (q.1 ≠ (.inr n : Key))) (nodup_keys hp hf.nd) hi
            rw [upd_same, putK_new _ nin, take_more hi, List.filter_append]
            congr 3
            simp [hen]
          · have cD : c ≠ D := fun z => by rw [z, nD] at hc; cases hc
            rw [upd_ne cD]
            exact q4 _ _ hc
      · rintro H' ⟨q1, q2⟩
        rw [List.take_length] at q1
        have eb : H' b = some (.ins T.f_Book dx [("_start", .str s), ("_end", .str t), ("_links", .ref d), ("_past", .ref l)]) := q2 _ _ g2
        refine ⟨q2 _ _ g3, _, rfl, b, T.f_Book, dx, _, rfl, by rw [upd_ne bd]; exact eb, T.cl_Book, T.na_Book_links, by show 4 < 1000; decide, ?_⟩
        have Dd : D ≠ d := fun z => by rw [z, g3] at nD; cases nD
        have Db : D ≠ b := fun z => by rw [z, g2] at nD; cases nD
        have put : ∀ c o, c ≠ b → c ≠ l → H c = some o → (upd H' d (.dK kvs)) c = some o := fun c o cb cl hc => by
          by_cases cd : c = d
          · rw [cd, upd_same, ← h2, ← cd]; exact hc
          · rw [upd_ne cd]
            refine q2 _ _ ?_
            rw [← hH2, upd_ne cd, ← hH1, upd_ne cl]
            exact hc
        refine k hn _ (fun c o cb cl hc => by rw [upd_ne cb]; exact put c o cb cl hc) ?_
        have tp : ∀ c o, H c = some (.tup o) → (upd (upd H' d (.dK kvs)) b (.ins T.f_Book dx (putF "_links" (.ref D) [("_start", .str s), ("_end", .str t), ("_links", .ref d), ("_past", .ref l)]))) c = some (.tup o) := fun c o hc => by
          have cb : c ≠ b := ne_of hc h1 (by intro z; cases z)
          have cl : c ≠ l := ne_of hc h3 (by intro z; cases z)
          rw [upd_ne cb]
          exact put c _ cb cl hc
        have dk : ∀ c o, H c = some (.dK o) → (upd (upd H' d (.dK kvs)) b (.ins T.f_Book dx (putF "_links" (.ref D) [("_start", .str s), ("_end", .str t), ("_links", .ref d), ("_past", .ref l)]))) c = some (.dK o) := fun c o hc => by
          have cb : c ≠ b := ne_of hc h1 (by intro z; cases z)
          have cl : c ≠ l := ne_of hc h3 (by intro z; cases z)
          rw [upd_ne cb]
          exact put c _ cb cl hc
        refine ⟨dx, D, as ++ [d], upd_same, ⟨_, by rw [upd_ne Db, upd_ne Dd]; exact q1, ?_⟩, ?_, paired_snoc ⟨kvs, dk _ _ h2, paired_on (fun _ _ e => e.on tp) hp⟩ (paired_on (fun _ _ r => r.on tp fun kvs e => dk _ _ e) h4)⟩
        · refine paired_on (fun _ _ e => e.on tp) (paired_filter (fun a e he => ?_) hp)
          rw [he.1]
          exact decide_eq_decide.mpr ⟨fun z y => z (by rw [y]), fun z y => z (Sum.inr.inj y)⟩
        · rw [upd_ne (Ne.symm bl), upd_ne ld]
          refine q2 _ _ ?_
          rw [← hH2, upd_ne ld, ← hH1, upd_same, List.map_append]
          rfl
end
section
variable {P : Program} {w : World} {K : PySem.W.Frag} {mg : Str → Option Value} {base : Heap}
/-- a word of few signs, all plain -/
def Wn (z : Str) : Prop := z.length ≤ 1000 ∧ ∀ c ∈ z.cps.toList, c < 128
/-- the first of some words that is no name -/
def bad (zs : List Str) : Option Str := zs.find? fun z => !vn z
def stored (es : List Ent) (n : Str) (e : Str × Str) : List Ent := if n ∈ names es then es.map (fun q => if q.1 = n then (q.1, e) else q) else es ++ [(n, e)]
theorem stored_ok {H : Hp} {kvs : List (Key × V)} {es : List Ent} {n : Str} {e : Str × Str} {q : Addr} (h : Paired (EntOk H) kvs es) (hq : H q = some (.tup [.str e.1, .str e.2])) : Paired (EntOk H) (putK kvs (.inr n : Key) (.ref q)) (stored es n e) := by
  have hany : (kvs.any fun kv => decide (kv.1 = (.inr n : Key))) = decide (n ∈ names es) := by
    rw [valV_any, ← found_some]
    rcases val_found (n := n) h with ⟨e1, e2⟩ | ⟨e, p, e1, e2, _⟩ <;> rw [e1, e2] <;> rfl
  unfold putK stored
  by_cases hn : n ∈ names es
  · rw [hany, decide_eq_true hn, if_pos rfl, if_pos hn]
    clear hany hn
    induction h with
    | nil => exact .nil
    | @cons a b as bs r rr ih =>
      refine .cons ?_ ih
      obtain ⟨h1, p, h2, h3⟩ := r
      show EntOk H (if a.1 = (.inr n : Key) then (a.1, V.ref q) else a) (if b.1 = n then (b.1, e) else b)
      by_cases hb : b.1 = n
      · rw [if_pos (by rw [h1, hb]), if_pos hb]
        exact ⟨by show a.1 = _; exact h1, q, rfl, hq⟩
      · rw [if_neg (fun z => hb (Sum.inr.inj (h1.symm.trans z))), if_neg hb]
        exact ⟨h1, p, h2, h3⟩
  · rw [hany, decide_eq_false hn, if_neg Bool.false_ne_true, if_neg hn]
    exact paired_snoc ⟨rfl, q, rfl, hq⟩ h
theorem bad_at : ∀ {zs : List Str} {i : Nat} {z : Str}, (∀ q ∈ zs.take i, vn q = true) → zs[i]? = some z → ¬ vn z = true → bad zs = some z
  | [], i, z, _, h, _ => by simp at h
  | q :: r, 0, z, _, h, hv => by
    have e : q = z := Option.some.inj h
    subst e
    unfold bad
    rw [List.find?_cons_of_pos (by simpa using hv)]
  | q :: r, i + 1, z, ha, h, hv => by
    have ih := bad_at (zs := r) (i := i) (z := z) (fun q' hq => ha q' (List.mem_cons_of_mem _ hq)) h hv
    unfold bad at ih ⊢
    rw [List.find?_cons_of_neg (by rw [ha q List.mem_cons_self]; decide)]
    exact ih
def spSet (C DB DC : Addr) : Sp := fun vs H Q E => ∃ (b l p : Addr) (s t : Str) (es : List Ent) (past : List (List Ent)) (n x y : Str), vs = [.ref b, .str n, .ref p] ∧ H p = some (.tup [.str x, .str y]) ∧ BookAt C H b l s t es past ∧ past.length ≤ 1000 ∧ FineE es ∧
  Wn n ∧ Wn x ∧ Wn y ∧ (∀ z, bad [n, x, y] = some z → Raised H "name" (.str z) DB E) ∧ (bad [n, x, y] = none → n ∉ names es → es.length = 10 → Raised H "count" (.int 11) DC E) ∧
  (bad [n, x, y] = none → (n ∈ names es ∨ es.length ≠ 10) → ∀ H', But2 b l H H' → BookAt C H' b l s t (stored es n (x, y)) (past ++ [es]) → Q .non H')
theorem ok_set (T : Txt K mg) : FnOk P w K mg base (L2.CX P w) 3 T.f_Book_setitem T.d_Book_setitem ["self", "name", "ends"] (spSet T.f_Book T.f_BadName T.f_BadCount) := by
  have G_BadName_init : FnOk P w K mg base CX0 1 T.f_BadName_init T.d_BadName_init ["self", "name"] (spErr "name" T.f_BadName) := ok_eBadName T
  have G_BadCount_init : FnOk P w K mg base CX0 1 T.f_BadCount_init T.d_BadCount_init ["self", "count"] (spErr "count" T.f_BadCount) := ok_eBadCount T
  have G_valid_name : FnOk P w K mg base CX0 1 T.f_valid_name T.d_valid_name ["text"] spName := ok_valid T
  refine T.F_Book_setitem.okX sc_Book_setitem (fun vs H Q E h => ?_) (fun cdv A outer s H vs Q E hr h => ?_)
  · obtain ⟨b, l, p, s, t, es, past, n, x, y, rfl, _⟩ := h
    rfl
  · obtain ⟨b, l, p, s, t, es, past, n, x, y, rfl, hp0, hb, hpl, hf, wn, wx, wy, k1, k2, k3⟩ := h
    refine ⟨_, (pss_cons (ps_asg (pv 2) (pg_tup rfl (pgs_cons (pg_name (i := 3) sc_Book_setitem.nd rfl (Or.inl rfl)) (pgs_cons (pg_name (i := 4) sc_Book_setitem.nd rfl (Or.inl rfl)) pgs_nil))))
    (C8.pss_cut (ps_for (passes_of rfl) rfl (pi_tup (pe_tup (pa_cons (pv 1) (pa_cons (pv 3) (pa_cons (pv 4) pa_nil))))) (pg_name (i := 5) sc_Book_setitem.nd rfl (Or.inl rfl))
      (pss_one (ps_if (pt_not (pt_val (pe_call G_valid_name (hr.mono (by decide)) rfl T.m_valid_name T.F_valid_name.kp T.b_valid_name .nil pass0 (pa_cons (pv 5) pa_nil))))
      (pss_one (ps_raise rfl (takes_of rfl rfl rfl rfl) (pmk_oex T.ox_BadName T.ix_BadName T.tx_BadName G_BadName_init (hr.mono (by decide)) T.b_BadName_init .nil pass0 rfl T.m_BadName (pa_cons (pv 5) pa_nil))))
      pss_nil)))
    (C8.pss_cut (ps_if (PW.pt (pw_and (pt_cmp (pc_dnotin (hu_of hr) (pv 1) (pe_fld (pv 0) rfl))) (pw_and1 (pt_cmpR op_eq (pe_callB call_lenD (by rfl) T.n_len (by decide +kernel) (pa_cons (pe_fld (pv 0) rfl) pa_nil)) (ClX.pe_cval (pe_glob (v := .ref T.f_Network) rfl T.m_Network rfl)) (nomark _)))))
      (pss_one (ps_raise rfl (takes_of rfl rfl rfl rfl) (pmk_oex T.ox_BadCount T.ix_BadCount T.tx_BadCount G_BadCount_init (hr.mono (by decide)) T.b_BadCount_init .nil pass0 rfl T.m_BadCount (pa_cons (pe_op op_add (pe_callB call_lenD (by rfl) T.n_len (by decide +kernel) (pa_cons (pe_fld (pv 0) rfl) pa_nil)) pe_int) pa_nil))))
      pss_nil)
    (pss_cons (ps_expr (pe_bm PySem.F.plainAttrs_list PySem.F.slot_list_append PySem.F.type_list_append mt_append (pe_fld (pv 0) rfl) (pa_cons (pe_fld (pv 0) rfl) pa_nil)))
    (pss_one (ps_fld (pv 0) (pe_dispD (pe_fld (pv 0) rfl) (pv 1) (pe_tup (pa_cons (pv 3) (pa_cons (pv 4) pa_nil)))) rfl)))))), ?_⟩
    refine ⟨_, rfl, p, _, rfl, SqT.of hp0, rfl, _, _, rfl, _, _, rfl, rfl, ?_⟩
    refine ⟨fun σ H' => ∃ x5, σ = [some (.ref b), some (.str n), some (.ref p), some (.str x), some (.str y), x5] ∧ Same H H' ∧ bad [n, x, y] = none, ?_, ?_⟩
    · refine ⟨_, rfl, _, rfl, _, rfl, by show 3 ≤ sizeLine; decide, fun tu ntu => ?_⟩
      have wall : ∀ {i : Nat} {v : V}, [V.str n, V.str x, V.str y][i]? = some v → ∃ z, v = .str z ∧ [n, x, y][i]? = some z ∧ Wn z := by
        intro i v hi
        have hlt := (List.getElem?_eq_some_iff.mp hi).1
        match i, hlt, hi with
        | 0, _, hi => exact ⟨n, (Option.some.inj hi).symm, rfl, wn⟩
        | 1, _, hi => exact ⟨x, (Option.some.inj hi).symm, rfl, wx⟩
        | 2, _, hi => exact ⟨y, (Option.some.inj hi).symm, rfl, wy⟩
      refine ⟨tu, rfl, ⟨_, SqT.of upd_same⟩, ?_⟩
      refine for_tup (K := K) (a := tu) (xs := [V.str n, V.str x, V.str y]) (fun i σ H' => ∃ x5, σ = [some (.ref b), some (.str n), some (.ref p), some (.str x), some (.str y), x5] ∧ Same (upd H tu (.tup [V.str n, .str x, .str y])) H' ∧ ∀ z ∈ [n, x, y].take i, vn z = true) ⟨_, rfl, Same.refl _, fun z hz => by simp at hz⟩ (fun i σ H' _ ⟨_, _, s, _⟩ => SqT.of (s _ _ upd_same)) ?_ ?_
      · rintro i v σ H' hi ⟨x5, rfl, s1, hz⟩
        obtain ⟨z, rfl, ez, wz⟩ := wall hi
        refine ⟨_, rfl, z, rfl, wz.1, wz.2, fun H2 s2 => ?_⟩
        refine ⟨vn z, rfl, ?_⟩
        have s02 : Same H H2 := ((same_upd ntu).trans s1).trans s2
        by_cases hv : vn z = true
        · rw [hv]
          refine iteF ⟨_, rfl, s1.trans s2, fun q hq => ?_⟩
          rw [take_more ez] at hq
          rcases List.mem_append.mp hq with hq | hq
          · exact hz q hq
          · rw [List.mem_singleton.mp hq]; exact hv
        · rw [Bool.eq_false_iff.mpr hv]
          refine iteT ?_
          refine ⟨_, rfl, (by show 1 ≤ 1000; decide), fun a na => ?_⟩
          refine ⟨a, .str z, rfl, upd_same, fun d H' nd ne e => ⟨rfl, d, [("name", .str z)], ?_⟩⟩
          exact raise_asks na ((k1 z (bad_at hz ez hv)).on s02) d H' nd ne e
      · rintro σ H' ⟨x5, rfl, s1, hz⟩
        refine ⟨x5, rfl, (same_upd ntu).trans s1, ?_⟩
        unfold bad
        rw [List.find?_eq_none]
        intro z hm
        rw [hz z hm]
        decide
    rintro σ H1 ⟨x5, rfl, s1, hg⟩
    obtain ⟨dx, d, as, h1, ⟨kvs, h2, hp⟩, h3, h4⟩ := hb.same s1
    have hnm : (valV kvs (.inr n : Key)).isSome = decide (n ∈ names es) := by
      rw [← found_some]
      rcases val_found (n := n) hp with ⟨e1, e2⟩ | ⟨e, p, e1, e2, _⟩ <;> rw [e1, e2] <;> rfl
    have hkl : kvs.length = es.length := hp.length
    refine ⟨fun σ H' => σ = [some (.ref b), some (.str n), some (.ref p), some (.str x), some (.str y), x5] ∧ H' = H1 ∧ (n ∈ names es ∨ es.length ≠ 10), ?_, ?_⟩
    · refine ⟨_, rfl, _, rfl, b, T.f_Book, dx, _, _, rfl, h1, T.cl_Book, T.na_Book_links, lf_links, d, valV kvs (.inr n : Key), rfl, DGet.k (k := .inr n) h2, ?_⟩
      rw [hnm]
      refine ⟨_, rfl, ?_⟩
      by_cases hn : n ∈ names es
      · rw [decide_eq_true hn]
        exact iteF (iteF ⟨rfl, rfl, .inl hn⟩)
      · rw [decide_eq_false hn]
        refine iteT ?_
        refine ⟨_, rfl, b, T.f_Book, dx, _, _, rfl, h1, T.cl_Book, T.na_Book_links, lf_links, d, kvs, rfl, h2, T.f_Network, _, _, _, rfl, T.cr_Network, T.cv_Network_MOST_LINKS, rfl, _, rfl, ite2 (fun h => ?_) fun h => ?_⟩
        · have h10 : es.length = 10 := by
            have z : V.int (kvs.length : Int) = V.int 10 := of_decide_eq_true h
            injection z with z
            omega
          have e11 : (kvs.length : Int) + 1 = 11 := by omega
          have kk := (k2 hg hn h10).on s1
          rw [← e11] at kk
          refine ⟨_, rfl, b, T.f_Book, dx, _, _, rfl, h1, T.cl_Book, T.na_Book_links, lf_links, d, kvs, rfl, h2, _, _, rfl, rfl, (by show 1 ≤ 1000; decide), fun a na => ?_⟩
          refine ⟨a, _, rfl, upd_same, fun d H' nd ne e => ⟨rfl, d, [("count", V.int ((kvs.length : Int) + 1))], ?_⟩⟩
          exact raise_asks na kk d H' nd ne e
        · refine ⟨rfl, rfl, .inr fun z => h (decide_eq_true ?_)⟩
          rw [hkl, z]
          rfl
    rintro σ H' ⟨rfl, rfl, hor⟩
    have bl : b ≠ l := ne_of h1 h3 (by intro z; cases z)
    have bd : b ≠ d := ne_of h1 h2 (by intro z; cases z)
    have ld : l ≠ d := ne_of h3 h2 (by intro z; cases z)
    have hl2 : as.length = past.length := h4.length
    have few := hf.few
    have k3' := k3 hg hor
    refine ⟨_, rfl, b, T.f_Book, dx, _, _, rfl, h1, T.cl_Book, T.na_Book_past, lf_past, .inl ⟨rfl, _, SqL.of h3⟩, ?_⟩
    refine ⟨_, rfl, b, T.f_Book, dx, _, _, rfl, h1, T.cl_Book, T.na_Book_links, lf_links, l, _, .ref d, rfl, rfl, h3, small1000 (by rw [List.length_map]; omega), ?_⟩
    generalize hH2 : upd H' l (.lst (as.map V.ref ++ [V.ref d])) = H2
    have g1 : H2 b = some (.ins T.f_Book dx [("_start", .str s), ("_end", .str t), ("_links", .ref d), ("_past", .ref l)]) := by rw [← hH2, upd_ne bl]; exact h1
    have gd : H2 d = some (.dK kvs) := by rw [← hH2, upd_ne (Ne.symm ld)]; exact h2
    have gl : H2 l = some (.lst (as.map V.ref ++ [V.ref d])) := by rw [← hH2]; exact upd_same
    intro D nD
    have sD := same_upd (o := .dK []) nD
    have dD : d ≠ D := ne_of_none gd nD
    refine ⟨_, rfl, b, T.f_Book, dx, _, _, rfl, sD _ _ g1, T.cl_Book, T.na_Book_links, lf_links, d, kvs, rfl, sD _ _ gd, dD, upd_same, small1000 (by omega), fun q nq => ?_⟩
    rw [upd_upd] at nq
    have qD : q ≠ D := fun z => by rw [z, upd_same] at nq; cases nq
    have nq2 : H2 q = none := by rw [upd_ne qD] at nq; exact nq
    refine ⟨_, rfl, _, rfl, _, rfl, by show 2 ≤ sizeLine; decide, fun tq ntq => ?_⟩
    rw [upd_upd] at ntq
    have tqq : tq ≠ q := fun z => by rw [z, upd_same] at ntq; cases ntq
    have tqD : tq ≠ D := fun z => by rw [z, upd_ne (Ne.symm qD), upd_same] at ntq; cases ntq
    have ntq2 : H2 tq = none := by rw [upd_ne tqq, upd_ne tqD] at ntq; exact ntq
    refine ⟨by rw [upd_ne (Ne.symm tqD), upd_upd, upd_ne (Ne.symm qD), upd_same], by rw [upd_ne (Ne.symm tqq), upd_same], .inr n, rfl, ?_⟩
    generalize hHF : upd (upd (upd (upd (upd (upd H2 D (HO.dK [])) D (HO.dK kvs)) q (HO.dK [])) tq (HO.tup [V.str x, V.str y])) q (HO.dK [(Sum.inr n, V.ref tq)])) D (HO.dK (putK kvs (Sum.inr n) (V.ref tq))) = HF
    have fD : HF D = some (.dK (putK kvs (.inr n : Key) (.ref tq))) := by rw [← hHF]; exact upd_same
    have ft : HF tq = some (.tup [.str x, .str y]) := by rw [← hHF, upd_ne tqD, upd_ne tqq]; exact upd_same
    have kp : ∀ c o, H2 c = some o → HF c = some o := fun c o hc => by
      have c1 : c ≠ D := ne_of_none hc nD
      have c2 : c ≠ q := ne_of_none hc nq2
      have c3 : c ≠ tq := ne_of_none hc ntq2
      rw [← hHF, upd_ne c1, upd_ne c2, upd_ne c3, upd_ne c2, upd_ne c1, upd_ne c1]
      exact hc
    refine ⟨_, rfl, b, T.f_Book, dx, _, rfl, kp _ _ g1, T.cl_Book, T.na_Book_links, by show 4 < 1000; decide, ?_⟩
    have Db : D ≠ b := fun z => by rw [z, g1] at nD; cases nD
    have put : ∀ c o, c ≠ l → H' c = some o → HF c = some o := fun c o cl hc => kp _ _ (by rw [← hH2, upd_ne cl]; exact hc)
    refine k3' _ (fun c o cb cl hc => by rw [upd_ne cb]; exact put c o cl (s1 _ _ hc)) ?_
    have tp : ∀ c o, H' c = some (.tup o) → (upd HF b (.ins T.f_Book dx (putF "_links" (.ref D) [("_start", .str s), ("_end", .str t), ("_links", .ref d), ("_past", .ref l)]))) c = some (.tup o) := fun c o hc => by
      have cb : c ≠ b := ne_of hc h1 (by intro z; cases z)
      have cl : c ≠ l := ne_of hc h3 (by intro z; cases z)
      rw [upd_ne cb]
      exact put c _ cl hc
    have dk : ∀ c o, H' c = some (.dK o) → (upd HF b (.ins T.f_Book dx (putF "_links" (.ref D) [("_start", .str s), ("_end", .str t), ("_links", .ref d), ("_past", .ref l)]))) c = some (.dK o) := fun c o hc => by
      have cb : c ≠ b := ne_of hc h1 (by intro z; cases z)
      have cl : c ≠ l := ne_of hc h3 (by intro z; cases z)
      rw [upd_ne cb]
      exact put c _ cl hc
    have tqb : tq ≠ b := fun z => by rw [z, g1] at ntq2; cases ntq2
    refine ⟨dx, D, as ++ [d], upd_same, ⟨_, by rw [upd_ne Db]; exact fD, stored_ok (paired_on (fun _ _ e => e.on tp) hp) (by rw [upd_ne tqb]; exact ft)⟩, ?_, paired_snoc ⟨kvs, dk _ _ h2, paired_on (fun _ _ e => e.on tp) hp⟩ (paired_on (fun _ _ r => r.on tp fun kvs e => dk _ _ e) h4)⟩
    rw [upd_ne (Ne.symm bl), List.map_append]
    exact kp _ _ gl
end

/-! ### a new book -/
section
variable {P : Program} {w : World} {K : PySem.W.Frag} {mg : Str → Option Value} {base : Heap}
def spEnds (DB DD : Addr) : Sp := fun vs H Q E => ∃ s t : Str, vs = [.str s, .str t] ∧ Wn s ∧ Wn t ∧ (∀ z, bad [s, t] = some z → Raised H "name" (.str z) DB E) ∧ (bad [s, t] = none → s = t → Raised H "name" (.str t) DD E) ∧
  (bad [s, t] = none → s ≠ t → ∀ H', Same H H' → Q .non H')
theorem ok_ends (T : Txt K mg) : FnOk P w K mg base (L2.CX P w) 3 T.f_check_ends T.d_check_ends ["start", "end"] (spEnds T.f_BadName T.f_DuplicateName) := by
  have G_BadName_init : FnOk P w K mg base CX0 1 T.f_BadName_init T.d_BadName_init ["self", "name"] (spErr "name" T.f_BadName) := ok_eBadName T
  have G_DuplicateName_init : FnOk P w K mg base CX0 1 T.f_DuplicateName_init T.d_DuplicateName_init ["self", "name"] (spErr "name" T.f_DuplicateName) := ok_eDuplicateName T
  have G_valid_name : FnOk P w K mg base CX0 1 T.f_valid_name T.d_valid_name ["text"] spName := ok_valid T
  refine T.F_check_ends.okX sc_check_ends (fun vs H Q E h => ?_) (fun cdv A outer s H vs Q E hr h => ?_)
  · obtain ⟨s, t, rfl, _⟩ := h
    rfl
  · obtain ⟨s, t, rfl, ws, wt, k1, k2, k3⟩ := h
    refine ⟨_, (C8.pss_cut (ps_for (passes_of rfl) rfl (pi_tup (pe_tup (pa_cons (pv 0) (pa_cons (pv 1) pa_nil)))) (pg_name (i := 2) sc_check_ends.nd rfl (Or.inl rfl))
      (pss_one (ps_if (pt_not (pt_val (pe_call G_valid_name (hr.mono (by decide)) rfl T.m_valid_name T.F_valid_name.kp T.b_valid_name .nil pass0 (pa_cons (pv 2) pa_nil))))
      (pss_one (ps_raise rfl (takes_of rfl rfl rfl rfl) (pmk_oex T.ox_BadName T.ix_BadName T.tx_BadName G_BadName_init (hr.mono (by decide)) T.b_BadName_init .nil pass0 rfl T.m_BadName (pa_cons (pv 2) pa_nil))))
      pss_nil)))
    (pss_one (ps_if (pt_cmpR op_eq (pv 0) (pv 1) (nomark _))
      (pss_one (ps_raise rfl (takes_of rfl rfl rfl rfl) (pmk_oex T.ox_DuplicateName T.ix_DuplicateName T.tx_DuplicateName G_DuplicateName_init (hr.mono (by decide)) T.b_DuplicateName_init .nil pass0 rfl T.m_DuplicateName (pa_cons (pv 1) pa_nil))))
      pss_nil))), ?_⟩
    refine ⟨fun σ H' => ∃ x2, σ = [some (.str s), some (.str t), x2] ∧ Same H H' ∧ bad [s, t] = none, ?_, ?_⟩
    · refine ⟨_, rfl, _, rfl, by show 2 ≤ sizeLine; decide, fun tu ntu => ?_⟩
      have wall : ∀ {i : Nat} {v : V}, [V.str s, V.str t][i]? = some v → ∃ z, v = .str z ∧ [s, t][i]? = some z ∧ Wn z := by
        intro i v hi
        have hlt := (List.getElem?_eq_some_iff.mp hi).1
        match i, hlt, hi with
        | 0, _, hi => exact ⟨s, (Option.some.inj hi).symm, rfl, ws⟩
        | 1, _, hi => exact ⟨t, (Option.some.inj hi).symm, rfl, wt⟩
      refine ⟨tu, rfl, ⟨_, SqT.of upd_same⟩, ?_⟩
      refine for_tup (K := K) (a := tu) (xs := [V.str s, V.str t]) (fun i σ H' => ∃ x2, σ = [some (.str s), some (.str t), x2] ∧ Same (upd H tu (.tup [V.str s, .str t])) H' ∧ ∀ z ∈ [s, t].take i, vn z = true) ⟨_, rfl, Same.refl _, fun z hz => by simp at hz⟩ (fun i σ H' _ ⟨_, _, s, _⟩ => SqT.of (s _ _ upd_same)) ?_ ?_
      · rintro i v σ H' hi ⟨x2, rfl, s1, hz⟩
        obtain ⟨z, rfl, ez, wz⟩ := wall hi
        refine ⟨_, rfl, z, rfl, wz.1, wz.2, fun H2 s2 => ?_⟩
        refine ⟨vn z, rfl, ?_⟩
        have s02 : Same H H2 := ((same_upd ntu).trans s1).trans s2
        by_cases hv : vn z = true
        · rw [hv]
          refine iteF ⟨_, rfl, s1.trans s2, fun q hq => ?_⟩
          rw [take_more ez] at hq
          rcases List.mem_append.mp hq with hq | hq
          · exact hz q hq
          · rw [List.mem_singleton.mp hq]; exact hv
        · rw [Bool.eq_false_iff.mpr hv]
          refine iteT ?_
          refine ⟨_, rfl, (by show 1 ≤ 1000; decide), fun a na => ?_⟩
          refine ⟨a, .str z, rfl, upd_same, fun d H' nd ne e => ⟨rfl, d, [("name", .str z)], ?_⟩⟩
          exact raise_asks na ((k1 z (bad_at hz ez hv)).on s02) d H' nd ne e
      · rintro σ H' ⟨x2, rfl, s1, hz⟩
        refine ⟨x2, rfl, (same_upd ntu).trans s1, ?_⟩
        unfold bad
        rw [List.find?_eq_none]
        intro z hm
        rw [hz z hm]
        decide
    rintro σ H1 ⟨x2, rfl, s1, hg⟩
    refine ⟨_, rfl, _, rfl, rfl, _, rfl, ?_⟩
    by_cases hst : s = t
    · rw [show decide (V.str s = V.str t) = true by rw [hst]; simp]
      refine iteT ?_
      refine ⟨_, rfl, (by show 1 ≤ 1000; decide), fun a na => ?_⟩
      refine ⟨a, .str t, rfl, upd_same, fun d H' nd ne e => ⟨rfl, d, [("name", .str t)], ?_⟩⟩
      exact raise_asks na ((k2 hg hst).on s1) d H' nd ne e
    · rw [show decide (V.str s = V.str t) = false by simp [hst]]
      exact iteF (k3 hg hst H1 s1)
def spInitB (C DB DD : Addr) : Sp := fun vs H Q E => ∃ (b dx : Addr) (s t : Str), vs = [.ref b, .str s, .str t] ∧ H b = some (.ins C dx []) ∧ Wn s ∧ Wn t ∧ (∀ z, bad [s, t] = some z → Raised H "name" (.str z) DB E) ∧ (bad [s, t] = none → s = t → Raised H "name" (.str t) DD E) ∧
  (bad [s, t] = none → s ≠ t → ∀ l H', (∀ c o, c ≠ b → H c = some o → H' c = some o) → H l = none → BookAt C H' b l s t [] [] → Q .non H')
theorem ok_initB (T : Txt K mg) : FnOk P w K mg base (L2.CX P w) 4 T.f_Book_init T.d_Book_init ["self", "start", "end"] (spInitB T.f_Book T.f_BadName T.f_DuplicateName) := by
  have GX_check_ends : FnOk P w K mg base (L2.CX P w) 3 T.f_check_ends T.d_check_ends ["start", "end"] (spEnds T.f_BadName T.f_DuplicateName) := ok_ends T
  refine T.F_Book_init.okX sc_Book_init (fun vs H Q E h => ?_) (fun cdv A outer s H vs Q E hr h => ?_)
  · obtain ⟨b, dx, s, t, rfl, _⟩ := h
    rfl
  · obtain ⟨b, dx, s, t, rfl, hb, ws, wt, k1, k2, k3⟩ := h
    refine ⟨_, (pss_cons (ps_expr (pe_call GX_check_ends (hr.mono (by decide)) rfl T.m_check_ends T.F_check_ends.kp T.b_check_ends .nil (passX (takes_of rfl rfl rfl rfl)) (pa_cons (pv 1) (pa_cons (pv 2) pa_nil))))
    (pss_cons (ps_fld (pv 0) (pv 1) rfl)
    (pss_cons (ps_fld (pv 0) (pv 2) rfl)
    (pss_cons (ps_fld (pv 0) pe_dnewK rfl)
    (pss_one (ps_fld (pv 0) (pe_lst pa_nil) rfl)))))), ?_⟩
    refine ⟨_, rfl, _, rfl, s, t, rfl, ws, wt, k1, k2, fun hg hne H1 s1 => ?_⟩
    refine ⟨_, rfl, _, rfl, b, T.f_Book, dx, _, rfl, s1 _ _ hb, T.cl_Book, T.na_Book_start, by show 0 < 1000; decide, ?_⟩
    refine ⟨_, rfl, _, rfl, b, T.f_Book, dx, _, rfl, upd_same, T.cl_Book, T.na_Book_end, by show 1 < 1000; decide, ?_⟩
    generalize hHa : upd (upd H1 b (HO.ins T.f_Book dx (putF "_start" (V.str s) []))) b (HO.ins T.f_Book dx (putF "_end" (V.str t) (putF "_start" (V.str s) []))) = Ha
    have ab : Ha b = some (.ins T.f_Book dx [("_start", .str s), ("_end", .str t)]) := by rw [← hHa]; exact upd_same
    have ak : ∀ c o, c ≠ b → H c = some o → Ha c = some o := fun c o cb hc => by rw [← hHa, upd_ne cb, upd_ne cb]; exact s1 _ _ hc
    intro d nd
    have bd : b ≠ d := ne_of_none ab nd
    refine ⟨_, rfl, b, T.f_Book, dx, _, rfl, same_upd nd _ _ ab, T.cl_Book, T.na_Book_links, by show 2 < 1000; decide, ?_⟩
    refine ⟨Nat.zero_le _, fun l nl => ?_⟩
    have bl : b ≠ l := fun z => by rw [← z, upd_same] at nl; cases nl
    have nl1 : (upd Ha d (.dK [])) l = none := by rw [upd_ne (Ne.symm bl)] at nl; exact nl
    have ld : l ≠ d := fun z => by rw [z, upd_same] at nl1; cases nl1
    have nl2 : Ha l = none := by rw [upd_ne ld] at nl1; exact nl1
    refine ⟨_, rfl, b, T.f_Book, dx, _, rfl, by rw [upd_ne bl]; exact upd_same, T.cl_Book, T.na_Book_past, by show 3 < 1000; decide, ?_⟩
    have nlH : H l = none := by
      cases e : H l with
      | none => rfl
      | some o => exact absurd (ak l o (Ne.symm bl) e) (by rw [nl2]; intro z; cases z)
    have ndH : H d = none := by
      cases e : H d with
      | none => rfl
      | some o => exact absurd (ak d o (Ne.symm bd) e) (by rw [nd]; intro z; cases z)
    refine k3 hg hne l _ (fun c o cb hc => ?_) nlH ⟨dx, d, [], upd_same, ⟨[], by rw [upd_ne (Ne.symm bd), upd_ne (Ne.symm ld), upd_ne (Ne.symm bd)]; exact upd_same, .nil⟩, by rw [upd_ne (Ne.symm bl)]; exact upd_same, .nil⟩
    have cl : c ≠ l := ne_of_none hc nlH
    have cd : c ≠ d := ne_of_none hc ndH
    rw [upd_ne cb, upd_ne cl, upd_ne cb, upd_ne cd]
    exact ak c o cb hc
end

/-! ### the law's answers -/
section
variable {P : Program} {w : World} {K : PySem.W.Frag} {mg : Str → Option Value} {base : Heap}
def Wns (ws : List Str) : Prop := ∀ z ∈ ws, Wn z
/-- what a store should answer -/
def due (es : List Ent) (n x y : Str) : Option (Str × V) := match bad [n, x, y] with
  | some z => some ("bad", .str z)
  | none => if n ∉ names es ∧ es.length = 10 then some ("count", .int 11) else none
/-- an answer: None, or a tuple of a word and a value -/
def ResAt (H : Hp) (r : V) : Option (Str × V) → Prop
  | none => r = .non
  | some (k, v) => ∃ p, r = .ref p ∧ H p = some (.tup [.str k, v])
theorem ResAt.on {H H' : Hp} {r : V} {d : Option (Str × V)} (h : ResAt H r d) (s : Same H H') : ResAt H' r d := by
  match d, h with
  | none, h => exact h
  | some (k, v), ⟨p, h1, h2⟩ => exact ⟨p, h1, s _ _ h2⟩
def spStore (C : Addr) : Sp := fun vs H Q _ => ∃ (b l p : Addr) (s t : Str) (es : List Ent) (past : List (List Ent)) (n x y : Str), vs = [.ref b, .str n, .ref p] ∧ H p = some (.tup [.str x, .str y]) ∧ BookAt C H b l s t es past ∧ past.length ≤ 1000 ∧ FineE es ∧
  Wn n ∧ Wn x ∧ Wn y ∧ (due es n x y = none → ∀ H', But2 b l H H' → BookAt C H' b l s t (stored es n (x, y)) (past ++ [es]) → Q .non H') ∧
  (due es n x y ≠ none → ∀ r H', Same H H' → ResAt H' r (due es n x y) → Q r H')
theorem ok_store (T : Txt K mg) : FnOk P w K mg base CX0 4 T.f_store T.d_store ["_law_book", "_law_name", "_law_ends_here"] (spStore T.f_Book) := by
  have GX_Book_setitem : FnOk P w K mg base (L2.CX P w) 3 T.f_Book_setitem T.d_Book_setitem ["self", "name", "ends"] (spSet T.f_Book T.f_BadName T.f_BadCount) := ok_set T
  refine T.F_store.ok sc_store (fun vs H Q E h => ?_) (fun cdv A outer s H vs Q E hr h => ?_)
  · obtain ⟨b, l, p, s, t, es, past, n, x, y, rfl, _⟩ := h
    rfl
  · obtain ⟨b, l, p, s, t, es, past, n, x, y, rfl, hp0, hb, hpl, hf, wn, wx, wy, k1, k2⟩ := h
    refine ⟨_, (C8.pss_cut (ps_try_asMany rfl rfl sc_store.nd takes0 (fun W pn xe tk _ =>
      (pss_one (ps_asg (pv 2) (pg_setO T.dn_Book_setitem GX_Book_setitem (hr.mono (by decide)) T.b_Book_setitem (fun σ => passAt tk σ) (pv 0) (pv 1))))) (HdsAs.cons (i := 3) rfl rfl ⟨rfl, by decide, .inl T.m_BadName⟩ (fun a oe cls d pn hz hf =>
      (pss_one (ps_ret (pe_tup (pa_cons pe_str (pa_cons (pe_xf T.xf_BadName T.no_BadName_name hz hf (pv 3)) pa_nil)))))) (HdsAs.cons (i := 3) rfl rfl ⟨rfl, by decide, .inl T.m_BadCount⟩ (fun a oe cls d pn hz hf =>
      (pss_one (ps_ret (pe_tup (pa_cons pe_str (pa_cons (pe_xf T.xf_BadCount T.no_BadCount_count hz hf (pv 3)) pa_nil)))))) HdsAs.nil)))
    (pss_one (ps_ret pe_non))), ?_⟩
    refine ⟨fun σ H' => But2 b l H H' ∧ BookAt T.f_Book H' b l s t (stored es n (x, y)) (past ++ [es]) ∧ due es n x y = none, ?_, ?_⟩
    · obtain ⟨dx, d, as, h1, _⟩ := id hb
      refine ⟨_, rfl, _, rfl, _, rfl, b, dx, _, rfl, h1, ?_⟩
      refine ⟨b, l, p, s, t, es, past, n, x, y, rfl, hp0, hb, hpl, hf, wn, wx, wy, fun z hz d H' nd s1 hd => ?_, fun hg hn h10 d H' nd s1 hd => ?_, fun hg hor H' bt hb' => ⟨bt, hb', ?_⟩⟩
      · have hdue : due es n x y = some (("bad" : Str), V.str z) := by
          unfold due
          rw [hz]
        refine ⟨true, PySem.W.exm_ref T.ec_BadName.hs T.ec_BadName.hd T.ox_BadName.tyC T.es_BadName_BadName, fun _ a na => ?_, fun q => nomatch q⟩
        refine ⟨_, rfl, rfl, rfl, d, _, _, rfl, hd, rfl, by show 2 ≤ sizeLine; decide, fun q nq => ?_⟩
        refine k2 (by rw [hdue]; intro w; cases w) _ _ (s1.trans (same_upd nq)) ?_
        rw [hdue]
        exact ⟨q, rfl, upd_same⟩
      · have hdue : due es n x y = some (("count" : Str), V.int 11) := by
          unfold due
          rw [hg]
          simp only
          rw [if_pos ⟨hn, h10⟩]
        refine ⟨false, PySem.W.exm_ref T.ec_BadName.hs T.ec_BadName.hd T.ox_BadName.tyC T.es_BadCount_BadName, (fun q => nomatch q), fun _ => ⟨true, PySem.W.exm_ref T.ec_BadCount.hs T.ec_BadCount.hd T.ox_BadCount.tyC T.es_BadCount_BadCount, fun _ a na => ?_, fun q => nomatch q⟩⟩
        refine ⟨_, rfl, rfl, rfl, d, _, _, rfl, hd, rfl, by show 2 ≤ sizeLine; decide, fun q nq => ?_⟩
        refine k2 (by rw [hdue]; intro w; cases w) _ _ (s1.trans (same_upd nq)) ?_
        rw [hdue]
        exact ⟨q, rfl, upd_same⟩
      · unfold due
        rw [hg]
        simp only
        rw [if_neg (fun z => hor.elim z.1 (fun q => q z.2))]
    rintro σ H' ⟨bt, hb', hd⟩
    exact k1 hd H' bt hb'
def spDropL (C : Addr) : Sp := fun vs H Q _ => ∃ (b l : Addr) (s t : Str) (es : List Ent) (past : List (List Ent)) (n : Str), vs = [.ref b, .str n] ∧ BookAt C H b l s t es past ∧ past.length ≤ 1000 ∧ FineE es ∧
  (n ∈ names es → ∀ H', But2 b l H H' → BookAt C H' b l s t (without es n) (past ++ [es]) → Q .non H') ∧ (n ∉ names es → ∀ q H', Same H H' → H' q = some (.tup [.str "unknown", .str n]) → Q (.ref q) H')
theorem ok_dropL (T : Txt K mg) : FnOk P w K mg base CX0 4 T.f_drop T.d_drop ["_law_book", "_law_name"] (spDropL T.f_Book) := by
  have GX_Book_drop : FnOk P w K mg base (L2.CX P w) 3 T.f_Book_drop T.d_Book_drop ["self", "name"] (spDrop T.f_Book T.f_UnknownName) := ok_drop T
  refine T.F_drop.ok sc_drop (fun vs H Q E h => ?_) (fun cdv A outer s H vs Q E hr h => ?_)
  · obtain ⟨b, l, s, t, es, past, n, rfl, _⟩ := h
    rfl
  · obtain ⟨b, l, s, t, es, past, n, rfl, hb, hpl, hf, k1, k2⟩ := h
    refine ⟨_, (C8.pss_cut (ps_try_as (i := 2) rfl rfl sc_drop.nd rfl rfl ⟨rfl, by decide, .inl T.m_UnknownName⟩ takes0 (fun W pn xe tk _ =>
      (pss_one (ps_expr (pe_methE (pv 0) T.cl_Book T.me_Book_drop GX_Book_drop (hr.mono (by decide)) T.b_Book_drop (fun σ => passAt tk σ) (pa_cons (pv 1) pa_nil))))) (fun a oe cls d pn hz hf =>
      (pss_one (ps_ret (pe_tup (pa_cons pe_str (pa_cons (pe_xf T.xf_UnknownName T.no_UnknownName_name hz hf (pv 2)) pa_nil)))))))
    (pss_one (ps_ret pe_non))), ?_⟩
    refine ⟨fun σ H' => But2 b l H H' ∧ BookAt T.f_Book H' b l s t (without es n) (past ++ [es]) ∧ n ∈ names es, ?_, ?_⟩
    · obtain ⟨dx, d, as, h1, _⟩ := id hb
      refine ⟨_, rfl, b, dx, _, rfl, h1, rfl, _, rfl, b, l, s, t, es, past, n, rfl, hb, hpl, hf, fun hn H' bt hb' => ⟨bt, hb', hn⟩, fun hn d H' nd s1 hd => ?_⟩
      refine ⟨true, PySem.W.exm_ref T.ec_UnknownName.hs T.ec_UnknownName.hd T.ox_UnknownName.tyC T.es_UnknownName_UnknownName, fun _ a na => ?_, fun q => nomatch q⟩
      refine ⟨_, rfl, rfl, rfl, d, _, _, rfl, hd, rfl, by show 2 ≤ sizeLine; decide, fun q nq => ?_⟩
      exact k2 hn q _ (s1.trans (same_upd nq)) upd_same
    rintro σ H' ⟨bt, hb', hn⟩
    exact k1 hn H' bt hb'
/-- the law's own links: a list of tuples -/
def ItemOk (H : Hp) (q : Addr) (e : Ent) : Prop := ∃ p, H q = some (.tup [.str e.1, .ref p]) ∧ H p = some (.tup [.str e.2.1, .str e.2.2])
def EL (H : Hp) (a : Addr) (es : List Ent) : Prop := ∃ qs, H a = some (.lst (qs.map V.ref)) ∧ Paired (ItemOk H) qs es
theorem ItemOk.on {H H' : Hp} {q : Addr} {e : Ent} (r : ItemOk H q e) (s : ∀ c o, H c = some (.tup o) → H' c = some (.tup o)) : ItemOk H' q e := let ⟨p, h1, h2⟩ := r; ⟨p, s _ _ h1, s _ _ h2⟩
theorem EL.on {H H' : Hp} {a : Addr} {es : List Ent} (r : EL H a es) (s : Same H H') : EL H' a es := let ⟨qs, h1, h2⟩ := r; ⟨qs, s _ _ h1, paired_on (fun _ _ e => e.on fun c o z => s _ _ z) h2⟩
theorem inV_names (n : Str) (zs : List Str) : inV (.str n) (zs.map V.str) = decide (n ∈ zs) := by
  unfold inV
  induction zs with
  | nil => rfl
  | cons z r ih =>
    rw [List.map_cons, List.any_cons, ih]
    by_cases h : n = z
    · subst h; simp [eqV]
    · have h2 : ¬ z = n := fun q => h q.symm
      simp [eqV, h, h2]
theorem flat_names (zs : List Str) : (zs.map V.str).all flatV = true := by
  rw [List.all_map]
  exact List.all_eq_true.mpr fun _ _ => rfl
theorem names_take {es : List Ent} {i : Nat} {e : Ent} (h : es[i]? = some e) : names (es.take (i + 1)) = names (es.take i) ++ [e.1] := by
  rw [take_more h]
  unfold names
  rw [List.map_append]
  rfl
/-- the comprehension's turn: the name of a link -/
theorem el_at {H : Hp} {qs : List Addr} {es : List Ent} (h : Paired (ItemOk H) qs es) {i : Nat} {x : V} (hi : (qs.map V.ref)[i]? = some x) : ∃ q e, x = .ref q ∧ es[i]? = some e ∧ ItemOk H q e := by
  rw [List.getElem?_map] at hi
  cases e : qs[i]? with
  | none => rw [e] at hi; cases hi
  | some q =>
    rw [e] at hi
    obtain ⟨e', h1, h2⟩ := pair_at h e
    exact ⟨q, e', (Option.some.inj hi).symm, h1, h2⟩
def spDue : Sp := fun vs H Q _ => ∃ (a p : Addr) (es : List Ent) (n x y : Str), vs = [.ref a, .str n, .ref p] ∧ H p = some (.tup [.str x, .str y]) ∧ EL H a es ∧ es.length ≤ 10 ∧ Wn n ∧ Wn x ∧ Wn y ∧ ∀ r H', Same H H' → ResAt H' r (due es n x y) → Q r H'
theorem ok_due (T : Txt K mg) : FnOk P w K mg base CX0 2 T.f_due_store T.d_due_store ["_law_entries", "_law_name", "_law_ends_here"] spDue := by
  have G_good : FnOk P w K mg base CX0 1 T.f_good T.d_good ["_law_text"] spName := ok_good T
  refine T.F_due_store.ok sc_due_store (fun vs H Q E h => ?_) (fun cdv A outer s H vs Q E hr h => ?_)
  · obtain ⟨a, p, es, n, x, y, rfl, _⟩ := h
    rfl
  · obtain ⟨a, p, es, n, x, y, rfl, hp0, hel, hfew, wn, wx, wy, k⟩ := h
    refine ⟨_, (C8.pss_cut (ps_for PassesOwn.never rfl (pi_list (pe_lst (pa_cons (pv 1) (pa_cons (pe_ix ix_tup (pv 2) pe_int (fun _ _ => rfl)) (pa_cons (pe_ix ix_tup (pv 2) pe_int (fun _ _ => rfl)) pa_nil))))) (pg_name (i := 3) sc_due_store.nd rfl (Or.inl rfl))
      (pss_one (ps_if (pt_not (pt_val (pe_call G_good (hr.mono (by decide)) rfl T.m_good T.F_good.kp T.b_good .nil pass0 (pa_cons (pv 3) pa_nil))))
      (pss_one (ps_ret (pe_tup (pa_cons pe_str (pa_cons (pv 3) pa_nil)))))
      pss_nil)))
    (pss_cons (ps_if (PW.pt (pw_and (pt_cmpR op_notIn_seq (pv 1) (pe_lc (own := [("_law_item", 4)]) (g := gName 4) (tt := tYes) rfl sc_due_store.nd (pi_list (pv 0)) (blkOk_by (N := ["_law_entries", "_law_name", "_law_ends_here", "_law_text", "_law_item"]) (sc := defScope s_due_store) (by decide +kernel)) (fun _ _ _ _ _ => pg_name (i := 4) sc_due_store.nd rfl (Or.inl rfl)) (fun _ _ _ _ _ => pts_nil) (fun _ _ _ _ _ => (pe_ix (show IxR _ (rIxT K) from ix_tup) (pv 4) pe_int (fun _ _ => rfl)))) (by with_unfolding_all rfl)) (pw_and1 (pt_cmpR op_eq (pe_callB call_len_seq (by rfl) T.n_len (by decide +kernel) (pa_cons (pv 0) pa_nil)) pe_int (nomark _)))))
      (pss_one (ps_ret (pe_tup (pa_cons pe_str (pa_cons pe_int pa_nil)))))
      pss_nil)
    (pss_one (ps_ret pe_non)))), ?_⟩
    refine ⟨fun σ H' => ∃ x3, σ = [some (.ref a), some (.str n), some (.ref p), x3, none] ∧ Same H H' ∧ bad [n, x, y] = none, ?_, ?_⟩
    · refine ⟨_, rfl, _, rfl, p, _, 0, _, rfl, rfl, SqT.of hp0, rfl, _, rfl, p, _, 1, _, rfl, rfl, SqT.of hp0, rfl, by show 3 ≤ sizeLine; decide, fun lu nlu => ?_⟩
      have wall : ∀ {i : Nat} {v : V}, [V.str n, V.str x, V.str y][i]? = some v → ∃ z, v = .str z ∧ [n, x, y][i]? = some z ∧ Wn z := by
        intro i v hi
        have hlt := (List.getElem?_eq_some_iff.mp hi).1
        match i, hlt, hi with
        | 0, _, hi => exact ⟨n, (Option.some.inj hi).symm, rfl, wn⟩
        | 1, _, hi => exact ⟨x, (Option.some.inj hi).symm, rfl, wx⟩
        | 2, _, hi => exact ⟨y, (Option.some.inj hi).symm, rfl, wy⟩
      refine ⟨lu, rfl, ⟨_, SqL.of upd_same⟩, ?_⟩
      refine for_list (K := K) (a := lu) (xs := [V.str n, V.str x, V.str y]) (fun i σ H' => ∃ x3, σ = [some (.ref a), some (.str n), some (.ref p), x3, none] ∧ Same (upd H lu (.lst [V.str n, .str x, .str y])) H' ∧ ∀ z ∈ [n, x, y].take i, vn z = true) ⟨_, rfl, Same.refl _, fun z hz => by simp at hz⟩ (fun i σ H' _ ⟨_, _, s, _⟩ => SqL.of (s _ _ upd_same)) ?_ ?_
      · rintro i v σ H' hi ⟨x3, rfl, s1, hz⟩
        obtain ⟨z, rfl, ez, wz⟩ := wall hi
        refine ⟨_, rfl, z, rfl, wz.1, wz.2, fun H2 s2 => ?_⟩
        refine ⟨vn z, rfl, ?_⟩
        have s02 : Same H H2 := ((same_upd nlu).trans s1).trans s2
        by_cases hv : vn z = true
        · rw [hv]
          refine iteF ⟨_, rfl, s1.trans s2, fun q hq => ?_⟩
          rw [take_more ez] at hq
          rcases List.mem_append.mp hq with hq | hq
          · exact hz q hq
          · rw [List.mem_singleton.mp hq]; exact hv
        · rw [Bool.eq_false_iff.mpr hv]
          refine iteT ?_
          refine ⟨_, rfl, by show 2 ≤ sizeLine; decide, fun q nq => ?_⟩
          refine k _ _ (s02.trans (same_upd nq)) ?_
          unfold due
          rw [bad_at hz ez hv]
          exact ⟨q, rfl, upd_same⟩
      · rintro σ H' ⟨x3, rfl, s1, hz⟩
        refine ⟨x3, rfl, (same_upd nlu).trans s1, ?_⟩
        unfold bad
        rw [List.find?_eq_none]
        intro z hm
        rw [hz z hm]
        decide
    rintro σ H1 ⟨x3, rfl, s1, hg⟩
    obtain ⟨qs, ha, hq⟩ := hel.on s1
    have hlen : qs.length = es.length := hq.length
    refine ⟨_, rfl, _, rfl, a, rfl, ⟨_, SqL.of ha⟩, fun D nD => ?_⟩
    refine lc_list (K := K) (a := a) (xs := qs.map V.ref) (fun i H2 => H2 D = some (.lst ((names (es.take i)).map V.str)) ∧ Same H1 H2) ⟨upd_same, same_upd nD⟩ (fun i H2 _ ⟨_, sm⟩ => SqL.of (sm _ _ ha)) ?_ ?_
    · intro i x' H2 hi ⟨eD, sm⟩
      obtain ⟨q, e, rfl, he, hit⟩ := el_at hq hi
      obtain ⟨pp, hq1, _⟩ := hit
      have hi10 := (List.getElem?_eq_some_iff.mp he).1
      refine ⟨rfl, _, rfl, q, _, 0, _, rfl, rfl, SqT.of (sm _ _ hq1), rfl, _, eD, small1000 (by unfold names; rw [List.length_map, List.length_map, List.length_take]; omega), ?_, same_mut sm nD⟩
      rw [upd_same, names_take he, List.map_append]
      rfl
    · intro H2 ⟨eD, sm⟩
      rw [List.length_map, hlen, List.take_length] at eD
      refine ⟨D, _, rfl, .inl (SqL.of eD), rfl, flat_names _, ?_⟩
      rw [inV_names]
      have s02 : Same H H2 := s1.trans sm
      have hel2 : a = a := rfl
      refine ⟨_, rfl, ?_⟩
      by_cases hn : n ∈ names es
      · rw [decide_eq_true hn]
        refine iteF (iteF (k _ _ s02 ?_))
        unfold due
        rw [hg]
        simp only
        rw [if_neg (fun z => z.1 hn)]
        rfl
      · rw [decide_eq_false hn]
        refine iteT ?_
        refine ⟨_, rfl, a, _, rfl, .inl (SqL.of (sm _ _ ha)), rfl, _, rfl, ite2 (fun h => ?_) fun h => ?_⟩
        · have h10 : es.length = 10 := by
            have z : V.int ((qs.map V.ref).length : Int) = V.int 10 := of_decide_eq_true h
            injection z with z
            rw [List.length_map] at z
            omega
          refine ⟨by show 2 ≤ sizeLine; decide, fun q nq => k _ _ (s02.trans (same_upd nq)) ?_⟩
          unfold due
          rw [hg]
          simp only
          rw [if_pos ⟨hn, h10⟩]
          exact ⟨q, rfl, upd_same⟩
        · refine k _ _ s02 ?_
          unfold due
          rw [hg]
          simp only
          rw [if_neg (fun z => h (decide_eq_true (by rw [List.length_map, hlen, z.2]; rfl)))]
          rfl
def spStored : Sp := fun vs H Q _ => ∃ (a p : Addr) (es : List Ent) (n x y : Str), vs = [.ref a, .str n, .ref p] ∧ H p = some (.tup [.str x, .str y]) ∧ EL H a es ∧ es.length ≤ 10 ∧ ∀ r H', Same H H' → H r = none → EL H' r (stored es n (x, y)) → Q (.ref r) H'
theorem ok_stored (T : Txt K mg) : FnOk P w K mg base CX0 1 T.f_stored T.d_stored ["_law_entries", "_law_name", "_law_ends_here"] spStored := by
  refine T.F_stored.ok sc_stored (fun vs H Q E h => ?_) (fun cdv A outer s H vs Q E hr h => ?_)
  · obtain ⟨a, p, es, n, x, y, rfl, _⟩ := h
    rfl
  · obtain ⟨a, p, es, n, x, y, rfl, hp0, hel, hfew, k⟩ := h
    refine ⟨_, (pss_cons (ps_if (pt_cmpR op_notIn_seq (pv 1) (pe_lc (own := [("_law_item", 3)]) (g := gName 3) (tt := tYes) rfl sc_stored.nd (pi_list (pv 0)) (blkOk_by (N := ["_law_entries", "_law_name", "_law_ends_here", "_law_item"]) (sc := defScope s_stored) (by decide +kernel)) (fun _ _ _ _ _ => pg_name (i := 3) sc_stored.nd rfl (Or.inl rfl)) (fun _ _ _ _ _ => pts_nil) (fun _ _ _ _ _ => (pe_ix (show IxR _ (rIxT K) from ix_tup) (pv 3) pe_int (fun _ _ => rfl)))) (by with_unfolding_all rfl))
      (pss_one (ps_ret (pe_op op_cat (pv 0) (pe_lst (pa_cons (pe_tup (pa_cons (pv 1) (pa_cons (pv 2) pa_nil))) pa_nil)))))
      pss_nil)
    (pss_one (ps_ret (pe_lc (own := [("_law_item", 3)]) (g := gName 3) (tt := tYes) rfl sc_stored.nd (pi_list (pv 0)) (blkOk_by (N := ["_law_entries", "_law_name", "_law_ends_here", "_law_item"]) (sc := defScope s_stored) (by decide +kernel)) (fun _ _ _ _ _ => pg_name (i := 3) sc_stored.nd rfl (Or.inl rfl)) (fun _ _ _ _ _ => pts_nil) (fun _ _ _ _ _ => (pe_tup (pa_cons (pe_ix (show IxR _ (rIxT K) from ix_tup) (pv 3) pe_int (fun _ _ => rfl)) (pa_cons (pe_ix (show IxR _ (rIxL K) from ix_list) (pe_lst (pa_cons (pe_ix (show IxR _ (rIxT K) from ix_tup) (pv 3) pe_int (fun _ _ => rfl)) (pa_cons (pv 2) pa_nil))) (pe_callTy call_int1 (by rfl) T.n_int (by decide +kernel) (pa_cons (pe_cmpR op_eq (pe_ix (show IxR _ (rIxT K) from ix_tup) (pv 3) pe_int (fun _ _ => rfl)) (pv 1) (nomark _)) pa_nil)) (fun _ _ => rfl)) pa_nil)))))))), ?_⟩
    obtain ⟨qs, ha, hq⟩ := hel
    have hlen : qs.length = es.length := hq.length
    refine ⟨_, rfl, _, rfl, a, rfl, ⟨_, SqL.of ha⟩, fun D nD => ?_⟩
    refine lc_list (K := K) (a := a) (xs := qs.map V.ref) (fun i H2 => H2 D = some (.lst ((names (es.take i)).map V.str)) ∧ Same H H2) ⟨upd_same, same_upd nD⟩ (fun i H2 _ ⟨_, sm⟩ => SqL.of (sm _ _ ha)) ?_ ?_
    · intro i x' H2 hi ⟨eD, sm⟩
      obtain ⟨q, e, rfl, he, hit⟩ := el_at hq hi
      obtain ⟨pp, hq1, _⟩ := hit
      have hi10 := (List.getElem?_eq_some_iff.mp he).1
      refine ⟨rfl, _, rfl, q, _, 0, _, rfl, rfl, SqT.of (sm _ _ hq1), rfl, _, eD, small1000 (by unfold names; rw [List.length_map, List.length_map, List.length_take]; omega), ?_, same_mut sm nD⟩
      rw [upd_same, names_take he, List.map_append]
      rfl
    · intro H2 ⟨eD, sm⟩
      rw [List.length_map, hlen, List.take_length] at eD
      refine ⟨D, _, rfl, .inl (SqL.of eD), rfl, flat_names _, ?_⟩
      rw [inV_names]
      refine ⟨_, rfl, ?_⟩
      by_cases hn : n ∈ names es
      · rw [decide_eq_true hn]
        refine iteF ?_
        refine ⟨_, rfl, a, rfl, ⟨_, SqL.of (sm _ _ ha)⟩, fun L nL => ?_⟩
        refine lc_list (K := K) (a := a) (xs := qs.map V.ref) (fun i H3 => ∃ ts, H3 L = some (.lst (ts.map V.ref)) ∧ Paired (ItemOk H3) ts ((es.take i).map fun q => if q.1 = n then (q.1, (x, y)) else q) ∧ Same H2 H3) ⟨[], upd_same, .nil, same_upd nL⟩ (fun i H3 _ ⟨_, _, _, sm3⟩ => SqL.of (sm3 _ _ (sm _ _ ha))) ?_ ?_
        · intro i x' H3 hi ⟨ts, eL, hts, sm3⟩
          obtain ⟨q, e, rfl, he, hit⟩ := el_at hq hi
          obtain ⟨pp, hq1, hq2⟩ := hit
          have s03 := sm.trans sm3
          have hi10 := (List.getElem?_eq_some_iff.mp he).1
          have tl : ts.length ≤ 10 := by rw [hts.length, List.length_map, List.length_take]; omega
          refine ⟨rfl, _, rfl, q, _, 0, _, rfl, rfl, SqT.of (s03 _ _ hq1), rfl, _, rfl, q, _, 1, _, rfl, rfl, SqT.of (s03 _ _ hq1), rfl, _, rfl, by show 2 ≤ sizeLine; decide, fun ll nll => ?_⟩
          have s4 := s03.trans (same_upd (o := .lst [V.ref pp, V.ref p]) nll)
          refine ⟨_, rfl, q, _, 0, _, rfl, rfl, SqT.of (s4 _ _ hq1), rfl, _, rfl, rfl, .inr ⟨_, rfl, ?_⟩⟩
          obtain ⟨w0, hw0, hit0⟩ : ∃ w0, atI [V.ref pp, V.ref p] (if decide (V.str e.1 = V.str n) = true then 1 else 0) = some (.ref w0) ∧ H w0 = some (.tup [.str (if e.1 = n then (e.1, (x, y)) else e).2.1, .str (if e.1 = n then (e.1, (x, y)) else e).2.2]) := by
            by_cases hen : e.1 = n
            · refine ⟨p, by rw [hen, decide_eq_true rfl]; rfl, ?_⟩
              rw [if_pos hen]
              exact hp0
            · refine ⟨pp, by rw [decide_eq_false (fun z => hen (by injection z)), if_neg Bool.false_ne_true]; rfl, ?_⟩
              rw [if_neg hen]
              exact hq2
          refine ⟨ll, _, _, _, rfl, rfl, SqL.of upd_same, hw0, by show 2 ≤ sizeLine; decide, fun tt ntt => ?_⟩
          have s5 : Same H3 (upd (upd H3 ll (.lst [V.ref pp, V.ref p])) tt (.tup [V.str e.1, .ref w0])) := (same_upd nll).trans (same_upd ntt)
          have Lt : tt ≠ L := fun z => by rw [z] at ntt; rw [same_upd nll _ _ eL] at ntt; cases ntt
          refine ⟨_, s5 _ _ eL, small1000 (by rw [List.length_map]; omega), ts ++ [tt], by rw [upd_same, List.map_append]; rfl, ?_, same_mut (sm3.trans s5) nL⟩
          have keep : ∀ c o, H3 c = some (.tup o) → (upd (upd (upd H3 ll (.lst [V.ref pp, V.ref p])) tt (.tup [V.str e.1, .ref w0])) L (.lst (ts.map V.ref ++ [V.ref tt]))) c = some (.tup o) := fun c o hc => by
            have cL : c ≠ L := ne_of hc eL (by intro z; cases z)
            rw [upd_ne cL]
            exact s5 _ _ hc
          rw [take_more he, List.map_append]
          refine paired_snoc ⟨w0, ?_, keep _ _ (s03 _ _ hit0)⟩ (paired_on (fun _ _ r => r.on keep) hts)
          rw [upd_ne Lt, upd_same]
          have : (if e.1 = n then (e.1, (x, y)) else e).1 = e.1 := by split <;> rfl
          rw [this]
        · intro H3 ⟨ts, eL, hts, sm3⟩
          rw [List.length_map, hlen, List.take_length] at hts
          exact k L H3 (sm.trans sm3) (sm.free nL) ⟨ts, eL, by unfold stored; rw [if_pos hn]; exact hts⟩
      · rw [decide_eq_false hn]
        refine iteT ?_
        refine ⟨_, rfl, _, rfl, _, rfl, by show 2 ≤ sizeLine; decide, fun tq ntq => ⟨by show 1 ≤ sizeLine; decide, fun lq nlq => ?_⟩⟩
        have s1 := (sm.trans (same_upd (o := .tup [V.str n, .ref p]) ntq)).trans (same_upd (o := .lst [V.ref tq]) nlq)
        refine ⟨a, lq, _, _, rfl, rfl, s1 _ _ ha, upd_same, Nat.le_of_lt (small1000 (by rw [List.length_map]; show qs.length + 1 ≤ 1000; omega)), fun r nr => ?_⟩
        have s2 := s1.trans (same_upd (o := .lst (qs.map V.ref ++ [V.ref tq])) nr)
        refine k r _ s2 (s1.free nr) ⟨qs ++ [tq], by rw [upd_same, List.map_append]; rfl, ?_⟩
        unfold stored
        rw [if_neg hn]
        exact paired_snoc ⟨p, same_upd nr _ _ (same_upd nlq _ _ upd_same), s2 _ _ hp0⟩ (paired_on (fun _ _ e => e.on fun c o z => s2 _ _ z) hq)
end

/-! ### what a book shows -/
section
variable {P : Program} {w : World} {K : PySem.W.Frag} {mg : Str → Option Value} {base : Heap}
def spMissing (C : Addr) : Sp := fun vs H Q _ => ∃ (b l : Addr) (s t : Str) (es : List Ent) (past : List (List Ent)) (n : Str), vs = [.ref b, .str n] ∧ BookAt C H b l s t es past ∧ n ∉ names es ∧ ∀ H', Same H H' → Q (.bl true) H'
theorem found_no {es : List Ent} {n : Str} (h : n ∉ names es) : found es n = none := by
  have := found_some (es := es) (n := n)
  rw [decide_eq_false h] at this
  cases e : found es n with
  | none => rfl
  | some q => rw [e] at this; cases this
theorem ok_missing (T : Txt K mg) : FnOk P w K mg base CX0 5 T.f_missing T.d_missing ["_law_book", "_law_name"] (spMissing T.f_Book) := by
  have GX_Book_getitem : FnOk P w K mg base (L2.CX P w) 3 T.f_Book_getitem T.d_Book_getitem ["self", "name"] (spGet T.f_Book T.f_UnknownName) := ok_get T
  refine T.F_missing.ok sc_missing (fun vs H Q E h => ?_) (fun cdv A outer s H vs Q E hr h => ?_)
  · obtain ⟨b, l, s, t, es, past, n, rfl, _⟩ := h
    rfl
  · obtain ⟨b, l, s, t, es, past, n, rfl, hb, hn, k⟩ := h
    refine ⟨_, (C8.pss_cut (ps_try_as (i := 3) rfl rfl sc_missing.nd rfl rfl ⟨rfl, by decide, .inl T.m_UnknownName⟩ takes0 (fun W pn xe tk _ =>
      (pss_one (ps_set (i := 2) sc_missing.nd rfl (Or.inl rfl) (pe_lst (pa_cons (pe_getO T.dn_Book_getitem GX_Book_getitem (hr.mono (by decide)) T.b_Book_getitem (fun σ => passAt tk σ) (pv 0) (pv 1) (fun _ _ => rfl)) pa_nil))))) (fun a oe cls d pn hz hf =>
      (pss_one (ps_ret (pe_cmpR op_eq (pe_xf T.xf_UnknownName T.no_UnknownName_name hz hf (pv 3)) (pv 1) (nomark _))))))
    (pss_one (ps_ret (pe_cmpR (op_eqD hr.units) (pv 2) (pe_lst pa_nil) (nomark _))))), ?_⟩
    refine ⟨fun _ _ => False, ?_, fun _ _ f => f.elim⟩
    obtain ⟨dx, d, as, h1, _⟩ := id hb
    have hf := found_no hn
    refine ⟨_, rfl, _, rfl, b, dx, _, rfl, h1, b, l, s, t, es, past, n, rfl, hb, fun e p he _ => absurd (hf.symm.trans he) (by intro z; cases z), fun _ d H' nd s1 hd => ?_⟩
    refine ⟨true, PySem.W.exm_ref T.ec_UnknownName.hs T.ec_UnknownName.hd T.ox_UnknownName.tyC T.es_UnknownName_UnknownName, fun _ a na => ?_, fun q => nomatch q⟩
    refine ⟨_, rfl, rfl, rfl, d, _, _, rfl, hd, rfl, _, rfl, rfl, ?_⟩
    rw [decide_eq_true rfl]
    exact k H' s1
theorem shaped_strs (zs : List Str) (h : Wns zs) : SeqAt.shaped (.tuple (zs.map PyData.str)) = true := by
  have h1 : PyData.canLayAll0 (zs.map PyData.str) = true := by
    induction zs with
    | nil => rfl
    | cons a r ih =>
      have ha := (h a List.mem_cons_self).2
      have := ih fun c hc => h c (List.mem_cons_of_mem _ hc)
      show (PyData.canLay0 (.str a) && PyData.canLayAll0 _) = true
      rw [this, Bool.and_true]
      simp only [PyData.canLay0, PyData.strOk]
      rw [Array.all_eq_true]
      intro i hi
      have := ha a.cps[i] (by simp)
      simp
      omega
  have h2 : PyData.depthAll (zs.map PyData.str) = 0 := by
    clear h1 h
    induction zs with
    | nil => rfl
    | cons a r ih =>
      show max (PyData.depth (.str a)) (PyData.depthAll _) = 0
      rw [ih]
      simp [PyData.depth]
  unfold SeqAt.shaped
  rw [show PyData.canLay0 (.tuple (zs.map PyData.str)) = true by simp only [PyData.canLay0]; exact h1, Bool.true_and]
  refine decide_eq_true ?_
  simp only [PyData.depth]
  rw [h2]
  decide
theorem eqv_same_t {d : PyData} (h : SeqAt.shaped d = true) : PyData.eqv d d = true := SeqAt.eqv_refl _ (SeqAt.canLay_of_shaped h)
theorem dp_strs2 {H : Hp} : ∀ zs : List Str, DpAll K H (zs.map V.str) (zs.map PyData.str)
  | [] => .nil
  | z :: r => .cons (.str z) (dp_strs2 r)
/-- words throughout -/
def EntsW (es : List Ent) : Prop := ∀ e ∈ es, Wn e.1 ∧ Wn e.2.1 ∧ Wn e.2.2
theorem wns_names {es : List Ent} (h : EntsW es) : Wns (names es) := fun z hz => by
  obtain ⟨e, he, rfl⟩ := List.mem_map.mp hz
  exact (h e he).1
theorem found_at : ∀ {es : List Ent} {i : Nat} {e : Ent}, (names es).Nodup → es[i]? = some e → found es e.1 = some e.2
  | [], i, e, _, h => by simp at h
  | q :: r, 0, e, _, h => by
    have z : q = e := Option.some.inj h
    subst z
    unfold found
    rw [List.find?_cons_of_pos (by simp)]
    rfl
  | q :: r, i + 1, e, nd, h => by
    have nd' : (q.1 :: names r).Nodup := nd
    obtain ⟨n1, n2⟩ := List.nodup_cons.mp nd'
    have ih := found_at (es := r) (i := i) n2 h
    have hm : e.1 ∈ names r := List.mem_map.mpr ⟨e, List.mem_of_getElem? h, rfl⟩
    have hne : ¬ q.1 = e.1 := fun z => n1 (by rw [z]; exact hm)
    unfold found at ih ⊢
    rw [List.find?_cons_of_neg (by simp [hne])]
    exact ih
def spShows (C : Addr) : Sp := fun vs H Q _ => ∃ (b l a wl : Addr) (s t : Str) (es : List Ent) (past : List (List Ent)) (ws : List Str), vs = [.ref b, .ref a, .ref wl] ∧ BookAt C H b l s t es past ∧ EL H a es ∧ FineE es ∧ EntsW es ∧
  H wl = some (.lst (ws.map V.str)) ∧ ws.length ≤ 100 ∧ ∀ H', Same H H' → Q (.bl true) H'
theorem ok_shows (T : Txt K mg) : FnOk P w K mg base CX0 6 T.f_shows T.d_shows ["_law_book", "_law_entries", "_law_words"] (spShows T.f_Book) := by
  have G_Book_order : FnOk P w K mg base CX0 1 T.f_Book_order T.d_Book_order ["self"] (spOrder T.f_Book) := ok_order T
  have G_Book_len : FnOk P w K mg base CX0 1 T.f_Book_len T.d_Book_len ["self"] (spLen T.f_Book) := ok_len T
  have G_Book_contains : FnOk P w K mg base CX0 1 T.f_Book_contains T.d_Book_contains ["self", "name"] (spContains T.f_Book) := ok_contains T
  have G_Book_getitem := calm_of (ok_get (P := P) (w := w) (base := base) T)
  have G_missing : FnOk P w K mg base CX0 5 T.f_missing T.d_missing ["_law_book", "_law_name"] (spMissing T.f_Book) := ok_missing T
  refine T.F_shows.ok sc_shows (fun vs H Q E h => ?_) (fun cdv A outer s H vs Q E hr h => ?_)
  · obtain ⟨b, l, a, wl, s, t, es, past, ws, rfl, _⟩ := h
    rfl
  · obtain ⟨b, l, a, wl, s, t, es, past, ws, rfl, hb, hel, hf, hw, hwl, hws, k⟩ := h
    refine ⟨_, (pss_cons (ps_setLc (i := 3) (own := [("_law_item", 4)]) (g := gName 4) (tt := tYes) rfl sc_shows.nd rfl rfl (sw_true rfl rfl rfl (by decide +kernel)) (pi_list (pv 1)) (blkOk_by (N := ["_law_book", "_law_entries", "_law_words", "_law_known", "_law_item", "_law_name"]) (sc := defScope s_shows) (by decide +kernel)) (fun _ _ _ _ _ => pg_name (i := 4) sc_shows.nd rfl (Or.inl rfl)) (fun _ _ _ _ _ => pts_nil) (fun _ _ _ _ _ => (pe_ix (show IxR _ (rIxT K) from ix_tup) (pv 4) pe_int (fun _ _ => rfl))))
    (pss_cons (ps_if (PW.pt (pw_or (pt_cmpR (op_neD hr.units) (pe_prop (pv 0) T.cl_Book T.p_Book_order G_Book_order (hr.mono (by decide)) T.b_Book_order .nil pass0 rfl) (pe_callTy call_tuple_of (by rfl) T.n_tuple (by decide +kernel) (pa_cons (pv 3) pa_nil)) (nomark _)) (pw_or1 (pt_cmpR op_ne (pe_callB (call_lenO T.dn_Book_len G_Book_len (hr.mono (by decide)) T.b_Book_len pass0) (by rfl) T.n_len (by decide +kernel) (pa_cons (pv 0) pa_nil)) (pe_callB call_len_seq (by rfl) T.n_len (by decide +kernel) (pa_cons (pv 3) pa_nil)) (nomark _)))))
      (pss_one (ps_ret pe_bl))
      pss_nil)
    (C8.pss_cut (ps_for PassesOwn.never rfl (pi_list (pv 1)) (pg_name (i := 4) sc_shows.nd rfl (Or.inl rfl))
      (pss_one (ps_if (PW.pt (pw_or (pt_cmpR (op_neD hr.units) (pe_getO T.dn_Book_getitem G_Book_getitem (hr.mono (by decide)) T.b_Book_getitem (fun σ => passesAtOf pass0 σ) (pv 0) (pe_ix ix_tup (pv 4) pe_int (fun _ _ => rfl)) (fun _ _ => rfl)) (pe_ix ix_tup (pv 4) pe_int (fun _ _ => rfl)) (nomark _)) (pw_or1 (pt_cmpR (op_notInO T.dn_Book_contains G_Book_contains (hr.mono (by decide)) T.b_Book_contains pass0) (pe_ix ix_tup (pv 4) pe_int (fun _ _ => rfl)) (pv 0) rfl))))
      (pss_one (ps_ret pe_bl))
      pss_nil)))
    (C8.pss_cut (ps_for PassesOwn.never rfl (pi_list (pe_op op_cat (pv 2) (pe_lst (pa_cons pe_str (pa_cons pe_str pa_nil))))) (pg_name (i := 5) sc_shows.nd rfl (Or.inl rfl))
      (pss_one (ps_if (PW.pt (pw_and (pt_cmpR op_notIn_seq (pv 5) (pv 3) (by with_unfolding_all rfl)) (pw_and1 (PW.pt (pw_or (pt_cmpR (op_inO T.dn_Book_contains G_Book_contains (hr.mono (by decide)) T.b_Book_contains pass0) (pv 5) (pv 0) rfl) (pw_or1 (pt_not (pt_val (pe_call G_missing (hr.mono (by decide)) rfl T.m_missing T.F_missing.kp T.b_missing .nil pass0 (pa_cons (pv 0) (pa_cons (pv 5) pa_nil)))))))))))
      (pss_one (ps_ret pe_bl))
      pss_nil)))
    (pss_one (ps_ret pe_bl)))))), ?_⟩
    obtain ⟨qs, ha, hq⟩ := hel
    have hlen : qs.length = es.length := hq.length
    have few := hf.few
    refine ⟨_, rfl, a, rfl, ⟨_, SqL.of ha⟩, fun D nD => ?_⟩
    refine lc_list (K := K) (a := a) (xs := qs.map V.ref) (fun i H2 => H2 D = some (.lst ((names (es.take i)).map V.str)) ∧ Same H H2) ⟨upd_same, same_upd nD⟩ (fun i H2 _ ⟨_, sm⟩ => SqL.of (sm _ _ ha)) ?_ ?_
    · intro i x' H2 hi ⟨eD, sm⟩
      obtain ⟨q, e, rfl, he, hit⟩ := el_at hq hi
      obtain ⟨pp, hq1, _⟩ := hit
      have hi10 := (List.getElem?_eq_some_iff.mp he).1
      refine ⟨rfl, _, rfl, q, _, 0, _, rfl, rfl, SqT.of (sm _ _ hq1), rfl, _, eD, small1000 (by unfold names; rw [List.length_map, List.length_map, List.length_take]; omega), ?_, same_mut sm nD⟩
      rw [upd_same, names_take he, List.map_append]
      rfl
    · intro H2 ⟨eD, sm⟩
      rw [List.length_map, hlen, List.take_length] at eD
      have hb2 := hb.same sm
      obtain ⟨dx, d, as, h1, _⟩ := id hb
      have h12 := sm _ _ h1
      refine ⟨_, rfl, b, dx, _, rfl, h12, b, l, s, t, es, past, rfl, hb2, fun p H3 np s3 hp => ?_⟩
      refine ⟨_, rfl, D, _, rfl, .inl ⟨SqL.of (s3 _ _ eD), fun tl ntl => ?_⟩⟩
      have s4 := s3.trans (same_upd (o := .tup ((names es).map V.str)) ntl)
      refine ⟨_, _, .tup (SqT.of (same_upd ntl _ _ hp)) (dp_strs2 _), .tup (SqT.of upd_same) (dp_strs2 _), shaped_strs _ (wns_names hw), shaped_strs _ (wns_names hw), false, by rw [eqv_same_t (shaped_strs _ (wns_names hw))]; rfl, iteF ?_⟩
      generalize hH4 : upd H3 tl (.tup ((names es).map V.str)) = H4 at s4
      have hb4 := hb2.same s4
      have h14 := s4 _ _ h12
      have eD4 := s4 _ _ eD
      refine ⟨_, rfl, b, dx, _, rfl, h14, b, l, s, t, es, past, rfl, hb4, _, rfl, by omega, by omega, _, rfl, D, _, rfl, .inl (SqL.of eD4), rfl, false, ?_, iteF ?_⟩
      · have : ((names es).map V.str).length = es.length := by unfold names; rw [List.length_map, List.length_map]
        rw [this, decide_eq_true rfl]
        rfl
      have sH4 := sm.trans s4
      refine ⟨fun σ H' => ∃ x4, σ = [some (.ref b), some (.ref a), some (.ref wl), some (.ref D), x4, none] ∧ Same H4 H', ?_, ?_⟩
      · refine ⟨_, rfl, a, rfl, ⟨_, SqL.of (sH4 _ _ ha)⟩, ?_⟩
        refine for_list (K := K) (a := a) (xs := qs.map V.ref) (fun i σ H' => ∃ x4, σ = [some (.ref b), some (.ref a), some (.ref wl), some (.ref D), x4, none] ∧ Same H4 H') ⟨_, rfl, Same.refl _⟩ (fun i σ H' _ ⟨_, _, s5⟩ => SqL.of (s5 _ _ (sH4 _ _ ha))) ?_ (fun σ H' h => h)
        rintro i x' σ H5 hi ⟨x4, rfl, s5⟩
        obtain ⟨q, e, rfl, he, hit⟩ := el_at hq hi
        obtain ⟨pp, hq1, hq2⟩ := hit
        have s05 := sH4.trans s5
        have hb5 := hb4.same s5
        have hfe := found_at hf.nd he
        have hwe := hw e (List.mem_of_getElem? he)
        have hin : e.1 ∈ names es := List.mem_map.mpr ⟨e, List.mem_of_getElem? he, rfl⟩
        have w2 : Wns [e.2.1, e.2.2] := fun z hz => by
          rcases List.mem_cons.mp hz with rfl | hz
          · exact hwe.2.1
          · rw [List.mem_singleton.mp hz]; exact hwe.2.2
        refine ⟨_, rfl, _, rfl, q, _, 0, _, rfl, rfl, SqT.of (s05 _ _ hq1), rfl, b, dx, _, rfl, s5 _ _ h14, b, l, s, t, es, past, e.1, rfl, hb5, fun e' p' he' hp' => ?_, fun hno => absurd (hfe.symm.trans hno) (by intro z; cases z)⟩
        have ee : e.2 = e' := Option.some.inj (hfe.symm.trans he')
        subst ee
        refine ⟨_, rfl, q, _, 1, _, rfl, rfl, SqT.of (s05 _ _ hq1), rfl, _, _, .tup (SqT.of hp') (dp_strs2 [e.2.1, e.2.2]), .tup (SqT.of (s05 _ _ hq2)) (dp_strs2 [e.2.1, e.2.2]), shaped_strs _ w2, shaped_strs _ w2, false, by rw [eqv_same_t (shaped_strs _ w2)]; rfl, iteF ?_⟩
        refine ⟨_, rfl, q, _, 0, _, rfl, rfl, SqT.of (s05 _ _ hq1), rfl, _, rfl, b, dx, _, rfl, s5 _ _ h14, b, l, s, t, es, past, e.1, rfl, hb5, _, rfl, false, ?_, iteF ⟨_, rfl, s5⟩⟩
        rw [decide_eq_true hin]
        rfl
      rintro σ H5 ⟨x4, rfl, s5⟩
      have s05 := sH4.trans s5
      refine ⟨fun σ H' => Same H5 H', ?_, ?_⟩
      · refine ⟨_, rfl, by show 2 ≤ sizeLine; decide, fun l2 nl2 => ?_⟩
        refine ⟨wl, l2, _, _, rfl, rfl, same_upd nl2 _ _ (s05 _ _ hwl), upd_same, Nat.le_of_lt (small1000 (by rw [List.length_map]; show ws.length + 2 ≤ 1000; omega)), fun wr nwr => ?_⟩
        have s6 : Same H5 (upd (upd H5 l2 (.lst [V.str "", .str "zz9"])) wr (.lst (ws.map V.str ++ [V.str "", .str "zz9"]))) := (same_upd nl2).trans (same_upd nwr)
        refine ⟨wr, rfl, ⟨_, SqL.of upd_same⟩, ?_⟩
        refine for_list (K := K) (a := wr) (xs := (ws ++ (["", "zz9"] : List Str)).map V.str) (fun i σ H' => (∃ x5, σ = [some (.ref b), some (.ref a), some (.ref wl), some (.ref D), x4, x5]) ∧ Same (upd (upd H5 l2 (.lst [V.str "", .str "zz9"])) wr (.lst (ws.map V.str ++ [V.str "", .str "zz9"]))) H') ⟨⟨_, rfl⟩, Same.refl _⟩ (fun i σ H' _ ⟨_, s7⟩ => SqL.of (s7 _ _ (by rw [upd_same, List.map_append]; rfl))) ?_ (fun σ H' ⟨_, s7⟩ => s6.trans s7)
        rintro i x' σ H7 hi ⟨⟨x5, rfl⟩, s7⟩
        obtain ⟨z, rfl⟩ : ∃ z, x' = V.str z := by
          rw [List.getElem?_map] at hi
          cases e : (ws ++ (["", "zz9"] : List Str))[i]? with
          | none => rw [e] at hi; cases hi
          | some z => rw [e] at hi; exact ⟨z, (Option.some.inj hi).symm⟩
        have s57 := s6.trans s7
        have hb7 := (hb4.same s5).same s57
        have h17 := s57 _ _ (s5 _ _ h14)
        refine ⟨_, rfl, _, rfl, D, _, rfl, .inl (SqL.of (s57 _ _ (s5 _ _ eD4))), rfl, flat_names _, ?_⟩
        rw [inV_names]
        refine ⟨_, rfl, ?_⟩
        by_cases hz : z ∈ names es
        · rw [decide_eq_true hz]
          exact iteF (iteF ⟨⟨_, rfl⟩, s7⟩)
        · rw [decide_eq_false hz]
          refine iteT ?_
          refine ⟨_, rfl, _, rfl, b, dx, _, rfl, h17, b, l, s, t, es, past, z, rfl, hb7, _, rfl, false, by rw [decide_eq_false hz]; rfl, iteF ?_⟩
          refine ⟨_, rfl, _, rfl, b, l, s, t, es, past, z, rfl, hb7, hz, fun H8 s8 => ⟨true, rfl, iteF ⟨⟨_, rfl⟩, s7.trans s8⟩⟩⟩
      intro σ H6 s6
      exact k H6 (s05.trans s6)
end

/-! ### what changes of links keep -/
section
variable {P : Program} {w : World} {K : PySem.W.Frag} {mg : Str → Option Value} {base : Heap}
theorem without_no {es : List Ent} {n : Str} (h : n ∉ names es) : without es n = es := by
  unfold without
  rw [List.filter_eq_self]
  intro e he
  exact decide_eq_true fun z => h (List.mem_map.mpr ⟨e, he, z⟩)
theorem names_without {es : List Ent} {n : Str} : n ∉ names (without es n) := fun h => by
  obtain ⟨e, he, z⟩ := List.mem_map.mp h
  exact of_decide_eq_true (List.mem_filter.mp he).2 z
theorem fine_without {es : List Ent} {n : Str} (h : FineE es) : FineE (without es n) :=
  ⟨List.Nodup.sublist (List.Sublist.map _ List.filter_sublist) h.nd, Nat.le_trans (List.length_filter_le _ _) h.few⟩
theorem ents_without {es : List Ent} {n : Str} (h : EntsW es) : EntsW (without es n) := fun e he => h e (List.mem_filter.mp he).1
theorem wns_unknown {z : Str} (h : Wn z) : Wns ["unknown", z] := fun q hq => by
  rcases List.mem_cons.mp hq with rfl | hq
  · show ("unknown" : Str).length ≤ 1000 ∧ ∀ c ∈ ("unknown" : Str).cps.toList, c < 128
    decide +kernel
  · rw [List.mem_singleton.mp hq]; exact h
theorem without_take {es : List Ent} {n : Str} {j : Nat} {e : Ent} (h : es[j]? = some e) : without (es.take (j + 1)) n = without (es.take j) n ++ (if e.1 = n then [] else [e]) := by
  unfold without
  rw [take_more h, List.filter_append]
  congr 1
  by_cases hen : e.1 = n
  · rw [if_pos hen]; simp [hen]
  · rw [if_neg hen]; simp [hen]
theorem due_none {es : List Ent} {n x y : Str} (h : due es n x y = none) : bad [n, x, y] = none ∧ (n ∈ names es ∨ es.length ≠ 10) := by
  unfold due at h
  cases hb : bad [n, x, y] with
  | some z => rw [hb] at h; cases h
  | none =>
    rw [hb] at h
    simp only at h
    refine ⟨rfl, ?_⟩
    by_cases hn : n ∈ names es
    · exact .inl hn
    · refine .inr fun z => ?_
      rw [if_pos ⟨hn, z⟩] at h
      cases h
theorem due_some {es : List Ent} {n x y k : Str} {v : V} (wn : Wn n) (wx : Wn x) (wy : Wn y) (h : due es n x y = some (k, v)) : ∃ d : PyData, (∀ H, Dp K H v d) ∧ SeqAt.shaped (.tuple [.str k, d]) = true := by
  unfold due at h
  cases hb : bad [n, x, y] with
  | some z =>
    rw [hb] at h
    cases h
    have hz : z ∈ [n, x, y] := List.mem_of_find?_eq_some hb
    have wz : Wn z := by
      rcases List.mem_cons.mp hz with rfl | hz
      · exact wn
      rcases List.mem_cons.mp hz with rfl | hz
      · exact wx
      rw [List.mem_singleton.mp hz]; exact wy
    refine ⟨.str z, fun H => .str z, shaped_strs ["bad", z] fun q hq => ?_⟩
    rcases List.mem_cons.mp hq with rfl | hq
    · show ("bad" : Str).length ≤ 1000 ∧ ∀ c ∈ ("bad" : Str).cps.toList, c < 128
      decide +kernel
    · rw [List.mem_singleton.mp hq]; exact wz
  | none =>
    rw [hb] at h
    simp only at h
    split at h
    · cases h
      exact ⟨.int 11, fun H => .int 11, by decide +kernel⟩
    · cases h
theorem names_stored {es : List Ent} {n : Str} {e : Str × Str} : names (stored es n e) = if n ∈ names es then names es else names es ++ [n] := by
  unfold stored
  split
  · unfold names
    rw [List.map_map]
    refine List.map_congr_left fun q _ => ?_
    show (if q.1 = n then (q.1, e) else q).1 = q.1
    split <;> rfl
  · unfold names
    rw [List.map_append]
    rfl
theorem fine_stored {es : List Ent} {n : Str} {e : Str × Str} (h : FineE es) (hor : n ∈ names es ∨ es.length ≠ 10) : FineE (stored es n e) := by
  have hl : ∀ es : List Ent, es.length = (names es).length := fun es => (List.length_map _).symm
  have few := h.few
  constructor
  · rw [names_stored]
    split
    · exact h.nd
    · rename_i hn
      exact List.nodup_append.mpr ⟨h.nd, by simp, fun a ha b hb z => hn (by rw [List.mem_singleton.mp hb] at z; rw [← z]; exact ha)⟩
  · rw [hl, names_stored]
    split
    · rw [← hl]; exact few
    · rename_i hn
      rw [List.length_append, ← hl, List.length_singleton]
      have := hor.resolve_left hn
      omega
theorem ents_stored {es : List Ent} {n x y : Str} (h : EntsW es) (wn : Wn n) (wx : Wn x) (wy : Wn y) : EntsW (stored es n (x, y)) := by
  intro e he
  unfold stored at he
  split at he
  · obtain ⟨q, hq, rfl⟩ := List.mem_map.mp he
    split
    · exact ⟨(h q hq).1, wx, wy⟩
    · exact h q hq
  · rcases List.mem_append.mp he with he | he
    · exact h e he
    · rw [List.mem_singleton.mp he]; exact ⟨wn, wx, wy⟩
theorem shaped_none : SeqAt.shaped .none = true := by decide +kernel
end

/-! ### changes taken back -/
section
variable {P : Program} {w : World} {K : PySem.W.Frag} {mg : Str → Option Value} {base : Heap}
theorem snoc_of {α β : Type} {F : α → β → Prop} {b : β} : ∀ {ys : List β} {xs : List α}, Paired F xs (ys ++ [b]) → ∃ xs0 a, xs = xs0 ++ [a] ∧ Paired F xs0 ys ∧ F a b
  | [], x :: xs, h => by
    cases h with
    | cons a r =>
      cases r
      exact ⟨[], x, rfl, .nil, a⟩
  | y :: ys, x :: xs, h => by
    cases h with
    | cons a r =>
      obtain ⟨xs0, z, rfl, h1, h2⟩ := snoc_of (ys := ys) r
      exact ⟨x :: xs0, z, rfl, .cons a h1, h2⟩
  | [], [], h => by cases h
  | y :: ys, [], h => by cases h
def spUndo (C D : Addr) : Sp := fun vs H Q E => ∃ (b l : Addr) (s t : Str) (es : List Ent) (past : List (List Ent)), vs = [.ref b] ∧ BookAt C H b l s t es past ∧ past.length ≤ 1000 ∧ (past = [] → E (.ref D) none H) ∧
  (∀ past0 es0, past = past0 ++ [es0] → ∀ H', But2 b l H H' → BookAt C H' b l s t es0 past0 → Q .non H')
theorem ok_undo (T : Txt K mg) : FnOk P w K mg base (L2.CX P w) 1 T.f_Book_undo T.d_Book_undo ["self"] (spUndo T.f_Book T.f_NothingToUndo) := by
  refine T.F_Book_undo.okX sc_Book_undo (fun vs H Q E h => ?_) (fun cdv A outer s H vs Q E hr h => ?_)
  · obtain ⟨b, l, s, t, es, past, rfl, _⟩ := h
    rfl
  · obtain ⟨b, l, s, t, es, past, rfl, hb, hpl, k1, k2⟩ := h
    refine ⟨_, (pss_cons (ps_if (pt_cmpR op_eq (pe_callB call_len_seq (by rfl) T.n_len (by decide +kernel) (pa_cons (pe_fld (pv 0) rfl) pa_nil)) pe_int (nomark _))
      (pss_one (ps_raise rfl (takes_of rfl rfl rfl rfl) (pmk_own0 PySem.F.excBase_ValueError T.xq_NothingToUndo T.m_NothingToUndo T.xk_NothingToUndo (raises_own T.ec_NothingToUndo.hs T.xt_NothingToUndo) rfl)))
      pss_nil)
    (pss_one (ps_fld (pv 0) (pe_bm0 PySem.F.plainAttrs_list PySem.F.slot_list_pop PySem.F.type_list_pop mt_pop (pe_fld (pv 0) rfl)) rfl))), ?_⟩
    obtain ⟨dx, d, as, h1, h2, h3, h4⟩ := hb
    have hl : as.length = past.length := h4.length
    refine ⟨_, rfl, b, T.f_Book, dx, _, _, rfl, h1, T.cl_Book, T.na_Book_past, lf_past, l, _, rfl, .inl (SqL.of h3), rfl, _, rfl, ?_⟩
    rw [List.length_map, hl]
    by_cases hp : past = []
    · rw [hp]
      refine iteT ?_
      exact k1 hp
    · obtain ⟨past0, es0, hpe⟩ : ∃ p0 e0, past = p0 ++ [e0] := ⟨past.dropLast, past.getLast hp, (List.dropLast_concat_getLast hp).symm⟩
      subst hpe
      obtain ⟨as0, d0, rfl, h5, h6⟩ := snoc_of h4
      rw [show decide (V.int (((past0 ++ [es0]).length : Nat) : Int) = V.int 0) = false by simp; omega]
      refine iteF ?_
      have bl : b ≠ l := ne_of h1 h3 (by intro z; cases z)
      refine ⟨_, rfl, b, T.f_Book, dx, _, _, rfl, h1, T.cl_Book, T.na_Book_past, lf_past, .inl ⟨rfl, _, SqL.of h3⟩, l, _, .ref d0, rfl, rfl, h3, by simp, ?_⟩
      have dl : ((as0 ++ [d0]).map V.ref).dropLast = as0.map V.ref := by rw [List.map_append]; exact List.dropLast_concat
      rw [dl]
      refine ⟨_, rfl, b, T.f_Book, dx, _, rfl, by rw [upd_ne bl]; exact h1, T.cl_Book, T.na_Book_links, by show 4 < 1000; decide, ?_⟩
      have tp : ∀ c o, H c = some (.tup o) → (upd (upd H l (.lst (as0.map V.ref))) b (.ins T.f_Book dx (putF "_links" (.ref d0) [("_start", .str s), ("_end", .str t), ("_links", .ref d), ("_past", .ref l)]))) c = some (.tup o) := fun c o hc => by
        rw [upd_ne (ne_of hc h1 (by intro z; cases z)), upd_ne (ne_of hc h3 (by intro z; cases z))]
        exact hc
      have dk : ∀ c o, H c = some (.dK o) → (upd (upd H l (.lst (as0.map V.ref))) b (.ins T.f_Book dx (putF "_links" (.ref d0) [("_start", .str s), ("_end", .str t), ("_links", .ref d), ("_past", .ref l)]))) c = some (.dK o) := fun c o hc => by
        rw [upd_ne (ne_of hc h1 (by intro z; cases z)), upd_ne (ne_of hc h3 (by intro z; cases z))]
        exact hc
      refine k2 past0 es0 rfl _ (fun c o cb cl hc => by rw [upd_ne cb, upd_ne cl]; exact hc) ⟨dx, d0, as0, upd_same, h6.on tp fun kvs e => dk _ _ e, by rw [upd_ne (Ne.symm bl)]; exact upd_same, paired_on (fun _ _ r => r.on tp fun kvs e => dk _ _ e) h5⟩
def spUndoL (C : Addr) : Sp := fun vs H Q _ => ∃ (b l : Addr) (s t : Str) (es : List Ent) (past : List (List Ent)), vs = [.ref b] ∧ BookAt C H b l s t es past ∧ past.length ≤ 1000 ∧ (past = [] → ∀ q H', Same H H' → H' q = some (.tup [.str "nothing", .str ""]) → Q (.ref q) H') ∧
  (∀ past0 es0, past = past0 ++ [es0] → ∀ H', But2 b l H H' → BookAt C H' b l s t es0 past0 → Q .non H')
theorem ok_undoL (T : Txt K mg) : FnOk P w K mg base CX0 2 T.f_undo T.d_undo ["_law_book"] (spUndoL T.f_Book) := by
  have GX_Book_undo : FnOk P w K mg base (L2.CX P w) 1 T.f_Book_undo T.d_Book_undo ["self"] (spUndo T.f_Book T.f_NothingToUndo) := ok_undo T
  refine T.F_undo.ok sc_undo (fun vs H Q E h => ?_) (fun cdv A outer s H vs Q E hr h => ?_)
  · obtain ⟨b, l, s, t, es, past, rfl, _⟩ := h
    rfl
  · obtain ⟨b, l, s, t, es, past, rfl, hb, hpl, k1, k2⟩ := h
    refine ⟨_, (C8.pss_cut (ps_try_only rfl rfl ⟨rfl, by decide, .inl T.m_NothingToUndo⟩ takes0 (fun W pn xe tk _ =>
      (pss_one (ps_expr (pe_methKE (pv 0) T.cl_Book T.me_Book_undo GX_Book_undo (hr.mono (by decide)) T.kbm_Book_undo (fun σ => passAt tk σ) pk_nil)))) (fun a oe cls d pn hz hf =>
      (pss_one (ps_ret (pe_tup (pa_cons pe_str (pa_cons pe_str pa_nil)))))))
    (pss_one (ps_ret pe_non))), ?_⟩
    refine ⟨fun σ H' => ∃ past0 es0, past = past0 ++ [es0] ∧ But2 b l H H' ∧ BookAt T.f_Book H' b l s t es0 past0, ?_, ?_⟩
    · obtain ⟨dx, d, as, h1, _⟩ := id hb
      refine ⟨_, rfl, b, dx, _, rfl, h1, rfl, b, l, s, t, es, past, rfl, hb, hpl, fun hp => ?_, fun past0 es0 hp H' bt hb' => ⟨past0, es0, hp, bt, hb'⟩⟩
      refine ⟨true, PySem.W.exm_ref T.ec_NothingToUndo.hs T.ec_NothingToUndo.hd T.xt_NothingToUndo T.es_NothingToUndo_NothingToUndo, fun _ a na => ?_, fun q => nomatch q⟩
      refine ⟨by show 2 ≤ sizeLine; decide, fun q nq => ?_⟩
      exact k1 hp q _ (same_upd nq) upd_same
    rintro σ H' ⟨past0, es0, hp, bt, hb'⟩
    exact k2 past0 es0 hp H' bt hb'
/-- a draw of two ends, a new tuple -/
def spots : List Str := ["s", "p", "q", "m", "b", "t"]
theorem spots_wns : Wns spots := by
  show ∀ z ∈ ([("s" : Str), "p", "q", "m", "b", "t"] : List Str), z.length ≤ 1000 ∧ ∀ c ∈ z.cps.toList, c < 128
  decide +kernel
theorem at_wns {ws : List Str} {r : Int} (h : Wns ws) (h0 : 0 ≤ r) (h1 : r < ws.length) : ∃ z, atI (ws.map V.str) r = some (.str z) ∧ Wn z := by
  obtain ⟨j, rfl⟩ : ∃ j : Nat, r = (j : Int) := ⟨r.toNat, by omega⟩
  have hj : j < ws.length := by omega
  exact ⟨ws[j], atI_nat (by rw [List.getElem?_map, List.getElem?_eq_getElem hj]; rfl), h _ (List.getElem_mem hj)⟩
theorem same_upd2 {G G1 : Hp} {p : Addr} {o : HO} (s : Same G G1) : Same (upd G p o) (upd G1 p o) := fun c u hc => by
  by_cases e : c = p
  · subst e; rw [upd_same] at hc ⊢; exact hc
  · rw [upd_ne e] at hc ⊢; exact s c u hc
def spEnds2 : Sp := fun vs H Q _ => ∃ (G : Hp) (st : Addr) (m : Nat), vs = [.ref st] ∧ DSt G H st m ∧ m < 900000 ∧ ∀ p x y H', Wn x → Wn y → G p = none → DSt (upd G p (.tup [.str x, .str y])) H' st (m + 3) → Q (.ref p) H'
theorem ok_ends2 (T : Txt K mg) : FnOk P w K mg base CX0 2 T.f_ends T.d_ends ["_law_state"] spEnds2 := by
  have G_take : FnOk P w K mg base CX0 1 T.f_take T.d_take ["_law_state", "_law_limit"] spTake := ok_take T
  refine T.F_ends.ok sc_ends (fun vs H Q E h => ?_) (fun cdv A outer s H vs Q E hr h => ?_)
  · obtain ⟨G, st, m, rfl, _⟩ := h
    rfl
  · obtain ⟨G, st, m, rfl, d, hm, k⟩ := h
    refine ⟨_, (pss_cons (ps_set (i := 1) sc_ends.nd rfl (Or.inl rfl) (pe_lst (pa_cons pe_str (pa_cons pe_str (pa_cons pe_str (pa_cons pe_str (pa_cons pe_str (pa_cons pe_str pa_nil))))))))
    (pss_cons (ps_set (i := 2) sc_ends.nd rfl (Or.inl rfl) (pe_call G_take (hr.mono (by decide)) rfl T.m_take T.F_take.kp T.b_take .nil pass0 (pa_cons (pv 0) (pa_cons pe_int pa_nil))))
    (pss_cons (ps_set (i := 3) sc_ends.nd rfl (Or.inl rfl) (pe_op op_add (pe_op op_add (pv 2) pe_int) (pe_call G_take (hr.mono (by decide)) rfl T.m_take T.F_take.kp T.b_take .nil pass0 (pa_cons (pv 0) (pa_cons (pe_op op_sub pe_int (pv 2)) pa_nil)))))
    (pss_cons (ps_if (pt_cmpR op_eq (pe_call G_take (hr.mono (by decide)) rfl T.m_take T.F_take.kp T.b_take .nil pass0 (pa_cons (pv 0) (pa_cons pe_int pa_nil))) pe_int (nomark _))
      (pss_one (ps_ret (pe_tup (pa_cons (pe_ix ix_list (pv 1) (pv 3) (fun _ _ => rfl)) (pa_cons (pe_ix ix_list (pv 1) (pv 2) (fun _ _ => rfl)) pa_nil)))))
      pss_nil)
    (pss_one (ps_ret (pe_tup (pa_cons (pe_ix ix_list (pv 1) (pv 2) (fun _ _ => rfl)) (pa_cons (pe_ix ix_list (pv 1) (pv 3) (fun _ _ => rfl)) pa_nil))))))))), ?_⟩
    refine ⟨by show 6 ≤ sizeLine; decide, fun sp nsp => ?_⟩
    have d0 := d.learn (same_upd (o := .lst (spots.map V.str)) nsp) nsp upd_same
    have gs : G sp = none := d.free nsp
    generalize hG1 : upd G sp (.lst (spots.map V.str)) = G1 at d0
    have gsp : G1 sp = some (.lst (spots.map V.str)) := by rw [← hG1]; exact upd_same
    have sG : Same G G1 := by rw [← hG1]; exact same_upd gs
    refine ⟨_, rfl, G1, st, m, 5, rfl, d0, by omega, by decide, by decide, fun lo H1 lo0 lo1 d1 => ?_⟩
    refine ⟨_, rfl, lo, 1, rfl, rfl, _, rfl, _, rfl, 5, lo, rfl, rfl, G1, st, m + 1, 5 - lo, rfl, d1, by omega, by omega, Int.lt_of_le_of_lt (show 5 - lo ≤ 5 by omega) (by decide), fun r H2 r0 r1 d2 => ?_⟩
    refine ⟨_, _, rfl, rfl, ?_⟩
    obtain ⟨zh, eh, wh⟩ := at_wns (r := lo + 1 + r) spots_wns (by omega) (show lo + 1 + r < 6 by omega)
    obtain ⟨zl, el, wl'⟩ := at_wns (r := lo) spots_wns lo0 (show lo < 6 by omega)
    refine ⟨_, rfl, G1, st, m + 2, 12, rfl, d2, by omega, by decide, by decide, fun c H3 c0 c1 d3 => ?_⟩
    have fin : ∀ (x y : Str) (p : Addr), H3 p = none → Wn x → Wn y → Q (.ref p) (upd H3 p (.tup [.str x, .str y])) := fun x y p np wx wy => by
      have d4 := d3.learn (same_upd (o := .tup [V.str x, .str y]) np) np upd_same
      exact k p x y _ wx wy (sG.free (d3.free np)) (d4.less (same_upd2 sG))
    refine ⟨rfl, _, rfl, ite2 (fun _ => ?_) fun _ => ?_⟩
    · exact ⟨_, rfl, _, rfl, sp, _, _, _, rfl, rfl, SqL.of (d3.same _ _ gsp), eh, _, rfl, _, rfl, sp, _, _, _, rfl, rfl, SqL.of (d3.same _ _ gsp), el, by show 2 ≤ sizeLine; decide, fun p np => fin zh zl p np wh wl'⟩
    · exact ⟨_, rfl, _, rfl, sp, _, _, _, rfl, rfl, SqL.of (d3.same _ _ gsp), el, _, rfl, _, rfl, sp, _, _, _, rfl, rfl, SqL.of (d3.same _ _ gsp), eh, by show 2 ≤ sizeLine; decide, fun p np => fin zl zh p np wl' wh⟩
end

/-! ### the law takes a change back -/
section
variable {P : Program} {w : World} {K : PySem.W.Frag} {mg : Str → Option Value} {base : Heap}
theorem wns_nothing : Wns ["nothing", ""] := by
  show ∀ z ∈ ([("nothing" : Str), ""] : List Str), z.length ≤ 1000 ∧ ∀ c ∈ z.cps.toList, c < 128
  decide +kernel
/-- all but three objects stays -/
def But3 (b l p : Addr) (H H' : Hp) : Prop := ∀ c o, c ≠ b → c ≠ l → c ≠ p → H c = some o → H' c = some o
def spBack (C : Addr) : Sp := fun vs H Q _ => ∃ (b l pa : Addr) (s t : Str) (es : List Ent) (past : List (List Ent)) (as : List Addr), vs = [.ref b, .ref pa] ∧ BookAt C H b l s t es past ∧ past.length ≤ 1000 ∧ H pa = some (.lst (as.map V.ref)) ∧ as.length = past.length + 1 ∧ pa ≠ l ∧
  (past = [] → ∀ H', Same H H' → Q (.bl true) H') ∧ (∀ past0 es0, past = past0 ++ [es0] → ∀ H', But3 b l pa H H' → BookAt C H' b l s t es0 past0 → H' pa = some (.lst (as.dropLast.map V.ref)) → Q (.bl true) H')
theorem ok_back (T : Txt K mg) : FnOk P w K mg base CX0 3 T.f_back T.d_back ["_law_book", "_law_past"] (spBack T.f_Book) := by
  have G_undo : FnOk P w K mg base CX0 2 T.f_undo T.d_undo ["_law_book"] (spUndoL T.f_Book) := ok_undoL T
  refine T.F_back.ok sc_back (fun vs H Q E h => ?_) (fun cdv A outer s H vs Q E hr h => ?_)
  · obtain ⟨b, l, pa, s, t, es, past, as, rfl, _⟩ := h
    rfl
  · obtain ⟨b, l, pa, s, t, es, past, as, rfl, hb, hpl, hpa, hal, hne, k1, k2⟩ := h
    refine ⟨_, (pss_cons (ps_if (pt_cmpR op_eq (pe_callB call_len_seq (by rfl) T.n_len (by decide +kernel) (pa_cons (pv 1) pa_nil)) pe_int (nomark _))
      (pss_one (ps_ret (pe_cmpR (op_eqD hr.units) (pe_call G_undo (hr.mono (by decide)) rfl T.m_undo T.F_undo.kp T.b_undo .nil pass0 (pa_cons (pv 0) pa_nil)) (pe_tup (pa_cons pe_str (pa_cons pe_str pa_nil))) (nomark _))))
      pss_nil)
    (pss_cons (ps_expr (pe_bm0 PySem.F.plainAttrs_list PySem.F.slot_list_pop PySem.F.type_list_pop mt_pop (pv 1)))
    (pss_one (ps_ret (pe_cmpR op_isN (pe_call G_undo (hr.mono (by decide)) rfl T.m_undo T.F_undo.kp T.b_undo .nil pass0 (pa_cons (pv 0) pa_nil)) pe_non (nomark _)))))), ?_⟩
    refine ⟨_, rfl, pa, _, rfl, .inl (SqL.of hpa), rfl, _, rfl, ?_⟩
    rw [List.length_map, hal]
    by_cases hp : past = []
    · subst hp
      refine iteT ?_
      refine ⟨_, rfl, b, l, s, t, es, [], rfl, hb, hpl, fun _ q H' s1 eq => ?_, fun p0 e0 h => absurd h (by simp)⟩
      refine ⟨by show 2 ≤ sizeLine; decide, fun q2 nq2 => ?_⟩
      have sq := same_upd (o := .tup [V.str "nothing", .str ""]) nq2
      refine ⟨_, _, .tup (SqT.of (sq _ _ eq)) (dp_strs2 ["nothing", ""]), .tup (SqT.of upd_same) (dp_strs2 ["nothing", ""]), shaped_strs _ wns_nothing, shaped_strs _ wns_nothing, ?_⟩
      rw [eqv_same_t (shaped_strs _ wns_nothing)]
      exact k1 rfl _ (s1.trans sq)
    · have hlp : 0 < past.length := List.length_pos_iff.mpr hp
      rw [show decide (V.int ((past.length + 1 : Nat) : Int) = V.int 1) = false by simp; omega]
      refine iteF ?_
      have hane : as ≠ [] := fun z => by rw [z] at hal; simp at hal
      refine ⟨_, rfl, .inl ⟨rfl, _, SqL.of hpa⟩, pa, _, .ref (as.getLast hane), rfl, rfl, hpa, ?_, ?_⟩
      · rw [List.length_map, List.getElem?_map, List.getLast_eq_getElem, List.getElem?_eq_getElem (by omega)]
        rfl
      have dl : (as.map V.ref).dropLast = as.dropLast.map V.ref := (List.map_dropLast ..).symm
      rw [dl]
      obtain ⟨dx, d, as', h1, h2, h3, h4⟩ := id hb
      have bpa : pa ≠ b := ne_of hpa h1 (by intro z; cases z)
      have hb2 : BookAt T.f_Book (upd H pa (.lst (as.dropLast.map V.ref))) b l s t es past := hb.on (fun c o hx hc => by
        have : c ≠ pa := fun z => by rw [z, hpa] at hc; exact hx _ (Option.some.inj hc).symm
        rw [upd_ne this]; exact hc) (fun xs hc => by rw [upd_ne (Ne.symm hne)]; exact hc)
      refine ⟨_, rfl, b, l, s, t, es, past, rfl, hb2, hpl, fun h => absurd h hp, fun p0 e0 hpe H' bt hb' => ?_⟩
      refine ⟨rfl, ?_⟩
      rw [decide_eq_true rfl]
      refine k2 p0 e0 hpe H' (fun c o cb cl cp hc => bt c o cb cl (by rw [upd_ne cp]; exact hc)) hb' (bt pa _ bpa hne upd_same)
end

/-! ### a drawn change -/
section
variable {P : Program} {w : World} {K : PySem.W.Frag} {mg : Str → Option Value} {base : Heap}
/-- a book and what the law knows of it; L: the lists that change -/
structure Un (C : Addr) (G : Hp) (L : List Addr) (b l pa : Addr) (es : List Ent) (past : List (List Ent)) : Prop where
  hb : BookAt C G b l "s" "t" es past
  hp : ∃ as ea, G pa = some (.lst ((as ++ [ea]).map V.ref)) ∧ Paired (EL G) as past ∧ EL G ea es ∧ (∀ a ∈ as, a ∉ L) ∧ ea ∉ L
  fe : ∀ e ∈ past ++ [es], FineE e ∧ EntsW e
theorem EL.keep {G G' : Hp} {L : List Addr} {a : Addr} {es : List Ent} (r : EL G a es) (ha : a ∉ L) (ht : ∀ c o, G c = some (.tup o) → G' c = some (.tup o)) (hl : ∀ c xs, c ∉ L → G c = some (.lst xs) → G' c = some (.lst xs)) : EL G' a es :=
  let ⟨qs, h1, h2⟩ := r; ⟨qs, hl _ _ ha h1, paired_on (fun _ _ e => e.on ht) h2⟩
theorem paired_mem {α β : Type} {F G : α → β → Prop} {p : α → Prop} (h : ∀ a b, p a → F a b → G a b) : ∀ {xs : List α} {ys : List β}, (∀ a ∈ xs, p a) → Paired F xs ys → Paired G xs ys
  | _, _, _, .nil => .nil
  | x :: xs, y :: ys, hp, .cons a r => .cons (h _ _ (hp _ List.mem_cons_self) a) (paired_mem h (fun a ha => hp a (List.mem_cons_of_mem _ ha)) r)
/-- all but the book at b and the lists in L stays -/
theorem Un.other {C : Addr} {G G' : Hp} {L : List Addr} {b l pa bx : Addr} {es : List Ent} {past : List (List Ent)} (r : Un C G L b l pa es past) (hbx : b ≠ bx) (hx : ∃ dx fs, G bx = some (.ins C dx fs)) (h : ∀ c o, (∀ xs, o ≠ .lst xs) → c ≠ bx → G c = some o → G' c = some o) (hl : ∀ c xs, c ∉ L → G c = some (.lst xs) → G' c = some (.lst xs))
    (h1 : ∀ xs, G l = some (.lst xs) → G' l = some (.lst xs)) (h2 : ∀ xs, G pa = some (.lst xs) → G' pa = some (.lst xs)) : Un C G' L b l pa es past := by
  obtain ⟨dxx, fsx, ex⟩ := hx
  have ht : ∀ c o, G c = some (.tup o) → G' c = some (.tup o) := fun c o hc => h c _ (fun _ z => nomatch z) (ne_of hc ex (by intro z; cases z)) hc
  have hk : ∀ c o, G c = some (.dK o) → G' c = some (.dK o) := fun c o hc => h c _ (fun _ z => nomatch z) (ne_of hc ex (by intro z; cases z)) hc
  obtain ⟨as, ea, p1, p2, p3, p4, p5⟩ := r.hp
  obtain ⟨dx, d, bs, k1, k2, k3, k4⟩ := r.hb
  refine ⟨⟨dx, d, bs, h _ _ (fun _ z => nomatch z) hbx k1, k2.on ht (fun kvs e => hk _ _ e), h1 _ k3, paired_on (fun _ _ r => r.on ht fun kvs e => hk _ _ e) k4⟩, ⟨as, ea, h2 _ p1, paired_mem (p := fun a => a ∉ L) (fun a e ha r => r.keep ha ht hl) p4 p2, p3.keep p5 ht hl, p4, p5⟩, r.fe⟩
theorem Un.same {C : Addr} {G G' : Hp} {L : List Addr} {b l pa : Addr} {es : List Ent} {past : List (List Ent)} (r : Un C G L b l pa es past) (s : Same G G') : Un C G' L b l pa es past := by
  obtain ⟨as, ea, p1, p2, p3, p4, p5⟩ := r.hp
  exact ⟨r.hb.same s, ⟨as, ea, s _ _ p1, paired_on (fun _ _ r => r.on s) p2, p3.on s, p4, p5⟩, r.fe⟩
/-- the book and its lists have changed: what is known now -/
theorem Un.changed {C : Addr} {G H H' : Hp} {L : List Addr} {st b l pa : Addr} {m : Nat} {es es' : List Ent} {past past' : List (List Ent)} {xs : List V} (U : Un C G L b l pa es past) (d : DSt G H st m) (lL : l ∈ L) (pL : pa ∈ L) (bt : But3 b l pa H H') (hb : BookAt C H' b l "s" "t" es' past') (hpa : H' pa = some (.lst xs)) :
    ∃ G', DSt G' H' st m ∧ BookAt C G' b l "s" "t" es' past' ∧ G' pa = some (.lst xs) ∧ But3 b l pa G G' ∧ (∀ c o, G c = some (.tup o) → G' c = some (.tup o)) ∧ (∀ c xs, c ∉ L → G c = some (.lst xs) → G' c = some (.lst xs)) ∧ (∀ c o, H' c = some o → (∀ xs, o ≠ .lst xs) → G' c = some o) ∧ (∀ c o, H' c = some o → H c = none → G' c = some o) := by
  obtain ⟨dx, dd, bs, h1, h2, h3, h4⟩ := U.hb
  obtain ⟨as, ea, p1, _⟩ := U.hp
  obtain ⟨G', d', g1, g2, g3⟩ := d.moved (H' := H') (fun c => c = b ∨ c = l ∨ c = pa) (fun c hc z => by
    rcases hc with rfl | rfl | rfl
    · rw [h1] at z; cases z
    · rw [h3] at z; cases z
    · rw [p1] at z; cases z) (fun c o nc hc => bt c o (fun z => nc (.inl z)) (fun z => nc (.inr (.inl z))) (fun z => nc (.inr (.inr z))) hc)
  have keep : But3 b l pa G G' := fun c o cb cl cp hc => g2 c o (bt c o cb cl cp (d.same _ _ hc)) (by rw [hc]; intro z; cases z)
  refine ⟨G', d', hb.on (fun c o hx hc => g1 c o hc hx) (fun xs hc => g2 l _ hc (by rw [h3]; intro z; cases z)), g2 pa _ hpa (by rw [p1]; intro z; cases z), keep, fun c o hc => ?_, fun c xs hc hx => ?_, g1, g3⟩
  · exact keep c _ (ne_of hc h1 (by intro z; cases z)) (ne_of hc h3 (by intro z; cases z)) (ne_of hc p1 (by intro z; cases z)) hc
  · exact keep c _ (ne_of hx h1 (by intro z; cases z)) (fun z => hc (z ▸ lL)) (fun z => hc (z ▸ pL)) hx
theorem Un.grown {C : Addr} {G G' : Hp} {L : List Addr} {b l pa F : Addr} {es es' : List Ent} {past : List (List Ent)} {as : List Addr} {ea : Addr} (U : Un C G L b l pa es past) (p2 : Paired (EL G) as past) (p3 : EL G ea es) (p4 : ∀ a ∈ as, a ∉ L) (p5 : ea ∉ L) (hb : BookAt C G' b l "s" "t" es' (past ++ [es]))
    (hpa : G' pa = some (.lst ((as ++ [ea]).map V.ref ++ [V.ref F]))) (kt : ∀ c o, G c = some (.tup o) → G' c = some (.tup o)) (kl : ∀ c xs, c ∉ L → G c = some (.lst xs) → G' c = some (.lst xs)) (hF : EL G' F es') (nF : F ∉ L) (fe : FineE es' ∧ EntsW es') : Un C G' L b l pa es' (past ++ [es]) := by
  refine ⟨hb, ⟨as ++ [ea], F, by rw [hpa, List.map_append (l₁ := as ++ [ea])]; rfl, paired_snoc (p3.keep p5 kt kl) (paired_mem (p := fun a => a ∉ L) (fun a e ha r => r.keep ha kt kl) p4 p2), hF, fun a ha => ?_, nF⟩, fun e he => ?_⟩
  · rcases List.mem_append.mp ha with ha | ha
    · exact p4 a ha
    · rw [List.mem_singleton.mp ha]; exact p5
  · rcases List.mem_append.mp he with he | he
    · exact U.fe e he
    · rw [List.mem_singleton.mp he]; exact fe
def spChange (K : PySem.W.Frag) (C : Addr) : Sp := fun vs H Q _ => ∃ (G : Hp) (L : List Addr) (st b l pa wl : Addr) (m : Nat) (es : List Ent) (past : List (List Ent)) (ws : List Str), vs = [.ref st, .ref b, .ref pa, .ref wl] ∧ DSt G H st m ∧ m < 800000 ∧ Un C G L b l pa es past ∧ past.length ≤ 900 ∧
  (∀ c ∈ L, G c ≠ none) ∧ l ∈ L ∧ pa ∈ L ∧ l ≠ pa ∧ G wl = some (.lst (ws.map V.str)) ∧ ws ≠ [] ∧ ws.length ≤ 100 ∧ Wns ws ∧
  ∀ (G' H' : Hp) (es' : List Ent) (past' : List (List Ent)), DSt G' H' st (m + 10) → Un C G' L b l pa es' past' → past'.length ≤ past.length + 1 → But3 b l pa G G' → Q (.bl true) H'
theorem ok_change (T : Txt K mg) : FnOk P w K mg base CX0 5 T.f_change T.d_change ["_law_state", "_law_book", "_law_past", "_law_words"] (spChange K T.f_Book) := by
  have G_take : FnOk P w K mg base CX0 1 T.f_take T.d_take ["_law_state", "_law_limit"] spTake := ok_take T
  have G_drop : FnOk P w K mg base CX0 4 T.f_drop T.d_drop ["_law_book", "_law_name"] (spDropL T.f_Book) := ok_dropL T
  have G_ends : FnOk P w K mg base CX0 2 T.f_ends T.d_ends ["_law_state"] spEnds2 := ok_ends2 T
  have G_due_store : FnOk P w K mg base CX0 2 T.f_due_store T.d_due_store ["_law_entries", "_law_name", "_law_ends_here"] spDue := ok_due T
  have G_store : FnOk P w K mg base CX0 4 T.f_store T.d_store ["_law_book", "_law_name", "_law_ends_here"] (spStore T.f_Book) := ok_store T
  have G_stored : FnOk P w K mg base CX0 1 T.f_stored T.d_stored ["_law_entries", "_law_name", "_law_ends_here"] spStored := ok_stored T
  refine T.F_change.ok sc_change (fun vs H Q E h => ?_) (fun cdv A outer s H vs Q E hr h => ?_)
  · obtain ⟨G, L, st, b, l, pa, wl, m, es, past, ws, rfl, _⟩ := h
    rfl
  · obtain ⟨G, L, st, b, l, pa, wl, m, es, past, ws, rfl, d0, hm, U, hpl, hL, lL, pL, lpa, hwl, hne, hwn, hww, k⟩ := h
    refine ⟨_, (pss_cons (ps_set (i := 4) sc_change.nd rfl (Or.inl rfl) (pe_ix ix_list (pv 2) (pe_un un_neg pe_int) (fun _ _ => rfl)))
    (pss_cons (ps_set (i := 5) sc_change.nd rfl (Or.inr rfl) (pe_ix ix_list (pv 3) (pe_call G_take (hr.mono (by decide)) rfl T.m_take T.F_take.kp T.b_take .nil pass0 (pa_cons (pv 0) (pa_cons (pe_callB call_len_seq (by rfl) T.n_len (by decide +kernel) (pa_cons (pv 3) pa_nil)) pa_nil))) (fun _ _ => rfl)))
    (pss_cons (ps_setLc (i := 6) (own := [("_law_item", 9)]) (g := gName 9) (tt := tYes) rfl sc_change.nd rfl rfl (sw_true rfl rfl rfl (by decide +kernel)) (pi_list (pv 4)) (blkOk_by (N := ["_law_state", "_law_book", "_law_past", "_law_words", "_law_entries", "_law_name", "_law_known", "_law_ends_here", "_law_due", "_law_item"]) (sc := defScope s_change) (by decide +kernel)) (fun _ _ _ _ _ => pg_name (i := 9) sc_change.nd rfl (Or.inl rfl)) (fun _ _ _ _ _ => pts_nil) (fun _ _ _ _ _ => (pe_ix (show IxR _ (rIxT K) from ix_tup) (pv 9) pe_int (fun _ _ => rfl))))
    (C8.pss_cut (ps_if (PW.pt (pw_and (pt_cmpR op_in_seq (pv 5) (pv 6) (by with_unfolding_all rfl)) (pw_and1 (pt_cmpR op_eq (pe_call G_take (hr.mono (by decide)) rfl T.m_take T.F_take.kp T.b_take .nil pass0 (pa_cons (pv 0) (pa_cons pe_int pa_nil))) pe_int (nomark _)))))
      (pss_cons (ps_expr (pe_bm PySem.F.plainAttrs_list PySem.F.slot_list_append PySem.F.type_list_append mt_append (pv 2) (pa_cons (pe_lc (own := [("_law_item", 9)]) (g := gName 9) rfl sc_change.nd (pi_list (pv 4)) (blkOk_by (N := ["_law_state", "_law_book", "_law_past", "_law_words", "_law_entries", "_law_name", "_law_known", "_law_ends_here", "_law_due", "_law_item"]) (sc := defScope s_change) (by decide +kernel)) (fun _ _ _ _ _ => pg_name (i := 9) sc_change.nd rfl (Or.inl rfl)) (fun _ _ _ _ _ => pts_one (pt_cmpR op_ne (pe_ix (show IxR _ (rIxT K) from ix_tup) (pv 9) pe_int (fun _ _ => rfl)) (pv 5) (nomark _))) (fun _ _ _ _ _ => (pv 9))) pa_nil)))
    (pss_one (ps_ret (pe_cmpR op_isN (pe_call G_drop (hr.mono (by decide)) rfl T.m_drop T.F_drop.kp T.b_drop .nil pass0 (pa_cons (pv 1) (pa_cons (pv 5) pa_nil))) pe_non (nomark _)))))
      pss_nil)
    (pss_cons (ps_set (i := 7) sc_change.nd rfl (Or.inl rfl) (pe_call G_ends (hr.mono (by decide)) rfl T.m_ends T.F_ends.kp T.b_ends .nil pass0 (pa_cons (pv 0) pa_nil)))
    (C8.pss_cut (ps_if (PW.pt (pw_and (pt_cmpR op_in_seq (pv 5) (pv 6) (by with_unfolding_all rfl)) (pw_and1 (pt_cmpR op_eq (pe_call G_take (hr.mono (by decide)) rfl T.m_take T.F_take.kp T.b_take .nil pass0 (pa_cons (pv 0) (pa_cons pe_int pa_nil))) pe_int (nomark _)))))
      (pss_one (ps_set (i := 7) sc_change.nd rfl (Or.inl rfl) (pe_ix ix_list (pe_lc (own := [("_law_item", 9)]) (g := gName 9) rfl sc_change.nd (pi_list (pv 4)) (blkOk_by (N := ["_law_state", "_law_book", "_law_past", "_law_words", "_law_entries", "_law_name", "_law_known", "_law_ends_here", "_law_due", "_law_item"]) (sc := defScope s_change) (by decide +kernel)) (fun _ _ _ _ _ => pg_name (i := 9) sc_change.nd rfl (Or.inl rfl)) (fun _ _ _ _ _ => pts_one (pt_cmpR op_eq (pe_ix (show IxR _ (rIxT K) from ix_tup) (pv 9) pe_int (fun _ _ => rfl)) (pv 5) (nomark _))) (fun _ _ _ _ _ => (pe_ix (show IxR _ (rIxT K) from ix_tup) (pv 9) pe_int (fun _ _ => rfl)))) pe_int (fun _ _ => rfl))))
      pss_nil)
    (pss_cons (ps_set (i := 8) sc_change.nd rfl (Or.inl rfl) (pe_call G_due_store (hr.mono (by decide)) rfl T.m_due_store T.F_due_store.kp T.b_due_store .nil pass0 (pa_cons (pv 4) (pa_cons (pv 5) (pa_cons (pv 7) pa_nil)))))
    (C8.pss_cut (ps_if (pt_cmpR op_isN (pv 8) pe_non (nomark _))
      (pss_one (ps_expr (pe_bm PySem.F.plainAttrs_list PySem.F.slot_list_append PySem.F.type_list_append mt_append (pv 2) (pa_cons (pe_call G_stored (hr.mono (by decide)) rfl T.m_stored T.F_stored.kp T.b_stored .nil pass0 (pa_cons (pv 4) (pa_cons (pv 5) (pa_cons (pv 7) pa_nil)))) pa_nil))))
      pss_nil)
    (pss_one (ps_ret (pe_cmpR (op_eqD hr.units) (pe_call G_store (hr.mono (by decide)) rfl T.m_store T.F_store.kp T.b_store .nil pass0 (pa_cons (pv 1) (pa_cons (pv 5) (pa_cons (pv 7) pa_nil)))) (pv 8) (nomark _)))))))))))), ?_⟩
    obtain ⟨as, ea, p1, p2, p3, p4, p5⟩ := U.hp
    have hF := U.fe es (by simp)
    have few := hF.1.few
    have al : as.length = past.length := p2.length
    have hat : atI ((as ++ [ea]).map V.ref) (-1) = some (.ref ea) := by
      rw [List.map_append]
      exact atI_last _ _
    have hp0 : 0 < ws.length := List.length_pos_iff.mpr hne
    refine ⟨_, rfl, 1, rfl, pa, _, -1, _, rfl, rfl, SqL.of (d0.same _ _ p1), hat, ?_⟩
    refine ⟨_, rfl, _, rfl, _, rfl, wl, _, rfl, .inl (SqL.of (d0.same _ _ hwl)), G, st, m, _, rfl, d0, by omega, by rw [List.length_map]; omega, ?_, fun r H1 r0 r1 d1 => ?_⟩
    · rw [List.length_map]
      exact Int.lt_of_le_of_lt (show (ws.length : Int) ≤ 100 by omega) (by decide)
    rw [List.length_map] at r1
    obtain ⟨n, en, wn⟩ := at_wns hww r0 r1
    refine ⟨wl, _, r, _, rfl, rfl, SqL.of (d1.same _ _ hwl), en, ?_⟩
    obtain ⟨qs, ha, hq⟩ := p3
    have hlen : qs.length = es.length := hq.length
    have ha1 := d1.same _ _ ha
    refine ⟨_, rfl, ea, rfl, ⟨_, SqL.of ha1⟩, fun D nD => ?_⟩
    refine lc_list (K := K) (a := ea) (xs := qs.map V.ref) (fun i H2 => H2 D = some (.lst ((names (es.take i)).map V.str)) ∧ Same H1 H2) ⟨upd_same, same_upd nD⟩ (fun i H2 _ ⟨_, sm⟩ => SqL.of (sm _ _ ha1)) ?_ ?_
    · intro i x' H2 hi ⟨eD, sm⟩
      obtain ⟨q, e, rfl, he, hit⟩ := el_at hq hi
      obtain ⟨pp, hq1, _⟩ := hit
      have hi10 := (List.getElem?_eq_some_iff.mp he).1
      refine ⟨rfl, _, rfl, q, _, 0, _, rfl, rfl, SqT.of (sm _ _ (d1.same _ _ hq1)), rfl, _, eD, small1000 (by unfold names; rw [List.length_map, List.length_map, List.length_take]; omega), ?_, same_mut sm nD⟩
      rw [upd_same, names_take he, List.map_append]
      rfl
    · intro H2 ⟨eD, sm⟩
      rw [List.length_map, hlen, List.take_length] at eD
      have d2 := d1.learn sm nD eD
      have gD : G D = none := d1.free nD
      have sG : Same G (upd G D (.lst ((names es).map V.str))) := same_upd gD
      have U2 := U.same sG
      have dD : (upd G D (.lst ((names es).map V.str))) D = some (.lst ((names es).map V.str)) := upd_same
      have q2 : Paired (EL (upd G D (.lst ((names es).map V.str)))) as past := paired_on (fun _ _ r => r.on sG) p2
      have q3 : EL (upd G D (.lst ((names es).map V.str))) ea es := EL.on ⟨qs, ha, hq⟩ sG
      have q1 := sG _ _ p1
      have hL2 : ∀ c ∈ L, (upd G D (.lst ((names es).map V.str))) c ≠ none := fun c hc z => by
        cases e : G c with
        | none => exact hL c hc e
        | some o => rw [sG _ _ e] at z; cases z
      generalize hGD : upd G D (.lst ((names es).map V.str)) = GD at d2 U2 dD sG q1 q2 q3 hL2
      refine ⟨fun σ H' => σ = [some (.ref st), some (.ref b), some (.ref pa), some (.ref wl), some (.ref ea), some (.str n), some (.ref D), none, none, none] ∧ DSt GD H' st (m + 2), ?_, ?_⟩
      · refine ⟨_, rfl, _, rfl, D, _, rfl, .inl (SqL.of (d2.same _ _ dD)), rfl, flat_names _, ?_⟩
        rw [inV_names]
        refine ⟨_, rfl, ?_⟩
        by_cases hin : n ∈ names es
        · rw [decide_eq_true hin]
          refine iteT ⟨_, rfl, GD, st, m + 1, 2, rfl, d2, by omega, by decide, by decide, fun r2 H3 _ _ d3 => ?_⟩
          refine ⟨rfl, _, rfl, ite2 (fun _ => ?_) fun _ => ⟨rfl, d3⟩⟩
          obtain ⟨qs3, ha3, hq3⟩ := id q3
          have hlen3 : qs3.length = es.length := hq3.length
          have h3a := d3.same _ _ ha3
          have h3p := d3.same _ _ q1
          refine ⟨_, rfl, .inl ⟨rfl, _, SqL.of h3p⟩, ?_⟩
          refine ⟨_, rfl, ea, rfl, ⟨_, SqL.of h3a⟩, fun F nF => ?_⟩
          refine lc_list (K := K) (a := ea) (xs := qs3.map V.ref) (fun j H4 => ∃ ts, H4 F = some (.lst (ts.map V.ref)) ∧ Paired (ItemOk GD) ts (without (es.take j) n) ∧ Same H3 H4) ⟨[], upd_same, .nil, same_upd nF⟩ (fun i H4 _ ⟨_, _, _, sm⟩ => SqL.of (sm _ _ h3a)) ?_ ?_
          · intro j x' H4 hj ⟨ts, eF, hts, sm4⟩
            obtain ⟨q, e, rfl, he, hit⟩ := el_at hq3 hj
            obtain ⟨pp, hq1, hq2⟩ := id hit
            have hj10 := (List.getElem?_eq_some_iff.mp he).1
            have tl : ts.length ≤ 10 := by
              rw [hts.length]
              exact Nat.le_trans (List.length_filter_le _ _) (by rw [List.length_take]; omega)
            refine ⟨rfl, _, rfl, q, _, 0, _, rfl, rfl, SqT.of (sm4 _ _ (d3.same _ _ hq1)), rfl, _, rfl, rfl, ?_⟩
            by_cases hen : e.1 = n
            · refine ⟨false, by rw [hen]; simp, iteF ⟨ts, eF, ?_, sm4⟩⟩
              rw [without_take he, if_pos hen, List.append_nil]
              exact hts
            · refine ⟨true, by simp [hen], iteT ⟨_, rfl, _, eF, small1000 (by rw [List.length_map]; omega), ts ++ [q], by rw [upd_same, List.map_append]; rfl, ?_, same_mut sm4 nF⟩⟩
              rw [without_take he, if_neg hen]
              exact paired_snoc hit hts
          · intro H4 ⟨ts, eF, hts, sm4⟩
            rw [List.length_map, hlen3, List.take_length] at hts
            have h4p := sm4 _ _ h3p
            have Fpa : F ≠ pa := fun z => by rw [z, h3p] at nF; cases nF
            obtain ⟨dx, dd, bs, k1, k2, k3, k4⟩ := id U2.hb
            have Fb : F ≠ b := fun z => by rw [z, d3.same _ _ k1] at nF; cases nF
            have Fl : F ≠ l := fun z => by rw [z, d3.same _ _ k3] at nF; cases nF
            have hb4 : BookAt T.f_Book (upd H4 pa (.lst ((as ++ [ea]).map V.ref ++ [V.ref F]))) b l "s" "t" es past := (U2.hb.same (d3.same.trans sm4)).on (fun c o hx hc => by
              have : c ≠ pa := fun z => by rw [z, h4p] at hc; exact hx _ (Option.some.inj hc).symm
              rw [upd_ne this]; exact hc) (fun xs hc => by rw [upd_ne lpa]; exact hc)
            refine ⟨pa, _, .ref F, rfl, rfl, h4p, small1000 (by rw [List.length_map, List.length_append, al, List.length_singleton]; omega), ?_⟩
            refine ⟨_, rfl, _, rfl, b, l, "s", "t", es, past, n, rfl, hb4, by omega, hF.1, fun _ H6 bt hb6 => ⟨rfl, ?_⟩, fun hno => absurd hin hno⟩
            rw [decide_eq_true rfl]
            have bpa : pa ≠ b := ne_of q1 k1 (by intro z; cases z)
            have bt3 : But3 b l pa H3 H6 := fun c o cb cl cp hc => bt c o cb cl (by rw [upd_ne cp]; exact sm4 _ _ hc)
            obtain ⟨G', d', gb, gp, g3', kt, kl, g1, gn⟩ := U2.changed d3 lL pL bt3 hb6 (bt pa _ bpa (Ne.symm lpa) upd_same)
            have eF6 : H6 F = some (.lst (ts.map V.ref)) := bt F _ Fb Fl (by rw [upd_ne Fpa]; exact eF)
            have nFL : F ∉ L := fun hc => hL2 F hc (d3.free nF)
            refine k G' H6 (without es n) (past ++ [es]) (d'.mono (by omega)) (U2.grown q2 q3 p4 p5 gb gp kt kl ⟨ts, gn _ _ eF6 nF, paired_on (fun _ _ e => e.on kt) hts⟩ nFL ⟨fine_without hF.1, ents_without hF.2⟩) (by rw [List.length_append]; exact Nat.le_refl _) fun c o cb cl cp hc => g3' c o cb cl cp (sG _ _ hc)
        · rw [decide_eq_false hin]
          exact iteF (iteF ⟨rfl, d2.mono (by omega)⟩)
      rintro σ H3 ⟨rfl, d3⟩
      obtain ⟨qs3, ha3, hq3⟩ := id q3
      have hlen3 : qs3.length = es.length := hq3.length
      refine ⟨_, rfl, GD, st, m + 2, rfl, d3, by omega, fun p x y H4 wx wy gp d4 => ?_⟩
      refine ⟨fun σ H' => ∃ (p' : Addr) (x' y' : Str) (G' : Hp), σ = [some (.ref st), some (.ref b), some (.ref pa), some (.ref wl), some (.ref ea), some (.str n), some (.ref D), some (.ref p'), none, none] ∧ DSt G' H' st (m + 6) ∧ Same GD G' ∧ G' p' = some (.tup [.str x', .str y']) ∧ Wn x' ∧ Wn y', ?_, ?_⟩
      · have sG4 : Same GD (upd GD p (.tup [V.str x, .str y])) := same_upd gp
        have e4 : (upd GD p (.tup [V.str x, .str y])) p = some (.tup [V.str x, .str y]) := upd_same
        generalize hG4 : upd GD p (.tup [V.str x, .str y]) = G4 at d4 sG4 e4
        refine ⟨_, rfl, _, rfl, D, _, rfl, .inl (SqL.of (d4.same _ _ (sG4 _ _ dD))), rfl, flat_names _, ?_⟩
        rw [inV_names]
        refine ⟨_, rfl, ?_⟩
        by_cases hin : n ∈ names es
        · rw [decide_eq_true hin]
          refine iteT ⟨_, rfl, G4, st, m + 2 + 3, 2, rfl, d4, by omega, by decide, by decide, fun r2 H5 _ _ d5 => ?_⟩
          refine ⟨rfl, _, rfl, ite2 (fun _ => ?_) fun _ => ⟨p, x, y, G4, rfl, d5, sG4, e4, wx, wy⟩⟩
          have h5a := d5.same _ _ (sG4 _ _ ha3)
          refine ⟨_, rfl, ea, rfl, ⟨_, SqL.of h5a⟩, fun F nF => ?_⟩
          refine lc_list (K := K) (a := ea) (xs := qs3.map V.ref) (fun j H6 => ∃ ts, H6 F = some (.lst (ts.map V.ref)) ∧ Paired (fun (t : Addr) (e : Ent) => GD t = some (.tup [.str e.2.1, .str e.2.2])) ts ((es.take j).filter fun e => decide (e.1 = n)) ∧ Same H5 H6) ⟨[], upd_same, .nil, same_upd nF⟩ (fun i H6 _ ⟨_, _, _, sm⟩ => SqL.of (sm _ _ h5a)) ?_ ?_
          · intro j x' H6 hj ⟨ts, eF, hts, sm6⟩
            obtain ⟨q, e, rfl, he, hit⟩ := el_at hq3 hj
            obtain ⟨pp, hq1, hq2⟩ := id hit
            have hj10 := (List.getElem?_eq_some_iff.mp he).1
            have tl : ts.length ≤ 10 := by
              rw [hts.length]
              exact Nat.le_trans (List.length_filter_le _ _) (by rw [List.length_take]; omega)
            have hq1' := sm6 _ _ (d5.same _ _ (sG4 _ _ hq1))
            refine ⟨rfl, _, rfl, q, _, 0, _, rfl, rfl, SqT.of hq1', rfl, _, rfl, rfl, ?_⟩
            by_cases hen : e.1 = n
            · refine ⟨true, by rw [hen]; simp, iteT ⟨_, rfl, q, _, 1, _, rfl, rfl, SqT.of hq1', rfl, _, eF, small1000 (by rw [List.length_map]; omega), ts ++ [pp], by rw [upd_same, List.map_append]; rfl, ?_, same_mut sm6 nF⟩⟩
              rw [take_more he, List.filter_append, List.filter_cons_of_pos (by simp [hen]), List.filter_nil]
              exact paired_snoc (F := fun (t : Addr) (e : Ent) => GD t = some (.tup [.str e.2.1, .str e.2.2])) hq2 hts
            · refine ⟨false, by simp [hen], iteF ⟨ts, eF, ?_, sm6⟩⟩
              rw [take_more he, List.filter_append, List.filter_cons_of_neg (by simp [hen]), List.filter_nil, List.append_nil]
              exact hts
          · intro H6 ⟨ts, eF, hts, sm6⟩
            rw [List.length_map, hlen3, List.take_length] at hts
            obtain ⟨e0, he0, hen0⟩ := List.mem_map.mp hin
            have hmem : e0 ∈ es.filter fun e => decide (e.1 = n) := List.mem_filter.mpr ⟨he0, decide_eq_true hen0⟩
            generalize hfl : (es.filter fun e => decide (e.1 = n)) = fl at hts hmem
            cases hts with
            | nil => cases hmem
            | @cons t0 e1 ts' fl' ht0 _ =>
              have he1 : e1 ∈ es := (List.mem_filter.mp (by rw [hfl]; exact List.mem_cons_self)).1
              refine ⟨F, _, 0, .ref t0, rfl, rfl, SqL.of eF, at0, ?_⟩
              exact ⟨t0, e1.2.1, e1.2.2, G4, rfl, d5.on sm6, sG4, sG4 _ _ ht0, (hF.2 e1 he1).2.1, (hF.2 e1 he1).2.2⟩
        · rw [decide_eq_false hin]
          exact iteF (iteF ⟨p, x, y, G4, rfl, d4.mono (by omega), sG4, e4, wx, wy⟩)
      rintro σ H5 ⟨p', x', y', G5, rfl, d5, sG5, e5, wx', wy'⟩
      have U5 := U2.same sG5
      have q35 := q3.on sG5
      have q25 : Paired (EL G5) as past := paired_on (fun _ _ r => r.on sG5) q2
      have q15 := sG5 _ _ q1
      have hL5 : ∀ c ∈ L, G5 c ≠ none := fun c hc z => by
        cases e : GD c with
        | none => exact hL2 c hc e
        | some o => rw [sG5 _ _ e] at z; cases z
      obtain ⟨dx, dd, bs, k1, k2, k3, k4⟩ := id U5.hb
      have bpa : pa ≠ b := ne_of q15 k1 (by intro z; cases z)
      refine ⟨_, rfl, _, rfl, _, rfl, ea, p', es, n, x', y', rfl, d5.same _ _ e5, q35.on d5.same, few, wn, wx', wy', fun r6 H6 s6 hr6 => ?_⟩
      have d6 := d5.on s6
      refine ⟨fun σ H' => σ = [some (.ref st), some (.ref b), some (.ref pa), some (.ref wl), some (.ref ea), some (.str n), some (.ref D), some (.ref p'), some r6, none] ∧ ((due es n x' y' = none ∧ r6 = .non ∧ ∃ F H8, Same H6 H8 ∧ H6 F = none ∧ EL H8 F (stored es n (x', y')) ∧ H' = upd H8 pa (.lst ((as ++ [ea]).map V.ref ++ [V.ref F]))) ∨ (due es n x' y' ≠ none ∧ H' = H6)), ?_, ?_⟩
      · refine ⟨_, rfl, rfl, _, rfl, ?_⟩
        cases hdue : due es n x' y' with
        | none =>
          rw [hdue] at hr6
          obtain rfl : r6 = .non := hr6
          rw [decide_eq_true rfl]
          refine iteT ⟨_, rfl, .inl ⟨rfl, _, SqL.of (d6.same _ _ q15)⟩, ?_⟩
          refine ⟨_, rfl, _, rfl, _, rfl, ea, p', es, n, x', y', rfl, d6.same _ _ e5, q35.on d6.same, few, fun F H8 s8 nF el8 => ?_⟩
          refine ⟨pa, _, .ref F, rfl, rfl, s8 _ _ (d6.same _ _ q15), small1000 (by rw [List.length_map, List.length_append, al, List.length_singleton]; omega), ?_⟩
          exact ⟨rfl, .inl ⟨rfl, rfl, F, H8, s8, nF, el8, rfl⟩⟩
        | some kv =>
          obtain ⟨kk, vv⟩ := kv
          rw [hdue] at hr6
          obtain ⟨p6, rfl, e6⟩ := hr6
          rw [decide_eq_false (fun z => nomatch z)]
          exact iteF ⟨rfl, .inr ⟨(fun z => nomatch z), rfl⟩⟩
      rintro σ H7 ⟨rfl, hcase⟩
      rcases hcase with ⟨hd, rfl, F, H8, s8, nF, el8, rfl⟩ | ⟨hd, rfl⟩
      · have h8p := s8 _ _ (d6.same _ _ q15)
        have Fpa : F ≠ pa := fun z => by rw [z, d6.same _ _ q15] at nF; cases nF
        have Fb : F ≠ b := fun z => by rw [z, d6.same _ _ k1] at nF; cases nF
        have Fl : F ≠ l := fun z => by rw [z, d6.same _ _ k3] at nF; cases nF
        have kp8 : ∀ c o, c ≠ pa → H8 c = some o → (upd H8 pa (.lst ((as ++ [ea]).map V.ref ++ [V.ref F]))) c = some o := fun c o cp hc => by rw [upd_ne cp]; exact hc
        have hb8 : BookAt T.f_Book (upd H8 pa (.lst ((as ++ [ea]).map V.ref ++ [V.ref F]))) b l "s" "t" es past := (U5.hb.same (d6.same.trans s8)).on (fun c o hx hc => by
          have : c ≠ pa := fun z => by rw [z, h8p] at hc; exact hx _ (Option.some.inj hc).symm
          exact kp8 c o this hc) (fun xs hc => kp8 l _ lpa hc)
        have p'pa : p' ≠ pa := ne_of e5 q15 (by intro z; cases z)
        refine ⟨_, rfl, _, rfl, _, rfl, b, l, p', "s", "t", es, past, n, x', y', rfl, kp8 _ _ p'pa (s8 _ _ (d6.same _ _ e5)), hb8, by omega, hF.1, wn, wx', wy', fun _ H9 bt hb9 => ?_, fun hno => absurd hd hno⟩
        refine ⟨_, rfl, .none, .none, .non, .non, shaped_none, shaped_none, ?_⟩
        rw [show PyData.eqv .none .none = true by simp [PyData.eqv]]
        have bt3 : But3 b l pa H6 H9 := fun c o cb cl cp hc => bt c o cb cl (kp8 c o cp (s8 _ _ hc))
        obtain ⟨G', d', gb, gp, g3', kt, kl, g1, gn⟩ := U5.changed d6 lL pL bt3 hb9 (bt pa _ bpa (Ne.symm lpa) upd_same)
        obtain ⟨qs8, e81, e82⟩ := el8
        have nFL : F ∉ L := fun hc => hL5 F hc (d6.free nF)
        have tup9 : ∀ c o, H8 c = some (.tup o) → G' c = some (.tup o) := fun c o hc => by
          refine g1 c _ (bt c _ ?_ ?_ (kp8 c _ ?_ hc)) (fun _ z => nomatch z)
          · exact ne_of hc (s8 _ _ (d6.same _ _ k1)) (by intro z; cases z)
          · exact ne_of hc (s8 _ _ (d6.same _ _ k3)) (by intro z; cases z)
          · exact ne_of hc h8p (by intro z; cases z)
        refine k G' H9 (stored es n (x', y')) (past ++ [es]) (d'.mono (by omega)) (U5.grown q25 q35 p4 p5 gb gp kt kl ⟨qs8, gn _ _ (bt F _ Fb Fl (kp8 _ _ Fpa e81)) nF, paired_on (fun _ _ e => e.on tup9) e82⟩ nFL ⟨fine_stored hF.1 (due_none hd).2, ents_stored hF.2 wn wx' wy'⟩)
          (by rw [List.length_append]; exact Nat.le_refl _) fun c o cb cl cp hc => g3' c o cb cl cp (sG5 _ _ (sG _ _ hc))
      · refine ⟨_, rfl, _, rfl, _, rfl, b, l, p', "s", "t", es, past, n, x', y', rfl, d6.same _ _ e5, U5.hb.same d6.same, by omega, hF.1, wn, wx', wy', fun hno => absurd hno hd, fun _ r9 H9 s9 hr9 => ?_⟩
        cases hdue : due es n x' y' with
        | none => exact absurd hdue hd
        | some kv =>
          obtain ⟨kk, vv⟩ := kv
          rw [hdue] at hr6 hr9
          obtain ⟨p6, rfl, e6⟩ := hr6
          obtain ⟨p9, rfl, e9⟩ := hr9
          obtain ⟨dv, hdd, hsh⟩ := due_some (K := K) wn wx' wy' hdue
          refine ⟨_, rfl, .tuple [.str kk, dv], .tuple [.str kk, dv], .tup (SqT.of e9) (.cons (.str kk) (.cons (hdd _) .nil)), .tup (SqT.of (s9 _ _ e6)) (.cons (.str kk) (.cons (hdd _) .nil)), hsh, hsh, ?_⟩
          rw [eqv_same_t hsh]
          exact k G5 H9 es past ((d6.on s9).mono (by omega)) U5 (Nat.le_succ _) fun c o _ _ _ hc => sG5 _ _ (sG _ _ hc)
end

/-! ### two books -/
section
variable {P : Program} {w : World} {K : PySem.W.Frag} {mg : Str → Option Value} {base : Heap}
/-- what stays: the books, their lists -/
structure Fix (B l pa : Nat → Addr) (L : List Addr) (bl pl wl : Addr) : Prop where
  iL : ∀ k, k < 2 → l k ∈ L ∧ pa k ∈ L
  oL : ∀ c ∈ L, ∃ k, k < 2 ∧ (c = l k ∨ c = pa k)
  nn : ∀ j k, j < 2 → k < 2 → j ≠ k → B j ≠ B k ∧ l j ≠ l k ∧ pa j ≠ pa k
  lp : ∀ j k, j < 2 → k < 2 → l j ≠ pa k
  nx : bl ∉ L ∧ pl ∉ L ∧ wl ∉ L
structure Two (C : Addr) (H : Hp) (st : Addr) (B l pa : Nat → Addr) (L : List Addr) (bl pl wl : Addr) (m : Nat) (n : Nat → Nat) (ws : List Str) (G : Hp) (es : Nat → List Ent) (past : Nat → List (List Ent)) : Prop where
  d : DSt G H st m
  hw : G wl = some (.lst (ws.map V.str))
  hbl : G bl = some (.lst [V.ref (B 0), .ref (B 1)])
  hpl : G pl = some (.lst [V.ref (pa 0), .ref (pa 1)])
  u : ∀ k, k < 2 → Un C G L (B k) (l k) (pa k) (es k) (past k)
  hn : ∀ k, k < 2 → (past k).length ≤ n k
variable {C : Addr} {H H' G G' : Hp} {st : Addr} {B l pa : Nat → Addr} {L : List Addr} {bl pl wl : Addr} {m m' : Nat} {n : Nat → Nat} {ws : List Str} {es : Nat → List Ent} {past : Nat → List (List Ent)}
theorem Two.on (t : Two C H st B l pa L bl pl wl m n ws G es past) (s : Same H H') : Two C H' st B l pa L bl pl wl m n ws G es past := ⟨t.d.on s, t.hw, t.hbl, t.hpl, t.u, t.hn⟩
theorem Two.drawn (t : Two C H st B l pa L bl pl wl m n ws G es past) (d : DSt G H' st m') : Two C H' st B l pa L bl pl wl m' n ws G es past := ⟨d, t.hw, t.hbl, t.hpl, t.u, t.hn⟩
theorem Two.there (t : Two C H st B l pa L bl pl wl m n ws G es past) (F : Fix B l pa L bl pl wl) : ∀ c ∈ L, G c ≠ none := fun c hc z => by
  obtain ⟨k, hk, e⟩ := F.oL c hc
  obtain ⟨dx, d, bs, _, _, k3, _⟩ := (t.u k hk).hb
  obtain ⟨as, ea, p1, _⟩ := (t.u k hk).hp
  rcases e with rfl | rfl
  · rw [k3] at z; cases z
  · rw [p1] at z; cases z
theorem Two.step (t : Two C H st B l pa L bl pl wl m n ws G es past) (F : Fix B l pa L bl pl wl) {k : Nat} (hk : k < 2) {es' : List Ent} {past' : List (List Ent)} {c : Nat} (d : DSt G' H' st m') (U : Un C G' L (B k) (l k) (pa k) es' past') (hc : past'.length ≤ c) (bt : But3 (B k) (l k) (pa k) G G') :
    Two C H' st B l pa L bl pl wl m' (fun j => if j = k then c else n j) ws G' (fun j => if j = k then es' else es j) (fun j => if j = k then past' else past j) := by
  obtain ⟨dx, dd, bs, k1, k2, k3, k4⟩ := (t.u k hk).hb
  obtain ⟨as, ea, p1, _⟩ := (t.u k hk).hp
  have kl : ∀ c xs, c ∉ L → G c = some (.lst xs) → G' c = some (.lst xs) := fun c xs hcL hx => bt c _ (ne_of hx k1 (by intro z; cases z)) (fun z => hcL (z ▸ (F.iL k hk).1)) (fun z => hcL (z ▸ (F.iL k hk).2)) hx
  refine ⟨d, kl _ _ F.nx.2.2 t.hw, kl _ _ F.nx.1 t.hbl, kl _ _ F.nx.2.1 t.hpl, fun j hj => ?_, fun j hj => ?_⟩
  · by_cases e : j = k
    · subst e
      simp only [if_pos]
      exact U
    · simp only [if_neg e]
      obtain ⟨n1, n2, n3⟩ := F.nn j k hj hk e
      refine (t.u j hj).other n1 ⟨dx, _, k1⟩ (fun c o hx cb hc => bt c o cb ?_ ?_ hc) kl (fun xs hx => bt _ _ (ne_of hx k1 (by intro z; cases z)) n2 (F.lp j k hj hk) hx) (fun xs hx => bt _ _ (ne_of hx k1 (by intro z; cases z)) (Ne.symm (F.lp k j hk hj)) n3 hx)
      · intro z; rw [z, k3] at hc; exact hx _ (Option.some.inj hc).symm
      · intro z; rw [z, p1] at hc; exact hx _ (Option.some.inj hc).symm
  · by_cases e : j = k
    · subst e
      simp only [if_pos]
      exact hc
    · simp only [if_neg e]
      exact t.hn j hj
theorem Two.back (t : Two C H st B l pa L bl pl wl m n ws G es past) (F : Fix B l pa L bl pl wl) {k : Nat} (hk : k < 2) (hb : n k ≤ 900) {Q : VK} {E : XK}
    (kk : ∀ H' G' es' past', Two C H' st B l pa L bl pl wl m (fun j => if j = k then n k - 1 else n j) ws G' es' past' → Q (.bl true) H') : spBack C [.ref (B k), .ref (pa k)] H Q E := by
  have U := t.u k hk
  obtain ⟨as, ea, p1, p2, p3, p4, p5⟩ := U.hp
  have al : as.length = (past k).length := p2.length
  have hnk := t.hn k hk
  refine ⟨B k, l k, pa k, "s", "t", es k, past k, as ++ [ea], rfl, U.hb.same t.d.same, by omega, t.d.same _ _ p1, by rw [List.length_append, al, List.length_singleton], Ne.symm (F.lp k k hk hk), fun hp H' s => ?_, fun past0 es0 hp H' bt hb' hpa' => ?_⟩
  · refine kk H' G es past ⟨t.d.on s, t.hw, t.hbl, t.hpl, t.u, fun j hj => ?_⟩
    by_cases e : j = k
    · subst e
      simp only [if_pos]
      rw [hp]
      exact Nat.zero_le _
    · simp only [if_neg e]
      exact t.hn j hj
  · rw [List.dropLast_concat] at hpa'
    obtain ⟨G', d', gb, gp, g3', kt, kl, g1, gn⟩ := U.changed t.d (F.iL k hk).1 (F.iL k hk).2 bt hb' hpa'
    rw [hp] at p2
    obtain ⟨as0, ea0, rfl, q2, q3⟩ := snoc_of p2
    have nL0 : ∀ a ∈ as0, a ∉ L := fun a ha => p4 a (List.mem_append_left _ ha)
    have nE0 : ea0 ∉ L := p4 ea0 (by simp)
    refine kk H' G' _ _ (t.step F hk d' ⟨gb, ⟨as0, ea0, gp, paired_mem (p := fun a => a ∉ L) (fun a e ha r => r.keep ha kt kl) nL0 q2, q3.keep nE0 kt kl, nL0, nE0⟩, fun e he => U.fe e (List.mem_append_left _ (by rw [hp]; exact he))⟩ ?_ g3')
    rw [hp, List.length_append, List.length_singleton] at hnk
    omega
theorem Two.change (t : Two C H st B l pa L bl pl wl m n ws G es past) (F : Fix B l pa L bl pl wl) {k : Nat} (hk : k < 2) (hb : n k ≤ 900) (hm : m < 800000) (hne : ws ≠ []) (hl : ws.length ≤ 100) (hw : Wns ws) {Q : VK} {E : XK}
    (kk : ∀ H' G' es' past', Two C H' st B l pa L bl pl wl (m + 10) (fun j => if j = k then n k + 1 else n j) ws G' es' past' → Q (.bl true) H') : spChange K C [.ref st, .ref (B k), .ref (pa k), .ref wl] H Q E := by
  have hnk := t.hn k hk
  exact ⟨G, L, st, B k, l k, pa k, wl, m, es k, past k, ws, rfl, t.d, hm, t.u k hk, by omega, t.there F, (F.iL k hk).1, (F.iL k hk).2, F.lp k k hk hk, t.hw, hne, hl, hw, fun G' H' es' past' d' U' hp' bt => kk H' G' _ _ (t.step F hk d' U' (by omega) bt)⟩
theorem two_at (f : Nat → Addr) {k : Nat} (hk : k < 2) : atI [V.ref (f 0), V.ref (f 1)] (k : Int) = some (.ref (f k)) := by
  match k, hk with
  | 0, _ => rfl
  | 1, _ => rfl
theorem two_of {r : Int} (h0 : 0 ≤ r) (h1 : r < 2) : ∃ k : Nat, k < 2 ∧ r = (k : Int) := ⟨r.toNat, by omega, by omega⟩
theorem DSt.book {b0 l0 : Addr} {s t : Str} {es : List Ent} {past : List (List Ent)} (d : DSt G H st m) (s8 : Same H H') (hb : BookAt C H' b0 l0 s t es past) (nl : H l0 = none) : ∃ G', DSt G' H' st m ∧ Same G G' ∧ BookAt C G' b0 l0 s t es past := by
  obtain ⟨G8, d8, g1, g2, g3⟩ := d.moved (H' := H') (fun _ => False) (fun _ f => f.elim) (fun c o _ hc => s8 c o hc)
  exact ⟨G8, d8, fun c o hc => g2 c o (s8 _ _ (d.same _ _ hc)) (by rw [hc]; intro z; cases z), hb.on (fun c o hx hc => g1 c o hc hx) (fun xs hc => g3 _ _ hc nl)⟩
def lawWs : List Str := ["a", "b", "c1", "link", "z9", "m", "ab", "a2", "long1", "y", "q"]
theorem law_wns : Wns lawWs := by
  show ∀ z ∈ ([("a" : Str), "b", "c1", "link", "z9", "m", "ab", "a2", "long1", "y", "q"] : List Str), z.length ≤ 1000 ∧ ∀ c ∈ z.cps.toList, c < 128
  decide +kernel
theorem wn_st : Wn "s" ∧ Wn "t" := by
  show (("s" : Str).length ≤ 1000 ∧ ∀ c ∈ ("s" : Str).cps.toList, c < 128) ∧ (("t" : Str).length ≤ 1000 ∧ ∀ c ∈ ("t" : Str).cps.toList, c < 128)
  decide +kernel
theorem bad_st : bad ["s", "t"] = none := by decide +kernel
theorem ne_st : ("s" : Str) ≠ "t" := by decide
theorem init_st {C DB DD b dx : Addr} {H : Hp} {Q : VK} {E : XK} (h : H b = some (.ins C dx [])) (k : ∀ l H', (∀ c o, c ≠ b → H c = some o → H' c = some o) → H l = none → BookAt C H' b l "s" "t" [] [] → Q .non H') : spInitB C DB DD [.ref b, .str "s", .str "t"] H Q E :=
  ⟨b, dx, "s", "t", rfl, h, wn_st.1, wn_st.2, fun z hz => absurd (bad_st.symm.trans hz) (by intro z; cases z), fun _ h => absurd h ne_st, fun _ _ l H' kp nl hb => k l H' kp nl hb⟩
end

/-! ### the law -/
section
variable {P : Program} {w : World} {K : PySem.W.Frag} {mg : Str → Option Value} {base : Heap}
def spLaw (K : PySem.W.Frag) : Sp := fun vs H Q _ => ∃ (a : Addr) (ns : List Int), vs = [.ref a] ∧ SqL K H a (ns.map V.int) ∧ ns.length ≤ 63 ∧ ∀ H', Q (.bl true) H'
theorem ok_law {f : Addr} {fd : FuncData} (T : Txt K mg) (F : Fun K "law" "law" s_law f fd) : FnOk P w K mg base CX0 7 f fd ["_law_script"] (spLaw K) := by
  have G_start : FnOk P w K mg base CX0 1 T.f_start T.d_start ["_law_script"] (spStart K) := ok_start T
  have G_take : FnOk P w K mg base CX0 1 T.f_take T.d_take ["_law_state", "_law_limit"] spTake := ok_take T
  have G_Book_init := calm_of (ok_initB (P := P) (w := w) (base := base) T)
  have G_back : FnOk P w K mg base CX0 3 T.f_back T.d_back ["_law_book", "_law_past"] (spBack T.f_Book) := ok_back T
  have G_change : FnOk P w K mg base CX0 5 T.f_change T.d_change ["_law_state", "_law_book", "_law_past", "_law_words"] (spChange K T.f_Book) := ok_change T
  have G_undo : FnOk P w K mg base CX0 2 T.f_undo T.d_undo ["_law_book"] (spUndoL T.f_Book) := ok_undoL T
  have G_shows : FnOk P w K mg base CX0 6 T.f_shows T.d_shows ["_law_book", "_law_entries", "_law_words"] (spShows T.f_Book) := ok_shows T
  refine F.ok sc_law (fun vs H Q E h => ?_) (fun cdv A outer s H vs Q E hr h => ?_)
  · obtain ⟨a, ns, rfl, _⟩ := h
    rfl
  · obtain ⟨a, ns, rfl, hS, hlen, k⟩ := h
    refine ⟨_, (pss_cons (ps_set (i := 1) sc_law.nd rfl (Or.inl rfl) (pe_call G_start (hr.mono (by decide)) rfl T.m_start T.F_start.kp T.b_start .nil pass0 (pa_cons (pv 0) pa_nil)))
    (pss_cons (ps_set (i := 2) sc_law.nd rfl (Or.inl rfl) (pe_lst (pa_cons pe_str (pa_cons pe_str (pa_cons pe_str (pa_cons pe_str (pa_cons pe_str (pa_cons pe_str (pa_cons pe_str (pa_cons pe_str (pa_cons pe_str (pa_cons pe_str (pa_cons pe_str pa_nil)))))))))))))
    (pss_cons (ps_set (i := 3) sc_law.nd rfl (Or.inl rfl) (pe_lst (pa_cons (pe_make T.mk_Book G_Book_init (hr.mono (by decide)) rfl T.m_Book T.b_Book_init .nil pass0 (pa_cons pe_str (pa_cons pe_str pa_nil))) (pa_cons (pe_make T.mk_Book G_Book_init (hr.mono (by decide)) rfl T.m_Book T.b_Book_init .nil pass0 (pa_cons pe_str (pa_cons pe_str pa_nil))) pa_nil))))
    (pss_cons (ps_set (i := 4) sc_law.nd rfl (Or.inl rfl) (pe_lst (pa_cons (pe_lst (pa_cons (pe_lst pa_nil) pa_nil)) (pa_cons (pe_lst (pa_cons (pe_lst pa_nil) pa_nil)) pa_nil))))
    (C8.pss_cut (ps_for PassesOwn.never rfl (pi_range1 rfl T.n_range (pa_cons (pe_call G_take (hr.mono (by decide)) rfl T.m_take T.F_take.kp T.b_take .nil pass0 (pa_cons (pv 1) (pa_cons pe_int pa_nil))) pa_nil)) (pg_name (i := 5) sc_law.nd rfl (Or.inl rfl))
      (pss_cons (ps_set (i := 6) sc_law.nd rfl (Or.inl rfl) (pe_call G_take (hr.mono (by decide)) rfl T.m_take T.F_take.kp T.b_take .nil pass0 (pa_cons (pv 1) (pa_cons pe_int pa_nil))))
    (C8.pss_cut (ps_if (pt_cmpR op_eq (pe_call G_take (hr.mono (by decide)) rfl T.m_take T.F_take.kp T.b_take .nil pass0 (pa_cons (pv 1) (pa_cons pe_int pa_nil))) pe_int (nomark _))
      (pss_one (ps_if (pt_not (pt_val (pe_call G_back (hr.mono (by decide)) rfl T.m_back T.F_back.kp T.b_back .nil pass0 (pa_cons (pe_ix ix_list (pv 3) (pv 6) (fun _ _ => rfl)) (pa_cons (pe_ix ix_list (pv 4) (pv 6) (fun _ _ => rfl)) pa_nil)))))
      (pss_one (ps_ret pe_bl))
      pss_nil))
      (pss_one (ps_if (pt_not (pt_val (pe_call G_change (hr.mono (by decide)) rfl T.m_change T.F_change.kp T.b_change .nil pass0 (pa_cons (pv 1) (pa_cons (pe_ix ix_list (pv 3) (pv 6) (fun _ _ => rfl)) (pa_cons (pe_ix ix_list (pv 4) (pv 6) (fun _ _ => rfl)) (pa_cons (pv 2) pa_nil)))))))
      (pss_one (ps_ret pe_bl))
      pss_nil)))
    (pss_one (ps_for PassesOwn.never rfl (pi_range1 rfl T.n_range (pa_cons pe_int pa_nil)) (pg_name (i := 7) sc_law.nd rfl (Or.inl rfl))
      (pss_one (ps_if (pt_not (pt_val (pe_call G_shows (hr.mono (by decide)) rfl T.m_shows T.F_shows.kp T.b_shows .nil pass0 (pa_cons (pe_ix ix_list (pv 3) (pv 7) (fun _ _ => rfl)) (pa_cons (pe_ix ix_list (pe_ix ix_list (pv 4) (pv 7) (fun _ _ => rfl)) (pe_un un_neg pe_int) (fun _ _ => rfl)) (pa_cons (pv 2) pa_nil))))))
      (pss_one (ps_ret pe_bl))
      pss_nil)))))))
    (C8.pss_cut (ps_for PassesOwn.never rfl (pi_range1 rfl T.n_range (pa_cons pe_int pa_nil)) (pg_name (i := 5) sc_law.nd rfl (Or.inl rfl))
      (pss_one (ps_for PassesOwn.never rfl (pi_range1 rfl T.n_range (pa_cons pe_int pa_nil)) (pg_name (i := 6) sc_law.nd rfl (Or.inl rfl))
      (pss_one (ps_if (PW.pt (pw_or (pt_not (pt_val (pe_call G_back (hr.mono (by decide)) rfl T.m_back T.F_back.kp T.b_back .nil pass0 (pa_cons (pe_ix ix_list (pv 3) (pv 6) (fun _ _ => rfl)) (pa_cons (pe_ix ix_list (pv 4) (pv 6) (fun _ _ => rfl)) pa_nil))))) (pw_or1 (pt_not (pt_val (pe_call G_shows (hr.mono (by decide)) rfl T.m_shows T.F_shows.kp T.b_shows .nil pass0 (pa_cons (pe_ix ix_list (pv 3) (pv 6) (fun _ _ => rfl)) (pa_cons (pe_ix ix_list (pe_ix ix_list (pv 4) (pv 6) (fun _ _ => rfl)) (pe_un un_neg pe_int) (fun _ _ => rfl)) (pa_cons (pv 2) pa_nil)))))))))
      (pss_one (ps_ret pe_bl))
      pss_nil)))))
    (pss_one (ps_ret (pe_and (pe_cmpR (op_eqD hr.units) (pe_call G_undo (hr.mono (by decide)) rfl T.m_undo T.F_undo.kp T.b_undo .nil pass0 (pa_cons (pe_ix ix_list (pv 3) pe_int (fun _ _ => rfl)) pa_nil)) (pe_tup (pa_cons pe_str (pa_cons pe_str pa_nil))) (nomark _)) (pe_one (pe_cmpR (op_eqD hr.units) (pe_call G_undo (hr.mono (by decide)) rfl T.m_undo T.F_undo.kp T.b_undo .nil pass0 (pa_cons (pe_ix ix_list (pv 3) pe_int (fun _ _ => rfl)) pa_nil)) (pe_tup (pa_cons pe_str (pa_cons pe_str pa_nil))) (nomark _)))))))))))), ?_⟩
    refine ⟨_, rfl, a, ns, rfl, hS, hlen, fun st H1 d1 => ?_⟩
    refine ⟨by show 11 ≤ sizeLine; decide, fun wl nwl => ?_⟩
    have d2 := d1.learn (same_upd (o := .lst (lawWs.map V.str)) nwl) nwl upd_same
    generalize hG1 : upd H wl (.lst (lawWs.map V.str)) = G1 at d2
    have gw : G1 wl = some (.lst (lawWs.map V.str)) := by rw [← hG1]; exact upd_same
    have init : ∀ (H3 : Hp) (G3 : Hp) (b0 l0 b1 l1 : Addr), DSt G3 H3 st 0 → G3 wl = some (.lst (lawWs.map V.str)) → BookAt T.f_Book G3 b0 l0 "s" "t" [] [] → BookAt T.f_Book G3 b1 l1 "s" "t" [] [] → b0 ≠ b1 → l0 ≠ l1 → wl ≠ l0 → wl ≠ l1 →
        ∀ bl e0 p0 e1 p1 pl : Addr, H3 bl = none → (upd H3 bl (.lst [V.ref b0, .ref b1])) e0 = none → (upd (upd H3 bl (.lst [V.ref b0, .ref b1])) e0 (.lst [])) p0 = none → (upd (upd (upd H3 bl (.lst [V.ref b0, .ref b1])) e0 (.lst [])) p0 (.lst [V.ref e0])) e1 = none →
        (upd (upd (upd (upd H3 bl (.lst [V.ref b0, .ref b1])) e0 (.lst [])) p0 (.lst [V.ref e0])) e1 (.lst [])) p1 = none → (upd (upd (upd (upd (upd H3 bl (.lst [V.ref b0, .ref b1])) e0 (.lst [])) p0 (.lst [V.ref e0])) e1 (.lst [])) p1 (.lst [V.ref e1])) pl = none →
        ∃ (B l pa : Nat → Addr) (L : List Addr) (G : Hp), B 0 = b0 ∧ B 1 = b1 ∧ Fix B l pa L bl pl wl ∧ Two T.f_Book (upd (upd (upd (upd (upd (upd H3 bl (.lst [V.ref b0, .ref b1])) e0 (.lst [])) p0 (.lst [V.ref e0])) e1 (.lst [])) p1 (.lst [V.ref e1])) pl (.lst [V.ref p0, .ref p1])) st B l pa L bl pl wl 0 (fun _ => 0) lawWs G (fun _ => []) (fun _ => []) := by
      intro H3 G3 b0 l0 b1 l1 d3 gw3 hb0 hb1 nb nl nw0 nw1 bl e0 p0 e1 p1 pl nbl ne0 np0 ne1 np1 npl
      have d4 := d3.learn (same_upd (o := .lst [V.ref b0, .ref b1]) nbl) nbl upd_same
      have d5 := d4.learn (same_upd (o := .lst []) ne0) ne0 upd_same
      have d6 := d5.learn (same_upd (o := .lst [V.ref e0]) np0) np0 upd_same
      have d7 := d6.learn (same_upd (o := .lst []) ne1) ne1 upd_same
      have d8 := d7.learn (same_upd (o := .lst [V.ref e1]) np1) np1 upd_same
      have d9 := d8.learn (same_upd (o := .lst [V.ref p0, .ref p1]) npl) npl upd_same
      have f3 := d3.free nbl
      have f4 := d4.free ne0
      have f5 := d5.free np0
      have f6 := d6.free ne1
      have f7 := d7.free np1
      have f8 := d8.free npl
      generalize hG4 : upd G3 bl (.lst [V.ref b0, .ref b1]) = G4 at d4 d5 d6 d7 d8 d9 f4 f5 f6 f7 f8
      have s4 : Same G3 G4 := by rw [← hG4]; exact same_upd f3
      have k4 : G4 bl = some (.lst [V.ref b0, .ref b1]) := by rw [← hG4]; exact upd_same
      generalize hG5 : upd G4 e0 (.lst []) = G5 at d5 d6 d7 d8 d9 f5 f6 f7 f8
      have s5 : Same G4 G5 := by rw [← hG5]; exact same_upd f4
      have k5 : G5 e0 = some (.lst []) := by rw [← hG5]; exact upd_same
      generalize hG6 : upd G5 p0 (.lst [V.ref e0]) = G6 at d6 d7 d8 d9 f6 f7 f8
      have s6 : Same G5 G6 := by rw [← hG6]; exact same_upd f5
      have k6 : G6 p0 = some (.lst [V.ref e0]) := by rw [← hG6]; exact upd_same
      generalize hG7 : upd G6 e1 (.lst []) = G7 at d7 d8 d9 f7 f8
      have s7 : Same G6 G7 := by rw [← hG7]; exact same_upd f6
      have k7 : G7 e1 = some (.lst []) := by rw [← hG7]; exact upd_same
      generalize hG8 : upd G7 p1 (.lst [V.ref e1]) = G8 at d8 d9 f8
      have s8 : Same G7 G8 := by rw [← hG8]; exact same_upd f7
      have k8 : G8 p1 = some (.lst [V.ref e1]) := by rw [← hG8]; exact upd_same
      generalize hG9 : upd G8 pl (.lst [V.ref p0, .ref p1]) = G9 at d9
      have s9 : Same G8 G9 := by rw [← hG9]; exact same_upd f8
      have k9 : G9 pl = some (.lst [V.ref p0, .ref p1]) := by rw [← hG9]; exact upd_same
      have s89 := s8.trans s9
      have s79 := s7.trans s89
      have s69 := s6.trans s79
      have s59 := s5.trans s69
      have s49 := s4.trans s59
      obtain ⟨_, _, as0, _, _, kl0, _⟩ := id hb0
      obtain ⟨_, _, as1, _, _, kl1, _⟩ := id hb1
      have bl0 : l0 ≠ bl := ne_of_none kl0 f3
      have bl1 : l1 ≠ bl := ne_of_none kl1 f3
      have c0 : ∀ {x o}, G4 x = some o → x ≠ e0 := fun h => ne_of_none h f4
      have c1 : ∀ {x o}, G5 x = some o → x ≠ p0 := fun h => ne_of_none h f5
      have c2 : ∀ {x o}, G6 x = some o → x ≠ e1 := fun h => ne_of_none h f6
      have c3 : ∀ {x o}, G7 x = some o → x ≠ p1 := fun h => ne_of_none h f7
      have c4 : ∀ {x o}, G8 x = some o → x ≠ pl := fun h => ne_of_none h f8
      have l04 := s4 _ _ kl0
      have l14 := s4 _ _ kl1
      have w4 := s4 _ _ gw3
      have s47 := s5.trans (s6.trans s7)
      have s57 := s6.trans s7
      have s48 := s47.trans s8
      refine ⟨fun | 0 => b0 | _ => b1, fun | 0 => l0 | _ => l1, fun | 0 => p0 | _ => p1, [l0, p0, l1, p1], G9, rfl, rfl, ⟨?_, ?_, ?_, ?_, ?_⟩, ⟨d9, s49 _ _ gw3, s59 _ _ k4, k9, ?_, fun k hk => Nat.zero_le _⟩⟩
      · intro k hk
        match k, hk with
        | 0, _ => exact ⟨by simp, by simp⟩
        | 1, _ => exact ⟨by simp, by simp⟩
      · intro c hc
        have hc' : c = l0 ∨ c = p0 ∨ c = l1 ∨ c = p1 := by simpa using hc
        rcases hc' with h | h | h | h
        · exact ⟨0, by decide, .inl h⟩
        · exact ⟨0, by decide, .inr h⟩
        · exact ⟨1, by decide, .inl h⟩
        · exact ⟨1, by decide, .inr h⟩
      · have hp := c3 (s7 _ _ k6)
        intro j k hj hk hjk
        match j, k, hj, hk with
        | 0, 0, _, _ => exact absurd rfl hjk
        | 0, 1, _, _ => exact ⟨nb, nl, hp⟩
        | 1, 0, _, _ => exact ⟨Ne.symm nb, Ne.symm nl, Ne.symm hp⟩
        | 1, 1, _, _ => exact absurd rfl hjk
      · intro j k hj hk
        match j, k, hj, hk with
        | 0, 0, _, _ => exact c1 (s5 _ _ l04)
        | 0, 1, _, _ => exact c3 (s47 _ _ l04)
        | 1, 0, _, _ => exact c1 (s5 _ _ l14)
        | 1, 1, _, _ => exact c3 (s47 _ _ l14)
      · refine ⟨fun hc => ?_, fun hc => ?_, fun hc => ?_⟩
        · have hc' : bl = l0 ∨ bl = p0 ∨ bl = l1 ∨ bl = p1 := by simpa using hc
          rcases hc' with h | h | h | h
          · exact bl0 h.symm
          · exact c1 (s5 _ _ k4) h
          · exact bl1 h.symm
          · exact c3 (s47 _ _ k4) h
        · have hc' : pl = l0 ∨ pl = p0 ∨ pl = l1 ∨ pl = p1 := by simpa using hc
          rcases hc' with h | h | h | h
          · exact c4 (s48 _ _ l04) h.symm
          · exact c4 ((s7.trans s8) _ _ k6) h.symm
          · exact c4 (s48 _ _ l14) h.symm
          · exact c4 k8 h.symm
        · have hc' : wl = l0 ∨ wl = p0 ∨ wl = l1 ∨ wl = p1 := by simpa using hc
          rcases hc' with h | h | h | h
          · exact nw0 h
          · exact c1 (s5 _ _ w4) h
          · exact nw1 h
          · exact c3 (s47 _ _ w4) h
      · have fe : ∀ e ∈ ([] ++ [[]] : List (List Ent)), FineE e ∧ EntsW e := fun e he => by
          have : e = [] := by simpa using he
          subst this
          exact ⟨⟨List.nodup_nil, Nat.zero_le _⟩, fun q hq => by cases hq⟩
        intro k hk
        match k, hk with
        | 0, _ =>
          refine ⟨hb0.same s49, ⟨[], e0, s79 _ _ k6, .nil, ⟨[], s69 _ _ k5, .nil⟩, fun a ha => by (cases ha), fun hc => ?_⟩, fe⟩
          have hc' : e0 = l0 ∨ e0 = p0 ∨ e0 = l1 ∨ e0 = p1 := by simpa using hc
          rcases hc' with h | h | h | h
          · exact c0 l04 h.symm
          · exact c1 k5 h
          · exact c0 l14 h.symm
          · exact c3 (s57 _ _ k5) h
        | 1, _ =>
          refine ⟨hb1.same s49, ⟨[], e1, s9 _ _ k8, .nil, ⟨[], s89 _ _ k7, .nil⟩, fun a ha => by (cases ha), fun hc => ?_⟩, fe⟩
          have hc' : e1 = l0 ∨ e1 = p0 ∨ e1 = l1 ∨ e1 = p1 := by simpa using hc
          rcases hc' with h | h | h | h
          · exact c2 (s6 _ _ (s5 _ _ l04)) h.symm
          · exact c2 k6 h.symm
          · exact c2 (s6 _ _ (s5 _ _ l14)) h.symm
          · exact c3 k7 h
    intro b0 dx0 nb0 ndx0 ne0
    have sm0 : Same (upd H1 wl (.lst (lawWs.map V.str))) (upd (upd (upd H1 wl (.lst (lawWs.map V.str))) dx0 (.own b0)) b0 (.ins T.f_Book dx0 [])) := (same_upd ndx0).trans (same_upd (by rw [upd_ne (Ne.symm ne0)]; exact nb0))
    refine init_st upd_same fun l0 H3 kp0 nl0 hb0 => ⟨rfl, ?_⟩
    have nl0' := sm0.free nl0
    have s3 : Same (upd H1 wl (.lst (lawWs.map V.str))) H3 := fun c o hc => kp0 c o (fun z => by rw [z] at hc; exact absurd (hc.symm.trans nb0) (by intro w; cases w)) (sm0 _ _ hc)
    obtain ⟨G3, d3, sG3, gb0⟩ := d2.book s3 hb0 nl0'
    intro b1 dx1 nb1 ndx1 ne1
    have sm1 : Same H3 (upd (upd H3 dx1 (.own b1)) b1 (.ins T.f_Book dx1 [])) := (same_upd ndx1).trans (same_upd (by rw [upd_ne (Ne.symm ne1)]; exact nb1))
    refine init_st upd_same fun l1 H4 kp1 nl1 hb1 => ⟨rfl, by show 2 ≤ sizeLine; decide, fun bl nbl => ?_⟩
    have nl1' := sm1.free nl1
    have s4 : Same H3 H4 := fun c o hc => kp1 c o (fun z => by rw [z, nb1] at hc; cases hc) (sm1 _ _ hc)
    obtain ⟨G4, d4, sG4, gb1⟩ := d3.book s4 hb1 nl1'
    have nbb : b0 ≠ b1 := by
      obtain ⟨_, _, _, kb, _⟩ := hb0
      exact ne_of_none kb nb1
    have nll : l0 ≠ l1 := by
      obtain ⟨_, _, _, _, _, kl, _⟩ := hb0
      exact ne_of_none kl nl1'
    have nw0 : wl ≠ l0 := ne_of_none (d2.same _ _ gw) nl0'
    have nw1 : wl ≠ l1 := ne_of_none (d3.same _ _ (sG3 _ _ gw)) nl1'
    refine ⟨Nat.zero_le _, fun e0 ne0 => ⟨by show 1 ≤ sizeLine; decide, fun p0 np0 => ⟨Nat.zero_le _, fun e1 ne1 => ⟨by show 1 ≤ sizeLine; decide, fun p1 np1 => ⟨by show 2 ≤ sizeLine; decide, fun pl npl => ?_⟩⟩⟩⟩⟩
    obtain ⟨B, l, pa, L, G, hB0, hB1, FX, T0⟩ := init H4 G4 b0 l0 b1 l1 d4 (sG4 _ _ (sG3 _ _ gw)) (gb0.same sG4) gb1 nbb nll nw0 nw1 bl e0 p0 e1 p1 pl nbl ne0 np0 ne1 np1 npl
    clear init
    have ebl : ∀ {m n H' G es past}, Two T.f_Book H' st B l pa L bl pl wl m n lawWs G es past → H' bl = some (.lst [V.ref (B 0), .ref (B 1)]) := fun t => t.d.same _ _ t.hbl
    have epl : ∀ {m n H' G es past}, Two T.f_Book H' st B l pa L bl pl wl m n lawWs G es past → H' pl = some (.lst [V.ref (pa 0), .ref (pa 1)]) := fun t => t.d.same _ _ t.hpl
    have shows : ∀ {m n H' G es past} {k : Nat}, Two T.f_Book H' st B l pa L bl pl wl m n lawWs G es past → k < 2 →
        ∃ (as : List Addr) (ea : Addr), H' (pa k) = some (.lst (as.map V.ref ++ [V.ref ea])) ∧ ∀ (Q : VK) (E : XK), (∀ H2, Same H' H2 → Q (.bl true) H2) → spShows T.f_Book [.ref (B k), .ref ea, .ref wl] H' Q E := by
      intro m n H' G es past k t hk
      have U := t.u k hk
      obtain ⟨as, ea, p1, p2, p3, p4, p5⟩ := U.hp
      have hF := U.fe (es k) (by simp)
      refine ⟨as, ea, by rw [t.d.same _ _ p1, List.map_append]; rfl, fun Q E kk => ⟨B k, l k, ea, wl, "s", "t", es k, past k, lawWs, rfl, U.hb.same t.d.same, p3.on t.d.same, hF.1, hF.2, t.d.same _ _ t.hw, by decide, kk⟩⟩
    refine ⟨fun σ H' => ∃ (x5 x6 x7 : Option V) (m : Nat) (G : Hp) (es : Nat → List Ent) (past : Nat → List (List Ent)), σ = [some (.ref a), some (.ref st), some (.ref wl), some (.ref bl), some (.ref pl), x5, x6, x7] ∧ Two T.f_Book H' st B l pa L bl pl wl m (fun _ => 61) lawWs G es past, ?_, ?_⟩
    · refine ⟨_, rfl, G, st, 0, 61, rfl, T0.d, by decide, by decide, by decide, fun r H5 r0 r1 d5 => ⟨r, rfl, by omega, by omega, ?_⟩⟩
      refine for_range (lo := 0) (n := r.toNat) (fun i σ H' => ∃ (x5 x6 x7 : Option V) (G : Hp) (es : Nat → List Ent) (past : Nat → List (List Ent)), σ = [some (.ref a), some (.ref st), some (.ref wl), some (.ref bl), some (.ref pl), x5, x6, x7] ∧ Two T.f_Book H' st B l pa L bl pl wl (1 + 20 * i) (fun _ => i) lawWs G es past) ⟨none, none, none, G, _, _, rfl, T0.drawn d5⟩ ?_ ?_
      · rintro i σ H6 hi ⟨x5, x6, x7, G6, es6, past6, rfl, T6⟩
        have hi61 : i < 61 := by omega
        refine ⟨_, rfl, G6, st, 1 + 20 * i, 2, rfl, T6.d, by omega, by decide, by decide, fun rk H7 rk0 rk1 d7 => ?_⟩
        obtain ⟨k0, hk0, rfl⟩ := two_of rk0 rk1
        have T7 := T6.drawn d7
        refine ⟨fun σ H' => ∃ (G : Hp) (es : Nat → List Ent) (past : Nat → List (List Ent)), σ = [some (.ref a), some (.ref st), some (.ref wl), some (.ref bl), some (.ref pl), some (.int (0 + (i : Int))), some (.int (k0 : Int)), x7] ∧ Two T.f_Book H' st B l pa L bl pl wl (1 + 20 * (i + 1)) (fun _ => i + 1) lawWs G es past, ?_, ?_⟩
        · refine ⟨_, rfl, G6, st, 1 + 20 * i + 1, 9, rfl, T7.d, by omega, by decide, by decide, fun r9 H8 _ _ d8 => ?_⟩
          have T8 := T7.drawn d8
          refine ⟨rfl, _, rfl, ite2 (fun _ => ?_) fun _ => ?_⟩
          · refine ⟨_, rfl, _, rfl, bl, _, _, _, rfl, rfl, SqL.of (ebl T8), two_at B hk0, _, rfl, _, rfl, pl, _, _, _, rfl, rfl, SqL.of (epl T8), two_at pa hk0, ?_⟩
            dsimp only [L2.tNil]
            refine T8.back FX hk0 (by omega) ?_
            exact fun H9 G9 es9 past9 T9 => ⟨true, rfl, iteF ⟨G9, es9, past9, rfl, ⟨T9.d.mono (by omega), T9.hw, T9.hbl, T9.hpl, T9.u, fun j hj => Nat.le_trans (T9.hn j hj) (by split <;> omega)⟩⟩⟩
          · refine ⟨_, rfl, _, rfl, _, rfl, bl, _, _, _, rfl, rfl, SqL.of (ebl T8), two_at B hk0, _, rfl, _, rfl, pl, _, _, _, rfl, rfl, SqL.of (epl T8), two_at pa hk0, _, rfl, ?_⟩
            dsimp only [L2.tNil]
            refine T8.change FX hk0 (by omega) (by omega) (by decide) (by decide) law_wns ?_
            exact fun H9 G9 es9 past9 T9 => ⟨true, rfl, iteF ⟨G9, es9, past9, rfl, ⟨T9.d.mono (by omega), T9.hw, T9.hbl, T9.hpl, T9.u, fun j hj => Nat.le_trans (T9.hn j hj) (by split <;> omega)⟩⟩⟩
        rintro σ H9 ⟨G9, es9, past9, rfl, T9⟩
        refine ⟨2, rfl, by decide, by decide, ?_⟩
        refine for_range (lo := 0) (n := 2) (fun j σ H' => ∃ x7, σ = [some (.ref a), some (.ref st), some (.ref wl), some (.ref bl), some (.ref pl), some (.int (0 + (i : Int))), some (.int (k0 : Int)), x7] ∧ Same H9 H') ⟨x7, rfl, Same.refl _⟩ ?_ fun σ H' ⟨x7, e, s⟩ => ⟨_, _, x7, G9, es9, past9, e, T9.on s⟩
        rintro j σ Ha hj ⟨x7', rfl, sa⟩
        have Ta := T9.on sa
        rw [Int.zero_add (j : Int)]
        obtain ⟨as, ea, hpa, hsh⟩ := shows Ta hj
        refine ⟨_, rfl, _, rfl, bl, _, _, _, rfl, rfl, SqL.of (ebl Ta), two_at B hj, _, rfl, _, rfl, pl, _, _, _, rfl, rfl, SqL.of (epl Ta), two_at pa hj, 1, rfl, pa j, _, -1, _, rfl, rfl, SqL.of hpa, atI_last _ _, _, rfl, ?_⟩
        dsimp only [L2.tNil]
        refine hsh _ _ ?_
        exact fun H2 s => ⟨true, rfl, iteF ⟨_, rfl, sa.trans s⟩⟩
      · rintro σ H6 ⟨x5, x6, x7, G6, es6, past6, rfl, T6⟩
        exact ⟨x5, x6, x7, _, G6, es6, past6, rfl, T6.d, T6.hw, T6.hbl, T6.hpl, T6.u, fun j hj => Nat.le_trans (T6.hn j hj) (by omega)⟩
    rintro σ H6 ⟨x5, x6, x7, m6, G6, es6, past6, rfl, T6⟩
    refine ⟨fun σ H' => ∃ (x5 x6 : Option V) (G : Hp) (es : Nat → List Ent) (past : Nat → List (List Ent)), σ = [some (.ref a), some (.ref st), some (.ref wl), some (.ref bl), some (.ref pl), x5, x6, x7] ∧ Two T.f_Book H' st B l pa L bl pl wl m6 (fun _ => 0) lawWs G es past, ?_, ?_⟩
    · refine ⟨62, rfl, by decide, by decide, ?_⟩
      refine for_range (lo := 0) (n := 62) (fun i σ H' => ∃ (x5 x6 : Option V) (G : Hp) (es : Nat → List Ent) (past : Nat → List (List Ent)), σ = [some (.ref a), some (.ref st), some (.ref wl), some (.ref bl), some (.ref pl), x5, x6, x7] ∧ Two T.f_Book H' st B l pa L bl pl wl m6 (fun _ => 61 - i) lawWs G es past) ⟨x5, x6, G6, es6, past6, rfl, T6⟩ ?_ fun σ H' ⟨x5, x6, G, es, past, e, t⟩ => ⟨x5, x6, G, es, past, e, t⟩
      rintro i σ H7 hi ⟨x5, x6, G7, es7, past7, rfl, T7⟩
      refine ⟨2, rfl, by decide, by decide, ?_⟩
      refine for_range (lo := 0) (n := 2) (fun j σ H' => ∃ (x6 : Option V) (G : Hp) (es : Nat → List Ent) (past : Nat → List (List Ent)), σ = [some (.ref a), some (.ref st), some (.ref wl), some (.ref bl), some (.ref pl), some (.int (0 + (i : Int))), x6, x7] ∧ Two T.f_Book H' st B l pa L bl pl wl m6 (fun k => if k < j then 61 - (i + 1) else 61 - i) lawWs G es past)
        ⟨x6, G7, es7, past7, rfl, T7.d, T7.hw, T7.hbl, T7.hpl, T7.u, fun k hk => Nat.le_trans (T7.hn k hk) (by rw [if_neg (Nat.not_lt_zero k)]; exact Nat.le_refl _)⟩ ?_ ?_
      · rintro j σ H8 hj ⟨x6, G8, es8, past8, rfl, T8⟩
        rw [Int.zero_add (j : Int)]
        refine ⟨_, rfl, _, rfl, bl, _, _, _, rfl, rfl, SqL.of (ebl T8), two_at B hj, _, rfl, _, rfl, pl, _, _, _, rfl, rfl, SqL.of (epl T8), two_at pa hj, ?_⟩
        dsimp only [L2.tNil]
        refine T8.back FX hj (by simp only [if_neg (Nat.lt_irrefl j)]; omega) ?_
        intro H9 G9 es9 past9 T9
        refine ⟨true, rfl, iteF ?_⟩
        obtain ⟨as, ea, hpa, hsh⟩ := shows T9 hj
        refine ⟨_, rfl, _, rfl, bl, _, _, _, rfl, rfl, SqL.of (ebl T9), two_at B hj, _, rfl, _, rfl, pl, _, _, _, rfl, rfl, SqL.of (epl T9), two_at pa hj, 1, rfl, pa j, _, -1, _, rfl, rfl, SqL.of hpa, atI_last _ _, _, rfl, ?_⟩
        dsimp only [L2.tNil]
        refine hsh _ _ ?_
        intro Ha s
        refine ⟨true, rfl, iteF ⟨_, G9, es9, past9, rfl, T9.d.on s, T9.hw, T9.hbl, T9.hpl, T9.u, fun k hk => Nat.le_trans (T9.hn k hk) ?_⟩⟩
        show (if k = j then (if j < j then 61 - (i + 1) else 61 - i) - 1 else (if k < j then 61 - (i + 1) else 61 - i)) ≤ (if k < j + 1 then 61 - (i + 1) else 61 - i)
        rw [if_neg (Nat.lt_irrefl j)]
        by_cases e : k = j
        · rw [if_pos e, if_pos (by omega)]; omega
        · rw [if_neg e]
          by_cases e2 : k < j
          · rw [if_pos e2, if_pos (by omega)]; exact Nat.le_refl _
          · rw [if_neg e2, if_neg (by omega)]; exact Nat.le_refl _
      · rintro σ H8 ⟨x6, G8, es8, past8, rfl, T8⟩
        exact ⟨_, x6, G8, es8, past8, rfl, T8.d, T8.hw, T8.hbl, T8.hpl, T8.u, fun k hk => Nat.le_trans (T8.hn k hk) (by rw [if_pos hk]; exact Nat.le_refl _)⟩
    rintro σ H7 ⟨x5, x6, G7, es7, past7, rfl, T7⟩
    have p0 : past7 0 = [] := List.length_eq_zero_iff.mp (Nat.le_zero.mp (T7.hn 0 (by decide)))
    have p1 : past7 1 = [] := List.length_eq_zero_iff.mp (Nat.le_zero.mp (T7.hn 1 (by decide)))
    have wn0 := wns_nothing
    refine ⟨_, rfl, bl, _, 0, .ref (B 0), rfl, rfl, SqL.of (ebl T7), at0, B 0, l 0, "s", "t", es7 0, past7 0, rfl, (T7.u 0 (by decide)).hb.same T7.d.same, by rw [p0]; exact Nat.zero_le _, fun _ q H8 s8 eq => ?_, fun pp ee h => absurd (p0.symm.trans h) (by simp)⟩
    refine ⟨by show 2 ≤ sizeLine; decide, fun q2 nq2 => ?_⟩
    have sq := same_upd (o := .tup [V.str "nothing", .str ""]) nq2
    refine ⟨_, _, .tup (SqT.of (sq _ _ eq)) (dp_strs2 ["nothing", ""]), .tup (SqT.of upd_same) (dp_strs2 ["nothing", ""]), shaped_strs _ wn0, shaped_strs _ wn0, true, by rw [eqv_same_t (shaped_strs _ wn0)], iteT ?_⟩
    have T9 := T7.on (s8.trans sq)
    refine ⟨_, rfl, bl, _, 1, .ref (B 1), rfl, rfl, SqL.of (ebl T9), two_at B (k := 1) (by decide), B 1, l 1, "s", "t", es7 1, past7 1, rfl, (T9.u 1 (by decide)).hb.same T9.d.same, by rw [p1]; exact Nat.zero_le _, fun _ q3 H9 s9 eq3 => ?_, fun pp ee h => absurd (p1.symm.trans h) (by simp)⟩
    refine ⟨by show 2 ≤ sizeLine; decide, fun q4 nq4 => ?_⟩
    have sq4 := same_upd (o := .tup [V.str "nothing", .str ""]) nq4
    refine ⟨_, _, .tup (SqT.of (sq4 _ _ eq3)) (dp_strs2 ["nothing", ""]), .tup (SqT.of upd_same) (dp_strs2 ["nothing", ""]), shaped_strs _ wn0, shaped_strs _ wn0, ?_⟩
    rw [eqv_same_t (shaped_strs _ wn0)]
    exact k _
end

set_option maxHeartbeats 0 in
theorem all_mk {l : PySem.W.OpenLaw} {w : World} {K : PySem.W.Frag} {h : Heap} {mg : Str → Option Value} {f_BadName f_DuplicateName f_UnknownName f_BadCount f_Book f_Network f_NothingToUndo f_valid_name f_check_ends f_start f_take f_good f_store f_drop f_undo f_due_store f_stored f_missing f_shows f_ends f_change f_back f_BadName_init f_DuplicateName_init f_UnknownName_init f_BadCount_init f_Book_init f_Book_order p_Book_order f_Book_drop f_Book_undo f_Book_getitem f_Book_setitem f_Book_contains f_Book_len fa f_law : Addr} {od_valid_name an_valid_name od_check_ends an_check_ends od_start an_start od_take an_take od_good an_good od_store an_store od_drop an_drop od_undo an_undo od_due_store an_due_store od_stored an_stored od_missing an_missing od_shows an_shows od_ends an_ends od_change an_change od_back an_back od_BadName_init an_BadName_init od_DuplicateName_init an_DuplicateName_init od_UnknownName_init an_UnknownName_init od_BadCount_init an_BadCount_init od_Book_init an_Book_init od_Book_order an_Book_order od_Book_drop an_Book_drop od_Book_undo an_Book_undo od_Book_getitem an_Book_getitem od_Book_setitem an_Book_setitem od_Book_contains an_Book_contains od_Book_len an_Book_len od_law an_law : Option Addr} {sl_valid_name sl_check_ends sl_start sl_take sl_good sl_store sl_drop sl_undo sl_due_store sl_stored sl_missing sl_shows sl_ends sl_change sl_back sl_BadName_init sl_DuplicateName_init sl_UnknownName_init sl_BadCount_init sl_Book_init sl_Book_order sl_Book_drop sl_Book_undo sl_Book_getitem sl_Book_setitem sl_Book_contains sl_Book_len sl_law : Array (Option Value)} {oc_valid_name kV_valid_name dc_valid_name pm_valid_name cd_valid_name ct_valid_name oc_check_ends kV_check_ends dc_check_ends pm_check_ends cd_check_ends ct_check_ends oc_start kV_start dc_start pm_start cd_start ct_start oc_take kV_take dc_take pm_take cd_take ct_take oc_good kV_good dc_good pm_good cd_good ct_good oc_store kV_store dc_store pm_store cd_store ct_store oc_drop kV_drop dc_drop pm_drop cd_drop ct_drop oc_undo kV_undo dc_undo pm_undo cd_undo ct_undo oc_due_store kV_due_store dc_due_store pm_due_store cd_due_store ct_due_store oc_stored kV_stored dc_stored pm_stored cd_stored ct_stored oc_missing kV_missing dc_missing pm_missing cd_missing ct_missing oc_shows kV_shows dc_shows pm_shows cd_shows ct_shows oc_ends kV_ends dc_ends pm_ends cd_ends ct_ends oc_change kV_change dc_change pm_change cd_change ct_change oc_back kV_back dc_back pm_back cd_back ct_back oc_BadName_init kV_BadName_init dc_BadName_init pm_BadName_init cd_BadName_init ct_BadName_init oc_DuplicateName_init kV_DuplicateName_init dc_DuplicateName_init pm_DuplicateName_init cd_DuplicateName_init ct_DuplicateName_init oc_UnknownName_init kV_UnknownName_init dc_UnknownName_init pm_UnknownName_init cd_UnknownName_init ct_UnknownName_init oc_BadCount_init kV_BadCount_init dc_BadCount_init pm_BadCount_init cd_BadCount_init ct_BadCount_init oc_Book_init kV_Book_init dc_Book_init pm_Book_init cd_Book_init ct_Book_init oc_Book_order kV_Book_order dc_Book_order pm_Book_order cd_Book_order ct_Book_order oc_Book_drop kV_Book_drop dc_Book_drop pm_Book_drop cd_Book_drop ct_Book_drop oc_Book_undo kV_Book_undo dc_Book_undo pm_Book_undo cd_Book_undo ct_Book_undo oc_Book_getitem kV_Book_getitem dc_Book_getitem pm_Book_getitem cd_Book_getitem ct_Book_getitem oc_Book_setitem kV_Book_setitem dc_Book_setitem pm_Book_setitem cd_Book_setitem ct_Book_setitem oc_Book_contains kV_Book_contains dc_Book_contains pm_Book_contains cd_Book_contains ct_Book_contains oc_Book_len kV_Book_len dc_Book_len pm_Book_len cd_Book_len ct_Book_len oc_law kV_law dc_law pm_law cd_law ct_law : Value} {rs_Book_order : List Value} {tv_Network_MOST_LINKS t_DIGITS t_LETTERS t_LONGEST_NAME : Tok} (X : K.In h) (G : h.Ns mainGlobals mg) (hfa : mg "law" = some (.ref fa))
    (a_BadName : PySem.W.nsIn K mainGlobals "BadName" = some (some (.ref f_BadName)))
    (a_DuplicateName : PySem.W.nsIn K mainGlobals "DuplicateName" = some (some (.ref f_DuplicateName)))
    (a_UnknownName : PySem.W.nsIn K mainGlobals "UnknownName" = some (some (.ref f_UnknownName)))
    (a_BadCount : PySem.W.nsIn K mainGlobals "BadCount" = some (some (.ref f_BadCount)))
    (a_Book : PySem.W.nsIn K mainGlobals "Book" = some (some (.ref f_Book)))
    (pg_Book : PySem.W.plainGet K f_Book Str.empty = true)
    (hd_Book : PySem.W.hasDictIn K f_Book = true)
    (po_Book : PySem.W.plainOver K f_Book = true)
    (sa_Book : PySem.W.findIn K (.ref f_Book) "__setattr__" = some (some (.builtin "object.__setattr__")))
    (mk_Book : PySem.W.makesIn K f_Book = true)
    (kc_Book : PySem.W.keepIn K (.ref f_Book) = true)
    (hc_Book : PySem.W.findIn K (.ref f_Book) "__class__" = some (some (.builtin "object.__class__")))
    (mo_Book : PySem.W.mroIn K f_Book (.type "object") = some true)
    (ic_Book : PySem.W.isClsIn K f_Book = true)
    (ty_Book : PySem.W.typeIn K (.ref f_Book) = some (.type "type"))
    (hn_class : PySem.W.specialIn K (.builtin "object.__class__") "__get__" = some (some (.builtin "getset_descriptor.__get__")))
    (ht_class : PySem.W.takesIn K (.builtin "object.__class__") = some true)
    (na_Book_start : PySem.W.findIn K (.ref f_Book) "_start" = some none)
    (na_Book_end : PySem.W.findIn K (.ref f_Book) "_end" = some none)
    (na_Book_links : PySem.W.findIn K (.ref f_Book) "_links" = some none)
    (na_Book_past : PySem.W.findIn K (.ref f_Book) "_past" = some none)
    (a_Network : PySem.W.nsIn K mainGlobals "Network" = some (some (.ref f_Network)))
    (a_NothingToUndo : PySem.W.nsIn K mainGlobals "NothingToUndo" = some (some (.ref f_NothingToUndo)))
    (a_valid_name : PySem.W.nsIn K mainGlobals "valid_name" = some (some (.ref f_valid_name)))
    (l_valid_name : K.lookup f_valid_name = some ⟨oc_valid_name, od_valid_name, .func (PySem.W.fnOf "valid_name" "valid_name" (defArgs s_valid_name) (defBody s_valid_name) (defScope s_valid_name) .none kV_valid_name dc_valid_name pm_valid_name an_valid_name cd_valid_name ct_valid_name), sl_valid_name⟩)
    (c_valid_name : PySem.W.codeIn K cd_valid_name "valid_name" = true)
    (k_valid_name : PySem.W.keepIn K (.ref f_valid_name) = true)
    (a_check_ends : PySem.W.nsIn K mainGlobals "check_ends" = some (some (.ref f_check_ends)))
    (l_check_ends : K.lookup f_check_ends = some ⟨oc_check_ends, od_check_ends, .func (PySem.W.fnOf "check_ends" "check_ends" (defArgs s_check_ends) (defBody s_check_ends) (defScope s_check_ends) .none kV_check_ends dc_check_ends pm_check_ends an_check_ends cd_check_ends ct_check_ends), sl_check_ends⟩)
    (c_check_ends : PySem.W.codeIn K cd_check_ends "check_ends" = true)
    (k_check_ends : PySem.W.keepIn K (.ref f_check_ends) = true)
    (a_start : PySem.W.nsIn K mainGlobals "_law_start" = some (some (.ref f_start)))
    (l_start : K.lookup f_start = some ⟨oc_start, od_start, .func (PySem.W.fnOf "_law_start" "_law_start" (defArgs s_start) (defBody s_start) (defScope s_start) .none kV_start dc_start pm_start an_start cd_start ct_start), sl_start⟩)
    (c_start : PySem.W.codeIn K cd_start "_law_start" = true)
    (k_start : PySem.W.keepIn K (.ref f_start) = true)
    (a_take : PySem.W.nsIn K mainGlobals "_law_take" = some (some (.ref f_take)))
    (l_take : K.lookup f_take = some ⟨oc_take, od_take, .func (PySem.W.fnOf "_law_take" "_law_take" (defArgs s_take) (defBody s_take) (defScope s_take) .none kV_take dc_take pm_take an_take cd_take ct_take), sl_take⟩)
    (c_take : PySem.W.codeIn K cd_take "_law_take" = true)
    (k_take : PySem.W.keepIn K (.ref f_take) = true)
    (a_good : PySem.W.nsIn K mainGlobals "_law_good" = some (some (.ref f_good)))
    (l_good : K.lookup f_good = some ⟨oc_good, od_good, .func (PySem.W.fnOf "_law_good" "_law_good" (defArgs s_good) (defBody s_good) (defScope s_good) .none kV_good dc_good pm_good an_good cd_good ct_good), sl_good⟩)
    (c_good : PySem.W.codeIn K cd_good "_law_good" = true)
    (k_good : PySem.W.keepIn K (.ref f_good) = true)
    (a_store : PySem.W.nsIn K mainGlobals "_law_store" = some (some (.ref f_store)))
    (l_store : K.lookup f_store = some ⟨oc_store, od_store, .func (PySem.W.fnOf "_law_store" "_law_store" (defArgs s_store) (defBody s_store) (defScope s_store) .none kV_store dc_store pm_store an_store cd_store ct_store), sl_store⟩)
    (c_store : PySem.W.codeIn K cd_store "_law_store" = true)
    (k_store : PySem.W.keepIn K (.ref f_store) = true)
    (a_drop : PySem.W.nsIn K mainGlobals "_law_drop" = some (some (.ref f_drop)))
    (l_drop : K.lookup f_drop = some ⟨oc_drop, od_drop, .func (PySem.W.fnOf "_law_drop" "_law_drop" (defArgs s_drop) (defBody s_drop) (defScope s_drop) .none kV_drop dc_drop pm_drop an_drop cd_drop ct_drop), sl_drop⟩)
    (c_drop : PySem.W.codeIn K cd_drop "_law_drop" = true)
    (k_drop : PySem.W.keepIn K (.ref f_drop) = true)
    (a_undo : PySem.W.nsIn K mainGlobals "_law_undo" = some (some (.ref f_undo)))
    (l_undo : K.lookup f_undo = some ⟨oc_undo, od_undo, .func (PySem.W.fnOf "_law_undo" "_law_undo" (defArgs s_undo) (defBody s_undo) (defScope s_undo) .none kV_undo dc_undo pm_undo an_undo cd_undo ct_undo), sl_undo⟩)
    (c_undo : PySem.W.codeIn K cd_undo "_law_undo" = true)
    (k_undo : PySem.W.keepIn K (.ref f_undo) = true)
    (a_due_store : PySem.W.nsIn K mainGlobals "_law_due_store" = some (some (.ref f_due_store)))
    (l_due_store : K.lookup f_due_store = some ⟨oc_due_store, od_due_store, .func (PySem.W.fnOf "_law_due_store" "_law_due_store" (defArgs s_due_store) (defBody s_due_store) (defScope s_due_store) .none kV_due_store dc_due_store pm_due_store an_due_store cd_due_store ct_due_store), sl_due_store⟩)
    (c_due_store : PySem.W.codeIn K cd_due_store "_law_due_store" = true)
    (k_due_store : PySem.W.keepIn K (.ref f_due_store) = true)
    (a_stored : PySem.W.nsIn K mainGlobals "_law_stored" = some (some (.ref f_stored)))
    (l_stored : K.lookup f_stored = some ⟨oc_stored, od_stored, .func (PySem.W.fnOf "_law_stored" "_law_stored" (defArgs s_stored) (defBody s_stored) (defScope s_stored) .none kV_stored dc_stored pm_stored an_stored cd_stored ct_stored), sl_stored⟩)
    (c_stored : PySem.W.codeIn K cd_stored "_law_stored" = true)
    (k_stored : PySem.W.keepIn K (.ref f_stored) = true)
    (a_missing : PySem.W.nsIn K mainGlobals "_law_missing" = some (some (.ref f_missing)))
    (l_missing : K.lookup f_missing = some ⟨oc_missing, od_missing, .func (PySem.W.fnOf "_law_missing" "_law_missing" (defArgs s_missing) (defBody s_missing) (defScope s_missing) .none kV_missing dc_missing pm_missing an_missing cd_missing ct_missing), sl_missing⟩)
    (c_missing : PySem.W.codeIn K cd_missing "_law_missing" = true)
    (k_missing : PySem.W.keepIn K (.ref f_missing) = true)
    (a_shows : PySem.W.nsIn K mainGlobals "_law_shows" = some (some (.ref f_shows)))
    (l_shows : K.lookup f_shows = some ⟨oc_shows, od_shows, .func (PySem.W.fnOf "_law_shows" "_law_shows" (defArgs s_shows) (defBody s_shows) (defScope s_shows) .none kV_shows dc_shows pm_shows an_shows cd_shows ct_shows), sl_shows⟩)
    (c_shows : PySem.W.codeIn K cd_shows "_law_shows" = true)
    (k_shows : PySem.W.keepIn K (.ref f_shows) = true)
    (a_ends : PySem.W.nsIn K mainGlobals "_law_ends" = some (some (.ref f_ends)))
    (l_ends : K.lookup f_ends = some ⟨oc_ends, od_ends, .func (PySem.W.fnOf "_law_ends" "_law_ends" (defArgs s_ends) (defBody s_ends) (defScope s_ends) .none kV_ends dc_ends pm_ends an_ends cd_ends ct_ends), sl_ends⟩)
    (c_ends : PySem.W.codeIn K cd_ends "_law_ends" = true)
    (k_ends : PySem.W.keepIn K (.ref f_ends) = true)
    (a_change : PySem.W.nsIn K mainGlobals "_law_change" = some (some (.ref f_change)))
    (l_change : K.lookup f_change = some ⟨oc_change, od_change, .func (PySem.W.fnOf "_law_change" "_law_change" (defArgs s_change) (defBody s_change) (defScope s_change) .none kV_change dc_change pm_change an_change cd_change ct_change), sl_change⟩)
    (c_change : PySem.W.codeIn K cd_change "_law_change" = true)
    (k_change : PySem.W.keepIn K (.ref f_change) = true)
    (a_back : PySem.W.nsIn K mainGlobals "_law_back" = some (some (.ref f_back)))
    (l_back : K.lookup f_back = some ⟨oc_back, od_back, .func (PySem.W.fnOf "_law_back" "_law_back" (defArgs s_back) (defBody s_back) (defScope s_back) .none kV_back dc_back pm_back an_back cd_back ct_back), sl_back⟩)
    (c_back : PySem.W.codeIn K cd_back "_law_back" = true)
    (k_back : PySem.W.keepIn K (.ref f_back) = true)
    (a_BadName_init : PySem.W.findIn K (.ref f_BadName) "__init__" = some (some (.ref f_BadName_init)))
    (i_BadName_init : PySem.W.isFn K (.ref f_BadName_init) = true)
    (l_BadName_init : K.lookup f_BadName_init = some ⟨oc_BadName_init, od_BadName_init, .func (PySem.W.fnOf "__init__" "BadName.__init__" (defArgs s_BadName_init) (defBody s_BadName_init) (defScope s_BadName_init) .none kV_BadName_init dc_BadName_init pm_BadName_init an_BadName_init cd_BadName_init ct_BadName_init), sl_BadName_init⟩)
    (c_BadName_init : PySem.W.codeIn K cd_BadName_init "BadName.__init__" = true)
    (k_BadName_init : PySem.W.keepIn K (.ref f_BadName_init) = true)
    (a_DuplicateName_init : PySem.W.findIn K (.ref f_DuplicateName) "__init__" = some (some (.ref f_DuplicateName_init)))
    (i_DuplicateName_init : PySem.W.isFn K (.ref f_DuplicateName_init) = true)
    (l_DuplicateName_init : K.lookup f_DuplicateName_init = some ⟨oc_DuplicateName_init, od_DuplicateName_init, .func (PySem.W.fnOf "__init__" "DuplicateName.__init__" (defArgs s_DuplicateName_init) (defBody s_DuplicateName_init) (defScope s_DuplicateName_init) .none kV_DuplicateName_init dc_DuplicateName_init pm_DuplicateName_init an_DuplicateName_init cd_DuplicateName_init ct_DuplicateName_init), sl_DuplicateName_init⟩)
    (c_DuplicateName_init : PySem.W.codeIn K cd_DuplicateName_init "DuplicateName.__init__" = true)
    (k_DuplicateName_init : PySem.W.keepIn K (.ref f_DuplicateName_init) = true)
    (a_UnknownName_init : PySem.W.findIn K (.ref f_UnknownName) "__init__" = some (some (.ref f_UnknownName_init)))
    (i_UnknownName_init : PySem.W.isFn K (.ref f_UnknownName_init) = true)
    (l_UnknownName_init : K.lookup f_UnknownName_init = some ⟨oc_UnknownName_init, od_UnknownName_init, .func (PySem.W.fnOf "__init__" "UnknownName.__init__" (defArgs s_UnknownName_init) (defBody s_UnknownName_init) (defScope s_UnknownName_init) .none kV_UnknownName_init dc_UnknownName_init pm_UnknownName_init an_UnknownName_init cd_UnknownName_init ct_UnknownName_init), sl_UnknownName_init⟩)
    (c_UnknownName_init : PySem.W.codeIn K cd_UnknownName_init "UnknownName.__init__" = true)
    (k_UnknownName_init : PySem.W.keepIn K (.ref f_UnknownName_init) = true)
    (a_BadCount_init : PySem.W.findIn K (.ref f_BadCount) "__init__" = some (some (.ref f_BadCount_init)))
    (i_BadCount_init : PySem.W.isFn K (.ref f_BadCount_init) = true)
    (l_BadCount_init : K.lookup f_BadCount_init = some ⟨oc_BadCount_init, od_BadCount_init, .func (PySem.W.fnOf "__init__" "BadCount.__init__" (defArgs s_BadCount_init) (defBody s_BadCount_init) (defScope s_BadCount_init) .none kV_BadCount_init dc_BadCount_init pm_BadCount_init an_BadCount_init cd_BadCount_init ct_BadCount_init), sl_BadCount_init⟩)
    (c_BadCount_init : PySem.W.codeIn K cd_BadCount_init "BadCount.__init__" = true)
    (k_BadCount_init : PySem.W.keepIn K (.ref f_BadCount_init) = true)
    (a_Book_init : PySem.W.findIn K (.ref f_Book) "__init__" = some (some (.ref f_Book_init)))
    (i_Book_init : PySem.W.isFn K (.ref f_Book_init) = true)
    (l_Book_init : K.lookup f_Book_init = some ⟨oc_Book_init, od_Book_init, .func (PySem.W.fnOf "__init__" "Book.__init__" (defArgs s_Book_init) (defBody s_Book_init) (defScope s_Book_init) .none kV_Book_init dc_Book_init pm_Book_init an_Book_init cd_Book_init ct_Book_init), sl_Book_init⟩)
    (c_Book_init : PySem.W.codeIn K cd_Book_init "Book.__init__" = true)
    (k_Book_init : PySem.W.keepIn K (.ref f_Book_init) = true)
    (a_Book_order : PySem.W.findIn K (.ref f_Book) "order" = some (some (.ref p_Book_order)))
    (pg_Book_order : PySem.W.specialIn K (.ref p_Book_order) "__get__" = some (some (.builtin "property.__get__")))
    (pt_Book_order : PySem.W.takesIn K (.ref p_Book_order) = some true)
    (pr_Book_order : PySem.W.recIn K p_Book_order "property" = some (.ref f_Book_order :: rs_Book_order))
    (l_Book_order : K.lookup f_Book_order = some ⟨oc_Book_order, od_Book_order, .func (PySem.W.fnOf "order" "Book.order" (defArgs s_Book_order) (defBody s_Book_order) (defScope s_Book_order) .none kV_Book_order dc_Book_order pm_Book_order an_Book_order cd_Book_order ct_Book_order), sl_Book_order⟩)
    (c_Book_order : PySem.W.codeIn K cd_Book_order "Book.order" = true)
    (k_Book_order : PySem.W.keepIn K (.ref f_Book_order) = true)
    (a_Book_drop : PySem.W.findIn K (.ref f_Book) "drop" = some (some (.ref f_Book_drop)))
    (i_Book_drop : PySem.W.isFn K (.ref f_Book_drop) = true)
    (l_Book_drop : K.lookup f_Book_drop = some ⟨oc_Book_drop, od_Book_drop, .func (PySem.W.fnOf "drop" "Book.drop" (defArgs s_Book_drop) (defBody s_Book_drop) (defScope s_Book_drop) .none kV_Book_drop dc_Book_drop pm_Book_drop an_Book_drop cd_Book_drop ct_Book_drop), sl_Book_drop⟩)
    (c_Book_drop : PySem.W.codeIn K cd_Book_drop "Book.drop" = true)
    (k_Book_drop : PySem.W.keepIn K (.ref f_Book_drop) = true)
    (a_Book_undo : PySem.W.findIn K (.ref f_Book) "undo" = some (some (.ref f_Book_undo)))
    (i_Book_undo : PySem.W.isFn K (.ref f_Book_undo) = true)
    (l_Book_undo : K.lookup f_Book_undo = some ⟨oc_Book_undo, od_Book_undo, .func (PySem.W.fnOf "undo" "Book.undo" (defArgs s_Book_undo) (defBody s_Book_undo) (defScope s_Book_undo) .none kV_Book_undo dc_Book_undo pm_Book_undo an_Book_undo cd_Book_undo ct_Book_undo), sl_Book_undo⟩)
    (c_Book_undo : PySem.W.codeIn K cd_Book_undo "Book.undo" = true)
    (k_Book_undo : PySem.W.keepIn K (.ref f_Book_undo) = true)
    (a_Book_getitem : PySem.W.findIn K (.ref f_Book) "__getitem__" = some (some (.ref f_Book_getitem)))
    (i_Book_getitem : PySem.W.isFn K (.ref f_Book_getitem) = true)
    (l_Book_getitem : K.lookup f_Book_getitem = some ⟨oc_Book_getitem, od_Book_getitem, .func (PySem.W.fnOf "__getitem__" "Book.__getitem__" (defArgs s_Book_getitem) (defBody s_Book_getitem) (defScope s_Book_getitem) .none kV_Book_getitem dc_Book_getitem pm_Book_getitem an_Book_getitem cd_Book_getitem ct_Book_getitem), sl_Book_getitem⟩)
    (c_Book_getitem : PySem.W.codeIn K cd_Book_getitem "Book.__getitem__" = true)
    (k_Book_getitem : PySem.W.keepIn K (.ref f_Book_getitem) = true)
    (a_Book_setitem : PySem.W.findIn K (.ref f_Book) "__setitem__" = some (some (.ref f_Book_setitem)))
    (i_Book_setitem : PySem.W.isFn K (.ref f_Book_setitem) = true)
    (l_Book_setitem : K.lookup f_Book_setitem = some ⟨oc_Book_setitem, od_Book_setitem, .func (PySem.W.fnOf "__setitem__" "Book.__setitem__" (defArgs s_Book_setitem) (defBody s_Book_setitem) (defScope s_Book_setitem) .none kV_Book_setitem dc_Book_setitem pm_Book_setitem an_Book_setitem cd_Book_setitem ct_Book_setitem), sl_Book_setitem⟩)
    (c_Book_setitem : PySem.W.codeIn K cd_Book_setitem "Book.__setitem__" = true)
    (k_Book_setitem : PySem.W.keepIn K (.ref f_Book_setitem) = true)
    (a_Book_contains : PySem.W.findIn K (.ref f_Book) "__contains__" = some (some (.ref f_Book_contains)))
    (i_Book_contains : PySem.W.isFn K (.ref f_Book_contains) = true)
    (l_Book_contains : K.lookup f_Book_contains = some ⟨oc_Book_contains, od_Book_contains, .func (PySem.W.fnOf "__contains__" "Book.__contains__" (defArgs s_Book_contains) (defBody s_Book_contains) (defScope s_Book_contains) .none kV_Book_contains dc_Book_contains pm_Book_contains an_Book_contains cd_Book_contains ct_Book_contains), sl_Book_contains⟩)
    (c_Book_contains : PySem.W.codeIn K cd_Book_contains "Book.__contains__" = true)
    (k_Book_contains : PySem.W.keepIn K (.ref f_Book_contains) = true)
    (a_Book_len : PySem.W.findIn K (.ref f_Book) "__len__" = some (some (.ref f_Book_len)))
    (i_Book_len : PySem.W.isFn K (.ref f_Book_len) = true)
    (l_Book_len : K.lookup f_Book_len = some ⟨oc_Book_len, od_Book_len, .func (PySem.W.fnOf "__len__" "Book.__len__" (defArgs s_Book_len) (defBody s_Book_len) (defScope s_Book_len) .none kV_Book_len dc_Book_len pm_Book_len an_Book_len cd_Book_len ct_Book_len), sl_Book_len⟩)
    (c_Book_len : PySem.W.codeIn K cd_Book_len "Book.__len__" = true)
    (k_Book_len : PySem.W.keepIn K (.ref f_Book_len) = true)
    (rd_Network : PySem.W.readsIn K f_Network (.type "type") = true)
    (ga_Network : PySem.W.specialIn K (.ref f_Network) "__getattribute__" = some (some (.builtin "type.__getattribute__")))
    (cw_Network_MOST_LINKS : PySem.W.findCls K (.ref f_Network) (.type "type") "MOST_LINKS" = some (.val (.int 10 tv_Network_MOST_LINKS)))
    (fi_Book_getitem : PySem.W.fnIn K f_Book_getitem = true)
    (ns_Book_getitem : PySem.W.noSeq K f_Book = true)
    (fi_Book_setitem : PySem.W.fnIn K f_Book_setitem = true)
    (ns_Book_setitem : PySem.W.noSeq K f_Book = true)
    (fi_Book_contains : PySem.W.fnIn K f_Book_contains = true)
    (ns_Book_contains : PySem.W.noSeq K f_Book = true)
    (fi_Book_len : PySem.W.fnIn K f_Book_len = true)
    (ns_Book_len : PySem.W.noSeq K f_Book = true)
    (x_BadName : ∃ nm q N bs bm sn sub ab col dd k0 k1 k2 k3 k5, K.lookup f_BadName = some (excClassObj nm q f_BadName N bs bm true sn sub ab col dd k0 k1 k2 k3 k5 "ValueError.__new__") ∧ PySem.HandSPX.refsVE bm = true)
    (xs_BadName : PySem.W.findIn K (.ref f_BadName) "__setattr__" = some (some (.builtin "object.__setattr__")))
    (xe_BadName : PySem.W.subIn K (.ref f_BadName) (.type "BaseException") = some true)
    (xt_BadName : PySem.W.typeIn K (.ref f_BadName) = some (.type "type"))
    (xk_BadName : PySem.W.keepIn K (.ref f_BadName) = true)
    (xg_BadName : PySem.W.findIn K (.ref f_BadName) "__getattribute__" = some (some (.builtin "BaseException.__getattribute__")))
    (xh_BadName : PySem.W.findIn K (.ref f_BadName) "__getattr__" = some none)
    (xd_BadName : PySem.W.hasDictIn K f_BadName = true)
    (xc_BadName : PySem.W.findIn K (.ref f_BadName) "__class__" = some (some (.builtin "object.__class__")))
    (xm_BadName : PySem.W.mroIn K f_BadName (.type "object") = some true)
    (xi_BadName : PySem.W.isClsIn K f_BadName = true)
    (xf_BadName : PySem.W.typeIn K (.ref f_BadName_init) = some (.type "function"))
    (no_BadName_name : PySem.W.findIn K (.ref f_BadName) "name" = some none)
    (x_DuplicateName : ∃ nm q N bs bm sn sub ab col dd k0 k1 k2 k3 k5, K.lookup f_DuplicateName = some (excClassObj nm q f_DuplicateName N bs bm true sn sub ab col dd k0 k1 k2 k3 k5 "ValueError.__new__") ∧ PySem.HandSPX.refsVE bm = true)
    (xs_DuplicateName : PySem.W.findIn K (.ref f_DuplicateName) "__setattr__" = some (some (.builtin "object.__setattr__")))
    (xe_DuplicateName : PySem.W.subIn K (.ref f_DuplicateName) (.type "BaseException") = some true)
    (xt_DuplicateName : PySem.W.typeIn K (.ref f_DuplicateName) = some (.type "type"))
    (xk_DuplicateName : PySem.W.keepIn K (.ref f_DuplicateName) = true)
    (xg_DuplicateName : PySem.W.findIn K (.ref f_DuplicateName) "__getattribute__" = some (some (.builtin "BaseException.__getattribute__")))
    (xh_DuplicateName : PySem.W.findIn K (.ref f_DuplicateName) "__getattr__" = some none)
    (xd_DuplicateName : PySem.W.hasDictIn K f_DuplicateName = true)
    (xc_DuplicateName : PySem.W.findIn K (.ref f_DuplicateName) "__class__" = some (some (.builtin "object.__class__")))
    (xm_DuplicateName : PySem.W.mroIn K f_DuplicateName (.type "object") = some true)
    (xi_DuplicateName : PySem.W.isClsIn K f_DuplicateName = true)
    (xf_DuplicateName : PySem.W.typeIn K (.ref f_DuplicateName_init) = some (.type "function"))
    (no_DuplicateName_name : PySem.W.findIn K (.ref f_DuplicateName) "name" = some none)
    (x_UnknownName : ∃ nm q N bs bm sn sub ab col dd k0 k1 k2 k3 k5, K.lookup f_UnknownName = some (excClassObj nm q f_UnknownName N bs bm true sn sub ab col dd k0 k1 k2 k3 k5 "ValueError.__new__") ∧ PySem.HandSPX.refsVE bm = true)
    (xs_UnknownName : PySem.W.findIn K (.ref f_UnknownName) "__setattr__" = some (some (.builtin "object.__setattr__")))
    (xe_UnknownName : PySem.W.subIn K (.ref f_UnknownName) (.type "BaseException") = some true)
    (xt_UnknownName : PySem.W.typeIn K (.ref f_UnknownName) = some (.type "type"))
    (xk_UnknownName : PySem.W.keepIn K (.ref f_UnknownName) = true)
    (xg_UnknownName : PySem.W.findIn K (.ref f_UnknownName) "__getattribute__" = some (some (.builtin "BaseException.__getattribute__")))
    (xh_UnknownName : PySem.W.findIn K (.ref f_UnknownName) "__getattr__" = some none)
    (xd_UnknownName : PySem.W.hasDictIn K f_UnknownName = true)
    (xc_UnknownName : PySem.W.findIn K (.ref f_UnknownName) "__class__" = some (some (.builtin "object.__class__")))
    (xm_UnknownName : PySem.W.mroIn K f_UnknownName (.type "object") = some true)
    (xi_UnknownName : PySem.W.isClsIn K f_UnknownName = true)
    (xf_UnknownName : PySem.W.typeIn K (.ref f_UnknownName_init) = some (.type "function"))
    (no_UnknownName_name : PySem.W.findIn K (.ref f_UnknownName) "name" = some none)
    (x_BadCount : ∃ nm q N bs bm sn sub ab col dd k0 k1 k2 k3 k5, K.lookup f_BadCount = some (excClassObj nm q f_BadCount N bs bm true sn sub ab col dd k0 k1 k2 k3 k5 "ValueError.__new__") ∧ PySem.HandSPX.refsVE bm = true)
    (xs_BadCount : PySem.W.findIn K (.ref f_BadCount) "__setattr__" = some (some (.builtin "object.__setattr__")))
    (xe_BadCount : PySem.W.subIn K (.ref f_BadCount) (.type "BaseException") = some true)
    (xt_BadCount : PySem.W.typeIn K (.ref f_BadCount) = some (.type "type"))
    (xk_BadCount : PySem.W.keepIn K (.ref f_BadCount) = true)
    (xg_BadCount : PySem.W.findIn K (.ref f_BadCount) "__getattribute__" = some (some (.builtin "BaseException.__getattribute__")))
    (xh_BadCount : PySem.W.findIn K (.ref f_BadCount) "__getattr__" = some none)
    (xd_BadCount : PySem.W.hasDictIn K f_BadCount = true)
    (xc_BadCount : PySem.W.findIn K (.ref f_BadCount) "__class__" = some (some (.builtin "object.__class__")))
    (xm_BadCount : PySem.W.mroIn K f_BadCount (.type "object") = some true)
    (xi_BadCount : PySem.W.isClsIn K f_BadCount = true)
    (xf_BadCount : PySem.W.typeIn K (.ref f_BadCount_init) = some (.type "function"))
    (no_BadCount_count : PySem.W.findIn K (.ref f_BadCount) "count" = some none)
    (xe_NothingToUndo : PySem.W.subIn K (.ref f_NothingToUndo) (.type "BaseException") = some true)
    (xt_NothingToUndo : PySem.W.typeIn K (.ref f_NothingToUndo) = some (.type "type"))
    (xk_NothingToUndo : PySem.W.keepIn K (.ref f_NothingToUndo) = true)
    (xg_NothingToUndo : PySem.W.findIn K (.ref f_NothingToUndo) "__getattribute__" = some (some (.builtin "BaseException.__getattribute__")))
    (xh_NothingToUndo : PySem.W.findIn K (.ref f_NothingToUndo) "__getattr__" = some none)
    (xd_NothingToUndo : PySem.W.hasDictIn K f_NothingToUndo = true)
    (xc_NothingToUndo : PySem.W.findIn K (.ref f_NothingToUndo) "__class__" = some (some (.builtin "object.__class__")))
    (xm_NothingToUndo : PySem.W.mroIn K f_NothingToUndo (.type "object") = some true)
    (xi_NothingToUndo : PySem.W.isClsIn K f_NothingToUndo = true)
    (xq_NothingToUndo : PySem.W.excIn K f_NothingToUndo [.type "ValueError", .type "Exception", .type "BaseException", .type "object"] "ValueError.__new__" = true)
    (es_BadName_BadName : PySem.W.subIn K (.ref f_BadName) (.ref f_BadName) = some true)
    (es_UnknownName_UnknownName : PySem.W.subIn K (.ref f_UnknownName) (.ref f_UnknownName) = some true)
    (es_BadCount_BadCount : PySem.W.subIn K (.ref f_BadCount) (.ref f_BadCount) = some true)
    (es_BadCount_BadName : PySem.W.subIn K (.ref f_BadCount) (.ref f_BadName) = some false)
    (nq_BadCount_BadName : (decide (Value.ref f_BadCount = Value.ref f_BadName)) = false)
    (es_NothingToUndo_NothingToUndo : PySem.W.subIn K (.ref f_NothingToUndo) (.ref f_NothingToUndo) = some true)
    (q_DIGITS : PySem.W.nsIn K mainGlobals "DIGITS" = some (some (.str ("0123456789" : Str) t_DIGITS)))
    (q_LETTERS : PySem.W.nsIn K mainGlobals "LETTERS" = some (some (.str ("abcdefghijklmnopqrstuvwxyz" : Str) t_LETTERS)))
    (q_LONGEST_NAME : PySem.W.nsIn K mainGlobals "LONGEST_NAME" = some (some (.int 6 t_LONGEST_NAME)))
    (z_abs : PySem.W.nsIn K mainGlobals "abs" = some none)
    (z_all : PySem.W.nsIn K mainGlobals "all" = some none)
    (z_int : PySem.W.nsIn K mainGlobals "int" = some none)
    (z_len : PySem.W.nsIn K mainGlobals "len" = some none)
    (z_max : PySem.W.nsIn K mainGlobals "max" = some none)
    (z_range : PySem.W.nsIn K mainGlobals "range" = some none)
    (z_tuple : PySem.W.nsIn K mainGlobals "tuple" = some none)
    (a_law : PySem.W.nsIn K mainGlobals "law" = some (some (.ref f_law)))
    (l_law : K.lookup f_law = some ⟨oc_law, od_law, .func (PySem.W.fnOf "law" "law" (defArgs s_law) (defBody s_law) (defScope s_law) .none kV_law dc_law pm_law an_law cd_law ct_law), sl_law⟩)
    (c_law : PySem.W.codeIn K cd_law "law" = true)
    (k_law : PySem.W.keepIn K (.ref f_law) = true)
    : ∃ fd : FuncData, (∀ (s : Shared) (v : Value), BindsTo s fd ⟨[v], []⟩ [("_law_script", v)]) ∧ ∀ base : Heap, K.In base → base.Ns mainGlobals mg → FnOk l.prog w K mg base CX0 7 fa fd ["_law_script"] (spLaw K) := by
  have e := hfa.symm.trans (PySem.W.mg_of X G a_law)
  cases e
  have T : Txt K mg := {
    f_BadName := f_BadName,
    m_BadName := PySem.W.mg_of X G a_BadName,
    f_DuplicateName := f_DuplicateName,
    m_DuplicateName := PySem.W.mg_of X G a_DuplicateName,
    f_UnknownName := f_UnknownName,
    m_UnknownName := PySem.W.mg_of X G a_UnknownName,
    f_BadCount := f_BadCount,
    m_BadCount := PySem.W.mg_of X G a_BadCount,
    f_Book := f_Book,
    m_Book := PySem.W.mg_of X G a_Book,
    cl_Book := ⟨pg_Book, hd_Book, po_Book, sa_Book⟩,
    ic_Book := ⟨⟨pg_Book, hd_Book, po_Book, sa_Book⟩, hc_Book, hn_class, ht_class, mo_Book, kit_self⟩,
    na_Book_start := na_Book_start,
    na_Book_end := na_Book_end,
    na_Book_links := na_Book_links,
    na_Book_past := na_Book_past,
    f_Network := f_Network,
    m_Network := PySem.W.mg_of X G a_Network,
    f_NothingToUndo := f_NothingToUndo,
    m_NothingToUndo := PySem.W.mg_of X G a_NothingToUndo,
    f_valid_name := f_valid_name,
    d_valid_name := PySem.W.fnOf "valid_name" "valid_name" (defArgs s_valid_name) (defBody s_valid_name) (defScope s_valid_name) .none kV_valid_name dc_valid_name pm_valid_name an_valid_name cd_valid_name ct_valid_name,
    F_valid_name := fun_mk (st := s_valid_name) l_valid_name c_valid_name k_valid_name,
    b_valid_name := (fun_mk (st := s_valid_name) l_valid_name c_valid_name k_valid_name).binds (ps := ["text"]) fun _ _ _ _ _ _ us hl => match us, hl with | [_], _ => rfl,
    m_valid_name := PySem.W.mg_of X G a_valid_name,
    f_check_ends := f_check_ends,
    d_check_ends := PySem.W.fnOf "check_ends" "check_ends" (defArgs s_check_ends) (defBody s_check_ends) (defScope s_check_ends) .none kV_check_ends dc_check_ends pm_check_ends an_check_ends cd_check_ends ct_check_ends,
    F_check_ends := fun_mk (st := s_check_ends) l_check_ends c_check_ends k_check_ends,
    b_check_ends := (fun_mk (st := s_check_ends) l_check_ends c_check_ends k_check_ends).binds (ps := ["start", "end"]) fun _ _ _ _ _ _ us hl => match us, hl with | [_, _], _ => rfl,
    m_check_ends := PySem.W.mg_of X G a_check_ends,
    f_start := f_start,
    d_start := PySem.W.fnOf "_law_start" "_law_start" (defArgs s_start) (defBody s_start) (defScope s_start) .none kV_start dc_start pm_start an_start cd_start ct_start,
    F_start := fun_mk (st := s_start) l_start c_start k_start,
    b_start := (fun_mk (st := s_start) l_start c_start k_start).binds (ps := ["_law_script"]) fun _ _ _ _ _ _ us hl => match us, hl with | [_], _ => rfl,
    m_start := PySem.W.mg_of X G a_start,
    f_take := f_take,
    d_take := PySem.W.fnOf "_law_take" "_law_take" (defArgs s_take) (defBody s_take) (defScope s_take) .none kV_take dc_take pm_take an_take cd_take ct_take,
    F_take := fun_mk (st := s_take) l_take c_take k_take,
    b_take := (fun_mk (st := s_take) l_take c_take k_take).binds (ps := ["_law_state", "_law_limit"]) fun _ _ _ _ _ _ us hl => match us, hl with | [_, _], _ => rfl,
    m_take := PySem.W.mg_of X G a_take,
    f_good := f_good,
    d_good := PySem.W.fnOf "_law_good" "_law_good" (defArgs s_good) (defBody s_good) (defScope s_good) .none kV_good dc_good pm_good an_good cd_good ct_good,
    F_good := fun_mk (st := s_good) l_good c_good k_good,
    b_good := (fun_mk (st := s_good) l_good c_good k_good).binds (ps := ["_law_text"]) fun _ _ _ _ _ _ us hl => match us, hl with | [_], _ => rfl,
    m_good := PySem.W.mg_of X G a_good,
    f_store := f_store,
    d_store := PySem.W.fnOf "_law_store" "_law_store" (defArgs s_store) (defBody s_store) (defScope s_store) .none kV_store dc_store pm_store an_store cd_store ct_store,
    F_store := fun_mk (st := s_store) l_store c_store k_store,
    b_store := (fun_mk (st := s_store) l_store c_store k_store).binds (ps := ["_law_book", "_law_name", "_law_ends_here"]) fun _ _ _ _ _ _ us hl => match us, hl with | [_, _, _], _ => rfl,
    m_store := PySem.W.mg_of X G a_store,
    f_drop := f_drop,
    d_drop := PySem.W.fnOf "_law_drop" "_law_drop" (defArgs s_drop) (defBody s_drop) (defScope s_drop) .none kV_drop dc_drop pm_drop an_drop cd_drop ct_drop,
    F_drop := fun_mk (st := s_drop) l_drop c_drop k_drop,
    b_drop := (fun_mk (st := s_drop) l_drop c_drop k_drop).binds (ps := ["_law_book", "_law_name"]) fun _ _ _ _ _ _ us hl => match us, hl with | [_, _], _ => rfl,
    m_drop := PySem.W.mg_of X G a_drop,
    f_undo := f_undo,
    d_undo := PySem.W.fnOf "_law_undo" "_law_undo" (defArgs s_undo) (defBody s_undo) (defScope s_undo) .none kV_undo dc_undo pm_undo an_undo cd_undo ct_undo,
    F_undo := fun_mk (st := s_undo) l_undo c_undo k_undo,
    b_undo := (fun_mk (st := s_undo) l_undo c_undo k_undo).binds (ps := ["_law_book"]) fun _ _ _ _ _ _ us hl => match us, hl with | [_], _ => rfl,
    m_undo := PySem.W.mg_of X G a_undo,
    f_due_store := f_due_store,
    d_due_store := PySem.W.fnOf "_law_due_store" "_law_due_store" (defArgs s_due_store) (defBody s_due_store) (defScope s_due_store) .none kV_due_store dc_due_store pm_due_store an_due_store cd_due_store ct_due_store,
    F_due_store := fun_mk (st := s_due_store) l_due_store c_due_store k_due_store,
    b_due_store := (fun_mk (st := s_due_store) l_due_store c_due_store k_due_store).binds (ps := ["_law_entries", "_law_name", "_law_ends_here"]) fun _ _ _ _ _ _ us hl => match us, hl with | [_, _, _], _ => rfl,
    m_due_store := PySem.W.mg_of X G a_due_store,
    f_stored := f_stored,
    d_stored := PySem.W.fnOf "_law_stored" "_law_stored" (defArgs s_stored) (defBody s_stored) (defScope s_stored) .none kV_stored dc_stored pm_stored an_stored cd_stored ct_stored,
    F_stored := fun_mk (st := s_stored) l_stored c_stored k_stored,
    b_stored := (fun_mk (st := s_stored) l_stored c_stored k_stored).binds (ps := ["_law_entries", "_law_name", "_law_ends_here"]) fun _ _ _ _ _ _ us hl => match us, hl with | [_, _, _], _ => rfl,
    m_stored := PySem.W.mg_of X G a_stored,
    f_missing := f_missing,
    d_missing := PySem.W.fnOf "_law_missing" "_law_missing" (defArgs s_missing) (defBody s_missing) (defScope s_missing) .none kV_missing dc_missing pm_missing an_missing cd_missing ct_missing,
    F_missing := fun_mk (st := s_missing) l_missing c_missing k_missing,
    b_missing := (fun_mk (st := s_missing) l_missing c_missing k_missing).binds (ps := ["_law_book", "_law_name"]) fun _ _ _ _ _ _ us hl => match us, hl with | [_, _], _ => rfl,
    m_missing := PySem.W.mg_of X G a_missing,
    f_shows := f_shows,
    d_shows := PySem.W.fnOf "_law_shows" "_law_shows" (defArgs s_shows) (defBody s_shows) (defScope s_shows) .none kV_shows dc_shows pm_shows an_shows cd_shows ct_shows,
    F_shows := fun_mk (st := s_shows) l_shows c_shows k_shows,
    b_shows := (fun_mk (st := s_shows) l_shows c_shows k_shows).binds (ps := ["_law_book", "_law_entries", "_law_words"]) fun _ _ _ _ _ _ us hl => match us, hl with | [_, _, _], _ => rfl,
    m_shows := PySem.W.mg_of X G a_shows,
    f_ends := f_ends,
    d_ends := PySem.W.fnOf "_law_ends" "_law_ends" (defArgs s_ends) (defBody s_ends) (defScope s_ends) .none kV_ends dc_ends pm_ends an_ends cd_ends ct_ends,
    F_ends := fun_mk (st := s_ends) l_ends c_ends k_ends,
    b_ends := (fun_mk (st := s_ends) l_ends c_ends k_ends).binds (ps := ["_law_state"]) fun _ _ _ _ _ _ us hl => match us, hl with | [_], _ => rfl,
    m_ends := PySem.W.mg_of X G a_ends,
    f_change := f_change,
    d_change := PySem.W.fnOf "_law_change" "_law_change" (defArgs s_change) (defBody s_change) (defScope s_change) .none kV_change dc_change pm_change an_change cd_change ct_change,
    F_change := fun_mk (st := s_change) l_change c_change k_change,
    b_change := (fun_mk (st := s_change) l_change c_change k_change).binds (ps := ["_law_state", "_law_book", "_law_past", "_law_words"]) fun _ _ _ _ _ _ us hl => match us, hl with | [_, _, _, _], _ => rfl,
    m_change := PySem.W.mg_of X G a_change,
    f_back := f_back,
    d_back := PySem.W.fnOf "_law_back" "_law_back" (defArgs s_back) (defBody s_back) (defScope s_back) .none kV_back dc_back pm_back an_back cd_back ct_back,
    F_back := fun_mk (st := s_back) l_back c_back k_back,
    b_back := (fun_mk (st := s_back) l_back c_back k_back).binds (ps := ["_law_book", "_law_past"]) fun _ _ _ _ _ _ us hl => match us, hl with | [_, _], _ => rfl,
    m_back := PySem.W.mg_of X G a_back,
    f_BadName_init := f_BadName_init,
    d_BadName_init := PySem.W.fnOf "__init__" "BadName.__init__" (defArgs s_BadName_init) (defBody s_BadName_init) (defScope s_BadName_init) .none kV_BadName_init dc_BadName_init pm_BadName_init an_BadName_init cd_BadName_init ct_BadName_init,
    F_BadName_init := fun_mk (st := s_BadName_init) l_BadName_init c_BadName_init k_BadName_init,
    b_BadName_init := (fun_mk (st := s_BadName_init) l_BadName_init c_BadName_init k_BadName_init).binds (ps := ["self", "name"]) fun _ _ _ _ _ _ us hl => match us, hl with | [_, _], _ => rfl,
    a_BadName_init := a_BadName_init,
    i_BadName_init := i_BadName_init,
    f_DuplicateName_init := f_DuplicateName_init,
    d_DuplicateName_init := PySem.W.fnOf "__init__" "DuplicateName.__init__" (defArgs s_DuplicateName_init) (defBody s_DuplicateName_init) (defScope s_DuplicateName_init) .none kV_DuplicateName_init dc_DuplicateName_init pm_DuplicateName_init an_DuplicateName_init cd_DuplicateName_init ct_DuplicateName_init,
    F_DuplicateName_init := fun_mk (st := s_DuplicateName_init) l_DuplicateName_init c_DuplicateName_init k_DuplicateName_init,
    b_DuplicateName_init := (fun_mk (st := s_DuplicateName_init) l_DuplicateName_init c_DuplicateName_init k_DuplicateName_init).binds (ps := ["self", "name"]) fun _ _ _ _ _ _ us hl => match us, hl with | [_, _], _ => rfl,
    a_DuplicateName_init := a_DuplicateName_init,
    i_DuplicateName_init := i_DuplicateName_init,
    f_UnknownName_init := f_UnknownName_init,
    d_UnknownName_init := PySem.W.fnOf "__init__" "UnknownName.__init__" (defArgs s_UnknownName_init) (defBody s_UnknownName_init) (defScope s_UnknownName_init) .none kV_UnknownName_init dc_UnknownName_init pm_UnknownName_init an_UnknownName_init cd_UnknownName_init ct_UnknownName_init,
    F_UnknownName_init := fun_mk (st := s_UnknownName_init) l_UnknownName_init c_UnknownName_init k_UnknownName_init,
    b_UnknownName_init := (fun_mk (st := s_UnknownName_init) l_UnknownName_init c_UnknownName_init k_UnknownName_init).binds (ps := ["self", "name"]) fun _ _ _ _ _ _ us hl => match us, hl with | [_, _], _ => rfl,
    a_UnknownName_init := a_UnknownName_init,
    i_UnknownName_init := i_UnknownName_init,
    f_BadCount_init := f_BadCount_init,
    d_BadCount_init := PySem.W.fnOf "__init__" "BadCount.__init__" (defArgs s_BadCount_init) (defBody s_BadCount_init) (defScope s_BadCount_init) .none kV_BadCount_init dc_BadCount_init pm_BadCount_init an_BadCount_init cd_BadCount_init ct_BadCount_init,
    F_BadCount_init := fun_mk (st := s_BadCount_init) l_BadCount_init c_BadCount_init k_BadCount_init,
    b_BadCount_init := (fun_mk (st := s_BadCount_init) l_BadCount_init c_BadCount_init k_BadCount_init).binds (ps := ["self", "count"]) fun _ _ _ _ _ _ us hl => match us, hl with | [_, _], _ => rfl,
    a_BadCount_init := a_BadCount_init,
    i_BadCount_init := i_BadCount_init,
    f_Book_init := f_Book_init,
    d_Book_init := PySem.W.fnOf "__init__" "Book.__init__" (defArgs s_Book_init) (defBody s_Book_init) (defScope s_Book_init) .none kV_Book_init dc_Book_init pm_Book_init an_Book_init cd_Book_init ct_Book_init,
    F_Book_init := fun_mk (st := s_Book_init) l_Book_init c_Book_init k_Book_init,
    b_Book_init := (fun_mk (st := s_Book_init) l_Book_init c_Book_init k_Book_init).binds (ps := ["self", "start", "end"]) fun _ _ _ _ _ _ us hl => match us, hl with | [_, _, _], _ => rfl,
    a_Book_init := a_Book_init,
    i_Book_init := i_Book_init,
    mk_Book := ⟨mk_Book, a_Book_init, i_Book_init, kc_Book⟩,
    f_Book_order := f_Book_order,
    d_Book_order := PySem.W.fnOf "order" "Book.order" (defArgs s_Book_order) (defBody s_Book_order) (defScope s_Book_order) .none kV_Book_order dc_Book_order pm_Book_order an_Book_order cd_Book_order ct_Book_order,
    F_Book_order := fun_mk (st := s_Book_order) l_Book_order c_Book_order k_Book_order,
    b_Book_order := (fun_mk (st := s_Book_order) l_Book_order c_Book_order k_Book_order).binds (ps := ["self"]) fun _ _ _ _ _ _ us hl => match us, hl with | [_], _ => rfl,
    p0_Book_order := p_Book_order,
    p_Book_order := ⟨a_Book_order, pg_Book_order, pt_Book_order, ⟨_, pr_Book_order⟩⟩,
    f_Book_drop := f_Book_drop,
    d_Book_drop := PySem.W.fnOf "drop" "Book.drop" (defArgs s_Book_drop) (defBody s_Book_drop) (defScope s_Book_drop) .none kV_Book_drop dc_Book_drop pm_Book_drop an_Book_drop cd_Book_drop ct_Book_drop,
    F_Book_drop := fun_mk (st := s_Book_drop) l_Book_drop c_Book_drop k_Book_drop,
    b_Book_drop := (fun_mk (st := s_Book_drop) l_Book_drop c_Book_drop k_Book_drop).binds (ps := ["self", "name"]) fun _ _ _ _ _ _ us hl => match us, hl with | [_, _], _ => rfl,
    a_Book_drop := a_Book_drop,
    i_Book_drop := i_Book_drop,
    f_Book_undo := f_Book_undo,
    d_Book_undo := PySem.W.fnOf "undo" "Book.undo" (defArgs s_Book_undo) (defBody s_Book_undo) (defScope s_Book_undo) .none kV_Book_undo dc_Book_undo pm_Book_undo an_Book_undo cd_Book_undo ct_Book_undo,
    F_Book_undo := fun_mk (st := s_Book_undo) l_Book_undo c_Book_undo k_Book_undo,
    b_Book_undo := (fun_mk (st := s_Book_undo) l_Book_undo c_Book_undo k_Book_undo).binds (ps := ["self"]) fun _ _ _ _ _ _ us hl => match us, hl with | [_], _ => rfl,
    a_Book_undo := a_Book_undo,
    i_Book_undo := i_Book_undo,
    f_Book_getitem := f_Book_getitem,
    d_Book_getitem := PySem.W.fnOf "__getitem__" "Book.__getitem__" (defArgs s_Book_getitem) (defBody s_Book_getitem) (defScope s_Book_getitem) .none kV_Book_getitem dc_Book_getitem pm_Book_getitem an_Book_getitem cd_Book_getitem ct_Book_getitem,
    F_Book_getitem := fun_mk (st := s_Book_getitem) l_Book_getitem c_Book_getitem k_Book_getitem,
    b_Book_getitem := (fun_mk (st := s_Book_getitem) l_Book_getitem c_Book_getitem k_Book_getitem).binds (ps := ["self", "name"]) fun _ _ _ _ _ _ us hl => match us, hl with | [_, _], _ => rfl,
    a_Book_getitem := a_Book_getitem,
    i_Book_getitem := i_Book_getitem,
    f_Book_setitem := f_Book_setitem,
    d_Book_setitem := PySem.W.fnOf "__setitem__" "Book.__setitem__" (defArgs s_Book_setitem) (defBody s_Book_setitem) (defScope s_Book_setitem) .none kV_Book_setitem dc_Book_setitem pm_Book_setitem an_Book_setitem cd_Book_setitem ct_Book_setitem,
    F_Book_setitem := fun_mk (st := s_Book_setitem) l_Book_setitem c_Book_setitem k_Book_setitem,
    b_Book_setitem := (fun_mk (st := s_Book_setitem) l_Book_setitem c_Book_setitem k_Book_setitem).binds (ps := ["self", "name", "ends"]) fun _ _ _ _ _ _ us hl => match us, hl with | [_, _, _], _ => rfl,
    a_Book_setitem := a_Book_setitem,
    i_Book_setitem := i_Book_setitem,
    f_Book_contains := f_Book_contains,
    d_Book_contains := PySem.W.fnOf "__contains__" "Book.__contains__" (defArgs s_Book_contains) (defBody s_Book_contains) (defScope s_Book_contains) .none kV_Book_contains dc_Book_contains pm_Book_contains an_Book_contains cd_Book_contains ct_Book_contains,
    F_Book_contains := fun_mk (st := s_Book_contains) l_Book_contains c_Book_contains k_Book_contains,
    b_Book_contains := (fun_mk (st := s_Book_contains) l_Book_contains c_Book_contains k_Book_contains).binds (ps := ["self", "name"]) fun _ _ _ _ _ _ us hl => match us, hl with | [_, _], _ => rfl,
    a_Book_contains := a_Book_contains,
    i_Book_contains := i_Book_contains,
    f_Book_len := f_Book_len,
    d_Book_len := PySem.W.fnOf "__len__" "Book.__len__" (defArgs s_Book_len) (defBody s_Book_len) (defScope s_Book_len) .none kV_Book_len dc_Book_len pm_Book_len an_Book_len cd_Book_len ct_Book_len,
    F_Book_len := fun_mk (st := s_Book_len) l_Book_len c_Book_len k_Book_len,
    b_Book_len := (fun_mk (st := s_Book_len) l_Book_len c_Book_len k_Book_len).binds (ps := ["self"]) fun _ _ _ _ _ _ us hl => match us, hl with | [_], _ => rfl,
    a_Book_len := a_Book_len,
    i_Book_len := i_Book_len,
    me_Book_drop := ⟨a_Book_drop, i_Book_drop, k_Book_drop⟩,
    me_Book_undo := ⟨a_Book_undo, i_Book_undo, k_Book_undo⟩,
    cr_Network := ⟨rd_Network, ga_Network⟩,
    tv_Network_MOST_LINKS := tv_Network_MOST_LINKS,
    cv_Network_MOST_LINKS := ⟨cw_Network_MOST_LINKS, ⟨_, rfl⟩⟩,
    dn_Book_getitem := ⟨a_Book_getitem, i_Book_getitem, fi_Book_getitem, ns_Book_getitem⟩,
    dn_Book_setitem := ⟨a_Book_setitem, i_Book_setitem, fi_Book_setitem, ns_Book_setitem⟩,
    dn_Book_contains := ⟨a_Book_contains, i_Book_contains, fi_Book_contains, ns_Book_contains⟩,
    dn_Book_len := ⟨a_Book_len, i_Book_len, fi_Book_len, ns_Book_len⟩,
    kbm_Book_undo := kbinds_alone fun _ u => .of_eq rfl,
    ox_BadName := ⟨x_BadName, xs_BadName, xe_BadName, xt_BadName, xk_BadName⟩,
    ix_BadName := a_BadName_init,
    tx_BadName := xf_BadName,
    xf_BadName := ⟨xg_BadName, xh_BadName, xe_BadName, xd_BadName⟩,
    ec_BadName := ⟨xg_BadName, xh_BadName, xe_BadName, xd_BadName, xc_BadName, hn_class, ht_class, xm_BadName⟩,
    no_BadName_name := no_BadName_name,
    ox_DuplicateName := ⟨x_DuplicateName, xs_DuplicateName, xe_DuplicateName, xt_DuplicateName, xk_DuplicateName⟩,
    ix_DuplicateName := a_DuplicateName_init,
    tx_DuplicateName := xf_DuplicateName,
    xf_DuplicateName := ⟨xg_DuplicateName, xh_DuplicateName, xe_DuplicateName, xd_DuplicateName⟩,
    ec_DuplicateName := ⟨xg_DuplicateName, xh_DuplicateName, xe_DuplicateName, xd_DuplicateName, xc_DuplicateName, hn_class, ht_class, xm_DuplicateName⟩,
    no_DuplicateName_name := no_DuplicateName_name,
    ox_UnknownName := ⟨x_UnknownName, xs_UnknownName, xe_UnknownName, xt_UnknownName, xk_UnknownName⟩,
    ix_UnknownName := a_UnknownName_init,
    tx_UnknownName := xf_UnknownName,
    xf_UnknownName := ⟨xg_UnknownName, xh_UnknownName, xe_UnknownName, xd_UnknownName⟩,
    ec_UnknownName := ⟨xg_UnknownName, xh_UnknownName, xe_UnknownName, xd_UnknownName, xc_UnknownName, hn_class, ht_class, xm_UnknownName⟩,
    no_UnknownName_name := no_UnknownName_name,
    ox_BadCount := ⟨x_BadCount, xs_BadCount, xe_BadCount, xt_BadCount, xk_BadCount⟩,
    ix_BadCount := a_BadCount_init,
    tx_BadCount := xf_BadCount,
    xf_BadCount := ⟨xg_BadCount, xh_BadCount, xe_BadCount, xd_BadCount⟩,
    ec_BadCount := ⟨xg_BadCount, xh_BadCount, xe_BadCount, xd_BadCount, xc_BadCount, hn_class, ht_class, xm_BadCount⟩,
    no_BadCount_count := no_BadCount_count,
    xq_NothingToUndo := xq_NothingToUndo,
    xk_NothingToUndo := xk_NothingToUndo,
    xt_NothingToUndo := xt_NothingToUndo,
    ec_NothingToUndo := ⟨xg_NothingToUndo, xh_NothingToUndo, xe_NothingToUndo, xd_NothingToUndo, xc_NothingToUndo, hn_class, ht_class, xm_NothingToUndo⟩,
    es_BadName_BadName := es_BadName_BadName,
    xi_BadName_BadName := xi_BadName,
    xt_BadName_BadName := xt_BadName,
    es_UnknownName_UnknownName := es_UnknownName_UnknownName,
    xi_UnknownName_UnknownName := xi_UnknownName,
    xt_UnknownName_UnknownName := xt_UnknownName,
    es_BadCount_BadCount := es_BadCount_BadCount,
    xi_BadCount_BadCount := xi_BadCount,
    xt_BadCount_BadCount := xt_BadCount,
    es_BadCount_BadName := es_BadCount_BadName,
    neq_BadCount_BadName := of_decide_eq_false nq_BadCount_BadName,
    xi_BadCount_BadName := xi_BadName,
    xt_BadCount_BadName := xt_BadName,
    es_NothingToUndo_NothingToUndo := es_NothingToUndo_NothingToUndo,
    xi_NothingToUndo_NothingToUndo := xi_NothingToUndo,
    xt_NothingToUndo_NothingToUndo := xt_NothingToUndo,
    t_DIGITS := t_DIGITS,
    c_DIGITS := PySem.W.mg_of X G q_DIGITS,
    t_LETTERS := t_LETTERS,
    c_LETTERS := PySem.W.mg_of X G q_LETTERS,
    t_LONGEST_NAME := t_LONGEST_NAME,
    c_LONGEST_NAME := PySem.W.mg_of X G q_LONGEST_NAME,
    n_abs := PySem.W.mg_none_of X G z_abs,
    n_all := PySem.W.mg_none_of X G z_all,
    n_int := PySem.W.mg_none_of X G z_int,
    n_len := PySem.W.mg_none_of X G z_len,
    n_max := PySem.W.mg_none_of X G z_max,
    n_range := PySem.W.mg_none_of X G z_range,
    n_tuple := PySem.W.mg_none_of X G z_tuple }
  exact ⟨PySem.W.fnOf "law" "law" (defArgs s_law) (defBody s_law) (defScope s_law) .none kV_law dc_law pm_law an_law cd_law ct_law, fun s v => .of_eq rfl, fun base _ _ => ok_law T (fun_mk (st := s_law) l_law c_law k_law)⟩
end My
open PySem PySem.W PyProof.Rows
set_option maxRecDepth 100000 in
set_option maxHeartbeats 0 in
theorem PySem.Challenge.cw_extralink_k94_undo_all_holds : PySem.Challenge.rw_extralink_k94_undo_all.Holds := by
  w_on; o_law; k_head; (case hw => w_witness2)
  k_fill
  refine L2.walk_of (l := PySem.Challenge.rw_extralink_k94_undo_all) (n := 63) (k := 7) (x := "_law_script") (CX := fun _ => L2.CX0) (sp := fun w => My.spLaw _) rfl (by decide) rfl ⟨rfl, by decide, by decide⟩ (fun w h Y => PySem.W.kIn_of Y) ?F (fun _ _ a ns hl _ hS => ⟨a, ns, rfl, hS, hl, fun _ => rfl⟩) (fun _ _ _ _ _ h => h)
  case F =>
    intro w mg fa h KX G hmg
    refine' My.all_mk KX G hmg ?a_BadName ?a_DuplicateName ?a_UnknownName ?a_BadCount ?a_Book ?pg_Book ?hd_Book ?po_Book ?sa_Book ?mk_Book ?kc_Book ?hc_Book ?mo_Book ?ic_Book ?ty_Book ?hn_class ?ht_class ?na_Book_start ?na_Book_end ?na_Book_links ?na_Book_past ?a_Network ?a_NothingToUndo ?a_valid_name ?l_valid_name ?c_valid_name ?k_valid_name ?a_check_ends ?l_check_ends ?c_check_ends ?k_check_ends ?a_start ?l_start ?c_start ?k_start ?a_take ?l_take ?c_take ?k_take ?a_good ?l_good ?c_good ?k_good ?a_store ?l_store ?c_store ?k_store ?a_drop ?l_drop ?c_drop ?k_drop ?a_undo ?l_undo ?c_undo ?k_undo ?a_due_store ?l_due_store ?c_due_store ?k_due_store ?a_stored ?l_stored ?c_stored ?k_stored ?a_missing ?l_missing ?c_missing ?k_missing ?a_shows ?l_shows ?c_shows ?k_shows ?a_ends ?l_ends ?c_ends ?k_ends ?a_change ?l_change ?c_change ?k_change ?a_back ?l_back ?c_back ?k_back ?a_BadName_init ?i_BadName_init ?l_BadName_init ?c_BadName_init ?k_BadName_init ?a_DuplicateName_init ?i_DuplicateName_init ?l_DuplicateName_init ?c_DuplicateName_init ?k_DuplicateName_init ?a_UnknownName_init ?i_UnknownName_init ?l_UnknownName_init ?c_UnknownName_init ?k_UnknownName_init ?a_BadCount_init ?i_BadCount_init ?l_BadCount_init ?c_BadCount_init ?k_BadCount_init ?a_Book_init ?i_Book_init ?l_Book_init ?c_Book_init ?k_Book_init ?a_Book_order ?pg_Book_order ?pt_Book_order ?pr_Book_order ?l_Book_order ?c_Book_order ?k_Book_order ?a_Book_drop ?i_Book_drop ?l_Book_drop ?c_Book_drop ?k_Book_drop ?a_Book_undo ?i_Book_undo ?l_Book_undo ?c_Book_undo ?k_Book_undo ?a_Book_getitem ?i_Book_getitem ?l_Book_getitem ?c_Book_getitem ?k_Book_getitem ?a_Book_setitem ?i_Book_setitem ?l_Book_setitem ?c_Book_setitem ?k_Book_setitem ?a_Book_contains ?i_Book_contains ?l_Book_contains ?c_Book_contains ?k_Book_contains ?a_Book_len ?i_Book_len ?l_Book_len ?c_Book_len ?k_Book_len ?rd_Network ?ga_Network ?cw_Network_MOST_LINKS ?fi_Book_getitem ?ns_Book_getitem ?fi_Book_setitem ?ns_Book_setitem ?fi_Book_contains ?ns_Book_contains ?fi_Book_len ?ns_Book_len ?x_BadName ?xs_BadName ?xe_BadName ?xt_BadName ?xk_BadName ?xg_BadName ?xh_BadName ?xd_BadName ?xc_BadName ?xm_BadName ?xi_BadName ?xf_BadName ?no_BadName_name ?x_DuplicateName ?xs_DuplicateName ?xe_DuplicateName ?xt_DuplicateName ?xk_DuplicateName ?xg_DuplicateName ?xh_DuplicateName ?xd_DuplicateName ?xc_DuplicateName ?xm_DuplicateName ?xi_DuplicateName ?xf_DuplicateName ?no_DuplicateName_name ?x_UnknownName ?xs_UnknownName ?xe_UnknownName ?xt_UnknownName ?xk_UnknownName ?xg_UnknownName ?xh_UnknownName ?xd_UnknownName ?xc_UnknownName ?xm_UnknownName ?xi_UnknownName ?xf_UnknownName ?no_UnknownName_name ?x_BadCount ?xs_BadCount ?xe_BadCount ?xt_BadCount ?xk_BadCount ?xg_BadCount ?xh_BadCount ?xd_BadCount ?xc_BadCount ?xm_BadCount ?xi_BadCount ?xf_BadCount ?no_BadCount_count ?xe_NothingToUndo ?xt_NothingToUndo ?xk_NothingToUndo ?xg_NothingToUndo ?xh_NothingToUndo ?xd_NothingToUndo ?xc_NothingToUndo ?xm_NothingToUndo ?xi_NothingToUndo ?xq_NothingToUndo ?es_BadName_BadName ?es_UnknownName_UnknownName ?es_BadCount_BadCount ?es_BadCount_BadName ?nq_BadCount_BadName ?es_NothingToUndo_NothingToUndo ?q_DIGITS ?q_LETTERS ?q_LONGEST_NAME ?z_abs ?z_all ?z_int ?z_len ?z_max ?z_range ?z_tuple ?a_law ?l_law ?c_law ?k_law
    (case a_BadName => k_is)
    (case a_DuplicateName => k_is)
    (case a_UnknownName => k_is)
    (case a_BadCount => k_is)
    (case a_Book => k_is)
    (case pg_Book => k_is)
    (case hd_Book => k_is)
    (case po_Book => k_is)
    (case sa_Book => k_is)
    (case mk_Book => k_is)
    (case kc_Book => k_is)
    (case hc_Book => k_is)
    (case mo_Book => k_is)
    (case ic_Book => k_is)
    (case ty_Book => k_is)
    (case hn_class => k_is)
    (case ht_class => k_is)
    (case na_Book_start => k_is)
    (case na_Book_end => k_is)
    (case na_Book_links => k_is)
    (case na_Book_past => k_is)
    (case a_Network => k_is)
    (case a_NothingToUndo => k_is)
    (case a_valid_name => k_is)
    (case l_valid_name => k_is)
    (case c_valid_name => k_is)
    (case k_valid_name => k_is)
    (case a_check_ends => k_is)
    (case l_check_ends => k_is)
    (case c_check_ends => k_is)
    (case k_check_ends => k_is)
    (case a_start => k_is)
    (case l_start => k_is)
    (case c_start => k_is)
    (case k_start => k_is)
    (case a_take => k_is)
    (case l_take => k_is)
    (case c_take => k_is)
    (case k_take => k_is)
    (case a_good => k_is)
    (case l_good => k_is)
    (case c_good => k_is)
    (case k_good => k_is)
    (case a_store => k_is)
    (case l_store => k_is)
    (case c_store => k_is)
    (case k_store => k_is)
    (case a_drop => k_is)
    (case l_drop => k_is)
    (case c_drop => k_is)
    (case k_drop => k_is)
    (case a_undo => k_is)
    (case l_undo => k_is)
    (case c_undo => k_is)
    (case k_undo => k_is)
    (case a_due_store => k_is)
    (case l_due_store => k_is)
    (case c_due_store => k_is)
    (case k_due_store => k_is)
    (case a_stored => k_is)
    (case l_stored => k_is)
    (case c_stored => k_is)
    (case k_stored => k_is)
    (case a_missing => k_is)
    (case l_missing => k_is)
    (case c_missing => k_is)
    (case k_missing => k_is)
    (case a_shows => k_is)
    (case l_shows => k_is)
    (case c_shows => k_is)
    (case k_shows => k_is)
    (case a_ends => k_is)
    (case l_ends => k_is)
    (case c_ends => k_is)
    (case k_ends => k_is)
    (case a_change => k_is)
    (case l_change => k_is)
    (case c_change => k_is)
    (case k_change => k_is)
    (case a_back => k_is)
    (case l_back => k_is)
    (case c_back => k_is)
    (case k_back => k_is)
    (case a_BadName_init => k_is)
    (case i_BadName_init => k_is)
    (case l_BadName_init => k_is)
    (case c_BadName_init => k_is)
    (case k_BadName_init => k_is)
    (case a_DuplicateName_init => k_is)
    (case i_DuplicateName_init => k_is)
    (case l_DuplicateName_init => k_is)
    (case c_DuplicateName_init => k_is)
    (case k_DuplicateName_init => k_is)
    (case a_UnknownName_init => k_is)
    (case i_UnknownName_init => k_is)
    (case l_UnknownName_init => k_is)
    (case c_UnknownName_init => k_is)
    (case k_UnknownName_init => k_is)
    (case a_BadCount_init => k_is)
    (case i_BadCount_init => k_is)
    (case l_BadCount_init => k_is)
    (case c_BadCount_init => k_is)
    (case k_BadCount_init => k_is)
    (case a_Book_init => k_is)
    (case i_Book_init => k_is)
    (case l_Book_init => k_is)
    (case c_Book_init => k_is)
    (case k_Book_init => k_is)
    (case a_Book_order => k_is)
    (case pg_Book_order => k_is)
    (case pt_Book_order => k_is)
    (case pr_Book_order => k_is)
    (case l_Book_order => k_is)
    (case c_Book_order => k_is)
    (case k_Book_order => k_is)
    (case a_Book_drop => k_is)
    (case i_Book_drop => k_is)
    (case l_Book_drop => k_is)
    (case c_Book_drop => k_is)
    (case k_Book_drop => k_is)
    (case a_Book_undo => k_is)
    (case i_Book_undo => k_is)
    (case l_Book_undo => k_is)
    (case c_Book_undo => k_is)
    (case k_Book_undo => k_is)
    (case a_Book_getitem => k_is)
    (case i_Book_getitem => k_is)
    (case l_Book_getitem => k_is)
    (case c_Book_getitem => k_is)
    (case k_Book_getitem => k_is)
    (case a_Book_setitem => k_is)
    (case i_Book_setitem => k_is)
    (case l_Book_setitem => k_is)
    (case c_Book_setitem => k_is)
    (case k_Book_setitem => k_is)
    (case a_Book_contains => k_is)
    (case i_Book_contains => k_is)
    (case l_Book_contains => k_is)
    (case c_Book_contains => k_is)
    (case k_Book_contains => k_is)
    (case a_Book_len => k_is)
    (case i_Book_len => k_is)
    (case l_Book_len => k_is)
    (case c_Book_len => k_is)
    (case k_Book_len => k_is)
    (case rd_Network => k_is)
    (case ga_Network => k_is)
    (case cw_Network_MOST_LINKS => k_is)
    (case fi_Book_getitem => k_is)
    (case ns_Book_getitem => k_is)
    (case fi_Book_setitem => k_is)
    (case ns_Book_setitem => k_is)
    (case fi_Book_contains => k_is)
    (case ns_Book_contains => k_is)
    (case fi_Book_len => k_is)
    (case ns_Book_len => k_is)
    (case x_BadName => exact ⟨_, _, _, _, _, _, _, _, _, _, _, _, _, _, _, by k_is, by decide +kernel⟩)
    (case xs_BadName => k_is)
    (case xe_BadName => k_is)
    (case xt_BadName => k_is)
    (case xk_BadName => k_is)
    (case xg_BadName => k_is)
    (case xh_BadName => k_is)
    (case xd_BadName => k_is)
    (case xc_BadName => k_is)
    (case xm_BadName => k_is)
    (case xi_BadName => k_is)
    (case xf_BadName => k_is)
    (case no_BadName_name => k_is)
    (case x_DuplicateName => exact ⟨_, _, _, _, _, _, _, _, _, _, _, _, _, _, _, by k_is, by decide +kernel⟩)
    (case xs_DuplicateName => k_is)
    (case xe_DuplicateName => k_is)
    (case xt_DuplicateName => k_is)
    (case xk_DuplicateName => k_is)
    (case xg_DuplicateName => k_is)
    (case xh_DuplicateName => k_is)
    (case xd_DuplicateName => k_is)
    (case xc_DuplicateName => k_is)
    (case xm_DuplicateName => k_is)
    (case xi_DuplicateName => k_is)
    (case xf_DuplicateName => k_is)
    (case no_DuplicateName_name => k_is)
    (case x_UnknownName => exact ⟨_, _, _, _, _, _, _, _, _, _, _, _, _, _, _, by k_is, by decide +kernel⟩)
    (case xs_UnknownName => k_is)
    (case xe_UnknownName => k_is)
    (case xt_UnknownName => k_is)
    (case xk_UnknownName => k_is)
    (case xg_UnknownName => k_is)
    (case xh_UnknownName => k_is)
    (case xd_UnknownName => k_is)
    (case xc_UnknownName => k_is)
    (case xm_UnknownName => k_is)
    (case xi_UnknownName => k_is)
    (case xf_UnknownName => k_is)
    (case no_UnknownName_name => k_is)
    (case x_BadCount => exact ⟨_, _, _, _, _, _, _, _, _, _, _, _, _, _, _, by k_is, by decide +kernel⟩)
    (case xs_BadCount => k_is)
    (case xe_BadCount => k_is)
    (case xt_BadCount => k_is)
    (case xk_BadCount => k_is)
    (case xg_BadCount => k_is)
    (case xh_BadCount => k_is)
    (case xd_BadCount => k_is)
    (case xc_BadCount => k_is)
    (case xm_BadCount => k_is)
    (case xi_BadCount => k_is)
    (case xf_BadCount => k_is)
    (case no_BadCount_count => k_is)
    (case xe_NothingToUndo => k_is)
    (case xt_NothingToUndo => k_is)
    (case xk_NothingToUndo => k_is)
    (case xg_NothingToUndo => k_is)
    (case xh_NothingToUndo => k_is)
    (case xd_NothingToUndo => k_is)
    (case xc_NothingToUndo => k_is)
    (case xm_NothingToUndo => k_is)
    (case xi_NothingToUndo => k_is)
    (case xq_NothingToUndo => k_exc)
    (case es_BadName_BadName => k_is)
    (case es_UnknownName_UnknownName => k_is)
    (case es_BadCount_BadCount => k_is)
    (case es_BadCount_BadName => k_is)
    (case nq_BadCount_BadName => decide)
    (case es_NothingToUndo_NothingToUndo => k_is)
    (case q_DIGITS => k_is)
    (case q_LETTERS => k_is)
    (case q_LONGEST_NAME => k_is)
    (case z_abs => k_is)
    (case z_all => k_is)
    (case z_int => k_is)
    (case z_len => k_is)
    (case z_max => k_is)
    (case z_range => k_is)
    (case z_tuple => k_is)
    (case a_law => k_is)
    (case l_law => k_is)
    (case c_law => k_is)
    (case k_law => k_is)
