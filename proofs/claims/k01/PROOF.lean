import PyProof.Rows.All
import Wide.All
import OpenK.AllK
import Wide.FinOn
import HandS.Base
import HandS.Call
import HandS.List
import HandS.Comp
import HandS.Ends
import HandS.Dict
import HandS.Iter
import HandS.Text
import HandS.Words
import HandS.WordsList
import HandS.WordsDict
import HandS.Wide
import HandS.IsInst
import HandS.Codes
import PySem.Challenge.RW_extralink_k01_valid_names
set_option Elab.async false
set_option linter.all false
set_option maxRecDepth 100000
/-! My own rules beside the hand layer's: an item of a list read for a store in place, a text backwards, a call by keywords alone; what is said of lists of ints as data. -/
namespace My
open PySem PySem.Spec PyProof.Rows L2

/-! ### rules -/
section
variable {X : Cx}
def rGetL (K : PySem.W.Frag) : V → V → Hp → VK → Prop := fun x y H Q => ∃ p xs i v, x = .ref p ∧ y = .int i ∧ SqL K H p xs ∧ 0 ≤ i ∧ atI xs i = some v ∧ Q v H
theorem get_list : PGet X (rGetL X.K) := by
  intro pins s σ H o i ov iv Q I ro ri h
  obtain ⟨p, xs, k, z, rfl, rfl, hq, h0, he, q⟩ := h
  cases ro
  obtain ⟨t, rfl⟩ := ri
  obtain ⟨its, r, pl, hz⟩ := I.list hq
  obtain ⟨j, h1, h2, h3, h4, h5⟩ := atI_get he
  obtain ⟨w, ew, rw'⟩ := r.get h2
  have hl := r.length
  have hn := line63
  have hj : k.toNat = j := by
    rw [seqIndex_of h0 h5] at h1
    exact Option.some.inj h1
  exact wpAny_getItem_list pl.isList h0 (by omega) (by rw [hj]; simpa using ew) ⟨z, H, I, rw', q⟩

def revS (z : Str) : Str := ⟨z.cps.reverse⟩
def tRevS (te : TE) : TE := fun σ H Q => te σ H fun x H1 => ∃ z, x = .str z ∧ z.length ≤ sizeLine ∧ Q (.str (revS z)) H1
theorem range_back (n : Nat) : sliceRange ((n : Int) - 1) (-1) (-1) = (List.range n).map fun k => n - 1 - k := by
  unfold sliceRange
  have e : (if (-1 : Int) > 0 then (if ((n : Int) - 1) < -1 then (-1 - ((n : Int) - 1) + -1 - 1) / -1 else 0) else (if ((n : Int) - 1) > -1 then (((n : Int) - 1) - -1 - -1 - 1) / (- -1) else 0)).toNat = n := by
    rw [if_neg (by decide)]
    by_cases h : ((n : Int) - 1) > -1
    · rw [if_pos h, show (- -1 : Int) = 1 by decide, Int.ediv_one]
      omega
    · rw [if_neg h]
      omega
  show List.map (fun (k : Nat) => (((n : Int) - 1) + (-1) * (k : Int)).toNat) (List.range (Int.toNat (if (-1 : Int) > 0 then (if ((n : Int) - 1) < -1 then (-1 - ((n : Int) - 1) + -1 - 1) / -1 else 0) else (if ((n : Int) - 1) > -1 then (((n : Int) - 1) - -1 - -1 - 1) / (- -1) else 0)))) = _
  rw [e]
  refine List.map_congr_left fun k hk => ?_
  have := List.mem_range.mp hk
  omega
theorem filterMap_back (z : Array Nat) : (((List.range z.size).map fun k => z.size - 1 - k).filterMap (z[·]?)) = z.toList.reverse := by
  refine List.ext_getElem? fun i => ?_
  have e : (((List.range z.size).map fun k => z.size - 1 - k).filterMap (z[·]?)) = (List.range z.size).map fun k => z.getD (z.size - 1 - k) 0 := by
    rw [List.filterMap_map]
    have : ∀ l : List Nat, (∀ k ∈ l, k < z.size) → l.filterMap ((fun x => z[x]?) ∘ fun k => z.size - 1 - k) = l.map fun k => z.getD (z.size - 1 - k) 0 := by
      intro l
      induction l with
      | nil => intro _; rfl
      | cons a r ih =>
        intro h
        have ha := h a List.mem_cons_self
        have hb : z.size - 1 - a < z.size := by omega
        rw [List.filterMap_cons]
        have e1 : ((fun x => z[x]?) ∘ fun k => z.size - 1 - k) a = some (z.getD (z.size - 1 - a) 0) := by
          show z[z.size - 1 - a]? = _
          rw [Array.getElem?_eq_getElem hb]
          simp [Array.getD, hb]
        rw [e1, List.map_cons, ih fun k hk => h k (List.mem_cons_of_mem _ hk)]
    exact this _ fun k hk => List.mem_range.mp hk
  rw [e, List.getElem?_map]
  by_cases hi : i < z.size
  · rw [List.getElem?_range hi, List.getElem?_reverse (by simpa using hi)]
    have hb : z.size - 1 - i < z.size := by omega
    simp [Array.getD, hb]
  · rw [List.getElem?_eq_none (by simpa using hi), List.getElem?_eq_none (by simpa using hi)]
    rfl
theorem pe_revS {e : Expr} {te : TE} {k : Nat} {p1 p2 p3 pos : Pos} (he : PE X e te) : PE X (.Subscript e (.Slice none none (some (.UnaryOp .USub (.Constant (.int 1) k p1) p2)) p3) pos) (tRevS te) := by
  refine ⟨fun pins s σ H Q I h => ?_⟩
  refine Subscript_ (thn (he.run pins s σ H _ I h) fun v s1 ⟨x, H1, I1, r1, q1⟩ => ?_)
  obtain ⟨z, ex, hz, q⟩ := q1
  subst ex
  obtain ⟨tz, rfl⟩ := r1
  have hst : PO X (some (.UnaryOp .USub (.Constant (.int 1) k p1) p2)) (tPart (tUn (rU fun i => .int (-i)) (tC (.int 1)))) := po_some (pe_un un_neg pe_int)
  refine wpAny_Slice (thn (po_none.run pins s1 σ H1 (fun o H2 => o = none ∧ H2 = H1) I1 ⟨rfl, rfl⟩) fun vl s2 ⟨l, H2, I2, pl, el, e2⟩ => ?_)
  subst el e2
  refine thn (po_none.run pins s2 σ H2 (fun o H3 => o = none ∧ H3 = H2) I2 ⟨rfl, rfl⟩) fun vu s3 ⟨u, H3, I3, pu, eu, e3⟩ => ?_
  subst eu e3
  refine thn (hst.run pins s3 σ H3 (fun o H4 => o = some (-1) ∧ H4 = H3) I3 ⟨1, rfl, -1, rfl, rfl, rfl⟩) fun vs s4 ⟨o, H4, I4, ps, eo, e4⟩ => ?_
  subst eo e4
  have I5 : Inv X pins σ H4 { s4 with heap := s4.heap.push { cls := .type "slice", data := .fields #[vl, vu, vs] } } := I4.kept (t' := s4.toks) fun b ob q => Heap.get?_push_of_some _ q
  obtain ⟨l, rfl, el⟩ := IsPart.raw pl
  obtain ⟨u, rfl, eu⟩ := IsPart.raw pu
  obtain ⟨st, rfl, est⟩ := IsPart.raw ps
  cases l with
  | some _ => cases el
  | none =>
  cases u with
  | some _ => cases eu
  | none =>
  cases st with
  | none => cases est
  | some st =>
  obtain ⟨k1, tk⟩ := st
  have ek : k1 = -1 := Option.some.inj est
  subst ek
  show wpAny (model X.prog X.w) X.A (subscriptTail e (.Slice none none (some (.UnaryOp .USub (.Constant (.int 1) k p1) p2)) p3) (.str z tz) (.ref s4.heap.objs.size)) (EP X pins σ Q) X.xe { s4 with heap := s4.heap.push { cls := .type "slice", data := .fields #[.none, .none, .int (-1) tk] } }
  refine tail_any (ops := [.ref s4.heap.objs.size, .str z tz]) (typeIs_str _ _ _) F.slot_str_getitem.lookup ?_ (by with_unfolding_all rfl)
  refine wpAny_getItem_str_slice (l := none) (u := none) (st := some (-1, tk)) ⟨_, Heap.get?_push_size _ rfl, rfl, rfl⟩ rfl ?_
  have hp : slicePicked z none none (some (-1, tk)) = (List.range z.cps.size).map fun k => z.cps.size - 1 - k := by
    show Builtin.Str.strSliceIndices none none (-1) z.length = _
    unfold Builtin.Str.strSliceIndices
    exact range_back z.length
  have hr : (⟨((slicePicked z none none (some (-1, tk))).filterMap (z.cps[·]?)).toArray⟩ : Str) = revS z := by
    rw [hp, filterMap_back]
    unfold revS
    congr 1
    apply Array.ext'
    simp
  show Made.post (if ((-1 : Int) == 1 && (slicePicked z none none (some (-1, tk))).length == z.length) = true then Made.val (.str z tz) else Made.str ⟨((slicePicked z none none (some (-1, tk))).filterMap (z.cps[·]?)).toArray⟩) (EP X pins σ Q) _
  rw [if_neg (by rw [show ((-1 : Int) == 1) = false by decide, Bool.false_and]; exact Bool.false_ne_true), hr]
  refine ⟨?_, .str _, H4, I5.tok _, ⟨_, rfl⟩, q⟩
  show (revS z).cps.size ≤ sizeLine
  unfold revS
  rw [Array.size_reverse]
  exact hz

section
variable {CX : CXT} {k : Nat} {f : Addr} {fd : FuncData} {ps ks : List Str} {sp : Sp} {E : XK} {x : Str} {p pos : Pos} {kws : List Keyword} {tk : TA} {g : List Value → List Value → List Value} {gV : List V → List V → List V}
def tCallK0 (sp : Sp) (gV : List V → List V → List V) (E : XK) (tk : TA) : TE := fun σ H Q => tk σ H fun zs H2 => sp (gV [] zs) H2 Q E
/-- f(k = v, ..), nothing by place -/
theorem pe_callK0 (F : FnOk X.prog X.w X.K X.mg X.base CX k f fd ps sp) (hr : Room k X.A) (hg : Gl X x) (hm : X.mg x = some (.ref f)) (hk : PySem.W.keepIn X.K (.ref f) = true) (hb : KBinds X.K fd ps ks g gV) (hx : Passes CX X E)
    (hkw : PK X kws tk) (hall : (backToKw pos (keywordEach kws X.env)).all (·.1.isSome) = true := by rfl) (hks : (backToKw pos (keywordEach kws X.env)).filterMap (·.1) = ks := by rfl)
    (hdb : (x == ("__debug__" : Str)) = false := by decide)
    (hpl : ((backTo pos (starEach [] X.env)).any (·.1) || (backToKw pos (keywordEach kws X.env)).any (·.1.isNone)) = false := by rfl) :
    PE X (.Call (.Name x p) [] kws pos) (tCallK0 sp gV E tk) := by
  refine ⟨fun pins s σ H Q I h => ?_⟩
  refine wpAny_Call_Name_kw (ld_glob I hg hm ?_ hdb)
  refine PySem.W.callWith_KW0 (h₀ := X.base) I.ok.mod.kin hk hall (thn (hkw.run pos pins s σ H _ I h) fun ws s2 ⟨zs, H2, I2, rz, q2⟩ => ⟨I2.kIn, ?_⟩) hpl
  rw [hks]
  exact run_fnk (us := []) (vs := []) F hr hb hx I2 .nil rz q2
end
end

/-- all parameters by keyword, in their order -/
def kAll {α : Type} : List α → List α → List α
  | [], zs => zs
  | _ :: _, _ => []
theorem kbinds_all {K : PySem.W.Frag} {fd : FuncData} {ps ks : List Str} (h0 : 0 < ps.length) (h : ∀ (s : Shared) (ws : List Value), K.In s.heap → ws.length = ps.length → BindsTo s fd ⟨[], ks.zip ws⟩ (ps.zip ws)) : KBinds K fd ps ks kAll kAll where
  to := fun s us ws hK hl => by
    cases us with
    | nil => exact h s ws hK hl
    | cons u r =>
      have z : (0 : Nat) = ps.length := hl
      omega
  rel := fun {vs us zs ws} r rz => by
    cases r with
    | nil => exact rz
    | cons _ _ => exact .nil

/-! ### places -/
theorem at0 {α : Type} {x : α} {xs : List α} : atI (x :: xs) 0 = some x := atI_nat (j := 0) rfl
theorem ix_nat {n j : Nat} (h : j < n) : ixN n (j : Int) = some j := by
  unfold ixN
  rw [if_pos (by omega), if_pos (by omega), Int.toNat_natCast]
theorem ix0 {n : Nat} (h : 0 < n) : ixN n 0 = some 0 := ix_nat h

/-! ### walks over a text -/
theorem lc_str {x : Str} {g : TG} {tt : TT} {te : TE} {vs : List Nat} {σ : L2.St} {H1 : Hp} {D : Addr} {Qd : Hp → Prop} (Pv : Nat → Hp → Prop) (h0 : Pv 0 (upd H1 D (.lst [])))
    (hs : ∀ i c H, x.cps.toList[i]? = some c → Pv i H → g (.str ⟨#[c]⟩) (wipe σ vs) H fun σ2 H2 => wipe σ2 vs = wipe σ vs ∧ tt σ2 H2 fun b H3 =>
      if b = true then te σ2 H3 fun y H4 => ∃ acc, H4 D = some (.lst acc) ∧ acc.length < sizeLine ∧ Pv (i + 1) (upd H4 D (.lst (acc ++ [y]))) else Pv (i + 1) H3) (hd : ∀ H, Pv x.cps.size H → Qd H) :
    ∃ W : Nat → Nat → Hp → Prop, (∃ m, W 0 m (upd H1 D (.lst []))) ∧ ∀ i m H, W i m H →
      ((Its x).stop i H ∧ Qd H) ∨ ((Its x).go i H ∧ ∃ Nx : Hp → Prop, (∀ H', Nx H' → ∃ m', m' < m ∧ W (i + 1) m' H') ∧ ∀ y H', (Its x).yld i H y H' → g y (wipe σ vs) H' fun σ2 H2 => wipe σ2 vs = wipe σ vs ∧ tt σ2 H2 fun b H3 =>
        if b = true then te σ2 H3 fun y H4 => ∃ acc, H4 D = some (.lst acc) ∧ acc.length < sizeLine ∧ Nx (upd H4 D (.lst (acc ++ [y]))) else Nx H3) := by
  refine ⟨fun i m H => m = x.cps.size - i ∧ i ≤ x.cps.size ∧ Pv i H, ⟨_, rfl, Nat.zero_le _, h0⟩, ?_⟩
  rintro i m H ⟨rfl, hi, p⟩
  by_cases hlt : i < x.cps.size
  · refine .inr ⟨hlt, Pv (i + 1), fun H' p' => ⟨x.cps.size - (i + 1), by omega, rfl, hlt, p'⟩, fun y H' q => ?_⟩
    obtain ⟨e, c, hc, ey⟩ := q
    subst e
    subst ey
    exact hs i c _ (by rw [Array.getElem?_toList]; exact hc) p
  · have e : i = x.cps.size := by omega
    subst e
    exact .inl ⟨Nat.le_refl _, hd H p⟩

/-! ### lists of ints, of texts as data -/
theorem dp_ints {K : PySem.W.Frag} {H : Hp} : ∀ ns : List Int, DpAll K H (ns.map V.int) (ns.map PyData.int)
  | [] => .nil
  | n :: r => .cons (.int n) (dp_ints r)
theorem dp_strs {K : PySem.W.Frag} {H : Hp} : ∀ ns : List Str, DpAll K H (ns.map V.str) (ns.map PyData.str)
  | [] => .nil
  | n :: r => .cons (.str n) (dp_strs r)
theorem shaped_ints (ns : List Int) : SeqAt.shaped (.list (ns.map PyData.int)) = true := PySem.W.ke_shaped_ints ns
theorem eqv_nil : PyData.eqv (.list []) (.list []) = true := by simp [PyData.eqv, PyData.eqvAll]
theorem eqv_cons {a : PyData} {r : List PyData} : PyData.eqv (.list (a :: r)) (.list []) = false := by simp [PyData.eqv, PyData.eqvAll]
theorem same_upd {H : Hp} {p : Addr} {o : HO} (h : H p = none) : Same H (upd H p o) := fun b x e => by
  rw [upd_ne (ne_of_none e h)]
  exact e
/-- what G doesn't know may change -/
theorem same_mut {G H : Hp} {p : Addr} {o : HO} (e : Same G H) (h : G p = none) : Same G (upd H p o) := fun b x q => by
  rw [upd_ne (ne_of_none q h)]
  exact e b x q
end My

namespace My
open PySem PySem.Spec PyProof.Rows L2
def topS (i : Nat) : Stmt := PySem.Challenge.pw_extralink_k01_valid_names.main.body.getD i (.Pass ⟨0, 0, 0, 0⟩)
abbrev s_valid_name : Stmt := topS 4
theorem sc_valid_name : FnScope ["text", "char"] ["text"] (defScope s_valid_name) := ⟨rfl, rfl, rfl, by decide +kernel, rfl, by decide +kernel, by decide +kernel⟩
abbrev s_start : Stmt := topS 6
theorem sc_start : FnScope ["_law_script", "_law_cell"] ["_law_script"] (defScope s_start) := ⟨rfl, rfl, rfl, by decide +kernel, rfl, by decide +kernel, by decide +kernel⟩
abbrev s_draw : Stmt := topS 7
theorem sc_draw : FnScope ["_law_state", "_law_size", "_law_digit", "_law_cell", "_law_one"] ["_law_state", "_law_size"] (defScope s_draw) := ⟨rfl, rfl, rfl, by decide +kernel, rfl, by decide +kernel, by decide +kernel⟩
abbrev s_signs : Stmt := topS 8
theorem sc_signs : FnScope ["_law_signs_here"] [] (defScope s_signs) := ⟨rfl, rfl, rfl, by decide +kernel, rfl, by decide +kernel, by decide +kernel⟩
abbrev s_good : Stmt := topS 9
theorem sc_good : FnScope ["_law_word", "_law_letters", "_law_sign"] ["_law_word"] (defScope s_good) := ⟨rfl, rfl, rfl, by decide +kernel, rfl, by decide +kernel, by decide +kernel⟩
abbrev s_law : Stmt := topS 10
theorem sc_law : FnScope ["_law_script", "_law_state", "_law_plan", "_law_signs_here", "_law_chars", "_law_word", "_law_actual", "_law_k"] ["_law_script"] (defScope s_law) := ⟨rfl, rfl, rfl, by decide +kernel, rfl, by decide +kernel, by decide +kernel⟩
/-- what the top has written -/
structure Txt (K : PySem.W.Frag) (mg : Str → Option Value) where
  f_valid_name : Addr
  d_valid_name : FuncData
  F_valid_name : Fun K "valid_name" "valid_name" s_valid_name f_valid_name d_valid_name
  m_valid_name : mg "valid_name" = some (.ref f_valid_name)
  b_valid_name : Binds K d_valid_name ["text"] []
  f_start : Addr
  d_start : FuncData
  F_start : Fun K "_law_start" "_law_start" s_start f_start d_start
  m_start : mg "_law_start" = some (.ref f_start)
  b_start : Binds K d_start ["_law_script"] []
  f_draw : Addr
  d_draw : FuncData
  F_draw : Fun K "_law_draw" "_law_draw" s_draw f_draw d_draw
  m_draw : mg "_law_draw" = some (.ref f_draw)
  b_draw : Binds K d_draw ["_law_state", "_law_size"] []
  f_signs : Addr
  d_signs : FuncData
  F_signs : Fun K "_law_signs" "_law_signs" s_signs f_signs d_signs
  m_signs : mg "_law_signs" = some (.ref f_signs)
  b_signs : Binds K d_signs [] []
  f_good : Addr
  d_good : FuncData
  F_good : Fun K "_law_good" "_law_good" s_good f_good d_good
  m_good : mg "_law_good" = some (.ref f_good)
  b_good : Binds K d_good ["_law_word"] []
  kb_valid_name_0_text : KBinds K d_valid_name ["text"] ["text"] kAll kAll
  t_DIGITS : Tok
  c_DIGITS : mg "DIGITS" = some (.str ("0123456789" : Str) t_DIGITS)
  t_LETTERS : Tok
  c_LETTERS : mg "LETTERS" = some (.str ("abcdefghijklmnopqrstuvwxyz" : Str) t_LETTERS)
  t_LONGEST_NAME : Tok
  c_LONGEST_NAME : mg "LONGEST_NAME" = some (.int 6 t_LONGEST_NAME)
  n_abs : mg "abs" = none
  n_all : mg "all" = none
  n_bool : mg "bool" = none
  n_int : mg "int" = none
  n_isinstance : mg "isinstance" = none
  n_len : mg "len" = none
  n_list : mg "list" = none
  n_range : mg "range" = none
/-! ### the law's own draws: a list of great numbers, a list of cells, a count -/
section
variable {P : Program} {w : World} {K : PySem.W.Frag} {mg : Str → Option Value} {base : Heap}
/-- the state's objects as they stand; G is what else is known, the state is none of it -/
structure DS (G H : Hp) (s b c : Addr) (gs cs : List Int) (n : Nat) : Prop where
  same : Same G H
  fs : G s = none
  fb : G b = none
  fc : G c = none
  hs : H s = some (.lst [.ref b, .ref c, .int (n : Int)])
  hb : H b = some (.lst (gs.map V.int))
  hc : H c = some (.lst (cs.map V.int))
  ne : b ≠ c
  pos : 0 < cs.length
theorem DS.sb {G H : Hp} {s b c : Addr} {gs cs : List Int} {n : Nat} (d : DS G H s b c gs cs n) : s ≠ b := ne_of d.hs d.hb (by cases gs <;> simp)
theorem DS.sc {G H : Hp} {s b c : Addr} {gs cs : List Int} {n : Nat} (d : DS G H s b c gs cs n) : s ≠ c := ne_of d.hs d.hc (by cases cs <;> simp)
/-- at most m draws were made -/
def DSt (G H : Hp) (s : Addr) (m : Nat) : Prop := ∃ (b c : Addr) (gs cs : List Int) (n : Nat), DS G H s b c gs cs n ∧ n ≤ m
theorem DSt.same {G H : Hp} {s : Addr} {m : Nat} (d : DSt G H s m) : Same G H := let ⟨_, _, _, _, _, d, _⟩ := d; d.same
theorem DSt.mono {G H : Hp} {s : Addr} {m m' : Nat} (d : DSt G H s m) (h : m ≤ m') : DSt G H s m' := let ⟨b, c, gs, cs, n, d, hn⟩ := d; ⟨b, c, gs, cs, n, d, Nat.le_trans hn h⟩
/-- a new object comes beside, known from then on -/
theorem DSt.new {G H : Hp} {s : Addr} {m : Nat} {p : Addr} {o : HO} (d : DSt G H s m) (hp : H p = none) : DSt (upd G p o) (upd H p o) s m := by
  obtain ⟨b, c, gs, cs, n, d, hn⟩ := d
  have n1 : s ≠ p := ne_of_none d.hs hp
  have n2 : b ≠ p := ne_of_none d.hb hp
  have n3 : c ≠ p := ne_of_none d.hc hp
  refine ⟨b, c, gs, cs, n, ⟨fun a u e => ?_, ?_, ?_, ?_, ?_, ?_, ?_, d.ne, d.pos⟩, hn⟩
  · by_cases ha : a = p
    · subst ha; rw [upd_same] at e ⊢; exact e
    · rw [upd_ne ha] at e ⊢; exact d.same a u e
  · rw [upd_ne n1]; exact d.fs
  · rw [upd_ne n2]; exact d.fb
  · rw [upd_ne n3]; exact d.fc
  · rw [upd_ne n1]; exact d.hs
  · rw [upd_ne n2]; exact d.hb
  · rw [upd_ne n3]; exact d.hc
/-- a known object changes -/
theorem DSt.put {G H : Hp} {s : Addr} {m : Nat} {p : Addr} {o u : HO} (d : DSt G H s m) (hp : G p = some u) : DSt (upd G p o) (upd H p o) s m := by
  obtain ⟨b, c, gs, cs, n, d, hn⟩ := d
  have n1 : s ≠ p := fun e => by rw [← e, d.fs] at hp; cases hp
  have n2 : b ≠ p := fun e => by rw [← e, d.fb] at hp; cases hp
  have n3 : c ≠ p := fun e => by rw [← e, d.fc] at hp; cases hp
  refine ⟨b, c, gs, cs, n, ⟨fun a v e => ?_, ?_, ?_, ?_, ?_, ?_, ?_, d.ne, d.pos⟩, hn⟩
  · by_cases ha : a = p
    · subst ha; rw [upd_same] at e ⊢; exact e
    · rw [upd_ne ha] at e ⊢; exact d.same a v e
  · rw [upd_ne n1]; exact d.fs
  · rw [upd_ne n2]; exact d.fb
  · rw [upd_ne n3]; exact d.fc
  · rw [upd_ne n1]; exact d.hs
  · rw [upd_ne n2]; exact d.hb
  · rw [upd_ne n3]; exact d.hc
/-- what else is known of the heap may be less, the rest may be more -/
theorem DSt.less {G G' H : Hp} {s : Addr} {m : Nat} (d : DSt G H s m) (h : Same G' G) : DSt G' H s m := by
  obtain ⟨b, c, gs, cs, n, d, hn⟩ := d
  have fr : ∀ a, G a = none → G' a = none := fun a e => h.free e
  exact ⟨b, c, gs, cs, n, ⟨h.trans d.same, fr _ d.fs, fr _ d.fb, fr _ d.fc, d.hs, d.hb, d.hc, d.ne, d.pos⟩, hn⟩
/-- all that stands behind stays; known is what was known -/
theorem DSt.on {G H H' : Hp} {s : Addr} {m : Nat} (d : DSt G H s m) (h : Same H H') : DSt G H' s m := by
  obtain ⟨b, c, gs, cs, n, d, hn⟩ := d
  exact ⟨b, c, gs, cs, n, ⟨d.same.trans h, d.fs, d.fb, d.fc, h _ _ d.hs, h _ _ d.hb, h _ _ d.hc, d.ne, d.pos⟩, hn⟩
theorem DSt.free {G H : Hp} {s : Addr} {m : Nat} {p : Addr} (d : DSt G H s m) (hp : H p = none) : G p = none := d.same.free hp

def spStart (K : PySem.W.Frag) : Sp := fun vs H Q _ => ∃ (a : Addr) (ns : List Int), vs = [.ref a] ∧ SqL K H a (ns.map V.int) ∧ ns.length ≤ 63 ∧ ∀ (s : Addr) (H' : Hp), DSt H H' s 0 → Q (.ref s) H'
def spDraw : Sp := fun vs H Q _ => ∃ (G : Hp) (s : Addr) (m : Nat) (sz : Int), vs = [.ref s, .int sz] ∧ DSt G H s m ∧ m < 1000000 ∧ 0 < sz ∧ sz < 2 ^ 200 ∧
  ∀ (r : Int) (H' : Hp), 0 ≤ r → r < sz → DSt G H' s (m + 1) → Q (.int r) H'

theorem take_more {α : Type} : ∀ {l : List α} {i : Nat} {x : α}, l[i]? = some x → l.take (i + 1) = l.take i ++ [x]
  | [], i, x, h => by simp at h
  | a :: l, 0, x, h => by
    have e : a = x := Option.some.inj h
    subst e
    rfl
  | a :: l, i + 1, x, h => by
    have ih := take_more (l := l) (i := i) (x := x) h
    show a :: l.take (i + 1) = a :: l.take i ++ [x]
    rw [ih]
    rfl
theorem pow_lt (c n : Int) (hc : 0 ≤ c) (hc2 : c < 2147483647) (hn : 0 ≤ n) (hn2 : n ≤ 1000001) : (c * 48271 + n * 69621 + 7).natAbs < 2 ^ 64 := by omega
theorem pow_lt2 (c n : Int) (hc : 0 ≤ c) (hc2 : c < 2147483647) (hn : 0 ≤ n) (hn2 : n ≤ 1000001) : (c * 16807 + n * 40692 + 13).natAbs < 2 ^ 64 := by omega

theorem cut1 (xs : List V) : cutV xs (some 1) none = xs.drop 1 := by
  unfold cutV
  rw [show HT.sIx xs.length 0 (some 1) = min 1 xs.length from HT.sIx_nat xs.length 0 1, HT.sIx_none]
  cases xs with
  | nil => rfl
  | cons x r =>
    rw [show min 1 (x :: r).length = 1 by
      rw [List.length_cons]
      omega]
    show (List.take ((x :: r).length - 1) r) = r
    rw [List.length_cons, Nat.add_sub_cancel]
    exact List.take_length
theorem big1 : (0 : Int) < 2147483647 := by decide
theorem big2 : (0 : Int) < 2147483629 := by decide
theorem ok_start (T : Txt K mg) : FnOk P w K mg base CX0 1 T.f_start T.d_start ["_law_script"] (spStart K) := by
  refine T.F_start.ok sc_start (fun vs H Q E h => ?_) (fun cdv A outer s H vs Q E hr h => ?_)
  · obtain ⟨a, ns, rfl, _⟩ := h
    rfl
  · obtain ⟨a, ns, rfl, hS, hlen, k⟩ := h
    refine ⟨_, (pss_one (ps_ret (pe_lst (pa_cons (pe_lc (own := [("_law_cell", 1)]) (g := gName 1) rfl sc_start.nd (pi_list (pv 0)) (blkOk_by (N := ["_law_script", "_law_cell"]) (sc := defScope s_start) (by decide +kernel)) (fun _ _ _ _ _ => pg_name (i := 1) sc_start.nd rfl (Or.inl rfl)) (fun _ _ _ _ _ => pts_one (pt_cmpR op_ge (pe_callB call_abs (by rfl) T.n_abs (by decide +kernel) (pa_cons (pv 1) pa_nil)) (pe_op op_pow pe_int pe_int) (nomark _))) (fun _ _ _ _ _ => (pe_callB call_abs (by rfl) T.n_abs (by decide +kernel) (pa_cons (pv 1) pa_nil)))) (pa_cons (pe_op op_cat (pe_callTy call_list_of (by rfl) T.n_list (by decide +kernel) (pa_cons (pv 0) pa_nil)) (pe_lst (pa_cons pe_int pa_nil))) (pa_cons pe_int pa_nil)))))), ?_⟩
    refine ⟨_, rfl, a, rfl, ⟨_, hS⟩, fun D hD => ?_⟩
    refine lc_list (K := K) (a := a) (xs := ns.map V.int) (fun i H1 => ∃ gs : List Int, gs.length ≤ i ∧ H1 D = some (.lst (gs.map V.int)) ∧ Same H H1) ⟨[], Nat.le_refl _, upd_same, same_upd hD⟩ (fun i H1 _ ⟨_, _, _, sm⟩ => sm.seq hS) ?_ ?_
    · intro i x H1 hi ⟨gs, hg, eD, sm⟩
      obtain ⟨z, rfl⟩ : ∃ z, x = V.int z := by
        rw [List.getElem?_map] at hi
        cases e : ns[i]? with
        | none =>
          rw [e] at hi
          cases hi
        | some z =>
          rw [e] at hi
          exact ⟨z, (Option.some.inj hi).symm⟩
      have hi63 : i < 63 := by
        have := (List.getElem?_eq_some_iff.mp hi).1
        rw [List.length_map] at this
        omega
      refine ⟨rfl, _, rfl, z, rfl, 10, 18, rfl, rfl, ⟨by decide, by decide, by decide⟩, _, _, rfl, rfl, _, rfl, ?_⟩
      refine ite2 (fun _ => ?_) fun _ => ?_
      · refine ⟨_, rfl, z, rfl, gs.map V.int, eD, small1000 (by rw [List.length_map]; omega), gs ++ [if z < 0 then -z else z], by rw [List.length_append]; exact Nat.add_le_add_right hg 1, ?_, same_mut sm hD⟩
        rw [upd_same, List.map_append]
        rfl
      · exact ⟨gs, Nat.le_succ_of_le hg, eD, sm⟩
    · intro H1 ⟨gs, hg, eD, sm⟩
      refine ⟨_, rfl, a, _, rfl, .inl (sm.seq hS), fun l hl => ?_⟩
      refine ⟨by show 1 ≤ sizeLine; decide, fun o ho => ?_⟩
      have nlo : l ≠ o := fun e => by
        rw [← e, upd_same] at ho
        cases ho
      refine ⟨l, o, _, _, rfl, rfl, by rw [upd_ne nlo]; exact upd_same, upd_same, Nat.le_of_lt (small1000 ?_), fun c hc => ?_⟩
      · rw [List.length_map]
        show ns.length + 1 ≤ 1000
        omega
      refine ⟨by show 3 ≤ sizeLine; decide, fun st hst => ?_⟩
      have eDo : (upd (upd H1 l (.lst (ns.map V.int))) o (.lst [V.int 5])) D = some (.lst (gs.map V.int)) := same_upd ho _ _ (same_upd hl _ _ eD)
      have nDc : D ≠ c := ne_of_none eDo hc
      have hcs := hst
      have ncst : c ≠ st := fun e => by
        rw [← e, upd_same] at hst
        cases hst
      have nDst : D ≠ st := ne_of_none (same_upd hc _ _ eDo) hst
      have sm4 : Same H (upd (upd (upd H1 l (.lst (ns.map V.int))) o (.lst [V.int 5])) c (.lst (ns.map V.int ++ [V.int 5]))) := ((sm.trans (same_upd hl)).trans (same_upd ho)).trans (same_upd hc)
      refine k st _ ⟨D, c, gs, ns ++ [5], 0, ⟨sm4.trans (same_upd hst), sm4.free hst, hD, ((sm.trans (same_upd hl)).trans (same_upd ho)).free hc, upd_same, ?_, ?_, nDc, by rw [List.length_append]; exact Nat.succ_pos _⟩, Nat.le_refl _⟩
      · rw [upd_ne nDst]
        exact same_upd hc _ _ eDo
      · rw [upd_ne ncst, upd_same, List.map_append]
        rfl

theorem ok_draw (T : Txt K mg) : FnOk P w K mg base CX0 1 T.f_draw T.d_draw ["_law_state", "_law_size"] spDraw := by
  refine T.F_draw.ok sc_draw (fun vs H Q E h => ?_) (fun cdv A outer s H vs Q E hr h => ?_)
  · obtain ⟨G, a, m, sz, rfl, _⟩ := h
    rfl
  · obtain ⟨G, a, m, sz, rfl, ⟨b0, c, gs0, cs, n, d0, hn⟩, hm, hs0, hs2, k⟩ := h
    refine ⟨_, (pss_cons (ps_augS (pv 0) pe_int get_list pe_int ip_add set_list)
    (C8.pss_cut (ps_while PassesOwn.never (PW.pt (pw_and (pt_cmpR (op_neD hr.units) (pe_ix ix_list (pv 0) pe_int (fun _ _ => rfl)) (pe_lst pa_nil) (nomark _)) (pw_and1 (pt_cmpR op_eq (pe_ix ix_list (pe_ix ix_list (pv 0) pe_int (fun _ _ => rfl)) pe_int (fun _ _ => rfl)) pe_int (nomark _)))))
      (pss_one (ps_asg (pe_slice sl_list (pe_ix ix_list (pv 0) pe_int (fun _ _ => rfl)) (po_some pe_int) po_none) (pg_sub (pv 0) pe_int set_list))))
    (pss_cons (ps_if (pt_cmpR (op_neD hr.units) (pe_ix ix_list (pv 0) pe_int (fun _ _ => rfl)) (pe_lst pa_nil) (nomark _))
      (pss_cons (ps_set (i := 2) sc_draw.nd rfl (Or.inl rfl) (pe_op op_mod (pe_callTy call_int1 (by rfl) T.n_int (by decide +kernel) (pa_cons (pe_ix ix_list (pe_ix ix_list (pv 0) pe_int (fun _ _ => rfl)) pe_int (fun _ _ => rfl)) pa_nil)) (pv 1)))
    (pss_cons (ps_asg (pe_op op_fdivW (pe_ix ix_list (pe_ix ix_list (pv 0) pe_int (fun _ _ => rfl)) pe_int (fun _ _ => rfl)) (pv 1)) (pg_sub (pe_ix ix_list (pv 0) pe_int (fun _ _ => rfl)) pe_int set_list))
    (pss_one (ps_ret (pv 2)))))
      pss_nil)
    (pss_cons (ps_set (i := 3) sc_draw.nd rfl (Or.inl rfl) (pe_op op_mod (pe_callTy call_int1 (by rfl) T.n_int (by decide +kernel) (pa_cons (pe_ix ix_list (pe_ix ix_list (pv 0) pe_int (fun _ _ => rfl)) (pe_op op_mod (pe_callTy call_int1 (by rfl) T.n_int (by decide +kernel) (pa_cons (pe_ix ix_list (pv 0) pe_int (fun _ _ => rfl)) pa_nil)) (pe_callB call_len_seq (by rfl) T.n_len (by decide +kernel) (pa_cons (pe_ix ix_list (pv 0) pe_int (fun _ _ => rfl)) pa_nil))) (fun _ _ => rfl)) pa_nil)) pe_int))
    (pss_cons (ps_set (i := 4) sc_draw.nd rfl (Or.inl rfl) (pe_op op_mod (pe_callTy call_int1 (by rfl) T.n_int (by decide +kernel) (pa_cons (pe_op op_pow (pe_op op_add (pe_op op_add (pe_op op_mul (pv 3) pe_int) (pe_op op_mul (pe_ix ix_list (pv 0) pe_int (fun _ _ => rfl)) pe_int)) pe_int) pe_int) pa_nil)) pe_int))
    (pss_one (ps_ret (pe_op op_mod (pe_op op_mod (pe_callTy call_int1 (by rfl) T.n_int (by decide +kernel) (pa_cons (pe_op op_pow (pe_op op_add (pe_op op_add (pe_op op_mul (pv 4) pe_int) (pe_op op_mul (pe_ix ix_list (pv 0) pe_int (fun _ _ => rfl)) pe_int)) pe_int) pe_int) pa_nil)) pe_int) (pv 1))))))))), ?_⟩
    -- the count
    refine ⟨_, rfl, a, _, 2, _, rfl, rfl, SqL.of d0.hs, by decide, rfl, (n : Int), 1, rfl, rfl, a, _, 2, 2, rfl, rfl, d0.hs, rfl, ?_⟩
    have d1 : DS G (upd H a (.lst [V.ref b0, V.ref c, V.int ((n + 1 : Nat) : Int)])) a b0 c gs0 cs (n + 1) :=
      ⟨same_mut d0.same d0.fs, d0.fs, d0.fb, d0.fc, upd_same, by rw [upd_ne d0.sb.symm]; exact d0.hb, by rw [upd_ne d0.sc.symm]; exact d0.hc, d0.ne, d0.pos⟩
    -- the noughts ahead go
    refine ⟨fun σ H2 => σ = [some (.ref a), some (.int sz), none, none, none] ∧ ∃ (b : Addr) (gs : List Int), DS G H2 a b c gs cs (n + 1), ?_, ?_⟩
    · refine ⟨fun j σ H2 => σ = [some (.ref a), some (.int sz), none, none, none] ∧ ∃ (b : Addr) (gs : List Int), gs.length = j ∧ DS G H2 a b c gs cs (n + 1), ⟨_, rfl, b0, gs0, rfl, d1⟩, ?_⟩
      rintro j σ H2 ⟨rfl, b, gs, rfl, d⟩
      refine ⟨_, rfl, a, _, 0, _, rfl, rfl, SqL.of d.hs, rfl, Nat.zero_le _, fun p hp => ?_⟩
      have sp : Same H2 (upd H2 p (.lst [])) := same_upd hp
      have d2 : DS G (upd H2 p (.lst [])) a b c gs cs (n + 1) := ⟨d.same.trans sp, d.fs, d.fb, d.fc, sp _ _ d.hs, sp _ _ d.hb, sp _ _ d.hc, d.ne, d.pos⟩
      cases gs with
      | nil =>
        refine ⟨.list [], .list [], .lst (SqL.of d2.hb) .nil, .lst (SqL.of upd_same) .nil, shaped_ints [], shaped_ints [], false, by simp [PyData.eqv, PyData.eqvAll], iteF (iteF (⟨rfl, b, [], d2⟩))⟩
      | cons g r =>
        refine ⟨.list ((g :: r).map PyData.int), .list [], .lst (SqL.of d2.hb) (dp_ints _), .lst (SqL.of upd_same) .nil, shaped_ints _, shaped_ints [], true, by simp [PyData.eqv, PyData.eqvAll], iteT ?_⟩
        refine ⟨_, rfl, a, _, 0, _, rfl, rfl, SqL.of d2.hs, rfl, b, _, 0, .int g, rfl, rfl, SqL.of d2.hb, at0, rfl, _, rfl, ite2 (fun _ => ?_) fun _ => ⟨rfl, b, _, d2⟩⟩
        -- state[0] = state[0][1:]
        refine ⟨fun σ H3 => σ = [some (.ref a), some (.int sz), none, none, none] ∧ ∃ (b : Addr) (gs : List Int), gs.length = r.length ∧ DS G H3 a b c gs cs (n + 1), fun σ' H' h' => ⟨r.length, Nat.lt_succ_self _, h'⟩, ?_⟩
        refine ⟨_, rfl, a, _, 0, _, rfl, rfl, SqL.of d2.hs, rfl, 1, rfl, b, _, rfl, SqL.of d2.hb, fun q hq => ?_⟩
        have n1 : a ≠ q := ne_of_none d2.hs hq
        have n3 : c ≠ q := ne_of_none d2.hc hq
        refine ⟨_, rfl, a, _, 0, 0, rfl, rfl, by rw [upd_ne n1]; exact d2.hs, rfl, rfl, q, r, rfl, ?_⟩
        exact ⟨same_mut (d2.same.trans (same_upd hq)) d2.fs, d2.fs, d2.same.free hq, d2.fc, upd_same, by rw [upd_ne n1.symm, upd_same, cut1]; rfl, by rw [upd_ne d2.sc.symm, upd_ne n3]; exact d2.hc, n3.symm, d2.pos⟩
    · rintro σ H2 ⟨rfl, b, gs, d⟩
      refine ⟨_, rfl, a, _, 0, _, rfl, rfl, SqL.of d.hs, rfl, Nat.zero_le _, fun p hp => ?_⟩
      have sp : Same H2 (upd H2 p (.lst [])) := same_upd hp
      have d2 : DS G (upd H2 p (.lst [])) a b c gs cs (n + 1) := ⟨d.same.trans sp, d.fs, d.fb, d.fc, sp _ _ d.hs, sp _ _ d.hb, sp _ _ d.hc, d.ne, d.pos⟩
      cases gs with
      | cons g r =>
        refine ⟨.list ((g :: r).map PyData.int), .list [], .lst (SqL.of d2.hb) (dp_ints _), .lst (SqL.of upd_same) .nil, shaped_ints _, shaped_ints [], true, by simp [PyData.eqv, PyData.eqvAll], iteT ?_⟩
        refine ⟨_, rfl, a, _, 0, _, rfl, rfl, SqL.of d2.hs, rfl, b, _, 0, .int g, rfl, rfl, SqL.of d2.hb, at0, .inl ⟨g, rfl, ?_⟩⟩
        refine ⟨_, rfl, g, sz, rfl, rfl, hs0, ?_⟩
        refine ⟨_, rfl, a, _, 0, _, rfl, rfl, SqL.of d2.hs, rfl, b, _, 0, .int g, rfl, rfl, SqL.of d2.hb, at0, _, rfl, g, sz, rfl, rfl, wide_div (b := 200) hs0 (by omega) (by decide) (by decide), ?_⟩
        refine ⟨_, rfl, a, _, 0, _, rfl, rfl, SqL.of d2.hs, rfl, b, _, 0, 0, rfl, rfl, d2.hb, ix0 (Nat.succ_pos _), ?_⟩
        refine ⟨_, rfl, k _ _ (Int.emod_nonneg _ (by omega)) (Int.emod_lt_of_pos _ hs0) ⟨b, c, g / sz :: r, cs, n + 1, ?_, Nat.succ_le_succ hn⟩⟩
        exact ⟨same_mut d2.same d2.fb, d2.fs, d2.fb, d2.fc, by rw [upd_ne d2.sb]; exact d2.hs, upd_same, by rw [upd_ne d2.ne.symm]; exact d2.hc, d2.ne, d2.pos⟩
      | nil =>
        refine ⟨.list [], .list [], .lst (SqL.of d2.hb) .nil, .lst (SqL.of upd_same) .nil, shaped_ints [], shaped_ints [], false, by simp [PyData.eqv, PyData.eqvAll], iteF ?_⟩
        have hl : (0 : Int) < (cs.length : Int) := by have := d.pos; omega
        have i0 : 0 ≤ ((n + 1 : Nat) : Int) % (cs.length : Int) := Int.emod_nonneg _ (by omega)
        have i1 : ((n + 1 : Nat) : Int) % (cs.length : Int) < (cs.length : Int) := Int.emod_lt_of_pos _ hl
        obtain ⟨j, ej⟩ : ∃ j : Nat, ((n + 1 : Nat) : Int) % (cs.length : Int) = (j : Int) := ⟨(((n + 1 : Nat) : Int) % (cs.length : Int)).toNat, by omega⟩
        have hj : j < cs.length := by omega
        refine ⟨_, rfl, a, _, 1, _, rfl, rfl, SqL.of d2.hs, rfl, _, rfl, a, _, 2, _, rfl, rfl, SqL.of d2.hs, rfl, .inl ⟨_, rfl, ?_⟩⟩
        refine ⟨_, rfl, a, _, 1, _, rfl, rfl, SqL.of d2.hs, rfl, c, _, rfl, .inl (SqL.of d2.hc), _, _, rfl, rfl, by rw [List.length_map]; exact hl, ?_⟩
        refine ⟨c, _, _, .int cs[j], rfl, rfl, SqL.of d2.hc, by rw [List.length_map]; exact at_of ej (by rw [List.getElem?_map, List.getElem?_eq_getElem hj]; rfl), .inl ⟨_, rfl, _, _, rfl, rfl, big1, ?_⟩⟩
        have c0 : 0 ≤ cs[j] % 2147483647 := Int.emod_nonneg _ (by decide)
        have c1 : cs[j] % 2147483647 < 2147483647 := Int.emod_lt_of_pos _ (by decide)
        refine ⟨_, rfl, _, _, rfl, rfl, .inr ⟨by decide, by decide⟩, _, rfl, a, _, 2, _, rfl, rfl, SqL.of d2.hs, rfl, _, _, rfl, rfl, .inr ⟨by decide, by decide⟩, _, _, rfl, rfl, _, _, rfl, rfl, _, _, rfl, rfl, ⟨by decide, by decide, pow_lt _ _ c0 c1 (by omega) (by omega)⟩, .inl ⟨_, rfl, _, _, rfl, rfl, big1, ?_⟩⟩
        have e0 : ∀ z : Int, 0 ≤ z % 2147483647 := fun z => Int.emod_nonneg _ (by decide)
        have e1 : ∀ z : Int, z % 2147483647 < 2147483647 := fun z => Int.emod_lt_of_pos _ (by decide)
        refine ⟨_, rfl, _, _, rfl, rfl, .inr ⟨by decide, by decide⟩, _, rfl, a, _, 2, _, rfl, rfl, SqL.of d2.hs, rfl, _, _, rfl, rfl, .inr ⟨by decide, by decide⟩, _, _, rfl, rfl, _, _, rfl, rfl, _, _, rfl, rfl, ⟨by decide, by decide, pow_lt2 _ _ (e0 _) (e1 _) (by omega) (by omega)⟩, .inl ⟨_, rfl, _, _, rfl, rfl, big2, ?_⟩⟩
        refine ⟨_, rfl, _, sz, rfl, rfl, hs0, ?_⟩
        exact k _ _ (Int.emod_nonneg _ (by omega)) (Int.emod_lt_of_pos _ hs0) ⟨b, c, [], cs, n + 1, d2, Nat.succ_le_succ hn⟩
end

/-! ### names -/
def lets : Str := "abcdefghijklmnopqrstuvwxyz"
def digs : Str := "0123456789"
def inNm (c : Nat) : Bool := decide (c ∈ lets.cps.toList) || decide (c ∈ digs.cps.toList)
def vnL : List Nat → Bool
  | [] => false
  | c :: r => decide (c ∈ lets.cps.toList) && (c :: r).all inNm
def vn (z : Str) : Bool := decide (1 ≤ z.length ∧ z.length ≤ 6) && vnL z.cps.toList
section
variable {P : Program} {w : World} {K : PySem.W.Frag} {mg : Str → Option Value} {base : Heap}
def spName : Sp := fun vs H Q _ => ∃ z : Str, vs = [.str z] ∧ z.length ≤ 1000 ∧ (∀ c ∈ z.cps.toList, c < 128) ∧ ∀ H', Same H H' → Q (.bl (vn z)) H'
theorem head_of {z : Str} (h : 1 ≤ z.length) : ∃ c r, z.cps.toList = c :: r := by
  cases e : z.cps.toList with
  | nil =>
    have : z.length = z.cps.toList.length := by simp [Str.length]
    rw [e] at this
    rw [this] at h
    exact absurd h (by decide)
  | cons c r => exact ⟨c, r, rfl⟩
theorem len_of (z : Str) : z.length = z.cps.toList.length := by simp [Str.length]
theorem ok_valid (T : Txt K mg) : FnOk P w K mg base CX0 1 T.f_valid_name T.d_valid_name ["text"] spName := by
  refine T.F_valid_name.ok sc_valid_name (fun vs H Q E h => ?_) (fun cdv A outer s H vs Q E hr h => ?_)
  · obtain ⟨z, rfl, _⟩ := h
    rfl
  · obtain ⟨z, rfl, hz, hc, k⟩ := h
    refine ⟨_, (pss_cons (ps_if (pt_not (pt_chain op_le op_le pe_int (pe_callB call_len_str (by rfl) T.n_len (by decide +kernel) (pa_cons (pv 0) pa_nil)) (pe_glob (v := V.int 6) rfl T.c_LONGEST_NAME ⟨_, rfl⟩)))
      (pss_one (ps_ret pe_bl))
      pss_nil)
    (pss_one (ps_ret (pe_and (pe_cmpR op_in_sign (pe_ix ix_str (pv 0) pe_int (fun _ _ => rfl)) (pe_glob (v := V.str "abcdefghijklmnopqrstuvwxyz") rfl T.c_LETTERS ⟨_, rfl⟩) rfl) (pe_one (pe_callB (cr_all rfl) (by rfl) T.n_all (by decide +kernel) (pa_cons (pe_lc (own := [("char", 1)]) (g := gName 1) (tt := tYes) rfl sc_valid_name.nd (pi_str (pv 0)) (blkOk_by (N := ["text", "char"]) (sc := defScope s_valid_name) (by decide +kernel)) (fun _ _ _ _ _ => pg_name (i := 1) sc_valid_name.nd rfl (Or.inl rfl)) (fun _ _ _ _ _ => pts_nil) (fun _ _ _ _ _ => (pe_or (pe_cmpR op_in_sign (pv 1) (pe_glob (v := V.str "abcdefghijklmnopqrstuvwxyz") rfl T.c_LETTERS ⟨_, rfl⟩) rfl) (pe_one (pe_cmpR op_in_sign (pv 1) (pe_glob (v := V.str "0123456789") rfl T.c_DIGITS ⟨_, rfl⟩) rfl))))) pa_nil))))))), ?_⟩
    have hzl : z.length ≤ sizeLine := Nat.le_of_lt (small1000 hz)
    -- the length
    refine ⟨_, rfl, z, rfl, hzl, 1, (z.length : Int), rfl, rfl, _, rfl, ite2 (fun h1 => ?_) fun h1 => ?_⟩
    · have h1' : (1 : Int) ≤ z.length := of_decide_eq_true h1
      refine ⟨_, 6, rfl, rfl, _, rfl, ite2 (fun h2 => ?_) fun h2 => ?_⟩
      · have h2' : ¬ (z.length : Int) ≤ 6 := by simpa using h2
        have e : vn z = false := by
          unfold vn
          rw [decide_eq_false (by omega), Bool.false_and]
        have := k H (Same.refl H)
        rw [e] at this
        exact this
      · have h2' : (z.length : Int) ≤ 6 := by simpa using h2
        obtain ⟨c, r, ez⟩ := head_of (z := z) (by omega)
        have ev : vn z = vnL (c :: r) := by
          unfold vn
          rw [decide_eq_true (by omega), Bool.true_and, ez]
        refine ⟨_, rfl, z, 0, c, rfl, rfl, hzl, by rw [ez]; exact at0, c, lets, rfl, rfl, _, rfl, ite2 (fun hl => ?_) fun hl => ?_⟩
        · refine ⟨_, rfl, z, rfl, fun D hD => ?_⟩
          refine lc_str (fun i H1 => H1 D = some (.lst ((z.cps.toList.take i).map fun c => V.bl (inNm c))) ∧ Same H H1) ⟨upd_same, same_upd hD⟩ ?_ ?_
          · intro i d H1 hi ⟨eD, sm⟩
            have hi2 : i < 1000 := by
              have := (List.getElem?_eq_some_iff.mp hi).1
              rw [← len_of] at this
              omega
            have fin : ∀ b : Bool, b = inNm d → ∃ acc, H1 D = some (.lst acc) ∧ acc.length < sizeLine ∧ (upd H1 D (.lst (acc ++ [V.bl b]))) D = some (.lst ((z.cps.toList.take (i + 1)).map fun c => V.bl (inNm c))) ∧ Same H (upd H1 D (.lst (acc ++ [V.bl b]))) := by
              intro b eb
              refine ⟨_, eD, small1000 (by rw [List.length_map, List.length_take]; omega), ?_, same_mut sm hD⟩
              rw [upd_same, take_more hi, List.map_append, eb]
              rfl
            refine ⟨rfl, _, rfl, d, lets, rfl, rfl, _, rfl, ite2 (fun h => ?_) fun h => ?_⟩
            · exact fin true (by unfold inNm; rw [h, Bool.true_or])
            · exact ⟨_, rfl, d, digs, rfl, rfl, fin _ (by unfold inNm; rw [Bool.eq_false_iff.mpr h, Bool.false_or])⟩
          · intro H1 ⟨eD, sm⟩
            have et : z.cps.toList.take z.cps.size = z.cps.toList := List.take_of_length_le (by simp)
            rw [et] at eD
            refine ⟨D, z.cps.toList.map inNm, rfl, SqL.of (by rw [eD, List.map_map]; rfl), ?_⟩
            have e2 : vn z = ((z.cps.toList.map inNm).all id) := by
              rw [ev, ez]
              show (decide (c ∈ lets.cps.toList) && (c :: r).all inNm) = _
              rw [hl, Bool.true_and, List.all_map]
              rfl
            rw [← e2]
            exact k H1 sm
        · have e : vn z = false := by
            rw [ev]
            show (decide (c ∈ lets.cps.toList) && (c :: r).all inNm) = false
            rw [Bool.eq_false_iff.mpr hl, Bool.false_and]
          have := k H (Same.refl H)
          rw [e] at this
          exact this
    · have h1' : ¬ (1 : Int) ≤ z.length := fun q => h1 (decide_eq_true q)
      refine ⟨_, rfl, iteT ?_⟩
      have e : vn z = false := by
        unfold vn
        rw [decide_eq_false (by omega), Bool.false_and]
      have := k H (Same.refl H)
      rw [e] at this
      exact this
def spSigns (z : Str) : Sp := fun vs H Q _ => vs = [] ∧ Q (.str z) H
def signs : Str := " !\"#$&'()*+,-./0123456789:;<=>?@ABCDEFGHIJKLMNOPQRSTUVWXYZ[\\]^_`" ++ "abcdefghijklmnopqrstuvwxyz{|}~\n"
theorem ok_signs (T : Txt K mg) : FnOk P w K mg base CX0 1 T.f_signs T.d_signs [] (spSigns signs) := by
  refine T.F_signs.ok sc_signs (fun vs H Q E h => ?_) (fun cdv A outer s H vs Q E hr h => ?_)
  · obtain ⟨rfl, _⟩ := h
    rfl
  · obtain ⟨rfl, k⟩ := h
    refine ⟨_, (pss_cons (ps_set (i := 0) sc_signs.nd rfl (Or.inl rfl) pe_str)
    (pss_one (ps_ret (pe_op op_add_str (pv 0) pe_str)))), ?_⟩
    exact ⟨_, rfl, _, _, rfl, rfl, by decide +kernel, k⟩
def both : Str := lets ++ digs
theorem mem_both (c : Nat) : decide (c ∈ both.cps.toList) = inNm c := by
  unfold both inNm
  rw [show (lets ++ digs).cps.toList = lets.cps.toList ++ digs.cps.toList from by rw [Str.cps_append, Array.toList_append], decide_eq_decide.mpr (List.mem_append (a := c)), Bool.decide_or]
theorem shaped_signs (l : List Nat) (h : ∀ c ∈ l, c < 128) : SeqAt.shaped (.list ((l.map fun c => (⟨#[c]⟩ : Str)).map PyData.str)) = true := by
  have h1 : PyData.canLayAll0 ((l.map fun c => (⟨#[c]⟩ : Str)).map PyData.str) = true := by
    induction l with
    | nil => rfl
    | cons a r ih =>
      have ha := h a List.mem_cons_self
      have := ih fun c hc => h c (List.mem_cons_of_mem _ hc)
      show (PyData.canLay0 (.str ⟨#[a]⟩) && PyData.canLayAll0 _) = true
      rw [this, Bool.and_true]
      simp only [PyData.canLay0, PyData.strOk]
      simp
      omega
  have h2 : PyData.depthAll ((l.map fun c => (⟨#[c]⟩ : Str)).map PyData.str) = 0 := by
    induction l with
    | nil => rfl
    | cons a r ih =>
      have hh : PyData.canLayAll0 ((r.map fun c => (⟨#[c]⟩ : Str)).map PyData.str) = true := by
        have : (PyData.canLay0 (.str ⟨#[a]⟩) && PyData.canLayAll0 ((r.map fun c => (⟨#[c]⟩ : Str)).map PyData.str)) = true := h1
        exact (Bool.and_eq_true_iff.mp this).2
      have := ih (fun c hc => h c (List.mem_cons_of_mem _ hc)) hh
      show max (PyData.depth (.str ⟨#[a]⟩)) (PyData.depthAll _) = 0
      rw [this]
      simp [PyData.depth]
  unfold SeqAt.shaped
  rw [show PyData.canLay0 (.list ((l.map fun c => (⟨#[c]⟩ : Str)).map PyData.str)) = true by simp only [PyData.canLay0]; exact h1, Bool.true_and]
  refine decide_eq_true ?_
  simp only [PyData.depth]
  rw [h2]
  decide
theorem vn_eq {z : Str} {c : Nat} {r : List Nat} (h : 1 ≤ z.length ∧ z.length ≤ 6) (ez : z.cps.toList = c :: r) (hl : decide (c ∈ lets.cps.toList) = true) : vn z = (c :: r).all inNm := by
  unfold vn
  rw [decide_eq_true h, Bool.true_and, ez]
  show (decide (c ∈ lets.cps.toList) && (c :: r).all inNm) = _
  rw [hl, Bool.true_and]
theorem vn_no {z : Str} {c : Nat} {r : List Nat} (ez : z.cps.toList = c :: r) (hl : ¬ decide (c ∈ lets.cps.toList) = true) : vn z = false := by
  unfold vn
  rw [ez]
  show (_ && (decide (c ∈ lets.cps.toList) && (c :: r).all inNm)) = false
  rw [Bool.eq_false_iff.mpr hl, Bool.false_and, Bool.and_false]
theorem vn_len {z : Str} (h : ¬ (1 ≤ z.length ∧ z.length ≤ 6)) : vn z = false := by
  unfold vn
  rw [decide_eq_false h, Bool.false_and]
theorem all_filter (l : List Nat) : PyData.eqv (.list (((l.filter fun c => !inNm c).map fun c => (⟨#[c]⟩ : Str)).map PyData.str)) (.list []) = l.all inNm := by
  cases e : l.filter fun c => !inNm c with
  | nil =>
    have : l.all inNm = true := by
      rw [List.all_eq_true]
      intro c hc
      have := List.filter_eq_nil_iff.mp e c hc
      simpa using this
    rw [this]
    exact eqv_nil
  | cons a r =>
    have ha : a ∈ l.filter fun c => !inNm c := by rw [e]; exact List.mem_cons_self
    obtain ⟨h1, h2⟩ := List.mem_filter.mp ha
    have : l.all inNm = false := by
      rw [List.all_eq_false]
      exact ⟨a, h1, by simpa using h2⟩
    rw [this]
    exact eqv_cons
theorem ok_good (T : Txt K mg) : FnOk P w K mg base CX0 1 T.f_good T.d_good ["_law_word"] spName := by
  refine T.F_good.ok sc_good (fun vs H Q E h => ?_) (fun cdv A outer s H vs Q E hr h => ?_)
  · obtain ⟨z, rfl, _⟩ := h
    rfl
  · obtain ⟨z, rfl, hz, hc, k⟩ := h
    have hzl : z.length ≤ sizeLine := Nat.le_of_lt (small1000 hz)
    refine ⟨_, (pss_cons (ps_set (i := 1) sc_good.nd rfl (Or.inr rfl) pe_str)
    (pss_cons (ps_if (PW.pt (pw_or (pt_cmpR op_lt (pe_callB call_len_str (by rfl) T.n_len (by decide +kernel) (pa_cons (pv 0) pa_nil)) pe_int (nomark _)) (pw_or (pt_cmpR op_gt (pe_callB call_len_str (by rfl) T.n_len (by decide +kernel) (pa_cons (pv 0) pa_nil)) pe_int (nomark _)) (pw_or1 (pt_cmpR op_notIn_sign (pe_ix ix_str (pv 0) pe_int (fun _ _ => rfl)) (pv 1) rfl)))))
      (pss_one (ps_ret pe_bl))
      pss_nil)
    (pss_one (ps_ret (pe_cmpR (op_eqD hr.units) (pe_lc (own := [("_law_sign", 2)]) (g := gName 2) rfl sc_good.nd (pi_str (pv 0)) (blkOk_by (N := ["_law_word", "_law_letters", "_law_sign"]) (sc := defScope s_good) (by decide +kernel)) (fun _ _ _ _ _ => pg_name (i := 2) sc_good.nd rfl (Or.inl rfl)) (fun _ _ _ _ _ => pts_one (pt_cmpR op_notIn_sign (pv 2) (pe_op op_add_str (pv 1) pe_str) rfl)) (fun _ _ _ _ _ => (pv 2))) (pe_lst pa_nil) (nomark _)))))), ?_⟩
    have no : vn z = false → Q (.bl false) H := fun e => by
      have := k H (Same.refl H)
      rw [e] at this
      exact this
    refine ⟨_, rfl, z, rfl, hzl, (z.length : Int), 1, rfl, rfl, _, rfl, ite2 (fun h1 => ?_) fun h1 => ?_⟩
    · have h1' : (z.length : Int) < 1 := of_decide_eq_true h1
      exact iteT (no (vn_len (by omega)))
    · have h1' : ¬ (z.length : Int) < 1 := fun q => h1 (decide_eq_true q)
      refine ⟨_, rfl, z, rfl, hzl, (z.length : Int), 6, rfl, rfl, _, rfl, ite2 (fun h2 => ?_) fun h2 => ?_⟩
      · have h2' : (6 : Int) < z.length := of_decide_eq_true h2
        exact iteT (no (vn_len (by omega)))
      · have h2' : ¬ (6 : Int) < z.length := fun q => h2 (decide_eq_true q)
        obtain ⟨c, r, ez⟩ := head_of (z := z) (by omega)
        refine ⟨_, rfl, z, 0, c, rfl, rfl, hzl, by rw [ez]; exact at0, _, rfl, c, lets, rfl, rfl, _, rfl, ite2 (fun hl => ?_) fun hl => ?_⟩
        · exact no (vn_no ez (by simpa using hl))
        · have hl' : decide (c ∈ lets.cps.toList) = true := by simpa using hl
          refine ⟨_, rfl, z, rfl, fun D hD => ?_⟩
          refine lc_str (fun i H1 => H1 D = some (.lst ((((z.cps.toList.take i).filter fun c => !inNm c).map fun c => (⟨#[c]⟩ : Str)).map V.str)) ∧ Same H H1) ⟨upd_same, same_upd hD⟩ ?_ ?_
          · intro i d H1 hi ⟨eD, sm⟩
            have hi2 : i < 1000 := by
              have := (List.getElem?_eq_some_iff.mp hi).1
              rw [← len_of] at this
              omega
            refine ⟨rfl, _, rfl, _, rfl, lets, digs, rfl, rfl, by decide +kernel, d, both, rfl, rfl, _, rfl, ?_⟩
            rw [mem_both d]
            refine ite2 (fun h => ?_) fun h => ?_
            · refine ⟨_, rfl, _, eD, small1000 ?_, ?_, same_mut sm hD⟩
              · rw [List.length_map, List.length_map]
                refine Nat.le_trans (List.length_filter_le _ _) ?_
                rw [List.length_take]
                omega
              · rw [upd_same, take_more hi, List.filter_append, List.map_append, List.map_append, show [d].filter (fun c => !inNm c) = [d] from List.filter_cons_of_pos (p := fun c => !inNm c) h]
                rfl
            · refine ⟨?_, sm⟩
              rw [eD, take_more hi, List.filter_append, show [d].filter (fun c => !inNm c) = [] from List.filter_cons_of_neg (p := fun c => !inNm c) h, List.append_nil]
          · intro H1 ⟨eD, sm⟩
            have et : z.cps.toList.take z.cps.size = z.cps.toList := List.take_of_length_le (by simp)
            rw [et] at eD
            refine ⟨Nat.zero_le _, fun p hp => ?_⟩
            refine ⟨.list (((z.cps.toList.filter fun c => !inNm c).map fun c => (⟨#[c]⟩ : Str)).map PyData.str), .list [], .lst (SqL.of (same_upd hp _ _ eD)) (dp_strs _), .lst (SqL.of upd_same) .nil, shaped_signs _ (fun c hm => hc c (List.mem_filter.mp hm).1), shaped_ints [], ?_⟩
            rw [all_filter, ez, ← vn_eq (by omega) ez hl']
            exact k _ (sm.trans (same_upd hp))

/-! ### the law -/
def sgn (c : Nat) : V := .str ⟨#[c]⟩
theorem sgn_map (l : List Nat) : l.map sgn = (l.map fun c => (⟨#[c]⟩ : Str)).map V.str := by
  rw [List.map_map]
  rfl
def Alpha (z : Str) : Prop := 0 < z.length ∧ z.length ≤ 1000 ∧ ∀ c ∈ z.cps.toList, c < 128
theorem alpha1 : Alpha "abcdefghijklmnopqrstuvwxyz0123456789" := ⟨by decide +kernel, by decide +kernel, by decide +kernel⟩
theorem alpha2 : Alpha signs := ⟨by decide +kernel, by decide +kernel, by decide +kernel⟩
/-- a sign at a drawn place -/
theorem Alpha.at {z : Str} (a : Alpha z) {r : Int} (h0 : 0 ≤ r) (h1 : r < z.length) : ∃ c, atI z.cps.toList r = some c ∧ c < 128 := by
  have hl := len_of z
  obtain ⟨j, rfl⟩ : ∃ j : Nat, r = (j : Int) := ⟨r.toNat, by omega⟩
  have hj : j < z.cps.toList.length := by omega
  exact ⟨z.cps.toList[j], atI_nat (List.getElem?_eq_getElem hj), a.2.2 _ (List.getElem_mem hj)⟩
theorem four {r : Int} (h0 : 0 ≤ r) (h1 : r < 4) : ∃ v : Int, atI [V.int 9, .int 9, .int 9, .int 80] r = some (.int v) ∧ 0 < v ∧ v ≤ 80 := by
  have h : r = 0 ∨ r = 1 ∨ r = 2 ∨ r = 3 := by omega
  rcases h with rfl | rfl | rfl | rfl
  · exact ⟨9, rfl, by decide, by decide⟩
  · exact ⟨9, rfl, by decide, by decide⟩
  · exact ⟨9, rfl, by decide, by decide⟩
  · exact ⟨80, rfl, by decide, by decide⟩
theorem size_small {z : Str} (a : Alpha z) : (z.length : Int) < 2 ^ 200 := by
  have h : (z.length : Int) ≤ 1000 := by have := a.2.1; omega
  exact Int.lt_of_le_of_lt h (by decide)
theorem join_cps (l : List Nat) : Txt.join ⟨#[]⟩ (l.map fun c => (⟨#[c]⟩ : Str)) = ⟨l.toArray⟩ := by
  refine TL.ext_tl ?_
  rw [TL.join_eq]
  induction l with
  | nil => rfl
  | cons a r ih =>
    cases r with
    | nil => rfl
    | cons b q =>
      show TL.tl ((⟨#[a]⟩ : Str) ++ ⟨#[]⟩ ++ Str.join ⟨#[]⟩ ((b :: q).map fun c => (⟨#[c]⟩ : Str))) = _
      rw [TL.tl_append, TL.tl_append, ih]
      rfl
theorem sum_ones (l : List Nat) : ((l.map fun c => (⟨#[c]⟩ : Str)).map (·.length)).sum = l.length := by
  induction l with
  | nil => rfl
  | cons a r ih =>
    rw [List.map_cons, List.map_cons, List.sum_cons, ih, List.length_cons]
    show 1 + r.length = r.length + 1
    omega
theorem rev_list (l : List Nat) : (revS ⟨l.toArray⟩).cps.toList = l.reverse := by
  unfold revS
  simp
def spLaw (K : PySem.W.Frag) : Sp := fun vs H Q _ => ∃ (a : Addr) (ns : List Int), vs = [.ref a] ∧ SqL K H a (ns.map V.int) ∧ ns.length ≤ 63 ∧ ∀ H', Q (.bl true) H'
theorem ok_law {f : Addr} {fd : FuncData} (T : Txt K mg) (F : Fun K "law" "law" s_law f fd) : FnOk P w K mg base CX0 2 f fd ["_law_script"] (spLaw K) := by
  have G_start : FnOk P w K mg base CX0 1 T.f_start T.d_start ["_law_script"] (spStart K) := ok_start T
  have G_draw : FnOk P w K mg base CX0 1 T.f_draw T.d_draw ["_law_state", "_law_size"] spDraw := ok_draw T
  have G_signs : FnOk P w K mg base CX0 1 T.f_signs T.d_signs [] (spSigns signs) := ok_signs T
  have G_good : FnOk P w K mg base CX0 1 T.f_good T.d_good ["_law_word"] spName := ok_good T
  have G_valid_name : FnOk P w K mg base CX0 1 T.f_valid_name T.d_valid_name ["text"] spName := ok_valid T
  refine F.ok sc_law (fun vs H Q E h => ?_) (fun cdv A outer s H vs Q E hr h => ?_)
  · obtain ⟨a, ns, rfl, _⟩ := h
    rfl
  · obtain ⟨a, ns, rfl, hS, hlen, k⟩ := h
    refine ⟨_, (pss_cons (ps_set (i := 1) sc_law.nd rfl (Or.inr rfl) (pe_call G_start (hr.mono (by decide)) rfl T.m_start T.F_start.kp T.b_start .nil pass0 (pa_cons (pv 0) pa_nil)))
    (pss_cons (ps_set (i := 2) sc_law.nd rfl (Or.inl rfl) (pe_call G_draw (hr.mono (by decide)) rfl T.m_draw T.F_draw.kp T.b_draw .nil pass0 (pa_cons (pv 1) (pa_cons pe_int pa_nil))))
    (pss_cons (ps_set (i := 3) sc_law.nd rfl (Or.inr rfl) pe_str)
    (C8.pss_cut (ps_if (pt_cmpR op_eq (pv 2) pe_int (nomark _))
      (pss_one (ps_set (i := 3) sc_law.nd rfl (Or.inr rfl) (pe_call0 G_signs (hr.mono (by decide)) rfl T.m_signs T.F_signs.kp T.b_signs .nil pass0)))
      pss_nil)
    (pss_cons (ps_setLc (i := 4) (own := [("_law_k", 7)]) (g := gName 7) (tt := tYes) rfl sc_law.nd rfl rfl (sw_true rfl rfl rfl (by decide +kernel)) (pi_range1 rfl T.n_range (pa_cons (pe_call G_draw (hr.mono (by decide)) rfl T.m_draw T.F_draw.kp T.b_draw .nil pass0 (pa_cons (pv 1) (pa_cons (pe_ix ix_list (pe_lst (pa_cons pe_int (pa_cons pe_int (pa_cons pe_int (pa_cons pe_int pa_nil))))) (pe_call G_draw (hr.mono (by decide)) rfl T.m_draw T.F_draw.kp T.b_draw .nil pass0 (pa_cons (pv 1) (pa_cons pe_int pa_nil))) (fun _ _ => rfl)) pa_nil))) pa_nil)) (blkOk_by (N := ["_law_script", "_law_state", "_law_plan", "_law_signs_here", "_law_chars", "_law_word", "_law_actual", "_law_k"]) (sc := defScope s_law) (by decide +kernel)) (fun _ _ _ _ _ => pg_name (i := 7) sc_law.nd rfl (Or.inl rfl)) (fun _ _ _ _ _ => pts_nil) (fun _ _ _ _ _ => (pe_ix ix_str (pv 3) (pe_call G_draw (hr.mono (by decide)) rfl T.m_draw T.F_draw.kp T.b_draw .nil pass0 (pa_cons (pv 1) (pa_cons (pe_callB call_len_str (by rfl) T.n_len (by decide +kernel) (pa_cons (pv 3) pa_nil)) pa_nil))) (fun _ _ => rfl))))
    (C8.pss_cut (ps_if (PW.pt (pw_and (pt_cmpR op_eq (pv 2) pe_int (nomark _)) (pw_and1 (pt_cmpR (op_neD hr.units) (pv 4) (pe_lst pa_nil) (nomark _)))))
      (pss_one (ps_asg (pe_ix ix_str (pe_call0 G_signs (hr.mono (by decide)) rfl T.m_signs T.F_signs.kp T.b_signs .nil pass0) (pe_call G_draw (hr.mono (by decide)) rfl T.m_draw T.F_draw.kp T.b_draw .nil pass0 (pa_cons (pv 1) (pa_cons (pe_callB call_len_str (by rfl) T.n_len (by decide +kernel) (pa_cons (pe_call0 G_signs (hr.mono (by decide)) rfl T.m_signs T.F_signs.kp T.b_signs .nil pass0) pa_nil)) pa_nil))) (fun _ _ => rfl)) (pg_sub (pv 4) (pe_call G_draw (hr.mono (by decide)) rfl T.m_draw T.F_draw.kp T.b_draw .nil pass0 (pa_cons (pv 1) (pa_cons (pe_callB call_len_seq (by rfl) T.n_len (by decide +kernel) (pa_cons (pv 4) pa_nil)) pa_nil))) set_list)))
      pss_nil)
    (pss_cons (ps_set (i := 5) sc_law.nd rfl (Or.inl rfl) (pe_join pe_str (pv 4)))
    (pss_cons (ps_set (i := 6) sc_law.nd rfl (Or.inl rfl) (pe_call G_valid_name (hr.mono (by decide)) rfl T.m_valid_name T.F_valid_name.kp T.b_valid_name .nil pass0 (pa_cons (pv 5) pa_nil)))
    (pss_cons (ps_if (PW.pt (pw_or (pt_not (pt_val (pe_callB call_isi (by rfl) T.n_isinstance (by decide +kernel) (pa_cons (pv 6) (pa_cons (pe_bltn (v := .ty "bool") (u := .type "bool") (by rfl) T.n_bool (by decide +kernel) rfl) pa_nil))))) (pw_or1 (pt_cmpR op_ne (pv 6) (pe_call G_good (hr.mono (by decide)) rfl T.m_good T.F_good.kp T.b_good .nil pass0 (pa_cons (pv 5) pa_nil)) (nomark _)))))
      (pss_one (ps_ret pe_bl))
      pss_nil)
    (pss_one (ps_ret (pe_cmpR op_eq (pe_callK0 G_valid_name (hr.mono (by decide)) rfl T.m_valid_name T.F_valid_name.kp T.kb_valid_name_0_text pass0 (pk_cons (pe_revS (pv 5)) pk_nil)) (pe_call G_good (hr.mono (by decide)) rfl T.m_good T.F_good.kp T.b_good .nil pass0 (pa_cons (pe_revS (pv 5)) pa_nil)) (nomark _))))))))))))), ?_⟩
    -- state = _law_start(script); plan = _law_draw(state, 3)
    refine ⟨_, rfl, a, ns, rfl, hS, hlen, fun st H1 d1 => ?_⟩
    refine ⟨_, rfl, H, st, 0, 3, rfl, d1, by decide, by decide, by decide, fun r H2 r0 r1 d2 => ?_⟩
    -- the signs
    refine ⟨fun σ H3 => ∃ sg : Str, σ = [some (.ref a), some (.ref st), some (.int r), some (.str sg), none, none, none, none] ∧ Alpha sg ∧ DSt H H3 st 1, ?_, ?_⟩
    · refine ⟨_, rfl, rfl, _, rfl, ite2 (fun _ => ?_) fun _ => ?_⟩
      · exact ⟨rfl, signs, rfl, alpha2, d2⟩
      · exact ⟨_, rfl, alpha1, d2⟩
    rintro σ H3 ⟨sg, rfl, al, d3⟩
    have hsl : sg.length ≤ sizeLine := Nat.le_of_lt (small1000 al.2.1)
    -- chars = [signs[draw(state, len(signs))] for k in range(..)]
    refine ⟨_, rfl, by show 4 ≤ sizeLine; decide, fun l hl => ?_⟩
    refine ⟨_, rfl, upd H l _, st, 1, 4, rfl, d3.new hl, by decide, by decide, by decide, fun q H4 q0 q1 d4 => ?_⟩
    obtain ⟨v, ev, v0, v1⟩ := four q0 q1
    refine ⟨l, _, q, .int v, rfl, rfl, SqL.of (d4.same _ _ upd_same), ev, ?_⟩
    refine ⟨H, st, 2, v, rfl, d4.less (same_upd (d3.free hl)), by decide, v0, Int.lt_of_le_of_lt v1 (by decide), fun n H5 n0 n1 d5 => ?_⟩
    obtain ⟨j, rfl⟩ : ∃ j : Nat, n = (j : Int) := ⟨n.toNat, by omega⟩
    refine ⟨_, rfl, by omega, by omega, fun D hD => ?_⟩
    refine lc_range (lo := 0) (n := j) (fun i H6 => ∃ cs : List Nat, cs.length = i ∧ (∀ c ∈ cs, c < 128) ∧ DSt (upd H D (.lst (cs.map sgn))) H6 st (3 + i)) ⟨[], rfl, by simp, d5.new hD⟩ ?_ ?_
    · intro i H6 hi ⟨cs, hc, hb, d6⟩
      refine ⟨rfl, _, rfl, _, rfl, _, rfl, sg, rfl, hsl, ?_⟩
      refine ⟨_, st, 3 + i, _, rfl, d6, by omega, by have := al.1; omega, size_small al, fun z H7 z0 z1 d7 => ?_⟩
      obtain ⟨c, ec, c1⟩ := al.at z0 z1
      refine ⟨sg, z, c, rfl, rfl, hsl, ec, cs.map sgn, d7.same _ _ upd_same, small1000 (by rw [List.length_map]; omega), cs ++ [c], by rw [List.length_append, hc]; rfl, ?_, ?_⟩
      · intro x hx
        rcases List.mem_append.mp hx with hx | hx
        · exact hb x hx
        · rw [List.mem_singleton.mp hx]; exact c1
      · have := d7.put (o := .lst (cs.map sgn ++ [sgn c])) upd_same
        rw [upd_upd] at this
        rw [List.map_append]
        exact this
    rintro H6 ⟨cs, hc, hb, d6⟩
    -- one sign of any kind
    refine ⟨fun σ H7 => ∃ cs : List Nat, σ = [some (.ref a), some (.ref st), some (.int r), some (.str sg), some (.ref D), none, none, none] ∧ cs.length ≤ 80 ∧ (∀ c ∈ cs, c < 128) ∧ H7 D = some (.lst (cs.map sgn)), ?_, ?_⟩
    · have e6 : H6 D = some (.lst (cs.map sgn)) := d6.same _ _ upd_same
      refine ⟨_, rfl, rfl, _, rfl, ite2 (fun _ => ?_) fun _ => ?_⟩
      · refine ⟨_, rfl, Nat.zero_le _, fun p hp => ?_⟩
        have e7 := same_upd (o := .lst []) hp _ _ e6
        refine ⟨.list ((cs.map fun c => (⟨#[c]⟩ : Str)).map PyData.str), .list [], .lst (SqL.of e7) (by rw [sgn_map]; exact dp_strs _), .lst (SqL.of upd_same) .nil, shaped_signs cs hb, shaped_ints [], _, rfl, ite2 (fun hne => ?_) fun _ => ?_⟩
        · have h0 : 0 < cs.length := by
            cases cs with
            | nil =>
              rw [show List.map PyData.str (List.map (fun c => (⟨#[c]⟩ : Str)) []) = [] from rfl, eqv_nil] at hne
              cases hne
            | cons c r => exact Nat.succ_pos _
          have d7 := d6.new (o := .lst []) hp
          refine ⟨rfl, _, rfl, ⟨rfl, signs, rfl, Nat.le_of_lt (small1000 alpha2.2.1), ?_⟩⟩
          refine ⟨_, st, 3 + j, _, rfl, d7, by omega, by have := alpha2.1; omega, size_small alpha2, fun z H8 z0 z1 d8 => ?_⟩
          obtain ⟨c, ec, c1⟩ := alpha2.at z0 z1
          have eD8 : H8 D = some (.lst (cs.map sgn)) := by
            refine d8.same _ _ ?_
            rw [upd_ne (ne_of_none e6 hp)]
            exact upd_same
          refine ⟨signs, z, c, rfl, rfl, Nat.le_of_lt (small1000 alpha2.2.1), ec, ?_⟩
          refine ⟨_, rfl, _, rfl, _, rfl, D, _, rfl, .inl (SqL.of eD8), ?_⟩
          refine ⟨_, st, 3 + j + 1, _, rfl, d8, by omega, by rw [List.length_map]; omega, by rw [List.length_map]; exact Int.lt_of_le_of_lt (b := 100) (by omega) (by decide), fun u H9 u0 u1 d9 => ?_⟩
          rw [List.length_map] at u1
          obtain ⟨m, rfl⟩ : ∃ m : Nat, u = (m : Int) := ⟨u.toNat, by omega⟩
          have eD9 : H9 D = some (.lst (cs.map sgn)) := by
            refine d9.same _ _ ?_
            rw [upd_ne (ne_of_none e6 hp)]
            exact upd_same
          refine ⟨D, _, _, m, rfl, rfl, eD9, by rw [List.length_map]; exact ix_nat (by omega), cs.set m c, rfl, by rw [List.length_set]; omega, ?_, ?_⟩
          · intro x hx
            rcases List.mem_or_eq_of_mem_set hx with hx | hx
            · exact hb x hx
            · rw [hx]; exact c1
          · rw [upd_same, List.map_set]
            rfl
        · exact ⟨cs, rfl, by omega, hb, e7⟩
      · exact ⟨cs, rfl, by omega, hb, e6⟩
    rintro σ H7 ⟨cs, rfl, hc, hb, e7⟩
    -- word = ''.join(chars)
    refine ⟨⟨_, rfl⟩, _, rfl, ⟨#[]⟩, D, cs.map fun c => (⟨#[c]⟩ : Str), rfl, rfl, .inl (SqL.of (by rw [← sgn_map]; exact e7)), ?_, ?_⟩
    · rw [sum_ones]
      show cs.length + _ * 0 ≤ _
      omega
    rw [join_cps]
    have hw : (⟨cs.toArray⟩ : Str).length ≤ 1000 := by
      show cs.toArray.size ≤ 1000
      rw [List.size_toArray]
      omega
    -- actual = valid_name(word)
    refine ⟨_, rfl, ⟨cs.toArray⟩, rfl, hw, hb, fun H8 s8 => ?_⟩
    -- a bool, as the law reckons
    refine ⟨_, rfl, .bl (vn ⟨cs.toArray⟩), .ty "bool", .type "bool", .type "bool", true, rfl, .ty _, .base (.bl _), kit_ty (by decide +kernel), true, rfl, iteF ?_⟩
    refine ⟨_, rfl, _, rfl, ⟨cs.toArray⟩, rfl, hw, hb, fun H9 s9 => ?_⟩
    refine ⟨rfl, _, rfl, iteNS rfl ?_⟩
    -- the same turned round
    have hwl : (⟨cs.toArray⟩ : Str).length ≤ sizeLine := Nat.le_of_lt (small1000 hw)
    have hr2 : (revS ⟨cs.toArray⟩).length ≤ 1000 := by
      rw [len_of, rev_list, List.length_reverse]
      omega
    have hb2 : ∀ c ∈ (revS ⟨cs.toArray⟩).cps.toList, c < 128 := by
      rw [rev_list]
      intro c hc
      exact hb c (List.mem_reverse.mp hc)
    refine ⟨_, rfl, ⟨cs.toArray⟩, rfl, hwl, revS ⟨cs.toArray⟩, rfl, hr2, hb2, fun H10 s10 => ?_⟩
    refine ⟨_, rfl, ⟨cs.toArray⟩, rfl, hwl, revS ⟨cs.toArray⟩, rfl, hr2, hb2, fun H11 s11 => ?_⟩
    refine ⟨rfl, ?_⟩
    rw [decide_eq_true rfl]
    exact k _
end
theorem all_mk {l : PySem.W.OpenLaw} {w : World} {K : PySem.W.Frag} {h : Heap} {mg : Str → Option Value} {fa f1 f2 f3 f4 f5 f6 : Addr} (X : K.In h) (G : h.Ns mainGlobals mg) (hfa : mg "law" = some (.ref fa))
    {od1 an1 od2 an2 od3 an3 od4 an4 od5 an5 od6 an6 : Option Addr} {sl1 sl2 sl3 sl4 sl5 sl6 : Array (Option Value)} {oc1 kV1 dc1 pm1 cd1 ct1 oc2 kV2 dc2 pm2 cd2 ct2 oc3 kV3 dc3 pm3 cd3 ct3 oc4 kV4 dc4 pm4 cd4 ct4 oc5 kV5 dc5 pm5 cd5 ct5 oc6 kV6 dc6 pm6 cd6 ct6 : Value}
    {t_DIGITS t_LETTERS t_LONGEST_NAME : Tok}
    (a1 : PySem.W.nsIn K mainGlobals "valid_name" = some (some (.ref f1))) (l1 : K.lookup f1 = some ⟨oc1, od1, .func (PySem.W.fnOf "valid_name" "valid_name" (defArgs s_valid_name) (defBody s_valid_name) (defScope s_valid_name) .none kV1 dc1 pm1 an1 cd1 ct1), sl1⟩) (c1 : PySem.W.codeIn K cd1 "valid_name" = true) (k1 : PySem.W.keepIn K (.ref f1) = true)
    (a2 : PySem.W.nsIn K mainGlobals "_law_start" = some (some (.ref f2))) (l2 : K.lookup f2 = some ⟨oc2, od2, .func (PySem.W.fnOf "_law_start" "_law_start" (defArgs s_start) (defBody s_start) (defScope s_start) .none kV2 dc2 pm2 an2 cd2 ct2), sl2⟩) (c2 : PySem.W.codeIn K cd2 "_law_start" = true) (k2 : PySem.W.keepIn K (.ref f2) = true)
    (a3 : PySem.W.nsIn K mainGlobals "_law_draw" = some (some (.ref f3))) (l3 : K.lookup f3 = some ⟨oc3, od3, .func (PySem.W.fnOf "_law_draw" "_law_draw" (defArgs s_draw) (defBody s_draw) (defScope s_draw) .none kV3 dc3 pm3 an3 cd3 ct3), sl3⟩) (c3 : PySem.W.codeIn K cd3 "_law_draw" = true) (k3 : PySem.W.keepIn K (.ref f3) = true)
    (a4 : PySem.W.nsIn K mainGlobals "_law_signs" = some (some (.ref f4))) (l4 : K.lookup f4 = some ⟨oc4, od4, .func (PySem.W.fnOf "_law_signs" "_law_signs" (defArgs s_signs) (defBody s_signs) (defScope s_signs) .none kV4 dc4 pm4 an4 cd4 ct4), sl4⟩) (c4 : PySem.W.codeIn K cd4 "_law_signs" = true) (k4 : PySem.W.keepIn K (.ref f4) = true)
    (a5 : PySem.W.nsIn K mainGlobals "_law_good" = some (some (.ref f5))) (l5 : K.lookup f5 = some ⟨oc5, od5, .func (PySem.W.fnOf "_law_good" "_law_good" (defArgs s_good) (defBody s_good) (defScope s_good) .none kV5 dc5 pm5 an5 cd5 ct5), sl5⟩) (c5 : PySem.W.codeIn K cd5 "_law_good" = true) (k5 : PySem.W.keepIn K (.ref f5) = true)
    (a6 : PySem.W.nsIn K mainGlobals "law" = some (some (.ref f6))) (l6 : K.lookup f6 = some ⟨oc6, od6, .func (PySem.W.fnOf "law" "law" (defArgs s_law) (defBody s_law) (defScope s_law) .none kV6 dc6 pm6 an6 cd6 ct6), sl6⟩) (c6 : PySem.W.codeIn K cd6 "law" = true) (k6 : PySem.W.keepIn K (.ref f6) = true)
    (q_DIGITS : PySem.W.nsIn K mainGlobals "DIGITS" = some (some (.str ("0123456789" : Str) t_DIGITS)))
    (q_LETTERS : PySem.W.nsIn K mainGlobals "LETTERS" = some (some (.str ("abcdefghijklmnopqrstuvwxyz" : Str) t_LETTERS)))
    (q_LONGEST_NAME : PySem.W.nsIn K mainGlobals "LONGEST_NAME" = some (some (.int 6 t_LONGEST_NAME)))
    (z_abs : PySem.W.nsIn K mainGlobals "abs" = some none)
    (z_all : PySem.W.nsIn K mainGlobals "all" = some none)
    (z_bool : PySem.W.nsIn K mainGlobals "bool" = some none)
    (z_int : PySem.W.nsIn K mainGlobals "int" = some none)
    (z_isinstance : PySem.W.nsIn K mainGlobals "isinstance" = some none)
    (z_len : PySem.W.nsIn K mainGlobals "len" = some none)
    (z_list : PySem.W.nsIn K mainGlobals "list" = some none)
    (z_range : PySem.W.nsIn K mainGlobals "range" = some none)
    : ∃ fd : FuncData, (∀ (s : Shared) (v : Value), BindsTo s fd ⟨[v], []⟩ [("_law_script", v)]) ∧ ∀ base : Heap, K.In base → base.Ns mainGlobals mg → FnOk l.prog w K mg base CX0 2 fa fd ["_law_script"] (spLaw K) := by
  have e := hfa.symm.trans (PySem.W.mg_of X G a6)
  cases e
  have F1 := fun_mk (st := s_valid_name) l1 c1 k1
  have b1 := F1.binds (ps := ["text"]) fun _ _ _ _ _ _ us hl => match us, hl with | [_], _ => rfl
  have F2 := fun_mk (st := s_start) l2 c2 k2
  have b2 := F2.binds (ps := ["_law_script"]) fun _ _ _ _ _ _ us hl => match us, hl with | [_], _ => rfl
  have F3 := fun_mk (st := s_draw) l3 c3 k3
  have b3 := F3.binds (ps := ["_law_state", "_law_size"]) fun _ _ _ _ _ _ us hl => match us, hl with | [_, _], _ => rfl
  have F4 := fun_mk (st := s_signs) l4 c4 k4
  have b4 := F4.binds (ps := []) fun _ _ _ _ _ _ us hl => match us, hl with | [], _ => rfl
  have F5 := fun_mk (st := s_good) l5 c5 k5
  have b5 := F5.binds (ps := ["_law_word"]) fun _ _ _ _ _ _ us hl => match us, hl with | [_], _ => rfl
  have F6 := fun_mk (st := s_law) l6 c6 k6
  have kb_valid_name_0_text : KBinds K _ ["text"] ["text"] kAll kAll := kbinds_all (fd := PySem.W.fnOf "valid_name" "valid_name" (defArgs s_valid_name) (defBody s_valid_name) (defScope s_valid_name) .none kV1 dc1 pm1 an1 cd1 ct1) (by decide) fun _ ws _ hl => match ws, hl with | [_], _ => .of_eq rfl
  have T : Txt K mg := {
    f_valid_name := f1, d_valid_name := _, F_valid_name := F1, m_valid_name := PySem.W.mg_of X G a1, b_valid_name := b1,
    f_start := f2, d_start := _, F_start := F2, m_start := PySem.W.mg_of X G a2, b_start := b2,
    f_draw := f3, d_draw := _, F_draw := F3, m_draw := PySem.W.mg_of X G a3, b_draw := b3,
    f_signs := f4, d_signs := _, F_signs := F4, m_signs := PySem.W.mg_of X G a4, b_signs := b4,
    f_good := f5, d_good := _, F_good := F5, m_good := PySem.W.mg_of X G a5, b_good := b5,
    kb_valid_name_0_text := kb_valid_name_0_text,
    t_DIGITS := t_DIGITS, c_DIGITS := PySem.W.mg_of X G q_DIGITS,
    t_LETTERS := t_LETTERS, c_LETTERS := PySem.W.mg_of X G q_LETTERS,
    t_LONGEST_NAME := t_LONGEST_NAME, c_LONGEST_NAME := PySem.W.mg_of X G q_LONGEST_NAME,
    n_abs := PySem.W.mg_none_of X G z_abs,
    n_all := PySem.W.mg_none_of X G z_all,
    n_bool := PySem.W.mg_none_of X G z_bool,
    n_int := PySem.W.mg_none_of X G z_int,
    n_isinstance := PySem.W.mg_none_of X G z_isinstance,
    n_len := PySem.W.mg_none_of X G z_len,
    n_list := PySem.W.mg_none_of X G z_list,
    n_range := PySem.W.mg_none_of X G z_range }
  exact ⟨PySem.W.fnOf "law" "law" (defArgs s_law) (defBody s_law) (defScope s_law) .none kV6 dc6 pm6 an6 cd6 ct6, fun s v => .of_eq rfl, fun base _ _ => ok_law T F6⟩
end My
open PySem PySem.W PyProof.Rows
set_option maxRecDepth 100000 in
set_option maxHeartbeats 0 in
theorem PySem.Challenge.cw_extralink_k01_valid_names_holds : PySem.Challenge.rw_extralink_k01_valid_names.Holds := by
  w_on; o_law; k_head; (case hw => w_witness2)
  k_fill
  refine L2.walk_of (l := PySem.Challenge.rw_extralink_k01_valid_names) (n := 63) (k := 2) (x := "_law_script") (CX := fun _ => L2.CX0) (sp := fun w => My.spLaw _) rfl (by decide) rfl ⟨rfl, by decide, by decide⟩ (fun w h Y => PySem.W.kIn_of Y) ?F (fun _ _ a ns hl _ hS => ⟨a, ns, rfl, hS, hl, fun _ => rfl⟩) (fun _ _ _ _ _ h => h)
  case F =>
    intro w mg fa h KX G hmg
    refine' My.all_mk KX G hmg ?a1 ?l1 ?c1 ?k1 ?a2 ?l2 ?c2 ?k2 ?a3 ?l3 ?c3 ?k3 ?a4 ?l4 ?c4 ?k4 ?a5 ?l5 ?c5 ?k5 ?a6 ?l6 ?c6 ?k6 ?q_DIGITS ?q_LETTERS ?q_LONGEST_NAME ?z_abs ?z_all ?z_bool ?z_int ?z_isinstance ?z_len ?z_list ?z_range
    (case a1 => k_is)
    (case l1 => k_is)
    (case c1 => k_is)
    (case k1 => k_is)
    (case a2 => k_is)
    (case l2 => k_is)
    (case c2 => k_is)
    (case k2 => k_is)
    (case a3 => k_is)
    (case l3 => k_is)
    (case c3 => k_is)
    (case k3 => k_is)
    (case a4 => k_is)
    (case l4 => k_is)
    (case c4 => k_is)
    (case k4 => k_is)
    (case a5 => k_is)
    (case l5 => k_is)
    (case c5 => k_is)
    (case k5 => k_is)
    (case a6 => k_is)
    (case l6 => k_is)
    (case c6 => k_is)
    (case k6 => k_is)
    (case q_DIGITS => k_is)
    (case q_LETTERS => k_is)
    (case q_LONGEST_NAME => k_is)
    (case z_abs => k_is)
    (case z_all => k_is)
    (case z_bool => k_is)
    (case z_int => k_is)
    (case z_isinstance => k_is)
    (case z_len => k_is)
    (case z_list => k_is)
    (case z_range => k_is)
