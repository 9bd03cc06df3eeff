import PyProof.Rows.All
import Wide.All
import OpenK.AllK
import Wide.FinOn
import PyProof.Rows.SeqMore
import HandS.ForMost
import HandS.Exc
import HandS.TryOnly
import HandS.ExcOwn
import HandS.WordsExc
import HandS.IsInst
import HandS.Wide
import HandS.TupAny
import HandS.Flow
import HandS.FStr
import HandS.NoneIn
import HandS.SortKw
import HandS.Codes
import HandS.Steps
import HandS.DictComp
import HandS.WordsDict
import HandS.More
import HandS.Walk
import HandS.Star
import HandS.Deep
import HandS.ExcIs
import HandS.Zip
import HandS.GenList
import HandS.GenCall
import HandS.TryMany
import KE.SortData
import PySem.Challenge.RW_legion_k51_wide_moves
set_option Elab.async false
set_option linter.all false
set_option maxRecDepth 100000
namespace My
open PySem PySem.Spec PyProof.Rows L2
/-! ### lists that are read only, joined -/
def rCatS (K : PySem.W.Frag) : R2 := fun x y H Q => ∃ l b xs zs, x = .ref l ∧ y = .ref b ∧ SqL K H l xs ∧ SqL K H b zs ∧ xs.length + zs.length ≤ sizeLine ∧ ∀ p, H p = none → Q (.ref p) (upd H p (.lst (xs ++ zs)))
theorem op_catS {X : Cx} : OpR X (binaryOp .Add) (rCatS X.K) := by
  intro pins s σ H x y v u Q I rx ry h
  obtain ⟨l, b, xs, zs, rfl, rfl, hH, hB, hz, q⟩ := h
  cases rx
  cases ry
  obtain ⟨its, r, pl, z⟩ := I.list hH
  obtain ⟨its2, r2, pl2, z2⟩ := I.list hB
  have hl := r.length
  have hl2 := r2.length
  obtain ⟨⟨cls, dd, data, sl⟩, ho, hc, n, hd⟩ := pl.isList
  obtain ⟨⟨cls2, dd2, data2, sl2⟩, ho2, hc2, n2, hd2⟩ := pl2.isList
  simp only at hc hd hc2 hd2
  subst hc hd hc2 hd2
  have ea : its.toArray ++ its2.toArray = (its ++ its2).toArray := by simp
  refine concat_meets ⟨_, ho, rfl⟩ ⟨_, ho2, rfl⟩ noFill_list_add seq_list_add PySem.F.slot_list_add PySem.F.entry_list_add (PySem.F.args_list_add_2 _ _) (list_addW l b its.toArray its2.toArray n n2 dd dd2 sl sl2 (by rw [List.size_toArray, List.size_toArray]; omega)) ⟨ho, ho2, ?_⟩
  rw [ea]
  exact ⟨.ref _, _, I.lnew (t' := s.toks) (r.append r2) (by rw [List.length_append]; omega), rfl, q _ I.fresh⟩
/-- is True, is False, of anything -/
def rIsBl : R2 := fun x y H Q => ∃ b, y = .bl b ∧ Q (.bl (decide (x = .bl b))) H
theorem op_isBv {X : Cx} : OpR X (compareOp .Is) rIsBl := by
  intro pins s σ H x y v u Q I rx ry h
  obtain ⟨b, rfl, q⟩ := h
  cases (show u = Value.bool b from ry)
  have go : ∀ v : Value, plainIs v (.bool b) = true → (v == Value.bool b) = decide (x = .bl b) → wpAny (model X.prog X.w) X.A (compareOp .Is v (.bool b)) (EP X pins σ Q) X.xe s := fun v hp e =>
    wpAny_is_plain hp (by rw [e]; exact ⟨.bl _, H, I, rfl, q⟩)
  cases x with
  | bl c =>
    cases (show v = Value.bool c from rx)
    refine go _ rfl ?_
    cases b <;> cases c <;> rfl
  | non => cases (show v = Value.none from rx); exact go _ rfl rfl
  | int i => obtain ⟨t, rfl⟩ := (show ∃ t, v = Value.int i t from rx); exact go _ rfl rfl
  | str i => obtain ⟨t, rfl⟩ := (show ∃ t, v = Value.str i t from rx); exact go _ rfl rfl
  | byt i => obtain ⟨t, rfl⟩ := (show ∃ t, v = Value.bytes i t from rx); exact go _ rfl rfl
  | flt i => obtain ⟨t, rfl⟩ := (show ∃ t, v = Value.float i t from rx); exact go _ rfl rfl
  | ref a => cases (show v = Value.ref a from rx); exact go _ rfl rfl
  | ty a => cases (show v = Value.type a from rx); exact go _ rfl rfl
/-! ### rules with the written part named -/
section
variable {X : Cx} (K : PySem.W.Frag)
theorem ixL (h : X.K = K := by rfl) : IxR X (rIxL K) := h ▸ ix_list
theorem ixT (h : X.K = K := by rfl) : IxR X (rIxT K) := h ▸ ix_tup
theorem ixQ (h : X.K = K := by rfl) : IxR X (rIx K) := h ▸ ix_seq
theorem opIn (h : X.K = K := by rfl) : OpR X (compareOp .In) (rIn K false) := h ▸ op_in_seq
theorem opNotIn (h : X.K = K := by rfl) : OpR X (compareOp .NotIn) (rIn K true) := h ▸ op_notIn_seq
theorem opCat (h : X.K = K := by rfl) : OpR X (binaryOp .Add) (rCatS K) := h ▸ op_catS
theorem opCatT (h : X.K = K := by rfl) : OpR X (binaryOp .Add) (rCatA K) := h ▸ op_catA
theorem opEqD (hu : X.A.units + 64 < cLine) (h : X.K = K := by rfl) : OpR X (compareOp .Eq) (rEqD K) := h ▸ op_eqD hu
theorem opNeD (hu : X.A.units + 64 < cLine) (h : X.K = K := by rfl) : OpR X (compareOp .NotEq) (rNeD K) := h ▸ op_neD hu
theorem slL (h : X.K = K := by rfl) : SlR X (rSlL K) := h ▸ sl_list
theorem slT (h : X.K = K := by rfl) : SlR X (rSlT K) := h ▸ sl_tup
def rLenQ (K : PySem.W.Frag) : List V → Hp → VK → Prop := fun xs H Q => ∃ p ys, xs = [.ref p] ∧ (SqL K H p ys ∨ SqT K H p ys) ∧ Q (.int ys.length) H
theorem cLen (h : X.K = K := by rfl) : CallR X (.builtin "len") (rLenQ K) := h ▸ call_len_seq
def rListQ (K : PySem.W.Frag) : List V → Hp → VK → Prop := fun xs H Q => ∃ p ys, xs = [.ref p] ∧ (SqL K H p ys ∨ SqT K H p ys) ∧ ∀ l, H l = none → Q (.ref l) (upd H l (.lst ys))
theorem cList (h : X.K = K := by rfl) : CallR X (.type "list") (rListQ K) := h ▸ call_list_of
theorem cSum (hc : X.calm = true) (h : X.K = K := by rfl) : CallR X (.builtin "sum") (rSum K) := h ▸ cr_sum hc
theorem cAll (hc : X.calm = true) (h : X.K = K := by rfl) : CallR X (.builtin "all") (rAll K) := h ▸ cr_all hc
theorem cAny (hc : X.calm = true) (h : X.K = K := by rfl) : CallR X (.builtin "any") (rAny K) := h ▸ cr_any hc
theorem cIsi (h : X.K = K := by rfl) : CallR X (.builtin "isinstance") (rIsi K) := h ▸ call_isi
theorem peBm {T name id : String} {r : V → List V → Hp → VK → Prop} {to : TE} {t : TA} {o e : Expr} {es : List Expr} {apos cpos : Pos} (pa : PlainAttrs T) (slot : Slot T name id) (hty : typeOf (.builtin id) = pure (.type "method_descriptor")) (hm : MtR X id r) (ho : PE X o to) (ha : PA X (e :: es) t) (h : X.K = K := by rfl)
    (hbase : attributeBase o name X.env (eval o X.env) = eval o X.env := by rfl)
    (hfew : ((backTo cpos (starEach (e :: es) X.env)).all (fun x => !x.1) && (backToKw cpos (keywordEach [] X.env)).all (fun x => x.1.isSome)
      && decide ((e :: es).length + ([] : List Keyword).length + (if ([] : List Keyword).isEmpty then 0 else 1) < 30)) = true := by rfl)
    (hline : (apos.endLine == cpos.line) = true := by rfl) (hs : starEach (e :: es) X.env = (false, eval e X.env) :: starEach es X.env := by rfl) (hplain : (backTo cpos (starEach es X.env)).any (·.1) = false := by rfl) :
    PE X (.Call (.Attribute o name apos) (e :: es) [] cpos) (tBM K T r to t) := h ▸ pe_bm pa slot hty hm ho ha hbase hfew hline hs hplain
def tTruK (K : PySem.W.Frag) (ta : TE) : TT := fun σ H Q => ta σ H fun x H' => ∃ k, TruV K x H' k ∧ Q k H'
theorem ptTru {a : Expr} {ta : TE} (ha : PE X a ta) (he : ∀ whole, isTrue a X.env whole = (do let v ← whole; standAt a.pos; holding [v] (truthy v))) (h : X.K = K := by rfl) : PT X a (tTruK K ta) := h ▸ pt_truth ha he
theorem piL {tg l : Expr} {tl : TE} (hl : PE X l tl) (h : X.K = K := by rfl) : PI X tg l (iList K tl) := h ▸ pi_list hl
theorem piT {tg l : Expr} {tl : TE} (hl : PE X l tl) (h : X.K = K := by rfl) : PI X tg l (iTup K tl) := h ▸ pi_tup hl
end
/-! ### a def that is known -/
structure Fd (P : Program) (w : World) (K : PySem.W.Frag) (mg : Str → Option Value) (base : Heap) (x : Str) (ps : List Str) (k : Nat) (sp : Sp) : Prop where
  ex : ∃ (f : Addr) (fd : FuncData), FnOk P w K mg base CX0 k f fd ps sp ∧ mg x = some (.ref f) ∧ PySem.W.keepIn K (.ref f) = true ∧ Binds K fd ps []
theorem pe_fn {X : Cx} {x : Str} {ps : List Str} {k : Nat} {sp : Sp} {e : Expr} {es : List Expr} {t : TA} {p pos : Pos} (F : Fd X.prog X.w X.K X.mg X.base x ps k sp) (hr : Room k X.A) (hg : Gl X x) (ha : PA X (e :: es) t)
    (hdb : (x == ("__debug__" : Str)) = false := by decide) (he : starEach (e :: es) X.env = (false, eval e X.env) :: starEach es X.env := by rfl) (hpl : (backTo pos (starEach es X.env)).any (·.1) = false := by rfl) :
    PE X (.Call (.Name x p) (e :: es) [] pos) (tCall sp [] E0 t) := by
  obtain ⟨f, fd, G, m, kp, b⟩ := F.ex
  exact pe_call G hr hg m kp b .nil pass0 ha hdb he hpl
/-- the built-ins stand as they were -/
structure Bt (mg : Str → Option Value) : Prop where
  len : mg "len" = none
  int : mg "int" = none
  abs : mg "abs" = none
  range : mg "range" = none
  min : mg "min" = none
  str : mg "str" = none
  isinstance : mg "isinstance" = none
  bool : mg "bool" = none
  sum : mg "sum" = none
  list : mg "list" = none
  tuple : mg "tuple" = none
  repr : mg "repr" = none
  sorted : mg "sorted" = none
  enumerate : mg "enumerate" = none
  zip : mg "zip" = none
  all : mg "all" = none
  dict : mg "dict" = none
  max : mg "max" = none
  set : mg "set" = none
  ValueError : mg "ValueError" = none
/-! ### heaps -/
theorem same_new {H : Hp} {p : Addr} {o : HO} (h : H p = none) : Same H (upd H p o) := fun b x e => by
  rw [upd_ne (ne_of_none e h)]
  exact e
/-- an object that H does not know may change -/
theorem Same.mut {H H' : Hp} {p : Addr} {o : HO} (e : Same H H') (h : H p = none) : Same H (upd H' p o) := fun a u ha => by
  rw [upd_ne (ne_of_none ha h)]
  exact e a u ha
theorem sq {K : PySem.W.Frag} {H : Hp} {a : Addr} {xs : List V} (h : H a = some (.lst xs)) : SqL K H a xs := .inl (.inl h)
theorem st {K : PySem.W.Frag} {H : Hp} {a : Addr} {xs : List V} (h : H a = some (.tup xs)) : SqT K H a xs := .inl (.inl h)
theorem sz {n : Nat} (h : n ≤ 100000) : n ≤ sizeLine := Nat.le_trans h (by decide)
theorem szl {n : Nat} (h : n < 100000) : n < sizeLine := Nat.lt_of_lt_of_le h (by decide)
theorem Same.seqT {K : PySem.W.Frag} {H H' : Hp} {a : Addr} {xs : List V} (e : Same H H') (h : SqT K H a xs) : SqT K H' a xs := by
  rcases h with (h | ⟨o, h⟩) | h
  · exact .inl (.inl (e _ _ h))
  · exact .inl (.inr ⟨o, e _ _ h⟩)
  · exact .inr h
/-! ### numbers drawn below limits -/
def DOk : List Int → List Int → Prop
  | [], [] => True
  | d :: ds, m :: ms => (0 ≤ d ∧ d < m) ∧ DOk ds ms
  | _, _ => False
theorem DOk.snoc : ∀ {ds ms : List Int} {d m : Int}, DOk ds ms → 0 ≤ d → d < m → DOk (ds ++ [d]) (ms ++ [m])
  | [], [], _, _, _, h0, h1 => ⟨⟨h0, h1⟩, trivial⟩
  | [], _ :: _, _, _, h, _, _ => h.elim
  | _ :: _, [], _, _, h, _, _ => h.elim
  | _ :: _, _ :: _, _, _, h, h0, h1 => ⟨h.1, DOk.snoc h.2 h0 h1⟩
theorem DOk.len : ∀ {ds ms : List Int}, DOk ds ms → ds.length = ms.length
  | [], [], _ => rfl
  | [], _ :: _, h => h.elim
  | _ :: _, [], h => h.elim
  | _ :: _, _ :: _, h => by rw [List.length_cons, List.length_cons, DOk.len h.2]
theorem DOk.at : ∀ {ds ms : List Int} {i : Nat} {m : Int}, DOk ds ms → ms[i]? = some m → ∃ d, ds[i]? = some d ∧ 0 ≤ d ∧ d < m
  | [], [], _, _, _, e => by simp at e
  | [], _ :: _, _, _, h, _ => h.elim
  | _ :: _, [], _, _, h, _ => h.elim
  | d :: _, _ :: _, 0, m, h, e => ⟨d, rfl, h.1.1, by have := Option.some.inj e; rw [← this]; exact h.1.2⟩
  | _ :: ds, _ :: ms, i + 1, m, h, e => DOk.at (ds := ds) (ms := ms) (i := i) h.2 e
theorem DOk.cons {ds ms : List Int} {m : Int} (h : DOk ds (m :: ms)) : ∃ d r, ds = d :: r ∧ 0 ≤ d ∧ d < m ∧ DOk r ms := by
  cases ds with
  | nil => exact h.elim
  | cons d r => exact ⟨d, r, rfl, h.1.1, h.1.2, h.2⟩
theorem DOk.nil {ds : List Int} (h : DOk ds []) : ds = [] := by
  cases ds with
  | nil => rfl
  | cons d r => exact h.elim
theorem get_map {α : Type} {f : α → V} {xs : List α} {i : Nat} {x : α} (h : xs[i]? = some x) : (xs.map f)[i]? = some (f x) := by
  rw [List.getElem?_map, h]; rfl
theorem get_map_inv {α : Type} {f : α → V} {xs : List α} {i : Nat} {v : V} (h : (xs.map f)[i]? = some v) : ∃ x, xs[i]? = some x ∧ v = f x := by
  rw [List.getElem?_map] at h
  cases e : xs[i]? with
  | none => rw [e] at h; cases h
  | some x => rw [e] at h; exact ⟨x, rfl, (Option.some.inj h).symm⟩
theorem fmod_pos {a m : Int} (h : 0 < m) : 0 ≤ a.fmod m ∧ a.fmod m < m := ⟨Int.fmod_nonneg_of_pos a h, Int.fmod_lt_of_pos a h⟩
theorem take_snoc {α : Type} {xs : List α} {i : Nat} {x : α} (h : xs[i]? = some x) : xs.take (i + 1) = xs.take i ++ [x] := by
  rw [List.take_add_one, h]; rfl
end My
namespace My
open PySem PySem.Spec PyProof.Rows L2
def topS (i : Nat) : Stmt := PySem.Challenge.pw_legion_k51_wide_moves.main.body.getD i (.Pass ⟨0, 0, 0, 0⟩)
theorem atI_in {α : Type} {xs : List α} {i : Int} (h0 : 0 ≤ i) (h1 : i < xs.length) : ∃ v, atI xs i = some v ∧ v ∈ xs := by
  obtain ⟨n, rfl⟩ := Int.eq_ofNat_of_zero_le h0
  have hn : n < xs.length := by omega
  exact ⟨xs[n], atI_nat (List.getElem?_eq_getElem hn), List.getElem_mem hn⟩
theorem atI_map {α : Type} {f : α → V} {xs : List α} {i : Int} (h0 : 0 ≤ i) (h1 : i < xs.length) : ∃ v, atI (xs.map f) i = some (f v) ∧ v ∈ xs ∧ xs[i.toNat]? = some v := by
  obtain ⟨n, rfl⟩ := Int.eq_ofNat_of_zero_le h0
  have hn : n < xs.length := by omega
  exact ⟨xs[n], atI_nat (get_map (List.getElem?_eq_getElem hn)), List.getElem_mem hn, List.getElem?_eq_getElem hn⟩
theorem len_app (a b : Str) : (a ++ b).length = a.length + b.length := by
  show (a.cps ++ b.cps).size = a.cps.size + b.cps.size
  exact Array.size_append
theorem len_join0 : ∀ (parts : List Str), (∀ p ∈ parts, p.length = 1) → (Txt.join (Str.ofString "") parts).length = parts.length := by
  intro parts h
  have e : ∀ parts : List Str, (∀ p ∈ parts, p.length = 1) → (TL.joinL [] (parts.map TL.tl)).length = parts.length := by
    intro parts
    induction parts with
    | nil => intro _; rfl
    | cons p r ih =>
      intro h
      have hp : (TL.tl p).length = 1 := by
        have := h p List.mem_cons_self
        rw [← this]
        exact Array.length_toList
      have hr := ih fun q hq => h q (List.mem_cons_of_mem _ hq)
      cases r with
      | nil => show (TL.tl p).length = 1; exact hp
      | cons q r =>
        show (TL.tl p ++ ([] ++ TL.joinL [] ((q :: r).map TL.tl))).length = _
        rw [List.length_append, List.nil_append, hr, hp, List.length_cons (a := p)]
        omega
  have e2 := TL.tl_join (Str.ofString "") parts
  rw [← TL.join_eq] at e2
  have e3 : (Txt.join (Str.ofString "") parts).length = (TL.tl (Txt.join (Str.ofString "") parts)).length := Array.length_toList.symm
  rw [e3, e2, show TL.tl (Str.ofString "") = [] by decide +kernel]
  exact e parts h
theorem len_digits : ∀ k : Nat, k < 60 → ((toString (k : Int) : String) |> fun s => (Str.ofString s).length) ≤ 2 := by
  intro k hk
  have : ∀ k : Fin 60, ((toString ((k : Nat) : Int) : String) |> fun s => (Str.ofString s).length) ≤ 2 := by decide +kernel
  exact this ⟨k, hk⟩
/-! ### tests that leave the heap -/
theorem ansOr {t u : TT} {σ : L2.St} {H : Hp} {a b : Bool} (ha : Ans t σ H a) (hb : Ans u σ H b) : Ans (tOr t u) σ H (a || b) := fun Q q => ha _ (by
  cases a with
  | true => exact iteT q
  | false => exact iteF (hb Q q))
theorem ansAnd {t u : TT} {σ : L2.St} {H : Hp} {a b : Bool} (ha : Ans t σ H a) (hb : Ans u σ H b) : Ans (tAnd t u) σ H (a && b) := fun Q q => ha _ (by
  cases a with
  | true => exact iteT (hb Q q)
  | false => exact iteF q)
theorem ifS {c : TT} {t u : TS} {D : Ends} {σ : L2.St} {H : Hp} {b : Bool} (h : Ans c σ H b) (ht : b = true → t D σ H) (hu : b = false → u D σ H) : tIfS c t u D σ H := h _ (by
  cases b with
  | true => exact iteT (ht rfl)
  | false => exact iteF (hu rfl))
theorem sum_ones : ∀ {ss : List Str}, (∀ s ∈ ss, s.length = 1) → (ss.map (·.length)).sum = ss.length
  | [], _ => rfl
  | s :: r, h => by
    rw [List.map_cons, List.sum_cons, sum_ones fun x hx => h x (List.mem_cons_of_mem _ hx), h s List.mem_cons_self, List.length_cons]
    omega
theorem flat_strs (ss : List Str) : (ss.map V.str).all flatV = true := by
  rw [List.all_eq_true]
  intro v hv
  obtain ⟨s, _, rfl⟩ := List.mem_map.mp hv
  rfl
theorem szc (n : Nat) {xs : List V} (h : xs.length = n := by rfl) (hn : n ≤ 100000 := by decide) : xs.length ≤ sizeLine := by rw [h]; exact sz hn
theorem ansIsi {K : PySem.W.Frag} {te : TE} {σ : L2.St} {H : Hp} {x : V} {T T2 : String} {b : Bool} (hx : ∀ Q : VK, Q x H → te σ H Q) (ty : TyX K H x (.type T)) (hb : kitB T T2 = some b) :
    Ans (tB (tCB (rIsi K) (tCons te (tCons (tC (.ty T2)) tNil)))) σ H b := fun Q q => hx _ ⟨x, _, _, _, b, rfl, .ty T2, ty, kit_ty hb, _, rfl, q⟩
theorem ansTo {t : TT} {σ : L2.St} {H : Hp} {b b' : Bool} (h : Ans t σ H b) (e : b = b') : Ans t σ H b' := e ▸ h
/-- lo <= x <= hi over whole numbers -/
theorem ansChain {ta tb tc : TE} {σ : L2.St} {H : Hp} {i j k : Int} (ha : Val ta σ H (.int i)) (hb : Val tb σ H (.int j)) (hc : Val tc σ H (.int k)) :
    Ans (tTest (tChain (rI0 fun i j => .bl (decide (i ≤ j))) (rI0 fun i j => .bl (decide (i ≤ j))) ta tb tc)) σ H (decide (i ≤ j) && decide (j ≤ k)) := fun Q q =>
  ha _ (hb _ ⟨i, j, rfl, rfl, _, rfl, by
    by_cases h : i ≤ j
    · rw [if_pos (decide_eq_true h)]
      refine hc _ ⟨j, k, rfl, rfl, _, rfl, ?_⟩
      rw [decide_eq_true h, Bool.true_and] at q
      exact q
    · rw [if_neg (by rw [decide_eq_false h]; exact Bool.false_ne_true)]
      rw [decide_eq_false h, Bool.false_and] at q
      exact ⟨_, rfl, q⟩⟩)
theorem ifQ {c : TT} {t u r : TS} {D : Ends} {σ : L2.St} {H : Hp} {b : Bool} (h : Ans c σ H b) (ht : b = true → t { D with nx := r D } σ H) (hu : b = false → u { D with nx := r D } σ H) : tSeq (tIfS c t u) r D σ H := ifS (D := { D with nx := r D }) h ht hu
theorem noQ {c : TT} {t r : TS} {D : Ends} {σ : L2.St} {H : Hp} (h : Ans c σ H false) (q : r D σ H) : tSeq (tIfS c t tNext) r D σ H := ifQ h (fun z => nomatch z) fun _ => q
theorem noS {c : TT} {t : TS} {D : Ends} {σ : L2.St} {H : Hp} (h : Ans c σ H false) (q : D.nx σ H) : tIfS c t tNext D σ H := ifS h (fun z => nomatch z) fun _ => q
theorem ifR {c : TT} {t r : TS} {D : Ends} {σ : L2.St} {H : Hp} {b : Bool} (h : Ans c σ H b) (ht : b = true → t { D with nx := r D } σ H) (hu : b = false → r D σ H) : tSeq (tIfS c t tNext) r D σ H := ifQ h ht hu
theorem cutV_map {α : Type} (f : α → V) (xs : List α) (lo hi : Option Int) : ∃ ys : List α, cutV (xs.map f) lo hi = ys.map f ∧ ys.length ≤ xs.length ∧ ∀ y ∈ ys, y ∈ xs := by
  refine ⟨(xs.drop (HT.sIx (xs.map f).length 0 lo)).take (HT.sIx (xs.map f).length (xs.map f).length hi - HT.sIx (xs.map f).length 0 lo), ?_, ?_, ?_⟩
  · unfold cutV
    rw [List.map_take, List.map_drop]
  · rw [List.length_take, List.length_drop]
    omega
  · intro y hy
    exact List.mem_of_mem_drop (List.mem_of_mem_take hy)
theorem iteFx {c : Bool} {A B : Prop} (h : c = false) (q : B) : if c = true then A else B := by
  subst h
  exact iteF q
theorem iteTx {c : Bool} {A B : Prop} (h : c = true) (q : A) : if c = true then A else B := by
  subst h
  exact iteT q
/-! ### names -/
def lets : Str := Str.ofString "abcdefghijklmnopqrstuvwxyz"
def sgns : Str := Str.ofString "abcdefghijklmnopqrstuvwxyz0123456789"
def resv : List Str := ["share", "lock", "bell", "kind", "any", "local", "skip", "set", "acquire", "release", "rest", "wake", "start", "check", "await", "mark", "if", "else", "loop", "choose", "or", "end", "and", "not"].map Str.ofString
structure NmF (s : Str) : Prop where
  l1 : 1 ≤ s.length
  l20 : s.length ≤ 20
  hd : ∃ c r, s.cps.toList = c :: r ∧ c ∈ lets.cps.toList
  al : ∀ c ∈ s.cps.toList, c ∈ sgns.cps.toList
theorem str_len (s : Str) : s.cps.toList.length = s.length := Array.length_toList
theorem str_app (a b : Str) : (a ++ b).cps.toList = a.cps.toList ++ b.cps.toList := by
  show (a.cps ++ b.cps).toList = _
  exact Array.toList_append
theorem let_sgn {c : Nat} (h : c ∈ lets.cps.toList) : c ∈ sgns.cps.toList := by
  have e : sgns = lets ++ Str.ofString "0123456789" := by decide +kernel
  rw [e, str_app]
  exact List.mem_append_left _ h
theorem nmF_cons {s : Str} {c : Nat} {r : List Nat} (e : s.cps.toList = c :: r) (hc : c ∈ lets.cps.toList) (hr : ∀ x ∈ r, x ∈ sgns.cps.toList) (hl : r.length ≤ 19) : NmF s := by
  have := str_len s
  rw [e, List.length_cons] at this
  refine ⟨by omega, by omega, ⟨c, r, e, hc⟩, fun x hx => ?_⟩
  rw [e] at hx
  rcases List.mem_cons.mp hx with h | h
  · rw [h]; exact let_sgn hc
  · exact hr x h
def nmfB (l : List Nat) : Bool := match l with
  | [] => false
  | c :: r => decide (c ∈ lets.cps.toList) && (r.all fun x => decide (x ∈ sgns.cps.toList)) && decide (r.length ≤ 19)
theorem nmF_of {s : Str} (h : nmfB s.cps.toList = true) : NmF s := by
  cases e : s.cps.toList with
  | nil => rw [e] at h; cases h
  | cons c r =>
    rw [e] at h
    simp only [nmfB, Bool.and_eq_true, decide_eq_true_eq, List.all_eq_true] at h
    exact nmF_cons e h.1.1 h.1.2 h.2
def digL (i : Nat) : List Nat := (Str.ofString (toString (i : Int))).cps.toList
theorem dig_ok : ∀ i : Fin 31, (∃ c r, digL i = c :: r ∧ c ∉ lets.cps.toList) ∧ (∀ x ∈ digL i, x ∈ sgns.cps.toList) ∧ (digL i).length ≤ 2 := by
  have h : ∀ i : Fin 31, (match digL i with
    | [] => false
    | c :: _ => !decide (c ∈ lets.cps.toList)) = true ∧ ((digL i).all fun x => decide (x ∈ sgns.cps.toList)) = true ∧ (digL i).length ≤ 2 := by decide +kernel
  intro i
  obtain ⟨h1, h2, h3⟩ := h i
  refine ⟨?_, fun x hx => of_decide_eq_true (List.all_eq_true.mp h2 x hx), h3⟩
  cases e : digL i with
  | nil => rw [e] at h1; cases h1
  | cons c r => rw [e] at h1; exact ⟨c, r, rfl, by simpa using h1⟩
def letAt (j : Nat) : Nat := lets.cps.toList.getD j 0
theorem let_inj : ∀ a b : Fin 26, letAt a = letAt b → a = b := by decide +kernel
theorem let_in : ∀ a : Fin 26, letAt a ∈ lets.cps.toList := by decide +kernel
def candL (i j : Nat) : List Nat := letAt (j % 26) :: (digL i ++ if j < 26 then [] else [120])
theorem cand_f {i j : Nat} (hi : i < 31) (s : Str) (e : s.cps.toList = candL i j) : NmF s := by
  obtain ⟨_, h2, h3⟩ := dig_ok ⟨i, hi⟩
  refine nmF_cons e (let_in ⟨j % 26, by omega⟩) (fun x hx => ?_) ?_
  · rcases List.mem_append.mp hx with h | h
    · exact h2 x h
    · split at h
      · cases h
      · rw [List.mem_singleton.mp h]; decide +kernel
  · rw [List.length_append]
    have : (if j < 26 then [] else [120] : List Nat).length ≤ 1 := by split <;> decide
    have h3' : (digL i).length ≤ 2 := h3
    omega
theorem resv_let : ∀ s ∈ resv, ∀ c ∈ s.cps.toList, c ∈ lets.cps.toList := by decide +kernel
theorem cand_nr {i j : Nat} (hi : i < 31) (s : Str) (e : s.cps.toList = candL i j) : s ∉ resv := fun hm => by
  obtain ⟨⟨c, r, ec, hc⟩, _⟩ := dig_ok ⟨i, hi⟩
  refine hc (resv_let s hm c ?_)
  rw [e]
  have : digL i = c :: r := ec
  unfold candL
  rw [this]
  exact List.mem_cons_of_mem _ (List.mem_append_left _ List.mem_cons_self)
theorem cand_inj {i j k : Nat} (hj : j < 52) (hk : k < 52) (e : candL i j = candL i k) : j = k := by
  have h1 : letAt (j % 26) = letAt (k % 26) := (List.cons.inj e).1
  have h2 := congrArg List.length (List.cons.inj e).2
  have h3 := congrArg Fin.val (let_inj ⟨j % 26, by omega⟩ ⟨k % 26, by omega⟩ h1)
  have h4 : j % 26 = k % 26 := h3
  rw [List.length_append, List.length_append] at h2
  split at h2 <;> split at h2 <;> simp only [List.length_nil, List.length_cons] at h2 <;> omega
theorem pigeon {α : Type} [BEq α] [LawfulBEq α] : ∀ (xs ys : List α), xs.Nodup → (∀ x ∈ xs, x ∈ ys) → xs.length ≤ ys.length
  | [], _, _, _ => Nat.zero_le _
  | x :: r, ys, hn, h => by
    have hx := h x List.mem_cons_self
    obtain ⟨hnx, hnr⟩ := List.nodup_cons.mp hn
    have ih := pigeon r (ys.erase x) hnr fun y hy => (List.mem_erase_of_ne fun (e : y = x) => hnx (e ▸ hy)).mpr (h y (List.mem_cons_of_mem _ hy))
    rw [List.length_erase_of_mem hx] at ih
    have := List.length_pos_of_mem hx
    rw [List.length_cons]
    omega
/-- of 52 names one is free -/
theorem cand_free {i : Nat} (hi : i < 31) {ss : List Str} (hl : ss.length < 52) (h : ∀ j < 52, ∀ s : Str, s.cps.toList = candL i j → s ∈ ss ∨ s ∈ resv) : False := by
  have hs : ∀ j < 52, candL i j ∈ ss.map fun s => s.cps.toList := fun j hj => by
    have e : ((⟨(candL i j).toArray⟩ : Str)).cps.toList = candL i j := rfl
    rcases h j hj _ e with m | m
    · exact List.mem_map.mpr ⟨_, m, e⟩
    · exact absurd m (cand_nr hi _ e)
  have hn : ((List.range 52).map (candL i)).Nodup := by
    refine List.nodup_iff_pairwise_ne.mpr ?_ |> fun z => z
    rw [List.pairwise_map]
    refine List.Pairwise.imp_of_mem (fun {a b} ha hb hab e => ?_) (List.nodup_iff_pairwise_ne.mp List.nodup_range)
    exact hab (cand_inj (List.mem_range.mp ha) (List.mem_range.mp hb) e)
  have := pigeon _ _ hn fun x hx => by
    obtain ⟨j, hj, rfl⟩ := List.mem_map.mp hx
    exact hs j (List.mem_range.mp hj)
  rw [List.length_map, List.length_map, List.length_range] at this
  omega
theorem cut_x : ∀ j : Fin 52, (cutS (Str.ofString "x") none (some (((j : Nat) : Int) / 26))).cps.toList = (if (j : Nat) < 26 then [] else [120]) := by decide +kernel
structure NmsOk (ss : List Str) : Prop where
  f : ∀ s ∈ ss, NmF s
  r : ∀ s ∈ ss, s ∉ resv
  nd : ss.Nodup
theorem NmsOk.snoc {ss : List Str} {s : Str} (h : NmsOk ss) (hf : NmF s) (hr : s ∉ resv) (hs : s ∉ ss) : NmsOk (ss ++ [s]) where
  f := fun x hx => by
    rcases List.mem_append.mp hx with m | m
    · exact h.f x m
    · rw [List.mem_singleton.mp m]; exact hf
  r := fun x hx => by
    rcases List.mem_append.mp hx with m | m
    · exact h.r x m
    · rw [List.mem_singleton.mp m]; exact hr
  nd := by
    refine List.nodup_append.mpr ⟨h.nd, List.nodup_cons.mpr ⟨(fun m => by cases m), List.nodup_nil⟩, fun a ha b hb e => ?_⟩
    rw [List.mem_singleton.mp hb] at e
    exact hs (e ▸ ha)
theorem inV_iff {l : Str} {xs : List Str} : inV (V.str l) (xs.map V.str) = true ↔ l ∈ xs := by
  unfold inV
  rw [List.any_map, List.any_eq_true]
  constructor
  · rintro ⟨x, hx, h⟩
    have : (x == l) = true := h
    rw [← eq_of_beq this]
    exact hx
  · intro h
    exact ⟨l, h, (beq_self_eq_true l : (l == l) = true)⟩
theorem mem_join0 {S : List Nat} : ∀ (parts : List Str), (∀ p ∈ parts, ∀ c ∈ p.cps.toList, c ∈ S) → ∀ c ∈ (Txt.join (Str.ofString "") parts).cps.toList, c ∈ S := by
  intro parts h c hc
  have e2 := TL.tl_join (Str.ofString "") parts
  rw [← TL.join_eq, show TL.tl (Str.ofString "") = [] by decide +kernel] at e2
  have e3 : (Txt.join (Str.ofString "") parts).cps.toList = TL.joinL [] (parts.map TL.tl) := e2
  rw [e3] at hc
  clear e2 e3
  induction parts with
  | nil => cases hc
  | cons p r ih =>
    cases r with
    | nil => exact h p List.mem_cons_self c hc
    | cons q r =>
      have hc2 : c ∈ TL.tl p ++ ([] ++ TL.joinL [] ((q :: r).map TL.tl)) := hc
      rw [List.nil_append] at hc2
      rcases List.mem_append.mp hc2 with m | m
      · exact h p List.mem_cons_self c m
      · exact ih (fun p hp => h p (List.mem_cons_of_mem _ hp)) m
theorem str_ext {a b : Str} (h : a.cps.toList = b.cps.toList) : a = b := by
  cases a; cases b
  have := Array.toList_inj.mp h
  simp only at this
  rw [this]
/-! ### values and conditions as trees -/
theorem Fd.none {P : Program} {w : World} {K : PySem.W.Frag} {mg : Str → Option Value} {base : Heap} {x qual : Str} {st : Stmt} {f : Addr} {fd : FuncData} {ps : List Str} {k : Nat} {sp : Sp} (F : Fun K x qual st f fd) (m : mg x = some (.ref f)) (b : Binds K fd ps [])
    (no : ∀ vs H Q E, ¬ sp vs H Q E) : Fd P w K mg base x ps k sp := ⟨f, fd, ⟨fun vs H Q E h => absurd h (no vs H Q E), fun A outer s H args us vs Q E _ _ _ _ h => absurd h (no vs H Q E)⟩, m, F.kp, b⟩
theorem yesQ {c : TT} {t u r : TS} {D : Ends} {σ : L2.St} {H : Hp} (h : Ans c σ H true) (q : t { D with nx := r D } σ H) : tSeq (tIfS c t u) r D σ H := ifQ h (fun _ => q) fun z => nomatch z
theorem yesS {c : TT} {t u : TS} {D : Ends} {σ : L2.St} {H : Hp} (h : Ans c σ H true) (q : t D σ H) : tIfS c t u D σ H := ifS h (fun _ => q) fun z => nomatch z
/-- what is new in H' over H -/
def Nw (H H' : Hp) : Hp := fun a => match H a with
  | none => H' a
  | some _ => none
theorem nw_at {H H' : Hp} {a : Addr} (h : H a = none) : Nw H H' a = H' a := by
  unfold Nw
  rw [h]
theorem nw_old {H H' : Hp} {a : Addr} {o : HO} (h : H a = some o) : Nw H H' a = none := by
  unfold Nw
  rw [h]
theorem nw_some {H H' : Hp} {a : Addr} {o : HO} (h : Nw H H' a = some o) : H a = none ∧ H' a = some o := by
  cases e : H a with
  | none => rw [nw_at e] at h; exact ⟨rfl, h⟩
  | some x => rw [nw_old e] at h; cases h
theorem nw_same {H H' : Hp} : Same (Nw H H') H' := fun _ _ h => (nw_some h).2
theorem nw_mono {H H1 H2 H3 : Hp} (a : Same H H1) (b : Same H2 H3) : Same (Nw H1 H2) (Nw H H3) := fun x o h => by
  obtain ⟨h1, h2⟩ := nw_some h
  rw [nw_at (a.free h1)]
  exact b x o h2
/-- what is there is there -/
def Dm (H H' : Hp) : Prop := ∀ a, H' a = none → H a = none
theorem Same.dm {H H' : Hp} (s : Same H H') : Dm H H' := fun _ h => s.free h
theorem Dm.trans {H H1 H2 : Hp} (a : Dm H H1) (b : Dm H1 H2) : Dm H H2 := fun x h => a x (b x h)
theorem dm_upd {H H' : Hp} {D : Addr} {o u : HO} (s : Same H H') (h : H' D = some o) : Dm (upd H D u) H' := fun a ha => by
  have hne : a ≠ D := fun e => by rw [e, h] at ha; cases ha
  rw [upd_ne hne]
  exact s.free ha
theorem dm_up {H : Hp} {D : Addr} {u : HO} : Dm H (upd H D u) := fun a ha => by
  by_cases e : a = D
  · rw [e, upd_same] at ha; cases ha
  · rw [upd_ne e] at ha; exact ha
theorem nw_mono2 {H H1 H2 H3 : Hp} (a : Dm H H1) (b : Same H2 H3) : Same (Nw H1 H2) (Nw H H3) := fun x o h => by
  obtain ⟨h1, h2⟩ := nw_some h
  rw [nw_at (a x h1)]
  exact b x o h2
theorem nw_upd {H H' : Hp} {a : Addr} {o u : HO} (h : H a = some o) : Same (Nw H H') (Nw H (upd H' a u)) := fun x y e => by
  obtain ⟨h1, h2⟩ := nw_some e
  rw [nw_at h1, upd_ne (ne_of_none h h1).symm]
  exact h2
inductive Ar where
  | add | sub | mul
def Ar.tx : Ar → Str
  | .add => Str.ofString "+"
  | .sub => Str.ofString "-"
  | .mul => Str.ofString "*"
def Ar.ev : Ar → Int → Int → Int
  | .add, a, b => a + b
  | .sub, a, b => a - b
  | .mul, a, b => a * b
inductive VT where
  | int (i : Int) | nm (s : Str) | op (o : Ar) (a b : VT)
def VT.ht : VT → Nat
  | .op _ a b => max a.ht b.ht + 1
  | _ => 0
def RVal (H : Hp) : VT → V → Prop
  | .int i, v => v = .int i
  | .nm s, v => v = .str s
  | .op o a b, v => ∃ t x y, v = .ref t ∧ H t = some (.tup [.str o.tx, x, y]) ∧ RVal H a x ∧ RVal H b y
theorem RVal.mono {H H' : Hp} (e : Same H H') : ∀ {t : VT} {v : V}, RVal H t v → RVal H' t v
  | .int _, _, h => h
  | .nm _, _, h => h
  | .op _ _ _, _, ⟨t, x, y, e1, e2, ha, hb⟩ => ⟨t, x, y, e1, e _ _ e2, RVal.mono e ha, RVal.mono e hb⟩
def look (kvs : List (Key × V)) (s : Str) : Int := match valV kvs (Sum.inr s) with
  | some (.int i) => i
  | _ => 0
def VT.ev (kvs : List (Key × V)) : VT → Int
  | .int i => i
  | .nm s => look kvs s
  | .op o a b => o.ev (a.ev kvs) (b.ev kvs)
def VT.wt : VT → Nat
  | .op _ a b => a.wt + b.wt
  | _ => 8
def Fine (kvs : List (Key × V)) : VT → Prop
  | .int i => i.natAbs < 256
  | .nm s => ∃ i : Int, valV kvs (Sum.inr s) = some (.int i) ∧ i.natAbs < 256
  | .op _ a b => Fine kvs a ∧ Fine kvs b
theorem VT.wt_pos : ∀ t : VT, 8 ≤ t.wt
  | .int _ => Nat.le_refl 8
  | .nm _ => Nat.le_refl 8
  | .op _ a b => by show 8 ≤ a.wt + b.wt; have := a.wt_pos; omega
theorem pow_add_le {a b x y : Nat} (ha : x < 2 ^ a) (hb : y < 2 ^ b) (h1 : 1 ≤ a) (h2 : 1 ≤ b) : x + y < 2 ^ (a + b) := by
  have ea : 2 ^ (a + b) = 2 ^ a * 2 ^ b := Nat.pow_add 2 a b
  have h3 : 2 ≤ 2 ^ a := by
    have := Nat.pow_le_pow_right (show 0 < 2 by decide) h1
    omega
  have h4 : 2 ≤ 2 ^ b := by
    have := Nat.pow_le_pow_right (show 0 < 2 by decide) h2
    omega
  generalize 2 ^ a = u at *
  generalize 2 ^ b = v at *
  rw [ea]
  have h5 : u + v ≤ u * v := by
    rcases Nat.le_total u v with h | h
    · have := Nat.mul_le_mul_right v h3
      omega
    · have := Nat.mul_le_mul_left u h4
      omega
  omega
theorem ev_lt {kvs : List (Key × V)} : ∀ {t : VT}, Fine kvs t → (t.ev kvs).natAbs < 2 ^ t.wt
  | .int i, h => h
  | .nm s, ⟨i, e, h⟩ => by
    show (look kvs s).natAbs < 2 ^ 8
    unfold look
    rw [e]
    exact h
  | .op o a b, ⟨ha, hb⟩ => by
    have h1 := ev_lt ha
    have h2 := ev_lt hb
    have p1 := a.wt_pos
    have p2 := b.wt_pos
    have h3 := pow_add_le h1 h2 (by omega) (by omega)
    show (o.ev (a.ev kvs) (b.ev kvs)).natAbs < 2 ^ (a.wt + b.wt)
    cases o with
    | add => show (a.ev kvs + b.ev kvs).natAbs < _; omega
    | sub => show (a.ev kvs - b.ev kvs).natAbs < _; omega
    | mul => exact wide_lt h1 h2
inductive Cp where
  | eq | lt | le
def Cp.tx : Cp → Str
  | .eq => Str.ofString "="
  | .lt => Str.ofString "<"
  | .le => Str.ofString "<="
def Cp.ev : Cp → Int → Int → Bool
  | .eq, a, b => decide (V.int a = V.int b)
  | .lt, a, b => decide (a < b)
  | .le, a, b => decide (a ≤ b)
inductive CT where
  | bl (b : Bool) | no (c : CT) | an (a b : CT) | or (a b : CT) | cp (o : Cp) (a b : VT)
def CT.ht : CT → Nat
  | .bl _ => 0
  | .no c => c.ht + 1
  | .an a b => max a.ht b.ht + 1
  | .or a b => max a.ht b.ht + 1
  | .cp _ _ _ => 0
def RCond (H : Hp) : CT → V → Prop
  | .bl b, v => v = .bl b
  | .no c, v => ∃ t x, v = .ref t ∧ H t = some (.tup [.str (Str.ofString "not"), x]) ∧ RCond H c x
  | .an a b, v => ∃ t x y, v = .ref t ∧ H t = some (.tup [.str (Str.ofString "and"), x, y]) ∧ RCond H a x ∧ RCond H b y
  | .or a b, v => ∃ t x y, v = .ref t ∧ H t = some (.tup [.str (Str.ofString "or"), x, y]) ∧ RCond H a x ∧ RCond H b y
  | .cp o a b, v => ∃ t x y, v = .ref t ∧ H t = some (.tup [.str o.tx, x, y]) ∧ RVal H a x ∧ RVal H b y
theorem RCond.mono {H H' : Hp} (e : Same H H') : ∀ {t : CT} {v : V}, RCond H t v → RCond H' t v
  | .bl _, _, h => h
  | .no _, _, ⟨t, x, e1, e2, ha⟩ => ⟨t, x, e1, e _ _ e2, RCond.mono e ha⟩
  | .an _ _, _, ⟨t, x, y, e1, e2, ha, hb⟩ => ⟨t, x, y, e1, e _ _ e2, RCond.mono e ha, RCond.mono e hb⟩
  | .or _ _, _, ⟨t, x, y, e1, e2, ha, hb⟩ => ⟨t, x, y, e1, e _ _ e2, RCond.mono e ha, RCond.mono e hb⟩
  | .cp _ _ _, _, ⟨t, x, y, e1, e2, ha, hb⟩ => ⟨t, x, y, e1, e _ _ e2, RVal.mono e ha, RVal.mono e hb⟩
def CT.ev (kvs : List (Key × V)) : CT → Bool
  | .bl b => b
  | .no c => !c.ev kvs
  | .an a b => a.ev kvs && b.ev kvs
  | .or a b => a.ev kvs || b.ev kvs
  | .cp o a b => o.ev (a.ev kvs) (b.ev kvs)
/-- every value in it is fine, of height below n and of weight at most m -/
def CFine (kvs : List (Key × V)) (n m : Nat) : CT → Prop
  | .bl _ => True
  | .no c => CFine kvs n m c
  | .an a b => CFine kvs n m a ∧ CFine kvs n m b
  | .or a b => CFine kvs n m a ∧ CFine kvs n m b
  | .cp _ a b => (Fine kvs a ∧ a.ht < n ∧ a.wt ≤ m) ∧ Fine kvs b ∧ b.ht < n ∧ b.wt ≤ m
/-! ### data: what stands in the heap, at any depth -/
mutual
theorem dp_mono {K : PySem.W.Frag} {H H' : Hp} (e : Same H H') : ∀ {v : V} {d : PyData}, Dp K H v d → Dp K H' v d
  | _, .none, .non => .non
  | _, .bool _, .bl b => .bl b
  | _, .int _, .int i => .int i
  | _, .str _, .str x => .str x
  | _, .list _, .lst h a => .lst (e.seq h) (dpAll_mono e a)
  | _, .tuple _, .tup h a => .tup (Same.seqT e h) (dpAll_mono e a)
theorem dpAll_mono {K : PySem.W.Frag} {H H' : Hp} (e : Same H H') : ∀ {vs : List V} {ds : List PyData}, DpAll K H vs ds → DpAll K H' vs ds
  | _, [], .nil => .nil
  | _, _ :: _, .cons h t => .cons (dp_mono e h) (dpAll_mono e t)
end
theorem dpa_len {K : PySem.W.Frag} {H : Hp} : ∀ {ds : List PyData} {vs : List V}, DpAll K H vs ds → vs.length = ds.length
  | [], _, .nil => rfl
  | _ :: _, _, .cons _ t => congrArg (· + 1) (dpa_len t)
theorem dpa_at {K : PySem.W.Frag} {H : Hp} : ∀ {ds : List PyData} {vs : List V}, DpAll K H vs ds → ∀ {i : Nat} {v : V}, vs[i]? = some v → ∃ d, ds[i]? = some d ∧ Dp K H v d
  | [], _, .nil, i, v, h => by simp at h
  | _ :: _, _, .cons a t, 0, v, h => by
    have := Option.some.inj h
    subst this
    exact ⟨_, rfl, a⟩
  | _ :: _, _, .cons a t, i + 1, v, h => dpa_at t (i := i) h
theorem dpa_at' {K : PySem.W.Frag} {H : Hp} : ∀ {ds : List PyData} {vs : List V}, DpAll K H vs ds → ∀ {i : Nat} {d : PyData}, ds[i]? = some d → ∃ v, vs[i]? = some v ∧ Dp K H v d
  | [], _, .nil, i, v, h => by simp at h
  | _ :: _, _, .cons a t, 0, v, h => by
    have := Option.some.inj h
    subst this
    exact ⟨_, rfl, a⟩
  | _ :: _, _, .cons a t, i + 1, v, h => dpa_at' t (i := i) h
theorem dpa_app {K : PySem.W.Frag} {H : Hp} : ∀ {ds es : List PyData} {vs us : List V}, DpAll K H vs ds → DpAll K H us es → DpAll K H (vs ++ us) (ds ++ es)
  | [], _, _, _, .nil, b => b
  | _ :: _, _, _, _, .cons a t, b => .cons a (dpa_app t b)
theorem dpa_strs {K : PySem.W.Frag} {H : Hp} : ∀ ss : List Str, DpAll K H (ss.map V.str) (ss.map PyData.str)
  | [] => .nil
  | s :: r => .cons (.str s) (dpa_strs r)
theorem dpa_ints {K : PySem.W.Frag} {H : Hp} : ∀ ss : List Int, DpAll K H (ss.map V.int) (ss.map PyData.int)
  | [] => .nil
  | s :: r => .cons (.int s) (dpa_ints r)
/-- a tuple of data -/
theorem dp_tup {K : PySem.W.Frag} {H : Hp} {v : V} {ds : List PyData} (h : Dp K H v (.tuple ds)) : ∃ a xs, v = .ref a ∧ SqT K H a xs ∧ DpAll K H xs ds := by
  cases h with
  | tup hs ha => exact ⟨_, _, rfl, hs, ha⟩
theorem dp_lst {K : PySem.W.Frag} {H : Hp} {v : V} {ds : List PyData} (h : Dp K H v (.list ds)) : ∃ a xs, v = .ref a ∧ SqL K H a xs ∧ DpAll K H xs ds := by
  cases h with
  | lst hs ha => exact ⟨_, _, rfl, hs, ha⟩
theorem dp_str {K : PySem.W.Frag} {H : Hp} {v : V} {s : Str} (h : Dp K H v (.str s)) : v = .str s := by cases h; rfl
theorem dp_int {K : PySem.W.Frag} {H : Hp} {v : V} {s : Int} (h : Dp K H v (.int s)) : v = .int s := by cases h; rfl
theorem dpa_cons {K : PySem.W.Frag} {H : Hp} {vs : List V} {d : PyData} {ds : List PyData} (h : DpAll K H vs (d :: ds)) : ∃ v r, vs = v :: r ∧ Dp K H v d ∧ DpAll K H r ds := by
  cases h with
  | cons a t => exact ⟨_, _, rfl, a, t⟩
theorem dpa_nil {K : PySem.W.Frag} {H : Hp} {vs : List V} (h : DpAll K H vs []) : vs = [] := by cases h; rfl
theorem dpa_strsE {K : PySem.W.Frag} {H : Hp} : ∀ {ss : List Str} {vs : List V}, DpAll K H vs (ss.map PyData.str) → vs = ss.map V.str
  | [], _, h => dpa_nil h
  | s :: r, _, h => by
    obtain ⟨v, q, rfl, a, t⟩ := dpa_cons h
    rw [dp_str a, dpa_strsE t]
    rfl
/-! ### data that can be shown and compared -/
mutual
def nice : PyData → Bool
  | .none | .bool _ => true
  | .int i => decide (i.natAbs < 10 ^ 7)
  | .str s => (s.cps.toList.all fun c => decide (c < 128)) && decide (s.length ≤ 20)
  | .list xs | .tuple xs => niceAll xs
  | .dict _ => false
def niceAll : List PyData → Bool
  | [] => true
  | x :: xs => nice x && niceAll xs
end
mutual
def cells : PyData → Nat
  | .list xs | .tuple xs => cellsAll xs + 1
  | .none | .bool _ | .int _ | .str _ | .dict _ => 1
def cellsAll : List PyData → Nat
  | [] => 0
  | x :: xs => cells x + cellsAll xs
end
mutual
theorem nice_lay : ∀ d : PyData, nice d = true → d.canLay0 = true
  | .none, _ => rfl
  | .bool _, _ => rfl
  | .int _, _ => rfl
  | .str s, h => by
    simp only [nice, Bool.and_eq_true, List.all_eq_true, decide_eq_true_eq] at h
    show (s.cps.all fun c => decide (c < 0x110000)) = true
    rw [← Array.all_toList, List.all_eq_true]
    intro c hc
    have := h.1 c hc
    exact decide_eq_true (by omega)
  | .list xs, h => by
    show PyData.canLayAll0 xs = true
    exact nice_layAll xs h
  | .tuple xs, h => by
    show PyData.canLayAll0 xs = true
    exact nice_layAll xs h
  | .dict _, h => nomatch h
theorem nice_layAll : ∀ xs : List PyData, niceAll xs = true → PyData.canLayAll0 xs = true
  | [], _ => rfl
  | x :: xs, h => by
    have h' : nice x = true ∧ niceAll xs = true := by simpa only [niceAll, Bool.and_eq_true] using h
    show (x.canLay0 && PyData.canLayAll0 xs) = true
    rw [nice_lay x h'.1, nice_layAll xs h'.2]
    rfl
end
mutual
theorem nice_short : ∀ d : PyData, nice d = true → d.leavesShort 8 = true ∧ d.showable = true
  | .none, _ => ⟨rfl, rfl⟩
  | .bool _, _ => ⟨rfl, rfl⟩
  | .int i, h => by
    have h1 : i.natAbs < 10 ^ 7 := by simpa only [nice, decide_eq_true_eq] using h
    refine ⟨?_, ?_⟩
    · show decide ((Str.ofString (toString i)).length ≤ 8) = true
      have := int_text_length_le10 (a := i) (k := 7) (by decide) h1
      refine decide_eq_true ?_
      rw [PySem.ofString_length]
      exact this
    · show decide (i.natAbs.log2 < 1920) = true
      refine decide_eq_true ?_
      have h2 : i.natAbs.log2 ≤ i.natAbs := Nat.log2_le_self _
      by_cases h0 : i.natAbs = 0
      · rw [h0]; decide
      · rw [Nat.log2_lt h0]
        exact Nat.lt_of_lt_of_le h1 (by decide +kernel)
  | .str s, h => by
    simp only [nice, Bool.and_eq_true, List.all_eq_true, decide_eq_true_eq] at h
    refine ⟨?_, rfl⟩
    show (s.cps.toList.all fun c => decide (c < 16 ^ 8)) = true
    rw [List.all_eq_true]
    intro c hc
    have := h.1 c hc
    exact decide_eq_true (Nat.lt_of_lt_of_le this (by decide))
  | .list xs, h => nice_shortAll xs h
  | .tuple xs, h => nice_shortAll xs h
  | .dict _, h => nomatch h
theorem nice_shortAll : ∀ xs : List PyData, niceAll xs = true → PyData.leavesShortAll 8 xs = true ∧ PyData.showableAll xs = true
  | [], _ => ⟨rfl, rfl⟩
  | x :: xs, h => by
    have h' : nice x = true ∧ niceAll xs = true := by simpa only [niceAll, Bool.and_eq_true] using h
    obtain ⟨a1, a2⟩ := nice_short x h'.1
    obtain ⟨b1, b2⟩ := nice_shortAll xs h'.2
    refine ⟨?_, ?_⟩
    · show (x.leavesShort 8 && PyData.leavesShortAll 8 xs) = true
      rw [a1, b1]; rfl
    · show (x.showable && PyData.showableAll xs) = true
      rw [a2, b2]; rfl
end
mutual
theorem nice_bulk : ∀ d : PyData, nice d = true → d.bulk + 1 ≤ 21 * cells d
  | .none, _ => by decide
  | .bool _, _ => by show 0 + 1 ≤ 21 * 1; decide
  | .int _, _ => by show 0 + 1 ≤ 21 * 1; decide
  | .str s, h => by
    simp only [nice, Bool.and_eq_true, List.all_eq_true, decide_eq_true_eq] at h
    have : s.cps.size ≤ 20 := h.2
    show s.cps.size + 1 ≤ 21 * 1
    omega
  | .list xs, h => by
    have := nice_bulkAll xs h
    show PyData.bulkAll xs + 1 ≤ 21 * (cellsAll xs + 1)
    omega
  | .tuple xs, h => by
    have := nice_bulkAll xs h
    show PyData.bulkAll xs + 1 ≤ 21 * (cellsAll xs + 1)
    omega
  | .dict _, h => nomatch h
theorem nice_bulkAll : ∀ xs : List PyData, niceAll xs = true → PyData.bulkAll xs ≤ 21 * cellsAll xs
  | [], _ => by decide
  | x :: xs, h => by
    have h' : nice x = true ∧ niceAll xs = true := by simpa only [niceAll, Bool.and_eq_true] using h
    have h1 := nice_bulk x h'.1
    have h2 := nice_bulkAll xs h'.2
    show x.bulk + 1 + PyData.bulkAll xs ≤ 21 * (cells x + cellsAll xs)
    omega
end
structure NcD (d : PyData) (c m : Nat) : Prop where
  ni : nice d = true
  ce : cells d ≤ c
  de : d.depth ≤ m
structure NcL (ds : List PyData) (c m : Nat) : Prop where
  ni : niceAll ds = true
  ce : cellsAll ds ≤ c
  de : PyData.depthAll ds ≤ m
theorem NcD.mono {d : PyData} {c m c' m' : Nat} (h : NcD d c m) (h1 : c ≤ c') (h2 : m ≤ m') : NcD d c' m' := ⟨h.ni, Nat.le_trans h.ce h1, Nat.le_trans h.de h2⟩
theorem NcL.mono {d : List PyData} {c m c' m' : Nat} (h : NcL d c m) (h1 : c ≤ c') (h2 : m ≤ m') : NcL d c' m' := ⟨h.ni, Nat.le_trans h.ce h1, Nat.le_trans h.de h2⟩
theorem NcL.nil {c m : Nat} : NcL [] c m := ⟨rfl, Nat.zero_le _, Nat.zero_le _⟩
theorem NcL.cons {d : PyData} {ds : List PyData} {c1 c2 m : Nat} (h : NcD d c1 m) (t : NcL ds c2 m) : NcL (d :: ds) (c1 + c2) m := by
  have h1 := h.ce
  have h2 := t.ce
  have h3 := h.de
  have h4 := t.de
  refine ⟨?_, ?_, ?_⟩
  · show (nice d && niceAll ds) = true
    rw [h.ni, t.ni]; rfl
  · show cells d + cellsAll ds ≤ c1 + c2
    omega
  · show max d.depth (PyData.depthAll ds) ≤ m
    omega
theorem NcL.tup {ds : List PyData} {c m : Nat} (h : NcL ds c m) : NcD (.tuple ds) (c + 1) (m + 1) := ⟨h.ni, Nat.succ_le_succ h.ce, Nat.succ_le_succ h.de⟩
theorem NcL.lst {ds : List PyData} {c m : Nat} (h : NcL ds c m) : NcD (.list ds) (c + 1) (m + 1) := ⟨h.ni, Nat.succ_le_succ h.ce, Nat.succ_le_succ h.de⟩
theorem NcD.str {s : Str} {m : Nat} (h : nice (.str s) = true) : NcD (.str s) 1 m := ⟨h, Nat.le_refl _, Nat.zero_le _⟩
theorem NcD.int {i : Int} {m : Nat} (h : i.natAbs < 10 ^ 7) : NcD (.int i) 1 m := ⟨decide_eq_true h, Nat.le_refl _, Nat.zero_le _⟩
theorem NcD.shaped {d : PyData} {c m : Nat} (h : NcD d c m) (hm : m ≤ 64) : SeqAt.shaped d = true := by
  show (d.canLay0 && decide (d.depth ≤ 64)) = true
  have h1 := h.de
  rw [nice_lay d h.ni, decide_eq_true (by omega)]
  rfl
theorem NcD.eqv {d : PyData} {c m : Nat} (h : NcD d c m) : PyData.eqv d d = true := SeqAt.eqv_refl d (nice_lay d h.ni)
structure Shw (d : PyData) : Prop where
  sh : d.showable = true
  nd : d.hasDict = false
  de : d.depth ≤ 60
  ln : d.shown.length ≤ sizeLine
theorem NcD.shw {d : PyData} {c m : Nat} (h : NcD d c m) (hc : c ≤ 40000) (hm : m ≤ 60) : Shw d := by
  have h1 := nice_short d h.ni
  have h2 := nice_bulk d h.ni
  have h3 := h.de
  have h4 := h.ce
  refine ⟨h1.2, PyData.hasDict_of_canLay d (nice_lay d h.ni), by omega, PyData.shown_fits_bulk (by decide) (by decide) h1.1 ?_⟩
  rw [show (2 : Nat) ^ 20 = 1048576 from rfl]
  omega
/-! ### repr of data, and a law's call from outside all frames (there no guard is up) -/
section
variable {X : Cx}
def rRepr (K : PySem.W.Frag) : List V → Hp → VK → Prop := fun xs H Q => ∃ (a : Addr) (d : PyData), xs = [.ref a] ∧ Dp K H (.ref a) d ∧ d.showable = true ∧ d.hasDict = false ∧ d.depth ≤ 60 ∧ d.shown.length ≤ sizeLine ∧ Q (.str d.shown) H
theorem cRepr (K : PySem.W.Frag) (hg : X.A.guards = some []) (hu : X.A.units + 64 < cLine) (hK : X.K = K := by rfl) : CallR X (.builtin "repr") (rRepr K) := by
  subst hK
  rintro pins s σ H xs us Q I r ⟨a, d, rfl, hd, hs, hn, hp, hz, q⟩
  obtain ⟨u, rfl, ru⟩ := vals1 r
  cases ru
  obtain ⟨as, hr⟩ := Dp.reads I d _ _ hd rfl
  exact PySem.repr_of_reads' hr hs (fun z => by rw [hn] at z; cases z) hg (by omega) (fun _ _ e => e) (fun h' t tk kp => ⟨.str d.shown, H, I.kept kp, ⟨t, rfl⟩, q⟩) hz
end
/-- the law's def keeps sp where it is called with the script, from outside -/
def TopOk (P : Program) (w : World) (K : PySem.W.Frag) (mg : Str → Option Value) (base : Heap) (f : Addr) (sp : Sp) : Prop :=
  ∀ (s : Shared) (H : Hp) (a : Addr) (Q : VK), Env0 P w K mg base callerA [] s H → sp [.ref a] H Q E0 → codeAny (model P w) callerA (.call (.ref f) ⟨[.ref a], []⟩) (CR CX0 [] P w H s Q E0) s
theorem top_ok {P : Program} {w : World} {K : PySem.W.Frag} {mg : Str → Option Value} {base : Heap} {x : Str} {st : Stmt} {f : Addr} {fd : FuncData} {N : List Str} {k : Nat} {sp : Sp} (F : Fun K x x st f fd) (S : FnScope N ["script"] (defScope st)) (hroom : Room (k + 1) callerA)
    (bind : ∀ (s : Shared) (v : Value), BindsTo s fd ⟨[v], []⟩ [("script", v)])
    (body : ∀ (cdv : Value) (s : Shared) (H : Hp) (a : Addr) (Q : VK), Room k (callerA.deeper (envOfC x (defScope st) s.heap.objs.size f cdv)) → sp [.ref a] H Q E0 →
      ∃ t, PSs (cxOf CX0 P w K mg base N x (defScope st) f cdv callerA [] s H E0).nox (defBody st) t ∧ t { nx := fun _ H' => Q .non H', rt := Q } (start N [.ref a]) H) : TopOk P w K mg base f sp := by
  obtain ⟨c1, c2, c3, c4, c5, c6, cd, c8, c9, rfl, look, code⟩ := F.ex
  intro s H a Q env want
  have inS : K.In s.heap := PySem.W.Frag.In.keeps env.mod.kin (fun b o z => (env.bs b o z).1)
  have room := hroom.deeper (envOfC x (defScope st) s.heap.objs.size f cd)
  obtain ⟨t, good, read⟩ := body cd s H a Q room want
  refine codeAny_call_function (by decide) (inS f _ look) rfl S.co S.gen rfl (PySem.W.codeRec_of inS code) (bind s _ _ _ _ _ ?_)
  have names : ∀ y ∈ [(("script" : Str), Value.ref a)], (defScope st).names.lookup y.1 = some .local ∨ ((defScope st).names.lookup y.1 = some .cell ∧ ((cellsFrom (s.heap.objs.size + 1) (defScope st).names []).lookup y.1).isSome = true) := by
    intro y hy
    rw [List.mem_singleton.mp hy]
    exact (S.par "script" List.mem_cons_self).imp id fun z => ⟨z, PySem.W.cellsFrom_some _ _ _ (.inl z)⟩
  refine wpAny_newFunctionEnv_cells S.kind names ?_
  rintro _ rfl s1 made
  have few : s.heap.NoLimit := Heap.NoLimit.keeps env.mod.nolimit (fun b o z => (env.bs b o z).1)
  refine ⟨Heap.NoLimit.keeps few made.toInCall.keep, codeAny_func ?_⟩
  have inv := inv_start (CX := CX0) (vs := [V.ref a]) (us := [Value.ref a]) (E := E0) S hroom.hd env rfl (.cons rfl .nil) made
  refine wpAny_mono (good.nox.run [] s1 _ H _ inv read) ?_ (fun _ _ z => z)
  intro fl s2 out
  cases fl with
  | brk => exact False.elim out.choose_spec.choose_spec.2
  | cont => exact False.elim out.choose_spec.choose_spec.2
  | next =>
    obtain ⟨σ2, H2, inv2, q2⟩ := out
    exact ⟨.non, H2, inv2.os, inv2.bare, inv2.base, inv2.hok, rfl, q2⟩
  | ret u =>
    obtain ⟨v, σ2, H2, inv2, rel, q2⟩ := out
    exact ⟨v, H2, inv2.os, inv2.bare, inv2.base, inv2.hok, rel, q2⟩
/-- what the object of the script is taken for: the locked list, unless it is an object of the module -/
def hpOf (K : PySem.W.Frag) (a : Addr) (o : Obj) (ns : List Int) : Hp := fun b => if b = a ∧ K.lookup a = none then some (.frz o (.lst (ns.map V.int))) else none
theorem hp_none {K : PySem.W.Frag} {a b : Addr} {o : Obj} {ns : List Int} (h : b ≠ a) : hpOf K a o ns b = none := if_neg fun z => h z.1
theorem hp_ne {K : PySem.W.Frag} {a b : Addr} {o : Obj} {ns : List Int} {u : HO} (h : hpOf K a o ns b = some u) : b = a ∧ K.lookup a = none ∧ u = .frz o (.lst (ns.map V.int)) := by
  unfold hpOf at h
  split at h
  · rename_i c
    exact ⟨c.1, c.2, (Option.some.inj h).symm⟩
  · cases h
theorem ints_vals : ∀ {vs : List Value} {ns : List Int}, IntsAre vs ns → Vals (ns.map V.int) vs := fun h => vals_ints h
theorem top_call {P : Program} {w : World} {K : PySem.W.Frag} {mg mb : Str → Option Value} {fa a : Addr} {sp : Sp} {s1 : Shared} {vs : List Value} {ns : List Int} (KX : K.In s1.heap) (hns : s1.heap.Ns mainGlobals mg) (hb : s1.heap.Ns builtinsNs mb) (hbb : ∀ x : Str, x ≠ "__name__" → mb x = bootBuiltins x)
    (hlim : s1.heap.NoLimit) (hg : s1.gens = #[]) (ha : s1.heap.get? a = some { cls := .type "list", data := .seq vs.toArray }) (hi : IntsAre vs ns) (hl : ns.length ≤ sizeLine) (F : ∀ base : Heap, K.In base → base.Ns mainGlobals mg → TopOk P w K mg base fa sp)
    (hsp : ∀ H : Hp, SqL K H a (ns.map V.int) → sp [.ref a] H (fun v _ => v = .bl true) E0) :
    codeAny (model P w) callerA (.call (.ref fa) ⟨[.ref a], []⟩) (fun r s' => r = .ok (.ret (.bool true)) ∧ OldK s1.heap s'.heap ∧ s'.os = s1.os ∧ AllBare s'.gens) s1 := by
  have rel := vals_ints hi
  have size := hi.length
  generalize hob : ({ cls := .type "list", data := .seq vs.toArray } : Obj) = ob at ha
  generalize hH : hpOf K a ob ns = H
  have known : ∀ {b : Addr} {u : HO}, H b = some u → b = a ∧ K.lookup a = none ∧ u = .frz ob (.lst (ns.map V.int)) := fun z => hp_ne (hH ▸ z)
  have free : ∀ {b : Addr}, b ≠ a → H b = none := fun z => hH ▸ hp_none z
  -- what is a dict, or the module's own, is not hidden
  have dictFree : ∀ {b : Addr} {o : Obj} {es : Array DictEntry} {ep : Nat}, s1.heap.get? b = some o → o.data = .dict es ep → H b = none := by
    intro b o es ep e d
    refine free fun z => ?_
    rw [z, ha] at e
    cases e
    rw [← hob] at d
    cases d
  have kFree : ∀ {b : Addr} {o : Obj}, K.lookup b = some o → H b = none := by
    intro b o e
    cases h : H b with
    | none => rfl
    | some u =>
      obtain ⟨z1, z2, _⟩ := known h
      rw [z1, z2] at e
      cases e
  have seen : ∀ {b : Addr} {o : Obj}, s1.heap.get? b = some o → H b = none → (hidT s1.heap H).get? b = some o := fun e n => hidT_get e n
  have kIn : K.In (hidT s1.heap H) := fun b o e => seen (KX b o e) (kFree e)
  have spaces : ∀ {b : Addr} {m : Str → Option Value}, s1.heap.Ns b m → (hidT s1.heap H).Ns b m := by
    rintro b m ⟨o, es, ep, e, d, r⟩
    exact ⟨o, es, ep, seen e (dictFree e d), d, r⟩
  have limit : (hidT s1.heap H).NoLimit := by
    obtain ⟨mc, l1, l2⟩ := hlim
    exact ⟨mc, spaces l1, l2⟩
  have ok : HOk P w H s1.heap := by
    intro b u z
    obtain ⟨rfl, _, rfl⟩ := known z
    subst hob
    exact ⟨ha, by rw [List.length_map]; exact hl, vs, _, rel, ha⟩
  have script : SqL K H a (ns.map V.int) := by
    cases h : K.lookup a with
    | none => exact .inl (.inr ⟨ob, by rw [← hH]; exact if_pos ⟨rfl, h⟩⟩)
    | some o =>
      have e := KX a o h
      rw [ha] at e
      cases e
      subst hob
      exact .inr ⟨_, vs.toArray, _, h, rfl, rfl, rfl, by rw [List.size_toArray, size]; exact hl, by rw [List.toList_toArray]; exact rel⟩
  have env : Env0 P w K mg (hidT s1.heap H) callerA [] s1 H := {
    frames := rfl
    mod := ⟨kIn, spaces hns, ⟨mb, spaces hb, hbb⟩, limit⟩
    bs := fun _ _ z => of_hidT z
    bsz := Nat.le_of_eq (hidT_size _ _)
    funs := trivial
    frf := fun _ z => nomatch z
    hok := ok
    bare := .of_eq hg }
  refine codeAny_mono (F _ kIn (spaces hns) s1 H a _ env (hsp H script)) ?_
  intro r s2 out
  match r, out with
  | .error _, out => exact False.elim out
  | .ok .next, out => exact False.elim out
  | .ok .brk, out => exact False.elim out
  | .ok .cont, out => exact False.elim out
  | .ok (.ret u), ⟨v, H2, os, bare, un, ok2, ru, qv⟩ =>
    have qv' : v = .bl true := qv
    subst qv'
    have ru' : u = Value.bool true := ru
    subst ru'
    refine ⟨rfl, OldK.of_keep ?_, os, bare⟩
    intro b o e
    cases h : H b with
    | none => exact un.keep b o e h (fun z => nomatch z) (fun z => nomatch z)
    | some x =>
      obtain ⟨rfl, _, rfl⟩ := known h
      have later := (ok2 b _ (un.frzs b ob _ h)).1
      rw [ha] at e
      cases e
      exact later
theorem walk_top {l : PySem.W.OpenLaw} {n : Nat} {q : Program} {loose : List Str} {XP : (Str → Option Value) → Heap → Prop} {YP : World → Heap → Prop} {d : DefRec} {K : Params → PySem.W.Frag} {sp : World → Sp} (hn : l.most = some n) (hn2 : n ≤ sizeLine) (hdf : d.params.defaults = [])
    (hY : ∀ (w : World) (h : Heap), YP w h → (K w.params).In h)
    (F : ∀ (w : World) (mg : Str → Option Value) (fa : Addr) (h : Heap), (K w.params).In h → h.Ns mainGlobals mg → mg d.name = some (.ref fa) → ∀ base : Heap, (K w.params).In base → base.Ns mainGlobals mg → TopOk l.prog w (K w.params) mg base fa (sp w))
    (hsp : ∀ (w : World) (H : Hp) (a : Addr) (ns : List Int), ns.length ≤ n → SqL (K w.params) H a (ns.map V.int) → sp w [.ref a] H (fun v _ => v = .bl true) E0) :
    PySem.W.WalkO q loose XP YP l.row.toRowW d [] (fun f vs => PySem.call f vs) := by
  refine Att.attach_call hn hdf ?_
  intro w s0 s1 mg mb fa o pm cd doc a vs ns G Y ho hd hcd hmg hobj hints hlen hg
  exact top_call (hY w _ Y) G.T.g G.T.b G.T.builtins G.T.nolimit hg hobj hints (Nat.le_trans hlen hn2) (F w mg fa _ (hY w _ Y) G.T.g hmg) fun H hS => hsp w H a ns hlen hS
theorem orM {A B : TT} {t u r : TS} {D : Ends} {σ : L2.St} {H : Hp} (h : Ans A σ H false) (hb : tSeq (tIfS B t u) r D σ H) : tSeq (tIfS (tOr A B) t u) r D σ H := h _ (iteF hb)
theorem neM (s : Str) : (!decide (V.str s = V.str s)) = false := by
  rw [decide_eq_true rfl]
  rfl
theorem nbM (b : Bool) : (!decide (V.bl b = V.bl b)) = false := by
  rw [decide_eq_true rfl]
  rfl
theorem nvM {d : PyData} (e : PyData.eqv d d = true) : (!PyData.eqv d d) = false := by
  rw [e]
  rfl
theorem ansF {t : TT} {σ : L2.St} {H : Hp} {Q : Bool → Hp → Prop} (h : Ans t σ H false) (q : Q false H) : t σ H Q := h _ q
theorem orA {A B : TT} {σ : L2.St} {H : Hp} {Q : Bool → Hp → Prop} (h : Ans A σ H false) (q : B σ H Q) : tOr A B σ H Q := h _ (iteF q)
/-! ### situations -/
/-- xs[i] read before it is stored anew -/
def rGetL (K : PySem.W.Frag) : R2 := fun x y H Q => ∃ p xs i v, x = .ref p ∧ y = .int i ∧ 0 ≤ i ∧ SqL K H p xs ∧ atI xs i = some v ∧ Q v H
theorem get_list {X : Cx} : PGet X (rGetL X.K) := by
  intro pins s σ H x y v u Q I rx ry h
  obtain ⟨p, xs, i, z, rfl, rfl, h0, hq, he, q⟩ := h
  cases rx
  obtain ⟨t, rfl⟩ := ry
  obtain ⟨its, r, pl, hz⟩ := I.list hq
  obtain ⟨j, h1, h2, h3, h4, h5⟩ := atI_get he
  obtain ⟨w, ew, rw'⟩ := r.get h2
  have hl := r.length
  have hn := line63
  have hj : i.toNat = j := by
    rw [seqIndex_of h0 h5] at h1
    exact Option.some.inj h1
  exact wpAny_getItem_list pl.isList h0 (by omega) (by rw [hj]; simpa using ew) ⟨z, H, I, rw', q⟩
theorem getL {X : Cx} (K : PySem.W.Frag) (h : X.K = K := by rfl) : PGet X (rGetL K) := h ▸ get_list
/-- a situation: a pair of a number and a list of numbers -/
def Sit (K : PySem.W.Frag) (H : Hp) (v : V) (s : Int) (ns : List Int) : Prop := ∃ a ca, v = .ref a ∧ SqT K H a [.int s, .ref ca] ∧ SqL K H ca (ns.map V.int)
theorem Same.sit {K : PySem.W.Frag} {H H' : Hp} (e : Same H H') {v : V} {s : Int} {ns : List Int} (h : Sit K H v s ns) : Sit K H' v s ns := by
  obtain ⟨a, ca, e1, h1, h2⟩ := h
  exact ⟨a, ca, e1, Same.seqT e h1, e.seq h2⟩
def sitD (s : Int) (ns : List Int) : PyData := .tuple [.int s, .list (ns.map PyData.int)]
theorem sit_dp {K : PySem.W.Frag} {H : Hp} {v : V} {s : Int} {ns : List Int} (h : Sit K H v s ns) : Dp K H v (sitD s ns) := by
  obtain ⟨a, ca, rfl, h1, h2⟩ := h
  exact .tup h1 (.cons (.int _) (.cons (.lst h2 (dpa_ints ns)) .nil))
theorem dpa_intsE {K : PySem.W.Frag} {H : Hp} : ∀ {ns : List Int} {vs : List V}, DpAll K H vs (ns.map PyData.int) → vs = ns.map V.int
  | [], _, h => dpa_nil h
  | n :: ns, vs, h => by
    obtain ⟨v, r, rfl, h1, h2⟩ := dpa_cons h
    rw [dp_int h1, dpa_intsE h2]
    rfl
theorem dp_sit {K : PySem.W.Frag} {H : Hp} {v : V} {s : Int} {ns : List Int} (h : Dp K H v (sitD s ns)) : Sit K H v s ns := by
  obtain ⟨a, xs, rfl, h1, h2⟩ := dp_tup h
  obtain ⟨v1, r1, rfl, d1, h2⟩ := dpa_cons h2
  obtain ⟨v2, r2, rfl, d2, h2⟩ := dpa_cons h2
  obtain rfl := dpa_nil h2
  obtain ⟨ca, cxs, rfl, h3, h4⟩ := dp_lst d2
  rw [dp_int d1] at h1
  rw [dpa_intsE h4] at h3
  exact ⟨a, ca, rfl, h1, h3⟩
/-- at least as many everywhere -/
def geAll : List Int → List Int → Bool
  | m :: ms, n :: ns => decide (n ≤ m) && geAll ms ns
  | _, _ => true
theorem geAll_refl : ∀ ms : List Int, geAll ms ms = true
  | [] => rfl
  | m :: ms => by
    show (decide (m ≤ m) && geAll ms ms) = true
    rw [decide_eq_true (Int.le_refl m), geAll_refl ms]
    rfl
theorem geAll_take {ms ns : List Int} {m n : Int} : ∀ {i : Nat}, ms[i]? = some m → ns[i]? = some n → geAll (ms.take (i + 1)) (ns.take (i + 1)) = (geAll (ms.take i) (ns.take i) && decide (n ≤ m)) := by
  induction ms generalizing ns with
  | nil => intro i h; simp at h
  | cons a ms ih =>
    intro i h1 h2
    cases ns with
    | nil => simp at h2
    | cons b ns =>
      cases i with
      | zero =>
        cases h1
        cases h2
        show (decide (n ≤ m) && geAll (ms.take 0) (ns.take 0)) = (true && _)
        rw [List.take_zero, List.take_zero]
        show (decide (n ≤ m) && true) = _
        rw [Bool.and_true, Bool.true_and]
      | succ i =>
        show (decide (b ≤ a) && geAll (ms.take (i + 1)) (ns.take (i + 1))) = ((decide (b ≤ a) && geAll (ms.take i) (ns.take i)) && decide (n ≤ m))
        rw [ih h1 h2, Bool.and_assoc]
theorem geAll_false {ms ns : List Int} : ∀ {i : Nat}, geAll (ms.take i) (ns.take i) = false → geAll ms ns = false := by
  induction ms generalizing ns with
  | nil => intro i h; rw [List.take_nil] at h; cases h
  | cons a ms ih =>
    intro i h
    cases ns with
    | nil => rw [List.take_nil] at h; cases i <;> cases h
    | cons b ns =>
      cases i with
      | zero => cases h
      | succ i =>
        have h' : (decide (b ≤ a) && geAll (ms.take i) (ns.take i)) = false := h
        show (decide (b ≤ a) && geAll ms ns) = false
        cases hb : decide (b ≤ a) with
        | false => rfl
        | true =>
          rw [hb, Bool.true_and] at h'
          rw [ih h']
          rfl
/-- the first covers the second -/
def covB (s : Int) (ms : List Int) (t : Int) (ns : List Int) : Bool := decide (s = t) && geAll ms ns
theorem covB_refl (s : Int) (ms : List Int) : covB s ms s ms = true := by
  unfold covB
  rw [decide_eq_true (show s = s from rfl), geAll_refl]
  rfl
theorem ixN_nat {n j : Nat} (hj : j < n) : ixN n (j : Int) = some j := by
  unfold ixN
  rw [if_pos (by omega), if_pos (by omega)]
  simp
theorem gd {ds : List Int} {i : Nat} (h : i < ds.length) : ds[i]? = some (ds.getD i 0) := by
  rw [List.getD_eq_getElem?_getD, List.getElem?_eq_getElem h]
  rfl
theorem gd_mem {ds : List Int} {i : Nat} (h : i < ds.length) : ds.getD i 0 ∈ ds := List.mem_of_getElem? (gd h)
theorem at_gd {ds : List Int} {i : Int} {j : Nat} (e : i = (j : Int)) (h : j < ds.length) : atI (ds.map V.int) i = some (.int (ds.getD j 0)) := by
  rw [e]
  exact atI_nat (get_map (gd h))
theorem mod_in (z : Int) {m : Int} (h : 0 < m) : 0 ≤ z % m ∧ z % m < m := ⟨Int.emod_nonneg _ (by omega), Int.emod_lt_of_pos _ h⟩
theorem cut_ints {ds : List Int} {a n : Nat} {i j : Int} (h : a + n ≤ ds.length) (hi : i = (a : Int)) (hj : j = ((a + n : Nat) : Int)) : cutV (ds.map V.int) (some i) (some j) = ((ds.drop a).take n).map V.int := by
  subst hi
  subst hj
  unfold cutV
  rw [HT.sIx_nat, HT.sIx_nat, List.length_map, Nat.min_eq_left (show a ≤ ds.length by omega), Nat.min_eq_left h, List.map_take, List.map_drop, Nat.add_sub_cancel_left]
theorem rep_one (n : Nat) (x : V) : (List.replicate n [x]).flatten = List.replicate n x := by
  induction n with
  | zero => rfl
  | succ n ih =>
    show x :: (List.replicate n [x]).flatten = x :: List.replicate n x
    rw [ih]
theorem rep_map (n : Nat) (x : Int) : List.replicate n (V.int x) = (List.replicate n x).map V.int := by rw [List.map_replicate]
/-- the heap without B -/
def Ho (B : Addr) (H : Hp) : Hp := fun x => if x = B then none else H x
theorem ho_out {B : Addr} {H : Hp} : Same (Ho B H) H := fun b x e => by
  unfold Ho at e
  split at e
  · cases e
  · exact e
theorem ho_same {B : Addr} {H H' : Hp} (s : Same H H') : Same (Ho B H) (Ho B H') := fun b x e => by
  unfold Ho at e ⊢
  split at e
  · cases e
  · rename_i h; rw [if_neg h]; exact s _ _ e
theorem ho_mut {B : Addr} {H : Hp} {u : HO} : Same (Ho B H) (Ho B (upd H B u)) := fun b x e => by
  unfold Ho at e ⊢
  split at e
  · cases e
  · rename_i h; rw [if_neg h, upd_ne h]; exact e
theorem ho_first {B : Addr} {H : Hp} {u : HO} (nB : H B = none) : Same H (Ho B (upd H B u)) := fun b x e => by
  have h : b ≠ B := ne_of_none e nB
  show (if b = B then none else upd H B u b) = _
  rw [if_neg h, upd_ne h]
  exact e
theorem dp_newT {K : PySem.W.Frag} {H : Hp} {p : Addr} {xs : List V} {ds : List PyData} (np : H p = none) (h : DpAll K H xs ds) : Dp K (upd H p (.tup xs)) (.ref p) (.tuple ds) := .tup (st upd_same) (dpAll_mono (same_new np) h)
theorem dp_newL {K : PySem.W.Frag} {H : Hp} {p : Addr} {xs : List V} {ds : List PyData} (np : H p = none) (h : DpAll K H xs ds) : Dp K (upd H p (.lst xs)) (.ref p) (.list ds) := .lst (sq upd_same) (dpAll_mono (same_new np) h)
theorem dpo_newT {K : PySem.W.Frag} {H : Hp} {B p : Addr} {o : HO} {xs : List V} {ds : List PyData} (eB : H B = some o) (np : H p = none) (h : DpAll K (Ho B H) xs ds) : Dp K (Ho B (upd H p (.tup xs))) (.ref p) (.tuple ds) := by
  have hne : p ≠ B := fun e => by rw [e, eB] at np; cases np
  refine .tup (st ?_) (dpAll_mono (ho_same (same_new np)) h)
  show (if p = B then none else upd H p (.tup xs) p) = _
  rw [if_neg hne]
  exact upd_same
theorem dpo_newL {K : PySem.W.Frag} {H : Hp} {B p : Addr} {o : HO} {xs : List V} {ds : List PyData} (eB : H B = some o) (np : H p = none) (h : DpAll K (Ho B H) xs ds) : Dp K (Ho B (upd H p (.lst xs))) (.ref p) (.list ds) := by
  have hne : p ≠ B := fun e => by rw [e, eB] at np; cases np
  refine .lst (sq ?_) (dpAll_mono (ho_same (same_new np)) h)
  show (if p = B then none else upd H p (.lst xs) p) = _
  rw [if_neg hne]
  exact upd_same
/-! ### machines -/
abbrev nV (n : Nat) : V := .int (n : Int)
abbrev nD (n : Nat) : PyData := .int (n : Int)
structure MvT where
  st : Nat
  pl : Nat
  ns : Nat
  np : Nat
  sd : Option Nat
  sh : List (Nat × Nat)
def sdV : Option Nat → V
  | none => .non
  | some d => nV d
def sdD : Option Nat → PyData
  | none => .none
  | some d => nD d
def shD (p : Nat × Nat) : PyData := .tuple [nD p.1, nD p.2]
def MvT.data (m : MvT) : PyData := .tuple [nD m.st, nD m.pl, nD m.ns, nD m.np, sdD m.sd, .list (m.sh.map shD)]
structure MT where
  states : Nat
  places : Nat
  sst : Nat
  cnts : List Int
  crew : Nat
  moves : List MvT
def MT.data (M : MT) : PyData := .tuple [nD M.states, nD M.places, sitD M.sst M.cnts, nD M.crew, .list (M.moves.map MvT.data)]
structure ShOk (sh : List (Nat × Nat)) (P : Nat) : Prop where
  asc : (sh.map (·.1)).Pairwise (· < ·)
  fst : ∀ p ∈ sh, p.1 < P
  snd : ∀ p ∈ sh, p.2 < P
  sep : ∀ p ∈ sh, ∀ q ∈ sh, p.2 ≠ q.1
structure MvT.Fit (m : MvT) (S P : Nat) : Prop where
  st : m.st < S
  pl : m.pl < P
  ns : m.ns < S
  np : m.np < P
  sd : ∀ d, m.sd = some d → d < P
  sh : ShOk m.sh P
structure MT.Ok (M : MT) : Prop where
  s1 : 1 ≤ M.states
  s2 : M.states ≤ 4
  p1 : 1 ≤ M.places
  p2 : M.places ≤ 6
  ss : M.sst < M.states
  cl : M.cnts.length = M.places
  cb : ∀ c ∈ M.cnts, 0 ≤ c ∧ c < 3
  cr : M.crew < M.places
  ml : M.moves.length ≤ 12
  fit : ∀ m ∈ M.moves, m.Fit M.states M.places
  nd : M.moves.Nodup
def shiftAll (sh : List (Nat × Nat)) (cs : List Int) : List Int := sh.foldl (fun cs p => (cs.set p.2 (cs.getD p.2 0 + cs.getD p.1 0)).set p.1 0) cs
def bump (cs : List Int) (k : Nat) (z : Int) : List Int := cs.set k (cs.getD k 0 + z)
def MvT.mid (m : MvT) (cs : List Int) : List Int := shiftAll m.sh (bump cs m.pl (-1))
def MvT.aft (m : MvT) (cs : List Int) : List Int := match m.sd with
  | none => bump (m.mid cs) m.np 1
  | some d => bump (bump (m.mid cs) m.np 1) d 1
def MvT.can (m : MvT) (s : Int) (cs : List Int) : Bool := decide ((m.st : Int) = s) && decide (0 < cs.getD m.pl 0)
def canAt (ms : List MvT) (s : Int) (cs : List Int) (k : Nat) : Bool := match ms[k]? with
  | some m => m.can s cs
  | none => false
def canL (ms : List MvT) (s : Int) (cs : List Int) : List Nat := (List.range ms.length).filter (canAt ms s cs)
theorem shiftAll_len : ∀ (sh : List (Nat × Nat)) (cs : List Int), (shiftAll sh cs).length = cs.length
  | [], _ => rfl
  | p :: r, cs => by
    show (shiftAll r _).length = _
    rw [shiftAll_len r, List.length_set, List.length_set]
theorem bump_len (cs : List Int) (k : Nat) (z : Int) : (bump cs k z).length = cs.length := List.length_set
theorem mid_len (m : MvT) (cs : List Int) : (m.mid cs).length = cs.length := by
  unfold MvT.mid
  rw [shiftAll_len, bump_len]
theorem aft_len (m : MvT) (cs : List Int) : (m.aft cs).length = cs.length := by
  unfold MvT.aft
  split
  · rw [bump_len, mid_len]
  · rw [bump_len, bump_len, mid_len]
theorem shiftAll_snoc (sh : List (Nat × Nat)) (p : Nat × Nat) (cs : List Int) : shiftAll (sh ++ [p]) cs = ((shiftAll sh cs).set p.2 ((shiftAll sh cs).getD p.2 0 + (shiftAll sh cs).getD p.1 0)).set p.1 0 := by
  unfold shiftAll
  rw [List.foldl_append]
  rfl
theorem filt_yes {f : Nat → Bool} {i : Nat} (h : f i = true) : (List.range (i + 1)).filter f = (List.range i).filter f ++ [i] := by
  rw [List.range_succ, List.filter_append, List.filter_cons, if_pos h]
  rfl
theorem filt_no {f : Nat → Bool} {i : Nat} (h : f i = false) : (List.range (i + 1)).filter f = (List.range i).filter f := by
  rw [List.range_succ, List.filter_append, List.filter_cons, if_neg (by rw [h]; decide)]
  show _ ++ [] = _
  rw [List.append_nil]
theorem filt_len (n : Nat) (f : Nat → Bool) : ((List.range n).filter f).length ≤ n := by
  have h := List.length_filter_le f (List.range n)
  rw [List.length_range] at h
  exact h
theorem mem_canL {ms : List MvT} {s : Int} {cs : List Int} {k : Nat} : k ∈ canL ms s cs ↔ ∃ m, ms[k]? = some m ∧ m.can s cs = true := by
  unfold canL
  rw [List.mem_filter, List.mem_range]
  unfold canAt
  constructor
  · rintro ⟨h1, h2⟩
    rw [List.getElem?_eq_getElem h1] at h2
    exact ⟨_, List.getElem?_eq_getElem h1, h2⟩
  · rintro ⟨m, h1, h2⟩
    rw [h1]
    exact ⟨(List.getElem?_eq_some_iff.mp h1).1, h2⟩
section
variable {K : PySem.W.Frag} {H : Hp}
theorem dp_sd {v : V} {o : Option Nat} (h : Dp K H v (sdD o)) : v = sdV o := by
  cases o with
  | none => cases h; rfl
  | some d => exact dp_int h
theorem sd_dp (o : Option Nat) : Dp K H (sdV o) (sdD o) := by
  cases o with
  | none => exact .non
  | some d => exact .int _
theorem dp_sh {v : V} {p : Nat × Nat} (h : Dp K H v (shD p)) : ∃ a, v = .ref a ∧ SqT K H a [nV p.1, nV p.2] := by
  obtain ⟨a, xs, rfl, hs, h⟩ := dp_tup h
  obtain ⟨v1, r1, rfl, d1, h⟩ := dpa_cons h
  obtain ⟨v2, r2, rfl, d2, h⟩ := dpa_cons h
  rw [dp_int d1, dp_int d2, dpa_nil h] at hs
  exact ⟨a, rfl, hs⟩
theorem dp_mv {v : V} {m : MvT} (h : Dp K H v m.data) : ∃ a sa xs, v = .ref a ∧ SqT K H a [nV m.st, nV m.pl, nV m.ns, nV m.np, sdV m.sd, .ref sa] ∧ SqL K H sa xs ∧ DpAll K H xs (m.sh.map shD) := by
  obtain ⟨a, xs, rfl, hs, h⟩ := dp_tup h
  obtain ⟨v1, r1, rfl, d1, h⟩ := dpa_cons h
  obtain ⟨v2, r2, rfl, d2, h⟩ := dpa_cons h
  obtain ⟨v3, r3, rfl, d3, h⟩ := dpa_cons h
  obtain ⟨v4, r4, rfl, d4, h⟩ := dpa_cons h
  obtain ⟨v5, r5, rfl, d5, h⟩ := dpa_cons h
  obtain ⟨v6, r6, rfl, d6, h⟩ := dpa_cons h
  obtain rfl := dpa_nil h
  obtain ⟨sa, ys, rfl, h1, h2⟩ := dp_lst d6
  rw [dp_int d1, dp_int d2, dp_int d3, dp_int d4, dp_sd d5] at hs
  exact ⟨a, sa, ys, rfl, hs, h1, h2⟩
theorem dp_mt {v : V} {M : MT} (h : Dp K H v M.data) : ∃ a sv ma xs, v = .ref a ∧ SqT K H a [nV M.states, nV M.places, sv, nV M.crew, .ref ma] ∧ Sit K H sv M.sst M.cnts ∧ SqL K H ma xs ∧ DpAll K H xs (M.moves.map MvT.data) := by
  obtain ⟨a, xs, rfl, hs, h⟩ := dp_tup h
  obtain ⟨v1, r1, rfl, d1, h⟩ := dpa_cons h
  obtain ⟨v2, r2, rfl, d2, h⟩ := dpa_cons h
  obtain ⟨v3, r3, rfl, d3, h⟩ := dpa_cons h
  obtain ⟨v4, r4, rfl, d4, h⟩ := dpa_cons h
  obtain ⟨v5, r5, rfl, d5, h⟩ := dpa_cons h
  obtain rfl := dpa_nil h
  obtain ⟨ma, ys, rfl, h1, h2⟩ := dp_lst d5
  rw [dp_int d1, dp_int d2, dp_int d4] at hs
  exact ⟨a, v3, ma, ys, rfl, hs, dp_sit d3, h1, h2⟩
theorem dpa_map_at {α : Type} {f : α → PyData} {xs : List V} {as : List α} (h : DpAll K H xs (as.map f)) {i : Nat} {x : V} (hx : xs[i]? = some x) : ∃ a, as[i]? = some a ∧ Dp K H x (f a) := by
  obtain ⟨d, hd, dx⟩ := dpa_at h hx
  obtain ⟨a, ha, rfl⟩ : ∃ a, as[i]? = some a ∧ d = f a := by
    rw [List.getElem?_map] at hd
    cases e : as[i]? with
    | none => rw [e] at hd; cases hd
    | some a => rw [e] at hd; exact ⟨a, rfl, (Option.some.inj hd).symm⟩
  exact ⟨a, ha, dx⟩
theorem dpa_map_at' {α : Type} {f : α → PyData} {xs : List V} {as : List α} (h : DpAll K H xs (as.map f)) {i : Nat} {a : α} (ha : as[i]? = some a) : ∃ x, xs[i]? = some x ∧ Dp K H x (f a) := by
  obtain ⟨v, hv, dv⟩ := dpa_at' h (i := i) (d := f a) (by rw [List.getElem?_map, ha]; rfl)
  exact ⟨v, hv, dv⟩
theorem dpa_map_len {α : Type} {f : α → PyData} {xs : List V} {as : List α} (h : DpAll K H xs (as.map f)) : xs.length = as.length := by
  have := dpa_len h
  rw [List.length_map] at this
  exact this
end
theorem at_n {xs : List V} {i : Int} {j : Nat} {v : V} (e : i = (j : Int)) (h : xs[j]? = some v) : atI xs i = some v := by
  rw [e]
  exact atI_nat h
theorem hu65 {A : Around} {k : Nat} (hr : Room k A) : A.units + 65 < cLine := by
  have := hr.un
  omega
theorem opNotInD {X : Cx} (K : PySem.W.Frag) (hu : X.A.units + 65 < cLine) (h : X.K = K := by rfl) : OpR X (compareOp .NotIn) (rNotInD K) := h ▸ op_notInD hu
theorem opInD {X : Cx} (K : PySem.W.Frag) (hu : X.A.units + 65 < cLine) (h : X.K = K := by rfl) : OpR X (compareOp .In) (rInD K) := h ▸ op_inD hu
section
variable {P : Program} {w : World} {K : PySem.W.Frag} {mg : Str → Option Value} {base : Heap}
abbrev s_move_at : Stmt := topS 5
theorem sc_move_at : FnScope ["machine", "index"] ["machine", "index"] (defScope s_move_at) := ⟨rfl, rfl, rfl, by decide +kernel, rfl, by decide +kernel, by decide +kernel⟩
-- move_at slots: machine=0 index=1 globals: len OutOfRange
def spMvAt (K : PySem.W.Frag) : Sp := fun vs H Q _ => ∃ (v : V) (M : MT) (i : Nat) (m : MvT), vs = [v, nV i] ∧ Dp K H v M.data ∧ M.moves[i]? = some m ∧ ∀ x, Dp K H x m.data → Q x H
theorem fd_move_at {f : Addr} {fd : FuncData} (F : Fun K "move_at" "move_at" s_move_at f fd) (m : mg "move_at" = some (.ref f)) (B : Bt mg) : Fd P w K mg base "move_at" ["machine", "index"] 1 (spMvAt K) := by
  refine ⟨f, fd, F.ok sc_move_at (fun vs H Q E h => ?_) (fun cdv A outer s H vs Q E hr h => ?_), m, F.kp, F.binds (ps := ["machine", "index"]) fun _ _ _ _ _ _ us hl => match us, hl with | [_, _], _ => rfl⟩
  · obtain ⟨v, M, i, m, rfl, _⟩ := h
    rfl
  obtain ⟨v, M, i, mv, rfl, hd, hm, q⟩ := h
  obtain ⟨a, sv, ma, xs, rfl, ha, _, hma, hxs⟩ := dp_mt hd
  obtain ⟨x, hx, dx⟩ := dpa_map_at' hxs hm
  have hi : i < xs.length := (List.getElem?_eq_some_iff.mp hx).1
  refine ⟨_, (pss_cons (ps_if (pt_not (pt_chain op_le op_lt pe_int (pv 1) (pe_callB (cLen K) (by rfl) B.len PySem.boot_len (pa_cons (pe_ix (ixT K) (pv 0) pe_int (fun _ _ => rfl)) pa_nil))))
 (pss_one ps_never)
 pss_nil)
 (pss_one (ps_ret (pe_ix (ixL K) (pe_ix (ixT K) (pv 0) pe_int (fun _ _ => rfl)) (pv 1) (fun _ _ => rfl))))), ?_⟩
  refine ⟨_, rfl, _, _, rfl, rfl, _, rfl, ?_⟩
  rw [if_pos (decide_eq_true (show (0 : Int) ≤ (i : Int) by omega))]
  refine ⟨_, rfl, _, _, _, _, rfl, rfl, ha, atI_nat (j := 4) rfl, ma, _, rfl, .inl hma, _, _, rfl, rfl, _, rfl, ?_⟩
  rw [decide_eq_true (show (i : Int) < (xs.length : Int) by omega)]
  refine iteF ?_
  exact ⟨_, rfl, _, _, _, _, rfl, rfl, ha, atI_nat (j := 4) rfl, _, rfl, _, _, _, _, rfl, rfl, hma, atI_nat hx, q _ dx⟩
theorem set_int (cs : List Int) (k : Nat) (z : Int) : (cs.map V.int).set k (.int z) = (cs.set k z).map V.int := List.map_set.symm
/-- the situation after a move -/
def NewSit (H H' : Hp) (p : Addr) (s : Int) (cs : List Int) : Prop := ∃ ca, H p = none ∧ H ca = none ∧ ca ≠ p ∧ H' p = some (.tup [.int s, .ref ca]) ∧ H' ca = some (.lst (cs.map V.int))
theorem NewSit.sit {H H' : Hp} {p : Addr} {s : Int} {cs : List Int} (h : NewSit H H' p s cs) : Sit K H' (.ref p) s cs := by
  obtain ⟨ca, _, _, _, h1, h2⟩ := h
  exact ⟨p, ca, rfl, st h1, sq h2⟩
def spIsPos (K : PySem.W.Frag) : Sp := fun vs H Q _ => ∃ (v x : V) (M : MT) (i : Nat) (m : MvT) (s : Int) (cs : List Int), vs = [v, x, nV i] ∧ Dp K H v M.data ∧ Sit K H x s cs ∧ M.moves[i]? = some m ∧ m.pl < cs.length ∧ Q (.bl (m.can s cs)) H
def spStart (K : PySem.W.Frag) : Sp := fun vs H Q _ => ∃ (v : V) (M : MT) (n : Int), vs = [v, .int n] ∧ Dp K H v M.data ∧ 0 ≤ n ∧ M.crew < M.cnts.length ∧ ∀ H' p, Same H H' → NewSit H H' p M.sst (bump M.cnts M.crew n) → Q (.ref p) H'
end
/-! ### wide situations: counts that may be None -/
def oV : Option Int → V
  | none => .non
  | some i => .int i
def oD : Option Int → PyData
  | none => .none
  | some i => .int i
def WSit (K : PySem.W.Frag) (H : Hp) (v : V) (s : Int) (ns : List (Option Int)) : Prop := ∃ a ca, v = .ref a ∧ SqT K H a [.int s, .ref ca] ∧ SqL K H ca (ns.map oV)
theorem Same.wsit {K : PySem.W.Frag} {H H' : Hp} (e : Same H H') {v : V} {s : Int} {ns : List (Option Int)} (h : WSit K H v s ns) : WSit K H' v s ns := by
  obtain ⟨a, ca, e1, h1, h2⟩ := h
  exact ⟨a, ca, e1, Same.seqT e h1, e.seq h2⟩
def wsitD (s : Int) (ns : List (Option Int)) : PyData := .tuple [.int s, .list (ns.map oD)]
theorem dp_oV {K : PySem.W.Frag} {H : Hp} : ∀ n : Option Int, Dp K H (oV n) (oD n)
  | none => .non
  | some i => .int i
theorem dpa_os {K : PySem.W.Frag} {H : Hp} : ∀ ns : List (Option Int), DpAll K H (ns.map oV) (ns.map oD)
  | [] => .nil
  | n :: r => .cons (dp_oV n) (dpa_os r)
theorem wsit_dp {K : PySem.W.Frag} {H : Hp} {v : V} {s : Int} {ns : List (Option Int)} (h : WSit K H v s ns) : Dp K H v (wsitD s ns) := by
  obtain ⟨a, ca, rfl, h1, h2⟩ := h
  exact .tup h1 (.cons (.int _) (.cons (.lst h2 (dpa_os ns)) .nil))
theorem dp_oE {K : PySem.W.Frag} {H : Hp} {v : V} : ∀ {n : Option Int}, Dp K H v (oD n) → v = oV n
  | none, h => by cases h; rfl
  | some i, h => dp_int h
theorem dpa_osE {K : PySem.W.Frag} {H : Hp} : ∀ {ns : List (Option Int)} {vs : List V}, DpAll K H vs (ns.map oD) → vs = ns.map oV
  | [], _, h => dpa_nil h
  | n :: ns, vs, h => by
    obtain ⟨v, r, rfl, h1, h2⟩ := dpa_cons h
    rw [dp_oE h1, dpa_osE h2]
    rfl
theorem dp_wsit {K : PySem.W.Frag} {H : Hp} {v : V} {s : Int} {ns : List (Option Int)} (h : Dp K H v (wsitD s ns)) : WSit K H v s ns := by
  obtain ⟨a, xs, rfl, h1, h2⟩ := dp_tup h
  obtain ⟨v1, r1, rfl, d1, h2⟩ := dpa_cons h2
  obtain ⟨v2, r2, rfl, d2, h2⟩ := dpa_cons h2
  obtain rfl := dpa_nil h2
  obtain ⟨ca, cxs, rfl, h3, h4⟩ := dp_lst d2
  rw [dp_int d1] at h1
  rw [dpa_osE h4] at h3
  exact ⟨a, ca, rfl, h1, h3⟩
/-- a count that is enough for another one -/
def geO : Option Int → Option Int → Bool
  | none, _ => true
  | some m, some n => decide (n ≤ m)
  | some _, none => false
def geW : List (Option Int) → List (Option Int) → Bool
  | m :: ms, n :: ns => geO m n && geW ms ns
  | _, _ => true
theorem geO_refl : ∀ m : Option Int, geO m m = true
  | none => rfl
  | some m => decide_eq_true (Int.le_refl m)
theorem geW_refl : ∀ ms : List (Option Int), geW ms ms = true
  | [] => rfl
  | m :: ms => by
    show (geO m m && geW ms ms) = true
    rw [geO_refl, geW_refl ms]
    rfl
theorem geW_take {ms ns : List (Option Int)} {m n : Option Int} : ∀ {i : Nat}, ms[i]? = some m → ns[i]? = some n → geW (ms.take (i + 1)) (ns.take (i + 1)) = (geW (ms.take i) (ns.take i) && geO m n) := by
  induction ms generalizing ns with
  | nil => intro i h; simp at h
  | cons a ms ih =>
    intro i h1 h2
    cases ns with
    | nil => simp at h2
    | cons b ns =>
      cases i with
      | zero =>
        cases h1
        cases h2
        show (geO m n && geW (ms.take 0) (ns.take 0)) = (true && _)
        rw [List.take_zero, List.take_zero]
        show (geO m n && true) = _
        rw [Bool.and_true, Bool.true_and]
      | succ i =>
        show (geO a b && geW (ms.take (i + 1)) (ns.take (i + 1))) = ((geO a b && geW (ms.take i) (ns.take i)) && geO m n)
        rw [ih h1 h2, Bool.and_assoc]
theorem geW_false {ms ns : List (Option Int)} : ∀ {i : Nat}, geW (ms.take i) (ns.take i) = false → geW ms ns = false := by
  induction ms generalizing ns with
  | nil => intro i h; rw [List.take_nil] at h; cases h
  | cons a ms ih =>
    intro i h
    cases ns with
    | nil => rw [List.take_nil] at h; cases i <;> cases h
    | cons b ns =>
      cases i with
      | zero => cases h
      | succ i =>
        have h' : (geO a b && geW (ms.take i) (ns.take i)) = false := h
        show (geO a b && geW ms ns) = false
        cases hb : geO a b with
        | false => rfl
        | true =>
          rw [hb, Bool.true_and] at h'
          rw [ih h']
          rfl
/-- the first wide situation covers the second one -/
def covW (s : Int) (ms : List (Option Int)) (t : Int) (ns : List (Option Int)) : Bool := decide (s = t) && geW ms ns
theorem covW_refl (s : Int) (ms : List (Option Int)) : covW s ms s ms = true := by
  unfold covW
  rw [decide_eq_true (show s = s from rfl), geW_refl]
  rfl
theorem gdO {ds : List (Option Int)} {i : Nat} (h : i < ds.length) : ds[i]? = some (ds.getD i none) := by
  rw [List.getD_eq_getElem?_getD, List.getElem?_eq_getElem h]
  rfl
theorem gdO_mem {ds : List (Option Int)} {i : Nat} (h : i < ds.length) : ds.getD i none ∈ ds := List.mem_of_getElem? (gdO h)
theorem at_gdO {ds : List (Option Int)} {i : Int} {j : Nat} (e : i = (j : Int)) (h : j < ds.length) : atI (ds.map oV) i = some (oV (ds.getD j none)) := by
  rw [e]
  exact atI_nat (get_map (gdO h))
theorem oV_non {m : Option Int} : decide (oV m = .non) = m.isNone := by
  cases m with
  | none => rfl
  | some i => exact decide_eq_false fun z => by cases z
/-- a comprehension over a range, any values -/
theorem lc_valR {K : PySem.W.Frag} {n : Nat} (hn : n ≤ 90000) {j : Nat} {te : TE} {vs : List Nat} {σ : L2.St} {H1 : Hp} {D : Addr} {Qd : Hp → Prop} (nD : H1 D = none) (f : Nat → V) (hw : ∀ x, wipe ((wipe σ vs).set j x) vs = wipe σ vs)
    (hs : ∀ i H (Q : VK), i < n → Same H1 H → (∀ H4, Same H H4 → Q (f i) H4) → te ((wipe σ vs).set j (some (.int ((0 : Int) + (i : Int))))) H Q)
    (hd : ∀ H, Same H1 H → H D = some (.lst ((List.range n).map f)) → Qd H) :
    ∃ W : Nat → Nat → Hp → Prop, (∃ m, W 0 m (upd H1 D (.lst []))) ∧ ∀ i m H, W i m H →
      ((Itr 0 n).stop i H ∧ Qd H) ∨ ((Itr 0 n).go i H ∧ ∃ Nx : Hp → Prop, (∀ H', Nx H' → ∃ m', m' < m ∧ W (i + 1) m' H') ∧ ∀ x H', (Itr 0 n).yld i H x H' → gName j x (wipe σ vs) H' fun σ2 H2 => wipe σ2 vs = wipe σ vs ∧ tYes σ2 H2 fun b H3 =>
        if b = true then te σ2 H3 fun y H4 => ∃ acc, H4 D = some (.lst acc) ∧ acc.length < sizeLine ∧ Nx (upd H4 D (.lst (acc ++ [y]))) else Nx H3) := by
  refine lc_range (fun i H' => Same H1 H' ∧ H' D = some (.lst ((List.range i).map f))) ⟨same_new nD, upd_same⟩ ?_ fun H h => hd H h.1 h.2
  rintro i H hi ⟨sm, eD⟩
  refine ⟨hw _, ?_⟩
  show te _ H _
  refine hs i H _ hi sm fun H' s => ?_
  refine ⟨_, s _ _ eD, ?_, Same.mut (sm.trans s) nD, ?_⟩
  · rw [List.length_map, List.length_range]
    exact szl (by omega)
  · rw [upd_same, List.range_succ, List.map_append]
    rfl
section
variable {P : Program} {w : World} {K : PySem.W.Frag} {mg : Str → Option Value} {base : Heap}
end
/-! ### moves of wide situations -/
def bumpO (cs : List (Option Int)) (k : Nat) (z : Int) : List (Option Int) := cs.set k ((cs.getD k none).map (· + z))
def chgO (cs : List (Option Int)) (p : Option Nat × Int) : List (Option Int) := match p.1 with
  | none => cs
  | some k => bumpO cs k p.2
def MvT.stepsW (m : MvT) : List (Option Nat × Int) := [(some m.pl, -1), (some m.np, 1), (m.sd, 1)]
def MvT.aftW (m : MvT) (cs : List (Option Int)) : List (Option Int) := m.stepsW.foldl chgO cs
def posO : Option Int → Bool
  | none => true
  | some c => decide (0 < c)
def MvT.canW (m : MvT) (s : Int) (cs : List (Option Int)) : Bool := decide ((m.st : Int) = s) && posO (cs.getD m.pl none)
theorem bumpO_len (cs : List (Option Int)) (k : Nat) (z : Int) : (bumpO cs k z).length = cs.length := List.length_set
theorem chgO_len (cs : List (Option Int)) (p : Option Nat × Int) : (chgO cs p).length = cs.length := by
  unfold chgO
  split
  · rfl
  · exact bumpO_len _ _ _
theorem chgs_len : ∀ (ps : List (Option Nat × Int)) (cs : List (Option Int)), (ps.foldl chgO cs).length = cs.length
  | [], _ => rfl
  | p :: r, cs => by
    show (r.foldl chgO (chgO cs p)).length = _
    rw [chgs_len r, chgO_len]
theorem aftW_len (m : MvT) (cs : List (Option Int)) : (m.aftW cs).length = cs.length := chgs_len _ _
theorem bumpO_none {cs : List (Option Int)} {k : Nat} {z : Int} (hk : k < cs.length) (h : cs.getD k none = none) : bumpO cs k z = cs := by
  unfold bumpO
  rw [h]
  show cs.set k none = cs
  refine List.ext_getElem? fun i => ?_
  rw [List.getElem?_set]
  split
  · rename_i e
    subst e
    rw [gdO hk, h]
  · rfl
theorem set_oV (cs : List (Option Int)) (k : Nat) (z : Int) : (cs.map oV).set k (.int z) = (cs.set k (some z)).map oV := by
  rw [List.map_set]
  rfl
/-- a wide situation made anew -/
def NewW (H H' : Hp) (p : Addr) (s : Int) (cs : List (Option Int)) : Prop := ∃ ca, H p = none ∧ H ca = none ∧ ca ≠ p ∧ H' p = some (.tup [.int s, .ref ca]) ∧ H' ca = some (.lst (cs.map oV))
theorem NewW.sit {K : PySem.W.Frag} {H H' : Hp} {p : Addr} {s : Int} {cs : List (Option Int)} (h : NewW H H' p s cs) : WSit K H' (.ref p) s cs := by
  obtain ⟨ca, _, _, _, h1, h2⟩ := h
  exact ⟨p, ca, rfl, My.st h1, sq h2⟩
section
variable {P : Program} {w : World} {K : PySem.W.Frag} {mg : Str → Option Value} {base : Heap}
theorem int_eqE (a b : Int) : decide (V.int a = V.int b) = decide (a = b) := by
  by_cases h : a = b
  · rw [decide_eq_true h, h, decide_eq_true rfl]
  · rw [decide_eq_false h, decide_eq_false fun z => h (by cases z; rfl)]
abbrev s_can_take_wide : Stmt := topS 8
theorem sc_can_take_wide : FnScope ["situation", "move", "count"] ["situation", "move"] (defScope s_can_take_wide) := ⟨rfl, rfl, rfl, by decide +kernel, rfl, by decide +kernel, by decide +kernel⟩
-- can_take_wide slots: situation=0 move=1 count=2 globals: 
def spCanW (K : PySem.W.Frag) : Sp := fun vs H Q _ => ∃ (x y : V) (s : Int) (cs : List (Option Int)) (m : MvT), vs = [x, y] ∧ WSit K H x s cs ∧ Dp K H y m.data ∧ m.pl < cs.length ∧ Q (.bl (m.canW s cs)) H
theorem fd_can_take_wide {f : Addr} {fd : FuncData} (F : Fun K "can_take_wide" "can_take_wide" s_can_take_wide f fd) (m : mg "can_take_wide" = some (.ref f)) (B : Bt mg) : Fd P w K mg base "can_take_wide" ["situation", "move"] 1 (spCanW K) := by
  refine ⟨f, fd, F.ok sc_can_take_wide (fun vs H Q E h => ?_) (fun cdv A outer s H vs Q E hr h => ?_), m, F.kp, F.binds (ps := ["situation", "move"]) fun _ _ _ _ _ _ us hl => match us, hl with | [_, _], _ => rfl⟩
  · obtain ⟨x, y, s, cs, m, rfl, _⟩ := h
    rfl
  obtain ⟨x, y, s, cs, mv, rfl, ⟨a, ca, rfl, ha, hca⟩, hd, hp, q⟩ := h
  obtain ⟨b, sa, xs, rfl, hb, _⟩ := dp_mv hd
  refine ⟨_, (pss_cons (ps_set (i := 2) sc_can_take_wide.nd rfl (Or.inl rfl) (pe_ix (ixL K) (pe_ix (ixT K) (pv 0) pe_int (fun _ _ => rfl)) (pe_ix (ixT K) (pv 1) pe_int (fun _ _ => rfl)) (fun _ _ => rfl)))
 (pss_one (ps_ret (pe_and (pe_cmpR op_eq (pe_ix (ixT K) (pv 1) pe_int (fun _ _ => rfl)) (pe_ix (ixT K) (pv 0) pe_int (fun _ _ => rfl)) (nomark _)) (pe_one (pe_or (pe_cmpR op_isN (pv 2) pe_non (nomark _)) (pe_one (pe_cmpR op_gt (pv 2) pe_int (nomark _))))))))), ?_⟩
  have ac := at_gdO (ds := cs) (i := (mv.pl : Int)) rfl hp
  refine ⟨_, rfl, _, _, _, _, rfl, rfl, ha, atI_nat (j := 1) rfl, _, rfl, _, _, _, _, rfl, rfl, hb, atI_nat (j := 1) rfl, _, _, _, _, rfl, rfl, hca, ac, ?_⟩
  dsimp only [gName]
  refine ⟨_, rfl, _, _, _, _, rfl, rfl, hb, atI_nat (j := 0) rfl, _, rfl, _, _, _, _, rfl, rfl, ha, atI_nat (j := 0) rfl, rfl, _, rfl, ?_⟩
  rw [int_eqE]
  unfold MvT.canW at q
  cases e : decide ((mv.st : Int) = s) with
  | false =>
    rw [e, Bool.false_and] at q
    exact iteF q
  | true =>
    rw [e, Bool.true_and] at q
    refine iteT ?_
    generalize cs.getD mv.pl none = c at q ⊢
    cases c with
    | none => exact ⟨_, rfl, rfl, _, rfl, iteT q⟩
    | some c => exact ⟨_, rfl, rfl, _, rfl, iteF ⟨_, rfl, _, _, rfl, rfl, q⟩⟩
abbrev s_taken_wide : Stmt := topS 9
theorem sc_taken_wide : FnScope ["situation", "move", "_", "place", "next_state", "next_place", "started", "counts", "changed", "change"] ["situation", "move"] (defScope s_taken_wide) := ⟨rfl, rfl, rfl, by decide +kernel, rfl, by decide +kernel, by decide +kernel⟩
-- taken_wide slots: situation=0 move=1 _=2 place=3 next_state=4 next_place=5 started=6 counts=7 changed=8 change=9 globals: list
def spTakenW (K : PySem.W.Frag) : Sp := fun vs H Q _ => ∃ (x y : V) (s : Int) (cs : List (Option Int)) (m : MvT) (S : Nat), vs = [x, y] ∧ WSit K H x s cs ∧ Dp K H y m.data ∧ m.Fit S cs.length ∧
  ∀ H' p, Same H H' → NewW H H' p m.ns (m.aftW cs) → Q (.ref p) H'
theorem fd_taken_wide {f : Addr} {fd : FuncData} (F : Fun K "taken_wide" "taken_wide" s_taken_wide f fd) (m : mg "taken_wide" = some (.ref f)) (B : Bt mg) : Fd P w K mg base "taken_wide" ["situation", "move"] 1 (spTakenW K) := by
  refine ⟨f, fd, F.ok sc_taken_wide (fun vs H Q E h => ?_) (fun cdv A outer s H vs Q E hr h => ?_), m, F.kp, F.binds (ps := ["situation", "move"]) fun _ _ _ _ _ _ us hl => match us, hl with | [_, _], _ => rfl⟩
  · obtain ⟨x, y, s, cs, m, S, rfl, _⟩ := h
    rfl
  obtain ⟨x, y, s, cs, mv, S, rfl, ⟨a, ca, rfl, ha, hca⟩, hd, hf, q⟩ := h
  obtain ⟨b, sa, xs, rfl, hb, _⟩ := dp_mv hd
  refine ⟨_, (pss_cons (ps_asg (pv 1) (pg_tup rfl (pgs_cons (pg_name (i := 2) sc_taken_wide.nd rfl (Or.inl rfl)) (pgs_cons (pg_name (i := 3) sc_taken_wide.nd rfl (Or.inl rfl)) (pgs_cons (pg_name (i := 4) sc_taken_wide.nd rfl (Or.inl rfl)) (pgs_cons (pg_name (i := 5) sc_taken_wide.nd rfl (Or.inl rfl)) (pgs_cons (pg_name (i := 6) sc_taken_wide.nd rfl (Or.inl rfl)) (pgs_cons (pg_name (i := 2) sc_taken_wide.nd rfl (Or.inl rfl)) pgs_nil))))))))
 (pss_cons (ps_set (i := 7) sc_taken_wide.nd rfl (Or.inl rfl) (pe_callTy (cList K) (by rfl) B.list (by decide +kernel) (pa_cons (pe_ix (ixT K) (pv 0) pe_int (fun _ _ => rfl)) pa_nil)))
 (pss_cons (ps_for PassesOwn.never rfl (piT K (pe_tup (pa_cons (pe_tup (pa_cons (pv 3) (pa_cons (pe_un un_neg pe_int) pa_nil))) (pa_cons (pe_tup (pa_cons (pv 5) (pa_cons pe_int pa_nil))) (pa_cons (pe_tup (pa_cons (pv 6) (pa_cons pe_int pa_nil))) pa_nil))))) (pg_tup rfl (pgs_cons (pg_name (i := 8) sc_taken_wide.nd rfl (Or.inl rfl)) (pgs_cons (pg_name (i := 9) sc_taken_wide.nd rfl (Or.inl rfl)) pgs_nil)))
 (pss_one (ps_if (PW.pt (pw_and (pt_cmpR op_notN (pv 8) pe_non (nomark _)) (pw_and1 (pt_cmpR op_notN (pe_ix (ixL K) (pv 7) (pv 8) (fun _ _ => rfl)) pe_non (nomark _)))))
 (pss_one (ps_augS (pv 7) (pv 8) (getL K) (pv 9) ip_add set_list))
 pss_nil)))
 (pss_one (ps_ret (pe_tup (pa_cons (pv 4) (pa_cons (pv 7) pa_nil)))))))), ?_⟩
  refine ⟨_, rfl, b, _, rfl, hb, rfl, _, _, rfl, _, _, rfl, _, _, rfl, _, _, rfl, _, _, rfl, _, _, rfl, rfl, ?_⟩
  dsimp only [gName]
  refine ⟨_, rfl, _, _, _, _, rfl, rfl, ha, atI_nat (j := 1) rfl, ca, _, rfl, .inl hca, fun l nl => ?_⟩
  dsimp only [gName]
  have s1 := same_new (o := HO.lst (cs.map oV)) nl
  have el : (upd H l (.lst (cs.map oV))) l = some (.lst (cs.map oV)) := upd_same
  generalize upd H l (.lst (cs.map oV)) = H1 at s1 el ⊢
  refine ⟨_, rfl, _, rfl, szc 2, fun t1 n1 => ?_⟩
  refine ⟨_, rfl, szc 2, fun t2 n2 => ?_⟩
  refine ⟨_, rfl, szc 2, fun t3 n3 => ⟨szc 3, fun t4 n4 => ?_⟩⟩
  have e3 : (upd (upd (upd (upd H1 t1 (.tup [nV mv.pl, .int (-1)])) t2 (.tup [nV mv.np, .int 1])) t3 (.tup [sdV mv.sd, .int 1])) t4 (.tup [.ref t1, .ref t2, .ref t3])) t3 = some (.tup [sdV mv.sd, .int 1]) := (same_new n4) _ _ upd_same
  have e2 : (upd (upd (upd (upd H1 t1 (.tup [nV mv.pl, .int (-1)])) t2 (.tup [nV mv.np, .int 1])) t3 (.tup [sdV mv.sd, .int 1])) t4 (.tup [.ref t1, .ref t2, .ref t3])) t2 = some (.tup [nV mv.np, .int 1]) := (same_new n4) _ _ ((same_new n3) _ _ upd_same)
  have e1 : (upd (upd (upd (upd H1 t1 (.tup [nV mv.pl, .int (-1)])) t2 (.tup [nV mv.np, .int 1])) t3 (.tup [sdV mv.sd, .int 1])) t4 (.tup [.ref t1, .ref t2, .ref t3])) t1 = some (.tup [nV mv.pl, .int (-1)]) := (same_new n4) _ _ ((same_new n3) _ _ ((same_new n2) _ _ upd_same))
  have e4 : (upd (upd (upd (upd H1 t1 (.tup [nV mv.pl, .int (-1)])) t2 (.tup [nV mv.np, .int 1])) t3 (.tup [sdV mv.sd, .int 1])) t4 (.tup [.ref t1, .ref t2, .ref t3])) t4 = some (.tup [.ref t1, .ref t2, .ref t3]) := upd_same
  have s14 : Same H1 (upd (upd (upd (upd H1 t1 (.tup [nV mv.pl, .int (-1)])) t2 (.tup [nV mv.np, .int 1])) t3 (.tup [sdV mv.sd, .int 1])) t4 (.tup [.ref t1, .ref t2, .ref t3])) := ((same_new n1).trans (same_new n2)).trans ((same_new n3).trans (same_new n4))
  generalize upd (upd (upd (upd H1 t1 (.tup [nV mv.pl, .int (-1)])) t2 (.tup [nV mv.np, .int 1])) t3 (.tup [sdV mv.sd, .int 1])) t4 (.tup [.ref t1, .ref t2, .ref t3]) = H2 at e1 e2 e3 e4 s14 ⊢
  clear n1 n2 n3 n4
  have el2 := s14 _ _ el
  have s12 := s1.trans s14
  have dl : ∀ {t : Addr} {xs : List V}, H2 t = some (.tup xs) → t ≠ l := fun h e => by rw [e, el2] at h; cases h
  have tAt : ∀ (i : Nat) (x : V), [V.ref t1, .ref t2, .ref t3][i]? = some x → ∃ (t : Addr) (o : Option Nat) (z : Int), x = .ref t ∧ H2 t = some (.tup [sdV o, .int z]) ∧ mv.stepsW[i]? = some (o, z) ∧ (∀ k, o = some k → k < cs.length) := fun i x h => by
    match i, h with
    | 0, h => cases h; exact ⟨t1, some mv.pl, -1, rfl, e1, rfl, fun k e => by cases e; exact hf.pl⟩
    | 1, h => cases h; exact ⟨t2, some mv.np, 1, rfl, e2, rfl, fun k e => by cases e; exact hf.np⟩
    | 2, h => cases h; exact ⟨t3, mv.sd, 1, rfl, e3, rfl, hf.sd⟩
  refine ⟨t4, rfl, ⟨_, st e4⟩, for_tup (xs := [.ref t1, .ref t2, .ref t3]) (fun i σ' H' => ∃ y8 y9 : Option V, σ' = [some (.ref a), some (.ref b), some (.ref sa), some (nV mv.pl), some (nV mv.ns), some (nV mv.np), some (sdV mv.sd), some (.ref l), y8, y9] ∧ Same (Ho l H2) (Ho l H') ∧ Same H H' ∧ H' l = some (.lst (((mv.stepsW.take i).foldl chgO cs).map oV))) ⟨none, none, rfl, Same.refl _, s12, el2⟩ ?_ ?_ ?_⟩
  · rintro i σ' H' _ ⟨y8, y9, rfl, sh, _, _⟩
    refine st (ho_out _ _ (sh _ _ ?_))
    unfold Ho
    rw [if_neg (dl e4)]
    exact e4
  · rintro i x σ' H' hx ⟨y8, y9, rfl, sh, sm, eL⟩
    obtain ⟨t, o, z, rfl, et, hs, ho⟩ := tAt i x hx
    have et' : H' t = some (.tup [sdV o, .int z]) := ho_out _ _ (sh _ _ (by unfold Ho; rw [if_neg (dl et)]; exact et))
    rw [take_snoc hs, List.foldl_append]
    have ln : ((mv.stepsW.take i).foldl chgO cs).length = cs.length := chgs_len _ _
    show _
    generalize (mv.stepsW.take i).foldl chgO cs = c1 at eL ln ⊢
    show _
    refine ⟨t, _, rfl, st et', rfl, _, _, rfl, _, _, rfl, rfl, ?_⟩
    dsimp only [gName]
    refine ⟨_, rfl, rfl, _, rfl, ?_⟩
    cases o with
    | none => exact iteF (iteF ⟨_, _, rfl, sh, sm, eL⟩)
    | some k =>
      have hk : k < c1.length := by rw [ln]; exact ho k rfl
      have ak := at_gdO (ds := c1) (i := (k : Int)) rfl hk
      refine iteT ⟨_, rfl, _, rfl, _, _, _, _, rfl, rfl, sq eL, ak, rfl, _, rfl, ?_⟩
      rw [oV_non]
      cases e : c1.getD k none with
      | none => exact iteF ⟨_, _, rfl, sh, sm, by show H' l = some (.lst ((bumpO c1 k z).map oV)); rw [bumpO_none hk e]; exact eL⟩
      | some c =>
        refine iteT ?_
        rw [e] at ak
        refine ⟨_, rfl, _, rfl, _, _, _, _, rfl, rfl, (show (0 : Int) ≤ (k : Int) by omega), sq eL, ak, _, rfl, _, _, rfl, rfl, _, _, _, _, rfl, rfl, eL, ixN_nat (by rw [List.length_map]; exact hk), ?_⟩
        rw [set_oV]
        refine ⟨_, _, rfl, sh.trans ho_mut, Same.mut sm nl, ?_⟩
        show _ = some (HO.lst ((bumpO c1 k z).map oV))
        unfold bumpO
        rw [e]
        exact upd_same
  · rintro σ' H' ⟨y8, y9, rfl, sh, sm, eL⟩
    refine ⟨_, rfl, _, rfl, szc 2, fun p np => ?_⟩
    have pl : p ≠ l := fun e => by rw [e, eL] at np; cases np
    exact q _ p (sm.trans (same_new np)) ⟨l, sm.free np, nl, Ne.symm pl, upd_same, by rw [upd_ne (Ne.symm pl)]; exact eL⟩
abbrev s_wide_after : Stmt := topS 7
theorem sc_wide_after : FnScope ["machine", "situation", "move", "taken"] ["machine", "situation", "move"] (defScope s_wide_after) := ⟨rfl, rfl, rfl, by decide +kernel, rfl, by decide +kernel, by decide +kernel⟩
-- wide_after slots: machine=0 situation=1 move=2 taken=3 globals: move_at can_take_wide NotPossible taken_wide
def spWAft (K : PySem.W.Frag) : Sp := fun vs H Q _ => ∃ (v x : V) (M : MT) (i : Nat) (m : MvT) (s : Int) (cs : List (Option Int)), vs = [v, x, nV i] ∧ Dp K H v M.data ∧ WSit K H x s cs ∧ M.moves[i]? = some m ∧ m.canW s cs = true ∧ m.sh = [] ∧ m.Fit M.states cs.length ∧
  ∀ H' p, Same H H' → NewW H H' p m.ns (m.aftW cs) → Q (.ref p) H'
theorem fd_wide_after {f : Addr} {fd : FuncData} (F : Fun K "wide_after" "wide_after" s_wide_after f fd) (m : mg "wide_after" = some (.ref f)) (D_move_at : Fd P w K mg base "move_at" ["machine", "index"] 1 (spMvAt K)) (D_can_take_wide : Fd P w K mg base "can_take_wide" ["situation", "move"] 1 (spCanW K)) (D_taken_wide : Fd P w K mg base "taken_wide" ["situation", "move"] 1 (spTakenW K)) : Fd P w K mg base "wide_after" ["machine", "situation", "move"] 2 (spWAft K) := by
  refine ⟨f, fd, F.ok sc_wide_after (fun vs H Q E h => ?_) (fun cdv A outer s H vs Q E hr h => ?_), m, F.kp, F.binds (ps := ["machine", "situation", "move"]) fun _ _ _ _ _ _ us hl => match us, hl with | [_, _, _], _ => rfl⟩
  · obtain ⟨v, x, M, i, m, s, cs, rfl, _⟩ := h
    rfl
  obtain ⟨v, x, M, i, mv, s, cs, rfl, hd, hx, hm, hcan, hsh, hf, q⟩ := h
  refine ⟨_, (pss_cons (ps_set (i := 3) sc_wide_after.nd rfl (Or.inl rfl) (pe_fn D_move_at (hr.mono (by decide)) rfl (pa_cons (pv 0) (pa_cons (pv 2) pa_nil))))
 (pss_cons (ps_if (PW.pt (pw_or (ptTru K (pe_ix (ixT K) (pv 3) pe_int (fun _ _ => rfl)) (by intro _; rfl)) (pw_or1 (pt_not (pt_val (pe_fn D_can_take_wide (hr.mono (by decide)) rfl (pa_cons (pv 1) (pa_cons (pv 3) pa_nil))))))))
 (pss_one ps_never)
 pss_nil)
 (pss_one (ps_ret (pe_fn D_taken_wide (hr.mono (by decide)) rfl (pa_cons (pv 1) (pa_cons (pv 3) pa_nil))))))), ?_⟩
  refine ⟨_, rfl, _, rfl, v, M, i, mv, rfl, hd, hm, fun y dy => ?_⟩
  dsimp only [gName]
  obtain ⟨b, sa, xs, e, hb, hsa, hxs⟩ := dp_mv dy
  rw [hsh] at hxs
  obtain rfl := dpa_nil hxs
  subst e
  refine ⟨_, rfl, _, _, _, _, rfl, rfl, hb, atI_nat (j := 5) rfl, false, .inl ⟨[], hsa, rfl⟩, ?_⟩
  refine iteF ?_
  refine ⟨_, rfl, _, rfl, _, _, s, cs, mv, rfl, hx, dy, hf.pl, _, rfl, ?_⟩
  rw [hcan]
  refine iteF ?_
  exact ⟨_, rfl, _, rfl, x, _, s, cs, mv, M.states, rfl, hx, dy, hf, q⟩
end
/-! ### exceptions of the program's own -/
/-- what the written part says of an exception's class -/
structure ExcX (K : PySem.W.Frag) (mg : Str → Option Value) (x : Str) (C : Addr) : Prop where
  gC : mg x = some (.ref C)
  exc : PySem.W.excIn K C [.type "ValueError", .type "Exception", .type "BaseException", .type "object"] "ValueError.__new__" = true
  kC : PySem.W.keepIn K (.ref C) = true
  ty : PySem.W.typeIn K (.ref C) = some (.type "type")
  ic : PySem.W.isClsIn K C = true
  self : PySem.W.subIn K (.ref C) (.ref C) = some true
  val : PySem.W.subIn K (.ref C) (.type "ValueError") = some true
  is : ExcC K C
theorem ExcX.sub {K : PySem.W.Frag} {mg : Str → Option Value} {x : Str} {C : Addr} (h : ExcX K mg x C) : PySem.W.subIn K (.ref C) (.type "BaseException") = some true := h.is.hs
theorem kit_ref {K : PySem.W.Frag} {C D : Addr} {b : Bool} (hi : PySem.W.isClsIn K D = true) (ht : PySem.W.typeIn K (.ref D) = some (.type "type")) (hne : C ≠ D) (hs : PySem.W.subIn K (.ref C) (.ref D) = some b) : PySem.W.kitOne K (.ref C) (.ref D) = some b := by
  have e0 : ¬ ((Value.ref C == Value.ref D) = true) := fun z => hne (by cases (beq_iff_eq.mp z); rfl)
  have e2 : ((PySem.W.clsIn K D).isSome && PySem.W.typeIn K (.ref D) == some (.type "type")) = true := by
    have h2' : (PySem.W.clsIn K D).isSome = true := hi
    rw [h2', ht] <;> rfl
  show (if (Value.ref C == Value.ref D) = true then some true else if ((PySem.W.clsIn K D).isSome && PySem.W.typeIn K (.ref D) == some (.type "type")) = true then PySem.W.subIn K (.ref C) (.ref D) else none) = some b
  rw [if_neg e0, if_pos e2]
  exact hs
theorem kit_val {K : PySem.W.Frag} {C : Addr} (hs : PySem.W.subIn K (.ref C) (.type "ValueError") = some true) : PySem.W.kitOne K (.ref C) (.type "ValueError") = some true := by
  show (if (Value.ref C == Value.type "ValueError") = true then some true else if PySem.W.kitMeta "ValueError" = true then PySem.W.subIn K (.ref C) (.type "ValueError") else none) = some true
  rw [if_neg (by intro z; cases (beq_iff_eq.mp z)), if_pos (by decide +kernel)]
  exact hs
theorem exm_own {K : PySem.W.Frag} {mg : Str → Option Value} {x : Str} {C D : Addr} {b : Bool} (hD : ExcX K mg x D) (hs : PySem.W.subIn K (.ref C) (.ref D) = some b) : PySem.W.exmOne K (.ref C) (.ref D) = some b := PySem.W.exm_ref hD.sub hD.is.hd hD.ty hs
/-- isinstance(e, c) and isinstance(e, (c1, c2, ..)), e the exception that the suite holds -/
def rIsEx (K : PySem.W.Frag) (a : Addr) (cls : Value) (d : Option Addr) : List V → Hp → VK → Prop := fun xs H Q => ∃ (D : Addr) (b : Bool), cls = .ref D ∧ d = none ∧ ExcC K D ∧ Q (.bl b) H ∧
  ((∃ (c : V) (cv : Value), xs = [.ref a, c] ∧ ClsV c cv ∧ PySem.W.kitOne K (.ref D) cv = some b) ∨ ∃ (tp : Addr) (cs : List V) (us : List Value), xs = [.ref a, .ref tp] ∧ H tp = some (.tup cs) ∧ Paired ClsV cs us ∧ PySem.W.kitAny K (.ref D) us = some b)
theorem call_isEx {X : Cx} {a : Addr} {cls : Value} {d : Option Addr} {oe : Obj} {pn : List (Addr × Obj)} (hz : Zc cls d oe) (hf : ∃ vs, oe.data = .fields vs) : CallR (X.suite a ((a, oe) :: pn)) (.builtin "isinstance") (rIsEx X.K a cls d) := by
  intro pins s σ H xs us Q I r h
  obtain ⟨D, b, rfl, rfl, C, q, h⟩ := h
  rcases h with ⟨c, cv, rfl, hcv, e⟩ | ⟨tp, cs, ws, rfl, hT, k, e⟩
  · exact call_isE C hz hf pins s σ H _ us Q I r ⟨c, cv, b, rfl, fun u hu => hcv.eq hu, e, q⟩
  · obtain ⟨u1, u2, rfl, r1, r2⟩ := vals2 r
    cases (show u2 = Value.ref tp from r2)
    cases (show u1 = Value.ref a from r1)
    obtain ⟨hget, _⟩ := I.pin (a, oe) (List.mem_append.mpr (.inl List.mem_cons_self))
    obtain ⟨vs, hv⟩ := hf
    have J : PySem.W.InstAt s.heap a oe D none := by
      obtain ⟨oc, od, oda, osl⟩ := oe
      obtain ⟨h1, h2⟩ := hz
      dsimp only at h1 h2 hv
      subst h1 h2 hv
      exact ⟨hget, rfl, rfl, trivial⟩
    obtain ⟨_, its, rv, o, h1, h2, n, h3⟩ := (show ObjOk X.prog X.w H s.heap tp (.tup cs) from I.hok tp _ hT)
    have e3 := ClsV.all k rv
    subst e3
    obtain ⟨oc, od, dt, sl⟩ := o
    simp only at h2 h3
    subst h2 h3
    exact PySem.W.kia_tup (PySem.W.handS_kitx_exc C.hg C.hk C.hs C.hd C.ha C.hn C.ht C.hm) I.kIn J h1 e (fun z => nomatch z) fun tk => ⟨.bl b, H, I.kept (t' := tk) fun _ _ z => z, rfl, q⟩
/-- a def that may raise -/
structure FdX (P : Program) (w : World) (K : PySem.W.Frag) (mg : Str → Option Value) (base : Heap) (x : Str) (ps : List Str) (k : Nat) (sp : Sp) : Prop where
  ex : ∃ (f : Addr) (fd : FuncData), FnOk P w K mg base (L2.CX P w) k f fd ps sp ∧ mg x = some (.ref f) ∧ PySem.W.keepIn K (.ref f) = true ∧ Binds K fd ps []
theorem pe_fnX {X : Cx} {x : Str} {ps : List Str} {k : Nat} {sp : Sp} {e : Expr} {es : List Expr} {t : TA} {p pos : Pos} {W : WX} (F : FdX X.prog X.w X.K X.mg X.base x ps k sp) (hr : Room k X.A) (hg : Gl X x) (tk : Takes X W) (ha : PA X (e :: es) t)
    (hdb : (x == ("__debug__" : Str)) = false := by decide) (he : starEach (e :: es) X.env = (false, eval e X.env) :: starEach es X.env := by rfl) (hpl : (backTo pos (starEach es X.env)).any (·.1) = false := by rfl) :
    PE X (.Call (.Name x p) (e :: es) [] pos) (tCallS sp (WE W) t) := by
  obtain ⟨f, fd, G, m, kp, b⟩ := F.ex
  exact pe_callS G hr hg m kp b (fun σ => passAt tk σ) ha hdb he hpl
theorem kit_sub {K : PySem.W.Frag} {mg : Str → Option Value} {x y : Str} {C D : Addr} {b : Bool} (hC : ExcX K mg x C) (hD : ExcX K mg y D) (hs : PySem.W.subIn K (.ref C) (.ref D) = some b) : PySem.W.kitOne K (.ref C) (.ref D) = some b := by
  by_cases e : C = D
  · subst e
    rw [hC.self] at hs
    cases hs
    show (if (Value.ref C == Value.ref C) = true then some true else _) = some true
    rw [if_pos (beq_self_eq_true _)]
  · exact kit_ref hD.ic hD.ty e hs
theorem kit_two {K : PySem.W.Frag} {t c1 c2 : Value} (h1 : PySem.W.kitOne K t c1 = some false) (h2 : PySem.W.kitOne K t c2 = some false) : PySem.W.kitAny K t [c1, c2] = some false := by
  unfold PySem.W.kitAny
  rw [h1]
  show PySem.W.kitAny K t [c2] = some false
  unfold PySem.W.kitAny
  rw [h2]
  rfl
def isTE (K : PySem.W.Frag) (a : Addr) (cls : Value) (d : Option Addr) (i : Nat) (te : TE) : TE := tCB (rIsEx K a cls d) (tCons (tVar i) (tCons te tNil))
/-- isinstance(e, A) and isinstance(e, ValueError) and not isinstance(e, (B, C)) -/
def isAll (K : PySem.W.Frag) (i : Nat) (A : V) (B : TE) (a : Addr) (cls : Value) (d : Option Addr) : TE := tAndV (isTE K a cls d i (tC A)) (tAndV (isTE K a cls d i (tC (.ty "ValueError"))) (tNotV (isTE K a cls d i B)))
theorem isAll_yes {K : PySem.W.Frag} {mg : Str → Option Value} {nC nL n1 n2 : Str} {i : Nat} {a C L D1 D2 : Addr} {σ : L2.St} {H : Hp} {Q : VK} (XC : ExcX K mg nC C) (XL : ExcX K mg nL L) (X1 : ExcX K mg n1 D1) (X2 : ExcX K mg n2 D2)
    (hL : PySem.W.subIn K (.ref C) (.ref L) = some true) (h1 : PySem.W.subIn K (.ref C) (.ref D1) = some false) (h2 : PySem.W.subIn K (.ref C) (.ref D2) = some false) (hi : σ[i]? = some (some (.ref a)))
    (q : ∀ H', Same H H' → Q (.bl true) H') : isAll K i (.ref L) (tTup (tCons (tC (.ref D1)) (tCons (tC (.ref D2)) tNil))) a (.ref C) none σ H Q :=
  ⟨_, hi, C, true, rfl, rfl, XC.is, ⟨_, rfl, iteT ⟨_, hi, C, true, rfl, rfl, XC.is, ⟨_, rfl, iteT ⟨_, hi, szc 2, fun tp np => ⟨C, false, rfl, rfl, XC.is, ⟨_, rfl, q _ (same_new np)⟩, .inr ⟨tp, _, _, rfl, upd_same, .cons (.own _) (.cons (.own _) .nil), kit_two (kit_sub XC X1 h1) (kit_sub XC X2 h2)⟩⟩⟩⟩, .inl ⟨_, _, rfl, .ty _, kit_val XC.val⟩⟩⟩, .inl ⟨_, _, rfl, .own _, kit_sub XC XL hL⟩⟩
/-- isinstance(e, A) and isinstance(e, ValueError) and not isinstance(e, B) -/
theorem isAll_yes1 {K : PySem.W.Frag} {mg : Str → Option Value} {nC nL n1 : Str} {i : Nat} {a C L D1 : Addr} {σ : L2.St} {H : Hp} {Q : VK} (XC : ExcX K mg nC C) (XL : ExcX K mg nL L) (X1 : ExcX K mg n1 D1)
    (hL : PySem.W.subIn K (.ref C) (.ref L) = some true) (h1 : PySem.W.subIn K (.ref C) (.ref D1) = some false) (hi : σ[i]? = some (some (.ref a)))
    (q : Q (.bl true) H) : isAll K i (.ref L) (tC (.ref D1)) a (.ref C) none σ H Q :=
  ⟨_, hi, C, true, rfl, rfl, XC.is, ⟨_, rfl, iteT ⟨_, hi, C, true, rfl, rfl, XC.is, ⟨_, rfl, iteT ⟨_, hi, C, false, rfl, rfl, XC.is, ⟨_, rfl, q⟩, .inl ⟨_, _, rfl, .own _, kit_sub XC X1 h1⟩⟩⟩, .inl ⟨_, _, rfl, .ty _, kit_val XC.val⟩⟩⟩, .inl ⟨_, _, rfl, .own _, kit_sub XC XL hL⟩⟩
structure Exs (K : PySem.W.Frag) (mg : Str → Option Value) (CL CO CN CB : Addr) : Prop where
  L : ExcX K mg "LegionError" CL
  O : ExcX K mg "OutOfRange" CO
  N : ExcX K mg "NotPossible" CN
  B : ExcX K mg "BadMachine" CB
  oL : PySem.W.subIn K (.ref CO) (.ref CL) = some true
  oN : PySem.W.subIn K (.ref CO) (.ref CN) = some false
  oB : PySem.W.subIn K (.ref CO) (.ref CB) = some false
  nL : PySem.W.subIn K (.ref CN) (.ref CL) = some true
  nO : PySem.W.subIn K (.ref CN) (.ref CO) = some false
  nB : PySem.W.subIn K (.ref CN) (.ref CB) = some false
section
variable {P : Program} {w : World} {K : PySem.W.Frag} {mg : Str → Option Value} {base : Heap} {CO CN CB CL : Addr}
def spMvAtX (K : PySem.W.Frag) (CO : Addr) : Sp := fun vs H Q E => ∃ (v : V) (M : MT) (i : Int), vs = [v, .int i] ∧ Dp K H v M.data ∧ (i < 0 ∨ (M.moves.length : Int) ≤ i) ∧ E (.ref CO) none H
theorem fdX_move_at {f : Addr} {fd : FuncData} (F : Fun K "move_at" "move_at" s_move_at f fd) (m : mg "move_at" = some (.ref f)) (B : Bt mg) (XO : ExcX K mg "OutOfRange" CO) : FdX P w K mg base "move_at" ["machine", "index"] 1 (spMvAtX K CO) := by
  refine ⟨f, fd, F.okX sc_move_at (fun vs H Q E h => ?_) (fun cdv A outer s H vs Q E hr h => ?_), m, F.kp, F.binds (ps := ["machine", "index"]) fun _ _ _ _ _ _ us hl => match us, hl with | [_, _], _ => rfl⟩
  · obtain ⟨v, M, i, rfl, _⟩ := h
    rfl
  obtain ⟨v, M, i, rfl, hd, hi, q⟩ := h
  obtain ⟨a, sv, ma, xs, rfl, ha, _, hma, hxs⟩ := dp_mt hd
  have xl := dpa_map_len hxs
  refine ⟨_, (pss_cons (ps_if (pt_not (pt_chain op_le op_lt pe_int (pv 1) (pe_callB (cLen K) (by rfl) B.len PySem.boot_len (pa_cons (pe_ix (ixT K) (pv 0) pe_int (fun _ _ => rfl)) pa_nil))))
   (pss_one (ps_raise (W := fun cls d _ H => E cls d H) rfl (takes_of rfl rfl rfl rfl) (pmk_own PySem.F.excBase_ValueError XO.exc XO.gC XO.kC (raises_own XO.sub XO.ty) rfl))) pss_nil)
   (PSs.nox (pss_one (ps_ret (pe_ix (ixL K) (pe_ix (ixT K) (pv 0) pe_int (fun _ _ => rfl)) (pv 1) (fun _ _ => rfl)))))), ?_⟩
  refine ⟨_, rfl, _, _, rfl, rfl, _, rfl, ?_⟩
  by_cases h0 : 0 ≤ i
  · rw [if_pos (decide_eq_true h0)]
    refine ⟨_, rfl, _, _, _, _, rfl, rfl, ha, atI_nat (j := 4) rfl, ma, _, rfl, .inl hma, _, _, rfl, rfl, _, rfl, ?_⟩
    rw [decide_eq_false (show ¬ i < (xs.length : Int) by omega)]
    exact iteT q
  · rw [if_neg (fun z => h0 (of_decide_eq_true z))]
    exact ⟨_, rfl, iteT q⟩
end
/-! ### try with several except clauses, each with a name (slot i) -/
structure Cl where
  cv : Value
  sl : Nat
  su : Addr → Value → Option Addr → TS
/-- the ends behind a suite: its name is gone -/
def goneE (D : Ends) (i : Nat) : Ends := { nx := fun a b => D.nx (a.set i none) b, rt := D.rt, bk := fun a b => D.bk (a.set i none) b, ct := fun a b => D.ct (a.set i none) b }
def wCls (K : PySem.W.Frag) (Wo : WX) (D : Ends) : List Cl → WX
  | [] => Wo
  | k :: r => fun cls d σ H => ∃ b, PySem.W.exmOne K cls k.cv = some b ∧ (b = true → ∀ a, H a = none → k.su a cls d (goneE D k.sl) (σ.set k.sl (some (.ref a))) H) ∧ (b = false → wCls K Wo D r cls d σ H)
inductive ClsOk (X : Cx) : List ExceptHandler → List Cl → Prop
  | nil : ClsOk X [] []
  | cons {x n : Str} {k : Cl} {s0 : Stmt} {su : List Stmt} {p1 p2 : Pos} {hs : List ExceptHandler} {l : List Cl} (hi : X.N[k.sl]? = some n) (hk : X.env.kindOf n = some .local) (hc : Names X x k.cv)
      (go : ∀ (a : Addr) (oe : Obj) (cls : Value) (d : Option Addr) (pn : List (Addr × Obj)), Zc cls d oe → (∃ vs, oe.data = .fields vs) → PSs (X.suite a ((a, oe) :: pn)) (s0 :: su) (k.su a cls d)) (r : ClsOk X hs l) :
      ClsOk X (.ExceptHandler (some (.Name x p1)) (some n) (s0 :: su) p2 :: hs) (k :: l)
section
variable {X : Cx} {pins : List (Addr × Obj)}
/-- a clause's suite has run: its name goes, and what follows is as it was wished -/
theorem cl_left {a : Addr} {q : Addr × Obj} {i : Nat} {n : Str} {p2 : Pos} {D : Ends} (ok : X.Ok) (hN : X.N.Nodup) (hi : X.N[i]? = some n) (hk : X.env.kindOf n = some .local) : ∀ (f : Flow) (s6 : Shared),
    SP (X.suite a (q :: (X.pn ++ pins))) [] (goneE D i) f s6 → wpAny (model X.prog X.w) X.A (do bindName X.env n .none; unbindBehindTheSuite X.env n p2) (fun _ s7 => SP X pins D f s7) X.xe s6
  | .next, s6, ⟨σ6, H6, I6, w⟩ => gone_ok (I6.unsuite ok) hN hi hk fun s7 J => ⟨_, _, J, w⟩
  | .brk, s6, ⟨σ6, H6, I6, w⟩ => gone_ok (I6.unsuite ok) hN hi hk fun s7 J => ⟨_, _, J, w⟩
  | .cont, s6, ⟨σ6, H6, I6, w⟩ => gone_ok (I6.unsuite ok) hN hi hk fun s7 J => ⟨_, _, J, w⟩
  | .ret u, s6, ⟨v6, σ6, H6, I6, r6, w⟩ => gone_ok (I6.unsuite ok) hN hi hk fun s7 J => ⟨_, _, _, J, r6, w⟩
/-- no exception in the body: what follows -/
theorem no_catch {D : Ends} {xe : Value → Shared → Prop} (ok : X.Ok) : ∀ (f : Flow) (s1 : Shared), SP (X.tr (X.pn ++ pins) xe) [] D f s1 → SP X pins D f s1
  | .next, s1, ⟨a, b, J, w⟩ => ⟨a, b, J.ofTry ok, w⟩
  | .brk, s1, ⟨a, b, J, w⟩ => ⟨a, b, J.ofTry ok, w⟩
  | .cont, s1, ⟨a, b, J, w⟩ => ⟨a, b, J.ofTry ok, w⟩
  | .ret u, s1, ⟨v, a, b, J, r, w⟩ => ⟨v, a, b, J.ofTry ok, r, w⟩
theorem ps_try_cls {body : List Stmt} {h0 : ExceptHandler} {hs : List ExceptHandler} {l : List Cl} {pos : Pos} {tb : WX → TS} {Wo : WX} (hst : X.stack = X.env :: X.outer) (hfr : X.env.frame = some X.env.locals) (hN : X.N.Nodup) (tk : Takes X Wo)
    (hb : ∀ (W : WX) (pn : List (Addr × Obj)) (xe : Value → Shared → Prop), Takes (X.tr pn xe) W → PassesOwn (model X.prog X.w) X.A X.env xe → PSs (X.tr pn xe) body (tb W))
    (hh : ClsOk X (h0 :: hs) l) : PS X (.Try body (h0 :: hs) [] [] pos) (fun D σ H => tb (wCls X.K Wo D l) D σ H) := by
  constructor
  intro pins s σ H D I h
  have ok := I.ok
  have frames : X.A.frames = some (X.env :: X.outer) := ok.frames.trans (by rw [hst])
  have body_ok := (hb (wCls X.K Wo D l) (X.pn ++ pins) (fun e t1 => wpAny (model X.prog X.w) X.A (noteFrame e X.env) (fun _ t2 => wpAny (model X.prog X.w) X.A (setFlight e none) (fun _ t3 => wpAny (model X.prog X.w) X.A (handleBy e X.env (h0 :: hs)) (SP X pins D) X.xe t3) X.xe t2) X.xe t1) ?caught PassesOwn.looking).run [] s σ H D (I.toTry _) h
  · exact wpAny_Try_except (wpAny_mono body_ok (fun f t1 q => by
      have q1 := no_catch ok f t1 q
      cases f with
      | next => exact wpAny_execs_nil q1
      | brk => exact q1
      | cont => exact q1
      | ret u => exact q1) fun _ _ q => q)
  rintro u t ⟨a, b0, sI, pins2, τ, G, cls, d, rfl, J0, nb, up, sky, na, os, ag, w⟩
  have J : Inv X pins τ G sI := J0.ofTry ok
  refine Sky.land Zc.steady frames hfr (by rw [← hst]; exact sky) fun g fl upg => ?_
  have Jg : Inv X pins τ G { t with heap := g } := J.landed nb fl.1 (up.trans upg) os ag
  obtain ⟨oe, vs, eg, zg, dg⟩ := fl.there
  have apart : a ∉ frs (X.env :: X.outer) := fun hm => by
    obtain ⟨_, o2, e2, no⟩ := fl.2.2.1.mem hm
    cases eg.symm.trans e2
    exact no _ dg
  have nL : a ≠ X.env.locals := fun z => apart (List.mem_filterMap.mpr ⟨X.env, List.mem_cons_self, by rw [hfr, z]⟩)
  have nF : a ∉ X.fs := fun hm => by
    obtain ⟨e, he, q⟩ := List.mem_filterMap.mp hm
    exact apart (List.mem_filterMap.mpr ⟨e, List.mem_cons_of_mem _ he, q⟩)
  have Sg := Jg.suite eg dg na nL nF
  suffices all : ∀ (hl : List ExceptHandler) (kl : List Cl), ClsOk X hl kl → wCls X.K Wo D kl cls d τ G → wpAny (model X.prog X.w) X.A (handleBy (.ref a) X.env hl) (SP X pins D) X.xe { t with heap := g } from all _ _ hh w
  intro hl kl ho
  induction ho with
  | nil =>
    intro w
    apply wpAny_handleBy_nil
    obtain ⟨_, _, _, oc, vc, T, _, _, ec, _, dc, h1, _⟩ := id fl
    unfold PySem.passOn
    apply wpAny_bind
    apply wpAny_field ec dc h1
    rw [if_neg (show ¬ ((Value.ref T == Value.none) = true) by simp)]
    have out : wpAny (model X.prog X.w) X.A (setFlight (.ref a) X.env.frame) (fun _ t4 => wpAny (model X.prog X.w) X.A (throw (.ref a) : Sem Flow) (SP X pins D) X.xe t4) X.xe { t with heap := g } := by
      rw [hfr]
      exact HandSPX.setFlight_upZ fl fun g4 k4 up4 => wpAny_throw (tk _ _ ⟨a, b0, sI, pins, τ, G, cls, d, rfl, J, nb, (up.trans upg).trans up4, .inr (.inr (by rw [hst]; exact k4)), na, os, ag, w⟩)
    first
      | exact wpAny_bind (wpAny_pure (wpAny_bind out))
      | exact wpAny_bind out
  | @cons x n k s0 su p1 p2 hs2 l2 hi hk hc go r ih =>
    rintro ⟨b, hb1, yes, no⟩
    refine wpAny_handleBy_cons (codeAny_handlers_test ?_) (by intro q; cases q)
    have looks : PySem.W.Looks (model X.prog X.w) g (typeOf (.ref a)) cls := fun A Q E s k q => wpAny_typeOf_ref (k _ _ eg) (by rw [zg.1]; exact q)
    have named : ∀ {Q E : Value → Shared → Prop}, Q k.cv { t with heap := g } → wpAny (model X.prog X.w) (X.A.mark (some (.ref a))) (eval (.Name x p1) X.env) Q E { t with heap := g } := fun q => match hc with
      | ⟨hg, hd, .inl hm⟩ => ld_glob (X := X.suite a ((a, oe) :: (X.pn ++ pins))) Sg hg hm q hd
      | ⟨hg, hd, .inr ⟨hm, hv, hnn⟩⟩ => ld_blt (X := X.suite a ((a, oe) :: (X.pn ++ pins))) Sg hg hm hv q hnn hd
    refine named ((PySem.W.exm_one (M := model X.prog X.w) Jg.kIn looks hb1).here ?_)
    cases b with
    | false => exact ih (no rfl)
    | true =>
      refine codeAny_handlers_suite_as (HandSPX.lands_againZ fl fun g4 fl4 up4 => ?_)
      have J4 : Inv X pins τ G { t with heap := g4 } := J.landed nb fl4.1 ((up.trans upg).trans up4) os ag
      obtain ⟨o4, _, e4, z4, d4⟩ := fl4.there
      refine store_ok (X := X.suite a ((a, o4) :: (X.pn ++ pins))) (v := .ref a) (J4.suite e4 d4 na nL nF) hN hi (.inl hk) rfl (fun t5 S5 => ?_) (.inr hk)
      exact wpAny_mono ((go a o4 cls d (X.pn ++ pins) z4 ⟨_, d4⟩).run [] t5 _ G _ S5 (yes rfl a na)) (fun f t6 q => cl_left ok hN hi hk f t6 q) fun _ _ z => z.elim
end
section
variable {P : Program} {w : World} {K : PySem.W.Frag} {mg : Str → Option Value} {base : Heap} {CO CN CL : Addr}
/-- wide_after, where it raises -/
def spWAftX (K : PySem.W.Frag) (CO CN : Addr) : Sp := fun vs H Q E => ∃ (v x : V) (M : MT) (i : Int) (s : Int) (cs : List (Option Int)), vs = [v, x, .int i] ∧ Dp K H v M.data ∧ WSit K H x s cs ∧ (((i < 0 ∨ (M.moves.length : Int) ≤ i) ∧ E (.ref CO) none H) ∨ ∃ (k : Nat) (m : MvT), i = (k : Int) ∧ M.moves[k]? = some m ∧ m.sh = [] ∧ m.pl < cs.length ∧ m.canW s cs = false ∧ E (.ref CN) none H)
theorem fdX_wide_after {f : Addr} {fd : FuncData} (F : Fun K "wide_after" "wide_after" s_wide_after f fd) (m : mg "wide_after" = some (.ref f)) (B : Bt mg) (XN : ExcX K mg "NotPossible" CN) (DX_move_at : FdX P w K mg base "move_at" ["machine", "index"] 1 (spMvAtX K CO)) (D_move_at : Fd P w K mg base "move_at" ["machine", "index"] 1 (spMvAt K)) (D_can_take_wide : Fd P w K mg base "can_take_wide" ["situation", "move"] 1 (spCanW K)) : FdX P w K mg base "wide_after" ["machine", "situation", "move"] 2 (spWAftX K CO CN) := by
  refine ⟨f, fd, F.okX sc_wide_after (fun vs H Q E h => ?_) (fun cdv A outer s H vs Q E hr h => ?_), m, F.kp, F.binds (ps := ["machine", "situation", "move"]) fun _ _ _ _ _ _ us hl => match us, hl with | [_, _, _], _ => rfl⟩
  · obtain ⟨v, x, M, i, s, cs, rfl, _⟩ := h
    rfl
  obtain ⟨v, x, M, i, s, cs, rfl, hd, hx, h⟩ := h
  rcases h with ⟨hi, q⟩ | ⟨k, mv, rfl, hm, hsh, hp, hc, q⟩
  · refine ⟨_, (pss_cons (ps_set (i := 3) sc_wide_after.nd rfl (Or.inl rfl) (pe_fnX (W := fun cls d _ H => E cls d H) DX_move_at (hr.mono (by decide)) rfl (takes_of rfl rfl rfl rfl) (pa_cons (pv 0) (pa_cons (pv 2) pa_nil)))) (PSs.nox (pss_cons ps_never (pss_one ps_never)))), ?_⟩
    exact ⟨_, rfl, _, rfl, v, M, i, rfl, hd, hi, q⟩
  · refine ⟨_, (pss_cons (ps_set (i := 3) sc_wide_after.nd rfl (Or.inl rfl) (pe_fn D_move_at (hr.mono (by decide)) rfl (pa_cons (pv 0) (pa_cons (pv 2) pa_nil))))
     (pss_cons (ps_if (PW.pt (pw_or (ptTru K (pe_ix (ixT K) (pv 3) pe_int (fun _ _ => rfl)) (by intro _; rfl)) (pw_or1 (pt_not (pt_val (pe_fn D_can_take_wide (hr.mono (by decide)) rfl (pa_cons (pv 1) (pa_cons (pv 3) pa_nil))))))))
      (pss_one (ps_raise (W := fun cls d _ H => E cls d H) rfl (takes_of rfl rfl rfl rfl) (pmk_own PySem.F.excBase_ValueError XN.exc XN.gC XN.kC (raises_own XN.sub XN.ty) rfl))) pss_nil)
     (PSs.nox (pss_one ps_never)))), ?_⟩
    refine ⟨_, rfl, _, rfl, v, M, k, mv, rfl, hd, hm, fun y dy => ?_⟩
    dsimp only [gName]
    obtain ⟨b, sa, xs, e, hb, hsa, hxs⟩ := dp_mv dy
    rw [hsh] at hxs
    obtain rfl := dpa_nil hxs
    subst e
    refine ⟨_, rfl, _, _, _, _, rfl, rfl, hb, atI_nat (j := 5) rfl, false, .inl ⟨[], hsa, rfl⟩, iteF ?_⟩
    refine ⟨_, rfl, _, rfl, _, _, s, cs, mv, rfl, hx, dy, hp, _, rfl, ?_⟩
    rw [hc]
    exact iteT q
abbrev s_law_told : Stmt := topS 16
theorem sc_law_told : FnScope ["machine", "situation", "index", "e"] ["machine", "situation", "index"] (defScope s_law_told) := ⟨rfl, rfl, rfl, by decide +kernel, rfl, by decide +kernel, by decide +kernel⟩
-- _law_told slots: machine=0 situation=1 index=2 e=3 globals: wide_after NotPossible isinstance LegionError OutOfRange
def spTold (K : PySem.W.Frag) : Sp := fun vs H Q _ => ∃ (v x : V) (M : MT) (i : Int) (s : Int) (cs : List (Option Int)), vs = [v, x, .int i] ∧ Dp K H v M.data ∧ WSit K H x s cs ∧
  ((∃ (k : Nat) (m : MvT), i = (k : Int) ∧ M.moves[k]? = some m ∧ m.sh = [] ∧ m.Fit M.states cs.length ∧ (m.canW s cs = true → ∀ H' p, Same H H' → NewW H H' p m.ns (m.aftW cs) → Q (.ref p) H') ∧ (m.canW s cs = false → ∀ H', Same H H' → Q (.str "none") H')) ∨
   ((i < 0 ∨ (M.moves.length : Int) ≤ i) ∧ ∀ H', Same H H' → Q (.str "range") H'))
theorem fd_law_told {f : Addr} {fd : FuncData} (F : Fun K "_law_told" "_law_told" s_law_told f fd) (m : mg "_law_told" = some (.ref f)) (B : Bt mg) (XL : ExcX K mg "LegionError" CL) (XO : ExcX K mg "OutOfRange" CO) (XN : ExcX K mg "NotPossible" CN)
    (oL : PySem.W.subIn K (.ref CO) (.ref CL) = some true) (oN : PySem.W.subIn K (.ref CO) (.ref CN) = some false) (nL : PySem.W.subIn K (.ref CN) (.ref CL) = some true) (nO : PySem.W.subIn K (.ref CN) (.ref CO) = some false)
    (D_wide_after : Fd P w K mg base "wide_after" ["machine", "situation", "move"] 2 (spWAft K)) (DX_wide_after : FdX P w K mg base "wide_after" ["machine", "situation", "move"] 2 (spWAftX K CO CN)) : Fd P w K mg base "_law_told" ["machine", "situation", "index"] 3 (spTold K) := by
  refine ⟨f, fd, F.ok sc_law_told (fun vs H Q E h => ?_) (fun cdv A outer s H vs Q E hr h => ?_), m, F.kp, F.binds (ps := ["machine", "situation", "index"]) fun _ _ _ _ _ _ us hl => match us, hl with | [_, _, _], _ => rfl⟩
  · obtain ⟨v, x, M, i, s, cs, rfl, _⟩ := h
    rfl
  obtain ⟨v, x, M, i, s, cs, rfl, hd, hx, h⟩ := h
  by_cases calm : ∃ (k : Nat) (m : MvT), i = (k : Int) ∧ M.moves[k]? = some m ∧ m.sh = [] ∧ m.Fit M.states cs.length ∧ m.canW s cs = true ∧ ∀ H' p, Same H H' → NewW H H' p m.ns (m.aftW cs) → Q (.ref p) H'
  · obtain ⟨k, mv, rfl, hm, hsh, hf, hc, q⟩ := calm
    refine ⟨_, pss_one (ps_try_thru0 (pss_one (ps_ret (pe_fn D_wide_after (hr.mono (by decide)) rfl (pa_cons (pv 0) (pa_cons (pv 1) (pa_cons (pv 2) pa_nil))))))), ?_⟩
    exact ⟨_, rfl, _, rfl, _, rfl, v, x, M, k, mv, s, cs, rfl, hd, hx, hm, hc, hsh, hf, q⟩
  have raised : (((i < 0 ∨ (M.moves.length : Int) ≤ i) ∧ ∀ H', Same H H' → Q (.str "range") H') ∨ ∃ (k : Nat) (m : MvT), i = (k : Int) ∧ M.moves[k]? = some m ∧ m.sh = [] ∧ m.pl < cs.length ∧ m.canW s cs = false ∧ ∀ H', Same H H' → Q (.str "none") H') := by
    rcases h with ⟨k, mv, rfl, hm, hsh, hf, q1, q2⟩ | h
    · cases hc : mv.canW s cs with
      | true => exact absurd ⟨k, mv, rfl, hm, hsh, hf, hc, q1 hc⟩ calm
      | false => exact .inr ⟨k, mv, rfl, hm, hsh, hf.pl, hc, q2 hc⟩
    · exact .inl h
  refine ⟨_, pss_one (ps_try_cls (tb := fun W => tRet (tCallS (spWAftX K CO CN) (WE W) (tCons (tVar 0) (tCons (tVar 1) (tCons (tVar 2) tNil)))))
    (l := [⟨.ref CN, 3, fun a cls d => tRet (tIf (tAnd (tB (isTE K a cls d 3 (tC (.ref CL)))) (tNot (tB (isTE K a cls d 3 (tC (.ref CO)))))) (tC (.str "none")) (tC (.str "wrong")))⟩, ⟨.ref CO, 3, fun a cls d => tRet (tIf (tB (isTE K a cls d 3 (tC (.ref CL)))) (tC (.str "range")) (tC (.str "wrong")))⟩])
    (Wo := fun _ _ _ _ => False) rfl rfl sc_law_told.nd takes0
      (fun W pn xe tk _ => pss_one (ps_ret (by exact (pe_fnX DX_wide_after (hr.mono (by decide)) rfl tk (pa_cons (pv 0) (pa_cons (pv 1) (pa_cons (pv 2) pa_nil)))))))
      ?hh), ?_⟩
  case hh =>
    refine .cons rfl rfl ⟨rfl, by decide, .inl XN.gC⟩ ?_ (.cons rfl rfl ⟨rfl, by decide, .inl XO.gC⟩ ?_ .nil)
    · intro a oe cls d pn hz hf
      dsimp only
      refine pss_one (ps_ret (pe_ifExp (PW.pt (pw_and ?_ (pw_and1 (pt_not ?_)))) pe_str pe_str))
      · exact pt_val (pe_callB (call_isEx hz hf) (by rfl) B.isinstance (by decide +kernel) (pa_cons (pv 3) (pa_cons (pe_glob rfl XL.gC rfl) pa_nil)))
      · exact pt_val (pe_callB (call_isEx hz hf) (by rfl) B.isinstance (by decide +kernel) (pa_cons (pv 3) (pa_cons (pe_glob rfl XO.gC rfl) pa_nil)))
    · intro a oe cls d pn hz hf
      dsimp only
      refine pss_one (ps_ret (pe_ifExp ?_ pe_str pe_str))
      exact pt_val (pe_callB (call_isEx hz hf) (by rfl) B.isinstance (by decide +kernel) (pa_cons (pv 3) (pa_cons (pe_glob rfl XL.gC rfl) pa_nil)))
  rcases raised with ⟨hi, q⟩ | ⟨k, mv, rfl, hm, hsh, hp, hc, q⟩
  · refine ⟨_, rfl, _, rfl, _, rfl, v, x, M, _, s, cs, rfl, hd, hx, .inl ⟨hi, false, exm_own XN oN, (fun z => nomatch z), fun _ => ⟨true, exm_own XO XO.self, fun _ a0 na => ?_, fun z => nomatch z⟩⟩⟩
    exact ⟨_, rfl, CO, true, rfl, rfl, XO.is, ⟨_, rfl, iteT (q _ (Same.refl _))⟩, .inl ⟨_, _, rfl, .own _, kit_sub XO XL oL⟩⟩
  · refine ⟨_, rfl, _, rfl, _, rfl, v, x, M, _, s, cs, rfl, hd, hx, .inr ⟨k, mv, rfl, hm, hsh, hp, hc, true, exm_own XN XN.self, fun _ a0 na => ?_, fun z => nomatch z⟩⟩
    exact ⟨_, rfl, CN, true, rfl, rfl, XN.is, ⟨_, rfl, iteT ⟨_, rfl, CN, false, rfl, rfl, XN.is, ⟨_, rfl, iteT (q _ (Same.refl _))⟩, .inl ⟨_, _, rfl, .own _, kit_sub XN XO nO⟩⟩⟩, .inl ⟨_, _, rfl, .own _, kit_sub XN XL nL⟩⟩
end
section
variable {P : Program} {w : World} {K : PySem.W.Frag} {mg : Str → Option Value} {base : Heap}
theorem nnO {cs : List (Option Int)} (h : ∀ c ∈ cs, ∀ i, c = some i → 0 ≤ i) {k : Nat} (hk : k < cs.length) {i : Int} (e : cs.getD k none = some i) : 0 ≤ i := h _ (gdO_mem hk) i e
theorem canW_no {m : MvT} {s : Int} {cs : List (Option Int)} (h : s ≠ (m.st : Int)) : m.canW s cs = false := by
  unfold MvT.canW
  rw [decide_eq_false (fun e => h e.symm)]
  rfl
theorem scal_oV : ∀ (m : Option Int) (z : Int), scal (oV m) (V.int z) = true
  | none, _ => rfl
  | some _, _ => rfl
abbrev s_law_wide_after : Stmt := topS 14
theorem sc_law_wide_after : FnScope ["situation", "move", "counts", "place"] ["situation", "move"] (defScope s_law_wide_after) := ⟨rfl, rfl, rfl, by decide +kernel, rfl, by decide +kernel, by decide +kernel⟩
-- _law_wide_after slots: situation=0 move=1 counts=2 place=3 globals: list
def spLWA (K : PySem.W.Frag) : Sp := fun vs H Q _ => ∃ (x y : V) (s : Int) (cs : List (Option Int)) (m : MvT) (S : Nat), vs = [x, y] ∧ WSit K H x s cs ∧ Dp K H y m.data ∧ m.Fit S cs.length ∧ (∀ c ∈ cs, ∀ i, c = some i → 0 ≤ i) ∧
  (m.canW s cs = false → ∀ H', Same H H' → Q .non H') ∧ (m.canW s cs = true → ∀ H' p, Same H H' → NewW H H' p m.ns (m.aftW cs) → Q (.ref p) H')
theorem fd_law_wide_after {f : Addr} {fd : FuncData} (F : Fun K "_law_wide_after" "_law_wide_after" s_law_wide_after f fd) (m : mg "_law_wide_after" = some (.ref f)) (B : Bt mg) : Fd P w K mg base "_law_wide_after" ["situation", "move"] 1 (spLWA K) := by
  refine ⟨f, fd, F.ok sc_law_wide_after (fun vs H Q E h => ?_) (fun cdv A outer s H vs Q E hr h => ?_), m, F.kp, F.binds (ps := ["situation", "move"]) fun _ _ _ _ _ _ us hl => match us, hl with | [_, _], _ => rfl⟩
  · obtain ⟨x, y, s, cs, m, S, rfl, _⟩ := h
    rfl
  obtain ⟨x, y, s, cs, mv, S, rfl, ⟨a, ca, rfl, ha, hca⟩, hd, hf, nn, q1, q2⟩ := h
  obtain ⟨b, sa, xs, rfl, hb, _⟩ := dp_mv hd
  refine ⟨_, (pss_cons (ps_set (i := 2) sc_law_wide_after.nd rfl (Or.inl rfl) (pe_callTy (cList K) (by rfl) B.list (by decide +kernel) (pa_cons (pe_ix (ixT K) (pv 0) pe_int (fun _ _ => rfl)) pa_nil)))
 (pss_cons (ps_if (PW.pt (pw_or (pt_cmpR op_ne (pe_ix (ixT K) (pv 0) pe_int (fun _ _ => rfl)) (pe_ix (ixT K) (pv 1) pe_int (fun _ _ => rfl)) (nomark _)) (pw_or1 (pt_cmpR op_eq (pe_ix (ixL K) (pv 2) (pe_ix (ixT K) (pv 1) pe_int (fun _ _ => rfl)) (fun _ _ => rfl)) pe_int (nomark _)))))
 (pss_one (ps_ret pe_non))
 pss_nil)
 (C8.pss_cut (ps_if (pt_cmpR op_notN (pe_ix (ixL K) (pv 2) (pe_ix (ixT K) (pv 1) pe_int (fun _ _ => rfl)) (fun _ _ => rfl)) pe_non (nomark _))
 (pss_one (ps_asg (pe_op op_sub (pe_ix (ixL K) (pv 2) (pe_ix (ixT K) (pv 1) pe_int (fun _ _ => rfl)) (fun _ _ => rfl)) pe_int) (pg_sub (pv 2) (pe_ix (ixT K) (pv 1) pe_int (fun _ _ => rfl)) set_list)))
 pss_nil)
 (pss_cons (ps_for PassesOwn.never rfl (piL K (pe_lst (pa_cons (pe_ix (ixT K) (pv 1) pe_int (fun _ _ => rfl)) (pa_cons (pe_ix (ixT K) (pv 1) pe_int (fun _ _ => rfl)) pa_nil)))) (pg_name (i := 3) sc_law_wide_after.nd rfl (Or.inl rfl))
 (pss_one (ps_if (PW.pt (pw_and (pt_cmpR op_notN (pv 3) pe_non (nomark _)) (pw_and1 (pt_cmpR op_notN (pe_ix (ixL K) (pv 2) (pv 3) (fun _ _ => rfl)) pe_non (nomark _)))))
 (pss_one (ps_asg (pe_op op_add (pe_ix (ixL K) (pv 2) (pv 3) (fun _ _ => rfl)) pe_int) (pg_sub (pv 2) (pv 3) set_list)))
 pss_nil)))
 (pss_one (ps_ret (pe_tup (pa_cons (pe_ix (ixT K) (pv 1) pe_int (fun _ _ => rfl)) (pa_cons (pv 2) pa_nil))))))))), ?_⟩
  refine ⟨_, rfl, _, _, _, _, rfl, rfl, ha, atI_nat (j := 1) rfl, ca, _, rfl, .inl hca, fun l nl => ?_⟩
  dsimp only [gName]
  have s1 := same_new (o := HO.lst (cs.map oV)) nl
  have el : (upd H l (.lst (cs.map oV))) l = some (.lst (cs.map oV)) := upd_same
  generalize upd H l (.lst (cs.map oV)) = H1 at s1 el ⊢
  have ha1 := Same.seqT s1 ha
  have hb1 := Same.seqT s1 hb
  have ac := at_gdO (ds := cs) (i := (mv.pl : Int)) rfl hf.pl
  refine ⟨_, rfl, _, _, _, _, rfl, rfl, ha1, atI_nat (j := 0) rfl, _, rfl, _, _, _, _, rfl, rfl, hb1, atI_nat (j := 0) rfl, rfl, _, rfl, ?_⟩
  rw [int_eqE]
  by_cases est : s = (mv.st : Int)
  · rw [decide_eq_true est]
    refine iteF ?_
    refine ⟨_, rfl, _, rfl, _, _, _, _, rfl, rfl, hb1, atI_nat (j := 1) rfl, _, _, _, _, rfl, rfl, sq el, ac, scal_oV _ _, _, rfl, ?_⟩
    have cw : mv.canW s cs = posO (cs.getD mv.pl none) := by unfold MvT.canW; rw [decide_eq_true est.symm, Bool.true_and]
    rw [cw] at q1 q2
    cases e0 : decide (oV (cs.getD mv.pl none) = V.int 0) with
    | true =>
      refine iteT (q1 ?_ _ s1)
      have := of_decide_eq_true e0
      cases e : cs.getD mv.pl none with
      | none => rw [e] at this; cases this
      | some c => rw [e] at this; cases this; rfl
    | false =>
      refine iteF ?_
      have hpos : posO (cs.getD mv.pl none) = true := by
        cases e : cs.getD mv.pl none with
        | none => rfl
        | some c =>
          have h0 := nnO nn hf.pl e
          have : c ≠ 0 := fun z => by rw [e, z] at e0; cases e0
          exact decide_eq_true (by omega)
      replace q2 := q2 hpos
      clear q1 cw e0 hpos
      refine ⟨fun σ' H' => σ' = [some (.ref a), some (.ref b), some (.ref l), none] ∧ Same (Ho l H1) (Ho l H') ∧ Same H H' ∧ H' l = some (.lst ((chgO cs (some mv.pl, -1)).map oV)), ?_, ?_⟩
      · refine ⟨_, rfl, _, rfl, _, _, _, _, rfl, rfl, hb1, atI_nat (j := 1) rfl, _, _, _, _, rfl, rfl, sq el, ac, rfl, _, rfl, ?_⟩
        rw [oV_non]
        cases e : cs.getD mv.pl none with
        | none => exact iteF ⟨rfl, Same.refl _, s1, by show H1 l = some (.lst ((bumpO cs mv.pl (-1)).map oV)); rw [bumpO_none hf.pl e]; exact el⟩
        | some c =>
          refine iteT ?_
          rw [e] at ac
          refine ⟨_, rfl, _, rfl, _, _, _, _, rfl, rfl, hb1, atI_nat (j := 1) rfl, _, _, _, _, rfl, rfl, sq el, ac, _, _, rfl, rfl, _, rfl, _, rfl, _, _, _, _, rfl, rfl, hb1, atI_nat (j := 1) rfl, _, _, _, _, rfl, rfl, el, ixN_nat (by rw [List.length_map]; exact hf.pl), ?_⟩
          rw [set_oV]
          refine ⟨rfl, ho_mut, Same.mut s1 nl, ?_⟩
          show _ = some (HO.lst ((bumpO cs mv.pl (-1)).map oV))
          unfold bumpO
          rw [e]
          exact upd_same
      rintro σ' H2 ⟨rfl, sh2, sm2, el2⟩
      have ne : ∀ {t : Addr} {u : HO}, H1 t = some u → t ≠ l → H2 t = some u := fun h hn => ho_out _ _ (sh2 _ _ (by unfold Ho; rw [if_neg hn]; exact h))
      have hb2 := Same.seqT sm2 hb
      have ln2 : (chgO cs (some mv.pl, -1)).length = cs.length := chgO_len _ _
      have aft : mv.aftW cs = [(some mv.np, 1), (mv.sd, 1)].foldl chgO (chgO cs (some mv.pl, -1)) := rfl
      rw [aft] at q2
      generalize chgO cs (some mv.pl, -1) = c2 at el2 ln2 q2
      clear ac nn aft ne sh2
      refine ⟨_, rfl, _, _, _, _, rfl, rfl, hb2, atI_nat (j := 3) rfl, _, rfl, _, _, _, _, rfl, rfl, hb2, atI_nat (j := 4) rfl, szc 2, fun t nt => ?_⟩
      have et : (upd H2 t (.lst [nV mv.np, sdV mv.sd])) t = some (.lst [nV mv.np, sdV mv.sd]) := upd_same
      have tl : t ≠ l := fun e => by rw [e, el2] at nt; cases nt
      have el3 := (same_new (o := HO.lst [nV mv.np, sdV mv.sd]) nt) _ _ el2
      have sm3 := sm2.trans (same_new (o := HO.lst [nV mv.np, sdV mv.sd]) nt)
      generalize upd H2 t (.lst [nV mv.np, sdV mv.sd]) = H3 at et el3 sm3 ⊢
      have tAt : ∀ (i : Nat) (x : V), [nV mv.np, sdV mv.sd][i]? = some x → ∃ o : Option Nat, x = sdV o ∧ [(some mv.np, (1 : Int)), (mv.sd, 1)][i]? = some (o, 1) ∧ ∀ k, o = some k → k < cs.length := fun i x h => by
        match i, h with
        | 0, h => cases h; exact ⟨some mv.np, rfl, rfl, fun k e => by cases e; exact hf.np⟩
        | 1, h => cases h; exact ⟨mv.sd, rfl, rfl, hf.sd⟩
      refine ⟨t, rfl, ⟨_, sq et⟩, for_list (xs := [nV mv.np, sdV mv.sd]) (fun i σ' H' => ∃ y3 : Option V, σ' = [some (.ref a), some (.ref b), some (.ref l), y3] ∧ Same (Ho l H3) (Ho l H') ∧ Same H H' ∧ H' l = some (.lst ((([(some mv.np, (1 : Int)), (mv.sd, 1)].take i).foldl chgO c2).map oV))) ⟨none, rfl, Same.refl _, sm3, el3⟩ ?_ ?_ ?_⟩
      · rintro i σ' H' _ ⟨y3, rfl, sh, _, _⟩
        refine sq (ho_out _ _ (sh _ _ ?_))
        unfold Ho
        rw [if_neg tl]
        exact et
      · rintro i x σ' H' hx ⟨y3, rfl, sh, sm, eL⟩
        obtain ⟨o, rfl, hs, ho⟩ := tAt i x hx
        rw [take_snoc hs, List.foldl_append]
        have ln : (([(some mv.np, (1 : Int)), (mv.sd, 1)].take i).foldl chgO c2).length = cs.length := (chgs_len _ _).trans ln2
        generalize ([(some mv.np, (1 : Int)), (mv.sd, 1)].take i).foldl chgO c2 = c1 at eL ln ⊢
        dsimp only [gName]
        refine ⟨_, rfl, rfl, _, rfl, ?_⟩
        cases o with
        | none => exact iteF (iteF ⟨_, rfl, sh, sm, eL⟩)
        | some k =>
          have hk : k < c1.length := by rw [ln]; exact ho k rfl
          have ak := at_gdO (ds := c1) (i := (k : Int)) rfl hk
          refine iteT ⟨_, rfl, _, rfl, _, _, _, _, rfl, rfl, sq eL, ak, rfl, _, rfl, ?_⟩
          rw [oV_non]
          cases e : c1.getD k none with
          | none => exact iteF ⟨_, rfl, sh, sm, by show H' l = some (.lst ((bumpO c1 k 1).map oV)); rw [bumpO_none hk e]; exact eL⟩
          | some c =>
            refine iteT ?_
            rw [e] at ak
            refine ⟨_, rfl, _, rfl, _, _, _, _, rfl, rfl, sq eL, ak, _, _, rfl, rfl, _, rfl, _, rfl, _, _, _, _, rfl, rfl, eL, ixN_nat (by rw [List.length_map]; exact hk), ?_⟩
            rw [set_oV]
            refine ⟨_, rfl, sh.trans ho_mut, Same.mut sm nl, ?_⟩
            show _ = some (HO.lst ((bumpO c1 k 1).map oV))
            unfold bumpO
            rw [e]
            exact upd_same
      · rintro σ' H' ⟨y3, rfl, sh, sm, eL⟩
        refine ⟨_, rfl, _, _, _, _, rfl, rfl, Same.seqT sm hb, atI_nat (j := 2) rfl, _, rfl, szc 2, fun p np => ?_⟩
        have pl : p ≠ l := fun e => by rw [e, eL] at np; cases np
        exact q2 _ p (sm.trans (same_new np)) ⟨l, sm.free np, nl, Ne.symm pl, upd_same, by rw [upd_ne (Ne.symm pl)]; exact eL⟩
  · rw [decide_eq_false est]
    exact iteT (q1 (canW_no est) _ s1)
end
section
variable {P : Program} {w : World} {K : PySem.W.Frag} {mg : Str → Option Value} {base : Heap}
/-- a comprehension of numbers over a range -/
theorem lc_intR {n : Nat} (hn : n ≤ 90000) {j : Nat} {te : TE} {vs : List Nat} {σ : L2.St} {H1 : Hp} {D : Addr} {Qd : Hp → Prop} (nD : H1 D = none) (f : Nat → Int) (hw : ∀ x, wipe ((wipe σ vs).set j x) vs = wipe σ vs)
    (hs : ∀ i H, i < n → Same H1 H → te ((wipe σ vs).set j (some (.int ((0 : Int) + (i : Int))))) H fun y H4 => y = .int (f i) ∧ Same H H4)
    (mono : ∀ σ H (Q Q' : VK), (∀ v H', Q v H' → Q' v H') → te σ H Q → te σ H Q')
    (hd : ∀ H, Same H1 H → H D = some (.lst (((List.range n).map f).map V.int)) → Qd H) :
    ∃ W : Nat → Nat → Hp → Prop, (∃ m, W 0 m (upd H1 D (.lst []))) ∧ ∀ i m H, W i m H →
      ((Itr 0 n).stop i H ∧ Qd H) ∨ ((Itr 0 n).go i H ∧ ∃ Nx : Hp → Prop, (∀ H', Nx H' → ∃ m', m' < m ∧ W (i + 1) m' H') ∧ ∀ x H', (Itr 0 n).yld i H x H' → gName j x (wipe σ vs) H' fun σ2 H2 => wipe σ2 vs = wipe σ vs ∧ tYes σ2 H2 fun b H3 =>
        if b = true then te σ2 H3 fun y H4 => ∃ acc, H4 D = some (.lst acc) ∧ acc.length < sizeLine ∧ Nx (upd H4 D (.lst (acc ++ [y]))) else Nx H3) := by
  refine lc_range (fun i H' => Same H1 H' ∧ H' D = some (.lst (((List.range i).map f).map V.int))) ⟨same_new nD, upd_same⟩ ?_ fun H h => hd H h.1 h.2
  rintro i H hi ⟨sm, eD⟩
  refine ⟨hw _, ?_⟩
  show te _ H _
  refine mono _ _ _ _ ?_ (hs i H hi sm)
  rintro v H' ⟨rfl, s⟩
  refine ⟨_, s _ _ eD, ?_, Same.mut (sm.trans s) nD, ?_⟩
  · rw [List.length_map, List.length_map, List.length_range]
    exact szl (by omega)
  · rw [upd_same, List.range_succ, List.map_append, List.map_append]
    rfl
abbrev s_law_cell : Stmt := topS 11
theorem sc_law_cell : FnScope ["script", "k"] ["script", "k"] (defScope s_law_cell) := ⟨rfl, rfl, rfl, by decide +kernel, rfl, by decide +kernel, by decide +kernel⟩
-- _law_cell slots: script=0 k=1 globals: len abs int
def spCellP (K : PySem.W.Frag) : Sp := fun vs H Q _ => ∃ (a : Addr) (ns : List Int) (k : Nat), vs = [.ref a, .int (k : Int)] ∧ SqL K H a (ns.map V.int) ∧ ∀ z : Int, 0 ≤ z → Q (.int z) H
theorem fd_law_cell {f : Addr} {fd : FuncData} (F : Fun K "_law_cell" "_law_cell" s_law_cell f fd) (m : mg "_law_cell" = some (.ref f)) (B : Bt mg) : Fd P w K mg base "_law_cell" ["script", "k"] 1 (spCellP K) := by
  refine ⟨f, fd, F.ok sc_law_cell (fun vs H Q E h => ?_) (fun cdv A outer s H vs Q E hr h => ?_), m, F.kp, F.binds (ps := ["script", "k"]) fun _ _ _ _ _ _ us hl => match us, hl with | [_, _], _ => rfl⟩
  · obtain ⟨a, ns, k, rfl, _⟩ := h
    rfl
  obtain ⟨a, ns, k, rfl, hs, q⟩ := h
  refine ⟨_, (pss_cons (ps_if (pt_cmpR op_lt (pv 1) (pe_callB (cLen K) (by rfl) B.len PySem.boot_len (pa_cons (pv 0) pa_nil)) (nomark _))
 (pss_one (ps_ret (pe_callB call_abs (by rfl) B.abs (by decide +kernel) (pa_cons (pe_callTy call_int1 (by rfl) B.int (by decide +kernel) (pa_cons (pe_ix (ixQ K) (pv 0) (pv 1) (fun _ _ => rfl)) pa_nil)) pa_nil))))
 pss_nil)
 (pss_one (ps_ret pe_int))), ?_⟩
  refine ⟨_, rfl, _, rfl, a, _, rfl, .inl hs, _, _, rfl, rfl, _, rfl, ite2 (fun e => ?_) (fun e => ?_)⟩
  · have e1 := of_decide_eq_true e
    rw [List.length_map] at e1
    have e2 : k < ns.length := by omega
    refine ⟨_, rfl, _, rfl, .inl ⟨a, _, _, _, rfl, rfl, hs, atI_nat (get_map (List.getElem?_eq_getElem e2)), .inl ⟨_, rfl, _, rfl, q _ ?_⟩⟩⟩
    split <;> omega
  · exact q _ (by decide)
abbrev s_law_digits : Stmt := topS 12
theorem sc_law_digits : FnScope ["cell", "base", "most", "digits", "large", "k"] ["cell", "base", "most"] (defScope s_law_digits) := ⟨rfl, rfl, rfl, by decide +kernel, rfl, by decide +kernel, by decide +kernel⟩
-- _law_digits slots: cell=0 base=1 most=2 digits=3 large=4 k=5 globals: range int
def spDigits (K : PySem.W.Frag) : Sp := fun vs H Q _ => ∃ (c b : Int) (n : Nat), vs = [.int c, .int b, .int (n : Int)] ∧ 0 ≤ c ∧ 0 < b ∧ b < 1073741824 ∧ n ≤ 10000 ∧
  ∀ H' p (ds : List Int), Same H H' → H p = none → H' p = some (.lst (ds.map V.int)) → ds.length = n → (∀ d ∈ ds, 0 ≤ d ∧ d < b) → Q (.ref p) H'
theorem fd_law_digits {f : Addr} {fd : FuncData} (F : Fun K "_law_digits" "_law_digits" s_law_digits f fd) (m : mg "_law_digits" = some (.ref f)) (B : Bt mg) : Fd P w K mg base "_law_digits" ["cell", "base", "most"] 1 (spDigits K) := by
  refine ⟨f, fd, F.ok sc_law_digits (fun vs H Q E h => ?_) (fun cdv A outer s H vs Q E hr h => ?_), m, F.kp, F.binds (ps := ["cell", "base", "most"]) fun _ _ _ _ _ _ us hl => match us, hl with | [_, _, _], _ => rfl⟩
  · obtain ⟨c, b, n, rfl, _⟩ := h
    rfl
  obtain ⟨c, b, n, rfl, hc, hb, hb2, hn, q⟩ := h
  refine ⟨_, (pss_cons (ps_set (i := 3) sc_law_digits.nd rfl (Or.inl rfl) (pe_lst pa_nil))
 (pss_cons (ps_set (i := 4) sc_law_digits.nd rfl (Or.inl rfl) (pe_cmpR op_ge (pv 0) (pe_op op_pow pe_int pe_int) (nomark _)))
 (pss_cons (ps_for PassesOwn.never rfl (pi_range1 rfl B.range (pa_cons (pv 2) pa_nil)) (pg_name (i := 5) sc_law_digits.nd rfl (Or.inl rfl))
 (pss_one (ps_if (pt_val (pv 4))
 (pss_cons (ps_expr (peBm K PySem.F.plainAttrs_list PySem.F.slot_list_append PySem.F.type_list_append mt_append (pv 3) (pa_cons (pe_op op_mod (pe_callTy call_int1 (by rfl) B.int (by decide +kernel) (pa_cons (pv 0) pa_nil)) (pv 1)) pa_nil)))
 (pss_one (ps_set (i := 0) sc_law_digits.nd rfl (Or.inl rfl) (pe_op op_fdiv (pv 0) (pv 1)))))
 (pss_one (ps_expr (peBm K PySem.F.plainAttrs_list PySem.F.slot_list_append PySem.F.type_list_append mt_append (pv 3) (pa_cons (pe_op op_mod (pe_op op_mod (pe_callTy call_int1 (by rfl) B.int (by decide +kernel) (pa_cons (pe_op op_add (pe_op op_add (pe_op op_mul (pv 0) pe_int) (pe_op op_mul (pe_op op_mul (pe_op op_add (pv 5) pe_int) (pe_op op_add (pv 5) pe_int)) pe_int)) (pe_op op_mul (pe_op op_fdiv (pv 0) pe_int) (pv 5))) pa_nil)) pe_int) (pv 1)) pa_nil)))))))
 (pss_one (ps_ret (pv 3)))))), ?_⟩
  refine ⟨sz (by decide), fun o no => ?_⟩
  refine ⟨_, rfl, _, _, rfl, rfl, ⟨by decide, by decide, by decide⟩, _, _, rfl, rfl, ?_⟩
  refine ⟨_, rfl, n, rfl, by omega, by omega, for_range (lo := 0) (n := n) (fun i σ' H' => ∃ (lg : Bool) (c' : Int) (y : Option V) (ds : List Int), σ' = [some (.int c'), some (.int b), some (.int (n : Int)), some (.ref o), some (.bl lg), y] ∧ 0 ≤ c' ∧ Same H H' ∧ H' o = some (.lst (ds.map V.int)) ∧ ds.length = i ∧ ∀ d ∈ ds, 0 ≤ d ∧ d < b) ⟨_, c, none, [], rfl, hc, same_new no, upd_same, rfl, fun d hd => by cases hd⟩ ?_ ?_⟩
  · rintro i σ' H' hi ⟨lg, c', y, ds, rfl, hc', sm, eo, hl, hd⟩
    have dl : (ds.map V.int).length < sizeLine := szl (by rw [List.length_map]; omega)
    have hm : ∀ z : Int, 0 ≤ z % b ∧ z % b < b := fun z => ⟨Int.emod_nonneg _ (by omega), Int.emod_lt_of_pos _ hb⟩
    have fin : ∀ (c2 d : Int), 0 ≤ c2 → (0 ≤ d ∧ d < b) → ∃ (lg' : Bool) (c' : Int) (y : Option V) (ds' : List Int), [some (V.int c2), some (.int b), some (.int (n : Int)), some (.ref o), some (.bl lg), some (.int (0 + (i : Int)))] = [some (.int c'), some (.int b), some (.int (n : Int)), some (.ref o), some (.bl lg'), y] ∧ 0 ≤ c' ∧ Same H (upd H' o (.lst (ds.map V.int ++ [.int d]))) ∧ (upd H' o (.lst (ds.map V.int ++ [.int d]))) o = some (.lst (ds'.map V.int)) ∧ ds'.length = i + 1 ∧ ∀ d ∈ ds', 0 ≤ d ∧ d < b := fun c2 d h1 h2 =>
      ⟨lg, c2, _, ds ++ [d], rfl, h1, Same.mut sm no, by rw [upd_same, List.map_append]; rfl, by rw [List.length_append, hl]; rfl, fun x hx => by
        rcases List.mem_append.mp hx with hx | hx
        · exact hd x hx
        · rw [List.mem_singleton.mp hx]; exact h2⟩
    refine ⟨_, rfl, lg, rfl, ?_⟩
    cases lg with
    | true =>
      refine iteT ?_
      refine ⟨_, rfl, .inl ⟨rfl, _, sq eo⟩, _, rfl, .inl ⟨_, rfl, _, rfl, _, _, rfl, rfl, hb, o, _, _, rfl, rfl, eo, dl, ?_⟩⟩
      refine ⟨_, rfl, _, rfl, _, _, rfl, rfl, ⟨hb, hb2⟩, ?_⟩
      exact fin _ _ (Int.ediv_nonneg hc' (by omega)) (hm _)
    | false =>
      refine iteF ?_
      refine ⟨_, rfl, .inl ⟨rfl, _, sq eo⟩, _, rfl, _, _, rfl, rfl, .inr ⟨by decide, by decide⟩, ?_⟩
      refine ⟨_, rfl, _, _, rfl, rfl, _, rfl, _, _, rfl, rfl, _, _, rfl, rfl, .inl ⟨by omega, by omega⟩, _, _, rfl, rfl, .inr ⟨by decide, by decide⟩, _, _, rfl, rfl, ?_⟩
      refine ⟨_, rfl, _, _, rfl, rfl, ⟨by decide, by decide⟩, _, rfl, _, _, rfl, rfl, .inr ⟨by omega, by omega⟩, _, _, rfl, rfl, ?_⟩
      refine .inl ⟨_, rfl, _, _, rfl, rfl, (by show (0 : Int) < 2147483647; decide), _, rfl, _, _, rfl, rfl, hb, o, _, _, rfl, rfl, eo, dl, ?_⟩
      exact fin _ _ hc' (hm _)
  · rintro σ' H' ⟨lg, c', y, ds, rfl, hc', sm, eo, hl, hd⟩
    exact ⟨_, rfl, q H' o ds sm no eo hl hd⟩
end
section
variable {P : Program} {w : World} {K : PySem.W.Frag} {mg : Str → Option Value} {base : Heap}
abbrev Wn := Int × List (Option Int)
def wD (r : Wn) : PyData := wsitD r.1 r.2
def WOk (S : Nat) (N : Nat) (top : Nat) (r : Wn) : Prop := r.2.length = N ∧ 0 ≤ r.1 ∧ r.1 < (S : Int) ∧ ∀ c ∈ r.2, ∀ i, c = some i → 0 ≤ i ∧ i ≤ (top : Int)
abbrev s_law_wide_some : Stmt := topS 15
theorem sc_law_wide_some : FnScope ["cell", "states", "places", "many", "most", "rows", "draws", "k", "part", "counts", "j"] ["cell", "states", "places", "many", "most"] (defScope s_law_wide_some) := ⟨rfl, rfl, rfl, by decide +kernel, rfl, by decide +kernel, by decide +kernel⟩
-- _law_wide_some slots: cell=0 states=1 places=2 many=3 most=4(cell) rows=5 draws=6 k=7 part=8(cell) counts=9 j=10(None) globals: _law_digits range
def spWSome (K : PySem.W.Frag) : Sp := fun vs H Q _ => ∃ (c : Int) (S N m top : Nat), vs = [.int c, nV S, nV N, nV m, nV top] ∧ 0 ≤ c ∧ 0 < S ∧ N ≤ 50 ∧ m ≤ 50 ∧ top ≤ 50 ∧
  ∀ (H' : Hp) (p : Addr) (xs : List V) (rs : List Wn), Same H H' → H p = none → H' p = some (.lst xs) → DpAll K (Ho p H') xs (rs.map wD) → rs.length = m → (∀ r ∈ rs, WOk S N top r) → Q (.ref p) H'
set_option maxHeartbeats 2000000 in
theorem fd_law_wide_some {f : Addr} {fd : FuncData} (F : Fun K "_law_wide_some" "_law_wide_some" s_law_wide_some f fd) (m : mg "_law_wide_some" = some (.ref f)) (B : Bt mg) (D_law_digits : Fd P w K mg base "_law_digits" ["cell", "base", "most"] 1 (spDigits K)) : Fd P w K mg base "_law_wide_some" ["cell", "states", "places", "many", "most"] 2 (spWSome K) := by
  refine ⟨f, fd, F.ok sc_law_wide_some (fun vs H Q E h => ?_) (fun cdv A outer s H vs Q E hr h => ?_), m, F.kp, F.binds (ps := ["cell", "states", "places", "many", "most"]) fun _ _ _ _ _ _ us hl => match us, hl with | [_, _, _, _, _], _ => rfl⟩
  · obtain ⟨c, S, N, m, top, rfl, _⟩ := h
    rfl
  obtain ⟨c, S, N, m, top, rfl, hc, hS, hN, hm, htop, q⟩ := h
  refine ⟨_, (pss_cons (ps_set (i := 5) sc_law_wide_some.nd rfl (Or.inl rfl) (pe_lst pa_nil))
 (pss_cons (ps_set (i := 6) sc_law_wide_some.nd rfl (Or.inl rfl) (pe_fn D_law_digits (hr.mono (by decide)) rfl (pa_cons (pv 0) (pa_cons pe_int (pa_cons (pe_op op_mul (pv 3) (pe_op op_add (pv 2) pe_int)) pa_nil)))))
 (pss_cons (ps_for PassesOwn.never rfl (pi_range1 rfl B.range (pa_cons (pv 3) pa_nil)) (pg_name (i := 7) sc_law_wide_some.nd rfl (Or.inl rfl))
 (pss_cons (ps_set (i := 8) sc_law_wide_some.nd rfl (Or.inr rfl) (pe_slice (slL K) (pv 6) (po_some (pe_op op_mul (pv 7) (pe_op op_add (pv 2) pe_int))) (po_some (pe_op op_mul (pe_op op_add (pv 7) pe_int) (pe_op op_add (pv 2) pe_int)))))
 (pss_cons (ps_setLc (i := 9) (own := [("j", 10)]) (g := gName 10) (by rfl) sc_law_wide_some.nd rfl rfl (sw_true rfl rfl rfl (by decide +kernel)) (pi_range1 rfl B.range (pa_cons (pv 2) pa_nil)) (blkOk_by (own := [("j", 10)]) (N := ["cell", "states", "places", "many", "most", "rows", "draws", "k", "part", "counts", "j"]) (sc := (defScope s_law_wide_some)) (by decide +kernel)) (fun _ _ _ _ _ => (pg_name (i := 10) sc_law_wide_some.nd rfl (Or.inl rfl))) (fun _ _ _ _ _ => pts_nil) (fun _ _ _ _ _ => (pe_ifExp (pt_cmpR op_eq (pe_op op_mod (pe_ix (ixL K) (pv 8) (pv 10) (fun _ _ => rfl)) pe_int) pe_int (nomark _)) pe_non (pe_op op_mod (pe_op op_fdiv (pe_ix (ixL K) (pv 8) (pv 10) (fun _ _ => rfl)) pe_int) (pe_op op_add (pv 4) pe_int)))))
 (pss_one (ps_expr (peBm K PySem.F.plainAttrs_list PySem.F.slot_list_append PySem.F.type_list_append mt_append (pv 5) (pa_cons (pe_tup (pa_cons (pe_op op_mod (pe_ix (ixL K) (pv 8) (pv 2) (fun _ _ => rfl)) (pv 1)) (pa_cons (pv 9) pa_nil))) pa_nil)))))))
 (pss_one (ps_ret (pv 5)))))), ?_⟩
  have emul : (m : Int) * ((N : Int) + 1) = ((m * (N + 1) : Nat) : Int) := by push_cast; rfl
  have bmul : m * (N + 1) ≤ 50 * 51 := Nat.mul_le_mul hm (by omega)
  refine ⟨sz (by decide), fun o no => ?_⟩
  dsimp only [gName]
  refine ⟨_, rfl, _, rfl, _, rfl, _, _, rfl, rfl, _, _, rfl, rfl, .inl ⟨by omega, by omega⟩, c, 27720, m * (N + 1), congrArg (fun z => [V.int c, V.int 27720, V.int z]) emul, hc, by decide, by decide, by omega, ?_⟩
  intro Hd pd ds s1 npd epd ld hd
  have so := (same_new (o := HO.lst []) no).trans s1
  have eo0 := s1 _ _ (upd_same (H := H) (a := o) (o := HO.lst []))
  have pdo : pd ≠ o := fun e => by rw [e, upd_same] at npd; cases npd
  have epd' : Ho o Hd pd = some (.lst (ds.map V.int)) := by unfold Ho; rw [if_neg pdo]; exact epd
  clear s1 npd
  dsimp only [gName]
  refine ⟨_, rfl, m, rfl, by omega, by omega, for_range (lo := 0) (n := m) (fun i σ' H' => ∃ (y7 y8 y9 : Option V) (xs : List V) (rs : List Wn), σ' = [some (.int c), some (nV S), some (nV N), some (nV m), some (nV top), some (.ref o), some (.ref pd), y7, y8, y9, none] ∧ Same H H' ∧ Same (Ho o Hd) (Ho o H') ∧ H' o = some (.lst xs) ∧ DpAll K (Ho o H') xs (rs.map wD) ∧ rs.length = i ∧ ∀ r ∈ rs, WOk S N top r) ⟨none, none, none, [], [], rfl, so, Same.refl _, eo0, .nil, rfl, fun b hb => nomatch hb⟩ ?_ ?_⟩
  · rintro k σ' H' hk ⟨y7, y8, y9, xs, rs, rfl, sx, sh, eo, dx, bl, ok⟩
    have hz : (0 : Int) + (k : Int) = (k : Int) := by omega
    have e1 : ((0 : Int) + (k : Int)) * ((N : Int) + 1) = ((k * (N + 1) : Nat) : Int) := by rw [hz]; push_cast; rfl
    have e2 : ((0 : Int) + (k : Int) + 1) * ((N : Int) + 1) = ((k * (N + 1) + (N + 1) : Nat) : Int) := by rw [hz]; push_cast; rw [Int.add_mul, Int.one_mul]
    have b2 : k * (N + 1) + (N + 1) ≤ ds.length := by
      rw [ld, ← Nat.succ_mul]
      exact Nat.mul_le_mul_right _ hk
    have epk := ho_out _ _ (sh _ _ epd')
    dsimp only [gName]
    refine ⟨_, rfl, _, rfl, _, rfl, _, _, rfl, rfl, _, _, rfl, rfl, .inl ⟨by omega, by omega⟩, _, rfl, _, rfl, _, _, rfl, rfl, _, rfl, _, _, rfl, rfl, _, _, rfl, rfl, .inl ⟨by omega, by omega⟩, _, rfl, pd, _, rfl, sq epk, fun q1 m1 => ?_⟩
    dsimp only [gName]
    have ec := cut_ints (ds := ds) b2 e1 e2
    have lps : ((ds.drop (k * (N + 1))).take (N + 1)).length = N + 1 := by rw [List.length_take, List.length_drop]; omega
    have ep1 : (upd H' q1 (.lst (cutV (ds.map V.int) (some (((0 : Int) + (k : Int)) * ((N : Int) + 1))) (some (((0 : Int) + (k : Int) + 1) * ((N : Int) + 1)))))) q1 = some (.lst (((ds.drop (k * (N + 1))).take (N + 1)).map V.int)) := by rw [upd_same, ec]
    have s12 : Same H' (upd H' q1 (.lst (cutV (ds.map V.int) (some (((0 : Int) + (k : Int)) * ((N : Int) + 1))) (some (((0 : Int) + (k : Int) + 1) * ((N : Int) + 1)))))) := same_new m1
    generalize upd H' q1 (.lst (cutV (ds.map V.int) (some (((0 : Int) + (k : Int)) * ((N : Int) + 1))) (some (((0 : Int) + (k : Int) + 1) * ((N : Int) + 1))))) = H2 at ep1 s12 ⊢
    generalize (ds.drop (k * (N + 1))).take (N + 1) = ps at lps ep1
    have eo2 := s12 _ _ eo
    refine ⟨_, rfl, N, rfl, by omega, by omega, fun D nD => ?_⟩
    refine lc_valR (K := K) (n := N) (by omega) nD (fun i => oV (if ps.getD i 0 % 5 = 0 then none else some (ps.getD i 0 / 5 % ((top : Int) + 1)))) (fun _ => rfl) (fun j Hx Q' hj sj q' => ?_) fun H3 s3 e3 => ?_
    · have hz : (0 : Int) + (j : Int) = (j : Int) := by omega
      refine ⟨_, rfl, _, rfl, _, _, _, _, rfl, rfl, sj.seq (sq ep1), at_gd hz (by omega), _, _, rfl, rfl, (by show (0 : Int) < 5; decide), rfl, _, rfl, ite2 (fun e => ?_) (fun e => ?_)⟩
      · have e1 : ps.getD j 0 % 5 = 0 := by injection of_decide_eq_true e
        have := q' _ (Same.refl _)
        rw [if_pos e1] at this
        exact this
      · have e1 : ¬ ps.getD j 0 % 5 = 0 := fun z => e (decide_eq_true (congrArg V.int z))
        refine ⟨_, rfl, _, rfl, _, _, _, _, rfl, rfl, sj.seq (sq ep1), at_gd hz (by omega), _, _, rfl, rfl, ⟨by decide, by decide⟩, _, rfl, _, _, rfl, rfl, _, _, rfl, rfl, (show (0 : Int) < (top : Int) + 1 by omega), ?_⟩
        have := q' _ (Same.refl _)
        rw [if_neg e1] at this
        exact this
    replace e3 : H3 D = some (.lst (((List.range N).map fun i => if ps.getD i 0 % 5 = 0 then none else some (ps.getD i 0 / 5 % ((top : Int) + 1))).map oV)) := by
      rw [List.map_map]
      exact e3
    have lcs : ((List.range N).map fun i => if ps.getD i 0 % 5 = 0 then none else some (ps.getD i 0 / 5 % ((top : Int) + 1))).length = N := by rw [List.length_map, List.length_range]
    have hcs : ∀ c ∈ (List.range N).map fun i => if ps.getD i 0 % 5 = 0 then none else some (ps.getD i 0 / 5 % ((top : Int) + 1)), ∀ i, c = some i → 0 ≤ i ∧ i ≤ (top : Int) := fun c hc i e => by
      obtain ⟨j, _, rfl⟩ := List.mem_map.mp hc
      split at e
      · cases e
      · have e' := Option.some.inj e
        have := mod_in (ps.getD j 0 / 5) (show (0 : Int) < (top : Int) + 1 by omega)
        omega
    generalize ((List.range N).map fun i => if ps.getD i 0 % 5 = 0 then none else some (ps.getD i 0 / 5 % ((top : Int) + 1))) = cs at e3 lcs hcs
    have eo3 := s3 _ _ eo2
    have ms := mod_in (ps.getD N 0) (show (0 : Int) < (S : Int) by omega)
    dsimp only [gName]
    refine ⟨_, rfl, .inl ⟨rfl, xs, sq eo3⟩, ?_⟩
    refine ⟨_, rfl, _, rfl, _, _, _, _, rfl, rfl, sq (s3 _ _ ep1), at_gd (j := N) rfl (by omega), _, rfl, _, _, rfl, rfl, (show (0 : Int) < (S : Int) by omega), _, rfl, szc 2, fun t nt => ?_⟩
    have eo4 := (same_new (o := HO.tup [V.int (ps.getD N 0 % (S : Int)), V.ref D]) nt) _ _ eo3
    have xl := dpa_map_len dx
    refine ⟨o, xs, _, rfl, rfl, eo4, szl (by omega), ?_⟩
    have nD' : H' D = none := s12.free nD
    have Do : D ≠ o := fun e => by rw [e, eo] at nD'; cases nD'
    have s34 := s12.trans (s3.trans (same_new (o := HO.tup [V.int (ps.getD N 0 % (S : Int)), V.ref D]) nt))
    have shx : Same (Ho o H') (Ho o (upd (upd H3 t (.tup [V.int (ps.getD N 0 % (S : Int)), V.ref D])) o (.lst (xs ++ [.ref t])))) := (ho_same s34).trans ho_mut
    have dD : Dp K (Ho o H3) (.ref D) (.list (cs.map oD)) := .lst (sq (by unfold Ho; rw [if_neg Do]; exact e3)) (dpa_os cs)
    have dt : Dp K (Ho o (upd H3 t (.tup [V.int (ps.getD N 0 % (S : Int)), V.ref D]))) (.ref t) (wD (ps.getD N 0 % (S : Int), cs)) := dpo_newT eo3 nt (.cons (.int _) (.cons dD .nil))
    refine ⟨_, _, _, xs ++ [.ref t], rs ++ [(ps.getD N 0 % (S : Int), cs)], rfl, Same.mut (sx.trans s34) no, sh.trans shx, upd_same, ?_, by rw [List.length_append, bl]; rfl, ?_⟩
    · rw [List.map_append]
      exact dpa_app (dpAll_mono shx dx) (.cons (dp_mono ho_mut dt) .nil)
    · intro r hr
      rcases List.mem_append.mp hr with h | h
      · exact ok r h
      · rw [List.mem_singleton.mp h]; exact ⟨lcs, ms.1, ms.2, hcs⟩
  · rintro σ' H' ⟨y7, y8, y9, xs, rs, rfl, sx, sh, eo, dx, bl, ok⟩
    exact ⟨_, rfl, q _ o xs rs sx no eo dx bl ok⟩
end
/-! ### machines of the laws of stage 3 -/
structure MT.OkG (M : MT) (P L : Nat) : Prop where
  s1 : 1 ≤ M.states
  s2 : M.states ≤ 3
  p1 : 1 ≤ M.places
  p2 : M.places ≤ P
  ss : M.sst < M.states
  cl : M.cnts.length = M.places
  cb : ∀ c ∈ M.cnts, 0 ≤ c ∧ c < 3
  cr : M.crew < M.places
  m1 : 1 ≤ M.moves.length
  ml : M.moves.length ≤ L
  fit : ∀ m ∈ M.moves, m.Fit M.states M.places
  nd : M.moves.Nodup
section
variable {P : Program} {w : World} {K : PySem.W.Frag} {mg : Str → Option Value} {base : Heap}
theorem nD_nc {n m : Nat} (h : n < 100) : NcD (nD n) 1 m := NcD.int (by omega)
theorem mv0_nc {m : MvT} {S P : Nat} (h : m.Fit S P) (h0 : m.sh = []) (hS : S ≤ 100) (hP : P ≤ 100) : NcD m.data 7 3 := by
  have b : NcD (sdD m.sd) 1 2 := by
    have := h.sd
    cases e : m.sd with
    | none => exact ⟨rfl, Nat.le_refl _, Nat.zero_le _⟩
    | some d => exact nD_nc (by have := this d e; omega)
  have h1 := h.st
  have h2 := h.pl
  have h3 := h.ns
  have h4 := h.np
  unfold MvT.data
  rw [h0]
  exact (NcL.tup (m := 2) (.cons (nD_nc (by omega)) (.cons (nD_nc (by omega)) (.cons (nD_nc (by omega)) (.cons (nD_nc (by omega)) (.cons b (.cons (NcL.lst (ds := []) (c := 0) (m := 1) .nil) (.nil (c := 0))))))))).mono (by omega) (Nat.le_refl _)
theorem mvs0_nc {S P : Nat} (hS : S ≤ 100) (hP : P ≤ 100) : ∀ {ms : List MvT}, (∀ m ∈ ms, m.Fit S P ∧ m.sh = []) → NcL (ms.map MvT.data) (7 * ms.length) 3
  | [], _ => .nil
  | m :: r, h => by
    obtain ⟨h1, h2⟩ := h m List.mem_cons_self
    exact (NcL.cons (mv0_nc h1 h2 hS hP) (mvs0_nc hS hP fun x hx => h x (List.mem_cons_of_mem _ hx))).mono (by rw [List.length_cons]; omega) (Nat.le_refl _)
theorem intsG_nc {m : Nat} : ∀ {ns : List Int}, (∀ n ∈ ns, n.natAbs < 10 ^ 7) → NcL (ns.map PyData.int) ns.length m
  | [], _ => .nil
  | n :: ns, h => by
    have := NcL.cons (NcD.int (m := m) (h n List.mem_cons_self)) (intsG_nc (m := m) fun x hx => h x (List.mem_cons_of_mem _ hx))
    exact this.mono (by rw [List.length_cons]; omega) (Nat.le_refl _)
theorem mt0_nc {M : MT} {P L : Nat} (h : M.OkG P L) (h6 : ∀ m ∈ M.moves, m.sh = []) (hP : P ≤ 50) : NcD M.data (7 * L + P + 20) 5 := by
  have a := mvs0_nc (S := M.states) (P := M.places) (by have := h.s2; omega) (by have := h.p2; omega) (ms := M.moves) fun m hm => ⟨h.fit m hm, h6 m hm⟩
  have b : NcD (sitD (M.sst : Int) M.cnts) (M.cnts.length + 3) 2 := (NcL.tup (m := 1) (.cons (.int (by have := h.ss; have := h.s2; omega)) (.cons (NcL.lst (intsG_nc (m := 0) (fun n hn => by have := h.cb n hn; omega))) (.nil (c := 0))))).mono (by omega) (Nat.le_refl _)
  have h1 := h.ml
  have h2 := h.cl
  have h3 := h.p2
  have h4 := h.s2
  have h5 := h.cr
  exact (NcL.tup (m := 4) (.cons (nD_nc (by omega)) (.cons (nD_nc (by omega)) (.cons (b.mono (Nat.le_refl _) (by decide)) (.cons (nD_nc (by omega)) (.cons (NcL.lst a) (.nil (c := 0)))))))).mono (by omega) (Nat.le_refl _)
theorem nat_of {z : Int} (h : 0 ≤ z) : ∃ n : Nat, z = (n : Int) := ⟨z.toNat, (Int.toNat_of_nonneg h).symm⟩
theorem eqv_anyG {ds : List PyData} {d : PyData} (h : (ds.any fun z => PyData.eqv z d) = false) (e : PyData.eqv d d = true) : d ∉ ds := fun hm => by
  have : (ds.any fun z => PyData.eqv z d) = true := List.any_eq_true.mpr ⟨d, hm, e⟩
  rw [this] at h
  cases h
abbrev s_law_machine : Stmt := topS 13
theorem sc_law_machine : FnScope ["first", "second", "sizes", "states", "places", "draws", "moves", "k", "draw", "other", "started", "move", "counts"] ["first", "second"] (defScope s_law_machine) := ⟨rfl, rfl, rfl, by decide +kernel, rfl, by decide +kernel, by decide +kernel⟩
-- _law_machine slots: first=0 second=1 sizes=2 states=3 places=4 draws=5 moves=6 k=7 draw=8 other=9 started=10 move=11 counts=12 globals: _law_digits range
def spWMach (K : PySem.W.Frag) : Sp := fun vs H Q _ => ∃ (c1 c2 : Int), vs = [.int c1, .int c2] ∧ 0 ≤ c1 ∧ 0 ≤ c2 ∧
  ∀ H' v (M : MT), Same H H' → Dp K H' v M.data → M.OkG 8 8 → (∀ m ∈ M.moves, m.sh = []) → Q v H'
set_option maxHeartbeats 4000000 in
theorem fd_law_machine {f : Addr} {fd : FuncData} (F : Fun K "_law_machine" "_law_machine" s_law_machine f fd) (m : mg "_law_machine" = some (.ref f)) (B : Bt mg) (D_law_digits : Fd P w K mg base "_law_digits" ["cell", "base", "most"] 1 (spDigits K)) : Fd P w K mg base "_law_machine" ["first", "second"] 2 (spWMach K) := by
  refine ⟨f, fd, F.ok sc_law_machine (fun vs H Q E h => ?_) (fun cdv A outer s H vs Q E hr h => ?_), m, F.kp, F.binds (ps := ["first", "second"]) fun _ _ _ _ _ _ us hl => match us, hl with | [_, _], _ => rfl⟩
  · obtain ⟨c1, c2, rfl, _⟩ := h
    rfl
  obtain ⟨c1, c2, rfl, hc1, hc2, q⟩ := h
  refine ⟨_, (pss_cons (ps_set (i := 2) sc_law_machine.nd rfl (Or.inl rfl) (pe_fn D_law_digits (hr.mono (by decide)) rfl (pa_cons (pv 0) (pa_cons pe_int (pa_cons pe_int pa_nil)))))
 (pss_cons (ps_set (i := 3) sc_law_machine.nd rfl (Or.inl rfl) (pe_op op_add pe_int (pe_op op_mod (pe_ix (ixL K) (pv 2) pe_int (fun _ _ => rfl)) pe_int)))
 (pss_cons (ps_set (i := 4) sc_law_machine.nd rfl (Or.inl rfl) (pe_op op_add pe_int (pe_op op_mod (pe_ix (ixL K) (pv 2) pe_int (fun _ _ => rfl)) pe_int)))
 (C8.pss_cut (ps_if (pt_cmpR op_eq (pe_op op_mod (pe_op op_fdiv (pe_ix (ixL K) (pv 2) pe_int (fun _ _ => rfl)) pe_int) pe_int) pe_int (nomark _))
 (pss_one (ps_set (i := 4) sc_law_machine.nd rfl (Or.inl rfl) (pe_op op_add pe_int (pe_op op_mod (pe_ix (ixL K) (pv 2) pe_int (fun _ _ => rfl)) pe_int))))
 pss_nil)
 (pss_cons (ps_set (i := 5) sc_law_machine.nd rfl (Or.inl rfl) (pe_fn D_law_digits (hr.mono (by decide)) rfl (pa_cons (pv 1) (pa_cons pe_int (pa_cons pe_int pa_nil)))))
 (pss_cons (ps_set (i := 6) sc_law_machine.nd rfl (Or.inl rfl) (pe_lst pa_nil))
 (pss_cons (ps_for PassesOwn.never rfl (pi_range1 rfl B.range (pa_cons (pe_op op_add pe_int (pe_op op_mod (pe_ix (ixL K) (pv 2) pe_int (fun _ _ => rfl)) pe_int)) pa_nil)) (pg_name (i := 7) sc_law_machine.nd rfl (Or.inl rfl))
 (pss_cons (ps_set (i := 8) sc_law_machine.nd rfl (Or.inl rfl) (pe_ix (ixL K) (pv 5) (pe_op op_mul pe_int (pv 7)) (fun _ _ => rfl)))
 (pss_cons (ps_set (i := 9) sc_law_machine.nd rfl (Or.inl rfl) (pe_ix (ixL K) (pv 5) (pe_op op_add (pe_op op_mul pe_int (pv 7)) pe_int) (fun _ _ => rfl)))
 (pss_cons (ps_set (i := 10) sc_law_machine.nd rfl (Or.inl rfl) pe_non)
 (C8.pss_cut (ps_if (pt_cmpR op_eq (pe_op op_mod (pv 9) pe_int) pe_int (nomark _))
 (pss_one (ps_set (i := 10) sc_law_machine.nd rfl (Or.inl rfl) (pe_op op_mod (pe_op op_fdiv (pv 9) pe_int) (pv 4))))
 pss_nil)
 (pss_cons (ps_set (i := 11) sc_law_machine.nd rfl (Or.inl rfl) (pe_tup (pa_cons (pe_op op_mod (pv 8) (pv 3)) (pa_cons (pe_op op_mod (pe_op op_fdiv (pv 8) pe_int) (pv 4)) (pa_cons (pe_op op_mod (pe_op op_fdiv (pv 8) pe_int) (pv 3)) (pa_cons (pe_op op_mod (pe_op op_fdiv (pv 8) pe_int) (pv 4)) (pa_cons (pv 10) (pa_cons (pe_lst pa_nil) pa_nil))))))))
 (pss_one (ps_if (pt_cmpR (opNotInD K (hu65 hr)) (pv 11) (pv 6) (by rfl))
 (pss_one (ps_expr (peBm K PySem.F.plainAttrs_list PySem.F.slot_list_append PySem.F.type_list_append mt_append (pv 6) (pa_cons (pv 11) pa_nil))))
 pss_nil))))))))
 (pss_cons (ps_set (i := 12) sc_law_machine.nd rfl (Or.inl rfl) (pe_op op_rep (pe_lst (pa_cons pe_int pa_nil)) (pv 4)))
 (pss_cons (ps_asg (pe_op op_mod (pe_op op_fdiv (pe_ix (ixL K) (pv 2) pe_int (fun _ _ => rfl)) pe_int) pe_int) (pg_sub (pv 12) (pe_op op_mod (pe_ix (ixL K) (pv 2) pe_int (fun _ _ => rfl)) (pv 4)) set_list))
 (pss_one (ps_ret (pe_tup (pa_cons (pv 3) (pa_cons (pv 4) (pa_cons (pe_tup (pa_cons (pe_op op_mod (pe_ix (ixL K) (pv 2) pe_int (fun _ _ => rfl)) (pv 3)) (pa_cons (pv 12) pa_nil))) (pa_cons (pe_op op_mod (pe_ix (ixL K) (pv 2) pe_int (fun _ _ => rfl)) (pv 4)) (pa_cons (pv 6) pa_nil))))))))))))))))), ?_⟩
  refine ⟨_, rfl, c1, 2520, 8, rfl, hc1, by decide, by decide, by decide, fun H1 pd ds s1 npd ed ld hd => ?_⟩
  dsimp only [gName]
  have sd := sq (K := K) ed
  have d0 : ∀ {i : Nat}, i < 8 → 0 ≤ ds.getD i 0 := fun h => (hd _ (gd_mem (by omega))).1
  obtain ⟨S, eS⟩ := nat_of (show (0 : Int) ≤ 1 + ds.getD 0 0 % 3 by have := mod_in (ds.getD 0 0) (show (0 : Int) < 3 by decide); omega)
  have hS : 1 ≤ S ∧ S ≤ 3 := by have := mod_in (ds.getD 0 0) (show (0 : Int) < 3 by decide); omega
  refine ⟨_, rfl, _, _, _, _, rfl, rfl, sd, at_gd (j := 0) rfl (by omega), _, _, rfl, rfl, (by show (0 : Int) < 3; decide), _, _, rfl, rfl, ?_⟩
  dsimp only [gName]
  rw [eS]
  refine ⟨_, rfl, _, _, _, _, rfl, rfl, sd, at_gd (j := 1) rfl (by omega), _, _, rfl, rfl, (by show (0 : Int) < 4; decide), _, _, rfl, rfl, ?_⟩
  dsimp only [gName]
  have m1 := mod_in (ds.getD 1 0) (show (0 : Int) < 4 by decide)
  refine ⟨fun σ' H' => ∃ N : Nat, 1 ≤ N ∧ N ≤ 8 ∧ σ' = [some (.int c1), some (.int c2), some (.ref pd), some (nV S), some (nV N), none, none, none, none, none, none, none, none] ∧ H' = H1, ?_, ?_⟩
  · refine ⟨_, rfl, _, _, _, _, rfl, rfl, sd, at_gd (j := 1) rfl (by omega), _, _, rfl, rfl, ⟨by decide, by decide⟩, _, _, rfl, rfl, (by show (0 : Int) < 4; decide), rfl, _, rfl, ite2 (fun e => ?_) (fun e => ?_)⟩
    · obtain ⟨N, eN⟩ := nat_of (show (0 : Int) ≤ 5 + ds.getD 1 0 % 4 by omega)
      refine ⟨_, rfl, _, _, _, _, rfl, rfl, sd, at_gd (j := 1) rfl (by omega), _, _, rfl, rfl, (by show (0 : Int) < 4; decide), _, _, rfl, rfl, ?_⟩
      dsimp only [gName]
      rw [eN]
      exact ⟨N, by omega, by omega, rfl, rfl⟩
    · obtain ⟨N, eN⟩ := nat_of (show (0 : Int) ≤ 1 + ds.getD 1 0 % 4 by omega)
      rw [eN]
      exact ⟨N, by omega, by omega, rfl, rfl⟩
  rintro σ' H1' ⟨N, n1, n8, rfl, rfl⟩
  refine ⟨_, rfl, c2, 27720, 16, rfl, hc2, by decide, by decide, by decide, fun H2 pe es s2 npe ee le he => ?_⟩
  have e0 : ∀ {i : Nat}, i < 16 → 0 ≤ es.getD i 0 := fun h => (he _ (gd_mem (by omega))).1
  have sd2 := s2.seq sd
  have s02 := s1.trans s2
  dsimp only [gName]
  refine ⟨sz (by decide), fun o no => ?_⟩
  dsimp only [gName]
  have m2 := mod_in (ds.getD 2 0) (show (0 : Int) < 8 by decide)
  obtain ⟨n, en⟩ := nat_of (show (0 : Int) ≤ 1 + ds.getD 2 0 % 8 by omega)
  have s2o := same_new (o := HO.lst []) no
  refine ⟨_, rfl, _, _, _, _, rfl, rfl, s2o.seq sd2, at_gd (j := 2) rfl (by omega), _, _, rfl, rfl, (by show (0 : Int) < 8; decide), _, _, rfl, rfl, ?_⟩
  have hn : 1 ≤ n ∧ n ≤ 8 := by omega
  have see := sq (K := K) ee
  refine ⟨n, congrArg (fun z => [V.int z]) en, by omega, by omega, for_range (lo := 0) (n := n) (fun i σ' H' => ∃ (y7 y8 y9 y10 y11 : Option V) (ms : List MvT) (xs : List V), σ' = [some (.int c1), some (.int c2), some (.ref pd), some (nV S), some (nV N), some (.ref pe), some (.ref o), y7, y8, y9, y10, y11, none] ∧ Same H2 H' ∧ H' o = some (.lst xs) ∧ ms.length ≤ i ∧ (0 < i → 1 ≤ ms.length) ∧ DpAll K (Ho o H') xs (ms.map MvT.data) ∧ (∀ m ∈ ms, m.Fit S N ∧ m.sh = []) ∧ ms.Nodup) ?_ ?_ ?_⟩
  · exact ⟨_, _, _, _, _, [], [], rfl, s2o, upd_same, Nat.le_refl _, (fun h => absurd h (by decide)), .nil, (fun m hm => by cases hm), .nil⟩
  · rintro i σ' H' hi ⟨y7, y8, y9, y10, y11, ms, xs, rfl, s3, eo, ml, mp, dms, fit, nd⟩
    have x0 : (2 : Int) * (0 + (i : Int)) = ((2 * i : Nat) : Int) := by omega
    have x1 : (2 : Int) * (0 + (i : Int)) + 1 = ((2 * i + 1 : Nat) : Int) := by omega
    have xl := dpa_map_len dms
    dsimp only [gName]
    refine ⟨_, rfl, _, rfl, _, _, rfl, rfl, .inl ⟨by decide, by decide⟩, _, _, _, _, rfl, rfl, s3.seq see, at_gd x0 (by omega), ?_⟩
    dsimp only [gName]
    refine ⟨_, rfl, _, rfl, _, _, rfl, rfl, .inl ⟨by decide, by decide⟩, _, _, rfl, rfl, _, _, _, _, rfl, rfl, s3.seq see, at_gd x1 (by omega), ?_⟩
    dsimp only [gName]
    have a0 := e0 (i := 2 * i) (by omega)
    have b0 := e0 (i := 2 * i + 1) (by omega)
    generalize es.getD (2 * i) 0 = A at a0 ⊢
    generalize es.getD (2 * i + 1) 0 = Bz at b0 ⊢
    refine ⟨fun σ' H4 => ∃ sd : Option Nat, (∀ d, sd = some d → d < N) ∧ σ' = [some (.int c1), some (.int c2), some (.ref pd), some (nV S), some (nV N), some (.ref pe), some (.ref o), some (.int (0 + (i : Int))), some (.int A), some (.int Bz), some (sdV sd), y11, none] ∧ H4 = H', ?_, ?_⟩
    · refine ⟨_, rfl, _, _, rfl, rfl, (by show (0 : Int) < 6; decide), rfl, _, rfl, ite2 (fun e => ?_) (fun e => ?_)⟩
      · have md := mod_in (Bz / 6) (show (0 : Int) < (N : Int) by omega)
        obtain ⟨k, ek⟩ := nat_of md.1
        refine ⟨_, rfl, _, _, rfl, rfl, ⟨by decide, by decide⟩, _, rfl, _, _, rfl, rfl, (show (0 : Int) < (N : Int) by omega), ?_⟩
        dsimp only [gName]
        rw [ek]
        exact ⟨some k, fun d hd => by cases hd; omega, rfl, rfl⟩
      · exact ⟨none, fun d hd => (by cases hd), rfl, rfl⟩
    rintro σ' H3 ⟨sd', hsd, rfl, rfl⟩
    have ps : (0 : Int) < (S : Int) := by omega
    have pn : (0 : Int) < (N : Int) := by omega
    have q0 := mod_in A ps
    have q1 := mod_in (A / 3) pn
    have q2 := mod_in (A / 12) ps
    have q3 := mod_in (A / 36) pn
    obtain ⟨k0, e0⟩ := nat_of q0.1
    obtain ⟨k1, e1⟩ := nat_of q1.1
    obtain ⟨k2, e2⟩ := nat_of q2.1
    obtain ⟨k3, e3⟩ := nat_of q3.1
    refine ⟨_, rfl, _, rfl, _, _, rfl, rfl, ps, ?_⟩
    refine ⟨_, rfl, _, _, rfl, rfl, ⟨by decide, by decide⟩, _, rfl, _, _, rfl, rfl, pn, ?_⟩
    refine ⟨_, rfl, _, _, rfl, rfl, ⟨by decide, by decide⟩, _, rfl, _, _, rfl, rfl, ps, ?_⟩
    refine ⟨_, rfl, _, _, rfl, rfl, ⟨by decide, by decide⟩, _, rfl, _, _, rfl, rfl, pn, ?_⟩
    refine ⟨_, rfl, sz (by decide), fun l nl => ⟨szc 6, fun t nt => ?_⟩⟩
    dsimp only [gName]
    rw [e0, e1, e2, e3]
    have s4 := same_new (o := HO.lst []) nl
    have eo4 := s4 _ _ eo
    have fitm : (MvT.mk k0 k1 k2 k3 sd' []).Fit S N := ⟨(by show k0 < S; omega), (by show k1 < N; omega), (by show k2 < S; omega), (by show k3 < N; omega), hsd, ⟨.nil, fun p hp => (by cases hp), fun p hp => (by cases hp), fun p hp => (by cases hp)⟩⟩
    have dl : Dp K (Ho o (upd H3 l (.lst []))) (.ref l) (.list ([].map shD)) := dpo_newL eo nl .nil
    have dt : Dp K (Ho o (upd (upd H3 l (.lst [])) t (.tup [nV k0, nV k1, nV k2, nV k3, sdV sd', .ref l]))) (.ref t) (MvT.mk k0 k1 k2 k3 sd' []).data := dpo_newT eo4 nt (.cons (.int _) (.cons (.int _) (.cons (.int _) (.cons (.int _) (.cons (sd_dp _) (.cons dl .nil))))))
    have s5 := same_new (o := HO.tup [nV k0, nV k1, nV k2, nV k3, sdV sd', .ref l]) nt
    have eo5 := s5 _ _ eo4
    have dms5 := dpAll_mono ((ho_same s4).trans (ho_same s5)) dms
    have s35 := s3.trans (s4.trans s5)
    generalize upd (upd H3 l (.lst [])) t (.tup [nV k0, nV k1, nV k2, nV k3, sdV sd', .ref l]) = H5 at dt eo5 dms5 s35 ⊢
    have nc1 := mv0_nc fitm rfl (by omega) (by omega)
    have ncl := NcL.lst (mvs0_nc (S := S) (P := N) (by omega) (by omega) (ms := ms) fit)
    refine ⟨_, rfl, _, rfl, _, _, dp_mono ho_out dt, .lst (sq eo5) (dpAll_mono ho_out dms5), nc1.shaped (by decide), ncl.shaped (by decide), _, rfl, ?_⟩
    cases hany : ((ms.map MvT.data).any fun z => PyData.eqv z (MvT.mk k0 k1 k2 k3 sd' []).data) with
    | true =>
      refine iteF ⟨_, _, _, _, _, ms, xs, rfl, s35, eo5, by omega, fun _ => ?_, dms5, fit, nd⟩
      cases ms with
      | nil => cases hany
      | cons a r => exact Nat.succ_le_succ (Nat.zero_le _)
    | false =>
      refine iteT ⟨_, rfl, .inl ⟨rfl, _, sq eo5⟩, _, rfl, o, _, _, rfl, rfl, eo5, szl (by omega), ?_⟩
      have hni : MvT.mk k0 k1 k2 k3 sd' [] ∉ ms := fun hm => eqv_anyG hany nc1.eqv (List.mem_map_of_mem hm)
      refine ⟨_, _, _, _, _, ms ++ [MvT.mk k0 k1 k2 k3 sd' []], xs ++ [.ref t], rfl, Same.mut s35 no, upd_same, by rw [List.length_append, List.length_singleton]; omega, fun _ => by rw [List.length_append, List.length_singleton]; omega, ?_, ?_, ?_⟩
      · rw [List.map_append]
        exact dpa_app (dpAll_mono ho_mut dms5) (.cons (dp_mono ho_mut dt) .nil)
      · intro x hx
        rcases List.mem_append.mp hx with hx | hx
        · exact fit x hx
        · rw [List.mem_singleton.mp hx]; exact ⟨fitm, rfl⟩
      · refine List.nodup_append.mpr ⟨nd, List.pairwise_singleton _ _, fun x hx y hy e => ?_⟩
        rw [List.mem_singleton.mp hy] at e
        rw [e] at hx
        exact hni hx
  · rintro σ' H3 ⟨y7, y8, y9, y10, y11, ms, xs, rfl, s3, eo, ml, mp, dms, fit, nd⟩
    have ps : (0 : Int) < (S : Int) := by omega
    have pn : (0 : Int) < (N : Int) := by omega
    obtain ⟨k3, e3⟩ := nat_of (mod_in (ds.getD 3 0) pn).1
    obtain ⟨k4, e4⟩ := nat_of (mod_in (ds.getD 4 0) ps).1
    obtain ⟨k5, e5⟩ := nat_of (mod_in (ds.getD 5 0) pn).1
    have b3 := mod_in (ds.getD 3 0) pn
    have b4 := mod_in (ds.getD 4 0) ps
    have b5 := mod_in (ds.getD 5 0) pn
    have v3 := mod_in (ds.getD 3 0 / 4) (show (0 : Int) < 3 by decide)
    refine ⟨szc 1, fun p2 n2 => ⟨_, rfl, p2, _, _, rfl, rfl, upd_same, by omega, by omega, sz (by show 1 * N ≤ _; omega), fun p3 n3 => ?_⟩⟩
    dsimp only [gName]
    rw [rep_one, show ((N : Int)).toNat = N from rfl, rep_map]
    have s4 := (same_new (o := HO.lst [V.int 0]) n2).trans (same_new (o := HO.lst ((List.replicate N (0 : Int)).map V.int)) n3)
    have e43 : (upd (upd H3 p2 (.lst [.int 0])) p3 (.lst ((List.replicate N (0 : Int)).map V.int))) p3 = some (.lst ((List.replicate N (0 : Int)).map V.int)) := upd_same
    have n33 : H3 p3 = none := (same_new n2).free n3
    generalize upd (upd H3 p2 (.lst [.int 0])) p3 (.lst ((List.replicate N (0 : Int)).map V.int)) = H4 at s4 e43 ⊢
    have sd4 := (s3.trans s4).seq sd2
    refine ⟨_, rfl, _, _, _, _, rfl, rfl, sd4, at_gd (j := 3) rfl (by omega), _, _, rfl, rfl, ⟨by decide, by decide⟩, _, _, rfl, rfl, (by show (0 : Int) < 3; decide), _, rfl, _, rfl, _, _, _, _, rfl, rfl, sd4, at_gd (j := 3) rfl (by omega), _, rfl, _, _, rfl, rfl, pn, p3, _, _, k3, rfl, rfl, e43, ?_, ?_⟩
    · rw [e3]
      exact ixN_nat (by rw [List.length_map, List.length_replicate]; omega)
    rw [set_int]
    have s5 : Same H3 (upd H4 p3 (.lst (((List.replicate N (0 : Int)).set k3 (ds.getD 3 0 / 4 % 3)).map V.int))) := Same.mut s4 n33
    have e5c : (upd H4 p3 (.lst (((List.replicate N (0 : Int)).set k3 (ds.getD 3 0 / 4 % 3)).map V.int))) p3 = some (.lst (((List.replicate N (0 : Int)).set k3 (ds.getD 3 0 / 4 % 3)).map V.int)) := upd_same
    have lc : ((List.replicate N (0 : Int)).set k3 (ds.getD 3 0 / 4 % 3)).length = N := by rw [List.length_set, List.length_replicate]
    have hc : ∀ c ∈ (List.replicate N (0 : Int)).set k3 (ds.getD 3 0 / 4 % 3), 0 ≤ c ∧ c < 3 := fun c hc => by
      rcases List.mem_or_eq_of_mem_set hc with h | rfl
      · rw [List.eq_of_mem_replicate h]; decide
      · exact v3
    generalize (List.replicate N (0 : Int)).set k3 (ds.getD 3 0 / 4 % 3) = cs at s5 e5c lc hc ⊢
    generalize upd H4 p3 (.lst (cs.map V.int)) = H5 at s5 e5c ⊢
    have sd5 := (s3.trans s5).seq sd2
    refine ⟨_, rfl, _, rfl, _, rfl, _, _, _, _, rfl, rfl, sd5, at_gd (j := 4) rfl (by omega), _, rfl, _, _, rfl, rfl, ps, _, rfl, szc 2, fun t1 nt1 => ?_⟩
    have s6 := same_new (o := HO.tup [V.int (ds.getD 4 0 % (S : Int)), .ref p3]) nt1
    refine ⟨_, rfl, _, _, _, _, rfl, rfl, s6.seq sd5, at_gd (j := 5) rfl (by omega), _, rfl, _, _, rfl, rfl, pn, _, rfl, szc 5, fun t2 nt2 => ?_⟩
    dsimp only at nt2 ⊢
    rw [e4] at s6 nt2 ⊢
    rw [e5]
    have s7 := same_new (o := HO.tup [nV S, nV N, .ref t1, nV k5, .ref o]) nt2
    have sit : Sit K (upd (upd H5 t1 (.tup [.int (k4 : Int), .ref p3])) t2 (.tup [nV S, nV N, .ref t1, nV k5, .ref o])) (.ref t1) (k4 : Int) cs := ⟨t1, p3, rfl, st (s7 _ _ upd_same), sq (s7 _ _ (s6 _ _ e5c))⟩
    have s57 := s5.trans (s6.trans s7)
    refine q _ _ (MT.mk S N k4 cs k5 ms) (s02.trans (s3.trans s57)) (.tup (st upd_same) (.cons (.int _) (.cons (.int _) (.cons (sit_dp sit) (.cons (.int _) (.cons (.lst (sq (s57 _ _ eo)) (dpAll_mono (ho_out.trans s57) dms)) .nil)))))) ?_ ?_
    · refine ⟨hS.1, hS.2, n1, n8, (by show k4 < S; omega), lc, hc, (by show k5 < N; omega), mp (by omega), (by show ms.length ≤ 8; omega), fun m hm => (fit m hm).1, nd⟩
    · exact fun m hm => (fit m hm).2
end
/-! ### bounds of counts after a move -/
def Bd (B : Int) (cs : List (Option Int)) : Prop := ∀ c ∈ cs, ∀ i, c = some i → -B ≤ i ∧ i ≤ B
theorem Bd.mono {B C : Int} {cs : List (Option Int)} (h : Bd B cs) (hB : B ≤ C) : Bd C cs := fun c hc i e => by have := h c hc i e; omega
theorem Bd.chg {B : Int} {cs : List (Option Int)} (hB : 0 ≤ B) (h : Bd B cs) {p : Option Nat × Int} (hp : -1 ≤ p.2 ∧ p.2 ≤ 1) : Bd (B + 1) (chgO cs p) := by
  unfold chgO
  split
  · exact h.mono (by omega)
  · rename_i k _
    unfold bumpO
    intro c hc i e
    rcases List.mem_or_eq_of_mem_set hc with hc | rfl
    · have := h c hc i e; omega
    · cases e0 : cs.getD k none with
      | none => rw [e0] at e; cases e
      | some j =>
        rw [e0] at e
        have e1 : j + p.2 = i := Option.some.inj e
        by_cases hk : k < cs.length
        · have := h _ (gdO_mem hk) j e0
          omega
        · rw [List.getD_eq_getElem?_getD, List.getElem?_eq_none (by omega)] at e0
          cases e0
theorem Bd.aft {B : Int} {cs : List (Option Int)} (hB : 0 ≤ B) (h : Bd B cs) (m : MvT) : Bd (B + 3) (m.aftW cs) := by
  have a := h.chg hB (p := (some m.pl, -1)) ⟨by show (-1 : Int) ≤ -1; decide, by show (-1 : Int) ≤ 1; decide⟩
  have b := a.chg (by omega) (p := (some m.np, 1)) ⟨by show (-1 : Int) ≤ 1; decide, by show (1 : Int) ≤ 1; decide⟩
  have c := b.chg (by omega) (p := (m.sd, 1)) ⟨by show (-1 : Int) ≤ 1; decide, by show (1 : Int) ≤ 1; decide⟩
  exact c.mono (by omega)
theorem os_ncB {B : Int} (hB : B < 10 ^ 6) {m : Nat} : ∀ {ns : List (Option Int)}, Bd B ns → NcL (ns.map oD) ns.length m
  | [], _ => NcL.nil
  | n :: ns, h => by
    have := NcL.cons (m := m) (c1 := 1) (d := oD n) (by
      cases n with
      | none => exact ⟨rfl, Nat.le_refl _, Nat.zero_le _⟩
      | some i => exact NcD.int (by have := h _ List.mem_cons_self i rfl; omega)) (os_ncB hB fun x hx => h x (List.mem_cons_of_mem _ hx))
    rw [List.length_cons, Nat.add_comm]
    exact this
theorem wsit_ncB {B : Int} (hB : B < 10 ^ 6) {m : Nat} {s : Int} {ns : List (Option Int)} (hs : s.natAbs < 1000) (h : Bd B ns) : NcD (wsitD s ns) (ns.length + 3) (m + 2) := by
  have := ((NcL.cons (NcD.int (i := s) (m := m + 1) (by omega)) (NcL.cons (os_ncB (m := m) hB h).lst (NcL.nil (c := 0))))).tup
  exact this.mono (by omega) (Nat.le_refl _)
theorem rows_nc {S N top : Nat} (hS : S ≤ 100) (ht : top ≤ 50) : ∀ {rs : List Wn}, (∀ r ∈ rs, WOk S N top r) → NcL (rs.map wD) ((N + 3) * rs.length) 2
  | [], _ => NcL.nil
  | r :: rs, h => by
    obtain ⟨h1, h2, h3, h4⟩ := h r List.mem_cons_self
    have a : NcD (wD r) (N + 3) 2 := by
      have := wsit_ncB (B := 50) (m := 0) (s := r.1) (ns := r.2) (by decide) (by omega) (fun c hc i e => by have := h4 c hc i e; omega)
      rw [h1] at this
      exact this
    exact (NcL.cons a (rows_nc hS ht fun x hx => h x (List.mem_cons_of_mem _ hx))).mono (by rw [List.length_cons, Nat.mul_succ]; omega) (Nat.le_refl _)
section
variable {P : Program} {w : World} {K : PySem.W.Frag} {mg : Str → Option Value} {base : Heap}
abbrev s_law : Stmt := topS 17
theorem sc_law : FnScope ["script", "machine", "count", "rows", "kept", "row", "index", "move", "situation", "due", "told", "again"] ["script"] (defScope s_law) := ⟨rfl, rfl, rfl, by decide +kernel, rfl, by decide +kernel, by decide +kernel⟩
-- law slots: script=0 machine=1 count=2 rows=3 kept=4 row=5 index=6 move=7 situation=8 due=9 told=10 again=11 globals: _law_machine _law_cell len _law_wide_some repr range _law_wide_after _law_told isinstance tuple list
def spLaw (K : PySem.W.Frag) : Sp := fun vs H Q _ => ∃ (a : Addr) (ns : List Int), vs = [.ref a] ∧ SqL K H a (ns.map V.int) ∧ ns.length ≤ 63 ∧ ∀ H', Q (.bl true) H'
set_option maxHeartbeats 4000000 in
theorem fd_law {f : Addr} {fd : FuncData} (F : Fun K "law" "law" s_law f fd) (m : mg "law" = some (.ref f)) (bind : ∀ (s : Shared) (v : Value), BindsTo s fd ⟨[v], []⟩ [("script", v)]) (B : Bt mg)
    (D_law_cell : Fd P w K mg base "_law_cell" ["script", "k"] 1 (spCellP K)) (D_law_machine : Fd P w K mg base "_law_machine" ["first", "second"] 2 (spWMach K)) (D_law_wide_some : Fd P w K mg base "_law_wide_some" ["cell", "states", "places", "many", "most"] 2 (spWSome K))
    (D_law_wide_after : Fd P w K mg base "_law_wide_after" ["situation", "move"] 1 (spLWA K)) (D_law_told : Fd P w K mg base "_law_told" ["machine", "situation", "index"] 3 (spTold K)) :
    TopOk P w K mg base f (spLaw K) := by
  refine top_ok (k := 4) F sc_law (by refine ⟨rfl, ?_, ?_⟩ <;> decide +kernel) bind fun cdv s H a Q hr h => ?_
  obtain ⟨a1, ns, ea, hs, hl, q⟩ := h
  cases ea
  refine ⟨_, (pss_cons (ps_set (i := 1) sc_law.nd rfl (Or.inl rfl) (pe_fn D_law_machine (hr.mono (by decide)) rfl (pa_cons (pe_fn D_law_cell (hr.mono (by decide)) rfl (pa_cons (pv 0) (pa_cons pe_int pa_nil))) (pa_cons (pe_fn D_law_cell (hr.mono (by decide)) rfl (pa_cons (pv 0) (pa_cons pe_int pa_nil))) pa_nil))))
 (pss_cons (ps_set (i := 2) sc_law.nd rfl (Or.inl rfl) (pe_callB (cLen K) (by rfl) B.len PySem.boot_len (pa_cons (pe_ix (ixT K) (pv 1) pe_int (fun _ _ => rfl)) pa_nil)))
 (pss_cons (ps_set (i := 3) sc_law.nd rfl (Or.inl rfl) (pe_fn D_law_wide_some (hr.mono (by decide)) rfl (pa_cons (pe_fn D_law_cell (hr.mono (by decide)) rfl (pa_cons (pv 0) (pa_cons pe_int pa_nil))) (pa_cons (pe_ix (ixT K) (pv 1) pe_int (fun _ _ => rfl)) (pa_cons (pe_ix (ixT K) (pv 1) pe_int (fun _ _ => rfl)) (pa_cons pe_int (pa_cons pe_int pa_nil)))))))
 (pss_cons (ps_set (i := 4) sc_law.nd rfl (Or.inl rfl) (pe_callB (cRepr K rfl hr.units) (by rfl) B.repr (by decide +kernel) (pa_cons (pe_lst (pa_cons (pv 1) (pa_cons (pv 3) pa_nil))) pa_nil)))
 (pss_cons (ps_for PassesOwn.never rfl (piL K (pv 3)) (pg_name (i := 5) sc_law.nd rfl (Or.inl rfl))
 (pss_cons (ps_for PassesOwn.never rfl (pi_range1 rfl B.range (pa_cons (pv 2) pa_nil)) (pg_name (i := 6) sc_law.nd rfl (Or.inl rfl))
 (pss_cons (ps_set (i := 7) sc_law.nd rfl (Or.inl rfl) (pe_ix (ixL K) (pe_ix (ixT K) (pv 1) pe_int (fun _ _ => rfl)) (pv 6) (fun _ _ => rfl)))
 (pss_one (ps_for PassesOwn.never rfl (piL K (pe_lst (pa_cons (pv 5) (pa_cons (pe_tup (pa_cons (pe_ix (ixT K) (pv 7) pe_int (fun _ _ => rfl)) (pa_cons (pe_ix (ixT K) (pv 5) pe_int (fun _ _ => rfl)) pa_nil))) pa_nil)))) (pg_name (i := 8) sc_law.nd rfl (Or.inl rfl))
 (pss_cons (ps_set (i := 9) sc_law.nd rfl (Or.inl rfl) (pe_fn D_law_wide_after (hr.mono (by decide)) rfl (pa_cons (pv 8) (pa_cons (pv 7) pa_nil))))
 (pss_cons (ps_set (i := 10) sc_law.nd rfl (Or.inl rfl) (pe_fn D_law_told (hr.mono (by decide)) rfl (pa_cons (pv 1) (pa_cons (pv 8) (pa_cons (pv 6) pa_nil)))))
 (pss_cons (ps_if (PW.pt (pw_and (pt_cmpR op_isN (pv 9) pe_non (nomark _)) (pw_and1 (pt_cmpR op_ne (pv 10) pe_str (nomark _)))))
 (pss_one (ps_ret pe_bl))
 pss_nil)
 (pss_one (ps_if (pt_cmpR op_notN (pv 9) pe_non (nomark _))
 (pss_cons (ps_if (PW.pt (pw_or (pt_not (pt_val (pe_callB (cIsi K) (by rfl) B.isinstance (by decide +kernel) (pa_cons (pv 10) (pa_cons (pe_bltn (v := .ty "tuple") (by rfl) B.tuple (by decide +kernel) rfl) pa_nil))))) (pw_or (pt_not (pt_val (pe_callB (cIsi K) (by rfl) B.isinstance (by decide +kernel) (pa_cons (pe_ix (ixQ K) (pv 10) pe_int (fun _ _ => rfl)) (pa_cons (pe_bltn (v := .ty "list") (by rfl) B.list (by decide +kernel) rfl) pa_nil))))) (pw_or1 (pt_cmpR (opNeD K hr.units) (pv 10) (pv 9) (nomark _))))))
 (pss_one (ps_ret pe_bl))
 pss_nil)
 (pss_cons (ps_set (i := 11) sc_law.nd rfl (Or.inl rfl) (pe_fn D_law_told (hr.mono (by decide)) rfl (pa_cons (pv 1) (pa_cons (pv 8) (pa_cons (pv 6) pa_nil)))))
 (pss_cons (ps_expr (peBm K PySem.F.plainAttrs_list PySem.F.slot_list_append PySem.F.type_list_append mt_append (pe_ix (ixQ K) (pv 10) pe_int (fun _ _ => rfl)) (pa_cons pe_int pa_nil)))
 (pss_one (ps_if (PW.pt (pw_or (pt_cmpR (opNeD K hr.units) (pv 11) (pv 9) (nomark _)) (pw_or1 (pt_cmpR op_ne (pe_callB (cRepr K rfl hr.units) (by rfl) B.repr (by decide +kernel) (pa_cons (pe_lst (pa_cons (pv 1) (pa_cons (pv 3) pa_nil))) pa_nil)) (pv 4) (nomark _)))))
 (pss_one (ps_ret pe_bl))
 pss_nil)))))
 pss_nil)))))))))
 (pss_one (ps_if (PW.pt (pw_or (pt_cmpR op_ne (pe_fn D_law_told (hr.mono (by decide)) rfl (pa_cons (pv 1) (pa_cons (pv 5) (pa_cons (pe_op op_add (pv 2) (pe_op op_mod (pe_fn D_law_cell (hr.mono (by decide)) rfl (pa_cons (pv 0) (pa_cons pe_int pa_nil))) pe_int)) pa_nil)))) pe_str (nomark _)) (pw_or1 (pt_cmpR op_ne (pe_fn D_law_told (hr.mono (by decide)) rfl (pa_cons (pv 1) (pa_cons (pv 5) (pa_cons (pe_op op_sub (pe_un un_neg pe_int) (pe_op op_mod (pe_fn D_law_cell (hr.mono (by decide)) rfl (pa_cons (pv 0) (pa_cons pe_int pa_nil))) pe_int)) pa_nil)))) pe_str (nomark _)))))
 (pss_one (ps_ret pe_bl))
 pss_nil))))
 (pss_one (ps_ret (pe_cmpR op_eq (pe_callB (cRepr K rfl hr.units) (by rfl) B.repr (by decide +kernel) (pa_cons (pe_lst (pa_cons (pv 1) (pa_cons (pv 3) pa_nil))) pa_nil)) (pv 4) (nomark _))))))))), ?_⟩
  refine ⟨_, rfl, a, ns, 0, rfl, hs, fun z0 hz0 => ⟨_, rfl, a, ns, 1, rfl, hs, fun z1 hz1 => ⟨z0, z1, rfl, hz0, hz1, fun H1 v M s1 dM ok sh0 => ?_⟩⟩⟩
  dsimp only [gName]
  have p2 := ok.p2
  have s2' := ok.s2
  obtain ⟨am, sv, ma, xm, rfl, ham, hsit, hma, hxm⟩ := dp_mt dM
  have xml := dpa_map_len hxm
  refine ⟨_, rfl, _, _, _, _, rfl, rfl, ham, atI_nat (j := 4) rfl, ma, _, rfl, .inl hma, ?_⟩
  dsimp only [gName]
  refine ⟨_, rfl, a, ns, 2, rfl, s1.seq hs, fun z2 hz2 => ⟨_, rfl, _, _, _, _, rfl, rfl, ham, atI_nat (j := 0) rfl, _, rfl, _, _, _, _, rfl, rfl, ham, atI_nat (j := 1) rfl, z2, M.states, M.places, 6, 2, rfl, hz2, ok.s1, by omega, by decide, by decide, fun H2 pr xr rs s2 npr er dr lr okr => ?_⟩⟩
  dsimp only [gName]
  have dM2 := dp_mono s2 dM
  have dR2 : Dp K H2 (.ref pr) (.list (rs.map wD)) := .lst (sq er) (dpAll_mono ho_out dr)
  have ham2 := Same.seqT s2 ham
  have hma2 := s2.seq hma
  have hxm2 := dpAll_mono s2 hxm
  have hs2 := (s1.trans s2).seq hs
  have dr2 := dpAll_mono ho_out dr
  clear ham hma hxm hsit dr dM
  have shw : Shw (.list [M.data, .list (rs.map wD)]) := ((NcL.cons (mt0_nc ok sh0 (by decide)) (NcL.cons (((rows_nc (by omega) (by decide) okr).mono (Nat.le_refl _) (show 2 ≤ 4 by decide)).lst) (NcL.nil (c := 0)))).lst).shw (by
    have : (M.places + 3) * rs.length ≤ 11 * 6 := Nat.mul_le_mul (by omega) (by omega)
    omega) (by decide)
  refine ⟨_, rfl, _, rfl, szc 2, fun p np => ⟨p, _, rfl, .lst (sq upd_same) (.cons (dp_mono (same_new np) dM2) (.cons (dp_mono (same_new np) dR2) .nil)), shw.sh, shw.nd, shw.de, shw.ln, ?_⟩⟩
  dsimp only [gName]
  have sk := same_new (o := HO.lst [V.ref am, V.ref pr]) np
  generalize hkept : (PyData.list [M.data, .list (rs.map wD)]).shown = kept at *
  refine ⟨_, rfl, pr, rfl, ⟨_, sk.seq (sq er)⟩, for_list (xs := xr) (fun i σ' H' => ∃ y5 y6 y7 y8 y9 y10 y11 : Option V, σ' = [some (.ref a), some (.ref am), some (.int ((xm.length : Nat) : Int)), some (.ref pr), some (.str kept), y5, y6, y7, y8, y9, y10, y11] ∧ Same H2 H') ⟨_, _, _, _, _, _, _, rfl, sk⟩ ?_ ?_ ?_⟩
  · rintro i σ' H' _ ⟨y5, y6, y7, y8, y9, y10, y11, rfl, sm⟩
    exact sm.seq (sq er)
  · rintro i x σ' Ha hx ⟨y5, y6, y7, y8, y9, y10, y11, rfl, sm⟩
    obtain ⟨r, hr', dx⟩ := dpa_map_at dr2 hx
    have okx := okr r (List.mem_of_getElem? hr')
    obtain ⟨k1, k2, k3, k4⟩ := okx
    have wx := dp_wsit dx
    obtain ⟨xa, xc, rfl, hxa, hxc⟩ := id wx
    dsimp only [gName]
    have xl : xm.length = M.moves.length := xml
    refine ⟨_, rfl, xm.length, rfl, by have := ok.ml; omega, by have := ok.ml; omega, for_range (lo := 0) (n := xm.length) (fun j σ' H' => ∃ y6 y7 y8 y9 y10 y11 : Option V, σ' = [some (.ref a), some (.ref am), some (.int ((xm.length : Nat) : Int)), some (.ref pr), some (.str kept), some (.ref xa), y6, y7, y8, y9, y10, y11] ∧ Same H2 H') ⟨_, _, _, _, _, _, rfl, sm⟩ ?_ ?_⟩
    · rintro j σ' Hb hj ⟨y6, y7, y8, y9, y10, y11, rfl, smb⟩
      have hz : (0 : Int) + (j : Int) = (j : Int) := by omega
      have hmv : M.moves[j]? = some (M.moves[j]'(by omega)) := List.getElem?_eq_getElem (by omega)
      generalize M.moves[j]'(by omega) = mv at hmv
      obtain ⟨mvv, hv, dv⟩ := dpa_map_at' hxm2 hmv
      have fit := ok.fit mv (List.mem_of_getElem? hmv)
      have sh := sh0 mv (List.mem_of_getElem? hmv)
      rw [← k1] at fit
      obtain ⟨ma1, sa1, xs1, rfl, hmv1, _, _⟩ := dp_mv dv
      dsimp only [gName]
      refine ⟨_, rfl, _, _, _, _, rfl, rfl, Same.seqT smb ham2, atI_nat (j := 4) rfl, _, rfl, _, _, _, _, rfl, rfl, smb.seq hma2, at_n hz hv, ?_⟩
      dsimp only [gName]
      rw [hz]
      refine ⟨_, rfl, _, rfl, _, _, _, _, rfl, rfl, Same.seqT smb hmv1, atI_nat (j := 0) rfl, _, rfl, _, _, _, _, rfl, rfl, Same.seqT smb hxa, atI_nat (j := 1) rfl, szc 2, fun t nt => ⟨szc 2, fun l nl => ?_⟩⟩
      have sc1 := (same_new (o := HO.tup [nV mv.st, V.ref xc]) nt).trans (same_new (o := HO.lst [V.ref xa, V.ref t]) nl)
      have sc2 := smb.trans sc1
      have el : (upd (upd Hb t (.tup [nV mv.st, .ref xc])) l (.lst [.ref xa, .ref t])) l = some (.lst [.ref xa, .ref t]) := upd_same
      have et : (upd (upd Hb t (.tup [nV mv.st, .ref xc])) l (.lst [.ref xa, .ref t])) t = some (.tup [nV mv.st, .ref xc]) := (same_new nl) _ _ upd_same
      generalize upd (upd Hb t (.tup [nV mv.st, .ref xc])) l (.lst [.ref xa, .ref t]) = Hc at sc1 sc2 el et ⊢
      refine ⟨l, rfl, ⟨_, sq el⟩, for_list (xs := [.ref xa, .ref t]) (fun i σ' H' => ∃ y8 y9 y10 y11 : Option V, σ' = [some (.ref a), some (.ref am), some (.int ((xm.length : Nat) : Int)), some (.ref pr), some (.str kept), some (.ref xa), some (nV j), some (.ref ma1), y8, y9, y10, y11] ∧ Same Hc H') ⟨_, _, _, _, rfl, Same.refl _⟩ ?_ ?_ ?_⟩
      · rintro i σ' H' _ ⟨y8, y9, y10, y11, rfl, sx⟩
        exact sx.seq (sq el)
      · rintro i x σ' Hd hx ⟨y8, y9, y10, y11, rfl, sx⟩
        -- the situation
        obtain ⟨s, xw, hs0, hs1⟩ : ∃ s : Int, WSit K Hc x s r.2 ∧ 0 ≤ s ∧ s < 100 := by
          match i, hx with
          | 0, hx => cases hx; exact ⟨r.1, Same.wsit sc2 wx, k2, by omega⟩
          | 1, hx => cases hx; exact ⟨(mv.st : Int), ⟨t, xc, rfl, st et, sc2.seq hxc⟩, by omega, by have := fit.st; omega⟩
        have nn : ∀ c ∈ r.2, ∀ i, c = some i → 0 ≤ i := fun c hc i e => (k4 c hc i e).1
        have bd : Bd 2 r.2 := fun c hc i e => by have := k4 c hc i e; omega
        have sd := sc2.trans sx
        dsimp only [gName]
        refine ⟨_, rfl, _, rfl, x, _, s, r.2, mv, M.states, rfl, Same.wsit sx xw, dp_mono sd dv, fit, nn, fun hc => ?_, fun hc => ?_⟩
        · -- not possible
          intro He se
          dsimp only [gName]
          have sde := sx.trans se
          refine ⟨_, rfl, _, rfl, _, rfl, .ref am, x, M, _, s, r.2, rfl, dp_mono (sc2.trans sde) dM2, Same.wsit sde xw, .inl ⟨j, mv, rfl, hmv, sh, fit, (fun z => by rw [hc] at z; cases z), fun _ Hf sf => ?_⟩⟩
          dsimp only [gName]
          refine ⟨_, rfl, rfl, _, rfl, iteTx rfl ⟨_, rfl, rfl, _, rfl, ?_⟩⟩
          rw [neM]
          refine iteF ⟨_, rfl, rfl, _, rfl, iteFx rfl ?_⟩
          exact ⟨_, _, _, _, rfl, sde.trans sf⟩
        · -- possible
          intro He p1 se nw1
          dsimp only [gName]
          have sde := sx.trans se
          refine ⟨_, rfl, _, rfl, _, rfl, .ref am, x, M, _, s, r.2, rfl, dp_mono (sc2.trans sde) dM2, Same.wsit sde xw, .inl ⟨j, mv, rfl, hmv, sh, fit, (fun _ Hf p2 sf nw2 => ?_), fun z => by rw [hc] at z; cases z⟩⟩
          dsimp only [gName]
          obtain ⟨c1, n1a, n1b, n1c, e1, e1c⟩ := nw1
          obtain ⟨c2, n2a, n2b, n2c, e2, e2c⟩ := nw2
          have w1 : WSit K Hf (.ref p1) mv.ns (mv.aftW r.2) := ⟨p1, c1, rfl, st (sf _ _ e1), sq (sf _ _ e1c)⟩
          have w2 : WSit K Hf (.ref p2) mv.ns (mv.aftW r.2) := ⟨p2, c2, rfl, st e2, sq e2c⟩
          have nc := wsit_ncB (m := 0) (s := (mv.ns : Int)) (ns := mv.aftW r.2) (B := 2 + 3) (by decide) (by have := fit.ns; omega) (bd.aft (by decide) mv)
          refine ⟨_, rfl, rfl, _, rfl, iteFx rfl (iteF ?_)⟩
          refine ⟨_, rfl, rfl, _, rfl, iteTx rfl ?_⟩
          refine orM (ans_not (ansIsi (T := "tuple") (b := true) (fun Q q => ⟨_, rfl, q⟩) (.base (.tup e2)) (by decide +kernel))) ?_
          refine orM (ans_not (ansIsi (T := "list") (b := true) (fun Q q => ⟨_, rfl, .inr (.inl ⟨_, _, _, _, rfl, rfl, st e2, atI_nat (j := 1) rfl, q⟩)⟩) (.base (.lst e2c)) (by decide +kernel))) ?_
          refine ⟨_, rfl, _, rfl, _, _, wsit_dp w2, wsit_dp w1, nc.shaped (by decide), nc.shaped (by decide), _, rfl, iteFx (nvM nc.eqv) ?_⟩
          have sdf := sde.trans sf
          refine ⟨_, rfl, _, rfl, _, rfl, .ref am, x, M, _, s, r.2, rfl, dp_mono (sc2.trans sdf) dM2, Same.wsit sdf xw, .inl ⟨j, mv, rfl, hmv, sh, fit, (fun _ Hg p3 sg nw3 => ?_), fun z => by rw [hc] at z; cases z⟩⟩
          dsimp only [gName]
          obtain ⟨c3, n3a, n3b, n3c, e3, e3c⟩ := nw3
          have e2g := sg _ _ e2
          have e2cg := sg _ _ e2c
          refine ⟨_, rfl, .inr (.inl ⟨_, _, _, _, rfl, rfl, st e2g, atI_nat (j := 1) rfl, .inl ⟨rfl, _, sq e2cg⟩, c2, _, _, rfl, rfl, e2cg, szl (by rw [List.length_map, aftW_len, k1]; omega), ?_⟩)⟩
          have n2H : H2 c2 = none := ((sc2.trans sx).trans se).free n2b
          have n2c' : Hc c2 = none := (sx.trans se).free n2b
          have ne1 : p1 ≠ c2 := fun e => by rw [← e, e1] at n2b; cases n2b
          have ne1c : c1 ≠ c2 := fun e => by rw [← e, e1c] at n2b; cases n2b
          have ne3 : p3 ≠ c2 := fun e => by rw [e, e2c] at n3a; cases n3a
          have ne3c : c3 ≠ c2 := fun e => by rw [e, e2c] at n3b; cases n3b
          have sgx : Same Hc (upd Hg c2 (.lst ((mv.aftW r.2).map oV ++ [.int 5]))) := Same.mut (sdf.trans sg) n2c'
          have w1' : WSit K (upd Hg c2 (.lst ((mv.aftW r.2).map oV ++ [.int 5]))) (.ref p1) mv.ns (mv.aftW r.2) := ⟨p1, c1, rfl, st (by rw [upd_ne ne1]; exact sg _ _ (sf _ _ e1)), sq (by rw [upd_ne ne1c]; exact sg _ _ (sf _ _ e1c))⟩
          have w3' : WSit K (upd Hg c2 (.lst ((mv.aftW r.2).map oV ++ [.int 5]))) (.ref p3) mv.ns (mv.aftW r.2) := ⟨p3, c3, rfl, st (by rw [upd_ne ne3]; exact e3), sq (by rw [upd_ne ne3c]; exact e3c)⟩
          refine ⟨_, rfl, _, rfl, _, _, wsit_dp w3', wsit_dp w1', nc.shaped (by decide), nc.shaped (by decide), _, rfl, iteFx (nvM nc.eqv) ?_⟩
          have s2x := sc2.trans sgx
          refine ⟨_, rfl, _, rfl, szc 2, fun p' np' => ⟨p', _, rfl, .lst (sq upd_same) (.cons (dp_mono (s2x.trans (same_new np')) dM2) (.cons (dp_mono (s2x.trans (same_new np')) dR2) .nil)), shw.sh, shw.nd, shw.de, shw.ln, _, rfl, rfl, _, rfl, ?_⟩⟩
          rw [hkept, neM]
          refine iteF ?_
          exact ⟨_, _, _, _, rfl, sgx.trans (same_new np')⟩
      · rintro σ' H' ⟨y8, y9, y10, y11, rfl, sx⟩
        exact ⟨_, _, _, _, _, _, rfl, sc2.trans sx⟩
    · rintro σ' Hb ⟨y6, y7, y8, y9, y10, y11, rfl, smb⟩
      have wxb := Same.wsit smb wx
      have dMb := dp_mono smb dM2
      refine ⟨_, rfl, _, rfl, _, rfl, _, rfl, a, ns, 3, rfl, smb.seq hs2, fun z3 hz3 => ⟨_, _, rfl, rfl, (by show (0 : Int) < 4; decide), _, _, rfl, rfl, ?_⟩⟩
      have m4 := mod_in z3 (show (0 : Int) < 4 by decide)
      refine ⟨.ref am, .ref xa, M, _, r.1, r.2, rfl, dMb, wxb, .inr ⟨.inr (by omega), fun Hc sc => ⟨rfl, _, rfl, ?_⟩⟩⟩
      rw [neM]
      refine iteF ?_
      have smc := smb.trans sc
      refine ⟨_, rfl, _, rfl, _, rfl, _, rfl, a, ns, 3, rfl, smc.seq hs2, fun z4 hz4 => ⟨_, _, rfl, rfl, (by show (0 : Int) < 1000; decide), _, _, rfl, rfl, ?_⟩⟩
      have m5 := mod_in z4 (show (0 : Int) < 1000 by decide)
      refine ⟨.ref am, .ref xa, M, _, r.1, r.2, rfl, dp_mono smc dM2, Same.wsit smc wx, .inr ⟨.inl (by omega), fun Hd sd => ⟨rfl, _, rfl, ?_⟩⟩⟩
      rw [neM]
      refine iteF ?_
      exact ⟨_, _, _, _, _, _, _, rfl, smc.trans sd⟩
  · rintro σ' H' ⟨y5, y6, y7, y8, y9, y10, y11, rfl, sm⟩
    refine ⟨_, rfl, _, rfl, szc 2, fun p' np' => ⟨p', _, rfl, .lst (sq upd_same) (.cons (dp_mono (sm.trans (same_new np')) dM2) (.cons (dp_mono (sm.trans (same_new np')) dR2) .nil)), shw.sh, shw.nd, shw.de, shw.ln, _, rfl, rfl, ?_⟩⟩
    rw [hkept, decide_eq_true rfl]
    exact q _
end
theorem all_mk {l : PySem.W.OpenLaw} {w : World} {K : PySem.W.Frag} {h : Heap} {mg : Str → Option Value} {fa f1 f2 f3 f4 f5 f6 f7 f8 f9 f10 f11 : Addr} (X : K.In h) (G : h.Ns mainGlobals mg) (hfa : mg "law" = some (.ref fa))
    {od1 an1 od2 an2 od3 an3 od4 an4 od5 an5 od6 an6 od7 an7 od8 an8 od9 an9 od10 an10 od11 an11 : Option Addr} {sl1 sl2 sl3 sl4 sl5 sl6 sl7 sl8 sl9 sl10 sl11 : Array (Option Value)} {oc1 kV1 dc1 pm1 cd1 ct1 oc2 kV2 dc2 pm2 cd2 ct2 oc3 kV3 dc3 pm3 cd3 ct3 oc4 kV4 dc4 pm4 cd4 ct4 oc5 kV5 dc5 pm5 cd5 ct5 oc6 kV6 dc6 pm6 cd6 ct6 oc7 kV7 dc7 pm7 cd7 ct7 oc8 kV8 dc8 pm8 cd8 ct8 oc9 kV9 dc9 pm9 cd9 ct9 oc10 kV10 dc10 pm10 cd10 ct10 oc11 kV11 dc11 pm11 cd11 ct11 : Value}
    (a1 : PySem.W.nsIn K mainGlobals "move_at" = some (some (.ref f1))) (l1 : K.lookup f1 = some ⟨oc1, od1, .func (PySem.W.fnOf "move_at" "move_at" (defArgs s_move_at) (defBody s_move_at) (defScope s_move_at) .none kV1 dc1 pm1 an1 cd1 ct1), sl1⟩) (c1 : PySem.W.codeIn K cd1 "move_at" = true) (k1 : PySem.W.keepIn K (.ref f1) = true)
    (a2 : PySem.W.nsIn K mainGlobals "can_take_wide" = some (some (.ref f2))) (l2 : K.lookup f2 = some ⟨oc2, od2, .func (PySem.W.fnOf "can_take_wide" "can_take_wide" (defArgs s_can_take_wide) (defBody s_can_take_wide) (defScope s_can_take_wide) .none kV2 dc2 pm2 an2 cd2 ct2), sl2⟩) (c2 : PySem.W.codeIn K cd2 "can_take_wide" = true) (k2 : PySem.W.keepIn K (.ref f2) = true)
    (a3 : PySem.W.nsIn K mainGlobals "taken_wide" = some (some (.ref f3))) (l3 : K.lookup f3 = some ⟨oc3, od3, .func (PySem.W.fnOf "taken_wide" "taken_wide" (defArgs s_taken_wide) (defBody s_taken_wide) (defScope s_taken_wide) .none kV3 dc3 pm3 an3 cd3 ct3), sl3⟩) (c3 : PySem.W.codeIn K cd3 "taken_wide" = true) (k3 : PySem.W.keepIn K (.ref f3) = true)
    (a4 : PySem.W.nsIn K mainGlobals "wide_after" = some (some (.ref f4))) (l4 : K.lookup f4 = some ⟨oc4, od4, .func (PySem.W.fnOf "wide_after" "wide_after" (defArgs s_wide_after) (defBody s_wide_after) (defScope s_wide_after) .none kV4 dc4 pm4 an4 cd4 ct4), sl4⟩) (c4 : PySem.W.codeIn K cd4 "wide_after" = true) (k4 : PySem.W.keepIn K (.ref f4) = true)
    (a5 : PySem.W.nsIn K mainGlobals "_law_cell" = some (some (.ref f5))) (l5 : K.lookup f5 = some ⟨oc5, od5, .func (PySem.W.fnOf "_law_cell" "_law_cell" (defArgs s_law_cell) (defBody s_law_cell) (defScope s_law_cell) .none kV5 dc5 pm5 an5 cd5 ct5), sl5⟩) (c5 : PySem.W.codeIn K cd5 "_law_cell" = true) (k5 : PySem.W.keepIn K (.ref f5) = true)
    (a6 : PySem.W.nsIn K mainGlobals "_law_digits" = some (some (.ref f6))) (l6 : K.lookup f6 = some ⟨oc6, od6, .func (PySem.W.fnOf "_law_digits" "_law_digits" (defArgs s_law_digits) (defBody s_law_digits) (defScope s_law_digits) .none kV6 dc6 pm6 an6 cd6 ct6), sl6⟩) (c6 : PySem.W.codeIn K cd6 "_law_digits" = true) (k6 : PySem.W.keepIn K (.ref f6) = true)
    (a7 : PySem.W.nsIn K mainGlobals "_law_machine" = some (some (.ref f7))) (l7 : K.lookup f7 = some ⟨oc7, od7, .func (PySem.W.fnOf "_law_machine" "_law_machine" (defArgs s_law_machine) (defBody s_law_machine) (defScope s_law_machine) .none kV7 dc7 pm7 an7 cd7 ct7), sl7⟩) (c7 : PySem.W.codeIn K cd7 "_law_machine" = true) (k7 : PySem.W.keepIn K (.ref f7) = true)
    (a8 : PySem.W.nsIn K mainGlobals "_law_wide_after" = some (some (.ref f8))) (l8 : K.lookup f8 = some ⟨oc8, od8, .func (PySem.W.fnOf "_law_wide_after" "_law_wide_after" (defArgs s_law_wide_after) (defBody s_law_wide_after) (defScope s_law_wide_after) .none kV8 dc8 pm8 an8 cd8 ct8), sl8⟩) (c8 : PySem.W.codeIn K cd8 "_law_wide_after" = true) (k8 : PySem.W.keepIn K (.ref f8) = true)
    (a9 : PySem.W.nsIn K mainGlobals "_law_wide_some" = some (some (.ref f9))) (l9 : K.lookup f9 = some ⟨oc9, od9, .func (PySem.W.fnOf "_law_wide_some" "_law_wide_some" (defArgs s_law_wide_some) (defBody s_law_wide_some) (defScope s_law_wide_some) .none kV9 dc9 pm9 an9 cd9 ct9), sl9⟩) (c9 : PySem.W.codeIn K cd9 "_law_wide_some" = true) (k9 : PySem.W.keepIn K (.ref f9) = true)
    (a10 : PySem.W.nsIn K mainGlobals "_law_told" = some (some (.ref f10))) (l10 : K.lookup f10 = some ⟨oc10, od10, .func (PySem.W.fnOf "_law_told" "_law_told" (defArgs s_law_told) (defBody s_law_told) (defScope s_law_told) .none kV10 dc10 pm10 an10 cd10 ct10), sl10⟩) (c10 : PySem.W.codeIn K cd10 "_law_told" = true) (k10 : PySem.W.keepIn K (.ref f10) = true)
    (a11 : PySem.W.nsIn K mainGlobals "law" = some (some (.ref f11))) (l11 : K.lookup f11 = some ⟨oc11, od11, .func (PySem.W.fnOf "law" "law" (defArgs s_law) (defBody s_law) (defScope s_law) .none kV11 dc11 pm11 an11 cd11 ct11), sl11⟩) (c11 : PySem.W.codeIn K cd11 "law" = true) (k11 : PySem.W.keepIn K (.ref f11) = true)
    {CL CO CN : Addr}
    (xgL : PySem.W.nsIn K mainGlobals "LegionError" = some (some (.ref CL))) (xxL : PySem.W.excIn K CL [.type "ValueError", .type "Exception", .type "BaseException", .type "object"] "ValueError.__new__" = true) (xkL : PySem.W.keepIn K (.ref CL) = true) (xtL : PySem.W.typeIn K (.ref CL) = some (.type "type")) (xiL : PySem.W.isClsIn K CL = true) (xsL : PySem.W.subIn K (.ref CL) (.ref CL) = some true) (xvL : PySem.W.subIn K (.ref CL) (.type "ValueError") = some true) (xaL : PySem.W.findIn K (.ref CL) "__getattribute__" = some (some (.builtin "BaseException.__getattribute__"))) (xbL : PySem.W.findIn K (.ref CL) "__getattr__" = some none) (xcL : PySem.W.subIn K (.ref CL) (.type "BaseException") = some true) (xdL : PySem.W.hasDictIn K CL = true) (xeL : PySem.W.findIn K (.ref CL) "__class__" = some (some (.builtin "object.__class__"))) (xmL : PySem.W.mroIn K CL (.type "object") = some true) (xgO : PySem.W.nsIn K mainGlobals "OutOfRange" = some (some (.ref CO))) (xxO : PySem.W.excIn K CO [.type "ValueError", .type "Exception", .type "BaseException", .type "object"] "ValueError.__new__" = true) (xkO : PySem.W.keepIn K (.ref CO) = true) (xtO : PySem.W.typeIn K (.ref CO) = some (.type "type")) (xiO : PySem.W.isClsIn K CO = true) (xsO : PySem.W.subIn K (.ref CO) (.ref CO) = some true) (xvO : PySem.W.subIn K (.ref CO) (.type "ValueError") = some true) (xaO : PySem.W.findIn K (.ref CO) "__getattribute__" = some (some (.builtin "BaseException.__getattribute__"))) (xbO : PySem.W.findIn K (.ref CO) "__getattr__" = some none) (xcO : PySem.W.subIn K (.ref CO) (.type "BaseException") = some true) (xdO : PySem.W.hasDictIn K CO = true) (xeO : PySem.W.findIn K (.ref CO) "__class__" = some (some (.builtin "object.__class__"))) (xmO : PySem.W.mroIn K CO (.type "object") = some true) (xgN : PySem.W.nsIn K mainGlobals "NotPossible" = some (some (.ref CN))) (xxN : PySem.W.excIn K CN [.type "ValueError", .type "Exception", .type "BaseException", .type "object"] "ValueError.__new__" = true) (xkN : PySem.W.keepIn K (.ref CN) = true) (xtN : PySem.W.typeIn K (.ref CN) = some (.type "type")) (xiN : PySem.W.isClsIn K CN = true) (xsN : PySem.W.subIn K (.ref CN) (.ref CN) = some true) (xvN : PySem.W.subIn K (.ref CN) (.type "ValueError") = some true) (xaN : PySem.W.findIn K (.ref CN) "__getattribute__" = some (some (.builtin "BaseException.__getattribute__"))) (xbN : PySem.W.findIn K (.ref CN) "__getattr__" = some none) (xcN : PySem.W.subIn K (.ref CN) (.type "BaseException") = some true) (xdN : PySem.W.hasDictIn K CN = true) (xeN : PySem.W.findIn K (.ref CN) "__class__" = some (some (.builtin "object.__class__"))) (xmN : PySem.W.mroIn K CN (.type "object") = some true)
    (xn : PySem.W.specialIn K (.builtin "object.__class__") "__get__" = some (some (.builtin "getset_descriptor.__get__"))) (xh : PySem.W.takesIn K (.builtin "object.__class__") = some true)
    (rOL : PySem.W.subIn K (.ref CO) (.ref CL) = some true) (rON : PySem.W.subIn K (.ref CO) (.ref CN) = some false) (rNL : PySem.W.subIn K (.ref CN) (.ref CL) = some true) (rNO : PySem.W.subIn K (.ref CN) (.ref CO) = some false)
    (z_len : PySem.W.nsIn K mainGlobals "len" = some none) (z_int : PySem.W.nsIn K mainGlobals "int" = some none) (z_abs : PySem.W.nsIn K mainGlobals "abs" = some none) (z_range : PySem.W.nsIn K mainGlobals "range" = some none) (z_min : PySem.W.nsIn K mainGlobals "min" = some none) (z_str : PySem.W.nsIn K mainGlobals "str" = some none) (z_isinstance : PySem.W.nsIn K mainGlobals "isinstance" = some none) (z_bool : PySem.W.nsIn K mainGlobals "bool" = some none) (z_dict : PySem.W.nsIn K mainGlobals "dict" = some none) (z_sum : PySem.W.nsIn K mainGlobals "sum" = some none) (z_list : PySem.W.nsIn K mainGlobals "list" = some none) (z_tuple : PySem.W.nsIn K mainGlobals "tuple" = some none) (z_repr : PySem.W.nsIn K mainGlobals "repr" = some none) (z_sorted : PySem.W.nsIn K mainGlobals "sorted" = some none) (z_enumerate : PySem.W.nsIn K mainGlobals "enumerate" = some none) (z_zip : PySem.W.nsIn K mainGlobals "zip" = some none) (z_all : PySem.W.nsIn K mainGlobals "all" = some none) (z_max : PySem.W.nsIn K mainGlobals "max" = some none) (z_set : PySem.W.nsIn K mainGlobals "set" = some none) (z_ValueError : PySem.W.nsIn K mainGlobals "ValueError" = some none) :
    ∀ base : Heap, K.In base → base.Ns mainGlobals mg → TopOk l.prog w K mg base fa (spLaw K) := by
  have e := hfa.symm.trans (PySem.W.mg_of X G a11)
  cases e
  have F1 := fun_mk (st := s_move_at) l1 c1 k1
  have F2 := fun_mk (st := s_can_take_wide) l2 c2 k2
  have F3 := fun_mk (st := s_taken_wide) l3 c3 k3
  have F4 := fun_mk (st := s_wide_after) l4 c4 k4
  have F5 := fun_mk (st := s_law_cell) l5 c5 k5
  have F6 := fun_mk (st := s_law_digits) l6 c6 k6
  have F7 := fun_mk (st := s_law_machine) l7 c7 k7
  have F8 := fun_mk (st := s_law_wide_after) l8 c8 k8
  have F9 := fun_mk (st := s_law_wide_some) l9 c9 k9
  have F10 := fun_mk (st := s_law_told) l10 c10 k10
  have F11 := fun_mk (st := s_law) l11 c11 k11
  have B : Bt mg := { len := PySem.W.mg_none_of X G z_len, int := PySem.W.mg_none_of X G z_int, abs := PySem.W.mg_none_of X G z_abs, range := PySem.W.mg_none_of X G z_range, min := PySem.W.mg_none_of X G z_min, str := PySem.W.mg_none_of X G z_str, isinstance := PySem.W.mg_none_of X G z_isinstance, bool := PySem.W.mg_none_of X G z_bool, dict := PySem.W.mg_none_of X G z_dict, sum := PySem.W.mg_none_of X G z_sum, list := PySem.W.mg_none_of X G z_list, tuple := PySem.W.mg_none_of X G z_tuple, repr := PySem.W.mg_none_of X G z_repr, sorted := PySem.W.mg_none_of X G z_sorted, enumerate := PySem.W.mg_none_of X G z_enumerate, zip := PySem.W.mg_none_of X G z_zip, all := PySem.W.mg_none_of X G z_all, max := PySem.W.mg_none_of X G z_max, set := PySem.W.mg_none_of X G z_set, ValueError := PySem.W.mg_none_of X G z_ValueError }
  have XL : ExcX K mg "LegionError" CL := ⟨PySem.W.mg_of X G xgL, xxL, xkL, xtL, xiL, xsL, xvL, ⟨xaL, xbL, xcL, xdL, xeL, xn, xh, xmL⟩⟩
  have XO : ExcX K mg "OutOfRange" CO := ⟨PySem.W.mg_of X G xgO, xxO, xkO, xtO, xiO, xsO, xvO, ⟨xaO, xbO, xcO, xdO, xeO, xn, xh, xmO⟩⟩
  have XN : ExcX K mg "NotPossible" CN := ⟨PySem.W.mg_of X G xgN, xxN, xkN, xtN, xiN, xsN, xvN, ⟨xaN, xbN, xcN, xdN, xeN, xn, xh, xmN⟩⟩
  intro base _ _
  have D_move_at := fd_move_at (P := l.prog) (w := w) (base := base) F1 (PySem.W.mg_of X G a1) B
  have D_can_take_wide := fd_can_take_wide (P := l.prog) (w := w) (base := base) F2 (PySem.W.mg_of X G a2) B
  have D_taken_wide := fd_taken_wide (P := l.prog) (w := w) (base := base) F3 (PySem.W.mg_of X G a3) B
  have D_wide_after := fd_wide_after (P := l.prog) (w := w) (base := base) F4 (PySem.W.mg_of X G a4) D_move_at D_can_take_wide D_taken_wide
  have DX_move_at := fdX_move_at (P := l.prog) (w := w) (base := base) F1 (PySem.W.mg_of X G a1) B XO
  have DX_wide_after := fdX_wide_after (P := l.prog) (w := w) (base := base) F4 (PySem.W.mg_of X G a4) B XN DX_move_at D_move_at D_can_take_wide
  have D_law_cell := fd_law_cell (P := l.prog) (w := w) (base := base) F5 (PySem.W.mg_of X G a5) B
  have D_law_digits := fd_law_digits (P := l.prog) (w := w) (base := base) F6 (PySem.W.mg_of X G a6) B
  have D_law_machine := fd_law_machine (P := l.prog) (w := w) (base := base) F7 (PySem.W.mg_of X G a7) B D_law_digits
  have D_law_wide_after := fd_law_wide_after (P := l.prog) (w := w) (base := base) F8 (PySem.W.mg_of X G a8) B
  have D_law_wide_some := fd_law_wide_some (P := l.prog) (w := w) (base := base) F9 (PySem.W.mg_of X G a9) B D_law_digits
  have D_law_told := fd_law_told (P := l.prog) (w := w) (base := base) F10 (PySem.W.mg_of X G a10) B XL XO XN rOL rON rNL rNO D_wide_after DX_wide_after
  exact fd_law F11 (PySem.W.mg_of X G a11) (fun s v => .of_eq rfl) B D_law_cell D_law_machine D_law_wide_some D_law_wide_after D_law_told
end My
open PySem PySem.W PyProof.Rows
set_option maxRecDepth 100000 in
set_option maxHeartbeats 0 in
theorem PySem.Challenge.cw_legion_k51_wide_moves_holds : PySem.Challenge.rw_legion_k51_wide_moves.Holds := by
  w_on; o_law; k_head; (case hw => w_witness2)
  k_fill
  refine My.walk_top (l := PySem.Challenge.rw_legion_k51_wide_moves) (n := 63) (sp := fun w => My.spLaw _) rfl (by decide) rfl (fun w h Y => PySem.W.kIn_of Y) ?F (fun _ _ a ns hl hS => ⟨a, ns, rfl, hS, hl, fun _ => rfl⟩)
  case F =>
    intro w mg fa h KX G hmg
    refine' My.all_mk KX G hmg ?a1 ?l1 ?c1 ?k1 ?a2 ?l2 ?c2 ?k2 ?a3 ?l3 ?c3 ?k3 ?a4 ?l4 ?c4 ?k4 ?a5 ?l5 ?c5 ?k5 ?a6 ?l6 ?c6 ?k6 ?a7 ?l7 ?c7 ?k7 ?a8 ?l8 ?c8 ?k8 ?a9 ?l9 ?c9 ?k9 ?a10 ?l10 ?c10 ?k10 ?a11 ?l11 ?c11 ?k11 ?xgL ?xxL ?xkL ?xtL ?xiL ?xsL ?xvL ?xaL ?xbL ?xcL ?xdL ?xeL ?xmL ?xgO ?xxO ?xkO ?xtO ?xiO ?xsO ?xvO ?xaO ?xbO ?xcO ?xdO ?xeO ?xmO ?xgN ?xxN ?xkN ?xtN ?xiN ?xsN ?xvN ?xaN ?xbN ?xcN ?xdN ?xeN ?xmN ?xn ?xh ?rOL ?rON ?rNL ?rNO ?z_len ?z_int ?z_abs ?z_range ?z_min ?z_str ?z_isinstance ?z_bool ?z_dict ?z_sum ?z_list ?z_tuple ?z_repr ?z_sorted ?z_enumerate ?z_zip ?z_all ?z_max ?z_set ?z_ValueError
    (case xgL => k_is)
    (case xxL => k_exc)
    (case xkL => k_is)
    (case xtL => k_is)
    (case xiL => k_is)
    (case xsL => k_is)
    (case xvL => k_is)
    (case xaL => k_is)
    (case xbL => k_is)
    (case xcL => k_is)
    (case xdL => k_is)
    (case xeL => k_is)
    (case xmL => k_is)
    (case xgO => k_is)
    (case xxO => k_exc)
    (case xkO => k_is)
    (case xtO => k_is)
    (case xiO => k_is)
    (case xsO => k_is)
    (case xvO => k_is)
    (case xaO => k_is)
    (case xbO => k_is)
    (case xcO => k_is)
    (case xdO => k_is)
    (case xeO => k_is)
    (case xmO => k_is)
    (case xgN => k_is)
    (case xxN => k_exc)
    (case xkN => k_is)
    (case xtN => k_is)
    (case xiN => k_is)
    (case xsN => k_is)
    (case xvN => k_is)
    (case xaN => k_is)
    (case xbN => k_is)
    (case xcN => k_is)
    (case xdN => k_is)
    (case xeN => k_is)
    (case xmN => k_is)
    (case xn => k_is)
    (case xh => k_is)
    (case rOL => k_is)
    (case rON => k_is)
    (case rNL => k_is)
    (case rNO => k_is)
    (case a1 => k_is); (case l1 => k_is); (case c1 => k_is); (case k1 => k_is)
    (case a2 => k_is); (case l2 => k_is); (case c2 => k_is); (case k2 => k_is)
    (case a3 => k_is); (case l3 => k_is); (case c3 => k_is); (case k3 => k_is)
    (case a4 => k_is); (case l4 => k_is); (case c4 => k_is); (case k4 => k_is)
    (case a5 => k_is); (case l5 => k_is); (case c5 => k_is); (case k5 => k_is)
    (case a6 => k_is); (case l6 => k_is); (case c6 => k_is); (case k6 => k_is)
    (case a7 => k_is); (case l7 => k_is); (case c7 => k_is); (case k7 => k_is)
    (case a8 => k_is); (case l8 => k_is); (case c8 => k_is); (case k8 => k_is)
    (case a9 => k_is); (case l9 => k_is); (case c9 => k_is); (case k9 => k_is)
    (case a10 => k_is); (case l10 => k_is); (case c10 => k_is); (case k10 => k_is)
    (case a11 => k_is); (case l11 => k_is); (case c11 => k_is); (case k11 => k_is)
    (case z_len => k_is); (case z_int => k_is); (case z_abs => k_is); (case z_range => k_is); (case z_min => k_is); (case z_str => k_is); (case z_isinstance => k_is); (case z_bool => k_is); (case z_dict => k_is); (case z_sum => k_is); (case z_list => k_is); (case z_tuple => k_is); (case z_repr => k_is); (case z_sorted => k_is); (case z_enumerate => k_is); (case z_zip => k_is); (case z_all => k_is); (case z_max => k_is); (case z_set => k_is); (case z_ValueError => k_is)
